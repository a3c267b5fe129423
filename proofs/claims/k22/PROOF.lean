import PyProof.Rows.All
import Wide.All
import OpenK.AllK
import Wide.FinOn
import Lean
import PyProof.EqAt
import PyProof.EqKinds
import PyProof.TupleCall
import KE.KUnpack
import PySem.Challenge.RW_ballrockers_k22_doors_word
set_option Elab.async false
set_option linter.all false
set_option genSizeOf false
set_option maxRecDepth 100000
def vaa:=@PySem.wpAny_bind
def vab:=@List.length_map
def vac:=@Bool.and_eq_true
def vad:=@PySem.Heap.get?_push_of_some
def vae:=@Nat.le_refl
def vaf:=@PySem.wpAny_pure
def vag:=@List.length_append
def vah:=@List.length_cons
def vai:=@List.size_toArray
def vaj:=@List.mem_cons_of_mem
def vak:=@Nat.lt_of_lt_of_le
def vam:=@Bool.false_eq_true
def van:=@Option.map_some
def vao:=@List.map_cons
def vap:=@List.mem_cons_self
def vaq:=@List.getElem?_cons_succ
def vas:=@List.set_cons_zero
def vat:=@PySem.Heap.lt_size
def vau:=@List.set_cons_succ
def vav:=@List.getElem?_cons_zero
def vaw:=@PySem.Heap.get?_push_size
namespace L2
open PySem PySem.Spec PyProof.Rows
noncomputable abbrev Key:=Sum Int Str
noncomputable def keyIs:Key→Value→Bool
 | .inl k,v=>Value.isInt k v
 | .inr x,v=>Value.isStrOf x v
noncomputable def keyH (w:World):Key→Int
 | .inl k=>hashInt k
 | .inr x=>hashStr w x
theorem zax:∀ {k:Key} {v:Value},keyIs k v=true→(∃ i t,k=Sum.inl i∧v=Value.int i t)∨(∃ x t,k=Sum.inr x∧v=Value.str x t)
 | .inl i,v,h=>by
  obtain ⟨t,e⟩:=Value.isInt_shape (k:=i) (v:=v) h
  exact .inl ⟨i,t,rfl,e⟩
 | .inr x,v,h=>by
  obtain ⟨t,e⟩:=Value.isStrOf_shape (x:=x) (v:=v) h
  exact .inr ⟨x,t,rfl,e⟩
theorem zln (i:Int) (t:Tok):keyIs (.inl i) (.int i t)=true:=by simp [keyIs,Value.isInt]
theorem zlo (x:Str) (t:Tok):keyIs (.inr x) (.str x t)=true:=by simp [keyIs,Value.isStrOf]
theorem zt6 (a b:Int):decide ((Sum.inl a:Key)=Sum.inl b)=(a == b):=by
 by_cases e:a=b
 ·subst e; simp
 ·have h:¬ (Sum.inl a:Key)=Sum.inl b:=fun q=>e (Sum.inl.inj q)
  rw [decide_eq_false h]
  exact (beq_eq_false_iff_ne.mpr e).symm
theorem zt7 (a b:Str):decide ((Sum.inr a:Key)=Sum.inr b)=decide (a=b):=by
 by_cases e:a=b
 ·subst e; simp
 ·have h:¬ (Sum.inr a:Key)=Sum.inr b:=fun q=>e (Sum.inr.inj q)
  rw [decide_eq_false h,decide_eq_false e]
theorem zt8 (a:Int) (b:Str):decide ((Sum.inl a:Key)=Sum.inr b)=false:=decide_eq_false (fun q=>nomatch q)
theorem zt9 (a:Str) (b:Int):decide ((Sum.inr a:Key)=Sum.inl b)=false:=decide_eq_false (fun q=>nomatch q)
noncomputable def za1 (prog:Program) (w:World):PySem.KeyKind prog w Key where
 is:=keyIs
 hash:=keyH w
 inj:=fun v a b ha hb=>by
  rcases zax ha with ⟨i,t,rfl,rfl⟩ | ⟨x,t,rfl,rfl⟩
  ·rcases zax hb with ⟨j,u,rfl,e⟩ | ⟨y,u,rfl,e⟩
   ·injection e with e1 _; rw [e1]
   ·exact nomatch e
  ·rcases zax hb with ⟨j,u,rfl,e⟩ | ⟨y,u,rfl,e⟩
   ·exact nomatch e
   ·injection e with e1 _; rw [e1]
 byValue:=fun k v h=>by
  rcases zax h with ⟨i,t,rfl,rfl⟩ | ⟨x,t,rfl,rfl⟩ <;> rfl
 pyHash:=fun hv h=>by
  rcases zax hv with ⟨i,t,rfl,rfl⟩ | ⟨x,t,rfl,rfl⟩
  ·exact wpAny_pyHash_int h
  ·exact wpAny_pyHash_str h
 eqBool:=fun hu hv h=>by
  rcases zax hu with ⟨i,t,rfl,rfl⟩ | ⟨x,t,rfl,rfl⟩
  ·rcases zax hv with ⟨j,u,rfl,rfl⟩ | ⟨y,u,rfl,rfl⟩
   ·rw [zt6] at h; exact wpAny_eqBool_int h
   ·rw [zt8] at h; exact SeqAt.EqAt.int_str i t y u _ _ _ _ h
  ·rcases zax hv with ⟨j,u,rfl,rfl⟩ | ⟨y,u,rfl,rfl⟩
   ·rw [zt9] at h; exact SeqAt.EqAt.str_int x t j u _ _ _ _ h
   ·rw [zt7] at h; exact wpAny_eqBool_str h
 «strs»:=fun k x t v h=>by
  rcases zax h with ⟨i,u,rfl,e⟩ | ⟨y,u,rfl,e⟩
  ·exact nomatch e
  ·injection e with e1 _
   subst e1
   cases v <;> rfl
theorem zil (prog:Program) (w:World) (i:Int) (t:Tok):(za1 prog w).is (.inl i) (.int i t)=true:=zln i t
theorem zim (prog:Program) (w:World) (x:Str) (t:Tok):(za1 prog w).is (.inr x) (.str x t)=true:=zlo x t
inductive V where
 | non | bl (b:Bool) | int (i:Int) | str (x:Str) | byt (b:Array UInt8) | flt (b:UInt64) | ref (a:Addr) | ty (n:String)
 deriving DecidableEq
noncomputable def RelV:V→Value→Prop
 | .non,u=>u=Value.none
 | .bl b,u=>u=Value.bool b
 | .int i,u=>∃ t,u=Value.int i t
 | .str x,u=>∃ t,u=Value.str x t
 | .byt b,u=>∃ t,u=Value.bytes b t
 | .flt b,u=>∃ t,u=Value.float b t
 | .ref a,u=>u=Value.ref a
 | .ty n,u=>u=Value.type n
noncomputable abbrev Vals:List V→List Value→Prop:=Paired RelV
theorem Vals.length {xs:List V} {us:List Value} (r:Vals xs us):xs.length=us.length:=Paired.length r
theorem Vals.get:∀ {xs:List V} {us:List Value} {i:Nat} {x:V},Vals xs us→xs[i]?=some x→∃ u,us[i]?=some u∧RelV x u
 | _,_,_,_,.nil,e=>by simp at e
 | _,_,0,_,.cons r _,e=>by simp at e; subst e; exact ⟨_,rfl,r⟩
 | _,_,i + 1,x,.cons _ t,e=>by
  obtain ⟨u,h1,h2⟩:=Vals.get (i:=i) (x:=x) t (by simpa using e)
  exact ⟨u,by simpa using h1,h2⟩
theorem Vals.set {x:V} {u:Value} (r:RelV x u):∀ {xs:List V} {us:List Value} (i:Nat),Vals xs us→Vals (xs.set i x) (us.set i u)
 | _,_,_,.nil=>.nil
 | _,_,0,.cons _ t=>.cons r t
 | _,_,i + 1,.cons q t=>.cons q (Vals.set r i t)
theorem Vals.append:∀ {xs ys:List V} {us ws:List Value},Vals xs us→Vals ys ws→Vals (xs++ys) (us++ws)
 | _,_,_,_,.nil,s=>s
 | _,_,_,_,.cons r t,s=>.cons r (Vals.append t s)
theorem Vals.take:∀ {xs:List V} {us:List Value} (n:Nat),Vals xs us→Vals (xs.take n) (us.take n)
 | _,_,0,_=>.nil
 | _,_,_ + 1,.nil=>.nil
 | _,_,n + 1,.cons r t=>.cons r (Vals.take n t)
theorem Vals.drop:∀ {xs:List V} {us:List Value} (n:Nat),Vals xs us→Vals (xs.drop n) (us.drop n)
 | _,_,0,r=>r
 | _,_,_ + 1,.nil=>.nil
 | _,_,n + 1,.cons _ t=>Vals.drop n t
noncomputable def RelO:Option V→Option Value→Prop
 | some v,some u=>RelV v u
 | none,none=>True
 | _,_=>False
noncomputable def KV {κ:Type}:List (κ × V)→List (κ × Value)→Prop:=Paired fun (p:κ × V) (q:κ × Value)=>p.1=q.1∧RelV p.2 q.2
noncomputable def kV:Key→V
 | .inl i=>.int i
 | .inr x=>.str x
inductive HO where
 /-- a list -/
 | lst (xs:List V)
 /-- a tuple (never changes) -/
 | tup (xs:List V)
 /-- a dict whose keys are ints and texts; one whose keys are tuples of ints and texts (the empty one is both) -/
 | dK (kvs:List (Key × V)) | dT (kvs:List (List Key × V))
 /-- a set of ints: its members,its size -/
 | set (S:Int→Bool) (n:Nat)
 /-- an instance of the class at C,its dict at dx,its attributes -/
 | ins (C dx:Addr) (fs:List (Str × V))
 /-- the dict of the instance at x -/
 | own (x:Addr)
 /-- the dict of an exception -/
 | xd (fs:List (Str × V))
 /-- a bound method,f of x -/
 | met (f x:Addr)
 /-- a range object lo,lo + 1,.. below hi -/
 | rng (lo hi:Int)
 /-- a thing that is known to the object (the script; a dict while a loop walks it): read,never written while it is so -/
 | frz (o:Obj) (u:HO)
 /-- a code object's table -/
 | tbl (ps:Array Value)
 /-- any other thing,by what is true of its one object (a def of one's own: SetO a S n:=HO.ext fun h=>..) -/
 | ext (φ:Heap→Prop)
noncomputable abbrev Hp:=Addr→Option HO
noncomputable def upd (H:Hp) (a:Addr) (o:HO):Hp:=fun b=>if b=a then some o else H b
theorem zap {H:Hp} {a:Addr} {o:HO}:upd H a o a=some o:=by unfold upd; rw [if_pos rfl]
theorem zah {H:Hp} {a b:Addr} {o:HO} (h:b≠a):upd H a o b=H b:=by unfold upd; rw [if_neg h]
theorem ne_of {H:Hp} {a b:Addr} {o u:HO} (h:H a=some o) (h':H b=some u) (d:o≠u):a≠b:=by
 intro e; subst e; rw [h] at h'; exact d (Option.some.inj h')
theorem zaf {H:Hp} {a b:Addr} {o:HO} (h:H a=some o) (h':H b=none):a≠b:=by
 intro e; subst e; rw [h] at h'; cases h'
noncomputable def zbc (h:Heap) (a:Addr) (items:Array Value):Prop:=∃ o,h.get? a=some o∧o.cls=.type "tuple" ∧ (∃ n,o.data=.seq items n)∧o.dict=none
theorem zbc.tup {h:Heap} {a:Addr} {items:Array Value} (x:zbc h a items):IsTup h a items:=let ⟨o,e,c,d,_⟩:=x; ⟨o,e,c,d⟩
theorem zbc.lt {h:Heap} {a:Addr} {items:Array Value} (x:zbc h a items):a < h.objs.size:=x.tup.lt
theorem zbc.new (h:Heap) (items:Array Value):zbc (h.push { cls:=.type "tuple",data:=.seq items }) h.objs.size items:=⟨_,vaw _ rfl,rfl,⟨_,rfl⟩,rfl⟩
section
variable (P:Program) (w:World)
noncomputable def ObjOk (H:Hp) (h:Heap) (a:Addr):HO→Prop
 | .lst xs=>xs.length≤sizeLine∧∃ (its:List Value) (n:Nat),Vals xs its∧h.get? a=some { cls:=.type "list",data:=.seq its.toArray n }
 | .tup xs=>xs.length≤sizeLine∧∃ its:List Value,Vals xs its∧zbc h a its.toArray
 | .dK kvs=>kvs.length≤sizeLine∧(a == sysModules)=false∧∃ vs,KV kvs vs∧h.DictOf (za1 P w) a vs
 | .dT kvs=>kvs.length≤sizeLine∧(a == sysModules)=false∧∃ xs:List (List Key × Addr × Value),
  Paired (fun (p:List Key × V) (q:List Key × Addr × Value)=>p.1=q.1∧H q.2.1=some (.tup (p.1.map kV))∧RelV p.2 q.2.2) kvs xs ∧
  ∃ o es ep,h.get? a=some o∧o.ExactDict∧o.data=.dict es ep∧es.toList=xs.map (entryOfKey (tupleKind (za1 P w)))∧(xs.map (·.1)).Nodup
 | .set S n=>h.SetOf (intKind P w) a S n
 | .ins C dx fs=>H dx=some (.own a)∧fs.length≤1000∧dx≠a∧h.get? a=some (PySem.W.instObj C dx) ∧
  ∃ mA,h.Ns1 dx mA∧(∀ f,RelO (fs.lookup f) (mA f))∧PySem.Within mA (fs.map (·.1))
 | .own _=>∃ o,h.get? a=some o
 | .xd fs=>∃ mA,h.Ns1 a mA∧∀ f,RelO (fs.lookup f) (mA f)
 | .rng lo hi=>∃ t u v,h.get? a=some { cls:=.type "range",data:=.fields #[.int lo t,.int hi u,.int 1 v] }
 | .frz o u=>h.get? a=some o∧ObjOk H h a u
 | .tbl ps=>h.get? a=some { cls:=.none,data:=.fields ps }
 | .met f x=>h.get? a=some (PySem.W.methodObj (.ref f) (.ref x))
 | .ext φ=>φ h∧(∃ o,h.get? a=some o)∧∀ h1 h2:Heap,φ h1→(∀ o,h1.get? a=some o→h2.get? a=some o)→φ h2
noncomputable def HOk (H:Hp) (h:Heap):Prop:=∀ a o,H a=some o→ObjOk P w H h a o
end
section
variable {P:Program} {w:World} {H H':Hp} {h h':Heap} {a:Addr} {o:HO}
theorem ObjOk.lt (x:ObjOk P w H h a o):a < h.objs.size:=by
 cases o with
 | lst xs=>obtain ⟨_,_,_,_,e⟩:=x; exact vat e
 | tup xs=>obtain ⟨_,_,_,p⟩:=x; exact p.lt
 | dK kvs=>obtain ⟨_,_,_,_,o,_,_,e,_⟩:=x; exact vat e
 | dT kvs=>obtain ⟨_,_,_,_,o,_,_,e,_⟩:=x; exact vat e
 | set S n=>obtain ⟨o,_,_,_,e,_⟩:=x; exact vat e
 | ins C dx fs=>obtain ⟨_,_,_,e,_⟩:=x; exact vat e
 | own y=>obtain ⟨_,e⟩:=x; exact vat e
 | xd fs=>obtain ⟨_,⟨_,_,_,e,_⟩,_⟩:=x; exact vat e
 | rng lo hi=>obtain ⟨_,_,_,e⟩:=x; exact vat e
 | frz ob u=>obtain ⟨e,_⟩:=x; exact vat e
 | tbl ps=>exact vat (show h.get? a=some _ from x)
 | met f y=>exact vat (show h.get? a=some _ from x)
 | ext φ=>obtain ⟨_,⟨_,e⟩,_⟩:=x; exact vat e
theorem Paired.mapP {α β:Type} {F G:α→β→Prop}:∀ {l₁:List α} {l₂:List β},Paired F l₁ l₂→(∀ a b,F a b→G a b)→Paired G l₁ l₂
 | _,_,.nil,_=>.nil
 | _,_,.cons r t,f=>.cons (f _ _ r) (Paired.mapP t f)
theorem ObjOk.stay (x:ObjOk P w H h a o) (k:∀ b u,(b=a∨H b=some (.own a))→h.get? b=some u→h'.get? b=some u)
 (ho:∀ b,H b=some (.own a)→H' b=some (.own a)) (ht:∀ b xs,H b=some (.tup xs)→H' b=some (.tup xs)):ObjOk P w H' h' a o:=by
 induction o with
 | lst xs=>obtain ⟨z,its,n,r,e⟩:=x; exact ⟨z,its,n,r,k _ _ (.inl rfl) e⟩
 | tup xs=>obtain ⟨z,its,r,ob,e,c⟩:=x; exact ⟨z,its,r,ob,k _ _ (.inl rfl) e,c⟩
 | dK kvs=>obtain ⟨z,y,vs,r,ob,es,ep,e,c⟩:=x; exact ⟨z,y,vs,r,ob,es,ep,k _ _ (.inl rfl) e,c⟩
 | dT kvs=>
  obtain ⟨z,y,xs,r,ob,es,ep,e,c⟩:=x
  exact ⟨z,y,xs,Paired.mapP r fun p q z=>⟨z.1,ht _ _ z.2.1,z.2.2⟩,ob,es,ep,k _ _ (.inl rfl) e,c⟩
 | set S n=>obtain ⟨ob,es,ep,t,e,c⟩:=x; exact ⟨ob,es,ep,t,k _ _ (.inl rfl) e,c⟩
 | ins C dx fs=>
  obtain ⟨d,z,ne,e,mA,⟨od,es,ep,e2,c⟩,r⟩:=x
  exact ⟨ho _ d,z,ne,k _ _ (.inl rfl) e,mA,⟨od,es,ep,k _ _ (.inr d) e2,c⟩,r⟩
 | own y=>obtain ⟨ob,e⟩:=x; exact ⟨ob,k _ _ (.inl rfl) e⟩
 | xd fs=>obtain ⟨mA,⟨od,es,ep,e,c⟩,r⟩:=x; exact ⟨mA,⟨od,es,ep,k _ _ (.inl rfl) e,c⟩,r⟩
 | rng lo hi=>obtain ⟨t,u,v,e⟩:=x; exact ⟨t,u,v,k _ _ (.inl rfl) e⟩
 | frz ob u ih=>obtain ⟨e,q⟩:=x; exact ⟨k _ _ (.inl rfl) e,ih q⟩
 | tbl ps=>
  have e:h.get? a=some { cls:=.none,data:=.fields ps }:=x
  show h'.get? a=some { cls:=.none,data:=.fields ps }
  exact k a _ (.inl rfl) e
 | met f y=>
  have e:h.get? a=some (PySem.W.methodObj (.ref f) (.ref y)):=x
  show h'.get? a=some (PySem.W.methodObj (.ref f) (.ref y))
  exact k a _ (.inl rfl) e
 | ext φ=>obtain ⟨p,⟨o,e⟩,st⟩:=x; exact ⟨st _ _ p fun o q=>k _ _ (.inl rfl) q,⟨o,k _ _ (.inl rfl) e⟩,st⟩
theorem HOk.lt (x:HOk P w H h) (e:H a=some o):a < h.objs.size:=(x a o e).lt
theorem HOk.fresh (x:HOk P w H h) (e:h.objs.size≤a):H a=none:=by
 cases q:H a with
 | none=>rfl
 | some u=>exact absurd (vak (x.lt q) e) (Nat.lt_irrefl _)
theorem HOk.kept (x:HOk P w H h) (k:∀ b u,h.get? b=some u→h'.get? b=some u):HOk P w H h':=fun a o e=>
 (x a o e).stay (fun b u _ q=>k b u q) (fun _ q=>q) fun _ _ q=>q
theorem HOk.laid (x:HOk P w H h) (k:∀ b u,h.get? b=some u→h'.get? b=some u) (hp:h.objs.size≤a) (new:ObjOk P w (upd H a o) h' a o):HOk P w (upd H a o) h':=fun b u e=>by
 have hn:=x.fresh hp
 by_cases hb:b=a
 ·subst hb; rw [zap] at e; cases e; exact new
 ·rw [zah hb] at e
  exact (x b u e).stay (fun c v _ q=>k c v q) (fun c q=>by rw [zah (zaf q hn)]; exact q) fun c xs q=>by rw [zah (zaf q hn)]; exact q
end
noncomputable def Rd (H:Hp) (a:Addr) (u:HO):Prop:=H a=some u∨∃ o,H a=some (.frz o u)
theorem Rd.ok {P:Program} {w:World} {H:Hp} {h:Heap} {a:Addr} {u:HO} (r:Rd H a u) (x:HOk P w H h):ObjOk P w H h a u:=by
 rcases r with r | ⟨o,r⟩
 ·exact x a u r
 ·obtain ⟨_,q⟩:=x a _ r
  exact q
noncomputable def Mut:Option HO→Prop
 | some (.lst _)=>True
 | some (.dK _)=>True
 | some (.dT _)=>True
 | some (.set _ _)=>True
 | some (.ins _ _ _)=>True
 | some (.ext _)=>True
 | _=>False
section
variable {P:Program} {w:World} {H:Hp} {h h':Heap} {x e:Addr} {o':HO}
theorem HOk.write (ok:HOk P w H h) (mu:Mut (H x)) (he:e=x∨H e=some (.own x)) (k:∀ b u,b≠e→h.get? b=some u→h'.get? b=some u) (heo:∃ u,h'.get? e=some u)
 (new:ObjOk P w (upd H x o') h' x o'):HOk P w (upd H x o') h':=fun b u q=>by
 have nown:∀ c y,H c=some (.own y)→c≠x:=fun c y r z=>by subst z; rw [r] at mu; exact mu
 have ntup:∀ c xs,H c=some (.tup xs)→c≠x:=fun c xs r z=>by subst z; rw [r] at mu; exact mu
 by_cases hb:b=x
 ·subst hb; rw [zap] at q; cases q; exact new
 ·rw [zah hb] at q
  by_cases hbe:b=e
  ·have q':H b=some (.own x):=by
    rcases he with z | z
    ·exact absurd (hbe.trans z) hb
    ·rw [hbe]; exact z
   rw [q] at q'; cases q'
   obtain ⟨v,hv⟩:=heo
   exact ⟨v,by rw [hbe]; exact hv⟩
  ·refine (ok b u q).stay (fun c v hc r=>k c v ?_ r) (fun c r=>by rw [zah (nown c b r)]; exact r) fun c xs r=>by rw [zah (ntup c xs r)]; exact r
   rcases hc with rfl | hc
   ·exact hbe
   ·rintro rfl
    rcases he with z | z
    ·exact nown c b hc z
    ·rw [hc] at z; cases z; exact hb rfl
end
structure Un (fs ex:List Addr) (H H':Hp) (h h':Heap):Prop where
 keep:∀ b o,h.get? b=some o→H b=none→b∉fs→b∉ex→h'.get? b=some o
 slot:∀ b o,h.get? b=some o→H b=none→b∈fs→b∉ex→∃ sl,h'.get? b=some { o with slots:=sl }
 free:∀ b o,h.get? b=some o→H b=none→b∉ex→H' b=none
 there:∀ b o,h.get? b=some o→b∉ex→∃ o',h'.get? b=some o'
 tups:∀ b xs,H b=some (.tup xs)→H' b=some (.tup xs)
 frzs:∀ b o u,H b=some (.frz o u)→H' b=some (.frz o u)
 tbls:∀ b ps,H b=some (.tbl ps)→∃ more,H' b=some (.tbl (ps++more))
section
variable {fs fs' ex ex':List Addr} {H H1 H2:Hp} {h h1 h2 h':Heap} {a x e:Addr} {o:HO}
theorem Un.any (u:Un fs ex H H1 h h1) {b:Addr} {ob:Obj} (q:h.get? b=some ob) (n:H b=none) (hx:b∉ex):∃ sl,h1.get? b=some { ob with slots:=sl }:=by
 by_cases hb:b∈fs
 ·exact u.slot b ob q n hb hx
 ·exact ⟨ob.slots,u.keep b ob q n hb hx⟩
theorem Un.kept (k:∀ b u,h.get? b=some u→h'.get? b=some u):Un fs ex H H h h':=
 ⟨fun b ob q _ _ _=>k b ob q,fun b ob q _ _ _=>⟨ob.slots,k b ob q⟩,fun _ _ _ n _=>n,fun b ob q _=>⟨ob,k b ob q⟩,fun _ _ q=>q,fun _ _ _ q=>q,fun _ ps q=>⟨#[],by rw [q]; simp⟩⟩
theorem Un.refl:Un fs ex H H h h:=Un.kept fun _ _ q=>q
theorem Un.laid (k:∀ b u,h.get? b=some u→h'.get? b=some u) (hp:h.objs.size≤a) (hn:H a=none):Un fs ex H (upd H a o) h h' where
 keep:=fun b u q _ _ _=>k b u q
 slot:=fun b u q _ _ _=>⟨u.slots,k b u q⟩
 free:=fun b u q n _=>by rw [zah (Nat.ne_of_lt (vak (vat q) hp))]; exact n
 there:=fun b u q _=>⟨u,k b u q⟩
 tups:=fun b xs q=>by rw [zah (zaf q hn)]; exact q
 frzs:=fun b u xs q=>by rw [zah (zaf q hn)]; exact q
 tbls:=fun b ps q=>⟨#[],by rw [zah (zaf q hn),q]; simp⟩
theorem Un.write (mu:Mut (H x)) (he:e=x∨H e=some (.own x)) (k:∀ b u,b≠e→h.get? b=some u→h'.get? b=some u) (heo:∃ u,h'.get? e=some u):Un fs ex H (upd H x o) h h':=by
 have hx:∀ b,H b=none→b≠x:=fun b n z=>by subst z; rw [n] at mu; exact mu
 have hb:∀ b,H b=none→b≠e:=fun b n z=>by
  subst z
  rcases he with r | r
  ·exact hx b n r
  ·rw [n] at r; cases r
 have hm:∀ b u,H b=some u→¬ Mut (some u)→b≠x:=fun b u q nm z=>by subst z; rw [q] at mu; exact nm mu
 refine ⟨fun b u q n _ _=>k b u (hb b n) q,fun b u q n _ _=>⟨u.slots,k b u (hb b n) q⟩,fun b u q n _=>by rw [zah (hx b n)]; exact n,fun b u q _=>?_,
  fun b xs q=>by rw [zah (hm b _ q fun z=>z)]; exact q,fun b u xs q=>by rw [zah (hm b _ q fun z=>z)]; exact q,fun b ps q=>⟨#[],by rw [zah (hm b _ q fun z=>z),q]; simp⟩⟩
 by_cases hbe:b=e
 ·subst hbe; exact heo
 ·exact ⟨u,k b u hbe q⟩
end
noncomputable def trk (h:Heap) (H:Hp):List Addr:=(List.range h.objs.size).filter fun a=>(H a).isSome
noncomputable def hidT (h:Heap) (H:Hp):Heap:=PySem.W.hideAll h (trk h H)
theorem zlp (h:Heap) (H:Hp):(hidT h H).objs.size=h.objs.size:=PySem.W.hideAll_size _ _
theorem zor {h:Heap} {H:Hp} {b:Addr} {o:Obj} (e:h.get? b=some o) (n:H b=none):(hidT h H).get? b=some o:=
 PySem.W.hideAll_get _ e fun hm=>by
  have q:(H b).isSome=true:=(List.mem_filter.mp hm).2
  rw [n] at q; simp at q
theorem zrx {h:Heap} {H:Hp} {b:Addr} {o:Obj} (e:(hidT h H).get? b=some o):h.get? b=some o∧H b=none:=by
 have e':h.get? b=some o:=PySem.W.of_hideAll (trk h H) e
 refine ⟨e',?_⟩
 cases q:H b with
 | none=>rfl
 | some x=>
  have hm:b∈trk h H:=List.mem_filter.mpr ⟨List.mem_range.mpr (vat e'),by simp [q]⟩
  have z:(hidT h H).get? b=none:=PySem.W.hideAll_none (trk h H) hm
  rw [z] at e; cases e
structure Mod (K:PySem.W.Frag) (mg:Str→Option Value) (base:Heap):Prop where
 kin:K.In base
 glob:base.Ns mainGlobals mg
 blt:∃ mb,base.Ns builtinsNs mb∧∀ x:Str,x ≠ "__name__" → mb x=bootBuiltins x
 nolimit:base.NoLimit
set_option genInjectivity false in
structure Cx where
 prog:Program
 w:World
 K:PySem.W.Frag
 mg:Str→Option Value
 base:Heap
 A:Around
 N:List Str
 s₀:Shared
 H₀:Hp
 env:Env
 outer:List Env
 stack:List Env
 ex:List Addr
 fn:Str→Bool
 calm:Bool
 pn:List (Addr × Obj)
 xe:Value→Shared→Prop
noncomputable def frs (l:List Env):List Addr:=l.filterMap (·.frame)
noncomputable abbrev Cx.fs (X:Cx):List Addr:=frs X.outer
noncomputable def Vis (sc:Scope) (x:Str):Prop:=sc.names.lookup x=some .local∨sc.names.lookup x=some .cell∨sc.names.lookup x=some .free
noncomputable def Loc (sc:Scope) (x:Str):Prop:=sc.names.lookup x=some .local∨sc.names.lookup x=some .cell
noncomputable def Look (env:Env) (h:Heap) (m:Str→Option Value) (x:Str) (u:Value):Prop:=
 (env.kindOf x=some .local∧m x=some u)∨((env.kindOf x=some .cell∨env.kindOf x=some .free)∧∃ c,env.cells.lookup x=some c∧h.IsCell c (some u))
structure Cx.Ok (X:Cx):Prop where
 mod:Mod X.K X.mg X.base
 kind:X.env.scope.kind=.function
 glob:X.env.globals=mainGlobals
 blt:X.env.builtins=builtinsNs
 above:X.s₀.heap.objs.size≤X.env.locals
 inj:∀ x y c,X.env.cells.lookup x=some c→X.env.cells.lookup y=some c→x=y
 has:∀ x,(X.env.kindOf x=some .cell∨X.env.kindOf x=some .free)→∃ c,X.env.cells.lookup x=some c
 cab:∀ x c,X.fn x=true→X.env.cells.lookup x=some c→X.s₀.heap.objs.size≤c
 hd:X.calm=true→X.A.handled=none
 frames:X.A.frames=some X.stack
 stk:X.stack=X.outer∨(X.stack=X.env :: X.outer∧X.env.frame=some X.env.locals)
 exf:∀ b∈X.ex,b≠X.env.locals∧∀ x c,X.env.cells.lookup x=some c→c≠b
 bs:∀ b o,X.base.get? b=some o→X.s₀.heap.get? b=some o∧X.H₀ b=none
 bsz:X.base.objs.size≤X.s₀.heap.objs.size
 noex:∀ b o,X.base.get? b=some o→b∉X.ex
 exfs:∀ b∈X.ex,b∉X.fs
 funs:X.s₀.heap.FunFrames X.base X.outer
 frf:∀ b∈X.fs,X.H₀ b=none
structure Inv (X:Cx) (pins:List (Addr × Obj)) (σ:List (Option V)) (H:Hp) (s:Shared):Prop where
 ok:X.Ok
 os:s.os=X.s₀.os
 bare:AllBare s.gens
 base:Un X.fs X.ex X.H₀ H X.s₀.heap s.heap
 loc:∃ m,s.heap.Ns X.env.locals m∧∀ (i:Nat) (x:Str) (v:V),X.N[i]?=some x→σ[i]?=some (some v)→Vis X.env.scope x→∃ u,RelV v u∧Look X.env s.heap m x u
 cell:∀ x c,X.env.cells.lookup x=some c→∃ v,s.heap.IsCell c v
 free:H X.env.locals=none
 freeC:∀ x c,X.env.cells.lookup x=some c→H c=none
 pin:∀ p∈X.pn++pins,s.heap.get? p.1=some p.2∧H p.1=none∧p.1≠X.env.locals∧p.1∉X.fs∧∀ v,p.2.data≠.cell v
 hok:HOk X.prog X.w H s.heap
 len:σ.length=X.N.length
section
variable {X:Cx} {pins:List (Addr × Obj)} {σ:List (Option V)} {H H':Hp} {s:Shared} {h':Heap}
theorem Cx.Ok.nofr (ok:X.Ok) {b:Addr} {o:Obj} (e:X.base.get? b=some o):b∉X.fs:=fun hb=>by
 have:=(ok.funs.mem hb).1
 rw [e] at this; cases this
theorem Inv.bs (I:Inv X pins σ H s):∀ b o,X.base.get? b=some o→s.heap.get? b=some o∧H b=none:=fun b o e=>
 ⟨I.base.keep b o (I.ok.bs b o e).1 (I.ok.bs b o e).2 (I.ok.nofr e) (I.ok.noex b o e),I.base.free b o (I.ok.bs b o e).1 (I.ok.bs b o e).2 (I.ok.noex b o e)⟩
theorem Inv.bk (I:Inv X pins σ H s):∀ b o,X.base.get? b=some o→s.heap.get? b=some o:=fun b o e=>(I.bs b o e).1
theorem Inv.mod (I:Inv X pins σ H s):Mod X.K X.mg X.base:=I.ok.mod
theorem Inv.kIn (I:Inv X pins σ H s):X.K.In s.heap:=I.ok.mod.kin.keeps I.bk
theorem Inv.lt (I:Inv X pins σ H s):X.env.locals < s.heap.objs.size:=let ⟨_,hn,_⟩:=I.loc; hn.lt
theorem Inv.sz (I:Inv X pins σ H s):X.s₀.heap.objs.size≤s.heap.objs.size:=Nat.le_trans I.ok.above (Nat.le_of_lt I.lt)
theorem Inv.nofs (I:Inv X pins σ H s) {a:Addr} (h:s.heap.objs.size≤a):a∉X.fs:=fun hb=>by
 obtain ⟨_,o,ho,_⟩:=I.ok.funs.mem hb
 exact absurd (vak (vat ho) (Nat.le_trans I.sz h)) (Nat.lt_irrefl _)
theorem Inv.cne (I:Inv X pins σ H s):∀ x c,X.env.cells.lookup x=some c→c≠X.env.locals:=fun x c e z=>by
 obtain ⟨v,o,ho,hd⟩:=I.cell x c e
 obtain ⟨m,⟨o',es,ep,ho',hd',_⟩,_⟩:=I.loc
 rw [z,ho'] at ho; cases ho; rw [hd'] at hd; cases hd
theorem Inv.funs (I:Inv X pins σ H s):s.heap.FunFrames X.base X.outer:=by
 have all:∀ (l:List Env),(∀ b∈frs l,b∈X.fs)→X.s₀.heap.FunFrames X.base l→s.heap.FunFrames X.base l:=by
  intro l
  induction l with
  | nil=>intro _ _; trivial
  | cons env r ih=>
   intro hs hl
   obtain ⟨hk,⟨L,o,hf,hn,ho,hd⟩,hr⟩:=hl
   have hL:L∈X.fs:=hs L (by unfold frs; rw [List.filterMap_cons,hf]; exact vap)
   obtain ⟨sl,e⟩:=I.base.slot L o ho (I.ok.frf L hL) hL fun z=>I.ok.exfs L z hL
   exact ⟨hk,⟨L,_,hf,hn,e,hd⟩,ih (fun b hb=>hs b (by unfold frs; rw [List.filterMap_cons,hf]; exact vaj _ hb)) hr⟩
 exact all X.outer (fun _ hb=>hb) I.ok.funs
theorem Inv.stack (I:Inv X pins σ H s):s.heap.FunFrames X.base X.stack:=by
 rcases I.ok.stk with e | ⟨e,hf⟩
 ·rw [e]; exact I.funs
 ·rw [e]
  obtain ⟨m,hn,_⟩:=I.loc
  refine .cons (by rw [I.ok.kind]; decide) hf hn ?_ I.funs
  exact Heap.get?_none_of_le (Nat.le_trans I.ok.bsz I.ok.above)
theorem Inv.stkSub (I:Inv X pins σ H s):∀ b∈frs X.stack,b∈X.env.locals :: X.fs:=fun b hb=>by
 rcases I.ok.stk with e | ⟨e,hf⟩
 ·rw [e] at hb; exact vaj _ hb
 ·rw [e] at hb
  unfold frs at hb
  rw [List.filterMap_cons,hf] at hb
  exact hb
theorem Inv.stkFree (I:Inv X pins σ H s):∀ b∈frs X.stack,H b=none:=fun b hb=>by
 rcases List.mem_cons.mp (I.stkSub b hb) with e | hb
 ·rw [e]; exact I.free
 ·obtain ⟨_,o,ho,_⟩:=I.ok.funs.mem hb
  exact I.base.free b o ho (I.ok.frf b hb) fun z=>I.ok.exfs b z hb
theorem Inv.step {g':Array GenState} {t':Nat} {d':Drawn} {ch:List Addr} (I:Inv X pins σ H s)
 (hch:∀ b∈ch,(b∈X.ex∨X.s₀.heap.objs.size≤b)∧b≠X.env.locals∧(∀ x c,X.env.cells.lookup x=some c→c≠b)∧∀ p∈X.pn++pins,p.1≠b)
 (keep:∀ b o,b≠X.env.locals→b∉X.fs→b∉ch→s.heap.get? b=some o→H b=none→h'.get? b=some o)
 (slot:∀ b o,b≠X.env.locals→b∈X.fs→b∉ch→s.heap.get? b=some o→H b=none→∃ sl,h'.get? b=some { o with slots:=sl }) (free:∀ b o,b∉ch→s.heap.get? b=some o→H b=none→H' b=none)
 (there:∀ b o,b∉ch→s.heap.get? b=some o→∃ o',h'.get? b=some o')
 (tups:∀ b xs,H b=some (.tup xs)→H' b=some (.tup xs)) (frzs:∀ b o u,H b=some (.frz o u)→H' b=some (.frz o u)) (tbls:∀ b ps,H b=some (.tbl ps)→∃ more,H' b=some (.tbl (ps++more)))
 (ns:∀ m,s.heap.Ns X.env.locals m→h'.Ns X.env.locals m) (hok:HOk X.prog X.w H' h') (hg:AllBare g') :
 Inv X pins σ H' { s with heap:=h',gens:=g',drawn:=d',toks:=t' }:=by
 have neL:∀ b o,X.s₀.heap.get? b=some o→b≠X.env.locals:=fun b o e=>Nat.ne_of_lt (vak (vat e) I.ok.above)
 have neC:∀ b o,X.s₀.heap.get? b=some o→b∉X.ex→b∉ch:=fun b o e hx hb=>by
  rcases (hch b hb).1 with z | z
  ·exact hx z
  ·exact absurd (vak (vat e) z) (Nat.lt_irrefl _)
 have cellK:∀ x c,X.env.cells.lookup x=some c→∀ v,s.heap.IsCell c v→h'.IsCell c v:=fun x c e v hq0=>by
  obtain ⟨o,ho,hd⟩:=hq0
  have nch:c∉ch:=fun z=>(hch c z).2.2.1 x c e rfl
  by_cases hc:c∈X.fs
  ·obtain ⟨sl,q⟩:=slot c o (I.cne x c e) hc nch ho (I.freeC x c e)
   exact ⟨_,q,hd⟩
  ·exact ⟨o,keep c o (I.cne x c e) hc nch ho (I.freeC x c e),hd⟩
 refine ⟨I.ok,I.os,hg,⟨fun b o e n hb hx=>?_,fun b o e n hb hx=>?_,fun b o e n hx=>?_,fun b o e hx=>?_,fun b xs e=>tups b xs (I.base.tups b xs e),fun b o xs e=>frzs b o xs (I.base.frzs b o xs e),fun b ps e=>?_⟩,?_,fun x c e=>?_,?_,fun x c e=>?_,fun p hp=>?_,hok,I.len⟩
 ·exact keep b o (neL b o e) hb (neC b o e hx) (I.base.keep b o e n hb hx) (I.base.free b o e n hx)
 ·obtain ⟨sl,e1⟩:=I.base.slot b o e n hb hx
  obtain ⟨sl',e2⟩:=slot b _ (neL b o e) hb (neC b o e hx) e1 (I.base.free b o e n hx)
  exact ⟨sl',e2⟩
 ·obtain ⟨o',e1⟩:=I.base.there b o e hx
  exact free b o' (neC b o e hx) e1 (I.base.free b o e n hx)
 ·obtain ⟨o',e1⟩:=I.base.there b o e hx
  exact there b o' (neC b o e hx) e1
 ·obtain ⟨m1,e1⟩:=I.base.tbls b ps e
  obtain ⟨m2,e2⟩:=tbls b _ e1
  exact ⟨m1++m2,by rw [e2,Array.append_assoc]⟩
 ·obtain ⟨m,hn,hl⟩:=I.loc
  refine ⟨m,ns m hn,fun i x v e1 e2 e3=>?_⟩
  obtain ⟨u,r,l⟩:=hl i x v e1 e2 e3
  refine ⟨u,r,?_⟩
  rcases l with l | ⟨k,c,e,z⟩
  ·exact .inl l
  ·exact .inr ⟨k,c,e,cellK x c e _ z⟩
 ·obtain ⟨v,z⟩:=I.cell x c e
  exact ⟨v,cellK x c e v z⟩
 ·obtain ⟨m,⟨o,_,_,ho,_⟩,_⟩:=I.loc
  exact free _ o (fun z=>(hch _ z).2.1 rfl) ho I.free
 ·obtain ⟨v,o,ho,hd⟩:=I.cell x c e
  exact free c o (fun z=>(hch c z).2.2.1 x c e rfl) ho (I.freeC x c e)
 ·obtain ⟨e,n,ne,nf,d⟩:=I.pin p hp
  have nch:p.1∉ch:=fun z=>(hch p.1 z).2.2.2 p hp rfl
  exact ⟨keep p.1 p.2 ne nf nch e n,free p.1 p.2 nch e n,ne,nf,d⟩
theorem Inv.un {t':Nat} (I:Inv X pins σ H s) (u:Un X.fs [] H H' s.heap h') (hok:HOk X.prog X.w H' h'):Inv X pins σ H' { s with heap:=h',toks:=t' }:=by
 obtain ⟨m,⟨o,es,ep,ho,r⟩,_⟩:=id I.loc
 obtain ⟨sl,hL⟩:=u.any ho I.free (by simp)
 exact I.step (g':=s.gens) (d':=s.drawn) (ch:=[]) (fun _ z=>nomatch z) (fun b o _ hb _ e n=>u.keep b o e n hb (by simp)) (fun b o _ hb _ e n=>u.slot b o e n hb (by simp)) (fun b o _ e n=>u.free b o e n (by simp)) (fun b o _ e=>u.there b o e (by simp)) u.tups u.frzs u.tbls (fun m' hm=>by
  obtain ⟨o',es',ep',ho',r'⟩:=hm
  rw [ho] at ho'; cases ho'
  exact ⟨_,es',ep',hL,r'⟩) hok I.bare
theorem Inv.call {g':Array GenState} {t':Nat} {d':Drawn} {ch:List Addr} (I:Inv X pins σ H s) (u:Un (frs X.stack) ch H H' s.heap h') (hok:HOk X.prog X.w H' h') (hg:AllBare g')
 (hch:∀ b∈ch,(b∈X.ex∨X.s₀.heap.objs.size≤b)∧b≠X.env.locals∧(∀ x c,X.env.cells.lookup x=some c→c≠b)∧∀ p∈X.pn++pins,p.1≠b) :
 Inv X pins σ H' { s with heap:=h',gens:=g',drawn:=d',toks:=t' }:=by
 obtain ⟨m,⟨o,es,ep,ho,r⟩,_⟩:=id I.loc
 obtain ⟨sl,hL⟩:=u.any ho I.free fun z=>(hch _ z).2.1 rfl
 exact I.step (ch:=ch) hch (fun b o hL hb hc e n=>u.keep b o e n (fun z=>(List.mem_cons.mp (I.stkSub b z)).elim hL hb) hc) (fun b o _ _ hc e n=>u.any e n hc) (fun b o hc e n=>u.free b o e n hc) (fun b o hc e=>u.there b o e hc) u.tups u.frzs u.tbls (fun m' hm=>by
  obtain ⟨o',es',ep',ho',r'⟩:=hm
  rw [ho] at ho'; cases ho'
  exact ⟨_,es',ep',hL,r'⟩) hok hg
theorem Inv.turned {t':Nat} {it:Addr} (I:Inv X pins σ H s) (k:∀ b o,b≠it→s.heap.get? b=some o→h'.get? b=some o) (hn:H it=none) (hL:it≠X.env.locals)
 (h1:it∈X.ex∨X.s₀.heap.objs.size≤it) (h2:∀ x c,X.env.cells.lookup x=some c→c≠it) (h3:∀ p∈X.pn++pins,p.1≠it):Inv X pins σ H { s with heap:=h',toks:=t' }:=by
 have nit:∀ b u,H b=some u→b≠it:=fun b u e z=>by rw [z,hn] at e; cases e
 refine I.step (g':=s.gens) (d':=s.drawn) (ch:=[it]) (fun b hb=>?_) (fun b o _ _ hc e _=>k b o (fun z=>hc (by simp [z])) e) (fun b o _ _ hc e _=>⟨o.slots,k b o (fun z=>hc (by simp [z])) e⟩) (fun _ _ _ _ n=>n)
  (fun b o hc e=>⟨o,k b o (fun z=>hc (by simp [z])) e⟩) (fun _ _ e=>e) (fun _ _ _ e=>e) (fun b ps e=>⟨#[],by rw [e]; simp⟩) (fun m hm=>?_) (fun b u e=>?_) I.bare
 ·have e:b=it:=by simpa using hb
  subst e
  exact ⟨h1,hL,h2,h3⟩
 ·obtain ⟨o,es,ep,ho,r⟩:=hm
  exact ⟨o,es,ep,k _ o (Ne.symm hL) ho,r⟩
 ·refine (I.hok b u e).stay (fun c v hc q=>k c v ?_ q) (fun _ q=>q) fun _ _ q=>q
  rcases hc with z | z
  ·rw [z]; exact nit b u e
  ·exact nit c _ z
theorem Inv.tok (I:Inv X pins σ H s) (t:Nat):Inv X pins σ H { s with toks:=t }:=I.un (h':=s.heap) (t':=t) Un.refl I.hok
theorem Inv.kept {t':Nat} (I:Inv X pins σ H s) (k:∀ b u,s.heap.get? b=some u→h'.get? b=some u):Inv X pins σ H { s with heap:=h',toks:=t' }:=I.un (Un.kept k) (I.hok.kept k)
theorem Inv.laid {a:Addr} {o:HO} {t':Nat} (I:Inv X pins σ H s) (k:∀ b u,s.heap.get? b=some u→h'.get? b=some u) (hp:s.heap.objs.size≤a) (new:ObjOk X.prog X.w (upd H a o) h' a o) :
 Inv X pins σ (upd H a o) { s with heap:=h',toks:=t' }:=I.un (Un.laid k hp (I.hok.fresh hp)) (I.hok.laid k hp new)
theorem Inv.write {x e:Addr} {o:HO} {t':Nat} (I:Inv X pins σ H s) (mu:Mut (H x)) (he:e=x∨H e=some (.own x)) (k:∀ b u,b≠e→s.heap.get? b=some u→h'.get? b=some u) (heo:∃ u,h'.get? e=some u)
 (new:ObjOk X.prog X.w (upd H x o) h' x o):Inv X pins σ (upd H x o) { s with heap:=h',toks:=t' }:=I.un (Un.write mu he k heo) (I.hok.write mu he k heo new)
theorem Inv.pins_of {pins':List (Addr × Obj)} (I:Inv X pins σ H s) (h:∀ p∈pins',s.heap.get? p.1=some p.2∧H p.1=none∧p.1≠X.env.locals∧p.1∉X.fs∧∀ v,p.2.data≠.cell v):Inv X pins' σ H s:=
 ⟨I.ok,I.os,I.bare,I.base,I.loc,I.cell,I.free,I.freeC,fun p hp=>(List.mem_append.mp hp).elim (fun z=>I.pin p (List.mem_append_left _ z)) (h p),I.hok,I.len⟩
theorem zjl {N:List Str} (hN:N.Nodup) {i j:Nat} {x:Str} (a:N[i]?=some x) (b:N[j]?=some x):i=j:=by
 obtain ⟨h1,e1⟩:=List.getElem?_eq_some_iff.mp a
 obtain ⟨h2,e2⟩:=List.getElem?_eq_some_iff.mp b
 exact (List.getElem_inj hN).mp (e1.trans e2.symm)
theorem zg1 {M:Model} {A:Around} {E:Value→Shared→Prop} {i:Nat} {x:Str} {v:V} {u:Value} {Q:Unit→Shared→Prop} (I:Inv X pins σ H s) (hN:X.N.Nodup) (hi:X.N[i]?=some x) (hx:Loc X.env.scope x) (r:RelV v u)
 (h:∀ s',Inv X pins (σ.set i (some v)) H s'→(∃ a,Heap.SameBut a s.heap s'.heap∧(a=X.env.locals∨X.env.cells.lookup x=some a))→Q () s') (hf:X.fn x=true∨X.env.scope.names.lookup x=some .local:=by first | exact .inl rfl | exact .inr rfl | assumption):wpAny M A (storeName X.env x u) Q E s:=by
 obtain ⟨m,hn,hl⟩:=id I.loc
 have hcls:(X.env.scope.kind == .class || (X.env.scope.kind == .module && X.env.locals != X.env.globals))=false:=by rw [I.ok.kind]; rfl
 have hiσ:i < σ.length:=by rw [I.len]; exact (List.getElem?_eq_some_iff.mp hi).1
 have cne:=I.cne
 have tracked:∀ {a:Addr} {h':Heap},(∃ o,s.heap.get? a=some o∧H a=none)→Heap.SameBut a s.heap h'→HOk X.prog X.w H h':=fun {a h'} ha hs b ob e=>by
  obtain ⟨_,_,hfree⟩:=ha
  refine (I.hok b ob e).stay (fun c w' hc q=>(hs.2 c ?_).trans q) (fun _ q=>q) fun _ _ q=>q
  rintro rfl
  rcases hc with rfl | hc
  ·rw [hfree] at e; cases e
  ·rw [hfree] at hc; cases hc
 rcases hx with hk | hk
 ·refine wpAny_storeName_local hk hn (fun h' hn' hs=>?_) hcls
  obtain ⟨oL,_,_,hoL,_⟩:=id hn
  refine h _ ⟨I.ok,I.os,I.bare,⟨fun b o e n hb hx=>?_,fun b o e n hb hx=>?_,I.base.free,fun b o e hx=>?_,I.base.tups,I.base.frzs,I.base.tbls⟩,⟨_,hn',fun j y v' e1 e2 e3=>?_⟩,fun y c e=>?_,I.free,I.freeC,fun p hp=>?_,tracked ⟨oL,hoL,I.free⟩ hs,by simpa using I.len⟩ ⟨_,hs,.inl rfl⟩
  ·exact (hs.2 b (Nat.ne_of_lt (vak (vat e) I.ok.above))).trans (I.base.keep b o e n hb hx)
  ·obtain ⟨sl,e1⟩:=I.base.slot b o e n hb hx
   exact ⟨sl,(hs.2 b (Nat.ne_of_lt (vak (vat e) I.ok.above))).trans e1⟩
  ·obtain ⟨o',e1⟩:=I.base.there b o e hx
   exact ⟨o',(hs.2 b (Nat.ne_of_lt (vak (vat e) I.ok.above))).trans e1⟩
  ·by_cases hj:j=i
   ·subst hj
    rw [hi] at e1; cases e1
    rw [List.getElem?_set_self hiσ] at e2
    cases e2
    exact ⟨u,r,.inl ⟨hk,by simp⟩⟩
   ·rw [List.getElem?_set_ne (Ne.symm hj)] at e2
    obtain ⟨u',r',q⟩:=hl j y v' e1 e2 e3
    refine ⟨u',r',?_⟩
    rcases q with ⟨k,e⟩ | ⟨k,c,e,z⟩
    ·refine .inl ⟨k,?_⟩
     have:y≠x:=fun e=>hj (zjl hN e1 (e ▸ hi))
     simp [this,e]
    ·exact .inr ⟨k,c,e,z.sameBut hs (cne y c e)⟩
  ·obtain ⟨w',z⟩:=I.cell y c e
   exact ⟨w',z.sameBut hs (cne y c e)⟩
  ·obtain ⟨e,n,ne,nf,d⟩:=I.pin p hp
   exact ⟨(hs.2 p.1 ne).trans e,n,ne,nf,d⟩
 ·have hfn:X.fn x=true:=by
   rcases hf with z | z
   ·exact z
   ·rw [z] at hk; cases hk
  obtain ⟨c,hc⟩:=I.ok.has x (.inl hk)
  obtain ⟨w',z⟩:=I.cell x c hc
  refine wpAny_storeName_cell I.ok.kind hk hc z (fun h' hc' hs=>?_)
  obtain ⟨oc,hoc,hocd⟩:=id z
  refine h { s with heap:=h' } ⟨I.ok,I.os,I.bare,⟨fun b o e n hb hx=>?_,fun b o e n hb hx=>?_,I.base.free,fun b o e hx=>?_,I.base.tups,I.base.frzs,I.base.tbls⟩,⟨m,hn.sameBut hs (Ne.symm (cne x c hc)),fun j y v' e1 e2 e3=>?_⟩,fun y c' e=>?_,I.free,I.freeC,fun p hp=>?_,tracked ⟨oc,hoc,I.freeC x c hc⟩ hs,by simpa using I.len⟩ ⟨c,hs,.inr hc⟩
  ·exact (hs.2 b (Nat.ne_of_lt (vak (vat e) (I.ok.cab x c hfn hc)))).trans (I.base.keep b o e n hb hx)
  ·obtain ⟨sl,e1⟩:=I.base.slot b o e n hb hx
   exact ⟨sl,(hs.2 b (Nat.ne_of_lt (vak (vat e) (I.ok.cab x c hfn hc)))).trans e1⟩
  ·obtain ⟨o',e1⟩:=I.base.there b o e hx
   exact ⟨o',(hs.2 b (Nat.ne_of_lt (vak (vat e) (I.ok.cab x c hfn hc)))).trans e1⟩
  ·by_cases hj:j=i
   ·subst hj
    rw [hi] at e1; cases e1
    rw [List.getElem?_set_self hiσ] at e2
    cases e2
    exact ⟨u,r,.inr ⟨.inl hk,c,hc,hc'⟩⟩
   ·rw [List.getElem?_set_ne (Ne.symm hj)] at e2
    obtain ⟨u',r',q⟩:=hl j y v' e1 e2 e3
    refine ⟨u',r',?_⟩
    rcases q with q | ⟨k,c',e,z'⟩
    ·exact .inl q
    ·refine .inr ⟨k,c',e,z'.sameBut hs ?_⟩
     rintro rfl
     exact hj (zjl hN e1 (I.ok.inj _ _ _ e hc ▸ hi))
  ·by_cases hcc:c'=c
   ·subst hcc; exact ⟨_,hc'⟩
   ·obtain ⟨w2,z2⟩:=I.cell y c' e
    exact ⟨w2,z2.sameBut hs hcc⟩
  ·obtain ⟨e,n,ne,nf,d⟩:=I.pin p hp
   refine ⟨(hs.2 p.1 ?_).trans e,n,ne,nf,d⟩
   intro q
   rw [q,hoc] at e
   have q':oc=p.2:=Option.some.inj e
   exact d w' (by rw [← q']; exact hocd)
theorem zf2 {M:Model} {A:Around} {E:Value→Shared→Prop} {i:Nat} {x:Str} {v:V} {u:Value} {Q:Unit→Shared→Prop} (I:Inv X pins σ H s) (hN:X.N.Nodup) (hi:X.N[i]?=some x) (hx:Loc X.env.scope x) (r:RelV v u)
 (h:∀ s',Inv X pins (σ.set i (some v)) H s'→Q () s') (hf:X.fn x=true∨X.env.scope.names.lookup x=some .local:=by first | exact .inl rfl | exact .inr rfl | assumption):wpAny M A (storeName X.env x u) Q E s:=
 zg1 I hN hi hx r (fun s' I' _=>h s' I') hf
theorem Inv.call' {s':Shared} {ch:List Addr} (I:Inv X pins σ H s) (ho:s'.os=s.os) (u:Un (frs X.stack) ch H H' s.heap s'.heap) (hok:HOk X.prog X.w H' s'.heap) (hg:AllBare s'.gens)
 (hch:∀ b∈ch,(b∈X.ex∨X.s₀.heap.objs.size≤b)∧b≠X.env.locals∧(∀ x c,X.env.cells.lookup x=some c→c≠b)∧∀ p∈X.pn++pins,p.1≠b):Inv X pins σ H' s':=by
 obtain ⟨h',g',d',t',o'⟩:=s'
 have e:o'=s.os:=ho
 subst e
 exact I.call (g':=g') (t':=t') (d':=d') u hok hg hch
end
noncomputable abbrev XK:=Value→Option Addr→Hp→Prop
noncomputable abbrev St:=List (Option V)
noncomputable abbrev VK:=V→Hp→Prop
noncomputable abbrev TE:=St→Hp→VK→Prop
noncomputable abbrev TT:=St→Hp→(Bool→Hp→Prop)→Prop
noncomputable abbrev TA:=St→Hp→(List V→Hp→Prop)→Prop
set_option genInjectivity false in
structure Ends where
 nx:St→Hp→Prop
 rt:VK
 bk:St→Hp→Prop:=fun _ _=>False
 ct:St→Hp→Prop:=fun _ _=>False
noncomputable abbrev TS:=Ends→St→Hp→Prop
noncomputable def EP (X:Cx) (pins:List (Addr × Obj)) (σ:St) (Q:VK) (u:Value) (s':Shared):Prop:=∃ v H',Inv X pins σ H' s'∧RelV v u∧Q v H'
noncomputable def TP (X:Cx) (pins:List (Addr × Obj)) (σ:St) (Q:Bool→Hp→Prop) (b:Bool) (s':Shared):Prop:=∃ H',Inv X pins σ H' s'∧Q b H'
noncomputable def AP (X:Cx) (pins:List (Addr × Obj)) (σ:St) (Q:List V→Hp→Prop) (us:List Value) (s':Shared):Prop:=∃ vs H',Inv X pins σ H' s'∧Vals vs us∧Q vs H'
noncomputable def SP (X:Cx) (pins:List (Addr × Obj)) (D:Ends) (f:Flow) (s':Shared):Prop:=
 match f with
 | .next=>∃ σ' H',Inv X pins σ' H' s'∧D.nx σ' H'
 | .brk=>∃ σ' H',Inv X pins σ' H' s'∧D.bk σ' H'
 | .cont=>∃ σ' H',Inv X pins σ' H' s'∧D.ct σ' H'
 | .ret u=>∃ v σ' H',Inv X pins σ' H' s'∧RelV v u∧D.rt v H'
noncomputable def PE (X:Cx) (e:Expr) (t:TE):Prop:=
 ∀ (pins:List (Addr × Obj)) (s:Shared) (σ:St) (H:Hp) (Q:VK),Inv X pins σ H s→t σ H Q→wpAny (model X.prog X.w) X.A (eval e X.env) (EP X pins σ Q) X.xe s
noncomputable def PT (X:Cx) (e:Expr) (t:TT):Prop:=
 ∀ (pins:List (Addr × Obj)) (s:Shared) (σ:St) (H:Hp) (Q:Bool→Hp→Prop),Inv X pins σ H s→t σ H Q→wpAny (model X.prog X.w) X.A (isTrue e X.env (eval e X.env)) (TP X pins σ Q) X.xe s
noncomputable def PW (X:Cx) (e:Expr) (t:TT):Prop:=
 ∀ (whole:Sem Value) (pins:List (Addr × Obj)) (s:Shared) (σ:St) (H:Hp) (Q:Bool→Hp→Prop),Inv X pins σ H s→t σ H Q→wpAny (model X.prog X.w) X.A (isTrue e X.env whole) (TP X pins σ Q) X.xe s
theorem PW.pt {X:Cx} {e:Expr} {t:TT} (h:PW X e t):PT X e t:=h _
noncomputable def PA (X:Cx) (es:List Expr) (t:TA):Prop:=
 ∀ (pos:Pos) (pins:List (Addr × Obj)) (s:Shared) (σ:St) (H:Hp) (Q:List V→Hp→Prop),Inv X pins σ H s→t σ H Q→wpAny (model X.prog X.w) X.A (spliced (backTo pos (starEach es X.env))) (AP X pins σ Q) X.xe s
noncomputable def PS (X:Cx) (st:Stmt) (t:TS):Prop:=
 ∀ (pins:List (Addr × Obj)) (s:Shared) (σ:St) (H:Hp) (D:Ends),Inv X pins σ H s→t D σ H→wpAny (model X.prog X.w) X.A (exec st X.env) (SP X pins D) X.xe s
noncomputable def PSs (X:Cx) (st:List Stmt) (t:TS):Prop:=
 ∀ (pins:List (Addr × Obj)) (s:Shared) (σ:St) (H:Hp) (D:Ends),Inv X pins σ H s→t D σ H→wpAny (model X.prog X.w) X.A (execs st X.env) (SP X pins D) X.xe s
theorem thn {α:Type} {t:Sem α} {Q Q':α→Shared→Prop} {M:Model} {A:Around} {E:Value→Shared→Prop} {s:Shared} (h:wpAny M A t Q E s) (hQ:∀ a s,Q a s→Q' a s):wpAny M A t Q' E s:=wpAny_mono h hQ fun _ _ x=>x
section
variable {X:Cx}
theorem bin {a b:Expr} {ta tb:TE} (ha:PE X a ta) (hb:PE X b tb) {pins:List (Addr × Obj)} {s:Shared} {σ:St} {H:Hp} {R:V→V→Hp→Prop} (I:Inv X pins σ H s) (h:ta σ H fun x H1=>tb σ H1 fun y H2=>R x y H2)
 {α:Type} {Q:α→Shared→Prop} {f:Value→Value→Sem α}
 (hf:∀ v u s2 x y H2,Inv X pins σ H2 s2→RelV x v→RelV y u→R x y H2→wpAny (model X.prog X.w) X.A (f v u) Q X.xe s2) :
 wpAny (model X.prog X.w) X.A (eval a X.env) (fun v s₁=>wpAny (model X.prog X.w) X.A (eval b X.env) (fun u s₂=>wpAny (model X.prog X.w) X.A (f v u) Q X.xe s₂) X.xe s₁) X.xe s:=by
 refine thn (ha pins s σ H _ I h) fun v s1 hq0=>?_
 obtain ⟨x,H1,I1,r1,q1⟩:=hq0
 refine thn (hb pins s1 σ H1 _ I1 q1) fun u s2 hq0=>?_
 obtain ⟨y,H2,I2,r2,q2⟩:=hq0
 exact hf v u s2 x y H2 I2 r1 r2 q2
noncomputable def tVar (i:Nat):TE:=fun σ H Q=>∃ v,σ[i]?=some (some v)∧Q v H
noncomputable def tC (v:V):TE:=fun _ H Q=>Q v H
theorem zua {i:Nat} {x:Str} {pos:Pos} (hN:X.N[i]?=some x) (hv:Vis X.env.scope x) (hd:(x == ("__debug__" : Str))=false:=by decide) (hcd:(x == ("__classdict__" : Str))=false:=by decide):PE X (.Name x pos) (tVar i):=by
 intro pins s σ H Q I h
 obtain ⟨v,e,h⟩:=h
 obtain ⟨m,hn,hl⟩:=I.loc
 obtain ⟨u,r,l⟩:=hl i x v hN e hv
 have fin:EP X pins σ Q u s:=⟨v,H,I,r,h⟩
 rcases l with ⟨hk,hm⟩ | ⟨hk,c,hc,hcell⟩
 ·exact wpAny_Name (wpAny_loadName_local I.ok.kind hk hn hm fin) hd
 ·rcases hk with hk | hk
  ·exact wpAny_Name (wpAny_loadName_cell I.ok.kind hk hc hcell fin) hd
  ·exact wpAny_Name (wpAny_loadName_free I.ok.kind hk hc hcell fin hcd) hd
theorem zub {i j pos}:PE X (.Constant (.int i) j pos) (tC (.int i)):=fun _ _ _ H _ I h=>wpAny_Constant_int ⟨.int i,H,I.tok _,⟨_,rfl⟩,h⟩
theorem pe_bl {b j pos}:PE X (.Constant (.bool b) j pos) (tC (.bl b)):=fun _ _ _ H _ I h=>Constant_bool ⟨.bl b,H,I,rfl,h⟩
theorem zuc {j pos}:PE X (.Constant .none j pos) (tC .non):=fun _ _ _ H _ I h=>Constant_none ⟨.non,H,I,rfl,h⟩
theorem zud {x j pos}:PE X (.Constant (.str x) j pos) (tC (.str x)):=fun _ _ _ H _ I h=>Calls.Constant_str ⟨.str x,H,I.tok _,⟨_,rfl⟩,h⟩
noncomputable def Gl (X:Cx) (x:Str):Prop:=X.env.kindOf x=some .globalImplicit
theorem zin {E:Value→Shared→Prop} {pins:List (Addr × Obj)} {s:Shared} {σ:St} {H:Hp} {x:Str} {u:Value} {pos:Pos} {Q:Value→Shared→Prop} (I:Inv X pins σ H s) (hg:Gl X x) (hm:X.mg x=some u) (h:Q u s)
 (hd:(x == ("__debug__" : Str))=false:=by decide):wpAny (model X.prog X.w) X.A (eval (.Name x pos) X.env) Q E s:=
 Calls.Name_function_global I.ok.kind hg (Calls.loadGlobal_global (by rw [I.ok.glob]; exact I.mod.glob.keeps I.bk) hm h) hd
theorem zed {E:Value→Shared→Prop} {pins:List (Addr × Obj)} {s:Shared} {σ:St} {H:Hp} {x:Str} {u:Value} {pos:Pos} {Q:Value→Shared→Prop} (I:Inv X pins σ H s) (hg:Gl X x) (hm:X.mg x=none) (hv:bootBuiltins x=some u) (h:Q u s)
 (hn:x ≠ "__name__" := by decide) (hd:(x == ("__debug__" : Str))=false:=by decide):wpAny (model X.prog X.w) X.A (eval (.Name x pos) X.env) Q E s:=by
 obtain ⟨mb,h1,h2⟩:=I.mod.blt
 exact Calls.Name_function_global I.ok.kind hg (Calls.loadGlobal_builtin (by rw [I.ok.glob]; exact I.mod.glob.keeps I.bk) hm (by rw [I.ok.blt]; exact h1.keeps I.bk) ((h2 x hn).trans hv) h) hd
theorem zry {x:Str} {v:V} {u:Value} {pos:Pos} (hg:Gl X x) (hm:X.mg x=some u) (r:RelV v u) (hd:(x == ("__debug__" : Str))=false:=by decide):PE X (.Name x pos) (tC v):=
 fun _ _ _ H _ I h=>zin I hg hm ⟨v,H,I,r,h⟩ hd
theorem zrz {x:Str} {v:V} {u:Value} {pos:Pos} (hg:Gl X x) (hm:X.mg x=none) (hv:bootBuiltins x=some u) (r:RelV v u) (hn:x ≠ "__name__" := by decide) (hd:(x == ("__debug__" : Str))=false:=by decide):PE X (.Name x pos) (tC v):=
 fun _ _ _ H _ I h=>zed I hg hm hv ⟨v,H,I,r,h⟩ hn hd
variable {a b:Expr} {ta tb:TE} {pos:Pos}
variable {tA tB':TT} {rest:List Expr}
noncomputable def tAnd (t u:TT):TT:=fun σ H Q=>t σ H fun c H1=>if c=true then u σ H1 Q else Q false H1
noncomputable def tOr (t u:TT):TT:=fun σ H Q=>t σ H fun c H1=>if c=true then Q true H1 else u σ H1 Q
noncomputable def tNot (t:TT):TT:=fun σ H Q=>t σ H fun c H1=>Q (!c) H1
theorem zr0 (ha:PT X a tA):PW X (.BoolOp .And [a] pos) tA:=by
 intro wh pins s σ H Q I h
 refine isTrue_and (thn (ha pins s σ H Q I h) fun c s1 e=>?_)
 cases c with
 | true=>exact isTrue_and_nil e
 | false=>exact e
theorem zue (ha:PT X a tA):PW X (.BoolOp .Or [a] pos) tA:=by
 intro wh pins s σ H Q I h
 refine isTrue_or (thn (ha pins s σ H Q I h) fun c s1 e=>?_)
 cases c with
 | false=>exact isTrue_or_nil e
 | true=>exact e
theorem zuf (ha:PT X a tA) (hb:PW X (.BoolOp .And (b :: rest) pos) tB'):PW X (.BoolOp .And (a :: b :: rest) pos) (tAnd tA tB'):=by
 intro wh pins s σ H Q I h
 refine isTrue_and (thn (ha pins s σ H _ I h) fun c s1 hq0=>?_)
 obtain ⟨H1,I1,q1⟩:=hq0
 cases c with
 | true=>exact hb wh pins s1 σ H1 Q I1 q1
 | false=>exact ⟨H1,I1,q1⟩
theorem pw_or (ha:PT X a tA) (hb:PW X (.BoolOp .Or (b :: rest) pos) tB'):PW X (.BoolOp .Or (a :: b :: rest) pos) (tOr tA tB'):=by
 intro wh pins s σ H Q I h
 refine isTrue_or (thn (ha pins s σ H _ I h) fun c s1 hq0=>?_)
 obtain ⟨H1,I1,q1⟩:=hq0
 cases c with
 | true=>exact ⟨H1,I1,q1⟩
 | false=>exact hb wh pins s1 σ H1 Q I1 q1
theorem zug (ha:PT X a tA):PT X (.UnaryOp .Not a pos) (tNot tA):=by
 intro pins s σ H Q I h
 exact isTrue_not (ha pins s σ H (fun c H1=>Q (!c) H1) I h)
noncomputable def tAndV (ta tb:TE):TE:=fun σ H Q=>ta σ H fun x H1=>∃ c,x=.bl c∧if c=true then tb σ H1 Q else Q (.bl false) H1
noncomputable def tOrV (ta tb:TE):TE:=fun σ H Q=>ta σ H fun x H1=>∃ c,x=.bl c∧if c=true then Q (.bl true) H1 else tb σ H1 Q
noncomputable def tNotV (ta:TE):TE:=fun σ H Q=>ta σ H fun x H1=>∃ c,x=.bl c∧Q (.bl (!c)) H1
theorem zuh {op} {t:TE} (h:PE X a t):PE X (.BoolOp op [a] pos) t:=fun pins s σ H Q I hw=>BoolOp_one (h pins s σ H Q I hw)
theorem zui (ha:PE X a ta) (hb:PE X (.BoolOp .And (b :: rest) pos) tb):PE X (.BoolOp .And (a :: b :: rest) pos) (tAndV ta tb):=by
 intro pins s σ H Q I h
 refine BoolOp_and (thn (ha pins s σ H _ I h) fun v s1 hq0=>?_)
 obtain ⟨x,H1,I1,r1,q1⟩:=hq0
 obtain ⟨c,rfl,q1⟩:=q1
 cases r1
 refine wpAny_truthy_bool ?_
 cases c with
 | true=>exact hb pins s1 σ H1 Q I1 q1
 | false=>exact ⟨.bl false,H1,I1,rfl,q1⟩
theorem pe_or (ha:PE X a ta) (hb:PE X (.BoolOp .Or (b :: rest) pos) tb):PE X (.BoolOp .Or (a :: b :: rest) pos) (tOrV ta tb):=by
 intro pins s σ H Q I h
 refine BoolOp_or (thn (ha pins s σ H _ I h) fun v s1 hq0=>?_)
 obtain ⟨x,H1,I1,r1,q1⟩:=hq0
 obtain ⟨c,rfl,q1⟩:=q1
 cases r1
 refine wpAny_truthy_bool ?_
 cases c with
 | false=>exact hb pins s1 σ H1 Q I1 q1
 | true=>exact ⟨.bl true,H1,I1,rfl,q1⟩
theorem zuj (ha:PE X a ta):PE X (.UnaryOp .Not a pos) (tNotV ta):=by
 intro pins s σ H Q I h
 refine UnaryOp_ (thn (ha pins s σ H _ I h) fun v s1 hq0=>?_)
 obtain ⟨x,H1,I1,r1,q1⟩:=hq0
 obtain ⟨c,rfl,q1⟩:=q1
 cases r1
 exact not_of (wpAny_truthy_bool ⟨.bl (!c),H1,I1,rfl,q1⟩)
noncomputable def tIf (t:TT) (ta tb:TE):TE:=fun σ H Q=>t σ H fun c H1=>if c=true then ta σ H1 Q else tb σ H1 Q
theorem zos {c:Expr} (hc:PT X c tA) (ha:PE X a ta) (hb:PE X b tb):PE X (.IfExp c a b pos) (tIf tA ta tb):=by
 intro pins s σ H Q I h
 refine wpAny_IfExp (thn (hc pins s σ H _ I h) fun d s1 hq0=>?_)
 obtain ⟨H1,I1,q1⟩:=hq0
 cases d with
 | true=>exact ha pins s1 σ H1 Q I1 q1
 | false=>exact hb pins s1 σ H1 Q I1 q1
end
noncomputable def SqL (K:PySem.W.Frag) (H:Hp) (a:Addr) (xs:List V):Prop:=
 Rd H a (.lst xs) ∨
  ∃ (o:Obj) (its:Array Value) (n:Nat),K.lookup a=some o∧o.cls=.type "list" ∧ o.dict=none∧o.data=.seq its n∧its.size≤sizeLine∧Vals xs its.toList
noncomputable def SqT (K:PySem.W.Frag) (H:Hp) (a:Addr) (xs:List V):Prop:=
 Rd H a (.tup xs) ∨
  ∃ (o:Obj) (its:Array Value) (n:Nat),K.lookup a=some o∧o.cls=.type "tuple" ∧ o.dict=none∧o.data=.seq its n∧its.size≤sizeLine∧Vals xs its.toList
noncomputable def absV:Value→Option V
 | .none=>some .non
 | .bool b=>some (.bl b)
 | .int i _=>some (.int i)
 | .str x _=>some (.str x)
 | .bytes b _=>some (.byt b)
 | .float b _=>some (.flt b)
 | .ref a=>some (.ref a)
 | .type n=>some (.ty n)
 | _=>none
theorem RelV.abs {x:V} {u:Value} (r:RelV x u):absV u=some x:=by
 cases x with
 | non=>cases r; rfl
 | bl _=>cases r; rfl
 | int _=>obtain ⟨t,rfl⟩:=r; rfl
 | str _=>obtain ⟨t,rfl⟩:=r; rfl
 | byt _=>obtain ⟨t,rfl⟩:=r; rfl
 | flt _=>obtain ⟨t,rfl⟩:=r; rfl
 | ref _=>cases r; rfl
 | ty _=>cases r; rfl
theorem RelV.inj {x y:V} {u:Value} (r:RelV x u) (q:RelV y u):x=y:=Option.some.inj (r.abs.symm.trans q.abs)
theorem Vals.inj:∀ {xs ys:List V} {us:List Value},Vals xs us→Vals ys us→xs=ys
 | _,_,_,.nil,.nil=>rfl
 | _,_,_,.cons r t,.cons r' t'=>by rw [r.inj r',Vals.inj t t']
section
variable {X:Cx} {pins:List (Addr × Obj)} {σ:St} {H:Hp} {s:Shared} {a:Addr} {xs ys:List V}
theorem SqL.of {K:PySem.W.Frag} (h:H a=some (.lst xs)):SqL K H a xs:=.inl (.inl h)
theorem SqT.of {K:PySem.W.Frag} (h:H a=some (.tup xs)):SqT K H a xs:=.inl (.inl h)
theorem Inv.list (I:Inv X pins σ H s) (h:SqL X.K H a xs):∃ its:List Value,Vals xs its∧PlainL s.heap a its.toArray∧xs.length≤sizeLine:=by
 rcases h with h | ⟨o,its,n,hk,hc,hd,hs,hz,r⟩
 ·obtain ⟨z,its,n,r,e⟩:=h.ok I.hok
  exact ⟨its,r,⟨_,n,e,rfl,rfl,rfl⟩,z⟩
 ·refine ⟨its.toList,r,⟨o,n,I.kIn a o hk,hc,hd,by simpa using hs⟩,?_⟩
  have e:=r.length
  simp only [Array.length_toList] at e
  omega
theorem Inv.tupleD (I:Inv X pins σ H s) (h:SqT X.K H a xs):∃ its:List Value,Vals xs its∧zbc s.heap a its.toArray∧xs.length≤sizeLine:=by
 rcases h with h | ⟨o,its,n,hk,hc,hd,hs,hz,r⟩
 ·obtain ⟨z,its,r,p⟩:=h.ok I.hok
  exact ⟨its,r,p,z⟩
 ·refine ⟨its.toList,r,⟨o,I.kIn a o hk,hc,⟨n,by simpa using hs⟩,hd⟩,?_⟩
  have e:=r.length
  simp only [Array.length_toList] at e
  omega
theorem Inv.tuple (I:Inv X pins σ H s) (h:SqT X.K H a xs):∃ its:List Value,Vals xs its∧IsTup s.heap a its.toArray∧xs.length≤sizeLine:=by
 obtain ⟨its,r,p,z⟩:=I.tupleD h
 exact ⟨its,r,p.tup,z⟩
theorem Inv.list_inj (I:Inv X pins σ H s) (h:SqL X.K H a xs) (h':SqL X.K H a ys):xs=ys:=by
 obtain ⟨its,r,⟨o,n,e,_,_,d⟩,_⟩:=I.list h
 obtain ⟨its',r',⟨o',n',e',_,_,d'⟩,_⟩:=I.list h'
 rw [e] at e'; cases e'
 rw [d] at d'
 injection d' with d1 _
 have:its=its':=by simpa using congrArg Array.toList d1
 subst this
 exact r.inj r'
theorem Inv.tuple_inj (I:Inv X pins σ H s) (h:SqT X.K H a xs) (h':SqT X.K H a ys):xs=ys:=by
 obtain ⟨its,r,⟨o,e,_,n,d⟩,_⟩:=I.tuple h
 obtain ⟨its',r',⟨o',e',_,n',d'⟩,_⟩:=I.tuple h'
 rw [e] at e'; cases e'
 rw [d] at d'
 injection d' with d1 _
 have:its=its':=by simpa using congrArg Array.toList d1
 subst this
 exact r.inj r'
end
noncomputable abbrev Cx.wish (X:Cx) (E:Value→Shared→Prop):Cx:={ X with xe:=E }
noncomputable abbrev Cx.nox (X:Cx):Cx:=X.wish fun _ _=>False
theorem Cx.Ok.wish {X:Cx} (ok:X.Ok) (E:Value→Shared→Prop):(X.wish E).Ok:=
 ⟨ok.mod,ok.kind,ok.glob,ok.blt,ok.above,ok.inj,ok.has,ok.cab,ok.hd,ok.frames,ok.stk,ok.exf,ok.bs,ok.bsz,ok.noex,ok.exfs,ok.funs,ok.frf⟩
theorem Cx.Ok.unwish {X:Cx} {E:Value→Shared→Prop} (ok:(X.wish E).Ok):X.Ok:=
 ⟨ok.mod,ok.kind,ok.glob,ok.blt,ok.above,ok.inj,ok.has,ok.cab,ok.hd,ok.frames,ok.stk,ok.exf,ok.bs,ok.bsz,ok.noex,ok.exfs,ok.funs,ok.frf⟩
section
variable {X:Cx} {pins:List (Addr × Obj)} {σ:St} {H:Hp} {s:Shared} {E:Value→Shared→Prop}
theorem Inv.wish (I:Inv X pins σ H s) (E:Value→Shared→Prop):Inv (X.wish E) pins σ H s:=⟨I.ok.wish E,I.os,I.bare,I.base,I.loc,I.cell,I.free,I.freeC,I.pin,I.hok,I.len⟩
theorem Inv.unwish (I:Inv (X.wish E) pins σ H s):Inv X pins σ H s:=⟨I.ok.unwish,I.os,I.bare,I.base,I.loc,I.cell,I.free,I.freeC,I.pin,I.hok,I.len⟩
theorem SP.unwish {D:Ends} {f:Flow} {s':Shared} (h:SP (X.wish E) pins D f s'):SP X pins D f s':=by
 cases f with
 | next=>obtain ⟨σ',H',I,q⟩:=h; exact ⟨σ',H',I.unwish,q⟩
 | brk=>obtain ⟨σ',H',I,q⟩:=h; exact ⟨σ',H',I.unwish,q⟩
 | cont=>obtain ⟨σ',H',I,q⟩:=h; exact ⟨σ',H',I.unwish,q⟩
 | ret u=>obtain ⟨v,σ',H',I,r,q⟩:=h; exact ⟨v,σ',H',I.unwish,r,q⟩
theorem PSs.nox {st:List Stmt} {t:TS} (h:PSs X.nox st t):PSs X st t:=fun pins s σ H D I hw=>
 wpAny_mono (h pins s σ H D (I.wish _) hw) (fun _ _ q=>q.unwish) fun _ _ z=>False.elim z
end
section
variable {X:Cx} {st:Stmt} {rest:List Stmt} {t u:TS} {e:Expr} {te:TE} {pos:Pos}
noncomputable def tNext:TS:=fun D σ H=>D.nx σ H
noncomputable def tSeq (t u:TS):TS:=fun D σ H=>t { D with nx:=u D } σ H
theorem zr1:PSs X [] tNext:=fun _ _ σ H _ I h=>wpAny_execs_nil ⟨σ,H,I,h⟩
theorem zot (h1:PS X st t) (h2:PSs X rest u):PSs X (st :: rest) (tSeq t u):=by
 intro pins s σ H D I h
 refine wpAny_execs_cons (thn (h1 pins s σ H { D with nx:=u D } I h) fun f s1 q=>?_)
 cases f with
 | next=>
  obtain ⟨σ',H',I',q⟩:=q
  exact h2 pins s1 σ' H' D I' q
 | ret v=>exact q
 | brk=>exact q
 | cont=>exact q
noncomputable def zuk:TS:=fun D σ H=>D.bk σ H
noncomputable def tCont:TS:=fun D σ H=>D.ct σ H
theorem zr2:PS X (.Pass pos) tNext:=fun _ _ σ H _ I h=>wpAny_Pass ⟨σ,H,I,h⟩
theorem zou:PS X (.Break pos) zuk:=fun _ _ σ H _ I h=>wpAny_Break ⟨σ,H,I,h⟩
theorem zio:PS X (.Continue pos) tCont:=fun _ _ σ H _ I h=>wpAny_Continue ⟨σ,H,I,h⟩
theorem Inv.quiet {pins:List (Addr × Obj)} {σ:St} {H:Hp} {s:Shared} (I:Inv X pins σ H s):interactive X.env=false:=by simp [interactive,I.ok.kind]
noncomputable def tDrop (te:TE):TS:=fun D σ H=>te σ H fun _ H1=>D.nx σ H1
theorem zr3 (he:PE X e te) (hs:swapsWith e none pos.line X.env=pure false:=by rfl):PS X (.Expr e pos) (tDrop te):=by
 intro pins s σ H D I h
 exact wpAny_Expr_any (thn (he pins s σ H _ I h) fun v s1 ⟨x,H1,I1,r1,q1⟩=>⟨σ,H1,I1,q1⟩) I.quiet hs
noncomputable def tRet (te:TE):TS:=fun D σ H=>te σ H D.rt
theorem zul (he:PE X e te):PS X (.Return (some e) pos) (tRet te):=by
 intro pins s σ H D I h
 exact wpAny_Return_some (thn (he pins s σ H _ I h) fun v s1 ⟨x,H1,I1,r1,q1⟩=>⟨x,σ,H1,I1,r1,q1⟩)
noncomputable def tRetN:TS:=fun D _ H=>D.rt .non H
theorem zr4:PS X (.Return none pos) tRetN:=fun _ _ σ H _ I h=>wpAny_Return_none ⟨.non,σ,H,I,rfl,h⟩
noncomputable def tIfS (c:TT) (t u:TS):TS:=fun D σ H=>c σ H fun b H1=>if b=true then t D σ H1 else u D σ H1
theorem ps_if {c:Expr} {a b:List Stmt} {tc:TT} (hc:PT X c tc) (ha:PSs X a t) (hb:PSs X b u):PS X (.If c a b pos) (tIfS tc t u):=by
 intro pins s σ H D I h
 refine wpAny_If (thn (hc pins s σ H _ I h) fun d s1 hq0=>?_)
 obtain ⟨H1,I1,q1⟩:=hq0
 cases d with
 | true=>exact ha pins s1 σ H1 D I1 q1
 | false=>exact hb pins s1 σ H1 D I1 q1
noncomputable def zum:TS:=fun _ _ _=>False
theorem zov:PS X st zum:=fun _ _ _ _ _ _ h=>h.elim
end
noncomputable abbrev TG:=V→St→Hp→(St→Hp→Prop)→Prop
noncomputable abbrev TGs:=List V→St→Hp→(St→Hp→Prop)→Prop
noncomputable def PG (X:Cx) (target:Expr) (t:TG):Prop:=
 ∀ (pins:List (Addr × Obj)) (s:Shared) (σ:St) (H:Hp) (v:V) (u:Value) (Q:St→Hp→Prop),Inv X pins σ H s→RelV v u→t v σ H Q →
  wpAny (model X.prog X.w) X.A (assign target X.env u) (fun _ s'=>∃ σ' H',Inv X pins σ' H' s'∧Q σ' H') X.xe s
noncomputable def PGs (X:Cx) (ts:List Expr) (t:TGs):Prop:=
 ∀ (pins:List (Addr × Obj)) (s:Shared) (σ:St) (H:Hp) (vs:List V) (us:List Value) (Q:St→Hp→Prop),Inv X pins σ H s→Vals vs us→t vs σ H Q →
  wpAny (model X.prog X.w) X.A (assignInOrder ((assignEach ts X.env).map (·.2)) us) (fun _ s'=>∃ σ' H',Inv X pins σ' H' s'∧Q σ' H') X.xe s
noncomputable abbrev TSet:=V→V→V→Hp→(Hp→Prop)→Prop
noncomputable def PSet (X:Cx) (t:TSet):Prop:=
 ∀ (pins:List (Addr × Obj)) (s:Shared) (σ:St) (H:Hp) (o i v:V) (ov iv u:Value) (Q:Hp→Prop),Inv X pins σ H s→RelV o ov→RelV i iv→RelV v u→t o i v H Q →
  wpAny (model X.prog X.w) X.A (setItem ov iv u) (fun _ s'=>∃ H',Inv X pins σ H' s'∧Q H') X.xe s
noncomputable abbrev TIp:=V→V→Hp→VK→Prop
noncomputable def PIp (X:Cx) (op:Operator) (t:TIp):Prop:=
 ∀ (pins:List (Addr × Obj)) (s:Shared) (σ:St) (H:Hp) (x y:V) (v u:Value) (Q:VK),Inv X pins σ H s→RelV x v→RelV y u→t x y H Q →
  wpAny (model X.prog X.w) X.A (inplaceOp op v u) (EP X pins σ Q) X.xe s
section
variable {X:Cx} {pos:Pos}
noncomputable def gName (i:Nat):TG:=fun v σ H Q=>Q (σ.set i (some v)) H
theorem zlq {i:Nat} {x:Str} (hN:X.N.Nodup) (hi:X.N[i]?=some x) (hx:Loc X.env.scope x) (hf:X.fn x=true∨X.env.scope.names.lookup x=some .local:=by first | exact .inl rfl | exact .inr rfl | assumption):PG X (.Name x pos) (gName i):=by
 intro pins s σ H v u Q I r h
 exact wpAny_assign_Name (zf2 I hN hi hx r (fun s' I'=>⟨_,H,I',h⟩) hf)
noncomputable def gNil:TGs:=fun vs σ H Q=>vs=[]∧Q σ H
noncomputable def gCons (t:TG) (u:TGs):TGs:=fun vs σ H Q=>∃ v r,vs=v :: r∧t v σ H fun σ' H'=>u r σ' H' Q
theorem zr5:PGs X [] gNil:=by
 intro pins s σ H vs us Q I r h
 obtain ⟨e,h⟩:=h
 subst e
 cases r
 exact assignInOrder_nil ⟨σ,H,I,h⟩
theorem zow {e:Expr} {es:List Expr} {t:TG} {u:TGs} (h1:PG X e t) (h2:PGs X es u)
 (hs:(assignEach (e :: es) X.env).map (·.2)=assign e X.env :: (assignEach es X.env).map (·.2):=by rfl):PGs X (e :: es) (gCons t u):=by
 intro pins s σ H vs us Q I r h
 obtain ⟨v,vr,e1,h⟩:=h
 subst e1
 cases r with
 | cons r rr=>
  rw [hs]
  refine assignInOrder_cons (thn (h1 pins s σ H _ _ _ I r h) fun _ s1 hq0=>?_)
  obtain ⟨σ1,H1,I1,q1⟩:=hq0
  exact h2 pins s1 σ1 H1 _ _ Q I1 rr q1
noncomputable def gTup (K:PySem.W.Frag) (n:Nat) (t:TGs):TG:=fun v σ H Q=>∃ a xs,v=.ref a∧SqT K H a xs∧xs.length=n∧t xs σ H Q
theorem zun {es:List Expr} {k:Nat} {t:TGs} {n:Nat} (hc:X.calm=true) (h:PGs X es t)
 (hn:(assignEach es X.env).length=n:=by rfl) (hst:(assignEach es X.env).findIdx? (·.1)=none:=by rfl):PG X (.Tuple es k pos) (gTup X.K n t):=by
 intro pins s σ H v u Q I r hw
 obtain ⟨a,xs,e1,hq,hl,hw⟩:=hw
 subst e1
 cases r
 obtain ⟨its,rv,ht,hz⟩:=I.tuple hq
 refine assign_Tuple_tuple (I.ok.hd hc) ht (by simp [hn,← hl,rv.length]) hst fun h' hx=>?_
 have I1:Inv X pins σ H { s with heap:=h' }:=I.kept (t':=s.toks) fun b o e=>hx b o (Nat.ne_of_lt (vat e)) e
 exact h pins _ σ H xs _ Q I1 (by simpa using rv) hw
noncomputable def gSub (to ti:TE) (t:TSet):TG:=fun v σ H Q=>to σ H fun o H1=>ti σ H1 fun i H2=>t o i v H2 fun H3=>Q σ H3
theorem zuo {o i:Expr} {to ti:TE} {t:TSet} (ho:PE X o to) (hi:PE X i ti) (hs:PSet X t)
 (ha:∀ v,assign (.Subscript o i pos) X.env v=(do
   let ov ← holding [v] (eval o X.env)
   let iv ← holding [v,ov] (eval i X.env)
   standAt pos
   holding [v,ov,iv] (setItem ov iv v)
   release [v,ov,iv] []):=by intro _; rfl):PG X (.Subscript o i pos) (gSub to ti t):=by
 intro pins s σ H v u Q I r h
 rw [ha]
 refine vaa (wpAny_holding (thn (ho pins s σ H _ I h) fun ov s1 hq0=>?_))
 obtain ⟨x,H1,I1,r1,q1⟩:=hq0
 refine vaa (wpAny_holding (thn (hi pins s1 σ H1 _ I1 q1) fun iv s2 hq0=>?_))
 obtain ⟨y,H2,I2,r2,q2⟩:=hq0
 refine vaa (wpAny_standAt (vaa (wpAny_holding (thn (hs pins s2 σ H2 x y v ov iv u _ I2 r1 r2 r q2) fun _ s3 hq0=>?_))))
 obtain ⟨H3,I3,q3⟩:=hq0
 exact wpAny_release ⟨σ,H3,I3,q3⟩
noncomputable def tAsg (te:TE) (g:TG):TS:=fun D σ H=>te σ H fun x H1=>g x σ H1 D.nx
theorem zqs {tg e:Expr} {te:TE} {g:TG} (he:PE X e te) (hg:PG X tg g) (hs:swapsWithSole [tg] e pos.line X.env=pure false:=by rfl) (hw:swappedStores [tg] e X.env=pure none:=by rfl)
 (h1:(assignEach [tg] X.env).map (·.2)=[assign tg X.env]:=by rfl):PS X (.Assign [tg] e pos) (tAsg te g):=by
 intro pins s σ H D I h
 refine wpAny_Assign_stores (thn (he pins s σ H _ I h) fun v s1 ⟨x,H1,I1,r1,q1⟩=>?_) hs hw
 rw [h1]
 exact thn (hg pins s1 σ H1 x v _ I1 r1 q1) fun _ s2 q=>q
theorem zup {i:Nat} {x:Str} {e:Expr} {te:TE} {pos':Pos} (hN:X.N.Nodup) (hi:X.N[i]?=some x) (hx:Loc X.env.scope x) (he:PE X e te) (hs:swapsWith e (some (.Name x pos')) pos.line X.env=pure false:=by rfl) (hf:X.fn x=true∨X.env.scope.names.lookup x=some .local:=by first | exact .inl rfl | exact .inr rfl | assumption) :
 PS X (.Assign [.Name x pos'] e pos) (tAsg te (gName i)):=by
 intro pins s σ H D I h
 refine wpAny_Assign_Name (thn (he pins s σ H _ I h) fun v s1 ⟨y,H1,I1,r1,q1⟩=>?_) hs
 exact zf2 I1 hN hi hx r1 (fun s2 I2=>⟨_,H1,I2,q1⟩) hf
noncomputable def tAug (i:Nat) (te:TE) (ti:TIp):TS:=fun D σ H=>∃ x,σ[i]?=some (some x)∧te σ H fun y H1=>ti x y H1 fun z H2=>D.nx (σ.set i (some z)) H2
theorem zuq {i:Nat} {x:Str} {e:Expr} {te:TE} {op:Operator} {ti:TIp} {pos':Pos} (hN:X.N.Nodup) (hi:X.N[i]?=some x) (hx:Loc X.env.scope x) (he:PE X e te) (ho:PIp X op ti) (hf:X.fn x=true∨X.env.scope.names.lookup x=some .local:=by first | exact .inl rfl | exact .inr rfl | assumption) :
 PS X (.AugAssign (.Name x pos') op e pos) (tAug i te ti):=by
 intro pins s σ H D I h
 obtain ⟨v,e1,h⟩:=h
 obtain ⟨m,hn,hl⟩:=I.loc
 have vis:Vis X.env.scope x:=by rcases hx with k | k; exact .inl k; exact .inr (.inl k)
 obtain ⟨u,r,l⟩:=hl i x v hi e1 vis
 refine wpAny_AugAssign_Name ?_
 have go:wpAny (model X.prog X.w) X.A (eval e X.env) (fun w s₂=>wpAny (model X.prog X.w) X.A (inplaceOp op u w) (fun r s₃=>wpAny (model X.prog X.w) X.A (storeName X.env x r) (fun _=>SP X pins D .next) X.xe s₃) X.xe s₂) X.xe s:=by
  refine thn (he pins s σ H _ I h) fun w s1 hq0=>?_
  obtain ⟨y,H1,I1,r1,q1⟩:=hq0
  refine thn (ho pins s1 σ H1 v y u w _ I1 r r1 q1) fun z s2 hq0=>?_
  obtain ⟨zv,H2,I2,r2,q2⟩:=hq0
  exact zf2 I2 hN hi hx r2 (fun s3 I3=>⟨_,H2,I3,q2⟩) hf
 rcases l with ⟨hk,hm⟩ | ⟨hk,c,hc,hcell⟩
 ·exact wpAny_loadName_local I.ok.kind hk hn hm go
 ·rcases hk with hk | hk
  ·exact wpAny_loadName_cell I.ok.kind hk hc hcell go
  ·rcases hx with k | k
   ·have:X.env.scope.names.lookup x=some .free:=hk
    rw [k] at this; cases this
   ·have:X.env.scope.names.lookup x=some .free:=hk
    rw [k] at this; cases this
noncomputable def ipI (f:Int→Int→Int):TIp:=fun x y H Q=>∃ i j,x=.int i∧y=.int j∧Q (.int (f i j)) H
theorem zur:PIp X .Add (ipI fun i j=>i + j):=by
 intro pins s σ H x y v u Q I r1 r2 h
 obtain ⟨i,j,e1,e2,q⟩:=h
 subst e1; subst e2
 obtain ⟨t,rfl⟩:=r1
 obtain ⟨t',rfl⟩:=r2
 exact iadd_int ⟨.int _,H,I.tok _,⟨_,rfl⟩,q⟩
theorem zus:PIp X .Sub (ipI fun i j=>i - j):=by
 intro pins s σ H x y v u Q I r1 r2 h
 obtain ⟨i,j,e1,e2,q⟩:=h
 subst e1; subst e2
 obtain ⟨t,rfl⟩:=r1
 obtain ⟨t',rfl⟩:=r2
 exact isub_int ⟨.int _,H,I.tok _,⟨_,rfl⟩,q⟩
end
section
variable {X:Cx} {pos:Pos}
noncomputable def zut (c:TT) (tb:TS):TS:=fun D σ H=>∃ W:Nat→St→Hp→Prop,(∃ m,W m σ H)∧∀ m σ H,W m σ H →
 c σ H fun b H1=>if b=true then ∃ N:St→Hp→Prop,(∀ σ' H',N σ' H'→∃ m',m' < m∧W m' σ' H')∧tb { D with nx:=N,ct:=N,bk:=D.nx } σ H1 else D.nx σ H1
theorem zox {c:Expr} {body:List Stmt} {tc:TT} {tb:TS} (hp:PassesOwn (model X.prog X.w) X.A X.env X.xe) (hc:PT X c tc) (hb:PSs X body tb):PS X (.While c body [] pos) (zut tc tb):=by
 intro pins s σ H D I h
 obtain ⟨W,⟨m0,w0⟩,turn⟩:=h
 refine wpAny_While (codeAny_whileLoop (fun n s'=>∃ σ' H',Inv X pins σ' H' s'∧W n σ' H') ?_ m0 ⟨σ,H,I,w0⟩)
 rintro n s1 ⟨σ1,H1,I1,w1⟩
 refine wpAny_passesOwn hp (thn (hc pins s1 σ1 H1 _ I1 (turn n σ1 H1 w1)) fun b s2 hq0=>?_)
 obtain ⟨H2,I2,q2⟩:=hq0
 cases b with
 | true=>
  obtain ⟨N,hN,q2⟩:=q2
  rw [if_pos rfl]
  refine wpAny_passesOwn hp (thn (hb pins s2 σ1 H2 _ I2 q2) fun f s3 q3=>?_)
  cases f with
  | next=>
   obtain ⟨σ3,H3,I3,n3⟩:=q3
   obtain ⟨m',hm,w3⟩:=hN σ3 H3 n3
   exact ⟨m',hm,σ3,H3,I3,w3⟩
  | cont=>
   obtain ⟨σ3,H3,I3,n3⟩:=q3
   obtain ⟨m',hm,w3⟩:=hN σ3 H3 n3
   exact ⟨m',hm,σ3,H3,I3,w3⟩
  | brk=>exact q3
  | ret v=>exact q3
 | false=>
  rw [if_neg Bool.false_ne_true]
  exact wpAny_execs_nil ⟨σ1,H2,I2,q2⟩
end
set_option genInjectivity false in
structure It where
 go:Nat→Hp→Prop
 yld:Nat→Hp→V→Hp→Prop
 stop:Nat→Hp→Prop
noncomputable def FpOk (X:Cx) (pins:List (Addr × Obj)) (H:Hp) (b:Addr):Prop:=
 H b=none∧b≠X.env.locals∧b∉X.fs∧(b∈X.ex∨X.s₀.heap.objs.size≤b)∧(∀ x c,X.env.cells.lookup x=some c→c≠b)∧∀ p∈X.pn++pins,p.1≠b
theorem Inv.fpOk {X:Cx} {pins:List (Addr × Obj)} {σ:St} {H H':Hp} {s:Shared} {b:Addr} (I:Inv X pins σ H s) (hb:s.heap.objs.size≤b) (hn:H' b=none):FpOk X pins H' b:=by
 refine ⟨hn,Nat.ne_of_gt (vak I.lt hb),I.nofs hb,.inr (Nat.le_trans I.sz hb),fun x c e z=>?_,fun p hp z=>?_⟩
 ·obtain ⟨v,q⟩:=I.cell x c e
  exact absurd (vak q.lt (by rw [z]; exact hb)) (Nat.lt_irrefl _)
 ·exact absurd (vak (vat (I.pin p hp).1) (by rw [z]; exact hb)) (Nat.lt_irrefl _)
structure Turn (P:Program) (w:World) (K:PySem.W.Frag) (tg:Expr) (J:It) (fp:List Addr) (it:Addr) (tn:Nat→Heap→Prop):Prop where
 mem:it∈fp
 obj:∀ i h,tn i h→∀ b∈fp,∃ o,h.get? b=some o∧∀ v,o.data≠.cell v
 keep:∀ i h h',tn i h→(∀ b∈fp,∀ o,h.get? b=some o→h'.get? b=some o)→tn i h'
 item:∀ (X:Cx),X.prog=P→X.w=w→X.K=K→X.calm=true→∀ (i:Nat) (pins:List (Addr × Obj)) (s:Shared) (σ:St) (H:Hp) (E:Value→Shared→Prop),Inv X pins σ H s→(∀ b∈fp,FpOk X pins H b)→tn i s.heap→J.go i H →
  wpAny (model P w) X.A (pyNext (.ref it)) (fun r s1=>∃ u,r=some u ∧
   wpAny (model P w) X.A (letOwnedTupleGo tg (.ref it) u) (fun _ s2=>∃ x H',Inv X pins σ H' s2∧RelV x u∧J.yld i H x H'∧tn (i + 1) s2.heap∧∀ b∈fp,H' b=none) E s1) E s
 done:∀ (X:Cx),X.prog=P→X.w=w→X.K=K→X.calm=true→∀ (i:Nat) (pins:List (Addr × Obj)) (s:Shared) (σ:St) (H:Hp) (E:Value→Shared→Prop),Inv X pins σ H s→(∀ b∈fp,FpOk X pins H b)→tn i s.heap→J.stop i H →
  wpAny (model P w) X.A (pyNext (.ref it)) (fun r s1=>r=none∧Inv X pins σ H s1) E s
 self:∀ (A:Around) (i:Nat) (s:Shared) (Q:Value→Shared→Prop) (E:Value→Shared→Prop),tn i s.heap→Q (.ref it) s→wpAny (model P w) A (pyIter (.ref it)) Q E s
noncomputable abbrev TI:=St→Hp→(It→Hp→Prop)→Prop
noncomputable def PIE (X:Cx) (pins:List (Addr × Obj)) (σ:St) (tg:Expr) (R:It→Hp→Prop) (itv:Value) (s2:Shared):Prop:=
 ∃ (it:Addr) (fp:List Addr) (tn:Nat→Heap→Prop) (J:It) (H':Hp),itv=.ref it∧Inv X pins σ H' s2∧Turn X.prog X.w X.K tg J fp it tn∧tn 0 s2.heap∧(∀ b∈fp,FpOk X pins H' b)∧R J H'
noncomputable def PI (X:Cx) (tg iter:Expr) (wi:TI):Prop:=
 ∀ (pins:List (Addr × Obj)) (s:Shared) (σ:St) (H:Hp) (R:It→Hp→Prop),Inv X pins σ H s→wi σ H R →
  wpAny (model X.prog X.w) X.A (eval iter X.env) (fun v s1=>wpAny (model X.prog X.w) X.A (pyIter v) (PIE X pins σ tg R) X.xe s1) X.xe s
theorem go_of {M:Model} {A:Around} {E:Value→Shared→Prop} {s:Shared} {tg:Expr} {it:Addr} {u:Value} {o:Obj} {n:String} {vs:Array Value} {Q:Unit→Shared→Prop} (ho:s.heap.get? it=some o) (hc:o.cls=.type n) (hd:o.data=.fields vs)
 (hn:["enumerate", "zip", "dict_itemiterator", "dict_reverseitemiterator", "odict_iterator", "itertools.zip_longest", "itertools.pairwise"].contains n=false) (hQ:Q () s):wpAny M A (letOwnedTupleGo tg (.ref it) u) Q E s:=by
 unfold letOwnedTupleGo
 cases tg <;> first
  | exact vaf hQ
  | (cases u <;> first
      | exact vaf hQ
      | (refine vaa (wpAny_load ho ?_)
         rw [hc,hd]
         show wpAny M A (if (["enumerate", "zip", "dict_itemiterator", "dict_reverseitemiterator", "odict_iterator", "itertools.zip_longest", "itertools.pairwise"].contains n && vs[0]? == some (rawInt _))=true then _ else _) Q E s
         rw [if_neg (by intro h; rw [hn,Bool.false_and] at h; cases h)]
         exact vaf hQ))
noncomputable def Itl (K:PySem.W.Frag) (a:Addr):It:=
 ⟨fun i H=>∃ xs x,SqL K H a xs∧xs[i]?=some x,fun i H x H'=>H'=H∧∀ xs,SqL K H a xs→xs[i]?=some x,fun i H=>∃ xs,SqL K H a xs∧xs.length≤i⟩
noncomputable def Itt (K:PySem.W.Frag) (a:Addr):It:=
 ⟨fun i H=>∃ xs x,SqT K H a xs∧xs[i]?=some x,fun i H x H'=>H'=H∧∀ xs,SqT K H a xs→xs[i]?=some x,fun i H=>∃ xs,SqT K H a xs∧xs.length≤i⟩
noncomputable def Itr (lo:Int) (n:Nat):It:=⟨fun i _=>i < n,fun i H x H'=>H'=H∧x=.int (lo + i),fun i _=>n≤i⟩
theorem zlr {P:Program} {w:World} {K:PySem.W.Frag} {tg:Expr} (a it:Addr):Turn P w K tg (Itl K a) [it] it (fun i h=>h.IsListIter it a i) where
 mem:=by simp
 obj:=fun i h st b hb=>by
  have e:b=it:=by simpa using hb
  subst e
  obtain ⟨o,e,c,d⟩:=st
  exact ⟨o,e,fun v z=>by rw [d] at z; cases z⟩
 keep:=fun i h h' st k=>st.at fun o e=>k it (by simp) o e
 item:=by
  intro X hP hw hK hc i pins s σ H E I hf st hg
  subst hP hw hK
  obtain ⟨xs,x,hq,hx⟩:=hg
  obtain ⟨its,rv,p,hz⟩:=I.list hq
  obtain ⟨u,hu,ru⟩:=rv.get hx
  obtain ⟨f0,f1,f2,f3,f4,f5⟩:=hf it (by simp)
  refine wpAny_pyNext_list_item st p.isList (x:=u) (by simpa using hu) fun h' st' sb=>?_
  have I1:Inv X pins σ H { s with heap:=h' }:=I.turned (t':=s.toks) (fun b o hb e=>(sb.2 b hb).trans e) f0 f1 f3 f4 f5
  obtain ⟨o,e,c,d⟩:=id st'
  exact ⟨u,rfl,go_of (s:={ s with heap:=h' }) e c d (by decide) ⟨x,H,I1,ru,⟨rfl,fun ys hy=>by rw [I.list_inj hy hq]; exact hx⟩,st',fun b hb=>(hf b hb).1⟩⟩
 done:=by
  intro X hP hw hK hc i pins s σ H E I hf st hg
  subst hP hw hK
  obtain ⟨xs,hq,hx⟩:=hg
  obtain ⟨its,rv,p,hz⟩:=I.list hq
  obtain ⟨f0,f1,f2,f3,f4,f5⟩:=hf it (by simp)
  have hl:=rv.length
  exact wpAny_pyNext_list_end (I.ok.hd hc) st p.isList (by simp; omega) fun h' eb=>⟨rfl,I.turned (t':=s.toks) (fun b o hb e=>eb b o hb e) f0 f1 f3 f4 f5⟩
 self:=fun _ _ _ _ _ st h=>wpAny_pyIter_listiter st h
theorem zks {P:Program} {w:World} {K:PySem.W.Frag} {tg:Expr} (a it:Addr):Turn P w K tg (Itt K a) [it] it (fun i h=>h.IsTupleIter it a i) where
 mem:=by simp
 obj:=fun i h st b hb=>by
  have e:b=it:=by simpa using hb
  subst e
  obtain ⟨o,e,c,d⟩:=st
  exact ⟨o,e,fun v z=>by rw [d] at z; cases z⟩
 keep:=fun i h h' st k=>st.at fun o e=>k it (by simp) o e
 item:=by
  intro X hP hw hK hc i pins s σ H E I hf st hg
  subst hP hw hK
  obtain ⟨xs,x,hq,hx⟩:=hg
  obtain ⟨its,rv,p,hz⟩:=I.tuple hq
  obtain ⟨u,hu,ru⟩:=rv.get hx
  obtain ⟨f0,f1,f2,f3,f4,f5⟩:=hf it (by simp)
  refine wpAny_pyNext_tuple_item st (show s.heap.IsTuple a its.toArray from p) (x:=u) (by simpa using hu) fun h' st' sb=>?_
  have I1:Inv X pins σ H { s with heap:=h' }:=I.turned (t':=s.toks) (fun b o hb e=>(sb.2 b hb).trans e) f0 f1 f3 f4 f5
  obtain ⟨o,e,c,d⟩:=id st'
  exact ⟨u,rfl,go_of (s:={ s with heap:=h' }) e c d (by decide) ⟨x,H,I1,ru,⟨rfl,fun ys hy=>by rw [I.tuple_inj hy hq]; exact hx⟩,st',fun b hb=>(hf b hb).1⟩⟩
 done:=by
  intro X hP hw hK hc i pins s σ H E I hf st hg
  subst hP hw hK
  obtain ⟨xs,hq,hx⟩:=hg
  obtain ⟨its,rv,p,hz⟩:=I.tuple hq
  obtain ⟨f0,f1,f2,f3,f4,f5⟩:=hf it (by simp)
  have hl:=rv.length
  exact wpAny_pyNext_tuple_end (I.ok.hd hc) st (show s.heap.IsTuple a its.toArray from p) (by simp; omega) fun h' eb=>⟨rfl,I.turned (t':=s.toks) (fun b o hb e=>eb b o hb e) f0 f1 f3 f4 f5⟩
 self:=fun _ _ _ _ _ st h=>wpAny_pyIter_tupleiter st h
theorem zkt {P:Program} {w:World} {K:PySem.W.Frag} {tg:Expr} (it:Addr) (lo:Int) (n:Nat):Turn P w K tg (Itr lo n) [it] it (fun i h=>IsRangeIter h it (lo + (i:Nat) * 1) ((n:Int) - (i:Nat)) 1) where
 mem:=by simp
 obj:=fun i h st b hb=>by
  have e:b=it:=by simpa using hb
  subst e
  exact ⟨_,st,fun v z=>by
   have z':Data.fields _=Data.cell v:=z
   cases z'⟩
 keep:=fun i h h' st k=>k it (by simp) _ st
 item:=by
  intro X hP hw hK hc i pins s σ H E I hf st hg
  subst hP hw hK
  obtain ⟨f0,f1,f2,f3,f4,f5⟩:=hf it (by simp)
  have W:=Walks.range (prog:=X.prog) (w:=X.w) (I.ok.hd hc) it lo 1 n
  refine W.item i s _ _ hg st fun v h' tk hv st' kk=>?_
  obtain ⟨t,rfl⟩:=hv
  have I1:Inv X pins σ H { s with heap:=h',toks:=tk }:=I.turned (fun b o hb e=>kk b o (by simpa using hb) e) f0 f1 f3 f4 f5
  refine ⟨_,rfl,go_of (s:={ s with heap:=h',toks:=tk }) (n := "range_iterator") st' rfl rfl (by decide) ⟨.int (lo + i),H,I1,⟨t,?_⟩,⟨rfl,rfl⟩,st',fun b hb=>(hf b hb).1⟩⟩
  rw [Int.mul_one]
 done:=by
  intro X hP hw hK hc i pins s σ H E I hf st hg
  subst hP hw hK
  obtain ⟨f0,f1,f2,f3,f4,f5⟩:=hf it (by simp)
  exact wpAny_pyNext_range_end (I.ok.hd hc) st (by have:n≤i:=hg; omega) fun h' eb=>⟨rfl,I.turned (t':=s.toks) (fun b o hb e=>eb b o hb e) f0 f1 f3 f4 f5⟩
 self:=fun _ _ _ _ _ st h=>wpAny_pyIter_rangeiter st h
section
variable {X:Cx} {tg:Expr}
noncomputable def iList (K:PySem.W.Frag) (tl:TE):TI:=fun σ H R=>tl σ H fun x H1=>∃ a,x=.ref a∧(∃ xs,SqL K H1 a xs)∧R (Itl K a) H1
noncomputable def iTup (K:PySem.W.Frag) (tl:TE):TI:=fun σ H R=>tl σ H fun x H1=>∃ a,x=.ref a∧(∃ xs,SqT K H1 a xs)∧R (Itt K a) H1
theorem zls {l:Expr} {tl:TE} (hl:PE X l tl):PI X tg l (iList X.K tl):=by
 intro pins s σ H R I h
 refine thn (hl pins s σ H _ I h) fun v s1 hq0=>?_
 obtain ⟨x,H1,I1,r1,q1⟩:=hq0
 obtain ⟨a,e,⟨xs,hq⟩,q⟩:=q1
 subst e
 cases r1
 obtain ⟨its,rv,p,hz⟩:=I1.list hq
 refine wpAny_pyIter_list p.isList ?_
 refine ⟨s1.heap.objs.size,[s1.heap.objs.size],_,_,H1,rfl,I1.kept (t':=s1.toks) fun b o e=>vad _ e,zlr a _,⟨_,vaw _ rfl,rfl,rfl⟩,fun b hb=>?_,q⟩
 have e:b=s1.heap.objs.size:=by simpa using hb
 subst e
 exact I1.fpOk (vae _) (I1.hok.fresh (vae _))
theorem zuu {l:Expr} {tl:TE} (hl:PE X l tl):PI X tg l (iTup X.K tl):=by
 intro pins s σ H R I h
 refine thn (hl pins s σ H _ I h) fun v s1 hq0=>?_
 obtain ⟨x,H1,I1,r1,q1⟩:=hq0
 obtain ⟨a,e,⟨xs,hq⟩,q⟩:=q1
 subst e
 cases r1
 obtain ⟨its,rv,p,hz⟩:=I1.tuple hq
 refine wpAny_pyIter_tuple (show s1.heap.IsTuple a its.toArray from p) ?_
 refine ⟨s1.heap.objs.size,[s1.heap.objs.size],_,_,H1,rfl,I1.kept (t':=s1.toks) fun b o e=>vad _ e,zks a _,⟨_,vaw _ rfl,rfl,rfl⟩,fun b hb=>?_,q⟩
 have e:b=s1.heap.objs.size:=by simpa using hb
 subst e
 exact I1.fpOk (vae _) (I1.hok.fresh (vae _))
theorem zjm {pins:List (Addr × Obj)} {σ:St} {H:Hp} {s:Shared} {R:It→Hp→Prop} {E:Value→Shared→Prop} {lo hi:Int} {t u v:Tok} {tk:Nat} (I:Inv X pins σ H s) (h1:-(2 ^ 62)≤lo) (h2:lo < 2 ^ 62) (h3:-(2 ^ 62)≤hi) (h4:hi < 2 ^ 62)
 (q:R (Itr lo (hi - lo).toNat) H):wpAny (model X.prog X.w) X.A (pyIter (.ref s.heap.objs.size)) (PIE X pins σ tg R) E { s with heap:=s.heap.push { cls:=.type "range",data:=.fields #[.int lo t,.int hi u,.int 1 v] },toks:=tk }:=by
 refine wpAny_pyIter_range (IsRange.new ..) (small_one h1 h2 h3 h4) ?_
 have I1:Inv X pins σ H { s with heap:=s.heap.push { cls:=.type "range",data:=.fields #[.int lo t,.int hi u,.int 1 v] },toks:=tk }:=I.kept fun b o e=>vad _ e
 refine ⟨(s.heap.push { cls:=.type "range",data:=.fields #[.int lo t,.int hi u,.int 1 v] }).objs.size,[(s.heap.push { cls:=.type "range",data:=.fields #[.int lo t,.int hi u,.int 1 v] }).objs.size],_,_,H,rfl,
  I1.kept (t':=tk) fun b o e=>vad _ e,zkt _ lo (hi - lo).toNat,?_,fun b hb=>?_,q⟩
 ·have e1:lo + ((0:Nat):Int) * 1=lo:=by simp
  have e2:(((hi - lo).toNat:Nat):Int) - ((0:Nat):Int)=Builtin.Range.rangeSize lo hi 1:=by rw [rangeSize_one]; split <;> omega
  show IsRangeIter _ _ (lo + ((0:Nat):Int) * 1) ((((hi - lo).toNat:Nat):Int) - ((0:Nat):Int)) 1
  rw [e1,e2]
  exact vaw _ rfl
 ·have e:b=(s.heap.push { cls:=.type "range",data:=.fields #[.int lo t,.int hi u,.int 1 v] }).objs.size:=by simpa using hb
  subst e
  exact I1.fpOk (vae _) (I1.hok.fresh (vae _))
noncomputable def iRng1 (ta:TA):TI:=fun σ H R=>ta σ H fun vs H1=>∃ j:Int,vs=[.int j]∧-(2 ^ 62)≤j∧j < 2 ^ 62∧R (Itr 0 j.toNat) H1
noncomputable def iRng2 (ta:TA):TI:=fun σ H R=>ta σ H fun vs H1=>∃ i j:Int,vs=[.int i,.int j]∧(-(2 ^ 62)≤i∧i < 2 ^ 62∧-(2 ^ 62)≤j∧j < 2 ^ 62)∧R (Itr i (j - i).toNat) H1
theorem zlu {a:Expr} {ta:TA} {p pos:Pos} (hg:Gl X "range") (hm:X.mg "range" = none) (ha:PA X [a] ta) (hs:starEach [a] X.env=[(false,eval a X.env)]:=by rfl):PI X tg (.Call (.Name "range" p) [a] [] pos) (iRng1 ta):=by
 intro pins s σ H R I h
 refine Call_ (zed I hg hm boot_range (PyProof.Rows.callWith_type1 (thn (ha pos pins s σ H _ I h) fun us s1 ⟨vs,H1,I1,r1,q1⟩=>?_) hs rfl))
 obtain ⟨j,e,q1,q2,q⟩:=q1
 subst e
 cases r1 with
 | cons r rr=>
  cases rr
  obtain ⟨t,rfl⟩:=r
  exact call_range_1 (zjm I1 (by omega) (by omega) q1 q2 (by simpa using q))
theorem zlv {a b:Expr} {ta:TA} {p pos:Pos} (hg:Gl X "range") (hm:X.mg "range" = none) (ha:PA X [a,b] ta) (hs:starEach [a,b] X.env=[(false,eval a X.env),(false,eval b X.env)]:=by rfl) (hs2:starEach [b] X.env=[(false,eval b X.env)]:=by rfl) :
 PI X tg (.Call (.Name "range" p) [a,b] [] pos) (iRng2 ta):=by
 intro pins s σ H R I h
 refine Call_ (zed I hg hm boot_range (PyProof.Rows.callWith_type1 (thn (ha pos pins s σ H _ I h) fun us s1 ⟨vs,H1,I1,r1,q1⟩=>?_) (by rw [hs,hs2]) (by rw [hs2]; rfl)))
 obtain ⟨i,j,e,⟨q1,q2,q3,q4⟩,q⟩:=q1
 subst e
 cases r1 with
 | cons r rr=>
  cases rr with
  | cons r' rr=>
   cases rr
   obtain ⟨t,rfl⟩:=r
   obtain ⟨t',rfl⟩:=r'
   exact call_range_2 (zjm I1 q1 q2 q3 q4 q)
noncomputable def tFor (wi:TI) (g:TG) (tb:TS):TS:=fun D σ H=>wi σ H fun J H1=>∃ W:Nat→Nat→St→Hp→Prop,(∃ m,W 0 m σ H1)∧∀ i m σ H,W i m σ H →
 (J.stop i H∧D.nx σ H)∨(J.go i H∧∃ N:St→Hp→Prop,(∀ σ' H',N σ' H'→∃ m',m' < m∧W (i + 1) m' σ' H')∧∀ x H',J.yld i H x H'→g x σ H' fun σ2 H2=>tb { D with nx:=N,ct:=N,bk:=D.nx } σ2 H2)
noncomputable def zg2 (fp:List Addr) (h:Heap):List (Addr × Obj):=fp.filterMap fun b=>(h.get? b).map fun o=>(b,o)
theorem zb3 {fp:List Addr} {h:Heap} {b:Addr} {o:Obj} (hb:b∈fp) (e:h.get? b=some o):(b,o)∈zg2 fp h:=List.mem_filterMap.mpr ⟨b,hb,by rw [e]; rfl⟩
theorem zlw {fp:List Addr} {h:Heap} {p:Addr × Obj} (hp:p∈zg2 fp h):p.1∈fp∧h.get? p.1=some p.2:=by
 obtain ⟨b,hb,e⟩:=List.mem_filterMap.mp hp
 cases q:h.get? b with
 | none=>rw [q] at e; cases e
 | some o=>
  rw [q] at e
  have e':(b,o)=p:=Option.some.inj e
  subst e'
  exact ⟨hb,q⟩
theorem Inv.pinned {pins:List (Addr × Obj)} {σ:St} {H:Hp} {s:Shared} {fp:List Addr} (I:Inv X pins σ H s) (hf:∀ b∈fp,FpOk X pins H b) (ho:∀ b∈fp,∃ o,s.heap.get? b=some o∧∀ v,o.data≠.cell v):Inv X (pins++zg2 fp s.heap) σ H s:=
 I.pins_of fun p hp=>(List.mem_append.mp hp).elim (fun z=>I.pin p (List.mem_append_right _ z)) fun z=>by
  obtain ⟨hb,e⟩:=zlw z
  obtain ⟨f0,f1,f2,_⟩:=hf p.1 hb
  obtain ⟨o,e',d⟩:=ho p.1 hb
  rw [e] at e'; cases e'
  exact ⟨e,f0,f1,f2,d⟩
theorem Inv.unpinned {pins pl:List (Addr × Obj)} {σ:St} {H:Hp} {s:Shared} (I:Inv X (pins++pl) σ H s):Inv X pins σ H s:=I.pins_of fun p hp=>I.pin p (List.mem_append_right _ (List.mem_append_left _ hp))
theorem zuv {iter:Expr} {body:List Stmt} {wi:TI} {g:TG} {tb:TS} {pos:Pos} (hp:PassesOwn (model X.prog X.w) X.A X.env X.xe) (hc:X.calm=true) (hi:PI X tg iter wi) (hg:PG X tg g) (hb:PSs X body tb)
 (hs:∀ x,foldedSetIterable iter X.env x=pure x:=by intro _; rfl):PS X (.For tg iter body [] pos) (tFor wi g tb):=by
 intro pins s σ H D I h
 refine wpAny_For (thn (hi pins s σ H _ I h) fun v s1 h1=>thn h1 fun itv s2 h2=>?_) hs
 obtain ⟨it,fp,tn,J,H2,e,I2,T,st2,f2,W,⟨m0,w0⟩,turn⟩:=h2
 subst e
 have stat:∀ {H':Hp},(∀ b∈fp,H' b=none)→∀ b∈fp,FpOk X pins H' b:=fun hn b hb=>⟨hn b hb,(f2 b hb).2⟩
 refine codeAny_forLoop_any (fun n s'=>∃ i σ' H',Inv X pins σ' H' s'∧tn i s'.heap∧(∀ b∈fp,H' b=none)∧W i n σ' H') ?_ m0 ⟨0,σ,H2,I2,st2,fun b hb=>(f2 b hb).1,w0⟩
 rintro n s3 ⟨i,σ3,H3,I3,st3,fr3,w3⟩
 rcases turn i n σ3 H3 w3 with ⟨stop,qn⟩ | ⟨go,N,hN,step⟩
 ·refine wpAny_passesOwn hp (thn (T.done X rfl rfl rfl hc i pins s3 σ3 H3 X.xe I3 (stat fr3) st3 stop) fun r s4 hq0=>?_)
  obtain ⟨hr,I4⟩:=hq0
  subst hr
  exact wpAny_execs_nil ⟨σ3,H3,I4,qn⟩
 ·refine wpAny_passesOwn hp (thn (T.item X rfl rfl rfl hc i pins s3 σ3 H3 X.xe I3 (stat fr3) st3 go) fun r s4 hq0=>?_)
  obtain ⟨u,hr,h4⟩:=hq0
  subst hr
  refine wpAny_passesOwn hp (thn h4 fun _ s5 hq0=>?_)
  obtain ⟨x,H5,I5,r5,y5,st5,fr5⟩:=hq0
  have I5':=I5.pinned (stat fr5) (T.obj _ _ st5)
  refine wpAny_passesOwn hp (thn (hg _ s5 σ3 H5 x u _ I5' r5 (step x H5 y5)) fun _ s6 hq0=>?_)
  obtain ⟨σ6,H6,I6,q6⟩:=hq0
  refine wpAny_passesOwn hp (thn (hb _ s6 σ6 H6 _ I6 q6) fun f s7 q7=>?_)
  have again:∀ {σ7:St} {H7:Hp},Inv X (pins++zg2 fp s5.heap) σ7 H7 s7→N σ7 H7→∃ m,m < n∧∃ i σ' H',Inv X pins σ' H' s7∧tn i s7.heap∧(∀ b∈fp,H' b=none)∧W i m σ' H':=fun {σ7 H7} I7 n7=>by
   obtain ⟨m',hm,w7⟩:=hN σ7 H7 n7
   refine ⟨m',hm,i + 1,σ7,H7,I7.unpinned,T.keep _ _ _ st5 fun b hb o e=>(I7.pin (b,o) (List.mem_append_right _ (List.mem_append_right _ (zb3 hb e)))).1,fun b hb=>?_,w7⟩
   obtain ⟨o,e,d⟩:=T.obj _ _ st5 b hb
   exact (I7.pin (b,o) (List.mem_append_right _ (List.mem_append_right _ (zb3 hb e)))).2.1
  cases f with
  | next=>obtain ⟨σ7,H7,I7,n7⟩:=q7; exact again I7 n7
  | cont=>obtain ⟨σ7,H7,I7,n7⟩:=q7; exact again I7 n7
  | brk=>obtain ⟨σ7,H7,I7,q7⟩:=q7; exact ⟨σ7,H7,I7.unpinned,q7⟩
  | ret v=>obtain ⟨x7,σ7,H7,I7,r7,q7⟩:=q7; exact ⟨x7,σ7,H7,I7.unpinned,r7,q7⟩
end
noncomputable abbrev R2:=V→V→Hp→VK→Prop
noncomputable def OpR (X:Cx) (f:Value→Value→Sem Value) (r:R2):Prop:=
 ∀ (pins:List (Addr × Obj)) (s:Shared) (σ:St) (H:Hp) (x y:V) (v u:Value) (Q:VK),Inv X pins σ H s→RelV x v→RelV y u→r x y H Q →
  wpAny (model X.prog X.w) X.A (f v u) (EP X pins σ Q) X.xe s
noncomputable def UnR (X:Cx) (f:Value→Sem Value) (r:V→Hp→VK→Prop):Prop:=
 ∀ (pins:List (Addr × Obj)) (s:Shared) (σ:St) (H:Hp) (x:V) (v:Value) (Q:VK),Inv X pins σ H s→RelV x v→r x H Q →
  wpAny (model X.prog X.w) X.A (f v) (EP X pins σ Q) X.xe s
noncomputable def CallR (X:Cx) (f:Value) (r:List V→Hp→VK→Prop):Prop:=
 ∀ (pins:List (Addr × Obj)) (s:Shared) (σ:St) (H:Hp) (xs:List V) (us:List Value) (Q:VK),Inv X pins σ H s→Vals xs us→r xs H Q →
  wpAny (model X.prog X.w) X.A (call f us) (EP X pins σ Q) X.xe s
noncomputable def TruR (X:Cx) (r:V→Hp→(Bool→Hp→Prop)→Prop):Prop:=
 ∀ (pins:List (Addr × Obj)) (s:Shared) (σ:St) (H:Hp) (x:V) (v:Value) (Q:Bool→Hp→Prop),Inv X pins σ H s→RelV x v→r x H Q →
  wpAny (model X.prog X.w) X.A (truthy v) (TP X pins σ Q) X.xe s
noncomputable def tOp (r:R2) (ta tb:TE):TE:=fun σ H Q=>ta σ H fun x H1=>tb σ H1 fun y H2=>r x y H2 Q
noncomputable def tUn (r:V→Hp→VK→Prop) (ta:TE):TE:=fun σ H Q=>ta σ H fun x H1=>r x H1 Q
noncomputable def rI (C:Int→Int→Prop) (g:Int→Int→V):R2:=fun x y H Q=>∃ i j,x=.int i∧y=.int j∧C i j∧Q (g i j) H
noncomputable def rI0 (g:Int→Int→V):R2:=fun x y H Q=>∃ i j,x=.int i∧y=.int j∧Q (g i j) H
noncomputable def rU (g:Int→V):V→Hp→VK→Prop:=fun x H Q=>∃ i,x=.int i∧Q (g i) H
section
variable {X:Cx} {a b c:Expr} {ta tb tc:TE} {pos:Pos}
theorem binT (ha:PE X a ta) (hb:PE X b tb) {pins:List (Addr × Obj)} {s:Shared} {σ:St} {H:Hp} {R:V→V→Hp→Prop} (I:Inv X pins σ H s)
 (h:ta σ H fun x H1=>tb σ H1 fun y H2=>R x y H2) {Q:Value→Shared→Prop} {f:Value→Value→Sem Value}
 (hf:∀ v u s2 x y H2,Inv X pins σ H2 s2→RelV x v→RelV y u→R x y H2→wpAny (model X.prog X.w) X.A (f v u) Q X.xe s2) :
 wpAny (model X.prog X.w) X.A (eval a X.env) (fun v s₁=>wpAny (model X.prog X.w) X.A (eval b X.env) (fun u s₂=>wpAny (model X.prog X.w) X.A (f v u) Q X.xe s₂) X.xe s₁) X.xe s:=by
 refine thn (ha pins s σ H _ I h) fun v s1 hq0=>?_
 obtain ⟨x,H1,I1,r1,q1⟩:=hq0
 refine thn (hb pins s1 σ H1 _ I1 q1) fun u s2 hq0=>?_
 obtain ⟨y,H2,I2,r2,q2⟩:=hq0
 exact hf v u s2 x y H2 I2 r1 r2 q2
theorem pe_op {op:Operator} {r:R2} (ho:OpR X (binaryOp op) r) (ha:PE X a ta) (hb:PE X b tb):PE X (.BinOp a op b pos) (tOp r ta tb):=by
 intro pins s σ H Q I h
 exact wpAny_BinOp (binT ha hb I h fun v u s2 x y H2 I2 rx ry q=>ho pins s2 σ H2 x y v u Q I2 rx ry q)
theorem pe_un {op:UnaryOp} {r:V→Hp→VK→Prop} (ho:UnR X (unaryOp op) r) (ha:PE X a ta):PE X (.UnaryOp op a pos) (tUn r ta):=by
 intro pins s σ H Q I h
 exact UnaryOp_ (thn (ha pins s σ H _ I h) fun v s1 ⟨x,H1,I1,r1,q1⟩=>ho pins s1 σ H1 x v Q I1 r1 q1)
theorem opI {f:Value→Value→Sem Value} {C:Int→Int→Prop} {g:Int→Int→Int}
 (rule:∀ (i j:Int) (t u:Tok) (s:Shared) (Q:Value→Shared→Prop) (E:Value→Shared→Prop),C i j→Q (.int (g i j) s.toks) { s with toks:=s.toks + 1 } → wpAny (model X.prog X.w) X.A (f (.int i t) (.int j u)) Q E s) :
 OpR X f (rI C fun i j=>.int (g i j)):=by
 intro pins s σ H x y v u Q I rx ry h
 obtain ⟨i,j,rfl,rfl,hc,q⟩:=h
 obtain ⟨t,rfl⟩:=rx
 obtain ⟨t',rfl⟩:=ry
 exact rule i j t t' s _ _ hc ⟨.int (g i j),H,I.tok _,⟨_,rfl⟩,q⟩
theorem opI0 {f:Value→Value→Sem Value} {g:Int→Int→Int}
 (rule:∀ (i j:Int) (t u:Tok) (s:Shared) (Q:Value→Shared→Prop) (E:Value→Shared→Prop),Q (.int (g i j) s.toks) { s with toks:=s.toks + 1 } → wpAny (model X.prog X.w) X.A (f (.int i t) (.int j u)) Q E s) :
 OpR X f (rI0 fun i j=>.int (g i j)):=by
 intro pins s σ H x y v u Q I rx ry h
 obtain ⟨i,j,rfl,rfl,q⟩:=h
 obtain ⟨t,rfl⟩:=rx
 obtain ⟨t',rfl⟩:=ry
 exact rule i j t t' s _ _ ⟨.int (g i j),H,I.tok _,⟨_,rfl⟩,q⟩
theorem opB0 {f:Value→Value→Sem Value} {g:Int→Int→Bool}
 (rule:∀ (i j:Int) (t u:Tok) (s:Shared) (Q:Value→Shared→Prop) (E:Value→Shared→Prop),Q (.bool (g i j)) s→wpAny (model X.prog X.w) X.A (f (.int i t) (.int j u)) Q E s) :
 OpR X f (rI0 fun i j=>.bl (g i j)):=by
 intro pins s σ H x y v u Q I rx ry h
 obtain ⟨i,j,rfl,rfl,q⟩:=h
 obtain ⟨t,rfl⟩:=rx
 obtain ⟨t',rfl⟩:=ry
 exact rule i j t t' s _ _ ⟨.bl (g i j),H,I,rfl,q⟩
noncomputable def CDiv (i j:Int):Prop:=0 < j∧j < 1073741824
noncomputable def CPow (i j:Int):Prop:=0≤j∧j≤1000000∧i.natAbs < 2 ^ 64
noncomputable def CMul (i j:Int):Prop:=(-(2 ^ 64) < i∧i < 2 ^ 64)∨(-(2 ^ 64) < j∧j < 2 ^ 64)
theorem CMul.ok {i j:Int} (h:CMul i j):IntMulOk i j:=by
 rcases h with ⟨h1,h2⟩ | ⟨h1,h2⟩
 ·exact .of_left (intBits_le_64 h1 h2)
 ·exact .of_right (intBits_le_64 h1 h2)
theorem zuw:OpR X (binaryOp .Add) (rI0 fun i j=>.int (i + j)):=opI0 fun _ _ _ _ _ _ _ q=>add_int q
theorem zux:OpR X (binaryOp .Sub) (rI0 fun i j=>.int (i - j)):=opI0 fun _ _ _ _ _ _ _ q=>sub_int q
theorem zuy:OpR X (binaryOp .Mult) (rI CMul fun i j=>.int (i * j)):=opI fun _ _ _ _ _ _ _ hc q=>mul_int q hc.ok
theorem zr6:OpR X (binaryOp .FloorDiv) (rI CDiv fun i j=>.int (i / j)):=opI fun i j _ _ _ _ _ hc q=>by
 have h1:(0:Int) < j:=hc.1
 have h2:j < 1073741824:=hc.2
 exact floordiv_int (by omega) (by rw [Int.fdiv_eq_ediv_of_nonneg i (by omega)]; exact q) (.inl (PyProof.noPylong_small (by omega)))
theorem zuz:OpR X (binaryOp .Mod) (rI (fun _ j=>0 < j) fun i j=>.int (i % j)):=opI fun i j _ _ _ _ _ hc q=>by
 have h1:(0:Int) < j:=hc
 exact mod_int' (by omega) (by rw [Int.fmod_eq_emod_of_nonneg i (by omega)]; exact q)
theorem zu0:OpR X (binaryOp .Pow) (rI CPow fun i j=>.int (i ^ j.toNat)):=opI fun _ _ _ _ _ _ _ hc q=>pow_int_small hc.1 hc.2.1 hc.2.2 q
theorem zu1:OpR X (binaryOp .LShift) (rI CPow fun i j=>.int (i * 2 ^ j.toNat)):=opI fun _ _ _ _ _ _ _ hc q=>lshift_int_small hc.1 hc.2.1 hc.2.2 q
theorem zr7:OpR X (inplaceOp .Mult) (rI CMul fun i j=>.int (i * j)):=opI fun _ _ _ _ _ _ _ hc q=>imul_int q hc.ok
theorem zoy:OpR X (inplaceOp .FloorDiv) (rI CDiv fun i j=>.int (i / j)):=opI fun i j _ _ _ _ _ hc q=>by
 have h1:(0:Int) < j:=hc.1
 have h2:j < 1073741824:=hc.2
 exact ifloordiv_int (by omega) (by rw [Int.fdiv_eq_ediv_of_nonneg i (by omega)]; exact q) (.inl (PyProof.noPylong_small (by omega)))
theorem unI {f:Value→Sem Value} {g:Int→Int}
 (rule:∀ (i:Int) (t:Tok) (s:Shared) (Q:Value→Shared→Prop) (E:Value→Shared→Prop),Q (.int (g i) s.toks) { s with toks:=s.toks + 1 } → wpAny (model X.prog X.w) X.A (f (.int i t)) Q E s) :
 UnR X f (rU fun i=>.int (g i)):=by
 intro pins s σ H x v Q I rx h
 obtain ⟨i,rfl,q⟩:=h
 obtain ⟨t,rfl⟩:=rx
 exact rule i t s _ _ ⟨.int (g i),H,I.tok _,⟨_,rfl⟩,q⟩
theorem zu2:UnR X (unaryOp .USub) (rU fun i=>.int (-i)):=unI fun _ _ _ _ _ q=>neg_int q
end
section
variable {X:Cx} {a b c:Expr} {ta tb tc:TE} {pos:Pos}
theorem zjn {pins:List (Addr × Obj)} {σ:St} {H:Hp} {s:Shared} {Q:VK} {k k':Bool} (I:Inv X pins σ H s) (q:Q (.bl k) H) (e:k=k'):EP X pins σ Q (.bool k') s:=by
 subst e
 exact ⟨.bl k,H,I,rfl,q⟩
theorem op_lt:OpR X (compareOp .Lt) (rI0 fun i j=>.bl (decide (i < j))):=opB0 fun _ _ _ _ _ _ _ q=>lt_int q
theorem op_le:OpR X (compareOp .LtE) (rI0 fun i j=>.bl (decide (i≤j))):=opB0 fun _ _ _ _ _ _ _ q=>le_int q
theorem op_gt:OpR X (compareOp .Gt) (rI0 fun i j=>.bl (decide (j < i))):=opB0 fun _ _ _ _ _ _ _ q=>gt_int q
theorem op_ge:OpR X (compareOp .GtE) (rI0 fun i j=>.bl (decide (j≤i))):=opB0 fun _ _ _ _ _ _ _ q=>ge_int q
theorem zu3:OpR X (compareOp .Is) (fun x y H Q=>y=.non∧Q (.bl (decide (x=.non))) H):=by
 intro pins s σ H x y v u Q I rx ry h
 obtain ⟨rfl,q⟩:=h
 cases ry
 refine is_none_gen (zjn I q ?_)
 cases x <;> first
  | (cases rx; rfl)
  | (obtain ⟨t,rfl⟩:=rx; rfl)
theorem zr8:OpR X (compareOp .IsNot) (fun x y H Q=>y=.non∧Q (.bl (!decide (x=.non))) H):=by
 intro pins s σ H x y v u Q I rx ry h
 obtain ⟨rfl,q⟩:=h
 cases ry
 refine isnot_none_gen (zjn I q ?_)
 cases x <;> first
  | (cases rx; rfl)
  | (obtain ⟨t,rfl⟩:=rx; rfl)
theorem OpR.or {f:Value→Value→Sem Value} {r r':R2} (h:OpR X f r) (h':OpR X f r'):OpR X f (fun x y H Q=>r x y H Q∨r' x y H Q):=by
 intro pins s σ H x y v u Q I rx ry q
 rcases q with q | q
 ·exact h pins s σ H x y v u Q I rx ry q
 ·exact h' pins s σ H x y v u Q I rx ry q
theorem zr9 {op:CmpOp} {r:R2} (ho:OpR X (compareOp op) r) (ha:PE X a ta) (hb:PE X b tb) (hm:behindInMarks op b=false):PE X (.Compare a [op] [b] pos) (tOp r ta tb):=by
 intro pins s σ H Q I h
 exact wpAny_Compare1 (binT ha hb I h fun v u s2 x y H2 I2 rx ry q=>ho pins s2 σ H2 x y v u Q I2 rx ry q) hm
noncomputable def tTest (t:TE):TT:=fun σ H Q=>t σ H fun x H'=>∃ k,x=.bl k∧Q k H'
theorem zsa {op:CmpOp} {r:R2} (ho:OpR X (compareOp op) r) (ha:PE X a ta) (hb:PE X b tb) (hm:behindInMarks op b=false):PT X (.Compare a [op] [b] pos) (tTest (tOp r ta tb)):=by
 intro pins s σ H Q I h
 refine wpAny_isTrue_Compare1 (thn (ha pins s σ H _ I h) fun v s1 ⟨x,H1,I1,r1,q1⟩=>thn (hb pins s1 σ H1 _ I1 q1) fun u s2 ⟨y,H2,I2,r2,q2⟩=>
  thn (ho pins s2 σ H2 x y v u _ I2 r1 r2 q2) fun c s3 ⟨z,H3,I3,r3,k,e,q3⟩=>?_) hm
 subst e
 cases r3
 exact wpAny_truthy_bool ⟨H3,I3,q3⟩
noncomputable def zlx (r r':R2) (ta tb tc:TE):TE:=fun σ H Q=>ta σ H fun x H1=>tb σ H1 fun y H2=>r x y H2 fun z H3=>∃ k,z=.bl k ∧
 (if k=true then tc σ H3 fun w' H4=>r' y w' H4 Q else Q (.bl false) H3)
theorem zoz {op op':CmpOp} {r r':R2} (ho:OpR X (compareOp op) r) (ho':OpR X (compareOp op') r') (ha:PE X a ta) (hb:PE X b tb) (hc:PE X c tc)
 (hm:lastMarks [op,op'] [b,c]=false:=by with_unfolding_all rfl):PE X (.Compare a [op,op'] [b,c] pos) (zlx r r' ta tb tc):=by
 intro pins s σ H Q I h
 refine Compare_chain (thn (ha pins s σ H _ I h) fun v s1 ⟨x,H1,I1,r1,q1⟩=>chain_link (thn (hb pins s1 σ H1 _ I1 q1) fun u s2 ⟨y,H2,I2,r2,q2⟩=>
  thn (ho pins s2 σ H2 x y v u _ I2 r1 r2 q2) fun d s3 ⟨z,H3,I3,r3,k,e,q3⟩=>?_)) hm
 subst e
 cases r3
 refine wpAny_truthy_bool ?_
 cases k with
 | false=>exact ite_ff ⟨.bl false,H3,I3,rfl,q3⟩
 | true=>exact ite_tt (chain_last (thn (hc pins s3 σ H3 _ I3 q3) fun w' s4 ⟨z',H4,I4,r4,q4⟩=>ho' pins s4 σ H4 y z' u w' Q I4 r2 r4 q4))
theorem zo0 {op op':CmpOp} {r r':R2} (ho:OpR X (compareOp op) r) (ho':OpR X (compareOp op') r') (ha:PE X a ta) (hb:PE X b tb) (hc:PE X c tc)
 (hm:lastMarks [op,op'] [b,c]=false:=by with_unfolding_all rfl):PT X (.Compare a [op,op'] [b,c] pos) (tTest (zlx r r' ta tb tc)):=by
 intro pins s σ H Q I h
 refine isTrue_chain (thn (ha pins s σ H _ I h) fun v s1 ⟨x,H1,I1,r1,q1⟩=>test_link (thn (hb pins s1 σ H1 _ I1 q1) fun u s2 ⟨y,H2,I2,r2,q2⟩=>
  thn (ho pins s2 σ H2 x y v u _ I2 r1 r2 q2) fun d s3 ⟨z,H3,I3,r3,k,e,q3⟩=>?_)) hm
 subst e
 cases r3
 refine wpAny_truthy_bool ?_
 cases k with
 | false=>
  obtain ⟨k',e',q'⟩:=q3
  cases e'
  exact ite_ff ⟨H3,I3,q'⟩
 | true=>
  refine ite_tt (test_last (thn (hc pins s3 σ H3 _ I3 q3) fun w' s4 ⟨z',H4,I4,r4,q4⟩=>thn (ho' pins s4 σ H4 y z' u w' _ I4 r2 r4 q4) fun d' s5 hq0=>?_))
  obtain ⟨z2,H5,I5,r5,k2,e2,q5⟩:=hq0
  subst e2
  cases r5
  exact wpAny_truthy_bool ⟨H5,I5,q5⟩
noncomputable def TruV (K:PySem.W.Frag) (x:V) (H:Hp) (k:Bool):Prop:=
 match x with
 | .non=>k=false
 | .bl b=>k=b
 | .int i=>k=(i != 0)
 | .str y=>y.length≤sizeLine∧k=((y.length:Int) != 0)
 | .byt y=>y.size≤sizeLine∧k=((y.size:Int) != 0)
 | .ref p=>(∃ xs,SqL K H p xs∧k=!xs.isEmpty)∨(∃ xs,SqT K H p xs∧k=!xs.isEmpty)∨∃ kvs,H p=some (.dK kvs)∧k=!kvs.isEmpty
 | _=>False
theorem zku {κ:Type} {kvs:List (κ × V)} {vs:List (κ × Value)} (r:KV kvs vs):(!vs.isEmpty)=!kvs.isEmpty:=by
 cases r <;> rfl
theorem ze5 {xs:List V} {its:List Value} (r:Vals xs its):(!its.toArray.isEmpty)=!xs.isEmpty:=by
 cases r <;> simp
theorem zg3:(sizeLine:Nat) < 2 ^ 63:=by rw [sizeLine_eq]; decide
theorem zu4:TruR X (fun x H Q=>∃ k,TruV X.K x H k∧Q k H):=by
 intro pins s σ H x v Q I rx h
 obtain ⟨k,e,q⟩:=h
 have hl:=zg3
 have hs:sizeLine=16777216:=sizeLine_eq
 cases x with
 | non=>
  cases rx
  have e':k=false:=e
  subst e'
  exact truthy_none ⟨H,I,q⟩
 | bl b=>
  cases rx
  have e':k=b:=e
  subst e'
  exact wpAny_truthy_bool ⟨H,I,q⟩
 | int i=>
  obtain ⟨t,rfl⟩:=rx
  have e':k=(i != 0):=e
  subst e'
  exact PySem.P.truthy_int ⟨H,I,q⟩
 | str y=>
  obtain ⟨t,rfl⟩:=rx
  obtain ⟨hy,e'⟩:y.length≤sizeLine∧k=((y.length:Int) != 0):=e
  subst e'
  exact PySem.P.truthy_str (by omega) ⟨H,I.tok _,q⟩
 | byt y=>
  obtain ⟨t,rfl⟩:=rx
  obtain ⟨hy,e'⟩:y.size≤sizeLine∧k=((y.size:Int) != 0):=e
  subst e'
  exact PySem.W.truthy_bytes (by omega) ⟨H,I.tok _,q⟩
 | ref p=>
  cases rx
  have e':(∃ xs,SqL X.K H p xs∧k=!xs.isEmpty)∨(∃ xs,SqT X.K H p xs∧k=!xs.isEmpty)∨∃ kvs,H p=some (.dK kvs)∧k=!kvs.isEmpty:=e
  rcases e' with ⟨xs,hx,e'⟩ | ⟨xs,hx,e'⟩ | ⟨kvs,hx,e'⟩
  ·subst e'
   obtain ⟨its,r,pl,hz⟩:=I.list hx
   have hlen:=r.length
   exact wpAny_truthy_list pl.isList (by simp only [vai]; omega) ⟨H,I.tok _,by rw [ze5 r]; exact q⟩
  ·subst e'
   obtain ⟨its,r,pl,hz⟩:=I.tuple hx
   have hlen:=r.length
   exact truthy_tuple pl (by simp only [vai]; omega) ⟨H,I.tok _,by rw [ze5 r]; exact q⟩
  ·subst e'
   obtain ⟨hz,hS,vs,r,m⟩:kvs.length≤sizeLine∧(p == sysModules)=false∧∃ vs,KV kvs vs∧s.heap.DictOf (za1 X.prog X.w) p vs:=I.hok p _ hx
   have hlen:kvs.length=vs.length:=Paired.length r
   exact wpAny_truthy_dict hS m (by omega) ⟨H,I.tok _,by rw [zku r]; exact q⟩
 | _=>exact (show False from e).elim
theorem zo1 (ha:PE X a ta) (he:∀ whole,isTrue a X.env whole=(do let v ← whole; standAt a.pos; holding [v] (truthy v))) :
 PT X a (fun σ H Q=>ta σ H fun x H'=>∃ k,TruV X.K x H' k∧Q k H'):=by
 intro pins s σ H Q I h
 exact isTrue_plain (thn (ha pins s σ H _ I h) fun v s1 ⟨x,H1,I1,r1,q1⟩=>zu4 pins s1 σ H1 x v Q I1 r1 q1) (he _)
theorem vals1 {x:V} {us:List Value} (r:Vals [x] us):∃ u,us=[u]∧RelV x u:=by
 cases r with
 | cons r1 r2=>cases r2; exact ⟨_,rfl,r1⟩
theorem vals2 {x y:V} {us:List Value} (r:Vals [x,y] us):∃ u w',us=[u,w']∧RelV x u∧RelV y w':=by
 cases r with
 | cons r1 r2=>
  cases r2 with
  | cons r3 r4=>cases r4; exact ⟨_,_,rfl,r1,r3⟩
theorem zo2:CallR X (.builtin "abs") (fun xs H Q=>∃ i,xs=[.int i]∧Q (.int (if i < 0 then -i else i)) H):=by
 intro pins s σ H xs us Q I r h
 obtain ⟨i,rfl,q⟩:=h
 obtain ⟨u,rfl,t,rfl⟩:=vals1 r
 exact call_abs_int fun u tk=>⟨.int (if i < 0 then -i else i),H,I.tok _,⟨_,rfl⟩,q⟩
theorem zly (hc:X.calm=true):CallR X (.builtin "max") (fun xs H Q=>∃ i j,xs=[.int i,.int j]∧Q (.int (if j > i then j else i)) H):=by
 intro pins s σ H xs us Q I r h
 obtain ⟨i,j,rfl,q⟩:=h
 obtain ⟨u,w',rfl,⟨t,rfl⟩,⟨t',rfl⟩⟩:=vals2 r
 refine max_two_ints (I.ok.hd hc) fun h' tk k=>⟨_,H,I.kept k,?_,q⟩
 by_cases hj:j > i
 ·rw [if_pos hj,if_pos hj]; exact ⟨_,rfl⟩
 ·rw [if_neg hj,if_neg hj]; exact ⟨_,rfl⟩
theorem zlz (hc:X.calm=true):CallR X (.builtin "min") (fun xs H Q=>∃ i j,xs=[.int i,.int j]∧Q (.int (if j < i then j else i)) H):=by
 intro pins s σ H xs us Q I r h
 obtain ⟨i,j,rfl,q⟩:=h
 obtain ⟨u,w',rfl,⟨t,rfl⟩,⟨t',rfl⟩⟩:=vals2 r
 refine min_two_ints (I.ok.hd hc) fun h' tk k=>⟨_,H,I.kept k,?_,q⟩
 by_cases hj:j < i
 ·rw [if_pos hj,if_pos hj]; exact ⟨_,rfl⟩
 ·rw [if_neg hj,if_neg hj]; exact ⟨_,rfl⟩
theorem zl0:CallR X (.type "int") (fun xs H Q=>(∃ i,xs=[.int i]∧Q (.int i) H)∨∃ k,xs=[.bl k]∧Q (.int (if k then 1 else 0)) H):=by
 intro pins s σ H xs us Q I r h
 rcases h with ⟨i,rfl,q⟩ | ⟨k,rfl,q⟩
 ·obtain ⟨u,rfl,t,rfl⟩:=vals1 r
  exact call_int_int ⟨.int i,H,I,⟨_,rfl⟩,q⟩
 ·obtain ⟨u,rfl,r1⟩:=vals1 r
  cases r1
  exact call_int_bool ⟨.int (if k then 1 else 0),H,I.tok _,⟨_,rfl⟩,q⟩
end
structure ObjM (h:Heap) (x dx C:Addr) (mA:Str→Option Value):Prop where
 obj:h.get? x=some (PySem.W.instObj C dx)
 ns:h.Ns1 dx mA
 ne:dx≠x
theorem zl1 {h:Heap} {dx:Addr} {mA:Str→Option Value} (n:h.Ns1 dx mA):∃ od,h.get? dx=some od∧∀ name,PySem.W.lookIn name od=some (mA name):=by
 obtain ⟨o,es,ep,ho,hd,hk,_,hm⟩:=n
 refine ⟨o,ho,fun name=>?_⟩
 have e:=hm name
 unfold nsFind findBy at e
 rw [← Array.find?_toList] at e
 unfold PySem.W.lookIn
 rw [hd]
 dsimp only
 split
 ·rename_i y q
  rw [q] at e
  exact congrArg some e
 ·rename_i q
  rw [q] at e
  have a:es.toList.any (·.refKey)=false:=by
   rw [List.any_eq_false]
   intro y hy
   obtain ⟨z,t,hkey⟩:=hk y (Array.mem_toList_iff.mp hy)
   simp [DictEntry.refKey,hkey]
  have a':¬ es.toList.any (·.refKey)=true:=by rw [a]; exact Bool.false_ne_true
  rw [if_neg a']
  exact congrArg some e
theorem ObjM.look {h:Heap} {x dx C:Addr} {mA:Str→Option Value} (I:ObjM h x dx C mA):∃ od,PySem.W.InstAt h x (PySem.W.instObj C dx) C (some od)∧∀ name,PySem.W.lookIn name od=some (mA name):=
 let ⟨od,ho,hl⟩:=zl1 I.ns
 ⟨od,⟨I.obj,rfl,rfl,ho⟩,hl⟩
theorem RelO.some_of {v:V} {o:Option Value} (r:RelO (some v) o):∃ u,o=some u∧RelV v u:=by
 cases o with
 | none=>exact (show False from r).elim
 | some u=>exact ⟨u,rfl,r⟩
section
variable {P:Program} {w:World} {H H':Hp} {h h':Heap} {a C dx:Addr} {fs fs':List (Str × V)}
theorem zsb (hok:HOk P w H h) (e:H a=some (.ins C dx fs)):∃ mA,ObjM h a dx C mA∧(∀ f,RelO (fs.lookup f) (mA f))∧PySem.Within mA (fs.map (·.1))∧fs.length≤1000∧H dx=some (.own a):=by
 obtain ⟨d,z,ne,ob,mA,n,r,q⟩:=(show ObjOk P w H h a (.ins C dx fs) from hok a _ e)
 exact ⟨mA,⟨ob,n,ne⟩,r,q,z,d⟩
end
structure Cls (K:PySem.W.Frag) (C:Addr):Prop where
 pg:PySem.W.plainGet K C Str.empty=true
 hd:PySem.W.hasDictIn K C=true
 po:PySem.W.plainOver K C=true
 sa:PySem.W.findIn K (.ref C) "__setattr__" = some (some (.builtin "object.__setattr__"))
theorem Cls.get {K:PySem.W.Frag} {C:Addr} (c:Cls K C) (f:Str):PySem.W.plainGet K C f=true:=c.pg
section
variable {X:Cx} {pins:List (Addr × Obj)} {σ:St} {H:Hp} {s:Shared} {A:Around} {E:Value→Shared→Prop} {Q:Value→Shared→Prop} {c:Value} {b:Bool}
inductive TyOf (K:PySem.W.Frag) (H:Hp):V→Value→Prop where
 | non:TyOf K H .non (.type "NoneType")
 | bl (x:Bool):TyOf K H (.bl x) (.type "bool")
 | int (i:Int):TyOf K H (.int i) (.type "int")
 | str (x:Str):TyOf K H (.str x) (.type "str")
 | flt (x:UInt64):TyOf K H (.flt x) (.type "float")
 | lst {a:Addr} {xs:List V} (e:H a=some (.lst xs)):TyOf K H (.ref a) (.type "list")
 | frz {a:Addr} {o:Obj} {xs:List V} (e:H a=some (.frz o (.lst xs))):TyOf K H (.ref a) (.type "list")
 | tup {a:Addr} {xs:List V} (e:H a=some (.tup xs)):TyOf K H (.ref a) (.type "tuple")
 | dK {a:Addr} {kvs:List (Key × V)} (e:H a=some (.dK kvs)):TyOf K H (.ref a) (.type "dict")
 | dT {a:Addr} {kvs:List (List Key × V)} (e:H a=some (.dT kvs)):TyOf K H (.ref a) (.type "dict")
 | ins {a C dx:Addr} {fs:List (Str × V)} (e:H a=some (.ins C dx fs)) (cl:Cls K C) (ha:PySem.W.findIn K (.ref C) "__class__" = some (some (.builtin "object.__class__")))
    (hn:PySem.W.specialIn K (.builtin "object.__class__") "__get__" = some (some (.builtin "getset_descriptor.__get__"))) (htk:PySem.W.takesIn K (.builtin "object.__class__")=some true)
    (hm:PySem.W.mroIn K C (.type "object")=some true):TyOf K H (.ref a) (.ref C)
theorem zl2 {x:V} {u t:Value} (I:Inv X pins σ H s) (rx:RelV x u) (ty:TyOf X.K H x t) (e:PySem.W.kitOne X.K t c=some b) (h:∀ tk,Q (.bool b) { s with toks:=tk }) :
 wpAny (model X.prog X.w) A (call (.builtin "isinstance") [u,c]) Q E s:=by
 cases ty with
 | non=>cases (show u=Value.none from rx); exact PySem.W.kia_one PySem.W.kitx_none I.kIn True.intro e (fun z=>nomatch z) h
 | bl y=>cases (show u=Value.bool y from rx); exact PySem.W.kia_one PySem.W.kitx_bool I.kIn True.intro e (fun z=>nomatch z) h
 | int i=>obtain ⟨t,q⟩:=(show ∃ t,u=Value.int i t from rx); cases q; exact PySem.W.kia_one PySem.W.kitx_int I.kIn True.intro e (fun z=>nomatch z) h
 | str y=>obtain ⟨t,q⟩:=(show ∃ t,u=Value.str y t from rx); cases q; exact PySem.W.kia_one PySem.W.kitx_str I.kIn True.intro e (fun z=>nomatch z) h
 | flt y=>obtain ⟨t,q⟩:=(show ∃ t,u=Value.float y t from rx); cases q; exact PySem.W.kia_one PySem.W.kitx_float I.kIn True.intro e (fun z=>nomatch z) h
 | @lst a xs ea=>
  cases (show u=Value.ref a from rx)
  obtain ⟨_,_,n,_,h1⟩:=(show ObjOk X.prog X.w H s.heap a (.lst xs) from I.hok a _ ea)
  exact PySem.W.kia_one PySem.W.kitx_list I.kIn ⟨_,h1,rfl⟩ e (fun z=>nomatch z) h
 | @frz a ob xs ea=>
  cases (show u=Value.ref a from rx)
  obtain ⟨_,_,_,n,_,h1⟩:=(show ObjOk X.prog X.w H s.heap a (.frz ob (.lst xs)) from I.hok a _ ea)
  exact PySem.W.kia_one PySem.W.kitx_list I.kIn ⟨_,h1,rfl⟩ e (fun z=>nomatch z) h
 | @tup a xs ea=>
  cases (show u=Value.ref a from rx)
  obtain ⟨_,_,_,p⟩:=(show ObjOk X.prog X.w H s.heap a (.tup xs) from I.hok a _ ea)
  obtain ⟨o,h1,h2,_⟩:=p
  exact PySem.W.kia_one PySem.W.kitx_tuple I.kIn ⟨o,h1,h2⟩ e (fun z=>nomatch z) h
 | @dK a kvs ea=>
  cases (show u=Value.ref a from rx)
  obtain ⟨_,_,vs,_,p⟩:=(show ObjOk X.prog X.w H s.heap a (.dK kvs) from I.hok a _ ea)
  obtain ⟨o,es,ep,h1,h2,_⟩:=p
  exact PySem.W.kia_one PySem.W.kitx_dict I.kIn ⟨o,h1,h2.1⟩ e (fun z=>nomatch z) h
 | @dT a kvs ea=>
  cases (show u=Value.ref a from rx)
  obtain ⟨_,_,xs,_,o,es,ep,h1,h2,_⟩:=(show ObjOk X.prog X.w H s.heap a (.dT kvs) from I.hok a _ ea)
  exact PySem.W.kia_one PySem.W.kitx_dict I.kIn ⟨o,h1,h2.1⟩ e (fun z=>nomatch z) h
 | @ins a C dx fs ea cl ha hn htk hm=>
  cases (show u=Value.ref a from rx)
  obtain ⟨mA,O,_⟩:=zsb I.hok ea
  obtain ⟨od,J,_⟩:=O.look
  exact PySem.W.kia_one (PySem.W.kitx_own (cl.get _) cl.hd ha hn htk hm) I.kIn J e (fun z=>nomatch z) h
end
structure Room (k:Nat) (A:Around):Prop where
 hd:A.handled=none
 dp:A.depth + 3 * k + 5 < recursionLimit
 un:A.units + 16 * k + 200 < cLine
theorem Room.deeper {k:Nat} {A:Around} (r:Room (k + 1) A) (env:Env):Room k (A.deeper env):=
 ⟨r.hd,by have:=r.dp; show A.depth + 1 + 3 * k + 5 < _; omega,by have:=r.un; show A.units + 3 + 16 * k + 200 < _; omega⟩
theorem Room.depth {k:Nat} {A:Around} (r:Room k A):A.depth < recursionLimit:=by have:=r.dp; omega
theorem Room.units {k:Nat} {A:Around} (r:Room k A):A.units + 64 < cLine:=by have:=r.un; omega
noncomputable def tNil:TA:=fun _ H Q=>Q [] H
noncomputable def tCons (ta:TE) (tr:TA):TA:=fun σ H Q=>ta σ H fun x H1=>tr σ H1 fun xs H2=>Q (x :: xs) H2
section
variable {X:Cx} {e:Expr} {es:List Expr} {te:TE} {t:TA} {pos:Pos}
theorem zjo:PA X [] tNil:=fun _ _ _ _ H Q I h=>Calls.spliced_nil ⟨[],H,I,.nil,h⟩
theorem zee (ha:PE X e te) (hr:PA X es t) (hs:starEach (e :: es) X.env=(false,eval e X.env) :: starEach es X.env:=by rfl):PA X (e :: es) (tCons te t):=by
 intro pos pins s σ H Q I h
 rw [hs]
 show wpAny _ _ (spliced ((false,eval e X.env) :: backTo pos (starEach es X.env))) _ _ s
 refine Calls.spliced_cons (thn (ha pins s σ H _ I h) fun u s1 hq0=>?_)
 obtain ⟨x,H1,I1,r1,q1⟩:=hq0
 exact thn (hr pos pins s1 σ H1 _ I1 q1) fun us s2 ⟨xs,H2,I2,r2,q2⟩=>⟨x :: xs,H2,I2,.cons r1 r2,q2⟩
noncomputable def tTup (t:TA):TE:=fun σ H Q=>t σ H fun xs H1=>xs.length≤sizeLine∧∀ p,H1 p=none→Q (.ref p) (upd H1 p (.tup xs))
noncomputable def tLst (t:TA):TE:=fun σ H Q=>t σ H fun xs H1=>xs.length≤sizeLine∧∀ p,H1 p=none→Q (.ref p) (upd H1 p (.lst xs))
theorem zu5 {x1} (h:PA X es t):PE X (.Tuple es x1 pos) (tTup t):=by
 intro pins s σ H Q I hq
 refine wpAny_Tuple_spliced (thn (h pos pins s σ H _ I hq) fun us s1 ⟨xs,H1,I1,r,z,q⟩=>⟨by rw [← r.length]; exact z,?_⟩)
 have hf:H1 s1.heap.objs.size=none:=I1.hok.fresh (vae _)
 refine ⟨.ref s1.heap.objs.size,upd H1 s1.heap.objs.size (.tup xs),I1.laid (t':=s1.toks) (fun b u e=>vad _ e) (vae _) ?_,rfl,q _ hf⟩
 exact ⟨z,us,r,zbc.new _ _⟩
theorem zu6 (h:PA X es t):PE X (.List es pos) (tLst t):=by
 intro pins s σ H Q I hq
 refine wpAny_List_spliced (thn (h pos pins s σ H _ I hq) fun us s1 ⟨xs,H1,I1,r,z,q⟩=>⟨by rw [← r.length]; exact z,?_⟩)
 have hf:H1 s1.heap.objs.size=none:=I1.hok.fresh (vae _)
 refine ⟨.ref s1.heap.objs.size,upd H1 s1.heap.objs.size (.lst xs),I1.laid (t':=s1.toks) (fun b u e=>vad _ e) (vae _) ?_,rfl,q _ hf⟩
 exact ⟨z,us,0,r,vaw _ rfl⟩
end
noncomputable abbrev Sp:=List V→Hp→VK→XK→Prop
noncomputable abbrev CXT:=List Env→Hp→Shared→XK→Value→Shared→Prop
structure Env0 (P:Program) (w:World) (K:PySem.W.Frag) (mg:Str→Option Value) (base:Heap) (A:Around) (outer:List Env) (s:Shared) (H:Hp):Prop where
 frames:A.frames=some outer
 mod:Mod K mg base
 bs:∀ b o,base.get? b=some o→s.heap.get? b=some o∧H b=none
 bsz:base.objs.size≤s.heap.objs.size
 funs:s.heap.FunFrames base outer
 frf:∀ b∈frs outer,H b=none
 hok:HOk P w H s.heap
 bare:AllBare s.gens
noncomputable def CE (outer:List Env) (P:Program) (w:World) (H:Hp) (s:Shared) (Q:VK) (u:Value) (s':Shared):Prop:=
 ∃ v H',s'.os=s.os∧AllBare s'.gens∧Un (frs outer) [] H H' s.heap s'.heap∧HOk P w H' s'.heap∧RelV v u∧Q v H'
noncomputable def CR (CX:CXT) (outer:List Env) (P:Program) (w:World) (H:Hp) (s:Shared) (Q:VK) (E:XK) (r:Result) (s':Shared):Prop:=
 match r with
 | .ok (.ret u)=>CE outer P w H s Q u s'
 | .ok _=>False
 | .error e=>CX outer H s E e s'
structure FnOk (P:Program) (w:World) (K:PySem.W.Frag) (mg:Str→Option Value) (base:Heap) (CX:CXT) (k:Nat) (f:Addr) (fd:FuncData) (ps:List Str) (sp:Sp):Prop where
 len:∀ vs H Q E,sp vs H Q E→vs.length=ps.length
 run:∀ (A:Around) (outer:List Env) (s:Shared) (H:Hp) (args:Args) (us:List Value) (vs:List V) (Q:VK) (E:XK),Room k A→Env0 P w K mg base A outer s H→BindsTo s fd args (ps.zip us)→Vals vs us→sp vs H Q E →
  codeAny (model P w) A (.call (.ref f) args) (CR CX outer P w H s Q E) s
section
variable {X:Cx} {pins:List (Addr × Obj)} {σ:St} {H:Hp} {s s':Shared}
theorem Inv.env0 (I:Inv X pins σ H s):Env0 X.prog X.w X.K X.mg X.base X.A X.stack s H:=
 ⟨I.ok.frames,I.ok.mod,I.bs,Nat.le_trans I.ok.bsz I.sz,I.stack,I.stkFree,I.hok,I.bare⟩
theorem Inv.after {Q:VK} {u:Value} (I:Inv X pins σ H s) (h:CE X.stack X.prog X.w H s Q u s'):EP X pins σ Q u s':=by
 obtain ⟨v,H',os,bare,un,hok,r,q⟩:=h
 obtain ⟨hh,g,d,t,os'⟩:=s'
 obtain rfl:os'=s.os:=os
 exact ⟨v,H',I.call (h':=hh) (g':=g) (d':=d) (t':=t) (ch:=[]) un hok bare (fun b z=>absurd z (by simp)),r,q⟩
end
noncomputable def tCall (sp:Sp) (dvs:List V) (E:XK) (t:TA):TE:=fun σ H Q=>t σ H fun vs H1=>sp (vs++dvs) H1 Q E
noncomputable def Binds (K:PySem.W.Frag) (fd:FuncData) (ps:List Str) (ds:List Value):Prop:=
 ∀ (s:Shared) (us:List Value),K.In s.heap→(us++ds).length=ps.length→BindsTo s fd ⟨us,[]⟩ (ps.zip (us++ds))
theorem Binds.all {K:PySem.W.Frag} {fd:FuncData} {ps:List Str} (h:∀ us:List Value,us.length=ps.length→bindArgs fd ⟨us,[]⟩=pure (ps.zip us)):Binds K fd ps []:=fun s us _ hl=>by
 rw [List.append_nil] at hl ⊢
 exact .of_eq (h us hl)
noncomputable def zjp (CX:CXT) (X:Cx) (E:XK):Prop:=∀ (pins:List (Addr × Obj)) (σ:St) (H:Hp) (s:Shared) (e:Value) (s':Shared),Inv X pins σ H s→CX X.stack H s E e s'→X.xe e s'
section
variable {X:Cx} {CX:CXT} {k:Nat} {f C:Addr} {fd:FuncData} {ps:List Str} {sp:Sp} {dvs:List V} {ds:List Value} {E:XK} {x m:Str} {p pos apos:Pos} {e o:Expr} {es:List Expr} {ta:TE} {t:TA}
theorem zqt {pins:List (Addr × Obj)} {σ:St} {H:Hp} {s:Shared} {Q:VK} {us:List Value} {vs:List V} (F:FnOk X.prog X.w X.K X.mg X.base CX k f fd ps sp) (hr:Room k X.A) (hb:Binds X.K fd ps ds) (hd:Vals dvs ds) (hx:zjp CX X E)
 (I:Inv X pins σ H s) (r:Vals vs us) (h:sp (vs++dvs) H Q E):wpAny (model X.prog X.w) X.A (call (.ref f) us) (EP X pins σ Q) X.xe s:=by
 have r2:Vals (vs++dvs) (us++ds):=r.append hd
 have hl:(us++ds).length=ps.length:=by rw [← r2.length]; exact F.len _ _ _ _ h
 refine wpAny_call (codeAny_mono (F.run X.A X.stack s H ⟨us,[]⟩ (us++ds) (vs++dvs) Q E hr I.env0 (hb s us I.kIn hl) r2 h) fun r s' hq=>?_)
 cases r with
 | error e=>exact hx pins σ H s e s' I hq
 | ok fl=>
  cases fl with
  | ret u=>exact I.after hq
  | next=>exact False.elim hq
  | brk=>exact False.elim hq
  | cont=>exact False.elim hq
theorem zl3 (F:FnOk X.prog X.w X.K X.mg X.base CX k f fd ps sp) (hr:Room k X.A) (hg:Gl X x) (hm:X.mg x=some (.ref f)) (hk:PySem.W.keepIn X.K (.ref f)=true) (hb:Binds X.K fd ps ds) (hd:Vals dvs ds) (hx:zjp CX X E)
 (ha:PA X (e :: es) t) (hdb:(x == ("__debug__" : Str))=false:=by decide) (he:starEach (e :: es) X.env=(false,eval e X.env) :: starEach es X.env:=by rfl) (hpl:(backTo pos (starEach es X.env)).any (·.1)=false:=by rfl) :
 PE X (.Call (.Name x p) (e :: es) [] pos) (tCall sp dvs E t):=by
 intro pins s σ H Q I h
 refine wpAny_Call_Name_kw (zin I hg hm ?_ hdb)
 refine PySem.W.callWith_K (h₀:=X.base) I.ok.mod.kin hk (thn (ha pos pins s σ H _ I h) fun us s1 ⟨vs,H1,I1,r,q⟩=>⟨I1.kIn,?_⟩) he hpl
 exact zqt F hr hb hd hx I1 r q
theorem zo3 (F:FnOk X.prog X.w X.K X.mg X.base CX k f fd ps sp) (hr:Room k X.A) (hg:Gl X x) (hm:X.mg x=some (.ref f)) (hk:PySem.W.keepIn X.K (.ref f)=true) (hb:Binds X.K fd ps ds) (hd:Vals dvs ds) (hx:zjp CX X E)
 (hdb:(x == ("__debug__" : Str))=false:=by decide):PE X (.Call (.Name x p) [] [] pos) (tCall sp dvs E tNil):=by
 intro pins s σ H Q I h
 refine wpAny_Call_Name_kw (zin I hg hm ?_ hdb)
 exact PySem.W.callWith_K0 I.kIn hk (zqt (us:=[]) F hr hb hd hx I .nil h)
end
structure FnScope (N P:List Str) (sc:Scope):Prop where
 kind:sc.kind=.function
 co:sc.isCoroutine=false
 gen:sc.isGenerator=false
 nd:N.Nodup
 pre:N.take P.length=P
 par:∀ x∈P,sc.names.lookup x=some .local∨sc.names.lookup x=some .cell
 nofree:∀ y∈sc.names,y.2≠.free
theorem zg4 {kindOf:Str→Option NameKind} {x:Str}:∀ {binds:List (Str × Value)} {m:Str→Option Value},(∀ v,(x,v)∉binds)→bindL kindOf binds m x=m x
 | [],_,_=>rfl
 | (n,v) :: r,m,h=>by
  unfold bindL
  rw [zg4 fun w hw=>h w (vaj _ hw)]
  split
  ·have:x≠n:=by rintro rfl; exact h v vap
   simp [this]
  ·rfl
theorem zg5 {kindOf:Str→Option NameKind} {x:Str}:∀ {binds:List (Str × Value)} {m:Str→Option Value},(∀ v,(x,v)∉binds)→bindC kindOf binds m x=m x
 | [],_,_=>rfl
 | (n,v) :: r,m,h=>by
  unfold bindC
  rw [zg5 fun w hw=>h w (vaj _ hw)]
  split
  ·rfl
  ·have:x≠n:=by rintro rfl; exact h v vap
   simp [this]
theorem zg6 {kindOf:Str→Option NameKind} {x:Str} {v:Value}:∀ {P:List Str} {vs:List Value} {i:Nat} {m:Str→Option Value},P.Nodup→P[i]?=some x→vs[i]?=some v→kindOf x=some .local →
 bindL kindOf (P.zip vs) m x=some v
 | [],_,_,_,_,h,_,_=>by simp at h
 | _ :: _,[],_,_,_,_,h,_=>by simp at h
 | p :: P,w :: vs,0,m,nd,h1,h2,hk=>by
  simp at h1 h2; subst h1; subst h2
  show bindL kindOf ((p,w) :: P.zip vs) m p=_
  unfold bindL
  rw [zg4 fun v hv=>(List.nodup_cons.mp nd).1 (List.of_mem_zip hv).1,if_pos hk]
  simp
 | p :: P,w :: vs,i + 1,m,nd,h1,h2,hk=>by
  show bindL kindOf ((p,w) :: P.zip vs) m x=_
  unfold bindL
  exact zg6 (i:=i) (List.nodup_cons.mp nd).2 (by simpa using h1) (by simpa using h2) hk
theorem zg7 {kindOf:Str→Option NameKind} {x:Str} {v:Value}:∀ {P:List Str} {vs:List Value} {i:Nat} {m:Str→Option Value},P.Nodup→P[i]?=some x→vs[i]?=some v→kindOf x≠some .local →
 bindC kindOf (P.zip vs) m x=some v
 | [],_,_,_,_,h,_,_=>by simp at h
 | _ :: _,[],_,_,_,_,h,_=>by simp at h
 | p :: P,w :: vs,0,m,nd,h1,h2,hk=>by
  simp at h1 h2; subst h1; subst h2
  show bindC kindOf ((p,w) :: P.zip vs) m p=_
  unfold bindC
  rw [zg5 fun v hv=>(List.nodup_cons.mp nd).1 (List.of_mem_zip hv).1,if_neg hk]
  simp
 | p :: P,w :: vs,i + 1,m,nd,h1,h2,hk=>by
  show bindC kindOf ((p,w) :: P.zip vs) m x=_
  unfold bindC
  exact zg7 (i:=i) (List.nodup_cons.mp nd).2 (by simpa using h1) (by simpa using h2) hk
noncomputable def start (N:List Str) (vs:List V):St:=vs.map some++List.replicate (N.length - vs.length) none
noncomputable def cxOf (CX:CXT) (P:Program) (w:World) (K:PySem.W.Frag) (mg:Str→Option Value) (base:Heap) (N:List Str) (qual:Str) (scope:Scope) (f:Addr) (cd:Value) (A:Around) (outer:List Env) (s:Shared) (H:Hp) (E:XK):Cx where
 prog:=P
 w:=w
 K:=K
 mg:=mg
 base:=base
 A:=A.deeper (envOfC qual scope s.heap.objs.size f cd)
 N:=N
 s₀:=s
 H₀:=H
 env:=envOfC qual scope s.heap.objs.size f cd
 outer:=outer
 stack:=envOfC qual scope s.heap.objs.size f cd :: outer
 ex:=[]
 calm:=true
 fn:=fun _=>true
 pn:=[]
 xe:=fun e s'=>wpAny (model P w) (A.deeper (envOfC qual scope s.heap.objs.size f cd)) (leaving (envOfC qual scope s.heap.objs.size f cd) e) (fun _ s''=>CX outer H s E e s'') (fun e' s''=>CX outer H s E e' s'') s'
theorem zjq {sc:Scope} {n:Nat} {x:Str} (h:sc.names.lookup x=some .cell):∃ c,(cellsFrom n sc.names []).lookup x=some c:=by
 have q:=PySem.W.cellsFrom_some sc.names n [] (.inl h)
 exact Option.isSome_iff_exists.mp q
theorem zl4 {CX:CXT} {P:Program} {w:World} {K:PySem.W.Frag} {mg:Str→Option Value} {base:Heap} {N ps:List Str} {qual:Str} {scope:Scope} {f:Addr} {cd:Value} {A:Around} {outer:List Env} {s s1:Shared} {H:Hp} {E:XK} {us:List Value} {vs:List V}
 (S:FnScope N ps scope) (hd:A.handled=none) (e0:Env0 P w K mg base A outer s H) (hl:vs.length=ps.length) (r:Vals vs us)
 (x:InCallC s s.heap.objs.size (bindL (envOfC qual scope s.heap.objs.size f cd).kindOf (ps.zip us) fun _=>none) (cellsFrom (s.heap.objs.size + 1) scope.names []) (bindC (envOfC qual scope s.heap.objs.size f cd).kindOf (ps.zip us) fun _=>none) s1) :
 Inv (cxOf CX P w K mg base N qual scope f cd A outer s H E) [] (start N vs) H s1:=by
 have hpl:ps.length≤N.length:=by have:=congrArg List.length S.pre; rw [List.length_take] at this; omega
 obtain ⟨h1,tk,rfl,hk⟩:=x.done
 have noA:∀ b:Addr,b∉(cxOf CX P w K mg base N qual scope f cd A outer s H E).ex:=fun b z=>absurd (show b∈([]:List Addr) from z) (by simp)
 refine ⟨⟨e0.mod,S.kind,rfl,rfl,vae _,fun y z c h1 h2=>?_,fun y hy=>?_,fun y c _ h=>?_,fun _=>hd,Around.frames_deeper e0.frames,.inr ⟨rfl,rfl⟩,fun b z=>absurd z (noA b),e0.bs,e0.bsz,fun b _ _=>noA b,fun b z=>absurd z (noA b),e0.funs,e0.frf⟩,
  rfl,e0.bare,Un.kept hk,⟨_,x.toInCall.ns,fun i y v h1 h2 h3=>?_⟩,fun y c h=>⟨_,x.cell y c h⟩,e0.hok.fresh (vae _),fun y c h=>?_,fun p hp=>absurd (show p∈([]:List (Addr × Obj)) from hp) (by simp),e0.hok.kept hk,?_⟩
 ·exact name_of_addr x.apart (PySem.mem_of_lookup h1) (PySem.mem_of_lookup h2)
 ·have hy:scope.names.lookup y=some .cell∨scope.names.lookup y=some .free:=hy
  rcases hy with hy | hy
  ·exact zjq hy
  ·exact absurd rfl (S.nofree _ (PySem.mem_of_lookup hy))
 ·exact Nat.le_of_lt (x.above y c (PySem.mem_of_lookup h))
 ·have hi:i < vs.length:=by
   unfold start at h2
   by_cases hi:i < vs.length
   ·exact hi
   ·rw [List.getElem?_append_right (by simpa using hi)] at h2
    rw [List.getElem?_replicate] at h2
    split at h2 <;> cases h2
  have ha:vs[i]?=some v:=by
   unfold start at h2
   rw [List.getElem?_append_left (by simpa using hi),List.getElem?_map] at h2
   cases e:vs[i]? with
   | none=>rw [e] at h2; cases h2
   | some a=>rw [e] at h2; cases h2; rfl
  obtain ⟨u,hu,rv⟩:=r.get ha
  have hp:ps[i]?=some y:=by
   rw [← S.pre,List.getElem?_take_of_lt (by omega)]; exact h1
  have ndP:ps.Nodup:=by rw [← S.pre]; exact S.nd.sublist (List.take_sublist _ _)
  refine ⟨u,rv,?_⟩
  rcases S.par y (List.mem_of_getElem? hp) with k | k
  ·exact .inl ⟨k,zg6 ndP hp hu k⟩
  ·obtain ⟨c,e⟩:=zjq (n:=s.heap.objs.size + 1) k
   refine .inr ⟨.inl k,c,e,?_⟩
   have q:=x.cell y c e
   rw [zg7 ndP hp hu (by show scope.names.lookup y≠_; rw [k]; decide)] at q
   exact q
 ·exact e0.hok.fresh (Nat.le_of_lt (x.above y c (PySem.mem_of_lookup h)))
 ·unfold start
  show _=N.length
  rw [vag,vab,List.length_replicate]
  omega
theorem fn_of {CX:CXT} {P:Program} {w:World} {K:PySem.W.Frag} {mg:Str→Option Value} {base:Heap} {k:Nat} {f:Addr} {name qual:Str} {params:Arguments} {body:List Stmt} {scope:Scope} {dV kV doc pm cdv ct oc:Value} {an od:Option Addr}
 {osl:Array (Option Value)} {N ps:List Str} {sp:Sp} (lk:K.lookup f=some ⟨oc,od,.func (PySem.W.fnOf name qual params body scope dV kV doc pm an cdv ct),osl⟩) (hcd:PySem.W.codeIn K cdv qual=true) (S:FnScope N ps scope)
 (len:∀ vs H Q E,sp vs H Q E→vs.length=ps.length)
 (hbody:∀ (A:Around) (outer:List Env) (s:Shared) (H:Hp) (vs:List V) (Q:VK) (E:XK),Room k (A.deeper (envOfC qual scope s.heap.objs.size f cdv))→sp vs H Q E →
   ∃ t,PSs (cxOf CX P w K mg base N qual scope f cdv A outer s H E) body t∧t { nx:=fun _ H'=>Q .non H',rt:=Q } (start N vs) H) :
 FnOk P w K mg base CX (k + 1) f (PySem.W.fnOf name qual params body scope dV kV doc pm an cdv ct) ps sp:=by
 refine ⟨len,fun A outer s H args us vs Q E hr e0 hb r hsp=>?_⟩
 have hl:=len _ _ _ _ hsp
 have KX:K.In s.heap:=e0.mod.kin.keeps fun b o e=>(e0.bs b o e).1
 have lim:s.heap.NoLimit:=e0.mod.nolimit.keeps fun b o e=>(e0.bs b o e).1
 have hkind:∀ y∈ps.zip us,scope.names.lookup y.1=some .local∨(scope.names.lookup y.1=some .cell∧((cellsFrom (s.heap.objs.size + 1) scope.names []).lookup y.1).isSome=true):=fun hq0 hy=>by
  obtain ⟨n,v⟩:=hq0
  rcases S.par n (List.of_mem_zip hy).1 with q | q
  ·exact .inl q
  ·exact .inr ⟨q,PySem.W.cellsFrom_some _ _ _ (.inl q)⟩
 refine codeAny_call_function hr.depth (KX _ _ lk) rfl S.co S.gen rfl (PySem.W.codeRec_of KX hcd) (hb _ _ _ _ ?_)
 refine wpAny_newFunctionEnv_cells S.kind hkind fun env he s1 x=>?_
 subst he
 refine ⟨lim.keeps x.toInCall.keep,codeAny_func ?_⟩
 obtain ⟨t,ht,hq⟩:=hbody A outer s H vs Q E (hr.deeper _) hsp
 have I:Inv (cxOf CX P w K mg base N qual scope f cdv A outer s H E) [] (start N vs) H s1:=zl4 S hr.hd e0 hl r x
 refine wpAny_mono (ht [] s1 (start N vs) H _ I hq) (fun fl s' hs=>?_) fun e s' hs=>hs
 have fin:∀ {σ':St} {H':Hp} {v:V} {u:Value},Inv (cxOf CX P w K mg base N qual scope f cdv A outer s H E) [] σ' H' s'→RelV v u→Q v H'→CE outer P w H s Q u s':=
  fun {σ' H' v u} J rv q=>⟨v,H',J.os,J.bare,J.base,J.hok,rv,q⟩
 cases fl with
 | ret u=>
  obtain ⟨v,σ',H',J,rv,q⟩:=hs
  exact fin J rv q
 | next=>
  obtain ⟨σ',H',J,q⟩:=hs
  exact fin (v:=V.non) (u:=Value.none) J rfl q
 | brk=>
  obtain ⟨_,_,_,q⟩:=hs
  exact False.elim q
 | cont=>
  obtain ⟨_,_,_,q⟩:=hs
  exact False.elim q
section
variable {X:Cx} {x:Str} {p pos:Pos} {e:Expr} {es:List Expr} {t:TA} {id T:String} {r:List V→Hp→VK→Prop}
noncomputable def tCB (r:List V→Hp→VK→Prop) (t:TA):TE:=fun σ H Q=>t σ H fun vs H1=>r vs H1 Q
theorem zjr (hc:CallR X (.builtin id) r) (hg:Gl X x) (hm:X.mg x=none) (hv:bootBuiltins x=some (.builtin id)) (ha:PA X (e :: es) t) (hn:x ≠ "__name__" := by decide) (hdb:(x == ("__debug__" : Str))=false:=by decide)
 (he:starEach (e :: es) X.env=(false,eval e X.env) :: starEach es X.env:=by rfl) (hpl:(backTo pos (starEach es X.env)).any (·.1)=false:=by rfl):PE X (.Call (.Name x p) (e :: es) [] pos) (tCB r t):=by
 intro pins s σ H Q I h
 refine wpAny_Call_Name_kw (zed I hg hm hv ?_ hn hdb)
 exact PyProof.Rows.callWith_builtin1 (thn (ha pos pins s σ H _ I h) fun us s1 ⟨vs,H1,I1,r1,q1⟩=>hc pins s1 σ H1 vs us Q I1 r1 q1) he hpl
theorem zl5 (hc:CallR X (.type T) r) (hg:Gl X x) (hm:X.mg x=none) (hv:bootBuiltins x=some (.type T)) (ha:PA X (e :: es) t) (hn:x ≠ "__name__" := by decide) (hdb:(x == ("__debug__" : Str))=false:=by decide)
 (he:starEach (e :: es) X.env=(false,eval e X.env) :: starEach es X.env:=by rfl) (hpl:(backTo pos (starEach es X.env)).any (·.1)=false:=by rfl):PE X (.Call (.Name x p) (e :: es) [] pos) (tCB r t):=by
 intro pins s σ H Q I h
 refine wpAny_Call_Name_kw (zed I hg hm hv ?_ hn hdb)
 exact PyProof.Rows.callWith_type1 (thn (ha pos pins s σ H _ I h) fun us s1 ⟨vs,H1,I1,r1,q1⟩=>hc pins s1 σ H1 vs us Q I1 r1 q1) he hpl
end
end L2
namespace HT
open PySem PyProof.Rows
section
variable {prog:Program} {w:World} {A:Around} {E:Value→Shared→Prop} {s:Shared}
theorem cat_tup {t b:Addr} {vs ws:List Value} {Q:Value→Shared→Prop} (ht:IsTup s.heap t vs.toArray) (hb:IsTup s.heap b ws.toArray) (hv:vs≠[])
 (h1:ws=[]→Q (.ref t) s) (h2:ws≠[]→Q (.ref s.heap.objs.size) { s with heap:=s.heap.push { cls:=.type "tuple",data:=.seq (vs++ws).toArray } })
 (hsz:vs.length + ws.length≤sizeLine):wpAny (model prog w) A (binaryOp .Add (.ref t) (.ref b)) Q E s:=by
 obtain ⟨⟨cls,dd,data,sl⟩,ho,hc,n,hd⟩:=id ht
 obtain ⟨⟨cls2,dd2,data2,sl2⟩,ho2,hc2,n2,hd2⟩:=id hb
 simp only at hc hd hc2 hd2
 subst hc hd hc2 hd2
 have e:vs.toArray++ws.toArray=(vs++ws).toArray:=by simp
 by_cases hw:ws=[]
 ·exact concat_meets ⟨_,ho,rfl⟩ ⟨_,ho2,rfl⟩ noFill_tuple_add seq_tuple_add PySem.F.slot_tuple_add PySem.F.entry_tuple_add (PySem.F.args_tuple_add_2 _ _)
   (tuple_addW1 t b vs.toArray ws.toArray n n2 dd dd2 sl sl2 (by simpa using hv) (by simp [hw])) ⟨ho,ho2,h1 hw⟩
 ·refine concat_meets ⟨_,ho,rfl⟩ ⟨_,ho2,rfl⟩ noFill_tuple_add seq_tuple_add PySem.F.slot_tuple_add PySem.F.entry_tuple_add (PySem.F.args_tuple_add_2 _ _)
   (tuple_addW2 t b vs.toArray ws.toArray n n2 dd dd2 sl sl2 (by simpa using hv) (by simpa using hw) (by rw [vai,vai]; exact hsz)) ⟨ho,ho2,?_⟩
  rw [e]
  exact h2 hw
noncomputable def sIx (n d:Nat):Option Int→Nat
 | none=>d
 | some v=>if v < 0 then (v + (n:Int)).toNat else min v.toNat n
theorem sIx_none (n d:Nat):sIx n d none=d:=rfl
theorem sIx_nat (n d k:Nat):sIx n d (some (k:Int))=min k n:=by
 show (if (k:Int) < 0 then ((k:Int) + (n:Int)).toNat else min (k:Int).toNat n)=min k n
 rw [if_neg (by omega),Int.toNat_natCast]
theorem zu7 (n d:Nat) (hd:d≤n) (o:Option Int):sIx n d o≤n:=by
 cases o with
 | none=>exact hd
 | some v=>
  show (if v < 0 then (v + (n:Int)).toNat else min v.toNat n)≤n
  by_cases hv:v < 0
  ·rw [if_pos hv]; omega
  ·rw [if_neg hv]; exact Nat.min_le_right _ _
theorem zl6 (v:Int) (n d:Nat):(if v < 0 then max (v + (n:Int)) 0 else min v (n:Int))=((sIx n d (some v):Nat):Int):=by
 show (if v < 0 then max (v + (n:Int)) 0 else min v (n:Int))=(((if v < 0 then (v + (n:Int)).toNat else min v.toNat n):Nat):Int)
 by_cases hv:v < 0
 ·simp only [if_pos hv]; omega
 ·simp only [if_neg hv]; omega
theorem zkv (lo hi:Option Int) (n:Nat):Builtin.Slice.sliceAdjust lo hi 1 (n:Int)=(((sIx n 0 lo:Nat):Int),((sIx n n hi:Nat):Int)):=by
 have h1:¬ ((1:Int) < 0):=by omega
 unfold Builtin.Slice.sliceAdjust
 simp only [h1,if_false]
 refine Prod.ext ?_ ?_
 ·cases lo with
  | none=>rfl
  | some v=>exact zl6 v n 0
 ·cases hi with
  | none=>rfl
  | some v=>exact zl6 v n n
theorem zkw (i j:Nat):Builtin.Slice.slicePlaces (i:Int) (j:Int) 1=j - i:=by
 unfold Builtin.Slice.slicePlaces
 have h1:(1:Int) > 0:=by omega
 simp only [h1,if_true,Int.ediv_one]
 split <;> omega
theorem ze6 {v:Value} {o:Option Int} {Q:Option Int→Shared→Prop} (p:IsPart v o) (h:Q o s):wpAny (model prog w) A (Builtin.Slice.slicePartIndex v) Q E s:=by
 cases p with
 | none=>exact slicePart_none h
 | int i t=>exact slicePart_int h
theorem zbv {sl:Addr} {vl vu:Value} {lo hi:Option Int} {n:Nat} {Q:Int × Int × Nat→Shared→Prop} (hs:s.heap.IsSliceOf sl vl vu .none) (pl:IsPart vl lo) (pu:IsPart vu hi)
 (h:Q (((sIx n 0 lo:Nat):Int),1,sIx n n hi - sIx n 0 lo) s):wpAny (model prog w) A (Builtin.Slice.sliceApplied (.ref sl) (pure (n:Int))) Q E s:=by
 obtain ⟨os,hos,hcs,hds⟩:=id hs
 unfold Builtin.Slice.sliceApplied Builtin.Slice.sliceFields
 refine vaa (vaa (wpAny_field hos hds (x:=vl) rfl (vaa (wpAny_field hos hds (x:=vu) rfl (vaa (wpAny_field hos hds (x:=.none) rfl (vaf ?_)))))))
 refine vaa (slicePart_none ?_)
 show wpAny _ _ (if ((1:Int) == 0)=true then _ else _) _ _ s
 rw [if_neg (by decide)]
 refine vaa (ze6 pl (vaa (ze6 pu (vaa (vaf ?_)))))
 show wpAny _ _ (match Builtin.Slice.sliceAdjust lo hi 1 (n:Int) with | (lo,hi)=>pure (lo,(1:Int),Builtin.Slice.slicePlaces lo hi 1)) _ _ s
 rw [zkv lo hi n]
 show wpAny _ _ (pure (((sIx n 0 lo:Nat):Int),(1:Int),Builtin.Slice.slicePlaces ((sIx n 0 lo:Nat):Int) ((sIx n n hi:Nat):Int) 1)) _ _ s
 rw [zkw]
 exact vaf h
theorem zo4 (xs:Array Value) (i k:Nat):((List.range k).filterMap fun (m:Nat)=>xs[((i:Int) + (m:Int) * 1).toNat]?).toArray=((xs.toList.drop i).take k).toArray:=by
 have e:(fun (m:Nat)=>xs[((i:Int) + (m:Int) * 1).toNat]?)=fun m=>xs[i + m]?:=by
  funext m
  have:((i:Int) + (m:Int) * 1).toNat=i + m:=by omega
  rw [this]
 rw [e]
 have:=pick_run xs i k
 rw [List.filterMap_map] at this
 have e2:((fun x=>xs[x]?) ∘ fun x=>i + x)=fun m=>xs[i + m]?:=rfl
 rw [e2] at this
 rw [this]
theorem getItem_tuple_cut {t sl:Addr} {items:Array Value} {vl vu:Value} {lo hi:Option Int} {Q:Value→Shared→Prop} (ht:IsTup s.heap t items) (hs:s.heap.IsSliceOf sl vl vu .none) (pl:IsPart vl lo) (pu:IsPart vu hi)
 (hw:¬ (sIx items.size 0 lo=0∧sIx items.size items.size hi=items.size))
 (h:Q (.ref s.heap.objs.size) { s with heap:=s.heap.push { cls:=.type "tuple",data:=.seq ((items.toList.drop (sIx items.size 0 lo)).take (sIx items.size items.size hi - sIx items.size 0 lo)).toArray } })
 (hsz:items.size≤sizeLine):wpAny (model prog w) A (getItem (.ref t) (.ref sl)) Q E s:=by
 have htake:sizeOk (.seq ((items.toList.drop (sIx items.size 0 lo)).take (sIx items.size items.size hi - sIx items.size 0 lo)).toArray):=by
  show ((items.toList.drop (sIx items.size 0 lo)).take (sIx items.size items.size hi - sIx items.size 0 lo)).toArray.size≤sizeLine
  rw [vai,List.length_take,List.length_drop,Array.length_toList]
  omega
 have hj:sIx items.size items.size hi≤items.size:=zu7 _ _ (vae _) hi
 obtain ⟨os,hos,hcs,hds⟩:=id hs
 have hTs:s.TypeIs (.ref sl) "slice" := ⟨os,hos,hcs⟩
 unfold getItem
 try with_reducible refine wpAny_holding ?_
 first | refine vaa (vaf ?_) | skip
 refine vaa (wpAny_sequenceKey ht.typeIs (by decide) ?_)
 refine vaa (wpAny_callSpecial?_slot (name:=Str.ofString "__getitem__") ht.typeIs PyProof.Rows.slot_tuple_getitem
  (wpAny_call_entry PyProof.Rows.slot_tuple_getitem ht.typeIs entry_tuple_getitem ?_ (args_tuple_getitem _ _)))
 show wpAny _ _ (Builtin.Tuple.tupleItemsOf (.ref t) >>= _) _ _ s
 refine vaa (tupleItemsOf_ ht ?_)
 refine vaa (wpAny_typeOf hTs ?_)
 rw [if_pos (by decide)]
 refine vaa (zbv hs pl pu ?_)
 have hno:¬ ((((sIx items.size 0 lo:Nat):Int) == 0 && (1:Int) == 1 && (sIx items.size items.size hi - sIx items.size 0 lo) == items.size)=true):=by
  intro q
  rw [vac,vac] at q
  have q1:((sIx items.size 0 lo:Nat):Int)=0:=eq_of_beq q.1.1
  have q2:sIx items.size items.size hi - sIx items.size 0 lo=items.size:=eq_of_beq q.2
  exact hw ⟨by omega,by omega⟩
 show wpAny _ _ (if (((sIx items.size 0 lo:Nat):Int) == 0 && (1:Int) == 1 && (sIx items.size items.size hi - sIx items.size 0 lo) == items.size)=true then _ else _) _ _ s
 rw [if_neg hno,zo4]
 first
  | exact vaa (m:=Builtin.Tuple.tupleExact _) (wpAny_newObj_type (vaf ⟨_,rfl,vaf h⟩) htake)
  | exact vaa (m:=Builtin.Tuple.tupleExact _) (wpAny_newObj_type (vaa (vaf (vaf ⟨_,rfl,vaf h⟩))) htake)
  | exact vaa (vaa (m:=Builtin.Tuple.tupleExact _) (wpAny_newObj_type (vaf (vaf ⟨_,rfl,vaf h⟩)) htake))
  | exact vaa (vaa (m:=Builtin.Tuple.tupleExact _) (wpAny_newObj_type (vaf ⟨_,rfl,vaf h⟩) htake))
end
end HT
namespace L2
open PySem PySem.Spec PyProof.Rows
noncomputable abbrev TO:=St→Hp→(Option Int→Hp→Prop)→Prop
noncomputable def PO (X:Cx) (e:Option Expr) (t:TO):Prop:=
 ∀ (pins:List (Addr × Obj)) (s:Shared) (σ:St) (H:Hp) (Q:Option Int→Hp→Prop),Inv X pins σ H s→t σ H Q →
  wpAny (model X.prog X.w) X.A (evalPart e X.env) (fun u s'=>∃ o H',Inv X pins σ H' s'∧IsPart u o∧Q o H') X.xe s
noncomputable def zsc:TO:=fun _ H Q=>Q none H
noncomputable def tPart (t:TE):TO:=fun σ H Q=>t σ H fun x H1=>∃ i,x=.int i∧Q (some i) H1
section
variable {X:Cx} {e:Expr} {te:TE} {lo hi:Option Expr} {tl th:TO} {pos p2:Pos}
theorem zsd:PO X none zsc:=by
 intro pins s σ H Q I h
 rw [evalPart_none]
 exact vaf ⟨none,H,I,.none,h⟩
theorem zse (h:PE X e te):PO X (some e) (tPart te):=by
 intro pins s σ H Q I hw
 rw [evalPart_some]
 refine thn (h pins s σ H _ I hw) fun u s1 hq0=>?_
 obtain ⟨x,H1,I1,r1,q1⟩:=hq0
 obtain ⟨i,rfl,q⟩:=q1
 obtain ⟨t,rfl⟩:=r1
 exact ⟨some i,H1,I1,.int i t,q⟩
noncomputable def SlR (X:Cx) (r:V→Option Int→Option Int→Hp→VK→Prop):Prop:=
 ∀ (pins:List (Addr × Obj)) (s:Shared) (σ:St) (H:Hp) (x:V) (v vl vu:Value) (lo hi:Option Int) (sl:Addr) (Q:VK),Inv X pins σ H s→RelV x v→s.heap.IsSliceOf sl vl vu .none→IsPart vl lo→IsPart vu hi→r x lo hi H Q →
  ∃ T id,typeLookup (.type T) "__getitem__" = pure (some (.builtin id))∧s.TypeIs v T∧wpAny (model X.prog X.w) X.A (getItem v (.ref sl)) (EP X pins σ Q) X.xe s
theorem SlR.or {r r':V→Option Int→Option Int→Hp→VK→Prop} (h:SlR X r) (h':SlR X r'):SlR X (fun x lo hi H Q=>r x lo hi H Q∨r' x lo hi H Q):=by
 intro pins s σ H x v vl vu lo hi sl Q I rx hs pl pu q
 rcases q with q | q
 ·exact h pins s σ H x v vl vu lo hi sl Q I rx hs pl pu q
 ·exact h' pins s σ H x v vl vu lo hi sl Q I rx hs pl pu q
noncomputable def tSl (r:V→Option Int→Option Int→Hp→VK→Prop) (te:TE) (tl th:TO):TE:=fun σ H Q=>te σ H fun x H1=>tl σ H1 fun l H2=>th σ H2 fun u H3=>r x l u H3 Q
theorem zo5 {r:V→Option Int→Option Int→Hp→VK→Prop} (hr:SlR X r) (he:PE X e te) (hl:PO X lo tl) (hu:PO X hi th):PE X (.Subscript e (.Slice lo hi none p2) pos) (tSl r te tl th):=by
 intro pins s σ H Q I h
 refine Subscript_ (thn (he pins s σ H _ I h) fun v s1 hq0=>?_)
 obtain ⟨x,H1,I1,r1,q1⟩:=hq0
 refine wpAny_Slice (thn (hl pins s1 σ H1 _ I1 q1) fun vl s2 ⟨l,H2,I2,pl,q2⟩=>thn (hu pins s2 σ H2 _ I2 q2) fun vu s3 hq0=>?_)
 obtain ⟨u,H3,I3,pu,q3⟩:=hq0
 rw [evalPart_none]
 refine vaf ?_
 have I4:Inv X pins σ H3 { s3 with heap:=s3.heap.push { cls:=.type "slice",data:=.fields #[vl,vu,.none] } }:=I3.kept (t':=s3.toks) fun b ob q=>vad _ q
 obtain ⟨T,id,hT,ht,hg⟩:=hr pins { s3 with heap:=s3.heap.push { cls:=.type "slice",data:=.fields #[vl,vu,.none] } } σ H3 x v vl vu l u s3.heap.objs.size Q I4 r1 (Heap.IsSliceOf.new ..) pl pu q3
 show wpAny (model X.prog X.w) X.A (subscriptTail e (.Slice lo hi none p2) v (.ref s3.heap.objs.size)) (EP X pins σ Q) X.xe { s3 with heap:=s3.heap.push { cls:=.type "slice",data:=.fields #[vl,vu,.none] } }
 exact tail_any (ops:=[.ref s3.heap.objs.size,v]) ht hT hg (by with_unfolding_all rfl)
noncomputable def cutV (xs:List V) (lo hi:Option Int):List V:=(xs.drop (HT.sIx xs.length 0 lo)).take (HT.sIx xs.length xs.length hi - HT.sIx xs.length 0 lo)
theorem zef (xs:List V) (lo hi:Option Int):(cutV xs lo hi).length≤xs.length:=by
 unfold cutV
 rw [List.length_take,List.length_drop]
 omega
noncomputable def rSlT (K:PySem.W.Frag):V→Option Int→Option Int→Hp→VK→Prop:=fun x lo hi H Q=>∃ a xs,x=.ref a∧SqT K H a xs ∧
 ¬ (HT.sIx xs.length 0 lo=0∧HT.sIx xs.length xs.length hi=xs.length)∧∀ p,H p=none→Q (.ref p) (upd H p (.tup (cutV xs lo hi)))
theorem zu8:SlR X (rSlT X.K):=by
 intro pins s σ H x v vl vu lo hi sl Q I rx hs pl pu h
 obtain ⟨a,xs,rfl,hx,hw,q⟩:=h
 cases rx
 obtain ⟨its,r,ht,hz⟩:=I.tuple hx
 have hlen:its.toArray.size=xs.length:=by rw [vai]; exact r.length.symm
 refine ⟨"tuple",_,PyProof.Rows.slot_tuple_getitem.lookup,ht.typeIs,?_⟩
 refine HT.getItem_tuple_cut ht hs pl pu (by rw [hlen]; exact hw) ?_ (by rw [hlen]; exact hz)
 rw [hlen]
 refine ⟨.ref s.heap.objs.size,_,I.laid (t':=s.toks) (o:=.tup (cutV xs lo hi)) (fun b ob q=>vad _ q) (vae _) ?_,rfl,q _ (I.hok.fresh (vae _))⟩
 exact ⟨Nat.le_trans (zef xs lo hi) hz,_,(r.drop (HT.sIx xs.length 0 lo)).take (HT.sIx xs.length xs.length hi - HT.sIx xs.length 0 lo),zbc.new _ _⟩
noncomputable def rCatT (K:PySem.W.Frag):R2:=fun x y H Q=>∃ a b xs ys,x=.ref a∧y=.ref b∧SqT K H a xs∧SqT K H b ys∧xs≠[]∧xs.length + ys.length≤sizeLine ∧
 (ys=[]→Q (.ref a) H)∧(ys≠[]→∀ p,H p=none→Q (.ref p) (upd H p (.tup (xs++ys))))
theorem Vals.nil_iff {xs:List V} {us:List Value} (r:Vals xs us):us=[]↔xs=[]:=by
 cases r with
 | nil=>simp
 | cons _ _=>simp
theorem zsf:OpR X (binaryOp .Add) (rCatT X.K):=by
 intro pins s σ H x y v u Q I rx ry h
 obtain ⟨a,b,xs,ys,rfl,rfl,ha,hb,hx,hz,q1,q2⟩:=h
 cases rx
 cases ry
 obtain ⟨its,r1,p1,_⟩:=I.tuple ha
 obtain ⟨its2,r2,p2,_⟩:=I.tuple hb
 refine HT.cat_tup p1 p2 (fun z=>hx (r1.nil_iff.mp z)) (fun z=>⟨.ref a,H,I,rfl,q1 (r2.nil_iff.mp z)⟩) (fun z=>?_) (by rw [← r1.length,← r2.length]; exact hz)
 refine ⟨.ref s.heap.objs.size,_,I.laid (t':=s.toks) (o:=.tup (xs++ys)) (fun b ob q=>vad _ q) (vae _) ?_,rfl,q2 (fun w=>z (r2.nil_iff.mpr w)) _ (I.hok.fresh (vae _))⟩
 exact ⟨by rw [vag]; exact hz,_,r1.append r2,zbc.new _ _⟩
end
noncomputable def ixN (n:Nat) (i:Int):Option Nat:=if 0≤i then (if i < n then some i.toNat else none) else if -(n:Int)≤i then some (i + n).toNat else none
noncomputable def atI {α:Type} (xs:List α) (i:Int):Option α:=(ixN xs.length i).bind fun j=>xs[j]?
theorem zl7 {n:Nat} {i:Int} {j:Nat} (h:ixN n i=some j):seqIndex? i n=some j∧j < n∧-(n:Int)≤i∧i < n:=by
 unfold ixN at h
 by_cases h0:0≤i
 ·rw [if_pos h0] at h
  by_cases h1:i < n
  ·rw [if_pos h1] at h
   have e:i.toNat=j:=Option.some.inj h
   exact ⟨by rw [seqIndex_of h0 h1,e],by omega,by omega,h1⟩
  ·rw [if_neg h1] at h; cases h
 ·rw [if_neg h0] at h
  by_cases h1:-(n:Int)≤i
  ·rw [if_pos h1] at h
   have e:(i + n).toNat=j:=Option.some.inj h
   exact ⟨by rw [seqIndex_neg (by omega) h1,e],by omega,h1,by omega⟩
  ·rw [if_neg h1] at h; cases h
theorem zl8 {α:Type} {xs:List α} {i:Int} {v:α} (h:atI xs i=some v):∃ j,seqIndex? i xs.length=some j∧xs[j]?=some v∧j < xs.length∧-(xs.length:Int)≤i∧i < xs.length:=by
 unfold atI at h
 cases e:ixN xs.length i with
 | none=>rw [e] at h; cases h
 | some j=>
  rw [e] at h
  obtain ⟨h1,h2,h3,h4⟩:=zl7 e
  exact ⟨j,h1,h,h2,h3,h4⟩
theorem zbk {α:Type} {xs:List α} {j:Nat} {v:α} (h:xs[j]?=some v):atI xs (j:Int)=some v:=by
 have hj:j < xs.length:=(List.getElem?_eq_some_iff.mp h).1
 have e:ixN xs.length (j:Int)=some j:=by
  unfold ixN
  rw [if_pos (by omega),if_pos (by omega)]; simp
 unfold atI; rw [e]; exact h
theorem zo6 {α:Type} (xs:List α) (v:α):atI (xs++[v]) (-1)=some v:=by
 have hl:(xs++[v]).length=xs.length + 1:=by simp
 have e:ixN (xs++[v]).length (-1)=some xs.length:=by
  unfold ixN
  rw [hl,if_neg (by decide),if_pos (by omega)]
  congr 1
  omega
 unfold atI
 rw [e]
 show (xs++[v])[xs.length]?=some v
 simp
noncomputable def ziq (b:Expr):Prop:=∀ o i,subscripted b false o i=operate [o,i] (getItem o i)
noncomputable def IxR (X:Cx) (r:R2):Prop:=
 ∀ (value slice:Expr) (pins:List (Addr × Obj)) (s:Shared) (σ:St) (H:Hp) (x y:V) (v u:Value) (Q:VK),Inv X pins σ H s→RelV x v→RelV y u→r x y H Q →
  subscripted slice false v u=operate [v,u] (getItem v u)→wpAny (model X.prog X.w) X.A (subscriptTail value slice v u) (EP X pins σ Q) X.xe s
noncomputable def MtR (X:Cx) (id:String) (r:V→List V→Hp→VK→Prop):Prop:=
 ∀ (pins:List (Addr × Obj)) (s:Shared) (σ:St) (H:Hp) (x:V) (xs:List V) (v:Value) (us:List Value) (Q:VK),Inv X pins σ H s→RelV x v→Vals xs us→r x xs H Q →
  wpAny (model X.prog X.w) X.A (call (.builtin id) (v :: us)) (EP X pins σ Q) X.xe s
section
variable {X:Cx} {a b:Expr} {ta tb:TE} {pos:Pos}
theorem IxR.or {r r':R2} (h:IxR X r) (h':IxR X r'):IxR X (fun x y H Q=>r x y H Q∨r' x y H Q):=by
 intro value slice pins s σ H x y v u Q I rx ry q hs
 rcases q with q | q
 ·exact h value slice pins s σ H x y v u Q I rx ry q hs
 ·exact h' value slice pins s σ H x y v u Q I rx ry q hs
theorem pe_ix {r:R2} (hr:IxR X r) (ha:PE X a ta) (hb:PE X b tb) (hs:ziq b):PE X (.Subscript a b pos) (tOp r ta tb):=by
 intro pins s σ H Q I h
 exact Subscript_ (binT ha hb I h fun v u s2 x y H2 I2 rx ry q=>hr a b pins s2 σ H2 x y v u Q I2 rx ry q (hs _ _))
noncomputable def rIxL (K:PySem.W.Frag):R2:=fun x y H Q=>∃ p xs i v,x=.ref p∧y=.int i∧SqL K H p xs∧atI xs i=some v∧Q v H
noncomputable def rIxT (K:PySem.W.Frag):R2:=fun x y H Q=>∃ p xs i v,x=.ref p∧y=.int i∧SqT K H p xs∧atI xs i=some v∧Q v H
theorem zsg:IxR X (rIxL X.K):=by
 intro value slice pins s σ H x y v u Q I rx ry h hs
 obtain ⟨p,xs,i,z,rfl,rfl,hq,he,q⟩:=h
 cases rx
 obtain ⟨t,rfl⟩:=ry
 obtain ⟨its,r,pl,hz⟩:=I.list hq
 obtain ⟨j,h1,h2,h3,h4,h5⟩:=zl8 he
 obtain ⟨w,ew,rw'⟩:=r.get h2
 have hl:=r.length
 have hn:=zg3
 have fin:EP X pins σ Q w s:=⟨z,H,I,rw',q⟩
 by_cases h0:0≤i
 ·have hj:i.toNat=j:=by
   rw [seqIndex_of h0 h5] at h1
   exact Option.some.inj h1
  exact item_listR pl.isList h0 (by omega) (by rw [hj]; simpa using ew) fin hs
 ·have hj:(i + (its.toArray.size:Int)).toNat=j:=by
   rw [seqIndex_neg (by omega) h4] at h1
   rw [vai,← hl]
   exact Option.some.inj h1
  exact subscriptTail_builtinR (x:=w) pl.isList.typeIs slot_list_getitem.lookup
   (wpAny_getItem_list_neg (Q:=fun r s'=>r=w∧EP X pins σ Q r s') pl.isList (by omega) (by rw [vai] <;> omega) (by omega) (by rw [hj]; simpa using ew) ⟨rfl,fin⟩) hs
theorem zu9:IxR X (rIxT X.K):=by
 intro value slice pins s σ H x y v u Q I rx ry h hs
 obtain ⟨p,xs,i,z,rfl,rfl,hq,he,q⟩:=h
 cases rx
 obtain ⟨t,rfl⟩:=ry
 obtain ⟨its,r,pl,hz⟩:=I.tuple hq
 obtain ⟨j,h1,h2,h3,h4,h5⟩:=zl8 he
 obtain ⟨w,ew,rw'⟩:=r.get h2
 have hl:=r.length
 have hn:=zg3
 have fin:EP X pins σ Q w s:=⟨z,H,I,rw',q⟩
 exact subscriptTail_builtinR (x:=w) pl.typeIs slot_tuple_getitem.lookup
  (getItem_tuple (j:=j) (Q:=fun r s'=>r=w∧EP X pins σ Q r s') pl (by omega) (by omega) (by rw [vai,← hl]; exact h1) (by simpa using ew) ⟨rfl,fin⟩) hs
theorem zkx (its:List Value) (n j:Nat) (u:Value):Obj.mapSeq (·.setIfInBounds j u) { cls:=.type "list",data:=.seq its.toArray n } = { cls:=.type "list",data:=.seq (its.set j u).toArray n }:=by
 simp [Obj.mapSeq]
theorem Inv.lst {pins:List (Addr × Obj)} {σ:St} {H:Hp} {s:Shared} {p:Addr} {xs:List V} (I:Inv X pins σ H s) (h:H p=some (.lst xs)) :
 ∃ (its:List Value) (n:Nat),Vals xs its∧s.heap.get? p=some { cls:=.type "list",data:=.seq its.toArray n } ∧ xs.length≤sizeLine:=by
 obtain ⟨z,its,n,r,e⟩:=I.hok p _ h
 exact ⟨its,n,r,e,z⟩
theorem Inv.lstUpd {pins:List (Addr × Obj)} {σ:St} {H:Hp} {s:Shared} {p:Addr} {xs ys:List V} {its its':List Value} {n n':Nat} {f:Obj→Obj} (I:Inv X pins σ H s) (h:H p=some (.lst xs))
 (ho:s.heap.get? p=some { cls:=.type "list",data:=.seq its.toArray n }) (hf:f { cls:=.type "list",data:=.seq its.toArray n } = { cls:=.type "list",data:=.seq its'.toArray n' }) (r:Vals ys its') (hz:ys.length≤sizeLine) (t:Nat) :
 Inv X pins σ (upd H p (.lst ys)) { s with heap:=s.heap.update p f,toks:=t }:=by
 have e:(s.heap.update p f).get? p=some { cls:=.type "list",data:=.seq its'.toArray n' }:=by
  rw [Heap.get?_update_self f ho (by rw [hf] <;> rfl),hf]
 refine I.write (x:=p) (e:=p) (by rw [h]; trivial) (.inl rfl) (fun b u hb q=>(Heap.get?_update_other _ _ (Ne.symm hb)).trans q) ⟨_,e⟩ ?_
 exact ⟨hz,its',n',r,e⟩
noncomputable def rSetL:V→V→V→Hp→(Hp→Prop)→Prop:=fun o i v H Q=>∃ p xs k j,o=.ref p∧i=.int k∧H p=some (.lst xs)∧ixN xs.length k=some j∧Q (upd H p (.lst (xs.set j v)))
theorem zo7:PSet X rSetL:=by
 intro pins s σ H o i v ov iv u Q I ro ri rv h
 obtain ⟨p,xs,k,j,rfl,rfl,hp,hj,q⟩:=h
 cases ro
 obtain ⟨t,rfl⟩:=ri
 obtain ⟨its,n,r,ho,hz⟩:=I.lst hp
 obtain ⟨h1,h2,h3,h4⟩:=zl7 hj
 have hl:=r.length
 have hn:=zg3
 have I':Inv X pins σ (upd H p (.lst (xs.set j v))) { s with heap:=s.heap.update p (Obj.mapSeq (·.setIfInBounds j u)) }:=
  I.lstUpd hp ho (zkx its n j u) (r.set rv j) (by rw [List.length_set]; exact hz) s.toks
 by_cases h0:0≤k
 ·have hk:k.toNat=j:=by
   rw [seqIndex_of h0 h4] at h1
   exact Option.some.inj h1
  exact PySem.W.ki_setAt ho h0 (by omega) (by rw [vai,← hl]; exact h4) (by rw [hk]; exact ⟨_,I',q⟩)
 ·have hk:(k + (its.toArray.size:Int)).toNat=j:=by
   rw [seqIndex_neg (by omega) h3] at h1
   rw [vai,← hl]
   exact Option.some.inj h1
  exact PySem.W.ki_setBack ho (by omega) (by rw [vai,← hl]; exact h3) (by omega) (by rw [hk]; exact ⟨_,I',q⟩)
theorem zg8 (lo hi:Option Int) (n:Nat):(sliceBounds lo hi none n).1=((HT.sIx n 0 lo:Nat):Int)∧(sliceBounds lo hi none n).2.1=((HT.sIx n n hi:Nat):Int)∧(sliceBounds lo hi none n).2.2=1:=by
 refine ⟨?_,?_,rfl⟩
 ·cases lo with
  | none=>simp [sliceBounds,HT.sIx]
  | some i=>
   simp only [sliceBounds,HT.sIx,Option.getD_none,show (1:Int) > 0 by decide,if_true]
   by_cases h:i < 0
   ·simp only [h,if_true] <;> omega
   ·simp only [h,if_false] <;> omega
 ·cases hi with
  | none=>simp [sliceBounds,HT.sIx]
  | some i=>
   simp only [sliceBounds,HT.sIx,Option.getD_none,show (1:Int) > 0 by decide,if_true]
   by_cases h:i < 0
   ·simp only [h,if_true] <;> omega
   ·simp only [h,if_false] <;> omega
theorem zf3 (its:List Value) (lo hi:Option Int):slicePick its.toArray lo hi none=((its.drop (HT.sIx its.length 0 lo)).take (HT.sIx its.length its.length hi - HT.sIx its.length 0 lo)).toArray:=by
 obtain ⟨h1,h2,h3⟩:=zg8 lo hi its.toArray.size
 unfold slicePick
 rw [h1,h2,h3]
 simp only [sliceRange_one,pick_run,vai] <;> rfl
noncomputable def rSlL (K:PySem.W.Frag):V→Option Int→Option Int→Hp→VK→Prop:=fun x lo hi H Q=>∃ a xs,x=.ref a∧SqL K H a xs∧∀ p,H p=none→Q (.ref p) (upd H p (.lst (cutV xs lo hi)))
theorem zsh:SlR X (rSlL X.K):=by
 intro pins s σ H x v vl vu lo hi sl Q I rx hs pl pu h
 obtain ⟨a,xs,rfl,hx,q⟩:=h
 cases rx
 obtain ⟨its,r,ht,hz⟩:=I.list hx
 have hlen:=r.length
 refine ⟨"list",_,slot_list_getitem.lookup,ht.isList.typeIs,?_⟩
 refine wpAny_getItem_list_slice ht.isList hs pl pu .none (by simp) ?_ (by rw [vai] <;> omega)
 rw [zf3,← hlen]
 refine ⟨.ref s.heap.objs.size,_,I.laid (t':=s.toks) (o:=.lst (cutV xs lo hi)) (fun b ob q=>vad _ q) (vae _) ?_,rfl,q _ (I.hok.fresh (vae _))⟩
 exact ⟨Nat.le_trans (zef xs lo hi) hz,_,0,(r.drop (HT.sIx xs.length 0 lo)).take (HT.sIx xs.length xs.length hi - HT.sIx xs.length 0 lo),vaw _ rfl⟩
theorem zg9:CallR X (.builtin "len") (fun xs H Q=>∃ p ys,xs=[.ref p]∧(SqL X.K H p ys∨SqT X.K H p ys)∧Q (.int ys.length) H):=by
 intro pins s σ H xs us Q I r h
 obtain ⟨p,ys,rfl,hq,q⟩:=h
 obtain ⟨u,rfl,rx⟩:=vals1 r
 cases rx
 have hn:=zg3
 rcases hq with hq | hq
 ·obtain ⟨its,r',pl,hz⟩:=I.list hq
  have hlen:=r'.length
  exact Calls.call_len_list pl.isList (by simp only [vai] <;> omega) ⟨.int ys.length,H,I.tok _,⟨s.toks + 1,by rw [vai,hlen]⟩,q⟩
 ·obtain ⟨its,r',pl,hz⟩:=I.tuple hq
  have hlen:=r'.length
  exact len_tuple pl (by simp only [vai] <;> omega) ⟨.int ys.length,H,I.tok _,⟨s.toks + 1,by rw [vai,hlen]⟩,q⟩
theorem CallR.or {f:Value} {r r':List V→Hp→VK→Prop} (h:CallR X f r) (h':CallR X f r'):CallR X f (fun xs H Q=>r xs H Q∨r' xs H Q):=by
 intro pins s σ H xs us Q I rs q
 rcases q with q | q
 ·exact h pins s σ H xs us Q I rs q
 ·exact h' pins s σ H xs us Q I rs q
theorem zha:CallR X (.type "list") (fun xs H Q=>∃ p ys,xs=[.ref p]∧(SqL X.K H p ys∨SqT X.K H p ys)∧∀ l,H l=none→Q (.ref l) (upd H l (.lst ys))):=by
 intro pins s σ H xs us Q I r h
 obtain ⟨p,ys,rfl,hq,q⟩:=h
 obtain ⟨u,rfl,rx⟩:=vals1 r
 cases rx
 have fin:∀ (its:List Value),Vals ys its→ys.length≤sizeLine→∀ (h':Heap) (c':Nat),(∀ b o',s.heap.get? b=some o'→h'.get? b=some o') →
  h'.get? s.heap.objs.size=some { cls:=.type "list",dict:=none,data:=.seq its.toArray c',slots:=#[] } → EP X pins σ Q (.ref s.heap.objs.size) { s with heap:=h' }:=fun its r' hz h' c' kp e=>
  ⟨.ref s.heap.objs.size,_,I.laid (t':=s.toks) kp (vae _) (show ObjOk X.prog X.w _ h' _ (.lst ys) from ⟨hz,its,c',r',e⟩),rfl,q _ (I.hok.fresh (vae _))⟩
 rcases hq with hq | hq
 ·obtain ⟨its,r',pl,hz⟩:=I.list hq
  have hlen:=r'.length
  obtain ⟨o,ho,hc,n,hd⟩:=pl.isList
  exact call_list_seq p (.inl rfl) ho hc hd (fun h' c' kp e=>fin its r' hz h' c' kp e) (by simp only [vai] <;> omega)
 ·obtain ⟨its,r',pl,hz⟩:=I.tuple hq
  have hlen:=r'.length
  obtain ⟨o,ho,hc,n,hd⟩:=pl
  exact call_list_seq p (.inr rfl) ho hc hd (fun h' c' kp e=>fin its r' hz h' c' kp e) (by simp only [vai] <;> omega)
theorem zf4:CallR X (.type "tuple") (fun xs H Q=>∃ p ys,xs=[.ref p]∧((SqL X.K H p ys∧∀ l,H l=none→Q (.ref l) (upd H l (.tup ys)))∨(SqT X.K H p ys∧Q (.ref p) H))):=by
 intro pins s σ H xs us Q I r h
 obtain ⟨p,ys,rfl,h⟩:=h
 obtain ⟨u,rfl,rx⟩:=vals1 r
 cases rx
 rcases h with ⟨hq,q⟩ | ⟨hq,q⟩
 ·obtain ⟨its,r',pl,hz⟩:=I.list hq
  have hlen:=r'.length
  refine call_tuple_list pl.isList (fun h' kp=>?_) (by simp only [vai] <;> omega)
  have I1:Inv X pins σ H { s with heap:=h' }:=I.kept (t':=s.toks) kp
  have I2:Inv X pins σ (upd H h'.objs.size (.tup ys)) { s with heap:=h'.push { cls:=.type "tuple",data:=.seq its.toArray } }:=
   I1.laid (t':=s.toks) (fun b o e=>vad _ e) (vae _) (show ObjOk X.prog X.w _ _ _ (.tup ys) from ⟨hz,its,r',zbc.new _ _⟩)
  exact ⟨.ref h'.objs.size,_,I2,rfl,q _ (I1.hok.fresh (vae _))⟩
 ·obtain ⟨its,r',pl,hz⟩:=I.tuple hq
  exact call_tuple_same pl ⟨.ref p,H,I,rfl,q⟩
noncomputable def tyV (K:PySem.W.Frag) (T:String) (x:V) (H:Hp):Prop:=match x with
 | .str _=>T = "str"
 | .int _=>T = "int"
 | .ref p=>(T = "list" ∧ ∃ xs,SqL K H p xs)∨(T = "tuple" ∧ ∃ xs,SqT K H p xs) ∨
  (T = "dict" ∧ ((∃ kvs,H p=some (.dK kvs))∨∃ kvs,H p=some (.dT kvs)))∨(T = "set" ∧ ∃ S n,H p=some (.set S n))
 | _=>False
theorem zva {pins:List (Addr × Obj)} {σ:St} {H:Hp} {s:Shared} {T:String} {x:V} {v:Value} (I:Inv X pins σ H s) (r:RelV x v) (ty:tyV X.K T x H) :
 s.TypeIs v T∧∀ a,v=.ref a→∃ ob,s.heap.get? a=some ob∧ob.dict=none:=by
 cases x with
 | str z=>
  obtain ⟨t,rfl⟩:=r
  cases (show T = "str" from ty)
  exact ⟨typeIs_str s z t,fun _ e=>nomatch e⟩
 | int i=>
  obtain ⟨t,rfl⟩:=r
  cases (show T = "int" from ty)
  exact ⟨typeIs_int s i t,fun _ e=>nomatch e⟩
 | ref p=>
  cases r
  rcases ty with ⟨rfl,xs,hq⟩ | ⟨rfl,xs,hq⟩ | ⟨rfl,hk⟩ | ⟨rfl,S,n,hk⟩
  ·obtain ⟨its,_,pl,_⟩:=I.list hq
   refine ⟨pl.isList.typeIs,fun a e=>?_⟩
   cases e
   obtain ⟨o,n,e,c,hd,_⟩:=pl
   exact ⟨o,e,hd⟩
  ·obtain ⟨its,_,⟨o,h1,h2,_,h3⟩,_⟩:=I.tupleD hq
   refine ⟨⟨o,h1,h2⟩,fun a e=>?_⟩
   cases e
   exact ⟨o,h1,h3⟩
  ·have z:∃ o,s.heap.get? p=some o∧o.ExactDict:=by
    rcases hk with ⟨kvs,hk⟩ | ⟨kvs,hk⟩
    ·obtain ⟨_,_,_,_,o,_,_,e,ex,_⟩:=I.hok p _ hk
     exact ⟨o,e,ex⟩
    ·obtain ⟨_,_,_,_,o,_,_,e,ex,_⟩:=I.hok p _ hk
     exact ⟨o,e,ex⟩
   obtain ⟨o,e,ex⟩:=z
   refine ⟨⟨o,e,ex.1⟩,fun a e2=>?_⟩
   cases e2
   exact ⟨o,e,ex.2.1⟩
  ·obtain ⟨o,_,_,_,e,ex,_⟩:=I.hok p _ hk
   refine ⟨⟨o,e,ex.1⟩,fun a e2=>?_⟩
   cases e2
   exact ⟨o,e,ex.2.1⟩
 | _=>exact False.elim ty
noncomputable def tBM (K:PySem.W.Frag) (T:String) (r:V→List V→Hp→VK→Prop) (to:TE) (t:TA):TE:=fun σ H Q=>to σ H fun x H1=>tyV K T x H1∧t σ H1 fun xs H2=>r x xs H2 Q
variable {o e:Expr} {es:List Expr} {to:TE} {t:TA} {name:Str} {apos cpos:Pos} {T id:String} {r:V→List V→Hp→VK→Prop}
theorem pe_bm (pa:PlainAttrs T) (slot:Slot T name id) (hty:typeOf (.builtin id)=pure (.type "method_descriptor")) (hm:MtR X id r) (ho:PE X o to) (ha:PA X (e :: es) t)
 (hbase:attributeBase o name X.env (eval o X.env)=eval o X.env:=by rfl)
 (hfew:((backTo cpos (starEach (e :: es) X.env)).all (fun x=>!x.1) && (backToKw cpos (keywordEach [] X.env)).all (fun x=>x.1.isSome)
   && decide ((e :: es).length + ([]:List Keyword).length + (if ([]:List Keyword).isEmpty then 0 else 1) < 30))=true:=by rfl)
 (hline:(apos.endLine == cpos.line)=true:=by rfl) (hs:starEach (e :: es) X.env=(false,eval e X.env) :: starEach es X.env:=by rfl) (hplain:(backTo cpos (starEach es X.env)).any (·.1)=false:=by rfl) :
 PE X (.Call (.Attribute o name apos) (e :: es) [] cpos) (tBM X.K T r to t):=by
 intro pins s σ H Q I h
 refine wpAny_Call_method_late hbase hfew hline rfl (thn (ho pins s σ H _ I h) fun v s1 hq0=>?_)
 obtain ⟨x,H1,I1,r1,ty,q1⟩:=hq0
 obtain ⟨h1,h2⟩:=zva I1 r1 ty
 refine ⟨T,id,pa,slot,hty,h1,h2,?_⟩
 have hA:=ha cpos pins s1 σ H1 _ I1 q1
 rw [hs] at hA ⊢
 refine Calls.callWith_builtin (by show (false || (backTo cpos (starEach es X.env)).any (·.1))=false; rw [hplain] <;> rfl) (Calls.evalArgs_plain ?_)
 exact thn hA fun us s2 ⟨vs,H2,I2,r2,q2⟩=>hm pins s2 σ H2 x vs v us Q I2 r1 r2 q2
/- xs.append(e),list.index on a module's tuple .. are MtR facts of 06m -/
end
noncomputable def MtM (X:Cx) (id:String) (r:V→List V→Hp→VK→Prop):Prop:=
 ∀ (pins:List (Addr × Obj)) (s:Shared) (σ:St) (H:Hp) (x:V) (xs:List V) (v:Value) (us:List Value) (Q:VK),Inv X pins σ H s→RelV x v→Vals xs us→r x xs H Q →
  wpAny (model X.prog X.w) X.A (call (.builtin id) (v :: us)) (EP X pins σ Q) X.xe s
theorem Vals.one:∀ {x:V} {us:List Value},Vals [x] us→∃ u,us=[u]∧RelV x u
 | _,_,.cons r .nil=>⟨_,rfl,r⟩
theorem Vals.rep {xs:List V} {us:List Value} (h:Vals xs us):∀ k:Nat,Vals (List.replicate k xs).flatten (List.replicate k us).flatten
 | 0=>.nil
 | k + 1=>by
  rw [List.replicate_succ,List.replicate_succ,List.flatten_cons,List.flatten_cons]
  exact Vals.append h (Vals.rep h k)
theorem zeg (its:List Value):∀ (k:Nat) (acc:List Value),
 List.foldl (fun x1 x2=>x1++x2) acc.toArray (List.replicate k its.toArray)=(acc++(List.replicate k its).flatten).toArray
 | 0,acc=>by simp
 | k + 1,acc=>by
  have e:acc.toArray++its.toArray=(acc++its).toArray:=by simp
  have e2:(acc++its)++(List.replicate k its).flatten=acc++(List.replicate (k + 1) its).flatten:=by
   rw [List.replicate_succ,List.flatten_cons,List.append_assoc]
  rw [← e2,← zeg its k (acc++its),← e,List.replicate_succ,List.foldl_cons]
section
variable {X:Cx} {pins:List (Addr × Obj)} {σ:St} {H:Hp} {s:Shared} {l b:Addr} {xs ys zs:List V}
theorem Inv.lset {its its':List Value} {n:Nat} {f:Array Value→Array Value} {t':Nat} (I:Inv X pins σ H s) (hH:H l=some (.lst xs))
 (e:s.heap.get? l=some { cls:=.type "list",data:=.seq its.toArray n }) (hf:f its.toArray=its'.toArray) (hv:Vals ys its') (hz:ys.length≤sizeLine) :
 Inv X pins σ (upd H l (.lst ys)) { s with heap:=s.heap.update l (Obj.mapSeq f),toks:=t' }:=by
 have q:=PySem.IsL.update e f
 rw [hf] at q
 refine I.write (x:=l) (e:=l) (by rw [hH]; exact trivial) (.inl rfl) (fun b' u hb hu=>(Heap.get?_update_other s.heap (Obj.mapSeq f) (Ne.symm hb)).trans hu) ⟨_,q⟩ ?_
 exact ⟨hz,its',_,hv,q⟩
theorem Inv.lnew {its:List Value} {t':Nat} (I:Inv X pins σ H s) (hv:Vals ys its) (hz:ys.length≤sizeLine) :
 Inv X pins σ (upd H s.heap.objs.size (.lst ys)) { s with heap:=s.heap.push { cls:=.type "list",data:=.seq its.toArray },toks:=t' }:=
 I.laid (fun _ _ q=>vad _ q) (vae _) ⟨hz,its,0,hv,vaw _ rfl⟩
theorem Inv.fresh (I:Inv X pins σ H s):H s.heap.objs.size=none:=I.hok.fresh (vae _)
theorem Inv.lstM (I:Inv X pins σ H s) (hH:H l=some (.lst xs)):xs.length≤sizeLine∧∃ (its:List Value) (n:Nat),Vals xs its∧xs.length=its.length∧s.heap.get? l=some { cls:=.type "list",data:=.seq its.toArray n }:=by
 obtain ⟨z,its,n,r,e⟩:=I.hok l _ hH
 exact ⟨z,its,n,r,r.length,e⟩
theorem zf5 {n:Nat} (h:n≤sizeLine):Builtin.List.listTooLong n=false:=by
 unfold Builtin.List.listTooLong
 exact decide_eq_false (by omega)
end
section
variable {X:Cx}
noncomputable def zsi:V→List V→Hp→VK→Prop:=fun x vs H Q=>∃ l xs y,x=.ref l∧vs=[y]∧H l=some (.lst xs)∧xs.length < sizeLine∧Q .non (upd H l (.lst (xs++[y])))
theorem zhb:MtM X "list.append" zsi:=by
 intro pins s σ H x vs v us Q I rx rv h
 obtain ⟨l,xs,y,rfl,rfl,hH,hz,q⟩:=h
 cases rx
 obtain ⟨u,rfl,ru⟩:=rv.one
 obtain ⟨z,its,n,r,hl,e⟩:=I.lstM hH
 refine call_meets F.slot_list_append ⟨_,e,rfl⟩ F.entry_list_append (F.args_list_append_2 _ _) (PySem.list_append l its.toArray n u (by rw [vai]; omega)) ⟨e,?_⟩
 refine ⟨.non,_,I.lset (its':=its++[u]) hH e (by simp) (r.append (.cons ru .nil)) ?_,rfl,q⟩
 rw [vag,List.length_singleton]
 omega
noncomputable def zsj:V→List V→Hp→VK→Prop:=fun x vs H Q=>∃ l b xs zs,x=.ref l∧vs=[.ref b]∧H l=some (.lst xs)∧H b=some (.lst zs)∧xs.length + zs.length≤sizeLine∧Q .non (upd H l (.lst (xs++zs)))
theorem zvb:MtM X "list.extend" zsj:=by
 intro pins s σ H x vs v us Q I rx rv h
 obtain ⟨l,b,xs,zs,rfl,rfl,hH,hB,hz,q⟩:=h
 cases rx
 obtain ⟨u,rfl,ru⟩:=rv.one
 cases ru
 obtain ⟨z,its,n,r,hl,e⟩:=I.lstM hH
 obtain ⟨z2,its2,n2,r2,hl2,e2⟩:=I.lstM hB
 have hsz:its.toArray.size + its2.toArray.size≤sizeLine:=by rw [vai,vai]; omega
 have hlong:¬ (!its.toArray.isEmpty && Builtin.List.listTooLong (its.toArray.size + its2.toArray.size))=true:=by
  rw [zf5 hsz,Bool.and_false]
  exact Bool.false_ne_true
 refine call_meets F.slot_list_extend ⟨_,e,rfl⟩ F.entry_list_extend (F.args_list_extend_2 _ _)
  (AutoSeq1.list_extend_list_list_0 l its.toArray n b its2.toArray n2 hlong (by rw [vai]; omega) (by omega)) ⟨e,e2,?_⟩
 refine ⟨.non,_,I.lset (its':=its++its2) hH e (by simp) (r.append r2) ?_,rfl,q⟩
 rw [vag]
 omega
noncomputable def rCat:R2:=fun x y H Q=>∃ l b xs zs,x=.ref l∧y=.ref b∧H l=some (.lst xs)∧H b=some (.lst zs)∧xs.length + zs.length≤sizeLine∧∀ p,H p=none→Q (.ref p) (upd H p (.lst (xs++zs)))
theorem zvc:OpR X (binaryOp .Add) rCat:=by
 intro pins s σ H x y v u Q I rx ry h
 obtain ⟨l,b,xs,zs,rfl,rfl,hH,hB,hz,q⟩:=h
 cases rx
 cases ry
 obtain ⟨z,its,n,r,hl,e⟩:=I.lstM hH
 obtain ⟨z2,its2,n2,r2,hl2,e2⟩:=I.lstM hB
 refine PySem.P.add_list e e2 ?_ (by rw [vai,vai]; omega)
 have ea:its.toArray++its2.toArray=(its++its2).toArray:=by simp
 rw [ea]
 exact ⟨.ref _,_,I.lnew (t':=s.toks) (r.append r2) (by rw [vag]; omega),rfl,q _ I.fresh⟩
noncomputable def rRep:R2:=fun x y H Q=>∃ l k xs,x=.ref l∧y=.int k∧H l=some (.lst xs)∧-(2 ^ 63)≤k∧k < 2 ^ 63∧xs.length * k.toNat≤sizeLine ∧
 ∀ p,H p=none→Q (.ref p) (upd H p (.lst (List.replicate k.toNat xs).flatten))
theorem zir {α:Type} (xs:List α) (k:Nat):(List.replicate k xs).flatten.length=k * xs.length:=by
 induction k with
 | zero=>simp
 | succ k ih=>rw [List.replicate_succ,List.flatten_cons,vag,ih,Nat.succ_mul,Nat.add_comm]
theorem zvd:OpR X (binaryOp .Mult) rRep:=by
 intro pins s σ H x y v u Q I rx ry h
 obtain ⟨l,k,xs,rfl,rfl,hH,h1,h2,hz,q⟩:=h
 cases rx
 obtain ⟨t,rfl⟩:=ry
 obtain ⟨z,its,n,r,hl,e⟩:=I.lstM hH
 have hlen:its.toArray.size * k.toNat≤sizeLine:=by rw [vai,← hl]; exact hz
 have hcap:¬ its.toArray.size * k.toNat > (2 ^ 63 - 1) / 8:=by
  have:(sizeLine:Nat)≤(2 ^ 63 - 1) / 8:=by decide
  omega
 have hfit:¬ (!Builtin.List.listFitsIndex k)=true:=by
  rw [fitsIndex_both h1 h2]
  exact Bool.false_ne_true
 have hlong:¬ Builtin.List.listTooLong (its.toArray.size * k.toNat)=true:=by
  rw [zf5 hlen]
  exact Bool.false_ne_true
 have hnew:List.foldl (fun x1 x2=>x1++x2) #[] (List.replicate (if its.toArray.isEmpty=true then 0 else k.toNat) its.toArray)=(List.replicate k.toNat its).flatten.toArray:=by
  have f0:∀ m:Nat,List.foldl (fun x1 x2=>x1++x2) #[] (List.replicate m its.toArray)=(List.replicate m its).flatten.toArray:=fun m=>by
   have:=zeg its m []
   rw [List.nil_append] at this
   exact this
  rw [f0]
  cases its with
  | nil=>simp
  | cons a r'=>rw [if_neg (by simp)]
 refine wpAny_binaryOp_repeat_ref (T := "list") (U := "int") (by decide) ⟨_,e,rfl⟩ (fun s'=>typeIs_int s' k t) noFill_list_mul F.fills_int_mul F.slot_int_rmul repeat_list F.slot_int_index.lookup
  (call_meets F.slot_int_rmul (typeIs_int s k t) F.entry_int_rmul (F.args_int_rmul_2 _ _) (int___rmul___int_list k t l its.toArray n)
    ⟨e,rfl,⟨_,e,rfl⟩,call_meets F.slot_list_mul ⟨_,e,rfl⟩ F.entry_list_mul (F.args_list_mul_2 _ _) (AutoListH.list___mul___list_int_3 l its.toArray n k t hfit hcap hlong) ⟨e,?_⟩⟩)
 rw [hnew]
 exact ⟨.ref _,_,I.lnew (t':=s.toks) (r.rep k.toNat) (by rw [zir,Nat.mul_comm]; exact hz),rfl,q _ I.fresh⟩
end
end L2
namespace Att
open PySem PySem.W PySem.Calls PyProof.Rows
theorem zeh {P:Params} {h:Heap}:∀ (ns:List Int) (vs:List Value),WellAll P h vs (ns.map WData.int)→IntsAre vs ns:=by
 intro ns
 induction ns with
 | nil=>
  intro vs w
  rw [List.map_nil] at w
  cases w
  exact .nil
 | cons n ns ih=>
  intro vs w
  rw [vao] at w
  cases w with
  | cons a b=>
   cases a
   exact .cons _ _ (ih _ b)
theorem zl9 {l:OpenLaw} {n:Nat} (hn:l.most=some n) {P:Params} {h:Heap} {args:List WData} {vals:List Value}
 (hpre:l.row.toRowW.claim.pre args=true) (hwl:WellAll P h vals args) :
 ∃ a vs ns,vals=[Value.ref a]∧args=[WData.list (ns.map WData.int)]∧h.get? a=some { cls:=.type "list",data:=.seq vs.toArray } ∧ IntsAre vs ns∧ns.length≤n:=by
 have hsh:WShape.hasAll [] args [.list .int]=true:=(pre_splitW hpre).1
 have hc:l.pre.holds [] { args:=args } = true:=(pre_splitW hpre).2
 obtain ⟨d,r,rfl,h1,h2⟩:=hasAllW_cons hsh
 obtain rfl:=hasAllW_nil h2
 obtain ⟨xs,rfl,h3⟩:=hasW_list h1
 obtain ⟨ns,rfl⟩:=items_int h3
 have hlen:ns.length≤n:=by
  unfold OpenLaw.pre at hc
  have h4:(WTm.not (.lt (.lit (.int (n:Int))) (.len (.arg 0)))).holds [] { args:=[.list (ns.map .int)] } = true:=by
   have h4:=(holds_andW hc).1
   rw [hn] at h4
   exact h4
  have h5:=condW_of h4 (w_not (w_lt w_lit (w_len_list (w_arg rfl))))
  rw [vab] at h5
  refine Nat.le_of_not_lt fun q=>?_
  have q':(n:Int) < ((ns.length:Nat):Int):=by omega
  first
   | (rw [decide_eq_true q'] at h5; exact absurd h5 (by decide))
   | (simp at h5; omega)
 cases hwl with
 | cons w1 w2=>
  cases w2
  cases w1 with
  | list ho hall=>exact ⟨_,_,ns,rfl,rfl,ho,zeh ns _ hall,hlen⟩
theorem zma (l:OpenLaw) (args:List WData):l.row.toRowW.claim.post args (.bool true) args=true:=
 postW_of (r:=l.row.toRowW) (X:=(true == true))
  (show WShape.has [] (.bool true) .bool=true by first | rfl | decide | simp [WShape.has,WShape.arms,WShape.armsAll])
  (show (WTm.eq .res (.lit (.bool true))).value [] { args:=args,res:=some (.bool true),after:=args } = some (.bool (true == true)) from w_eq_bool (w_res rfl) w_lit) rfl
theorem attach_call {l:OpenLaw} {n:Nat} {q:Program} {loose:List Str} {XP:(Str→Option Value)→Heap→Prop} {YP:World→Heap→Prop} {d:DefRec}
 (hn:l.most=some n) (hdf:d.params.defaults=[])
 (call:∀ (w:World) (s₀ s₁:Shared) (mg mb:Str→Option Value) (fa:Addr) (o:Obj) (pm cd doc:Value) (a:Addr) (vs:List Value) (ns:List Int),
   Ground q loose [] XP w s₀ mg mb s₁.heap→YP w s₁.heap →
   s₁.heap.get? fa=some o→o.data=.func (docDef d.name d.params d.body d.scope pm cd doc)→s₁.heap.CodeRec cd d.name→mg d.name=some (.ref fa) →
   s₁.heap.get? a=some { cls:=.type "list",data:=.seq vs.toArray } → IntsAre vs ns→ns.length≤n→s₁.gens = #[] →
   codeAny (model l.prog w) callerA (.call (.ref fa) ⟨[.ref a],[]⟩) (fun r s'=>r=.ok (.ret (.bool true))∧OldK s₁.heap s'.heap∧s'.os=s₁.os∧AllBare s'.gens) s₁) :
 WalkO q loose XP YP l.row.toRowW d [] (fun f vs=>PySem.call f vs):=by
 intro w s₀ s₁ mg mb G Y fa o pm cd doc dV kV ho hd hcd hD hmg hg args vals as hpre hlay hrd hwl hlo
 obtain rfl:dV=.none:=Dflts.none hD hdf
 obtain rfl:kV=.none:=Dflts.noKw hD
 obtain ⟨a,vs,ns,rfl,rfl,hobj,hints,hlen⟩:=zl9 hn hpre hwl
 refine enter_call (codeAny_mono (call w s₀ s₁ mg mb fa o pm cd doc a vs ns G Y ho (fd_plain hd) hcd hmg hobj hints hlen hg) fun r s' hq=>?_)
 obtain ⟨rfl,h2,h3,h4⟩:=hq
 exact ⟨.inl ⟨.bool true,.bool true,[],rfl,fun _=>rfl,.bool true,zma l _,fun _=>⟨List.Pairwise.nil,fun _ hm=>(nomatch hm)⟩⟩,h2,h3,h4⟩
end Att
namespace L2
open PySem PySem.Spec PyProof.Rows
theorem zhc:∀ {vs:List Value} {ns:List Int},IntsAre vs ns→Vals (ns.map V.int) vs
 | _,_,.nil=>.nil
 | _,_,.cons n t h=>.cons ⟨t,rfl⟩ (zhc h)
noncomputable def Only (H:Hp):Prop:=∀ b,H b=none∨∃ o xs,H b=some (.frz o (.lst xs))
theorem zo8 {P:Program} {w:World} {K:PySem.W.Frag} {mg mb:Str→Option Value} {CX:CXT} {k:Nat} {fa a:Addr} {fd:FuncData} {x:Str} {sp:Sp} {s₁:Shared} {vs:List Value} {ns:List Int}
 (KX:K.In s₁.heap) (hns:s₁.heap.Ns mainGlobals mg) (hb:s₁.heap.Ns builtinsNs mb) (hbb:∀ x:Str,x ≠ "__name__" → mb x=bootBuiltins x) (hlim:s₁.heap.NoLimit) (hg:s₁.gens = #[])
 (ha:s₁.heap.get? a=some { cls:=.type "list",data:=.seq vs.toArray }) (hi:IntsAre vs ns) (hl:ns.length≤sizeLine) (hr:Room k callerA)
 (F:∀ base:Heap,K.In base→base.Ns mainGlobals mg→FnOk P w K mg base CX k fa fd [x] sp) (hbind:∀ (s:Shared) (u:Value),BindsTo s fd ⟨[u],[]⟩ [(x,u)])
 (hsp:∀ H:Hp,Only H→SqL K H a (ns.map V.int)→sp [.ref a] H (fun v _=>v=.bl true) fun _ _ _=>False)
 (hCX:∀ H e s',CX [] H s₁ (fun _ _ _=>False) e s'→False) :
 codeAny (model P w) callerA (.call (.ref fa) ⟨[.ref a],[]⟩) (fun r s'=>r=.ok (.ret (.bool true))∧OldK s₁.heap s'.heap∧s'.os=s₁.os∧AllBare s'.gens) s₁:=by
 have rv:=zhc hi
 have lenV:=hi.length
 have core:∀ H:Hp,Only H→SqL K H a (ns.map V.int)→HOk P w H s₁.heap→(∀ b,H b≠none→b=a)→(H a≠none→K.lookup a=none) →
  codeAny (model P w) callerA (.call (.ref fa) ⟨[.ref a],[]⟩) (fun r s'=>r=.ok (.ret (.bool true))∧OldK s₁.heap s'.heap∧s'.os=s₁.os∧AllBare s'.gens) s₁:=by
  intro H hO hS hok hA hK
  have base_of:∀ {b:Addr} {o:Obj},s₁.heap.get? b=some o→H b=none→(hidT s₁.heap H).get? b=some o:=fun e n=>zor e n
  have noA:∀ {b:Addr} {o:Obj} {es:Array DictEntry} {ep:Nat},s₁.heap.get? b=some o→o.data=.dict es ep→H b=none:=fun {b o es ep} e d=>by
   cases q:H b with
   | none=>rfl
   | some u=>
    have e':b=a:=hA b (by rw [q]; simp)
    subst e'
    rw [ha] at e; cases e
    have d':Data.seq vs.toArray _=Data.dict es ep:=d
    cases d'
  have nsK:∀ {b:Addr} {m:Str→Option Value},s₁.heap.Ns b m→(hidT s₁.heap H).Ns b m:=fun {b m} ⟨o,es,ep,e,d,r⟩=>⟨o,es,ep,base_of e (noA e d),d,r⟩
  have hKb:K.In (hidT s₁.heap H):=fun b o e=>base_of (KX b o e) (by
   cases q:H b with
   | none=>rfl
   | some u=>
    have e':b=a:=hA b (by rw [q]; simp)
    subst e'
    rw [hK (by rw [q]; simp)] at e; cases e)
  have hM:Mod K mg (hidT s₁.heap H):=⟨hKb,nsK hns,⟨mb,nsK hb,hbb⟩,let ⟨mc,h1,h2⟩:=hlim; ⟨mc,nsK h1,h2⟩⟩
  have e0:Env0 P w K mg (hidT s₁.heap H) callerA [] s₁ H:=⟨rfl,hM,fun b o e=>zrx e,Nat.le_of_eq (zlp _ _),trivial,fun b hb=>absurd (show b∈([]:List Addr) from hb) (by simp),hok,.of_eq hg⟩
  refine codeAny_mono ((F _ hKb (nsK hns)).run callerA [] s₁ H ⟨[.ref a],[]⟩ [.ref a] [.ref a] _ _ hr e0 (hbind s₁ (.ref a)) (.cons rfl .nil) (hsp H hO hS)) fun r s' h=>?_
  cases r with
  | error e=>exact (hCX H e s' h).elim
  | ok fl=>
   cases fl with
   | next=>exact False.elim h
   | brk=>exact False.elim h
   | cont=>exact False.elim h
   | ret u=>
    obtain ⟨v,H',os,bare,un,hok',r',q⟩:=h
    have q':v=.bl true:=q
    subst q'
    obtain rfl:u=Value.bool true:=r'
    refine ⟨rfl,OldK.of_keep fun b o e=>?_,os,bare⟩
    cases q:H b with
    | none=>exact un.keep b o e q (by intro z; exact absurd (show b∈([]:List Addr) from z) (by simp)) (by simp)
    | some u=>
     rcases hO b with z | ⟨ob,xs,z⟩
     ·rw [q] at z; cases z
     ·have z2:=un.frzs b ob _ z
      obtain ⟨e1,_⟩:=hok b _ z
      obtain ⟨e2,_⟩:=hok' b _ z2
      rw [e] at e1; cases e1
      exact e2
 cases hk:K.lookup a with
 | some o=>
  have e:=KX a o hk
  rw [ha] at e
  cases e
  refine core (fun _=>none) (fun _=>.inl rfl) (.inr ⟨_,vs.toArray,_,hk,rfl,rfl,rfl,by rw [vai,lenV]; exact hl,by simpa using rv⟩) (fun b u z=>by have z':(none:Option HO)=some u:=z; cases z') (fun b z=>absurd rfl z) fun z=>absurd rfl z
 | none=>
  refine core (fun b=>if b=a then some (.frz { cls:=.type "list",data:=.seq vs.toArray } (.lst (ns.map V.int))) else none) (fun b=>?_) (.inl (.inr ⟨{ cls:=.type "list",data:=.seq vs.toArray },if_pos rfl⟩)) (fun b u z=>?_) (fun b z=>?_) fun _=>hk
  ·by_cases hb:b=a
   ·exact .inr ⟨_,_,if_pos hb⟩
   ·exact .inl (if_neg hb)
  ·by_cases hb:b=a
   ·have z':=(if_pos hb).symm.trans z
    cases z'
    subst hb
    exact ⟨ha,by rw [vab]; exact hl,vs,_,rv,ha⟩
   ·have z':=(if_neg hb).symm.trans z
    cases z'
  ·by_cases hb:b=a
   ·exact hb
   ·exact absurd (if_neg hb) z
theorem zsk {l:PySem.W.OpenLaw} {n k:Nat} {q:Program} {loose:List Str} {XP:(Str→Option Value)→Heap→Prop} {YP:World→Heap→Prop} {d:DefRec} {K:Params→PySem.W.Frag} {CX:World→CXT} {sp:World→Sp} {x:Str}
 (hn:l.most=some n) (hn2:n≤sizeLine) (hdf:d.params.defaults=[]) (hr:Room k callerA)
 (hY:∀ (w:World) (h:Heap),YP w h→(K w.params).In h)
 (F:∀ (w:World) (mg:Str→Option Value) (fa:Addr) (h:Heap),(K w.params).In h→h.Ns mainGlobals mg→mg d.name=some (.ref fa) →
   ∃ fd:FuncData,(∀ (s:Shared) (u:Value),BindsTo s fd ⟨[u],[]⟩ [(x,u)]) ∧
    ∀ base:Heap,(K w.params).In base→base.Ns mainGlobals mg→FnOk l.prog w (K w.params) mg base (CX w) k fa fd [x] (sp w))
 (hsp:∀ (w:World) (H:Hp) (a:Addr) (ns:List Int),ns.length≤n→Only H→SqL (K w.params) H a (ns.map V.int)→sp w [.ref a] H (fun v _=>v=.bl true) fun _ _ _=>False)
 (hCX:∀ (w:World) (H:Hp) (s:Shared) (e:Value) (s':Shared),CX w [] H s (fun _ _ _=>False) e s'→False) :
 PySem.W.WalkO q loose XP YP l.row.toRowW d [] (fun f vs=>PySem.call f vs):=by
 refine Att.attach_call hn hdf fun w s₀ s₁ mg mb fa o pm cd doc a vs ns G Y ho hd hcd hmg hobj hints hlen hg=>?_
 have KX:=hY w _ Y
 obtain ⟨fd,hb,hF⟩:=F w mg fa _ KX G.T.g hmg
 exact zo8 KX G.T.g G.T.b G.T.builtins G.T.nolimit hg hobj hints (Nat.le_trans hlen hn2) hr hF hb (fun H hO hS=>hsp w H a ns hlen hO hS) fun H e s'=>hCX w H s₁ e s'
noncomputable def zsl (s:Stmt):Arguments:=match s with
 | .FunctionDef _ a _ _ _ _ _ _ _ _=>a
 | _=>{ posonlyargs:=[],args:=[],vararg:=none,kwonlyargs:=[],kw_defaults:=[],kwarg:=none,defaults:=[] }
noncomputable def zf6 (s:Stmt):List Stmt:=match s with
 | .FunctionDef _ _ b _ _ _ _ _ _ _=>b
 | _=>[]
noncomputable def zat (s:Stmt):Scope:=match s with
 | .FunctionDef _ _ _ _ _ _ sc _ _ _=>sc
 | _=>{ kind:=.function,names:=[],isGenerator:=false,isCoroutine:=false }
noncomputable abbrev CX0:CXT:=fun _ _ _ _ _ _=>False
noncomputable abbrev E0:XK:=fun _ _ _=>False
theorem pass0 {X:Cx}:zjp CX0 X E0:=fun _ _ _ _ _ _ _ h=>h.elim
theorem zhd {n:Nat} (h:n≤1000):n < sizeLine:=Nat.lt_of_le_of_lt h (by decide)
section
variable {κ:Type} [DecidableEq κ]
noncomputable def valV (kvs:List (κ × V)) (k:κ):Option V:=(kvs.find? fun kv=>decide (kv.1=k)).map (·.2)
noncomputable def putK (kvs:List (κ × V)) (k:κ) (v:V):List (κ × V):=
 if (kvs.any fun kv=>decide (kv.1=k))=true then kvs.map (fun kv=>if kv.1=k then (kv.1,v) else kv) else kvs++[(k,v)]
theorem zf7 {p:κ × V} {r:List (κ × V)} {k:κ} (e:p.1=k):valV (p :: r) k=some p.2:=by simp [valV,List.find?_cons,e]
theorem zd0 {p:κ × V} {r:List (κ × V)} {k:κ} (e:¬ p.1=k):valV (p :: r) k=valV r k:=by simp [valV,List.find?_cons,e]
theorem zis (kvs:List (κ × V)) (k:κ) (v:V):(putK kvs k v).length≤kvs.length + 1:=by
 unfold putK
 split
 ·rw [vab]; omega
 ·rw [vag,vah,List.length_nil]; omega
theorem KV.val {kvs:List (κ × V)} {vs:List (κ × Value)} (r:KV kvs vs) (k:κ):RelO (valV kvs k) (valueAt vs k):=by
 unfold KV at r
 induction r with
 | nil=>exact True.intro
 | @cons p q ps qs h t ih=>
  obtain ⟨h1,h2⟩:=h
  by_cases e:p.1=k
  ·have e':q.1=k:=h1.symm.trans e
   have b:valueAt (q :: qs) k=some q.2:=by simp [valueAt,List.find?_cons,e']
   rw [zf7 e,b]; exact h2
  ·have e':¬ q.1=k:=fun z=>e (h1.trans z)
   have b:valueAt (q :: qs) k=valueAt qs k:=by simp [valueAt,List.find?_cons,e']
   rw [zd0 e,b]; exact ih
theorem KV.any {kvs:List (κ × V)} {vs:List (κ × Value)} (r:KV kvs vs) (k:κ):(kvs.any fun kv=>decide (kv.1=k))=vs.any fun kv=>decide (kv.1=k):=by
 unfold KV at r
 induction r with
 | nil=>rfl
 | cons h t ih=>rw [List.any_cons,List.any_cons,ih,h.1]
theorem KV.repl {kvs:List (κ × V)} {vs:List (κ × Value)} (r:KV kvs vs) (k:κ) {y:V} {u:Value} (ry:RelV y u) :
 KV (kvs.map fun kv=>if kv.1=k then (kv.1,y) else kv) (vs.map fun kv=>if kv.1=k then (kv.1,u) else kv):=by
 unfold KV at r ⊢
 induction r with
 | nil=>exact .nil
 | @cons p q ps qs h t ih=>
  rw [vao,vao]
  refine .cons ?_ ih
  obtain ⟨h1,h2⟩:=h
  by_cases e:p.1=k
  ·rw [if_pos e,if_pos (h1.symm.trans e)]; exact ⟨h1,ry⟩
  ·rw [if_neg e,if_neg (fun z=>e (h1.trans z))]; exact ⟨h1,h2⟩
theorem KV.put {kvs:List (κ × V)} {vs:List (κ × Value)} (r:KV kvs vs) (k:κ) {y:V} {u:Value} (ry:RelV y u):KV (putK kvs k y) (stored vs k u):=by
 unfold putK stored
 rw [r.any k]
 by_cases e:(vs.any fun kv=>decide (kv.1=k))=true
 ·rw [if_pos e,if_pos e]; exact r.repl k ry
 ·rw [if_neg e,if_neg e]; exact Paired.snoc r ⟨rfl,ry⟩
end
theorem kV_is {P:Program} {w:World} {k:Key} {u:Value} (r:RelV (kV k) u):(za1 P w).is k u=true:=by
 cases k with
 | inl i=>obtain ⟨t,e⟩:=(show ∃ t,u=Value.int i t from r); subst e; exact zil P w i t
 | inr x=>obtain ⟨t,e⟩:=(show ∃ t,u=Value.str x t from r); subst e; exact zim P w x t
theorem zhe {P:Program} {w:World}:∀ {ks:List Key} {us:List Value},Vals (ks.map kV) us→ItemsAre (za1 P w) ks us
 | [],_,r=>by rw [List.map_nil] at r; cases r; exact .nil
 | k :: ks,_,r=>by
  rw [vao] at r
  cases r with
  | cons h t=>exact .cons (kV_is h) (zhe t)
noncomputable abbrev KT (H:Hp):List (List Key × V)→List (List Key × Addr × Value)→Prop:=Paired fun p q=>p.1=q.1∧H q.2.1=some (.tup (p.1.map kV))∧RelV p.2 q.2.2
theorem KT.val {H:Hp} {kvs:List (List Key × V)} {xs:List (List Key × Addr × Value)} (r:KT H kvs xs) (k:List Key):RelO (valV kvs k) ((atKey xs k).map (·.2)):=by
 induction r with
 | nil=>exact True.intro
 | @cons p q ps qs h t ih=>
  obtain ⟨h1,_,h2⟩:=h
  by_cases e:p.1=k
  ·have e':q.1=k:=h1.symm.trans e
   have b:atKey (q :: qs) k=some q.2:=by simp [atKey,List.find?_cons,e']
   rw [zf7 e,b]; exact h2
  ·have e':¬ q.1=k:=fun z=>e (h1.trans z)
   have b:atKey (q :: qs) k=atKey qs k:=by simp [atKey,List.find?_cons,e']
   rw [zd0 e,b]; exact ih
section
variable {P:Program} {w:World} {H:Hp} {h:Heap} {a:Addr}
theorem rd_of {u:HO} (ok:HOk P w H h) (e:Rd H a u):ObjOk P w H h a u:=e.ok ok
theorem dk_rd {kvs:List (Key × V)} (ok:HOk P w H h) (e:Rd H a (.dK kvs)):kvs.length≤sizeLine∧(a == sysModules)=false∧∃ vs,KV kvs vs∧h.DictOf (za1 P w) a vs:=
 show ObjOk P w H h a (.dK kvs) from rd_of ok e
theorem dk_of {kvs:List (Key × V)} (ok:HOk P w H h) (e:H a=some (.dK kvs)):kvs.length≤sizeLine∧(a == sysModules)=false∧∃ vs,KV kvs vs∧h.DictOf (za1 P w) a vs:=dk_rd ok (.inl e)
theorem zqu {ks:List Key} (ok:HOk P w H h) (e:H a=some (.tup (ks.map kV))):(tupleKind (za1 P w)).is h ks a:=by
 obtain ⟨_,its,r,o,h1,h2,⟨n,h3⟩,_⟩:=(show ObjOk P w H h a (.tup (ks.map kV)) from ok a _ e)
 exact ⟨o,its.toArray,n,h1,h2,h3,by simpa using zhe r⟩
theorem dt_rd {kvs:List (List Key × V)} (ok:HOk P w H h) (e:Rd H a (.dT kvs)):kvs.length≤sizeLine∧(a == sysModules)=false ∧
 ∃ xs,KT H kvs xs∧h.DictOfH (tupleKind (za1 P w)) a xs:=by
 obtain ⟨z,y,xs,r,o,es,ep,h1,h2,h3,h4,h5⟩:=(show ObjOk P w H h a (.dT kvs) from rd_of ok e)
 refine ⟨z,y,xs,r,o,es,ep,h1,h2,h3,h4,fun x hx=>?_,h5⟩
 have all:∀ {l:List (List Key × V)} {m:List (List Key × Addr × Value)},KT H l m→∀ x∈m,(tupleKind (za1 P w)).is h x.1 x.2.1:=by
  intro l m q
  induction q with
  | nil=>intro x hx; exact nomatch hx
  | @cons p q ps qs hq t ih=>
   intro x hx
   rcases List.mem_cons.mp hx with e | hx
   ·subst e
    exact zqu ok (by rw [← hq.1]; exact hq.2.1)
   ·exact ih x hx
 exact all r x hx
end
noncomputable def DGet (H:Hp) (a:Addr) (y:V) (r:Option V):Prop:=
 (∃ kvs k,Rd H a (.dK kvs)∧y=kV k∧r=valV kvs k)∨∃ kvs k b,Rd H a (.dT kvs)∧y=.ref b∧H b=some (.tup (k.map kV))∧r=valV kvs k
section
variable {X:Cx} {pins:List (Addr × Obj)} {σ:St} {H:Hp} {s:Shared} {a:Addr} {y v:V} {u r:Value} {o:Option V} {A:Around} {E:Value→Shared→Prop}
theorem Inv.big (I:Inv X pins σ H s):sysModules < s.heap.objs.size:=by
 have h:mainGlobals < s.heap.objs.size:=(I.mod.glob.keeps I.bk).lt
 exact Nat.lt_trans (by decide) h
theorem zmb {Q:Value→Shared→Prop} (hu:A.units + 1 < cLine) (I:Inv X pins σ H s) (g:DGet H a y (some v)) (ry:RelV y u) (h:∀ w' s',Inv X pins σ H s'→RelV v w'→Q w' s') :
 wpAny (model X.prog X.w) A (getItem (.ref a) u) Q E s:=by
 rcases g with ⟨kvs,k,e,ey,l⟩ | ⟨kvs,k,b,e,ey,eb,l⟩
 ·subst ey
  obtain ⟨z,hd,vs,rel,dd⟩:=dk_rd I.hok e
  obtain ⟨w',hw,rw'⟩:=RelO.some_of (v:=v) (o:=valueAt vs k) (by rw [l]; exact rel.val k)
  exact wpAny_getItem_of (kV_is ry) dd.mapOf hw (h w' _ (I.tok _) rw')
 ·subst ey
  cases (show u=Value.ref b from ry)
  obtain ⟨z,hd,xs,rel,dd⟩:=dt_rd I.hok e
  obtain ⟨w',hw,rw'⟩:=RelO.some_of (v:=v) (o:=(atKey xs k).map (·.2)) (by rw [l]; exact rel.val k)
  obtain ⟨p,hp,hp2⟩:=Option.map_eq_some_iff.mp hw
  refine wpAny_getItem_heap (tupleKind_room_in1 hu) (zqu I.hok eb) dd hp ?_
  rw [hp2]
  exact h w' _ (I.tok _) rw'
theorem zit {h':Heap} {t':Nat} {ob:HO} (I:Inv X pins σ H s) (mu:Mut (H a)) (hs:Heap.SameBut a s.heap h') (he:∃ q,h'.get? a=some q) (new:ObjOk X.prog X.w (upd H a ob) h' a ob) :
 Inv X pins σ (upd H a ob) { s with heap:=h',toks:=t' }:=
 I.write (x:=a) (e:=a) mu (.inl rfl) (fun b q hb z=>(hs.2 b hb).trans z) he new
theorem zve {P:Program} {w:World} {H':Hp} {h':Heap} {kvs:List (Key × V)} {vs:List (Key × Value)} (z:kvs.length≤sizeLine) (hd:(a == sysModules)=false) (rel:KV kvs vs) (dd:h'.DictOf (za1 P w) a vs) :
 ObjOk P w H' h' a (.dK kvs):=⟨z,hd,vs,rel,dd⟩
end
theorem ziu {X:Cx} {pins:List (Addr × Obj)} {σ:St} {H:Hp} {s:Shared} {a:Addr} {y:V} {o:Option V} (I:Inv X pins σ H s) (g:DGet H a y o):s.TypeIs (.ref a) "dict" := by
 rcases g with ⟨kvs,k,e,_,_⟩ | ⟨kvs,k,b,e,_,_,_⟩
 ·obtain ⟨_,_,vs,_,dd⟩:=dk_rd I.hok e
  exact dd.typeIs
 ·obtain ⟨_,_,xs,_,dd⟩:=dt_rd I.hok e
  exact dd.typeIs
theorem zjs {P:Program} {w:World} {H:Hp} (h:Heap) (hb:sysModules < h.objs.size):ObjOk P w H (h.push { cls:=.type "dict",data:=.dict #[] }) h.objs.size (.dK []):=
 ⟨Nat.zero_le _,beq_eq_false_iff_ne.mpr (Ne.symm (Nat.ne_of_lt hb)),[],.nil,Heap.DictOf.new h⟩
noncomputable def zvf:TE:=fun _ H Q=>∀ p,H p=none→Q (.ref p) (upd H p (.dK []))
section
variable {X:Cx} {pos:Pos}
theorem zo9:PE X (.Dict [] [] pos) zvf:=fun pins s σ H Q I h=>
 wpAny_Dict_empty ⟨.ref s.heap.objs.size,_,I.laid (a:=s.heap.objs.size) (o:=.dK []) (t':=s.toks) (fun _ _ q=>vad _ q) (vae _) (zjs s.heap I.big),rfl,h _ (I.hok.fresh (vae _))⟩
end
noncomputable def zjt:List (TE × TE)→St→Hp→(List (V × V)→Hp→Prop)→Prop
 | [],_,H,Q=>Q [] H
 | (tk,tv) :: r,σ,H,Q=>tk σ H fun x H1=>tv σ H1 fun y H2=>zjt r σ H2 fun ps H3=>Q ((x,y) :: ps) H3
noncomputable abbrev VV:List (V × V)→List (Value × Value)→Prop:=Paired fun p q=>RelV p.1 q.1∧RelV p.2 q.2
noncomputable def PPs (X:Cx) (pos:Pos) (keys:List (Option Expr)) (values:List Expr) (trs:List (TE × TE)):Prop:=
 ∀ (pins:List (Addr × Obj)) (s:Shared) (σ:St) (H:Hp) (Q:List (V × V)→Hp→Prop),Inv X pins σ H s→zjt trs σ H Q →
  wpAny (model X.prog X.w) X.A (evalPairs (pairTrees keys values X.env pos)) (fun vs s'=>∃ ps H',Inv X pins σ H' s'∧VV ps vs∧Q ps H') X.xe s
theorem zsm {X:Cx} {pos:Pos}:PPs X pos [] [] []:=fun pins s σ H Q I h=>pairTrees_nil_walk ⟨[],H,I,.nil,h⟩
theorem zpa {X:Cx} {pos:Pos} {k v:Expr} {ks:List (Option Expr)} {vs:List Expr} {tk tv:TE} {trs:List (TE × TE)} (hk:PE X k tk) (hv:PE X v tv) (hr:PPs X pos ks vs trs) :
 PPs X pos (some k :: ks) (v :: vs) ((tk,tv) :: trs):=fun pins s σ H Q I h=>
 pairTrees_cons_walk (thn (hk pins s σ H _ I h) fun u s1 ⟨x,H1,I1,rx,q1⟩=>thn (hv pins s1 σ H1 _ I1 q1) fun w2 s2 ⟨y,H2,I2,ry,q2⟩=>
  thn (hr pins s2 σ H2 _ I2 q2) fun ws s3 ⟨ps,H3,I3,rel,q3⟩=>⟨(x,y) :: ps,H3,I3,.cons ⟨rx,ry⟩ rel,q3⟩)
noncomputable def zdt (kvs more:List (Key × V)):List (Key × V):=more.foldl (fun acc kv=>putK acc kv.1 kv.2) kvs
theorem KV.merge:∀ {more:List (Key × V)} {rs:List (Key × Value)} {kvs:List (Key × V)} {vs:List (Key × Value)},KV more rs→KV kvs vs→KV (zdt kvs more) (merged vs rs):=by
 intro more rs kvs vs r
 unfold KV at r
 induction r generalizing kvs vs with
 | nil=>intro q; exact q
 | @cons p q ps qs h t ih=>
  intro r0
  have e:KV (putK kvs p.1 p.2) (stored vs q.1 q.2):=by
   have:=r0.put p.1 h.2
   rw [← h.1]; exact this
  exact ih e
theorem zcs:∀ (more kvs:List (Key × V)),(zdt kvs more).length≤kvs.length + more.length
 | [],kvs=>by show kvs.length≤kvs.length + 0; omega
 | p :: r,kvs=>by
  have h1:=zcs r (putK kvs p.1 p.2)
  have h2:=zis kvs p.1 p.2
  show (zdt (putK kvs p.1 p.2) r).length≤_
  rw [vah]; omega
theorem ze7 {P:Program} {w:World}:∀ {kvs:List (Key × V)} {ws:List (Value × Value)},VV (kvs.map fun kv=>(kV kv.1,kv.2)) ws→∃ rs,Carries (za1 P w) ws rs∧KV kvs rs
 | [],_,r=>by rw [List.map_nil] at r; cases r; exact ⟨[],True.intro,.nil⟩
 | p :: kvs,_,r=>by
  rw [vao] at r
  cases r with
  | @cons a b as bs h t=>
   obtain ⟨rs,c,q⟩:=ze7 (P:=P) (w:=w) t
   obtain ⟨b1,b2⟩:=b
   exact ⟨(p.1,b2) :: rs,⟨kV_is h.1,rfl,c⟩,.cons ⟨rfl,h.2⟩ q⟩
noncomputable def zbw (cells:List (Str × Addr)):List (Str × NameKind)→List (Str × Addr)→List (Str × Addr)
 | [],cs=>cs
 | (n,k) :: r,cs=>zbw cells r (if k == .free then (match cells.lookup n with | some c=>(n,c) :: cs | none=>cs) else cs)
theorem zct {scope:Scope} {env:Env} (hf:∀ y∈scope.names,y.2=.free→∃ c,env.cells.lookup y.1=some c):closureFor scope env=pure (zbw env.cells scope.names []):=by
 have go:∀ (l:List (Str × NameKind)) (cs:List (Str × Addr)),(∀ y∈l,y.2=.free→∃ c,env.cells.lookup y.1=some c) →
  (forIn l cs fun (x:Str × NameKind) (r:List (Str × Addr))=>(match x with
    | (name,kind)=>if (kind == NameKind.free)=true then (do let a ← cellOf env name; pure (ForInStep.yield ((name,a) :: r))) else pure (ForInStep.yield r):Sem (ForInStep (List (Str × Addr)))))=(pure (zbw env.cells l cs):Sem (List (Str × Addr))):=by
  intro l
  induction l with
  | nil=>intro cs _; rfl
  | cons x r ih=>
   intro cs h
   obtain ⟨n,k⟩:=x
   rw [List.forIn_cons]
   by_cases hk:(k == NameKind.free)=true
   ·have hk':k=.free:=by simpa using hk
    obtain ⟨c,hc⟩:=h (n,k) vap hk'
    have hc':env.cells.lookup n=some c:=hc
    simp only [hk,if_true,cellOf,hc',zbw]
    exact ih _ fun y hy=>h y (vaj _ hy)
   ·have hk':(k == NameKind.free)=false:=by simpa using hk
    simp only [hk',vam,if_false,zbw]
    exact ih _ fun y hy=>h y (vaj _ hy)
 have e:=go scope.names [] hf
 unfold closureFor
 refine Eq.trans (congrArg (fun t=>t >>= fun cs=>pure cs) e) ?_
 rfl
theorem ze8 {cells:List (Str × Addr)}:∀ (l:List (Str × NameKind)) (cs:List (Str × Addr)),(∀ x c,cs.lookup x=some c→cells.lookup x=some c)→∀ x c,(zbw cells l cs).lookup x=some c→cells.lookup x=some c
 | [],cs,h=>h
 | (n,k) :: r,cs,h=>ze8 r _ fun x c e=>by
  by_cases hk:(k == NameKind.free)=true
  ·simp only [hk,if_true] at e
   cases hc:cells.lookup n with
   | none=>rw [hc] at e; exact h x c e
   | some d=>
    rw [hc] at e
    simp only [List.lookup_cons] at e
    by_cases hx:(x == n)=true
    ·simp only [hx] at e
     cases e
     rw [show x=n by simpa using hx]; exact hc
    ·have hx':(x == n)=false:=by simpa using hx
     simp only [hx'] at e
     exact h x c e
  ·have hk':(k == NameKind.free)=false:=by simpa using hk
   simp only [hk',vam,if_false] at e
   exact h x c e
theorem zei {cells:List (Str × Addr)} {x:Str} {c:Addr} (hc:cells.lookup x=some c):∀ (l:List (Str × NameKind)) (cs:List (Str × Addr)),cs.lookup x=some c→(zbw cells l cs).lookup x=some c
 | [],cs,h=>h
 | (n,k) :: r,cs,h=>zei hc r _ (by
  by_cases hk:(k == NameKind.free)=true
  ·simp only [hk,if_true]
   cases hn:cells.lookup n with
   | none=>exact h
   | some d=>
    simp only [List.lookup_cons]
    by_cases hx:(x == n)=true
    ·have:x=n:=by simpa using hx
     subst this
     rw [hc] at hn; cases hn
     simp
    ·have hx':(x == n)=false:=by simpa using hx
     simp only [hx']; exact h
  ·have hk':(k == NameKind.free)=false:=by simpa using hk
   simp only [hk',vam,if_false]
   exact h)
theorem zdf {cells:List (Str × Addr)} {x:Str} {c:Addr} (hc:cells.lookup x=some c):∀ (l:List (Str × NameKind)) (cs:List (Str × Addr)),(x,NameKind.free)∈l→(zbw cells l cs).lookup x=some c
 | [],cs,h=>by cases h
 | (n,k) :: r,cs,h=>by
  rcases List.mem_cons.mp h with e | e
  ·cases e
   refine zei hc r _ ?_
   rw [hc]
   simp [List.lookup_cons]
  ·exact zdf hc r _ e
noncomputable abbrev Cx.comp (X:Cx) (N:List Str) (scope:Scope) (C:Addr) (s₀:Shared) (H₀:Hp) (ex:List Addr):Cx:=
 { X with N:=N,s₀:=s₀,H₀:=H₀,env:=compEnvC scope (zbw X.env.cells scope.names []) C X.env,outer:=X.stack,stack:=X.stack,ex:=ex,fn:=fun _=>false,pn:=[],xe:=fun _ _=>False }
structure CompScope (X:Cx) (ow fr:List Str) (ix:List Nat) (scope:Scope):Prop where
 kind:scope.kind=.function
 nocell:∀ y∈scope.names,y.2≠.cell
 names:∀ y∈scope.names,y.2=.local→scope.names.lookup y.1=some .local
 own:∀ x∈ow,scope.names.lookup x=some .local
 free:∀ y∈scope.names,y.2=.free→X.env.kindOf y.1=some .cell∨X.env.kindOf y.1=some .free
 at_:∀ (k:Nat) (x:Str),fr[k]?=some x→∃ j,ix[k]?=some j∧X.N[j]?=some x∧scope.names.lookup x=some .free
 len:ix.length=fr.length
noncomputable def cσ (ow fr:List Str) (ix:List Nat) (σ:St):St:=ow.map (fun _=>none)++ix.map fun j=>(σ[j]?).join
theorem ze9 {x:Str} {k:NameKind}:∀ {l:List (Str × NameKind)},l.lookup x=some k→(x,k)∈l
 | [],h=>by cases h
 | (n,j) :: r,h=>by
  simp only [List.lookup_cons] at h
  by_cases hx:(x == n)=true
  ·simp only [hx] at h
   cases h
   rw [show x=n by simpa using hx]; exact vap
  ·have hx':(x == n)=false:=by simpa using hx
   simp only [hx'] at h
   exact vaj _ (ze9 h)
theorem zbx {env:Env}:∀ {l:List (Str × NameKind)} {x:Str} {k:NameKind},
 (l.map fun (n,k)=>if (k == NameKind.free && env.scope.kind == .function && env.kindOf n == some .cell) then (n,NameKind.cell) else (n,k)).lookup x=some k→k≠.local→(∀ y∈l,y.2≠.cell)→k=.cell∨k=.free→(x,NameKind.free)∈l
 | [],x,k,h,_,_,_=>by cases h
 | (n,j) :: r,x,k,h,hk,hc,hh=>by
  have ih:=@zbx env r x k
  rw [vao] at h
  by_cases hc':(j == NameKind.free && env.scope.kind == .function && env.kindOf n == some .cell)=true
  ·simp only [hc',if_true,List.lookup_cons] at h
   have hj:j=.free:=by
    simp only [vac,beq_iff_eq] at hc'
    exact hc'.1.1
   by_cases hx:(x == n)=true
   ·rw [show x=n by simpa using hx,hj]; exact vap
   ·have hx':(x == n)=false:=by simpa using hx
    simp only [hx'] at h
    exact vaj _ (ih h hk (fun y hy=>hc y (vaj _ hy)) hh)
  ·have hcf:(j == NameKind.free && env.scope.kind == .function && env.kindOf n == some .cell)=false:=by simpa using hc'
   simp only [hcf,vam,if_false,List.lookup_cons] at h
   by_cases hx:(x == n)=true
   ·simp only [hx] at h
    cases h
    rcases hh with z | z
    ·exact absurd z (hc _ vap)
    ·rw [show x=n by simpa using hx,z]; exact vap
   ·have hx':(x == n)=false:=by simpa using hx
    simp only [hx'] at h
    exact vaj _ (ih h hk (fun y hy=>hc y (vaj _ hy)) hh)
theorem zbh {env:Env} (hkf:env.scope.kind=.function):∀ {l:List (Str × NameKind)} {x:Str},l.lookup x=some .free →
 (l.map fun (n,k)=>if (k == NameKind.free && env.scope.kind == .function && env.kindOf n == some .cell) then (n,NameKind.cell) else (n,k)).lookup x=some (if env.kindOf x=some .cell then .cell else .free)
 | [],x,h=>by cases h
 | (n,j) :: r,x,h=>by
  have ih:=@zbh env hkf r x
  rw [vao]
  simp only [List.lookup_cons] at h
  by_cases hx:(x == n)=true
  ·simp only [hx] at h
   cases h
   have e:x=n:=by simpa using hx
   subst e
   by_cases hq:env.kindOf x=some .cell
   ·simp [hkf,hq,List.lookup_cons]
   ·simp [hq,List.lookup_cons]
  ·have hx':(x == n)=false:=by simpa using hx
   simp only [hx'] at h
   by_cases hc':(j == NameKind.free && env.scope.kind == .function && env.kindOf n == some .cell)=true
   ·simp only [hc',if_true,List.lookup_cons,hx']; exact ih h
   ·have hcf:(j == NameKind.free && env.scope.kind == .function && env.kindOf n == some .cell)=false:=by simpa using hc'
    simp only [hcf,vam,if_false,List.lookup_cons,hx']; exact ih h
section
variable {X:Cx} {pins:List (Addr × Obj)} {σ:St} {H:Hp} {s:Shared} {ow fr:List Str} {ix:List Nat} {scope:Scope} {fp:List Addr}
theorem zpb (S:CompScope X ow fr ix scope) (I:Inv X pins σ H s) (hfp:∀ b∈fp,FpOk X pins H b) (hlt:∀ b∈fp,b < s.heap.objs.size) {h':Heap} {tk:Nat} {m:Str→Option Value} (hn:h'.Ns s.heap.objs.size m) (hk:∀ b o,s.heap.get? b=some o→h'.get? b=some o) :
 Inv (X.comp (ow++fr) scope s.heap.objs.size s H fp) [] (cσ ow fr ix σ) H { s with heap:=h',toks:=tk }:=by
 have sub:=ze8 (cells:=X.env.cells) scope.names [] (fun x c e=>by cases e)
 have kf:=I.ok.kind
 have ncell:∀ x c,X.env.cells.lookup x=some c→c≠s.heap.objs.size:=fun x c e z=>by
  obtain ⟨v,q⟩:=I.cell x c e
  exact absurd q.lt (by rw [z]; exact Nat.lt_irrefl _)
 have hasC:∀ x,(x,NameKind.free)∈scope.names→∃ c,(zbw X.env.cells scope.names []).lookup x=some c∧X.env.cells.lookup x=some c:=fun x hx=>by
  obtain ⟨c,hc⟩:=I.ok.has x (S.free _ hx rfl)
  exact ⟨c,zdf hc _ _ hx,hc⟩
 refine ⟨⟨I.ok.mod,?_,I.ok.glob,I.ok.blt,vae _,fun x y c a b=>I.ok.inj x y c (sub x c a) (sub y c b),fun x hx=>?_,fun x c e=>?_,I.ok.hd,I.ok.frames,.inl rfl,fun b hb=>?_,fun b o e=>?_,?_,fun b o e hb=>?_,fun b hb hz=>?_,I.stack,fun b hb=>I.stkFree b hb⟩,
  rfl,I.bare,Un.kept hk,⟨m,hn,fun i x v e1 e2 e3=>?_⟩,fun x c e=>?_,I.hok.fresh (vae _),fun x c e=>I.freeC x c (sub x c e),fun p hp=>?_,I.hok.kept hk,?_⟩
 ·exact S.kind
 ·have hx':(relabel scope X.env).names.lookup x=some .cell∨(relabel scope X.env).names.lookup x=some .free:=hx
  have hm:(x,NameKind.free)∈scope.names:=by
   rcases hx' with z | z
   ·exact zbx (env:=X.env) z (by decide) S.nocell (.inl rfl)
   ·exact zbx (env:=X.env) z (by decide) S.nocell (.inr rfl)
  obtain ⟨c,hc,_⟩:=hasC x hm
  exact ⟨c,hc⟩
 ·cases e
 ·obtain ⟨f0,f1,f2,f3,f4,f5⟩:=hfp b hb
  refine ⟨fun z=>?_,fun x c e=>f4 x c (sub x c e)⟩
  have q:=hlt b hb
  rw [z] at q
  exact absurd q (Nat.lt_irrefl _)
 ·exact ⟨(I.bs b o e).1,(I.bs b o e).2⟩
 ·exact Nat.le_trans I.ok.bsz I.sz
 ·obtain ⟨f0,f1,f2,f3,f4,f5⟩:=hfp b hb
  rcases f3 with z | z
  ·exact I.ok.noex b o e z
  ·exact absurd (vak (vat (I.ok.bs b o e).1) z) (Nat.lt_irrefl _)
 ·obtain ⟨f0,f1,f2,f3,f4,f5⟩:=hfp b hb
  rcases List.mem_cons.mp (I.stkSub b hz) with z | z
  ·exact f1 z
  ·exact f2 z
 ·have hlen:ow.length≤i:=by
   by_cases hi:i < ow.length
   ·unfold cσ at e2
    rw [List.getElem?_append_left (by simpa using hi),List.getElem?_map] at e2
    cases q:ow[i]? with
    | none=>rw [q] at e2; cases e2
    | some y=>rw [q] at e2; cases e2
   ·omega
  have e1':fr[i - ow.length]?=some x:=by
   have e1:(ow++fr)[i]?=some x:=e1
   rw [List.getElem?_append_right hlen] at e1
   exact e1
  have e2':(ix.map fun j=>(σ[j]?).join)[i - ow.length]?=some (some v):=by
   unfold cσ at e2
   rw [List.getElem?_append_right (by simpa using hlen)] at e2
   simpa using e2
  obtain ⟨j,hj,hN,hl⟩:=S.at_ _ _ e1'
  rw [List.getElem?_map,hj] at e2'
  have e2'':(σ[j]?).join=some v:=Option.some.inj e2'
  have hσ:σ[j]?=some (some v):=by
   cases q:σ[j]? with
   | none=>rw [q] at e2''; cases e2''
   | some o=>rw [q] at e2''; cases o with
    | none=>cases e2''
    | some w=>cases e2''; rfl
  obtain ⟨m0,hm0,hl0⟩:=I.loc
  have hmem:=ze9 hl
  have hkf:=S.free _ hmem rfl
  have hvis:Vis X.env.scope x:=hkf.elim (fun z=>.inr (.inl z)) fun z=>.inr (.inr z)
  obtain ⟨u,ru,lk⟩:=hl0 j x v hN hσ hvis
  refine ⟨u,ru,.inr ?_⟩
  have hcell:∃ c,X.env.cells.lookup x=some c∧s.heap.IsCell c (some u):=by
   rcases lk with ⟨z,_⟩ | ⟨_,c,e,z⟩
   ·rcases hkf with q | q
    ·rw [show X.env.kindOf x=some .local from z] at q; cases q
    ·rw [show X.env.kindOf x=some .local from z] at q; cases q
   ·exact ⟨c,e,z⟩
  obtain ⟨c,hc,o,ho,hd⟩:=hcell
  refine ⟨?_,c,zdf hc _ _ hmem,o,hk _ _ ho,hd⟩
  show (relabel scope X.env).names.lookup x=some .cell∨(relabel scope X.env).names.lookup x=some .free
  have q:=zbh (env:=X.env) kf hl
  by_cases z:X.env.kindOf x=some .cell
  ·rw [if_pos z] at q; exact .inl q
  ·rw [if_neg z] at q; exact .inr q
 ·obtain ⟨v,q⟩:=I.cell x c (sub x c e)
  obtain ⟨o,ho,hd⟩:=q
  exact ⟨v,o,hk _ _ ho,hd⟩
 ·cases (show p∈([]:List (Addr × Obj)) from hp)
 ·show (cσ ow fr ix σ).length=(ow++fr).length
  unfold cσ
  rw [vag,vab,vab,vag,S.len]
end
theorem zmc {α:Type} {M:Model} {A:Around} {t:Sem α} {Q:α→Shared→Prop} {E:Value→Shared→Prop} {s:Shared} (h:wpAny M A t Q (fun _ _=>False) s):wpAny M A t Q E s:=wpAny_mono h (fun _ _ q=>q) fun _ _ z=>z.elim
noncomputable abbrev noX:Value→Shared→Prop:=fun _ _=>False
noncomputable abbrev zmd (ifs:List Expr) (env:Env):Sem Bool:=forIn ifs true fun c r=>if r=true then do let ok ← isTrue c env (eval c env); pure (ForInStep.yield ok) else pure (ForInStep.yield r)
theorem zca {prog:Program} {w:World} {A:Around} {R:Result→Shared→Prop} {s:Shared} {elt target iter:Expr} {ifs:List Expr} {scope:Scope} {pos:Pos} {it acc:Value} {env:Env} (I:Nat→Shared→Prop)
 (turn:∀ n s,I n s→wpAny (model prog w) A (pyNext it) (fun r s₁=>match r with
   | none=>R (.ok .next) s₁
   | some v=>wpAny (model prog w) A (letOwnedTupleGo target it v) (fun _ s₀=>wpAny (model prog w) A (assign target env v) (fun _ s₂=>
    wpAny (model prog w) A (zmd ifs env) (fun ok s₃=>
     if ok=true then wpAny (model prog w) A (eval elt env) (fun x s₄=>
      wpAny (model prog w) A (call (.builtin "list.append") [acc,x]) (fun _ s₅=>∃ m,m < n∧I m s₅) noX s₄) noX s₃
     else ∃ m,m < n∧I m s₃) noX s₂) noX s₀) noX s₁) noX s)
 (n:Nat) (h:I n s) :
 codeAny (model prog w) A (.compLoop (.ListComp elt [⟨target,iter,ifs,0⟩] scope pos) 0 it acc env) R s:=by
 refine codeAny_loop rfl I (fun n s hI=>?_) n h
 show wpAny _ A ((compTurn (.ListComp elt [⟨target,iter,ifs,0⟩] scope pos) 0 it acc env).onRaise (fun x=>do noteFrame x env; theTreesLotGoes x)) _ _ s
 refine wpAny_noted (zmc ?_)
 rw [compTurn_list]
 refine vaa (wpAny_standAt (vaa (wpAny_mono (turn n s hI) (fun r s₁ h₁=>?_) fun _ _ h'=>h')))
 cases r with
 | none=>exact vaf h₁
 | some v=>
  refine vaa (wpAny_mono h₁ (fun _ s₀ h₀=>?_) fun _ _ h'=>h')
  refine vaa (wpAny_mono h₀ (fun _ s₂ h₂=>vaa (wpAny_mono h₂ (fun ok s₃ h₃=>?_) fun _ _ h'=>h')) fun _ _ h'=>h')
  cases ok with
  | true=>
   simp only [if_true] at h₃ ⊢
   exact vaa (vaa (wpAny_mono h₃ (fun x s₄ h₄=>vaa (wpAny_mono h₄ (fun _ s₅ h₅=>vaf (vaf ⟨rfl,h₅⟩)) fun _ _ h'=>h')) fun _ _ h'=>h'))
  | false=>
   simp only [vam,if_false] at h₃ ⊢
   exact vaf ⟨rfl,h₃⟩
noncomputable def PTs (X:Cx) (ifs:List Expr) (t:TT):Prop:=
 ∀ (pins:List (Addr × Obj)) (s:Shared) (σ:St) (H:Hp) (Q:Bool→Hp→Prop),Inv X pins σ H s→t σ H Q→wpAny (model X.prog X.w) X.A (zmd ifs X.env) (TP X pins σ Q) X.xe s
noncomputable def tYes:TT:=fun _ H Q=>Q true H
theorem zsn {X:Cx}:PTs X [] tYes:=fun pins s σ H Q I h=>wpAny_tests_nil ⟨H,I,h⟩
theorem zso {X:Cx} {c:Expr} {t:TT} (h:PT X c t):PTs X [c] t:=fun pins s σ H Q I q=>wpAny_tests_one (h pins s σ H Q I q)
noncomputable def tLC (K:PySem.W.Frag) (f:St→St) (wi:TI) (g:TG) (tc:TT) (te:TE):TE:=fun σ H Q=>wi σ H fun J H1=>∀ D,H1 D=none→K.lookup D=none →
 ∃ W:Nat→Nat→St→Hp→List V→Prop,(∃ m,W 0 m (f σ) (upd H1 D (.lst [])) [])∧∀ i m σ' H' ys,W i m σ' H' ys→H' D=some (.lst ys) ∧
  ((J.stop i H'∧Q (.ref D) H')∨(J.go i H'∧∀ x H2,J.yld i H' x H2→g x σ' H2 fun σ2 H3=>tc σ2 H3 fun b H4=>
    if b=true then te σ2 H4 fun y H5=>H5 D=some (.lst ys)∧ys.length < sizeLine∧∃ m',m' < m∧W (i + 1) m' σ2 (upd H5 D (.lst (ys++[y]))) (ys++[y])
    else ∃ m',m' < m∧W (i + 1) m' σ2 H4 ys))
section
variable {X:Cx} {ow fr:List Str} {ix:List Nat} {scope:Scope} {tg iter elt:Expr} {ifs:List Expr} {pos:Pos} {wi:TI} {g:TG} {tc:TT} {te:TE}
theorem zfa {pins:List (Addr × Obj)} {s:Shared} {σ:St} {Q:VK} {RR:Value→Addr→Result→Shared→Prop} (S:CompScope X ow fr ix scope) (hc:X.calm=true)
 (hg:∀ C s₀ H₀ ex,PG (X.comp (ow++fr) scope C s₀ H₀ ex) tg g) (ht:∀ C s₀ H₀ ex,PTs (X.comp (ow++fr) scope C s₀ H₀ ex) ifs tc) (he:∀ C s₀ H₀ ex,PE (X.comp (ow++fr) scope C s₀ H₀ ex) elt te)
 {itv:Value} {E:Value→Shared→Prop}
 (h:PIE X pins σ tg (fun J H1=>∀ D,H1 D=none→X.K.lookup D=none →
   ∃ W:Nat→Nat→St→Hp→List V→Prop,(∃ m,W 0 m (cσ ow fr ix σ) (upd H1 D (.lst [])) [])∧∀ i m σ' H' ys,W i m σ' H' ys→H' D=some (.lst ys) ∧
    ((J.stop i H'∧Q (.ref D) H')∨(J.go i H'∧∀ x H2,J.yld i H' x H2→g x σ' H2 fun σ2 H3=>tc σ2 H3 fun b H4=>
      if b=true then te σ2 H4 fun y H5=>H5 D=some (.lst ys)∧ys.length < sizeLine∧∃ m',m' < m∧W (i + 1) m' σ2 (upd H5 D (.lst (ys++[y]))) (ys++[y])
      else ∃ m',m' < m∧W (i + 1) m' σ2 H4 ys))) itv s)
 (fin:∀ D C H' s' m,FpOk X pins H' C→s'.heap.Ns C m→(∀ h'',Heap.SameBut C s'.heap h''→Inv X pins σ H' { s' with heap:=h'' })→Q (.ref D) H'→RR (.ref D) C (.ok .next) s') :
 wpAny (model X.prog X.w) X.A (newList []) (fun acc s₃=>wpAny (model X.prog X.w) X.A (newFunctionEnv scope X.env.globals (zbw X.env.cells scope.names []) [] X.env.qual none .none (some X.env)) (fun cenv s₄=>
  codeAny (model X.prog X.w) X.A (.compStart (.ListComp elt [⟨tg,iter,ifs,0⟩] scope pos) 0 itv acc { cenv with scope:=relabel scope X.env }) (RR acc cenv.locals) s₄) E s₃) E s:=by
 obtain ⟨it,fp,tn,J,H1,e,I1,T,st1,f1,hq⟩:=h
 subst e
 have hD:H1 s.heap.objs.size=none:=I1.hok.fresh (vae _)
 have hKD:X.K.lookup s.heap.objs.size=none:=by
  cases e:X.K.lookup s.heap.objs.size with
  | none=>rfl
  | some o=>exact absurd (vat (I1.kIn _ _ e)) (Nat.lt_irrefl _)
 obtain ⟨W,⟨m0,w0⟩,turn⟩:=hq _ hD hKD
 have I3:Inv X pins σ (upd H1 s.heap.objs.size (.lst [])) { s with heap:=s.heap.push { cls:=.type "list",dict:=none,data:=.seq ([]:List Value).toArray } }:=
  I1.laid (t':=s.toks) (o:=.lst []) (fun b u q=>vad _ q) (vae _) ⟨Nat.zero_le _,[],0,.nil,vaw _ rfl⟩
 have hlt1:∀ b∈fp,b < s.heap.objs.size:=fun b hb=>by
  obtain ⟨o,ho,_⟩:=T.obj _ _ st1 b hb
  exact vat ho
 have f3:∀ b∈fp,FpOk X pins (upd H1 s.heap.objs.size (.lst [])) b:=fun b hb=>⟨by rw [zah (Nat.ne_of_lt (hlt1 b hb))]; exact (f1 b hb).1,(f1 b hb).2⟩
 refine wpAny_newObj_type (wpAny_newFunctionEnv S.nocell (by intro y hy; simp at hy) (fun h₁ hns hsb=>?_) S.kind)
 dsimp only at hns hsb ⊢
 generalize hS3:({ s with heap:=s.heap.push { cls:=.type "list",dict:=none,data:=.seq ([]:List Value).toArray } }:Shared)=s3 at I3
 have hh3:s3.heap=s.heap.push { cls:=.type "list",dict:=none,data:=.seq ([]:List Value).toArray }:=by rw [← hS3]
 rw [← hh3] at hns hsb ⊢
 have hk:∀ b o,s3.heap.get? b=some o→h₁.get? b=some o:=fun b o e=>hsb.extBut b o (Nat.ne_of_lt (vat e)) (vad _ e)
 have hlt3:∀ b∈fp,b < s3.heap.objs.size:=fun b hb=>by rw [hh3,Heap.size_push]; exact Nat.lt_succ_of_lt (hlt1 b hb)
 have J3:=zpb S I3 f3 hlt3 (tk:=s.toks) hns hk
 have st3:tn 0 h₁:=T.keep _ _ _ st1 fun b hb o e=>hk b o (by rw [hh3]; exact vad _ e)
 have ex3:∀ b∈fp,(X.comp (ow++fr) scope s3.heap.objs.size s3 (upd H1 s.heap.objs.size (.lst [])) fp).Ok→∀ {H':Hp},H' b=none→FpOk (X.comp (ow++fr) scope s3.heap.objs.size s3 (upd H1 s.heap.objs.size (.lst [])) fp) [] H' b:=fun b hb ok H' hn=>
  ⟨hn,(ok.exf b hb).1,ok.exfs b hb,.inl hb,(ok.exf b hb).2,fun p hp=>by cases (show p∈([]:List (Addr × Obj)) from hp)⟩
 have back:∀ {σ':St} {H':Hp} {s':Shared},Inv (X.comp (ow++fr) scope s3.heap.objs.size s3 (upd H1 s.heap.objs.size (.lst [])) fp) [] σ' H' s'→∀ h'',Heap.SameBut s3.heap.objs.size s'.heap h''→Inv X pins σ H' { s' with heap:=h'' }:=fun {σ' H' s'} I' h'' hs=>by
  have neC:∀ b o,s3.heap.get? b=some o→b≠s3.heap.objs.size:=fun b o e=>Nat.ne_of_lt (vat e)
  have un:Un (frs X.stack) fp (upd H1 s.heap.objs.size (.lst [])) H' s3.heap h'':=
   ⟨fun b o e n hb hx=>(hs.2 b (neC b o e)).trans (I'.base.keep b o e n hb hx),fun b o e n hb hx=>by
    obtain ⟨sl,q⟩:=I'.base.slot b o e n hb hx
    exact ⟨sl,(hs.2 b (neC b o e)).trans q⟩,I'.base.free,fun b o e hx=>by
    obtain ⟨o',q⟩:=I'.base.there b o e hx
    exact ⟨o',(hs.2 b (neC b o e)).trans q⟩,I'.base.tups,I'.base.frzs,I'.base.tbls⟩
  have hok:HOk X.prog X.w H' h'':=fun b ob e=>by
   refine (I'.hok b ob e).stay (fun c w' hcc q=>(hs.2 c ?_).trans q) (fun _ q=>q) fun _ _ q=>q
   rintro rfl
   have hfree:=I'.free
   rcases hcc with rfl | hcc
   ·rw [show H' s3.heap.objs.size=none from hfree] at e; cases e
   ·rw [show H' s3.heap.objs.size=none from hfree] at hcc; cases hcc
  have hos:s'.os=s3.os:=I'.os
  exact I3.call' (s':={ s' with heap:=h'' }) (ch:=fp) hos un hok I'.bare fun b hb=>by
   obtain ⟨_,a1,a2,a3,a4,a5⟩:=f1 b hb
   exact ⟨a3,a1,a4,a5⟩
 have loop:∀ s4:Shared,Inv (X.comp (ow++fr) scope s3.heap.objs.size s3 (upd H1 s.heap.objs.size (.lst [])) fp) [] (cσ ow fr ix σ) (upd H1 s.heap.objs.size (.lst [])) s4→tn 0 s4.heap →
  codeAny (model X.prog X.w) X.A (.compLoop (.ListComp elt [⟨tg,iter,ifs,0⟩] scope pos) 0 (.ref it) (.ref s.heap.objs.size) (X.comp (ow++fr) scope s3.heap.objs.size s3 (upd H1 s.heap.objs.size (.lst [])) fp).env)
   (RR (.ref s.heap.objs.size) s3.heap.objs.size) s4:=by
  intro s4 I4 st4
  refine zca (fun n s'=>∃ i σ' H' ys,Inv (X.comp (ow++fr) scope s3.heap.objs.size s3 (upd H1 s.heap.objs.size (.lst [])) fp) [] σ' H' s'∧tn i s'.heap∧(∀ b∈fp,H' b=none)∧W i n σ' H' ys) ?_ m0 ⟨0,_,_,[],I4,st4,fun b hb=>(f3 b hb).1,w0⟩
  rintro n s5 ⟨i,σ5,H5,ys,I5,st5,fr5,w5⟩
  obtain ⟨hDl,alt⟩:=turn i n σ5 H5 ys w5
  rcases alt with ⟨stop,q⟩ | ⟨go,step⟩
  ·refine thn (T.done (X.comp (ow++fr) scope s3.heap.objs.size s3 (upd H1 s.heap.objs.size (.lst [])) fp) rfl rfl rfl hc i [] s5 σ5 H5 noX I5 (fun b hb=>ex3 b hb I5.ok (fr5 b hb)) st5 stop) fun r s6 hq0=>?_
   obtain ⟨hr,I6⟩:=hq0
   subst hr
   obtain ⟨m6,hn6,_⟩:=I6.loc
   exact fin _ _ H5 s6 m6 (I3.fpOk (vae _) I6.free) hn6 (back I6) q
  ·refine thn (T.item (X.comp (ow++fr) scope s3.heap.objs.size s3 (upd H1 s.heap.objs.size (.lst [])) fp) rfl rfl rfl hc i [] s5 σ5 H5 noX I5 (fun b hb=>ex3 b hb I5.ok (fr5 b hb)) st5 go) fun r s6 hq0=>?_
   obtain ⟨u,hr,h6⟩:=hq0
   subst hr
   refine thn h6 fun _ s7 hq0=>?_
   obtain ⟨x,H7,I7,r7,y7,st7,fr7⟩:=hq0
   have I7':=I7.pinned (fun b hb=>ex3 b hb I7.ok (fr7 b hb)) (T.obj _ _ st7)
   have again:∀ {σ8:St} {H8:Hp} {s8:Shared} {zs:List V} {m':Nat},Inv (X.comp (ow++fr) scope s3.heap.objs.size s3 (upd H1 s.heap.objs.size (.lst [])) fp) ([]++zg2 fp s7.heap) σ8 H8 s8→m' < n→W (i + 1) m' σ8 H8 zs →
    ∃ m,m < n∧∃ i σ' H' ys,Inv (X.comp (ow++fr) scope s3.heap.objs.size s3 (upd H1 s.heap.objs.size (.lst [])) fp) [] σ' H' s8∧tn i s8.heap∧(∀ b∈fp,H' b=none)∧W i m σ' H' ys:=fun {σ8 H8 s8 zs m'} I8 hm w8=>by
    refine ⟨m',hm,i + 1,σ8,H8,zs,I8.unpinned,T.keep _ _ _ st7 fun b hb o e=>(I8.pin (b,o) (List.mem_append_right _ (List.mem_append_right _ (zb3 hb e)))).1,fun b hb=>?_,w8⟩
    obtain ⟨o,e,d⟩:=T.obj _ _ st7 b hb
    exact (I8.pin (b,o) (List.mem_append_right _ (List.mem_append_right _ (zb3 hb e)))).2.1
   refine thn (hg _ _ _ _ _ s7 σ5 H7 x u _ I7' r7 (step x H7 y7)) fun _ s8 hq0=>?_
   obtain ⟨σ8,H8,I8,q8⟩:=hq0
   refine thn (ht _ _ _ _ _ s8 σ8 H8 _ I8 q8) fun ok s9 hq0=>?_
   obtain ⟨H9,I9,q9⟩:=hq0
   cases ok with
   | false=>
    simp only [vam,if_false] at q9 ⊢
    obtain ⟨m',hm,w9⟩:=q9
    exact again I9 hm w9
   | true=>
    simp only [if_true] at q9 ⊢
    refine thn (he _ _ _ _ _ s9 σ8 H9 _ I9 q9) fun y s10 hq0=>?_
    obtain ⟨vy,H10,I10,ry,hD10,hz,m',hm,w10⟩:=hq0
    refine thn (zhb _ s10 σ8 H10 (.ref s.heap.objs.size) [vy] (.ref s.heap.objs.size) [y] (fun v H'=>H'=upd H10 s.heap.objs.size (.lst (ys++[vy]))) I10 rfl (.cons ry .nil) ⟨_,ys,vy,rfl,rfl,hD10,hz,rfl⟩) fun _ s11 hq0=>?_
    obtain ⟨v11,H11,I11,_,e11⟩:=hq0
    subst e11
    exact again I11 hm w10
 have J3':Inv (X.comp (ow++fr) scope s3.heap.objs.size s3 (upd H1 s.heap.objs.size (.lst [])) fp) [] (cσ ow fr ix σ) (upd H1 s.heap.objs.size (.lst [])) { s with heap:=h₁,toks:=s.toks }:=by
  rw [← hS3] at J3 ⊢
  exact J3
 exact codeAny_compStart_list (loop _ J3' st3) (T.self _ 0 _ _ _ st3 (loop _ J3' st3))
theorem pe_lc (S:CompScope X ow fr ix scope) (hc:X.calm=true) (hi:PI X tg iter wi)
 (hg:∀ C s₀ H₀ ex,PG (X.comp (ow++fr) scope C s₀ H₀ ex) tg g) (ht:∀ C s₀ H₀ ex,PTs (X.comp (ow++fr) scope C s₀ H₀ ex) ifs tc) (he:∀ C s₀ H₀ ex,PE (X.comp (ow++fr) scope C s₀ H₀ ex) elt te)
 (hs:∀ x,foldedSetIterable iter X.env x=pure x:=by intro _; rfl):PE X (.ListComp elt [⟨tg,iter,ifs,0⟩] scope pos) (tLC X.K (cσ ow fr ix) wi g tc te):=by
 intro pins s σ H Q I h
 rw [eval_ListComp]
 refine wpAny_comprehension_free (use:=none) rfl hs (zct fun y hy e=>I.ok.has _ (S.free y hy e)) S.kind S.names (thn (hi pins s σ H _ I h) fun v s1 h1=>thn h1 fun itv s2 h2=>?_)
 exact zfa (RR:=fun acc C=>compPost (model X.prog X.w) X.A X.xe none (EP X pins σ Q) acc C) S hc hg ht he h2 fun D C H' s' m _ hn hI q=>⟨m,hn,fun h'' hs''=>⟨.ref D,H',hI h'' hs'',rfl,q⟩⟩
theorem zpc {i:Nat} {y:Str} {py spos:Pos} (hN:X.N.Nodup) (hiy:X.N[i]?=some y) (hy:Loc X.env.scope y) (S:CompScope X ow fr ix scope) (hc:X.calm=true) (hi:PI X tg iter wi)
 (hg:∀ C s₀ H₀ ex,PG (X.comp (ow++fr) scope C s₀ H₀ ex) tg g) (ht:∀ C s₀ H₀ ex,PTs (X.comp (ow++fr) scope C s₀ H₀ ex) ifs tc) (he:∀ C s₀ H₀ ex,PE (X.comp (ow++fr) scope C s₀ H₀ ex) elt te)
 (hsw:swapsWith (.ListComp elt [⟨tg,iter,ifs,0⟩] scope pos) (some (.Name y py)) spos.line X.env=pure true:=by rfl)
 (hf:X.fn y=true∨X.env.scope.names.lookup y=some .local:=by first | exact .inl rfl | exact .inr rfl | assumption)
 (hs:∀ x,foldedSetIterable iter X.env x=pure x:=by intro _; rfl):PS X (.Assign [.Name y py] (.ListComp elt [⟨tg,iter,ifs,0⟩] scope pos) spos) (tAsg (tLC X.K (cσ ow fr ix) wi g tc te) (gName i)):=by
 intro pins s σ H D I h
 rw [exec_Assign_Name_used _ _ _ _ hsw]
 refine vaa (wpAny_standAt (vaa ?_))
 show wpAny _ X.A (do let _ ← comprehension (.ListComp elt [⟨tg,iter,ifs,0⟩] scope pos) scope X.env _ (newList []) false (eval iter X.env) (some (assign (.Name y py) X.env))) _ _ s
 refine vaa (wpAny_mono (wpAny_comprehension_free (use:=some (assign (.Name y py) X.env)) (Q:=fun _ s'=>SP X pins D .next s') rfl hs (zct fun y hy e=>I.ok.has _ (S.free y hy e)) S.kind S.names
  (thn (hi pins s σ H _ I h) fun v s1 h1=>thn h1 fun itv s2 h2=>?_)) (fun _ s' hq=>vaf (vaf hq)) fun _ _ e=>e)
 refine zfa (Q:=fun x H1=>gName i x σ H1 D.nx) (RR:=fun acc C=>compPost (model X.prog X.w) X.A X.xe (some (assign (.Name y py) X.env)) (fun _ s'=>SP X pins D .next s') acc C) S hc hg ht he h2 fun d C H' s' m hC hn hI q=>?_
 show wpAny _ X.A (assign (.Name y py) X.env (.ref d)) _ _ _
 have I':Inv X pins σ H' s':=by
  have z:=hI s'.heap (.refl ..)
  exact z
 refine wpAny_assign_Name (zg1 I' hN hiy hy (v:=.ref d) rfl (fun s'' I'' ⟨a,hsb,ha⟩=>?_) hf)
 obtain ⟨c0,c1,c2,c3,c4,c5⟩:=hC
 have hCa:C≠a:=by
  rcases ha with rfl | ha
  ·exact c1
  ·exact fun z=>c4 _ _ ha z.symm
 refine ⟨m,hn.sameBut hsb hCa,fun h'' hs''=>⟨_,H',I''.turned (t':=s''.toks) (it:=C) (fun b o hb e=>(hs''.2 b hb).trans e) c0 c1 c3 c4 c5,q⟩⟩
end
end L2
set_option maxHeartbeats 4000000
namespace XL
open PySem PySem.W PySem.Spec PyProof.Rows
end XL
namespace XL
open PySem PySem.W PySem.Spec PyProof.Rows
end XL
namespace XL
open PySem PySem.W PySem.Spec PyProof.Rows
end XL
namespace L2
open PySem PySem.Spec PyProof.Rows
mutual
inductive Rp (K:PySem.W.Frag) (M:Addr→Prop) (H:Hp):V→PyData→Prop
 | non:Rp K M H .non .none
 | bl (b:Bool):Rp K M H (.bl b) (.bool b)
 | int (i:Int):Rp K M H (.int i) (.int i)
 | str (x:Str):Rp K M H (.str x) (.str x)
 | tup {a:Addr} {xs:List V} {ds:List PyData}:SqT K H a xs→¬ M a→Rps K M H xs ds→Rp K M H (.ref a) (.tuple ds)
 | lst {a:Addr} {xs:List V} {ds:List PyData}:SqL K H a xs→¬ M a→Rps K M H xs ds→Rp K M H (.ref a) (.list ds)
inductive Rps (K:PySem.W.Frag) (M:Addr→Prop) (H:Hp):List V→List PyData→Prop
 | nil:Rps K M H [] []
 | cons {x:V} {d:PyData} {xs:List V} {ds:List PyData}:Rp K M H x d→Rps K M H xs ds→Rps K M H (x :: xs) (d :: ds)
end
section
variable {X:Cx} {pins:List (Addr × Obj)} {σ:St} {H:Hp} {s:Shared} {M:Addr→Prop}
mutual
theorem Rp.reads (I:Inv X pins σ H s):∀ {x:V} {d:PyData} {u:Value},Rp X.K M H x d→RelV x u→∃ as,Reads s.heap u d as
 | _,_,_,.non,r=>by cases r; exact ⟨_,.none⟩
 | _,_,_,.bl b,r=>by cases r; exact ⟨_,.bool b⟩
 | _,_,_,.int i,r=>by obtain ⟨t,rfl⟩:=r; exact ⟨_,.int i t⟩
 | _,_,_,.str x,r=>by obtain ⟨t,rfl⟩:=r; exact ⟨_,.str x t⟩
 | _,_,_,.tup h n rr,r=>by
  cases r
  obtain ⟨its,rv,p,_⟩:=I.tuple h
  obtain ⟨o,ho,hc,m,hd⟩:=p
  obtain ⟨as,ra⟩:=Rps.reads I rr rv
  exact ⟨_,.tuple ho hc hd (by simpa using ra)⟩
 | _,_,_,.lst h n rr,r=>by
  cases r
  obtain ⟨its,rv,p,_⟩:=I.list h
  obtain ⟨o,m,ho,hc,_,hd⟩:=p
  obtain ⟨as,ra⟩:=Rps.reads I rr rv
  exact ⟨_,.list ho hc hd (by simpa using ra)⟩
theorem Rps.reads (I:Inv X pins σ H s):∀ {xs:List V} {ds:List PyData} {us:List Value},Rps X.K M H xs ds→Vals xs us→∃ as,ReadsAll s.heap us ds as
 | _,_,_,.nil,.nil=>⟨_,.nil⟩
 | _,_,_,.cons r t,.cons q v=>by
  obtain ⟨as,h1⟩:=Rp.reads I r q
  obtain ⟨bs,h2⟩:=Rps.reads I t v
  exact ⟨_,.cons h1 h2⟩
end
noncomputable def rEqD (K:PySem.W.Frag):R2:=fun x y H Q=>∃ d e,Rp K (fun _=>False) H x d∧Rp K (fun _=>False) H y e∧SeqAt.shaped d=true∧SeqAt.shaped e=true∧Q (.bl (PyData.eqv d e)) H
noncomputable def rNeD (K:PySem.W.Frag):R2:=fun x y H Q=>∃ d e,Rp K (fun _=>False) H x d∧Rp K (fun _=>False) H y e∧SeqAt.shaped d=true∧SeqAt.shaped e=true∧Q (.bl (!PyData.eqv d e)) H
theorem zvg (hu:X.A.units + 64 < cLine):OpR X (compareOp .Eq) (rEqD X.K):=by
 intro pins s σ H x y v u Q I rx ry h
 obtain ⟨d,e,r1,r2,s1,s2,q⟩:=h
 obtain ⟨as,ra⟩:=r1.reads I rx
 obtain ⟨bs,rb⟩:=r2.reads I ry
 exact PyProof.Rows.eq_dataH ra rb s1 s2 hu ⟨.bl _,H,I,rfl,q⟩
theorem zvh (hu:X.A.units + 64 < cLine):OpR X (compareOp .NotEq) (rNeD X.K):=by
 intro pins s σ H x y v u Q I rx ry h
 obtain ⟨d,e,r1,r2,s1,s2,q⟩:=h
 obtain ⟨as,ra⟩:=r1.reads I rx
 obtain ⟨bs,rb⟩:=r2.reads I ry
 exact PyProof.Rows.ne_dataH ra rb s1 s2 hu ⟨.bl _,H,I,rfl,q⟩
end
section
variable {prog:Program} {w:World} {A:Around} {E:Value→Shared→Prop} {s:Shared}
theorem zfb {I t:Addr} {k:Nat} {its:Array Value} {y:Value} {Q:Value→Shared→Prop} (hi:s.heap.IsTupleIter I t k) (ht:s.heap.IsTuple t its) (hy:its[k]?=some y)
 (q:∀ g,g.IsTupleIter I t (k + 1)→Heap.SameBut I s.heap g→Q y { s with heap:=g }):wpAny (model prog w) A (Builtin.SmallTypes.nextOf (.ref I)) Q E s:=by
 obtain ⟨oi,e1,e2,e3⟩:=id hi
 obtain ⟨ot,e4,_,kt,e5⟩:=ht
 unfold Builtin.SmallTypes.nextOf
 refine vaa (wpAny_callSpecial?_slot (name:=Str.ofString "__next__") hi.typeIs F.slot_tuple_iterator_next (wpAny_call_entry F.slot_tuple_iterator_next hi.typeIs F.entry_tuple_iterator_next ?_ (F.args_tuple_iterator_next_1 _)))
 show wpAny _ _ (field (.ref I) 0 >>= _) _ _ s
 refine vaa (wpAny_field e1 e3 (x:=.ref t) rfl ?_)
 show wpAny _ _ (if (Value.ref t == Value.none)=true then _ else _) _ _ s
 rw [if_neg (show ¬((Value.ref t == Value.none)=true) from fun z=>nomatch z)]
 show wpAny _ _ (field (.ref I) 1 >>= _) _ _ s
 refine vaa (wpAny_field e1 e3 (x:=.int k 0) rfl ?_)
 show wpAny _ _ (seqItems? (.ref t) >>= _) _ _ s
 refine vaa (wpAny_seqItems e4 e5 ?_)
 simp only [Int.toNat_natCast,hy]
 refine vaa (wpAny_setField e1 e3 (by simp) (vaf ⟨y,rfl,vaf (q _ ?_ (Heap.SameBut.update ..))⟩))
 refine ⟨_,Heap.get?_update_self _ e1 (Obj.isFreed_of_fields (Obj.data_mapFields e3 _)),(Obj.cls_mapFields ..).trans e2,?_⟩
 rw [Obj.data_mapFields e3]
 simp [rawInt]
theorem zej {I t:Addr} {k:Nat} {its:Array Value} {Q:Value→Shared→Prop} (hA:A.handled=none) (hi:s.heap.IsTupleIter I t k) (ht:s.heap.IsTuple t its) (hy:its[k]?=none)
 (q:∀ g e,Heap.ExtBut I s.heap g→(∃ o,g.get? e=some o∧o.cls=.type "StopIteration")→E (.ref e) { s with heap:=g }):wpAny (model prog w) A (Builtin.SmallTypes.nextOf (.ref I)) Q E s:=by
 obtain ⟨oi,e1,e2,e3⟩:=id hi
 obtain ⟨ot,e4,_,kt,e5⟩:=ht
 unfold Builtin.SmallTypes.nextOf
 refine vaa (wpAny_callSpecial?_slot (name:=Str.ofString "__next__") hi.typeIs F.slot_tuple_iterator_next (wpAny_call_entry F.slot_tuple_iterator_next hi.typeIs F.entry_tuple_iterator_next ?_ (F.args_tuple_iterator_next_1 _)))
 show wpAny _ _ (field (.ref I) 0 >>= _) _ _ s
 refine vaa (wpAny_field e1 e3 (x:=.ref t) rfl ?_)
 show wpAny _ _ (if (Value.ref t == Value.none)=true then _ else _) _ _ s
 rw [if_neg (show ¬((Value.ref t == Value.none)=true) from fun z=>nomatch z)]
 show wpAny _ _ (field (.ref I) 1 >>= _) _ _ s
 refine vaa (wpAny_field e1 e3 (x:=.int k 0) rfl ?_)
 show wpAny _ _ (seqItems? (.ref t) >>= _) _ _ s
 refine vaa (wpAny_seqItems e4 e5 ?_)
 simp only [Int.toNat_natCast,hy]
 refine vaa (wpAny_rule (vaa (wpAny_setField e1 e3 (by simp) ?_)))
 show wpAny _ _ (newExc (.type "StopIteration") [] >>= _) _ _ _
 refine vaa ?_
 simp only [newExc,newTuple]
 refine vaa (wpAny_newObj_type ?_ (by size_fits))
 refine vaa (m:=firstArgMember _ _) (wpAny_of_eq (a:=Value.none) (by first | rfl | (simp only [firstArgMember]; rfl)) ?_)
 refine wpAny_newObj_type ?_ (by size_fits)
 simp only [raiseNew]
 refine vaa (wpAny_handled ?_)
 first | rw [show A.in1.handled=none from hA] | rw [hA]
 refine vaa (vaf (wpAny_throw ?_))
 exact q _ _ (((Heap.SameBut.update ..).extBut.push _).push _) ⟨_,vaw _ rfl,rfl⟩
end
theorem zju {h h':Heap} {a:Addr} {its:Array Value} (x:h.IsTuple a its) (e:∀ o,h.get? a=some o→h'.get? a=some o):h'.IsTuple a its:=let ⟨o,ho,r⟩:=x; ⟨o,e _ ho,r⟩
theorem zvi {prog:Program} {w:World} {A:Around} (hA:A.handled=none) (I t:Addr) (hne:t≠I) (its:Array Value) :
 Draws prog w A I [I,t] its.size (fun i v=>its[i]?=some v) (fun i h=>h.IsTupleIter I t i∧h.IsTuple t its) where
 live:=fun _ _ st=>let ⟨o,ho,_⟩:=st.1; ⟨o,ho⟩
 frame:=fun _ _ _ st hk=>⟨st.1.at fun o e=>hk I (by simp) o e,zju st.2 fun o e=>hk t (by simp) o e⟩
 item:=fun i s Q E hi st q=>zfb st.1 st.2 (y:=its[i]) (by simp [hi]) fun g a b=>q _ g s.toks (by simp [hi]) ⟨a,st.2.extBut b.extBut hne⟩ b
 done:=fun s Q E st q=>zej hA st.1 st.2 (by simp) q
theorem ziv (l:Addr) (its:Array Value) (n:Nat) (dc:Option Addr) (sl:Array (Option Value)) :
 Meets (Builtin.«enumerate.__new__» ⟨[.type "enumerate",.ref l],[]⟩) (fun _ R s=>s.heap.get? l=some { cls:=.type "tuple",dict:=dc,data:=.seq its n,slots:=sl } ∧
  R (.ok (.ret (.ref (s.heap.push { cls:=.type "tuple_iterator",data:=.fields #[.ref l,.int 0 0] }).objs.size)))
   { s with heap:=(s.heap.push { cls:=.type "tuple_iterator",data:=.fields #[.ref l,.int 0 0] }).push { cls:=.type "enumerate",data:=.fields #[.none,.bool false,.ref s.heap.objs.size,rawInt 0,.none,.none] } }):=
 .of_wp fun prog w A R s h=>by
  obtain ⟨hp,g,d,tk,os⟩:=s
  obtain ⟨e,h⟩:=h
  have hsub:=sub_enumerate
  have hT:Heap.IsTuple (Shared.heap ⟨hp,g,d,tk,os⟩) l its:=⟨_,e,rfl,n,rfl⟩
  wp_walk using AutoSeq1.wpAny_loadPart' e
  refine wpAny_stack_any fun st=>vaf ?_
  split
  ·rename_i c _ _ _ _ _
   cases (c == Value.type "enumerate") <;> (wp_walk using AutoSeq1.wpAny_loadPart' e,wpAny_pyIter_tuple hT; exact ⟨_,rfl,h⟩)
  ·wp_walk using AutoSeq1.wpAny_loadPart' e,wpAny_pyIter_tuple hT
   exact ⟨_,rfl,h⟩
theorem zky {prog:Program} {w:World} {A:Around} {E:Value→Shared→Prop} {s:Shared} {l:Addr} {its:Array Value} {Q:Value→Shared→Prop} (hL:s.heap.IsTuple l its)
 (h:∀ g,IsEnum g (s.heap.objs.size + 1) s.heap.objs.size 0 .none→g.IsTupleIter s.heap.objs.size l 0→g.objs.size=s.heap.objs.size + 2→(∀ b o,s.heap.get? b=some o→g.get? b=some o)→Q (.ref (s.heap.objs.size + 1)) { s with heap:=g }) :
 wpAny (model prog w) A (call (.type "enumerate") [.ref l]) Q E s:=by
 obtain ⟨⟨c,dc,dt,sl⟩,e1,e2,n,e3⟩:=hL
 replace e2:c=.type "tuple" := e2
 replace e3:dt=.seq its n:=e3
 subst e2 e3
 refine callType_new F.called_enumerate (by decide) (F.typeCall_enumerate_1 _) (F.newCall_enumerate_1 _) (fun obj=>F.args_object_init_2 obj _) F.entry_enumerate_new (ziv l its n dc sl) ⟨e1,?_⟩
 have hz:(s.heap.push { cls:=.type "tuple_iterator",data:=.fields #[.ref l,.int 0 0] }).objs.size=s.heap.objs.size + 1:=Heap.size_push ..
 show _∧_
 rw [hz]
 have he:IsEnum ((s.heap.push { cls:=.type "tuple_iterator",data:=.fields #[.ref l,.int 0 0] }).push { cls:=.type "enumerate",data:=.fields #[.none,.bool false,.ref s.heap.objs.size,rawInt 0,.none,.none] }) (s.heap.objs.size + 1) s.heap.objs.size 0 .none:=by
  rw [← hz]
  exact vaw _ rfl
 exact ⟨⟨_,he,rfl⟩,h _ he ⟨_,vad _ (vaw _ rfl),rfl,rfl⟩ (by rw [Heap.size_push,hz]) fun b o x=>vad _ (vad _ x)⟩
noncomputable def IteT (K:PySem.W.Frag) (a:Addr):It:=
 ⟨fun i H=>∃ xs x,SqT K H a xs∧xs[i]?=some x,fun i H x H'=>∃ T v,x=.ref T∧H T=none∧H'=upd H T (.tup [.int i,v])∧∀ xs,SqT K H a xs→xs[i]?=some v,fun i H=>∃ xs,SqT K H a xs∧xs.length≤i⟩
theorem zkz {P:Program} {w:World} {K:PySem.W.Frag} {elts:List Expr} {kx:Nat} {tp:Pos} (a e it:Addr) (hei:e≠it) (hae:a≠e) (hai:a≠it) :
 Turn P w K (.Tuple elts kx tp) (IteT K a) [e,it] e (fun i h=>(∃ old,IsEnum h e it i old)∧h.IsTupleIter it a i) where
 mem:=by simp
 obj:=fun i h st b hb=>by
  obtain ⟨⟨old,he⟩,o,ho,hc,hd⟩:=st
  rcases List.mem_cons.mp hb with rfl | hb
  ·exact ⟨_,he,fun v z=>by
    have z':Data.fields _=Data.cell v:=z
    cases z'⟩
  ·have e':b=it:=by simpa using hb
   subst e'
   exact ⟨o,ho,fun v z=>by rw [hd] at z; cases z⟩
 keep:=fun i h h' st k=>by
  obtain ⟨⟨old,he⟩,st⟩:=st
  exact ⟨⟨old,k e (by simp) _ he⟩,st.at fun o q=>k it (by simp) o q⟩
 item:=by
  intro X hP hw hK hc i pins s σ H E I hf st hg
  subst hP hw hK
  obtain ⟨xs,x,hq,hx⟩:=hg
  obtain ⟨⟨old,he⟩,st⟩:=st
  obtain ⟨its,rv,p,hz⟩:=I.tuple hq
  obtain ⟨u,hu,ru⟩:=rv.get hx
  have hd:X.A.in1.handled=none:=I.ok.hd hc
  have p:s.heap.IsTuple a its.toArray:=p
  refine wpAny_pyNext_enum_itemD (zvi hd it a hai its.toArray) he ⟨st,p⟩ (by
   have:i < its.length:=by
    rw [← rv.length]
    exact (List.getElem?_eq_some_iff.mp hx).1
   simpa using this) hei (by simp [hei,Ne.symm hae]) fun x' h1 tk hx' ho hit hT hsz hk=>?_
  obtain rfl:u=x':=by
   have:its[i]?=some x':=by simpa using hx'
   rw [hu] at this
   cases this; rfl
  refine ⟨_,rfl,wpAny_letOwnedTupleGo_enum ho fun h2 he2 hs2=>?_⟩
  have hTn:H s.heap.objs.size=none:=I.hok.fresh (vae _)
  have hTe:s.heap.objs.size≠e:=Nat.ne_of_gt (vat he)
  have hTi:s.heap.objs.size≠it:=by
   obtain ⟨o,q,_⟩:=st
   exact Nat.ne_of_gt (vat q)
  have hs2:Heap.SameBut e h1 h2:=hs2
  have kk:∀ b o,b≠e→b≠it→s.heap.get? b=some o→h2.get? b=some o:=fun b o h1 h2 q=>(hs2.2 b h1).trans (hk b o h1 h2 q)
  have f0:=fun b hb=>(hf b hb).1
  have nE:∀ b o,H b=some o→b≠e∧b≠it:=fun b o q=>⟨fun z=>(by rw [z,f0 e (by simp)] at q; cases q),fun z=>(by rw [z,f0 it (by simp)] at q; cases q)⟩
  have hT2:h2.get? s.heap.objs.size=some { cls:=.type "tuple",data:=.seq #[.int i tk,u] }:=(hs2.2 _ hTe).trans hT
  have I2:Inv X pins σ (upd H s.heap.objs.size (.tup [.int i,x])) { s with heap:=h2,gens:=s.gens,drawn:=s.drawn,toks:=tk + 1 }:=by
   refine I.step (ch:=[e,it]) (fun b hb=>?_) (fun b o _ _ hc e1 _=>kk b o (fun z=>hc (by simp [z])) (fun z=>hc (by simp [z])) e1) (fun b o _ _ hc e1 _=>⟨o.slots,kk b o (fun z=>hc (by simp [z])) (fun z=>hc (by simp [z])) e1⟩)
    (fun b o hc e1 n=>by rw [zah (Nat.ne_of_lt (vat e1))]; exact n) (fun b o hc e1=>⟨o,kk b o (fun z=>hc (by simp [z])) (fun z=>hc (by simp [z])) e1⟩)
    (fun b ys q=>by rw [zah (zaf q hTn)]; exact q) (fun b o u q=>by rw [zah (zaf q hTn)]; exact q) (fun b ps q=>⟨#[],by rw [zah (zaf q hTn),q]; simp⟩) (fun m hm=>?_) (fun b ob q=>?_) I.bare
   ·obtain ⟨_,a1,a2,a3,a4,a5⟩:=hf b hb
    exact ⟨a3,a1,a4,a5⟩
   ·obtain ⟨o,es,ep,ho',r⟩:=hm
    exact ⟨o,es,ep,kk _ o (Ne.symm (hf e (by simp)).2.1) (Ne.symm (hf it (by simp)).2.1) ho',r⟩
   ·by_cases hb:b=s.heap.objs.size
    ·subst hb
     rw [zap] at q; cases q
     exact ⟨by show 2≤sizeLine; decide,[.int i tk,u],.cons ⟨_,rfl⟩ (.cons ru .nil),⟨_,hT2,rfl,⟨_,rfl⟩,rfl⟩⟩
    ·rw [zah hb] at q
     refine (I.hok b ob q).stay (fun c v hc z=>kk c v ?_ ?_ z) (fun c z=>by rw [zah (zaf z hTn)]; exact z) fun c ys z=>by rw [zah (zaf z hTn)]; exact z
     ·rcases hc with rfl | hc
      ·exact (nE c ob q).1
      ·exact (nE c _ hc).1
     ·rcases hc with rfl | hc
      ·exact (nE c ob q).2
      ·exact (nE c _ hc).2
  refine ⟨.ref s.heap.objs.size,_,I2,rfl,⟨_,x,rfl,hTn,rfl,fun ys hy=>by rw [I.tuple_inj hy hq]; exact hx⟩,⟨⟨u,by simpa using he2⟩,hit.1.at fun o q=>(hs2.2 it (Ne.symm hei)).trans q⟩,fun b hb=>?_⟩
  rw [zah ?_]
  ·exact f0 b hb
  ·rcases List.mem_cons.mp hb with rfl | hb
   ·exact Ne.symm hTe
   ·have e':b=it:=by simpa using hb
    subst e'
    exact Ne.symm hTi
 done:=by
  intro X hP hw hK hc i pins s σ H E I hf st hg
  subst hP hw hK
  obtain ⟨xs,hq,hx⟩:=hg
  obtain ⟨⟨old,he⟩,st⟩:=st
  obtain ⟨its,rv,p,hz⟩:=I.tuple hq
  obtain ⟨f0,f1,f2,f3,f4,f5⟩:=hf it (by simp)
  have hl:=rv.length
  have hd:X.A.in1.handled=none:=I.ok.hd hc
  have p:s.heap.IsTuple a its.toArray:=p
  refine PySem.wpAny_pyNext_enum_endD (n:=0) (P:=fun _ _=>True) (St:=fun _ h=>h.IsTupleIter it a i∧h.IsTuple a its.toArray) (fp:=[it,a]) ⟨?_,?_,?_,?_⟩ he ⟨st,p⟩ fun h' eb=>⟨rfl,I.turned (t':=s.toks) (fun b o hb q=>eb b o hb q) f0 f1 f3 f4 f5⟩
  ·exact fun _ _ st=>let ⟨o,ho,_⟩:=st.1; ⟨o,ho⟩
  ·exact fun _ _ _ st hk=>⟨st.1.at fun o e=>hk it (by simp) o e,zju st.2 fun o e=>hk a (by simp) o e⟩
  ·exact fun j s' Q' E' hj=>absurd hj (Nat.not_lt_zero _)
  ·exact fun s' Q' E' st' q'=>zej hd st'.1 st'.2 (by simp; omega) q'
 self:=fun _ _ _ _ _ st h=>by
  obtain ⟨⟨old,he⟩,_⟩:=st
  exact wpAny_pyIter_enum he h
theorem zf8:fillsNumberSlot (.type "tuple") "mul" = pure false:=
 PySem.fillsNumberSlot_seq (id := "tuple.__mul__") (r:=some (.builtin "tuple.__rmul__")) F.slot_tuple_mul.lookup (by decide +kernel) F.slot_tuple_rmul.lookup (by decide +kernel)
theorem zme:seqRepeat? (.type "tuple")=pure (some (.builtin "tuple.__mul__")):=by
 unfold seqRepeat?
 rw [PySem.seqSlot_of (T := "tuple") (name := "__mul__") (id := "tuple.__mul__") F.slot_tuple_mul.lookup (by decide +kernel),PySem.seqSlot_of (T := "tuple") (name := "__rmul__") (id := "tuple.__rmul__") F.slot_tuple_rmul.lookup (by decide +kernel)]
 rfl
theorem zpd (k:Int) (t:Tok) (l:Addr) (its:Array Value) (n:Nat) (dd:Option Addr) (sl:Array (Option Value)) :
 Meets (Builtin.«int.__rmul__» ⟨[.int k t,.ref l],[]⟩) (fun _ R s=>s.heap.get? l=some { cls:=.type "tuple",dict:=dd,data:=.seq its n,slots:=sl } ∧ R (.ok (.ret Value.notImplemented)) s):=
 .of_wp fun prog w A R s h=>by
  obtain ⟨hp,g,d,tk,os⟩:=s
  obtain ⟨e,h⟩:=h
  wp_walk using AutoSeq1.wpAny_loadPart' e
  exact ⟨_,rfl,h⟩
theorem zpe (l:Addr) (its:Array Value) (n:Nat) (dd:Option Addr) (sl:Array (Option Value)) (k:Int) (t:Tok) (h1:¬(decide (k < -(2 ^ 63)) || decide (k≥2 ^ 63))=true) (h2:(its.isEmpty || k == 1)=true) :
 Meets (Builtin.«tuple.__mul__» ⟨[.ref l,.int k t],[]⟩) (fun _ R s=>s.heap.get? l=some { cls:=.type "tuple",dict:=dd,data:=.seq its n,slots:=sl } ∧ R (.ok (.ret (.ref l))) s):=
 .of_wp fun prog w A R s h=>by
  obtain ⟨hp,g,d,tk,os⟩:=s
  obtain ⟨e,h⟩:=h
  have f1:=AutoSeq1.idx_int
  wp_walk using AutoSeq1.wpAny_loadPart' e
  refine wpAny_ite ?_
  rw [if_neg h1]
  wp_walk using AutoSeq1.wpAny_loadPart' e
  exact ⟨_,rfl,h⟩
theorem zpf (l:Addr) (its:Array Value) (n:Nat) (dd:Option Addr) (sl:Array (Option Value)) (k:Int) (t:Tok) (h1:¬(decide (k < -(2 ^ 63)) || decide (k≥2 ^ 63))=true) (h2:¬(its.isEmpty || k == 1)=true) (h3:(decide (k≤0) || its.isEmpty)=true) :
 Meets (Builtin.«tuple.__mul__» ⟨[.ref l,.int k t],[]⟩) (fun _ R s=>s.heap.get? l=some { cls:=.type "tuple",dict:=dd,data:=.seq its n,slots:=sl } ∧ R (.ok (.ret (.ref s.heap.objs.size))) { s with heap:=s.heap.push { cls:=.type "tuple",data:=.seq #[] } }):=
 .of_wp fun prog w A R s h=>by
  obtain ⟨hp,g,d,tk,os⟩:=s
  obtain ⟨e,h⟩:=h
  have f1:=AutoSeq1.idx_int
  wp_walk using AutoSeq1.wpAny_loadPart' e
  refine wpAny_ite ?_
  rw [if_neg h1]
  wp_walk using AutoSeq1.wpAny_loadPart' e
  exact ⟨_,rfl,h⟩
theorem zpg (l:Addr) (its:Array Value) (n:Nat) (dd:Option Addr) (sl:Array (Option Value)) (k:Int) (t:Tok) (h1:¬(decide (k < -(2 ^ 63)) || decide (k≥2 ^ 63))=true) (h2:¬(its.isEmpty || k == 1)=true) (h3:¬(decide (k≤0) || its.isEmpty)=true)
 (h4:¬(its.size * k > (2 ^ 63 - 1) / 8)) (h5:¬Builtin.Tuple.tupleTooMany (its.size * k)=true) (h6:((List.replicate k.toNat its).foldl (· ++ ·) #[]).size≤sizeLine) :
 Meets (Builtin.«tuple.__mul__» ⟨[.ref l,.int k t],[]⟩) (fun _ R s=>s.heap.get? l=some { cls:=.type "tuple",dict:=dd,data:=.seq its n,slots:=sl } ∧ R (.ok (.ret (.ref s.heap.objs.size))) { s with heap:=s.heap.push { cls:=.type "tuple",data:=.seq ((List.replicate k.toNat its).foldl (· ++ ·) #[]) } }):=
 .of_wp fun prog w A R s h=>by
  obtain ⟨hp,g,d,tk,os⟩:=s
  obtain ⟨e,h⟩:=h
  have f1:=AutoSeq1.idx_int
  wp_walk using AutoSeq1.wpAny_loadPart' e
  refine wpAny_ite ?_
  rw [if_neg h1]
  wp_walk using AutoSeq1.wpAny_loadPart' e
  refine wpAny_ite ?_
  rw [if_neg h4]
  wp_walk using AutoSeq1.wpAny_loadPart' e
  exact ⟨_,rfl,h⟩
section
variable {X:Cx}
noncomputable def rRepT (K:PySem.W.Frag):R2:=fun x y H Q=>∃ a k xs,x=.ref a∧y=.int k∧SqT K H a xs∧-(2 ^ 62)≤k∧k < 2 ^ 62∧xs.length * k.toNat≤sizeLine ∧
 ((xs.isEmpty || k == 1)=true→Q (.ref a) H)∧((xs.isEmpty || k == 1)=false→∀ p,H p=none→Q (.ref p) (upd H p (.tup (List.replicate k.toNat xs).flatten)))
theorem zek {xs:List V} {us:List Value} (r:Vals xs us):us.toArray.isEmpty=xs.isEmpty:=by
 cases r <;> rfl
theorem zsp:OpR X (binaryOp .Mult) (rRepT X.K):=by
 intro pins s σ H x y v u Q I rx ry h
 obtain ⟨a,k,xs,rfl,rfl,ha,k1,k2,hz,q1,q2⟩:=h
 cases rx
 obtain ⟨t,rfl⟩:=ry
 obtain ⟨its,r,p,_⟩:=I.tuple ha
 obtain ⟨⟨c,dd,dt,sl⟩,e1,e2,n,e3⟩:=p
 replace e2:c=.type "tuple" := e2
 replace e3:dt=.seq its.toArray n:=e3
 subst e2 e3
 have hl:xs.length=its.length:=r.length
 have h1:¬(decide (k < -(2 ^ 63)) || decide (k≥2 ^ 63))=true:=by
  simp only [Bool.or_eq_true,decide_eq_true_eq]
  omega
 refine wpAny_binaryOp_repeat_ref (T := "tuple") (U := "int") (by decide) ⟨_,e1,rfl⟩ (fun s'=>typeIs_int s' k t) zf8 F.fills_int_mul F.slot_int_rmul zme F.slot_int_index.lookup
  (call_meets F.slot_int_rmul (typeIs_int s k t) F.entry_int_rmul (F.args_int_rmul_2 _ _) (zpd k t a its.toArray n dd sl) ⟨e1,rfl,⟨_,e1,rfl⟩,?_⟩)
 by_cases h2:(its.toArray.isEmpty || k == 1)=true
 ·refine call_meets F.slot_tuple_mul ⟨_,e1,rfl⟩ F.entry_tuple_mul (F.args_tuple_mul_2 _ _) (zpe a its.toArray n dd sl k t h1 h2) ⟨e1,?_⟩
  exact ⟨.ref a,H,I,rfl,q1 (by rw [← zek r]; exact h2)⟩
 ·have q2:=q2 (by rw [← zek r]; simpa using h2)
  by_cases h3:(decide (k≤0) || its.toArray.isEmpty)=true
  ·have hk:k.toNat=0:=by
    have:its.toArray.isEmpty=false:=by
     cases q:its.toArray.isEmpty with
     | false=>rfl
     | true=>rw [q] at h2; exact absurd rfl h2
    rw [this,Bool.or_false,decide_eq_true_eq] at h3
    omega
   refine call_meets F.slot_tuple_mul ⟨_,e1,rfl⟩ F.entry_tuple_mul (F.args_tuple_mul_2 _ _) (zpf a its.toArray n dd sl k t h1 h2 h3) ⟨e1,?_⟩
   rw [hk] at q2
   exact ⟨.ref s.heap.objs.size,_,I.laid (t':=s.toks) (o:=.tup []) (fun b ob q=>vad _ q) (vae _) ⟨Nat.zero_le _,[],.nil,zbc.new _ _⟩,rfl,q2 _ (I.hok.fresh (vae _))⟩
  ·have hk:0 < k:=by
    simp only [Bool.or_eq_true,decide_eq_true_eq,not_or] at h3
    omega
   have hkn:((k.toNat:Nat):Int)=k:=Int.toNat_of_nonneg (by omega)
   have hmul:(its.toArray.size:Int) * k=((xs.length * k.toNat:Nat):Int):=by
    rw [vai,← hl,Int.natCast_mul,hkn]
   have hsl:(sizeLine:Nat)=16777216:=rfl
   have fl:(List.replicate k.toNat its.toArray).foldl (· ++ ·) #[]=(List.replicate k.toNat its).flatten.toArray:=by
    have:=zeg its k.toNat []
    rw [List.nil_append] at this
    exact this
   refine call_meets F.slot_tuple_mul ⟨_,e1,rfl⟩ F.entry_tuple_mul (F.args_tuple_mul_2 _ _) (zpg a its.toArray n dd sl k t h1 h2 h3 (by rw [hmul]; omega) (by
    unfold Builtin.Tuple.tupleTooMany
    rw [hmul,decide_eq_true_eq]
    omega) (by rw [fl,vai,zir,Nat.mul_comm,← hl]; exact hz)) ⟨e1,?_⟩
   rw [fl]
   exact ⟨.ref s.heap.objs.size,_,I.laid (t':=s.toks) (o:=.tup (List.replicate k.toNat xs).flatten) (fun b ob q=>vad _ q) (vae _) ⟨by rw [zir,Nat.mul_comm]; exact hz,_,r.rep k.toNat,zbc.new _ _⟩,rfl,q2 _ (I.hok.fresh (vae _))⟩
noncomputable def zqv (K:PySem.W.Frag):R2:=fun x y H Q=>∃ a b ys,x=.ref a∧y=.ref b∧SqT K H a []∧SqT K H b ys∧Q (.ref b) H
theorem zph:OpR X (binaryOp .Add) (zqv X.K):=by
 intro pins s σ H x y v u Q I rx ry h
 obtain ⟨a,b,ys,rfl,rfl,ha,hb,q⟩:=h
 cases rx
 cases ry
 obtain ⟨its,r1,p1,_⟩:=I.tuple ha
 obtain ⟨its2,r2,p2,_⟩:=I.tuple hb
 cases r1
 obtain ⟨⟨c,dd,dt,sl⟩,e1,e2,n,e3⟩:=p1
 obtain ⟨⟨c2,dd2,dt2,sl2⟩,f1,f2,n2,f3⟩:=p2
 replace e2:c=.type "tuple" := e2
 replace e3:dt=.seq ([]:List Value).toArray n:=e3
 replace f2:c2=.type "tuple" := f2
 replace f3:dt2=.seq its2.toArray n2:=f3
 subst e2 e3 f2 f3
 exact concat_meets ⟨_,e1,rfl⟩ ⟨_,f1,rfl⟩ noFill_tuple_add seq_tuple_add PySem.F.slot_tuple_add PySem.F.entry_tuple_add (PySem.F.args_tuple_add_2 _ _) (tuple_addW0 a b ([]:List Value).toArray its2.toArray n n2 dd dd2 sl sl2 rfl) ⟨e1,f1,⟨.ref b,H,I,rfl,q⟩⟩
noncomputable def anyEq (ds:List PyData) (d:PyData):Bool:=ds.any fun e=>PyData.eqv e d
noncomputable def rInD (K:PySem.W.Frag) (neg:Bool):R2:=fun x y H Q=>∃ p xs ds d,y=.ref p∧(SqL K H p xs∨SqT K H p xs)∧Rps K (fun _=>False) H xs ds∧Rp K (fun _=>False) H x d∧ds.all SeqAt.shaped=true∧SeqAt.shaped d=true∧Q (.bl (if neg then !anyEq ds d else anyEq ds d)) H
theorem zby {h:Heap}:∀ {us:List Value} {ds:List PyData} {as:List Addr} {i:Nat} {u:Value},ReadsAll h us ds as→us[i]?=some u→∃ d bs,ds[i]?=some d∧Reads h u d bs
 | _,_,_,i,u,.nil,e=>by simp at e
 | _,_,_,0,u,.cons r _,e=>by simp at e; subst e; exact ⟨_,_,rfl,r⟩
 | _,_,_,i + 1,u,.cons _ rs,e=>by
  obtain ⟨d,bs,h1,h2⟩:=zby rs (by simpa using e)
  exact ⟨d,bs,by simpa using h1,h2⟩
open Classical in
noncomputable def eqOf (us:List Value) (ds:List PyData) (d:PyData) (u:Value):Bool:=decide (∃ (i:Nat) (e:PyData),us[i]?=some u∧ds[i]?=some e∧PyData.eqv e d=true)
open Classical in
theorem zd1 {us:List Value} {ds:List PyData} {d:PyData} {u:Value}:eqOf us ds d u=true↔∃ (i:Nat) (e:PyData),us[i]?=some u∧ds[i]?=some e∧PyData.eqv e d=true:=by
 unfold eqOf
 exact decide_eq_true_iff
theorem zd2 {us:List Value} {ds:List PyData} {d:PyData} (hl:us.length=ds.length):us.any (eqOf us ds d)=anyEq ds d:=by
 cases q:anyEq ds d with
 | true=>
  unfold anyEq at q
  rw [List.any_eq_true] at q
  obtain ⟨e,h1,h2⟩:=q
  obtain ⟨i,hi,h3⟩:=List.mem_iff_getElem.mp h1
  rw [List.any_eq_true]
  refine ⟨us[i]'(by omega),List.getElem_mem _,?_⟩
  rw [zd1]
  exact ⟨i,e,by simp,by rw [List.getElem?_eq_getElem hi,h3],h2⟩
 | false=>
  unfold anyEq at q
  rw [List.any_eq_false] at q ⊢
  intro u hu z
  rw [zd1] at z
  obtain ⟨i,e,h1,h2,h3⟩:=z
  exact q e (List.mem_of_getElem? h2) h3
theorem zbz {h:Heap}:∀ {us:List Value} {ds:List PyData} {as:List Addr},ReadsAll h us ds as→us.length=ds.length
 | _,_,_,.nil=>rfl
 | _,_,_,.cons _ r=>by rw [vah,vah,zbz r]
theorem zf9 {A:Around} {s:Shared} {us:List Value} {ds:List PyData} {as bs:List Addr} {d:PyData} {v:Value} (hu:A.units + 64 < cLine) (ra:ReadsAll s.heap us ds as) (rb:Reads s.heap v d bs) (s1:ds.all SeqAt.shaped=true) (s2:SeqAt.shaped d=true) :
 ∀ u∈us,SeqAt.EqAt A s u v (eqOf us ds d u):=by
 intro u hm
 have sh:∀ (i:Nat) (e:PyData),ds[i]?=some e→SeqAt.shaped e=true:=fun i e q=>List.all_eq_true.mp s1 e (List.mem_of_getElem? q)
 cases q:eqOf us ds d u with
 | true=>
  rw [zd1] at q
  obtain ⟨i,e,h1,h2,h3⟩:=q
  obtain ⟨e',cs,h4,h5⟩:=zby ra h1
  rw [h2] at h4; cases h4
  have:=SeqAt.eqAt_reads e d A s u v cs bs h5 rb (SeqAt.canLay_of_shaped (sh i e h2)) (SeqAt.canLay_of_shaped s2) (SeqAt.room_of_shaped (sh i e h2) hu)
  rw [h3] at this; exact this
 | false=>
  obtain ⟨i,hi,h1⟩:=List.mem_iff_getElem.mp hm
  have h1:us[i]?=some u:=by rw [List.getElem?_eq_getElem hi,h1]
  obtain ⟨e,cs,h4,h5⟩:=zby ra h1
  have h3:PyData.eqv e d=false:=by
   cases z:PyData.eqv e d with
   | false=>rfl
   | true=>
    rw [zd1.mpr ⟨i,e,h1,h4,z⟩] at q
    cases q
  have:=SeqAt.eqAt_reads e d A s u v cs bs h5 rb (SeqAt.canLay_of_shaped (sh i e h4)) (SeqAt.canLay_of_shaped s2) (SeqAt.room_of_shaped (sh i e h4) hu)
  rw [h3] at this; exact this
theorem zvj (hu:X.A.in1.units + 64 < cLine):OpR X (compareOp .In) (rInD X.K false):=by
 intro pins s σ H x y v u Q I rx ry h
 obtain ⟨p,xs,ds,d,rfl,hq,r1,r2,s1,s2,q⟩:=h
 cases ry
 obtain ⟨bs,rb⟩:=r2.reads I rx
 rcases hq with hq | hq
 ·obtain ⟨its,r,pl,hz⟩:=I.list hq
  obtain ⟨as,ra⟩:=r1.reads I r
  refine SeqAt.in_listAt (eqOf its ds d) pl.isList (fun w hw=>zf9 hu ra rb s1 s2 w (by simpa using hw)) ⟨.bl _,H,I,rfl,?_⟩
  rw [show its.toArray.any (eqOf its ds d)=its.any (eqOf its ds d) by simp,zd2 (zbz ra)]
  exact q
 ·obtain ⟨its,r,pl,hz⟩:=I.tuple hq
  obtain ⟨as,ra⟩:=r1.reads I r
  refine SeqAt.in_tupleAt (eqOf its ds d) pl (fun w hw=>zf9 hu ra rb s1 s2 w (by simpa using hw)) ⟨.bl _,H,I,rfl,?_⟩
  rw [show its.toArray.any (eqOf its ds d)=its.any (eqOf its ds d) by simp,zd2 (zbz ra)]
  exact q
theorem zmf (hu:X.A.in1.units + 64 < cLine):OpR X (compareOp .NotIn) (rInD X.K true):=by
 intro pins s σ H x y v u Q I rx ry h
 obtain ⟨p,xs,ds,d,rfl,hq,r1,r2,s1,s2,q⟩:=h
 cases ry
 obtain ⟨bs,rb⟩:=r2.reads I rx
 rcases hq with hq | hq
 ·obtain ⟨its,r,pl,hz⟩:=I.list hq
  obtain ⟨as,ra⟩:=r1.reads I r
  refine SeqAt.notIn_listAt (eqOf its ds d) pl.isList (fun w hw=>zf9 hu ra rb s1 s2 w (by simpa using hw)) ⟨.bl _,H,I,rfl,?_⟩
  rw [show its.toArray.any (eqOf its ds d)=its.any (eqOf its ds d) by simp,zd2 (zbz ra)]
  exact q
 ·obtain ⟨its,r,pl,hz⟩:=I.tuple hq
  obtain ⟨as,ra⟩:=r1.reads I r
  refine SeqAt.notIn_tupleAt (eqOf its ds d) pl (fun w hw=>zf9 hu ra rb s1 s2 w (by simpa using hw)) ⟨.bl _,H,I,rfl,?_⟩
  rw [show its.toArray.any (eqOf its ds d)=its.any (eqOf its ds d) by simp,zd2 (zbz ra)]
  exact q
end
end L2
namespace HT
open PySem PySem.Spec PyProof.Rows
section
variable {prog:Program} {w:World} {A:Around} {E:Value→Shared→Prop} {s:Shared}
theorem getItem_tuple_whole {t sl:Addr} {items:Array Value} {vl vu:Value} {lo hi:Option Int} {Q:Value→Shared→Prop} (ht:IsTup s.heap t items) (hs:s.heap.IsSliceOf sl vl vu .none) (pl:IsPart vl lo) (pu:IsPart vu hi)
 (hw:sIx items.size 0 lo=0∧sIx items.size items.size hi=items.size)
 (h:Q (.ref t) s):wpAny (model prog w) A (getItem (.ref t) (.ref sl)) Q E s:=by
 obtain ⟨os,hos,hcs,hds⟩:=id hs
 have hTs:s.TypeIs (.ref sl) "slice" := ⟨os,hos,hcs⟩
 unfold getItem
 try with_reducible refine wpAny_holding ?_
 first | refine vaa (vaf ?_) | skip
 refine vaa (wpAny_sequenceKey ht.typeIs (by decide) ?_)
 refine vaa (wpAny_callSpecial?_slot (name:=Str.ofString "__getitem__") ht.typeIs PyProof.Rows.slot_tuple_getitem
  (wpAny_call_entry PyProof.Rows.slot_tuple_getitem ht.typeIs entry_tuple_getitem ?_ (args_tuple_getitem _ _)))
 show wpAny _ _ (Builtin.Tuple.tupleItemsOf (.ref t) >>= _) _ _ s
 refine vaa (tupleItemsOf_ ht ?_)
 refine vaa (wpAny_typeOf hTs ?_)
 rw [if_pos (by decide)]
 refine vaa (zbv hs pl pu ?_)
 have hyes:((((sIx items.size 0 lo:Nat):Int) == 0 && (1:Int) == 1 && (sIx items.size items.size hi - sIx items.size 0 lo) == items.size)=true):=by
  rw [hw.1,hw.2]; simp
 show wpAny _ _ (if (((sIx items.size 0 lo:Nat):Int) == 0 && (1:Int) == 1 && (sIx items.size items.size hi - sIx items.size 0 lo) == items.size)=true then _ else _) _ _ s
 rw [if_pos hyes]
 unfold Builtin.Tuple.tupleIsExact
 refine vaa (vaa (wpAny_typeOf ht.typeIs (vaf ?_)))
 rw [if_pos (by decide)]
 refine vaa (wpAny_rule ?_)
 exact vaf ⟨_,rfl,vaf h⟩
end
end HT
namespace L2
open PySem PySem.Spec PyProof.Rows
variable {X:Cx}
noncomputable def rSlW (K:PySem.W.Frag):V→Option Int→Option Int→Hp→VK→Prop:=fun x lo hi H Q=>∃ a xs,x=.ref a∧SqT K H a xs ∧
 (HT.sIx xs.length 0 lo=0∧HT.sIx xs.length xs.length hi=xs.length)∧Q (.ref a) H
theorem zsq:SlR X (rSlW X.K):=by
 intro pins s σ H x v vl vu lo hi sl Q I rx hs pl pu h
 obtain ⟨a,xs,rfl,hx,hw,q⟩:=h
 cases rx
 obtain ⟨its,r,ht,hz⟩:=I.tuple hx
 have hlen:its.toArray.size=xs.length:=by rw [vai]; exact r.length.symm
 refine ⟨"tuple",_,PyProof.Rows.slot_tuple_getitem.lookup,ht.typeIs,?_⟩
 refine HT.getItem_tuple_whole ht hs pl pu (by rw [hlen]; exact hw) ?_
 exact ⟨.ref a,_,I,rfl,q⟩
noncomputable def rSlA (K:PySem.W.Frag):V→Option Int→Option Int→Hp→VK→Prop:=fun x lo hi H Q=>(rSlT K x lo hi H Q∨rSlW K x lo hi H Q)∨rSlL K x lo hi H Q
theorem zvk:SlR X (rSlA X.K):=(zu8.or zsq).or zsh
noncomputable def ZI (b:Bool) (h:Heap) (I l:Addr) (k:Nat):Prop:=match b with | true=>h.IsTupleIter I l k | false=>h.IsListIter I l k
noncomputable def ZS (b:Bool) (h:Heap) (l:Addr) (xs:Array Value):Prop:=match b with | true=>h.IsTuple l xs | false=>h.IsList l xs
noncomputable def zName (b:Bool):String:=match b with | true => "tuple_iterator" | false => "list_iterator"
noncomputable def zIt (b:Bool) (l:Addr):Obj:={ cls:=.type (zName b),data:=.fields #[.ref l,.int 0 0] }
theorem ZI.ex {b:Bool} {h h':Heap} {I l c:Addr} {k:Nat} (x:ZI b h I l k) (s:Heap.ExtBut c h h') (n:I≠c):ZI b h' I l k:=by
 cases b
 ·exact Heap.IsListIter.extBut x s n
 ·exact Heap.IsTupleIter.extBut x s n
theorem ZS.ex {b:Bool} {h h':Heap} {l c:Addr} {xs:Array Value} (x:ZS b h l xs) (s:Heap.ExtBut c h h') (n:l≠c):ZS b h' l xs:=by
 cases b
 ·exact Heap.IsList.extBut x s n
 ·exact Heap.IsTuple.extBut x s n
theorem ZI.mv {b:Bool} {h h':Heap} {I l:Addr} {k:Nat} (x:ZI b h I l k) (e:∀ o,h.get? I=some o→h'.get? I=some o):ZI b h' I l k:=by
 cases b
 ·exact Heap.IsListIter.at x e
 ·exact Heap.IsTupleIter.at x e
theorem ZI.ob {b:Bool} {h:Heap} {I l:Addr} {k:Nat} (x:ZI b h I l k):∃ o,h.get? I=some o∧∀ v,o.data≠.cell v:=by
 cases b
 ·obtain ⟨o,h1,h2,h3⟩:=x; exact ⟨o,h1,fun v z=>by rw [h3] at z; cases z⟩
 ·obtain ⟨o,h1,h2,h3⟩:=x; exact ⟨o,h1,fun v z=>by rw [h3] at z; cases z⟩
theorem ZS.lt {b:Bool} {h:Heap} {l:Addr} {xs:Array Value} (x:ZS b h l xs):l < h.objs.size:=by
 cases b <;> (obtain ⟨o,h1,_⟩:=x; exact vat h1)
theorem ZS.push {b:Bool} {h:Heap} {l:Addr} {xs:Array Value} (x:ZS b h l xs) (o:Obj):ZS b (h.push o) l xs:=by
 cases b
 ·exact Heap.IsList.push x o
 ·exact Heap.IsTuple.push x o
section
variable {prog:Program} {w:World} {A:Around} {E:Value→Shared→Prop} {s:Shared}
theorem zmg {b:Bool} {I l:Addr} {k:Nat} {xs:Array Value} {y:Value} {Q:Value→Shared→Prop} (hi:ZI b s.heap I l k) (hl:ZS b s.heap l xs) (hy:xs[k]?=some y)
 (q:∀ g,ZI b g I l (k + 1)→Heap.SameBut I s.heap g→Q y { s with heap:=g }):wpAny (model prog w) A (Builtin.SmallTypes.nextOf (.ref I)) Q E s:=by
 cases b
 ·exact wpAny_nextOf_list_item hi hl hy q
 ·exact zfb hi hl hy q
theorem z_end {b:Bool} {I l:Addr} {k:Nat} {xs:Array Value} {Q:Value→Shared→Prop} (hA:A.handled=none) (hi:ZI b s.heap I l k) (hl:ZS b s.heap l xs) (hy:xs[k]?=none)
 (q:∀ g e,Heap.ExtBut I s.heap g→(∃ o,g.get? e=some o∧o.cls=.type "StopIteration")→E (.ref e) { s with heap:=g }):wpAny (model prog w) A (Builtin.SmallTypes.nextOf (.ref I)) Q E s:=by
 cases b
 ·exact wpAny_nextOf_list_end hA hi hl hy q
 ·exact zej hA hi hl hy q
structure ZA (z TI TO i1 i2 l1 l2:Addr):Prop where
 a1:TI≠z∧TO≠z∧i1≠z∧i2≠z
 a2:TI≠TO∧TI≠i1∧TI≠i2∧TO≠i1∧TO≠i2∧i1≠i2
 a3:l1≠z∧l1≠TO∧l1≠i1∧l1≠i2
 a4:l2≠z∧l2≠TO∧l2≠i1∧l2≠i2
theorem zvl {n l1 l2:Nat} (h1:l1 < n) (h2:l2 < n):ZA (n + 4) (n + 2) (n + 3) n (n + 1) l1 l2:=by
 have e:∀ {a b:Nat},(a < b∨b < a)→a≠b:=fun h=>h.elim Nat.ne_of_lt Nat.ne_of_gt
 refine ⟨⟨?_,?_,?_,?_⟩,⟨?_,?_,?_,?_,?_,?_⟩,⟨?_,?_,?_,?_⟩,?_,?_,?_,?_⟩ <;> exact e (by omega)
theorem zsr {b c:Bool} {z TI TO i1 i2 l1 l2:Addr} {k:Nat} {xs ys:Array Value} {x y p q:Value} {Q:Value→Shared→Prop} (D:ZA z TI TO i1 i2 l1 l2)
 (hz:IsZip s.heap z TI TO .none) (hTI:IsPair s.heap TI (.ref i1) (.ref i2)) (hTO:IsPair s.heap TO p q)
 (h1:ZI b s.heap i1 l1 k) (h2:ZI c s.heap i2 l2 k) (hl1:ZS b s.heap l1 xs) (hl2:ZS c s.heap l2 ys) (hx:xs[k]?=some x) (hy:ys[k]?=some y)
 (hQ:∀ h',IsZip h' z TI TO (rawInt s.heap.objs.size)→IsPair h' TO x y→ZI b h' i1 l1 (k + 1)→ZI c h' i2 l2 (k + 1)→IsPair h' s.heap.objs.size x y→h'.objs.size=s.heap.objs.size + 1 →
   (∀ c o,c≠z→c≠TO→c≠i1→c≠i2→s.heap.get? c=some o→h'.get? c=some o)→Q (.ref s.heap.objs.size) { s with heap:=h' }) :
 wpAny (model prog w) A (Builtin.«zip.__next__» ⟨[.ref z],[]⟩) (fun fin s'=>∃ v,fin=.done (.ret v)∧Q v s') E s:=by
 obtain ⟨⟨d1,d2,d3,d4⟩,⟨d5,d6,d7,d8,d9,d10⟩,⟨d11,d12,d13,d14⟩,d15,d16,d17,d18⟩:=D
 show wpAny _ _ (field (.ref z) 2 >>= _) _ _ _; refine vaa (wpAny_field hz rfl (x:=.bool false) rfl ?_)
 show wpAny _ _ (field (.ref z) 3 >>= _) _ _ _; refine vaa (wpAny_field hz rfl (x:=.ref TI) rfl (vaa (wpAny_seqItems hTI rfl ?_)))
 show wpAny _ _ (Builtin.SmallTypes.ownedTupleIsFree (.ref z) >>= _) _ _ _; refine vaa ?_; unfold Builtin.SmallTypes.ownedTupleIsFree
 refine vaa (wpAny_field hz rfl (x:=.none) rfl (vaf ?_)); simp only [if_true]
 refine vaa (wpAny_rule (vaa (wpAny_field hz rfl (x:=.ref TO) rfl (vaa (wpAny_setField_rec hz (by simp) fun g1 z1 s1=>?_)))))
 replace z1:IsZip g1 z TI TO .ellipsis:=z1
 refine vaa ?_; simp only [List.zipIdx_cons,List.zipIdx_nil,List.forIn_cons,List.forIn_nil]
 refine vaa (vaa (wpAny_onRaise ?_)); show wpAny _ _ (Builtin.SmallTypes.nextOf (.ref i1) >>= _) _ _ _
 refine vaa (zmg (h1.ex s1.extBut d3) (hl1.ex s1.extBut d11) hx fun g2 y1 s2=>vaf ?_)
 have t2:IsPair g2 TO p q:=s2.extBut _ _ d8 (s1.extBut _ _ d2 hTO)
 refine vaa (wpAny_seqItems t2 rfl (vaa (wpAny_updateSeq_pair t2 fun g3 t3 s3=>?_)))
 replace t3:IsPair g3 TO x q:=t3
 refine vaa (wpAny_letGo (vaf (vaa (vaa (wpAny_onRaise ?_))))); show wpAny _ _ (Builtin.SmallTypes.nextOf (.ref i2) >>= _) _ _ _
 refine vaa (zmg (((h2.ex s1.extBut d4).ex s2.extBut (Ne.symm d10)).ex s3.extBut (Ne.symm d9)) (((hl2.ex s1.extBut d15).ex s2.extBut d17).ex s3.extBut d16) hy fun g4 y2 s4=>vaf ?_)
 have t4:IsPair g4 TO x q:=s4.extBut _ _ d9 t3
 refine vaa (wpAny_seqItems t4 rfl (vaa (wpAny_updateSeq_pair t4 fun g5 t5 s5=>?_)))
 replace t5:IsPair g5 TO x y:=t5
 refine vaa (wpAny_letGo (vaf (vaf (vaa (wpAny_seqItems t5 rfl (vaa (wpAny_newTuple ?_)))))))
 have hsz:g5.objs.size=s.heap.objs.size:=by rw [s5.1,s4.1,s3.1,s2.1,s1.1]
 have z5:IsZip g5 z TI TO .ellipsis:=s5.extBut _ _ (Ne.symm d2) (s4.extBut _ _ (Ne.symm d4) (s3.extBut _ _ (Ne.symm d2) (s2.extBut _ _ (Ne.symm d3) z1)))
 have k5:∀ c o,c≠z→c≠TO→c≠i1→c≠i2→s.heap.get? c=some o→g5.get? c=some o:=fun c o c1 c2 c3 c4 e=>s5.extBut _ _ c2 (s4.extBut _ _ c4 (s3.extBut _ _ c2 (s2.extBut _ _ c3 (s1.extBut _ _ c1 e))))
 have i15:ZI b g5 i1 l1 (k + 1):=((y1.ex s3.extBut (Ne.symm d8)).ex s4.extBut d10).ex s5.extBut (Ne.symm d8)
 have i25:ZI c g5 i2 l2 (k + 1):=y2.ex s5.extBut (Ne.symm d9)
 have zlt:z < g5.objs.size:=vat z5
 show wpAny _ _ (Builtin.SmallTypes.ownedTupleHandOut (.ref z) (.ref g5.objs.size) >>= _) _ _ _; refine vaa ?_; unfold Builtin.SmallTypes.ownedTupleHandOut
 have z6:IsZip (g5.push { cls:=.type "tuple",data:=.seq #[x,y] }) z TI TO .ellipsis:=vad _ z5
 refine vaa (wpAny_setField_rec z6 (by simp) fun g7 z7 s7=>?_)
 replace z7:IsZip g7 z TI TO (rawInt g5.objs.size):=z7
 refine wpAny_setField_rec z7 (by simp) fun g8 z8 s8=>?_
 replace z8:IsZip g8 z TI TO (rawInt g5.objs.size):=z8
 have up:∀ c o,c≠z→g5.get? c=some o→g8.get? c=some o:=fun c o c1 e=>s8.extBut _ _ c1 (s7.extBut _ _ c1 (vad _ e))
 have p8:IsPair g8 g5.objs.size x y:=s8.extBut _ _ (Nat.ne_of_gt zlt) (s7.extBut _ _ (Nat.ne_of_gt zlt) (vaw _ rfl))
 have n8:g8.objs.size=g5.objs.size + 1:=by rw [s8.1,s7.1,Heap.size_push]
 rw [hsz] at z8 p8 n8
 refine vaf ⟨_,rfl,?_⟩; show Q (.ref g5.objs.size) _; rw [hsz]
 exact hQ g8 z8 (up _ _ d2 t5) (i15.mv fun o e=>up _ o d3 e) (i25.mv fun o e=>up _ o d4 e) p8 n8 fun c o c1 c2 c3 c4 e=>up c o c1 (k5 c o c1 c2 c3 c4 e)
theorem zvm {b c:Bool} {z TI TO i1 i2 l1 l2:Addr} {k:Nat} {xs ys:Array Value} {p q:Value} {Q:Fin→Shared→Prop} (hA:A.handled=none) (D:ZA z TI TO i1 i2 l1 l2)
 (hz:IsZip s.heap z TI TO .none) (hTI:IsPair s.heap TI (.ref i1) (.ref i2)) (hTO:IsPair s.heap TO p q)
 (h1:ZI b s.heap i1 l1 k) (h2:ZI c s.heap i2 l2 k) (hl1:ZS b s.heap l1 xs) (hl2:ZS c s.heap l2 ys) (he:xs[k]?=none∨ys[k]?=none)
 (hE:∀ h' e,(∀ c o,c≠z→c≠TO→c≠i1→c≠i2→s.heap.get? c=some o→h'.get? c=some o)→(∃ o,h'.get? e=some o∧o.cls=.type "StopIteration")→E (.ref e) { s with heap:=h' }) :
 wpAny (model prog w) A (Builtin.«zip.__next__» ⟨[.ref z],[]⟩) Q E s:=by
 obtain ⟨⟨d1,d2,d3,d4⟩,⟨d5,d6,d7,d8,d9,d10⟩,⟨d11,d12,d13,d14⟩,d15,d16,d17,d18⟩:=D
 show wpAny _ _ (field (.ref z) 2 >>= _) _ _ _; refine vaa (wpAny_field hz rfl (x:=.bool false) rfl ?_)
 show wpAny _ _ (field (.ref z) 3 >>= _) _ _ _; refine vaa (wpAny_field hz rfl (x:=.ref TI) rfl (vaa (wpAny_seqItems hTI rfl ?_)))
 show wpAny _ _ (Builtin.SmallTypes.ownedTupleIsFree (.ref z) >>= _) _ _ _; refine vaa ?_; unfold Builtin.SmallTypes.ownedTupleIsFree
 refine vaa (wpAny_field hz rfl (x:=.none) rfl (vaf ?_)); simp only [if_true]
 refine vaa (wpAny_rule (vaa (wpAny_field hz rfl (x:=.ref TO) rfl (vaa (wpAny_setField_rec hz (by simp) fun g1 z1 s1=>?_)))))
 replace z1:IsZip g1 z TI TO .ellipsis:=z1
 refine vaa ?_; simp only [List.zipIdx_cons,List.zipIdx_nil,List.forIn_cons,List.forIn_nil]
 refine vaa (vaa (wpAny_onRaise ?_)); show wpAny _ _ (Builtin.SmallTypes.nextOf (.ref i1) >>= _) _ _ _
 cases hx:xs[k]? with
 | none=>
  refine vaa (z_end hA (h1.ex s1.extBut d3) (hl1.ex s1.extBut d11) hx fun g2 e s2 hs=>?_)
  obtain ⟨oe,hoe,hce⟩:=hs
  have z2:IsZip g2 z TI TO .ellipsis:=s2 _ _ (Ne.symm d3) z1
  have nez:e≠z:=fun x=>by subst x; rw [z2] at hoe; cases hoe; simp at hce
  exact wpAny_setField_rec z2 (by simp) fun g3 _ s3=>hE g3 e (fun c o c1 _ c3 _ x=>s3.extBut _ _ c1 (s2 _ _ c3 (s1.extBut _ _ c1 x))) ⟨oe,s3.extBut _ _ nez hoe,hce⟩
 | some x=>
  have hy:ys[k]?=none:=by rcases he with h | h; rw [hx] at h; cases h; exact h
  refine vaa (zmg (h1.ex s1.extBut d3) (hl1.ex s1.extBut d11) hx fun g2 y1 s2=>vaf ?_)
  have t2:IsPair g2 TO p q:=s2.extBut _ _ d8 (s1.extBut _ _ d2 hTO)
  refine vaa (wpAny_seqItems t2 rfl (vaa (wpAny_updateSeq_pair t2 fun g3 t3 s3=>?_)))
  refine vaa (wpAny_letGo (vaf (vaa (vaa (wpAny_onRaise ?_))))); show wpAny _ _ (Builtin.SmallTypes.nextOf (.ref i2) >>= _) _ _ _
  refine vaa (z_end hA (((h2.ex s1.extBut d4).ex s2.extBut (Ne.symm d10)).ex s3.extBut (Ne.symm d9)) (((hl2.ex s1.extBut d15).ex s2.extBut d17).ex s3.extBut d16) hy fun g4 e s4 hs=>?_)
  obtain ⟨oe,hoe,hce⟩:=hs
  have z4:IsZip g4 z TI TO .ellipsis:=s4 _ _ (Ne.symm d4) (s3.extBut _ _ (Ne.symm d2) (s2.extBut _ _ (Ne.symm d3) z1))
  have nez:e≠z:=fun x=>by subst x; rw [z4] at hoe; cases hoe; simp at hce
  exact wpAny_setField_rec z4 (by simp) fun g5 _ s5=>hE g5 e (fun c o c1 c2 c3 c4 x=>s5.extBut _ _ c1 (s4 _ _ c4 (s3.extBut _ _ c2 (s2.extBut _ _ c3 (s1.extBut _ _ c1 x))))) ⟨oe,s5.extBut _ _ nez hoe,hce⟩
theorem zss {b c:Bool} {z TI TO i1 i2 l1 l2:Addr} {k:Nat} {xs ys:Array Value} {x y p q:Value} {Q:Option Value→Shared→Prop} (D:ZA z TI TO i1 i2 l1 l2)
 (hz:IsZip s.heap z TI TO .none) (hTI:IsPair s.heap TI (.ref i1) (.ref i2)) (hTO:IsPair s.heap TO p q)
 (h1:ZI b s.heap i1 l1 k) (h2:ZI c s.heap i2 l2 k) (hl1:ZS b s.heap l1 xs) (hl2:ZS c s.heap l2 ys) (hx:xs[k]?=some x) (hy:ys[k]?=some y)
 (hQ:∀ h',IsZip h' z TI TO (rawInt s.heap.objs.size)→IsPair h' TO x y→ZI b h' i1 l1 (k + 1)→ZI c h' i2 l2 (k + 1)→IsPair h' s.heap.objs.size x y→h'.objs.size=s.heap.objs.size + 1 →
   (∀ c o,c≠z→c≠TO→c≠i1→c≠i2→s.heap.get? c=some o→h'.get? c=some o)→Q (some (.ref s.heap.objs.size)) { s with heap:=h' }):wpAny (model prog w) A (pyNext (.ref z)) Q E s:=by
 have hT:s.TypeIs (.ref z) "zip" := ⟨_,hz,rfl⟩
 unfold pyNext
 exact vaa (wpAny_attempt (wpAny_callSpecial?_slot (name:=Str.ofString "__next__") hT F.slot_zip_next (wpAny_call_entry F.slot_zip_next hT F.entry_zip_next (zsr D hz hTI hTO h1 h2 hl1 hl2 hx hy fun h' a1 a2 a3 a4 a5 a6 a7=>vaf (hQ h' a1 a2 a3 a4 a5 a6 a7)) (F.args_zip_next_1 _))))
theorem zvn {b c:Bool} {z TI TO i1 i2 l1 l2:Addr} {k:Nat} {xs ys:Array Value} {p q:Value} {Q:Option Value→Shared→Prop} (hA:A.in1.handled=none) (D:ZA z TI TO i1 i2 l1 l2)
 (hz:IsZip s.heap z TI TO .none) (hTI:IsPair s.heap TI (.ref i1) (.ref i2)) (hTO:IsPair s.heap TO p q)
 (h1:ZI b s.heap i1 l1 k) (h2:ZI c s.heap i2 l2 k) (hl1:ZS b s.heap l1 xs) (hl2:ZS c s.heap l2 ys) (he:xs[k]?=none∨ys[k]?=none)
 (hQ:∀ h',(∀ c o,c≠z→c≠TO→c≠i1→c≠i2→s.heap.get? c=some o→h'.get? c=some o)→Q none { s with heap:=h' }):wpAny (model prog w) A (pyNext (.ref z)) Q E s:=by
 have hT:s.TypeIs (.ref z) "zip" := ⟨_,hz,rfl⟩
 unfold pyNext
 refine vaa (wpAny_attempt (wpAny_callSpecial?_slot (name:=Str.ofString "__next__") hT F.slot_zip_next (wpAny_call_entry F.slot_zip_next hT F.entry_zip_next (zvm hA D hz hTI hTO h1 h2 hl1 hl2 he fun h' e hk hs=>?_) (F.args_zip_next_1 _))))
 obtain ⟨o,ho,hc⟩:=hs
 exact vaa (wpAny_isInstance (T := "StopIteration") (b:=true) ⟨o,ho,hc⟩ isSubtype_stop (vaf (hQ _ hk)))
noncomputable def zh1 (h:Heap) (b:Bool) (l1:Addr):Heap:=h.push (zIt b l1)
noncomputable def zh2 (h:Heap) (b c:Bool) (l1 l2:Addr):Heap:=(zh1 h b l1).push (zIt c l2)
noncomputable def zh3 (h:Heap) (b c:Bool) (l1 l2:Addr):Heap:=(zh2 h b c l1 l2).push { cls:=.type "tuple",data:=.seq #[.ref h.objs.size,.ref (zh1 h b l1).objs.size] }
noncomputable def zh4 (h:Heap) (b c:Bool) (l1 l2:Addr):Heap:=(zh3 h b c l1 l2).push { cls:=.type "tuple",data:=.seq #[.none,.none] }
noncomputable def zh5 (h:Heap) (b c:Bool) (l1 l2:Addr):Heap:=(zh4 h b c l1 l2).push { cls:=.type "zip",data:=.fields #[.none,.bool false,.bool false,.ref (zh2 h b c l1 l2).objs.size,.ref (zh3 h b c l1 l2).objs.size] }
theorem zpi (b c:Bool) (l1 l2:Addr) (xs ys:Array Value):Meets (Builtin.«zip.__new__» ⟨[.type "zip",.ref l1,.ref l2],[]⟩) (fun _ R s=>ZS b s.heap l1 xs∧ZS c s.heap l2 ys ∧
 R (.ok (.ret (.ref (zh4 s.heap b c l1 l2).objs.size))) { s with heap:=zh5 s.heap b c l1 l2 }):=
 .of_wp fun prog w A R s h=>by
  obtain ⟨hp,g,d,tk,os⟩:=s; obtain ⟨m1,m2,h⟩:=h
  have hsub:=sub_zip
  have e1:ZS b (Shared.heap ⟨hp,g,d,tk,os⟩) l1 xs:=m1
  have e2:ZS c (Shared.heap ⟨hp.push (zIt b l1),g,d,tk,os⟩) l2 ys:=m2.push _
  cases b <;> cases c
  ·have q1:Heap.IsList (Shared.heap ⟨hp,g,d,tk,os⟩) l1 xs:=e1
   have q2:Heap.IsList (Shared.heap ⟨hp.push { cls:=.type "list_iterator",data:=.fields #[.ref l1,.int 0 0] },g,d,tk,os⟩) l2 ys:=e2
   wp_walk using wpAny_pyIter_list q1,wpAny_pyIter_list q2
   exact ⟨_,rfl,h⟩
  ·have q1:Heap.IsList (Shared.heap ⟨hp,g,d,tk,os⟩) l1 xs:=e1
   have q2:Heap.IsTuple (Shared.heap ⟨hp.push { cls:=.type "list_iterator",data:=.fields #[.ref l1,.int 0 0] },g,d,tk,os⟩) l2 ys:=e2
   wp_walk using wpAny_pyIter_list q1,wpAny_pyIter_tuple q2
   exact ⟨_,rfl,h⟩
  ·have q1:Heap.IsTuple (Shared.heap ⟨hp,g,d,tk,os⟩) l1 xs:=e1
   have q2:Heap.IsList (Shared.heap ⟨hp.push { cls:=.type "tuple_iterator",data:=.fields #[.ref l1,.int 0 0] },g,d,tk,os⟩) l2 ys:=e2
   wp_walk using wpAny_pyIter_tuple q1,wpAny_pyIter_list q2
   exact ⟨_,rfl,h⟩
  ·have q1:Heap.IsTuple (Shared.heap ⟨hp,g,d,tk,os⟩) l1 xs:=e1
   have q2:Heap.IsTuple (Shared.heap ⟨hp.push { cls:=.type "tuple_iterator",data:=.fields #[.ref l1,.int 0 0] },g,d,tk,os⟩) l2 ys:=e2
   wp_walk using wpAny_pyIter_tuple q1,wpAny_pyIter_tuple q2
   exact ⟨_,rfl,h⟩
theorem zqw {b:Bool} {h:Heap} {l:Addr} {a:Addr} (e:h.get? a=some (zIt b l)):ZI b h a l 0:=by
 cases b <;> exact ⟨_,e,rfl,rfl⟩
theorem zst {b c:Bool} {l1 l2:Addr} {xs ys:Array Value} {Q:Value→Shared→Prop} (m1:ZS b s.heap l1 xs) (m2:ZS c s.heap l2 ys)
 (h:∀ h',IsZip h' (s.heap.objs.size + 4) (s.heap.objs.size + 2) (s.heap.objs.size + 3) .none→IsPair h' (s.heap.objs.size + 2) (.ref s.heap.objs.size) (.ref (s.heap.objs.size + 1)) →
   IsPair h' (s.heap.objs.size + 3) .none .none→ZI b h' s.heap.objs.size l1 0→ZI c h' (s.heap.objs.size + 1) l2 0→h'.objs.size=s.heap.objs.size + 5 →
   (∀ c o,s.heap.get? c=some o→h'.get? c=some o)→Q (.ref (s.heap.objs.size + 4)) { s with heap:=h' }):wpAny (model prog w) A (call (.type "zip") [.ref l1,.ref l2]) Q E s:=by
 refine callType_new F.called_zip (by decide) (F.typeCall_zip_2 _ _) (F.newCall_zip_2 _ _) (fun obj=>F.args_object_init_3 obj _ _) F.entry_zip_new (zpi b c l1 l2 xs ys) ⟨m1,m2,?_⟩
 have n1:(zh1 s.heap b l1).objs.size=s.heap.objs.size + 1:=Heap.size_push ..
 have n2:(zh2 s.heap b c l1 l2).objs.size=s.heap.objs.size + 2:=by unfold zh2; rw [Heap.size_push,n1]
 have n3:(zh3 s.heap b c l1 l2).objs.size=s.heap.objs.size + 3:=by unfold zh3; rw [Heap.size_push,n2]
 have n4:(zh4 s.heap b c l1 l2).objs.size=s.heap.objs.size + 4:=by unfold zh4; rw [Heap.size_push,n3]
 have n5:(zh5 s.heap b c l1 l2).objs.size=s.heap.objs.size + 5:=by unfold zh5; rw [Heap.size_push,n4]
 have g5:(zh5 s.heap b c l1 l2).get? (zh4 s.heap b c l1 l2).objs.size=some _:=vaw _ rfl
 have g4:(zh5 s.heap b c l1 l2).get? (zh3 s.heap b c l1 l2).objs.size=some _:=vad _ (vaw _ rfl)
 have g3:(zh5 s.heap b c l1 l2).get? (zh2 s.heap b c l1 l2).objs.size=some _:=vad _ (vad _ (vaw _ rfl))
 have g2:(zh5 s.heap b c l1 l2).get? (zh1 s.heap b l1).objs.size=some _:=vad _ (vad _ (vad _ (vaw _ rfl)))
 have g1:(zh5 s.heap b c l1 l2).get? s.heap.objs.size=some _:=vad _ (vad _ (vad _ (vad _ (vaw _ rfl))))
 show _∧_
 rw [n2,n3,n4] at g5
 rw [n1,n2] at g3
 rw [n3] at g4
 rw [n1] at g2
 rw [n4]
 exact ⟨⟨_,g5,rfl⟩,h _ g5 g3 g4 (zqw g1) (zqw g2) n5 fun c o x=>vad _ (vad _ (vad _ (vad _ (vad _ x))))⟩
end
noncomputable def SqB (b:Bool) (K:PySem.W.Frag) (H:Hp) (a:Addr) (xs:List V):Prop:=match b with | true=>SqT K H a xs | false=>SqL K H a xs
theorem zfc {b:Bool} {X:Cx} {pins:List (Addr × Obj)} {σ:St} {H:Hp} {s:Shared} {a:Addr} {xs:List V} (I:Inv X pins σ H s) (h:SqB b X.K H a xs):∃ its:List Value,Vals xs its∧ZS b s.heap a its.toArray∧xs.length≤sizeLine:=by
 cases b
 ·obtain ⟨its,r,p,z⟩:=I.list h
  exact ⟨its,r,p.isList,z⟩
 ·exact I.tuple h
theorem zmh {b:Bool} {X:Cx} {pins:List (Addr × Obj)} {σ:St} {H:Hp} {s:Shared} {a:Addr} {xs ys:List V} (I:Inv X pins σ H s) (h:SqB b X.K H a xs) (h':SqB b X.K H a ys):xs=ys:=by
 cases b
 ·exact I.list_inj h h'
 ·exact I.tuple_inj h h'
noncomputable def IteZ (K:PySem.W.Frag) (b c:Bool) (a1 a2:Addr):It:=
 ⟨fun i H=>∃ xs ys x y,SqB b K H a1 xs∧SqB c K H a2 ys∧xs[i]?=some x∧ys[i]?=some y,
  fun i H v H'=>∃ T x y,v=.ref T∧H T=none∧H'=upd H T (.tup [x,y])∧(∀ xs,SqB b K H a1 xs→xs[i]?=some x)∧∀ ys,SqB c K H a2 ys→ys[i]?=some y,
  fun i H=>∃ xs ys,SqB b K H a1 xs∧SqB c K H a2 ys∧(xs.length≤i∨ys.length≤i)⟩
theorem Inv.turnedZ {X:Cx} {pins:List (Addr × Obj)} {σ:St} {H:Hp} {s:Shared} {h2:Heap} {t':Nat} {fp:List Addr} (I:Inv X pins σ H s) (hf:∀ b∈fp,FpOk X pins H b) (kk:∀ b o,b∉fp→s.heap.get? b=some o→h2.get? b=some o) :
 Inv X pins σ H { s with heap:=h2,toks:=t' }:=by
 have f0:=fun b hb=>(hf b hb).1
 have nE:∀ b o,H b=some o→b∉fp:=fun b o q z=>by rw [f0 b z] at q; cases q
 refine I.step (g':=s.gens) (d':=s.drawn) (ch:=fp) (fun b hb=>?_) (fun b o _ _ hc e1 _=>kk b o hc e1) (fun b o _ _ hc e1 _=>⟨o.slots,kk b o hc e1⟩) (fun _ _ _ _ n=>n) (fun b o hc e1=>⟨o,kk b o hc e1⟩)
  (fun _ _ q=>q) (fun _ _ _ q=>q) (fun b ps q=>⟨#[],by rw [q]; simp⟩) (fun m hm=>?_) (fun b ob q=>?_) I.bare
 ·obtain ⟨_,a1,a2,a3,a4,a5⟩:=hf b hb
  exact ⟨a3,a1,a4,a5⟩
 ·obtain ⟨o,es,ep,ho',r⟩:=hm
  exact ⟨o,es,ep,kk _ o (fun z=>(hf _ z).2.1 rfl) ho',r⟩
 ·refine (I.hok b ob q).stay (fun c v hc z=>kk c v ?_ z) (fun _ z=>z) fun _ _ z=>z
  rcases hc with rfl | hc
  ·exact nE c ob q
  ·exact nE c _ hc
theorem Inv.turnedT {X:Cx} {pins:List (Addr × Obj)} {σ:St} {H:Hp} {s:Shared} {h2:Heap} {fp:List Addr} {xs:List V} {us:List Value} (I:Inv X pins σ H s) (hf:∀ b∈fp,FpOk X pins H b) (kk:∀ b o,b∉fp→s.heap.get? b=some o→h2.get? b=some o)
 (hT:h2.get? s.heap.objs.size=some { cls:=.type "tuple",data:=.seq us.toArray }) (hv:Vals xs us) (hz:xs.length≤sizeLine):Inv X pins σ (upd H s.heap.objs.size (.tup xs)) { s with heap:=h2 }:=by
 have hTn:H s.heap.objs.size=none:=I.hok.fresh (vae _)
 have f0:=fun b hb=>(hf b hb).1
 have nE:∀ b o,H b=some o→b∉fp:=fun b o q z=>by rw [f0 b z] at q; cases q
 refine I.step (g':=s.gens) (d':=s.drawn) (ch:=fp) (fun b hb=>?_) (fun b o _ _ hc e1 _=>kk b o hc e1) (fun b o _ _ hc e1 _=>⟨o.slots,kk b o hc e1⟩) (fun b o hc e1 n=>by rw [zah (Nat.ne_of_lt (vat e1))]; exact n) (fun b o hc e1=>⟨o,kk b o hc e1⟩)
  (fun b ys q=>by rw [zah (zaf q hTn)]; exact q) (fun b o u q=>by rw [zah (zaf q hTn)]; exact q) (fun b ps q=>⟨#[],by rw [zah (zaf q hTn),q]; simp⟩) (fun m hm=>?_) (fun b ob q=>?_) I.bare
 ·obtain ⟨_,a1,a2,a3,a4,a5⟩:=hf b hb
  exact ⟨a3,a1,a4,a5⟩
 ·obtain ⟨o,es,ep,ho',r⟩:=hm
  exact ⟨o,es,ep,kk _ o (fun z=>(hf _ z).2.1 rfl) ho',r⟩
 ·by_cases hb:b=s.heap.objs.size
  ·subst hb
   rw [zap] at q; cases q
   exact ⟨hz,us,hv,⟨_,hT,rfl,⟨_,rfl⟩,rfl⟩⟩
  ·rw [zah hb] at q
   refine (I.hok b ob q).stay (fun c v hc z=>kk c v ?_ z) (fun c z=>by rw [zah (zaf z hTn)]; exact z) fun c ys z=>by rw [zah (zaf z hTn)]; exact z
   rcases hc with rfl | hc
   ·exact nE c ob q
   ·exact nE c _ hc
theorem zpj {P:Program} {w:World} {K:PySem.W.Frag} {elts:List Expr} {kx:Nat} {tp:Pos} {b c:Bool} (a1 a2 z TI TO i1 i2:Addr) (D:ZA z TI TO i1 i2 a1 a2) :
 Turn P w K (.Tuple elts kx tp) (IteZ K b c a1 a2) [z,TI,TO,i1,i2] z (fun i h=>IsZip h z TI TO .none∧IsPair h TI (.ref i1) (.ref i2)∧(∃ p q,IsPair h TO p q)∧ZI b h i1 a1 i∧ZI c h i2 a2 i) where
 mem:=by simp
 obj:=fun i h st d hd=>by
  obtain ⟨hz,hTI,⟨p,q,hTO⟩,h1,h2⟩:=st
  simp only [List.mem_cons,List.not_mem_nil,or_false] at hd
  rcases hd with rfl | rfl | rfl | rfl | rfl
  ·exact ⟨_,hz,fun v z=>by
    have z':Data.fields _=Data.cell v:=z
    cases z'⟩
  ·exact ⟨_,hTI,fun v z=>by
    have z':Data.seq _ _=Data.cell v:=z
    cases z'⟩
  ·exact ⟨_,hTO,fun v z=>by
    have z':Data.seq _ _=Data.cell v:=z
    cases z'⟩
  ·exact h1.ob
  ·exact h2.ob
 keep:=fun i h h' st k=>by
  obtain ⟨hz,hTI,⟨p,q,hTO⟩,h1,h2⟩:=st
  exact ⟨k z (by simp) _ hz,k TI (by simp) _ hTI,⟨p,q,k TO (by simp) _ hTO⟩,h1.mv fun o e=>k i1 (by simp) o e,h2.mv fun o e=>k i2 (by simp) o e⟩
 item:=by
  intro X hP hw hK hc i pins s σ H E I hf st hg
  subst hP hw hK
  obtain ⟨xs,ys,x,y,q1,q2,hx,hy⟩:=hg
  obtain ⟨hz,hTI,⟨p,q,hTO⟩,h1,h2⟩:=st
  obtain ⟨its,rv,m1,_⟩:=zfc I q1
  obtain ⟨jts,rw',m2,_⟩:=zfc I q2
  obtain ⟨u,hu,ru⟩:=rv.get hx
  obtain ⟨v,hv,rv'⟩:=rw'.get hy
  refine zss D hz hTI hTO h1 h2 m1 m2 (x:=u) (y:=v) (by simpa using hu) (by simpa using hv) fun g b1 b2 b3 b4 b5 b6 b7=>⟨_,rfl,wpAny_letOwnedTupleGo_zip b1 fun g2 c1 c2=>?_⟩
  obtain ⟨⟨d1,d2,d3,d4⟩,⟨d5,d6,d7,d8,d9,d10⟩,_,_⟩:=D
  have c2:Heap.SameBut z g g2:=c2
  have zlt:s.heap.objs.size≠z:=Nat.ne_of_gt (vat hz)
  have kk:∀ d o,d∉[z,TI,TO,i1,i2]→s.heap.get? d=some o→g2.get? d=some o:=fun d o hd e=>(c2.2 d fun x=>hd (by simp [x])).trans (b7 d o (fun x=>hd (by simp [x])) (fun x=>hd (by simp [x])) (fun x=>hd (by simp [x])) (fun x=>hd (by simp [x])) e)
  have hT:g2.get? s.heap.objs.size=some { cls:=.type "tuple",data:=.seq [u,v].toArray }:=(c2.2 _ zlt).trans b5
  have I2:=Inv.turnedT (xs:=[x,y]) I hf kk hT (.cons ru (.cons rv' .nil)) (by show 2≤sizeLine; decide)
  have hTn:H s.heap.objs.size=none:=I.hok.fresh (vae _)
  refine ⟨.ref s.heap.objs.size,_,I2,rfl,⟨_,x,y,rfl,hTn,rfl,fun zs hzs=>by rw [zmh I hzs q1]; exact hx,fun zs hzs=>by rw [zmh I hzs q2]; exact hy⟩,
   ⟨c1,(c2.2 TI d1).trans (b7 TI _ d1 d5 d6 d7 hTI),⟨u,v,(c2.2 TO d2).trans b2⟩,b3.mv fun o e=>(c2.2 i1 d3).trans e,b4.mv fun o e=>(c2.2 i2 d4).trans e⟩,fun d hd=>?_⟩
  rw [zah ?_]
  ·exact (hf d hd).1
  ·intro e
   obtain ⟨o,ho⟩:∃ o,s.heap.get? d=some o:=by
    simp only [List.mem_cons,List.not_mem_nil,or_false] at hd
    rcases hd with rfl | rfl | rfl | rfl | rfl
    ·exact ⟨_,hz⟩
    ·exact ⟨_,hTI⟩
    ·exact ⟨_,hTO⟩
    ·exact let ⟨o,h,_⟩:=h1.ob; ⟨o,h⟩
    ·exact let ⟨o,h,_⟩:=h2.ob; ⟨o,h⟩
   exact Nat.ne_of_lt (vat ho) e
 done:=by
  intro X hP hw hK hc i pins s σ H E I hf st hg
  subst hP hw hK
  obtain ⟨xs,ys,q1,q2,hl⟩:=hg
  obtain ⟨hz,hTI,⟨p,q,hTO⟩,h1,h2⟩:=st
  obtain ⟨its,rv,m1,_⟩:=zfc I q1
  obtain ⟨jts,rw',m2,_⟩:=zfc I q2
  have l1:=rv.length
  have l2:=rw'.length
  exact zvn (I.ok.hd hc) D hz hTI hTO h1 h2 m1 m2 (hl.imp (fun h=>by simp; omega) fun h=>by simp; omega) fun g hk=>⟨rfl,Inv.turnedZ (t':=s.toks) I hf fun d o hd e=>hk d o (fun x=>hd (by simp [x])) (fun x=>hd (by simp [x])) (fun x=>hd (by simp [x])) (fun x=>hd (by simp [x])) e⟩
 self:=fun _ _ _ _ _ st h=>wpAny_pyIter_zip st.1 h
theorem zpk {bs:List Bool} {its:List Value} (r:Vals (bs.map .bl) its) (i:Nat) {v:Value} (h:its[i]?=some v):∃ b,bs[i]?=some b∧v=.bool b:=by
 have hl:=r.length
 rw [vab] at hl
 obtain ⟨hi,_⟩:=List.getElem?_eq_some_iff.mp h
 have hb:bs[i]?=some bs[i]:=List.getElem?_eq_getElem (by omega)
 obtain ⟨u,hu,ru⟩:=r.get (i:=i) (x:=.bl bs[i]) (by rw [List.getElem?_map,hb]; rfl)
 rw [h] at hu; cases hu
 exact ⟨_,hb,ru⟩
theorem zmi (bs:List Bool):((List.range bs.length).all fun i=>(bs[i]?).getD true)=bs.all id:=by
 rw [Bool.eq_iff_iff,List.all_eq_true,List.all_eq_true]
 refine ⟨fun h b hb=>?_,fun h i hi=>?_⟩
 ·obtain ⟨i,hi,rfl⟩:=List.getElem_of_mem hb
  have:=h i (List.mem_range.mpr hi)
  rw [List.getElem?_eq_getElem hi] at this
  exact this
 ·have hi':=List.mem_range.mp hi
  rw [List.getElem?_eq_getElem hi']
  exact h _ (List.getElem_mem hi')
section
variable {X:Cx}
theorem zpl (hc:X.calm=true):CallR X (.builtin "all") (fun xs H Q=>∃ (p:Addr) (bs:List Bool),xs=[.ref p]∧SqL X.K H p (bs.map .bl)∧Q (.bl (bs.all id)) H):=by
 intro pins s σ H xs us Q I r h
 obtain ⟨p,bs,rfl,hq,q⟩:=h
 obtain ⟨u,rfl,ru⟩:=vals1 r
 cases ru
 obtain ⟨its,rv,pl,hz⟩:=I.list hq
 have hL:s.heap.IsList p its.toArray:=pl.isList
 have hlt:p < s.heap.objs.size:=by obtain ⟨_,e,_⟩:=hL; exact vat e
 have hd:X.A.in1.handled=none:=I.ok.hd hc
 have hlen:its.toArray.size=bs.length:=by rw [vai,← rv.length,vab]
 refine call_all_walk (wpAny_pyIter_list hL ⟨s.heap.objs.size,[s.heap.objs.size,p],[s.heap.objs.size],its.toArray.size,_,_,fun i=>(bs[i]?).getD true,rfl,Walks.list (A:=X.A.in1) hd _ p (Nat.ne_of_lt hlt) its.toArray,?_,?_,?_⟩)
 ·exact ⟨⟨_,vaw _ rfl,rfl,rfl⟩,hL.push _⟩
 ·intro i v s' Q' E' hP hQ
  obtain ⟨b,e,rfl⟩:=zpk rv i (by simpa using hP)
  simp only [e,Option.getD_some] at hQ
  exact wpAny_truthy_bool hQ
 ·intro h' tk hk
  rw [hlen,zmi]
  refine ⟨.bl (bs.all id),H,I.kept (t':=tk) fun b o e=>hk b o (fun hm=>?_) (vad _ e),rfl,q⟩
  rw [List.mem_singleton.mp hm] at e
  exact Nat.lt_irrefl _ (vat e)
end
noncomputable def oIs:Option Int→Value→Bool
 | none,.none=>true
 | some i,v=>Value.isInt i v
 | none,_=>false
noncomputable def oHash:Option Int→Int
 | none=>0xFCA86420
 | some i=>hashInt i
theorem za4:∀ {k:Option Int} {v:Value},oIs k v=true→(k=none∧v=.none)∨∃ i t,k=some i∧v=.int i t
 | none,v,h=>by cases v <;> first | exact .inl ⟨rfl,rfl⟩ | cases h
 | some i,v,h=>by
  obtain ⟨t,e⟩:=Value.isInt_shape (k:=i) (v:=v) h
  exact .inr ⟨i,t,rfl,e⟩
theorem zmj {prog:Program} {w:World} {A:Around} {E:Value→Shared→Prop} {s:Shared} {Q:Int→Shared→Prop} (h:Q 0xFCA86420 { s with toks:=s.toks + 1 }):wpAny (model prog w) A (PySem.pyHash .none) Q E s:=by
 have hT:s.TypeIs .none "NoneType" := rfl
 unfold pyHash
 refine vaa (wpAny_cRoomFor_or (.inl rfl) ?_)
 refine vaa (wpAny_specialOf hT F.slot_NoneType_hash.lookup ?_)
 show wpAny _ _ (if (some (Value.builtin "NoneType.__hash__") == some Value.none)=true then _ else _) Q E s
 rw [if_neg (by rw [beq_builtin_none]; exact Bool.false_ne_true)]
 refine vaa (wpAny_specialOf hT F.slot_NoneType_hash.lookup ?_)
 show wpAny _ _ (callSpecialIfBoundUnlessNone? .none "__hash__" _ >>= _) Q E s
 refine vaa (wpAny_callSpecialIfBoundUnlessNone?_slot hT F.slot_NoneType_hash
  (wpAny_call_entry F.slot_NoneType_hash hT F.entry_NoneType_hash
    (show wpAny _ _ (do ret (← mkInt 0xFCA86420)) _ _ s from wpAny_ret_mkInt ?_) (F.args_NoneType_hash_1 _)))
 show wpAny _ _ (if (decide (-(2:Int) ^ 63≤0xFCA86420) && decide ((0xFCA86420:Int) < 2 ^ 63))=true then _ else _) Q E _
 rw [if_pos (by decide)]
 exact vaf h
noncomputable def oKind (prog:Program) (w:World):KeyKind prog w (Option Int) where
 is:=oIs
 hash:=oHash
 inj:=fun v a b ha hb=>by
  rcases za4 ha with ⟨rfl,rfl⟩ | ⟨i,t,rfl,rfl⟩
  ·rcases za4 hb with ⟨rfl,_⟩ | ⟨j,u,rfl,e⟩
   ·rfl
   ·cases e
  ·rcases za4 hb with ⟨rfl,e⟩ | ⟨j,u,rfl,e⟩
   ·cases e
   ·cases e; rfl
 byValue:=fun k v h=>by
  rcases za4 h with ⟨rfl,rfl⟩ | ⟨i,t,rfl,rfl⟩ <;> rfl
 pyHash:=fun hv h=>by
  rcases za4 hv with ⟨rfl,rfl⟩ | ⟨i,t,rfl,rfl⟩
  ·exact zmj h
  ·exact wpAny_pyHash_int h
 eqBool:=fun {A E s a b u v Q} hu hv h=>by
  rcases za4 hu with ⟨rfl,rfl⟩ | ⟨i,t,rfl,rfl⟩
  ·rcases za4 hv with ⟨rfl,rfl⟩ | ⟨j,u,rfl,rfl⟩
   ·exact SeqAt.EqAt.same (A:=A) (s:=s) .none prog w E Q (by simpa using h)
   ·exact SeqAt.EqAt.none_int (A:=A) (s:=s) j u prog w E Q (by simpa using h)
  ·rcases za4 hv with ⟨rfl,rfl⟩ | ⟨j,u,rfl,rfl⟩
   ·exact SeqAt.EqAt.int_none (A:=A) (s:=s) i t prog w E Q (by simpa using h)
   ·refine wpAny_eqBool_int ?_
    by_cases e:i=j
    ·subst e; simpa using h
    ·have e':(i == j)=false:=by simpa using e
     rw [e']; simpa [e] using h
 «strs»:=fun k x t v h=>by
  rcases za4 h with ⟨_,e⟩ | ⟨i,t,_,e⟩ <;> cases e
noncomputable abbrev DK:=List Int × Option Int
section
variable (prog:Program) (w:World)
noncomputable def IsDK (h:Heap) (k:DK) (a:Addr):Prop:=∃ o n b v,h.get? a=some o∧o.cls=.type "tuple" ∧ o.data=.seq #[.ref b,v] n∧IsTupleKey (intKind prog w) h k.1 b∧oIs k.2 v=true
noncomputable def zmk (k:DK):Int:=reduceHash (Builtin.Tuple.tupleHashOf [tupleKeyHash (intKind prog w) k.1,oHash k.2])
variable {prog w}
theorem IsDK.typeIs {s:Shared} {k:DK} {a:Addr} (x:IsDK prog w s.heap k a):s.TypeIs (.ref a) "tuple" := let ⟨o,_,_,_,ho,hc,_⟩:=x; ⟨o,ho,hc⟩
theorem IsDK.inj {h:Heap} {a:Addr} {x y:DK} (hx:IsDK prog w h x a) (hy:IsDK prog w h y a):x=y:=by
 obtain ⟨o,n,b,v,ho,_,hd,hi,hv⟩:=hx
 obtain ⟨o',n',b',v',ho',_,hd',hi',hv'⟩:=hy
 obtain rfl:o=o':=Option.some.inj (ho.symm.trans ho')
 rw [hd] at hd'
 injection hd' with h1 _
 have h2:=congrArg Array.toList h1
 simp only [List.cons.injEq,and_true,Value.ref.injEq] at h2
 obtain ⟨rfl,rfl⟩:=h2
 exact Prod.ext (hi.inj hi') ((oKind prog w).inj _ _ _ hv hv')
theorem IsDK.keeps {h h':Heap} {k:DK} {a d:Addr} {o:Obj} {es ep} (x:IsDK prog w h k a) (ho:h.get? d=some o) (hd:o.data=.dict es ep) (hs:Heap.SameBut d h h'):IsDK prog w h' k a:=by
 obtain ⟨o',n,b,v,ho',hc,hd',hi,hv⟩:=x
 have hne:a≠d:=by
  rintro rfl
  obtain rfl:o'=o:=Option.some.inj (ho'.symm.trans ho)
  rw [hd] at hd'; exact nomatch hd'
 exact ⟨o',n,b,v,(hs.2 a hne).trans ho',hc,hd',hi.keeps ho hd hs,hv⟩
variable {A:Around} {E:Value→Shared→Prop} {s:Shared}
theorem zml {k:DK} {a:Addr} {Q:Int→Shared→Prop} (hu:A.units + 1 < cLine) (hk:IsDK prog w s.heap k a) (h:Q (zmk prog w k) { s with toks:=s.toks + (k.1.length + 3) }) :
 wpAny (model prog w) A (pyHash (.ref a)) Q E s:=by
 have hT:=hk.typeIs
 obtain ⟨o,n,b,v,ho,_,hd,hi,hv⟩:=hk
 unfold pyHash
 refine vaa (wpAny_cRoomFor_or (.inr (by omega)) ?_)
 refine vaa (wpAny_specialOf hT F.slot_tuple_hash.lookup ?_)
 show wpAny _ _ (if (some (Value.builtin "tuple.__hash__") == some Value.none)=true then _ else _) Q E s
 rw [if_neg (by rw [beq_builtin_none]; exact Bool.false_ne_true)]
 refine vaa (wpAny_specialOf hT F.slot_tuple_hash.lookup ?_)
 show wpAny _ _ (callSpecialIfBoundUnlessNone? (.ref a) "__hash__" _ >>= _) Q E s
 refine vaa (wpAny_callSpecialIfBoundUnlessNone?_slot hT F.slot_tuple_hash (wpAny_call_entry F.slot_tuple_hash hT F.entry_tuple_hash ?_ (F.args_tuple_hash_1 _)))
 show wpAny _ _ (Builtin.Tuple.tupleItemsOf (.ref a) >>= _) _ _ s
 refine vaa (wpAny_tupleItemsOf ho hd ?_)
 refine vaa ?_
 rw [← Array.forIn_toList]
 refine wpAny_forIn_list _
  (fun rest (acc:Array Int) s'=>(rest=[.ref b,v]∧acc.toList=[]∧s'=s)∨(rest=[v]∧acc.toList=[tupleKeyHash (intKind prog w) k.1]∧s' = { s with toks:=s.toks + (k.1.length + 1) })∨(rest=[]∧acc.toList=[tupleKeyHash (intKind prog w) k.1,oHash k.2]∧s' = { s with toks:=s.toks + (k.1.length + 1) + 1 }))
  _ ?_ ?_ _ _ (.inl ⟨rfl,rfl,rfl⟩)
 ·rintro x rest acc s' (⟨e,ha,rfl⟩ | ⟨e,ha,rfl⟩ | ⟨e,_⟩)
  ·cases e
   refine vaa (wpAny_pyHash_tuple hu hi ?_)
   first
    | exact vaf (.inr (.inl ⟨rfl,by simp [ha],rfl⟩))
    | exact vaa (vaf (vaf (.inr (.inl ⟨rfl,by simp [ha],rfl⟩))))
  ·cases e
   refine vaa ((oKind prog w).pyHash (k:=k.2) hv ?_)
   first
    | exact vaf (.inr (.inr ⟨rfl,by simp [ha]; rfl,rfl⟩))
    | exact vaa (vaf (vaf (.inr (.inr ⟨rfl,by simp [ha]; rfl,rfl⟩))))
  ·cases e
 ·rintro acc s' (⟨e,_⟩ | ⟨e,_⟩ | ⟨_,ha,rfl⟩)
  ·cases e
  ·cases e
  ·show wpAny _ _ (retInt (Builtin.Tuple.tupleHashOf acc.toList)) _ _ _
   rw [ha]
   refine wpAny_ret_mkInt ?_
   show wpAny _ _ (if (decide (-(2:Int) ^ 63≤Builtin.Tuple.tupleHashOf [tupleKeyHash (intKind prog w) k.1,oHash k.2]) && decide (Builtin.Tuple.tupleHashOf [tupleKeyHash (intKind prog w) k.1,oHash k.2] < 2 ^ 63))=true then _ else _) Q E _
   unfold zmk reduceHash at h
   by_cases hr:(decide (-(2:Int) ^ 63≤Builtin.Tuple.tupleHashOf [tupleKeyHash (intKind prog w) k.1,oHash k.2]) && decide (Builtin.Tuple.tupleHashOf [tupleKeyHash (intKind prog w) k.1,oHash k.2] < 2 ^ 63))=true
   ·rw [if_pos hr]
    rw [if_pos hr] at h
    exact vaf (by simpa [Nat.add_assoc] using h)
   ·rw [if_neg hr]
    rw [if_neg hr] at h
    exact vaa (wpAny_rule (vaf (by simpa [Nat.add_assoc] using h)))
theorem zk0 {x y:DK} {a b:Addr} {P:Fin→Shared→Prop} (hu:A.units < cLine) (hx:IsDK prog w s.heap x a) (hy:IsDK prog w s.heap y b) (h:P (.done (.ret (.bool (decide (x=y))))) s) :
 wpAny (model prog w) A (Builtin.«tuple.__eq__» ⟨[.ref a,.ref b],[]⟩) P E s:=by
 have hTb:=hy.typeIs
 obtain ⟨oa,na,a1,v1,hoa,_,hda,hia,hva⟩:=hx
 obtain ⟨ob,nb,b1,v2,hob,_,hdb,hib,hvb⟩:=hy
 show wpAny _ _ (isInstance (.ref b) (.type "tuple") >>= _) _ _ s
 refine vaa (wpAny_isInstance hTb isSubtype_tuple_tuple ?_)
 simp only [Bool.not_true,vam,if_false]
 refine vaa (wpAny_tupleItemsOf hoa hda ?_)
 refine vaa (wpAny_tupleItemsOf hob hdb ?_)
 refine vaa ?_
 refine wpAny_forIn_list _
  (fun rest r s'=>r.1=none∧s'=s∧((rest=[(Value.ref a1,Value.ref b1),(v1,v2)])∨(rest=[(v1,v2)]∧x.1=y.1)∨(rest=[]∧x=y)))
  _ ?_ ?_ _ _ ⟨rfl,rfl,.inl rfl⟩
 ·rintro ⟨u,v⟩ rest r s' ⟨hr,rfl,e | ⟨e,hxy⟩ | ⟨e,_⟩⟩
  ·cases e
   refine vaa (wpAny_eqBool_tuple hu hia hib ?_)
   by_cases hk:x.1=y.1
   ·rw [decide_eq_true hk]
    simp only [Bool.not_true,vam,if_false]
    exact vaf ⟨rfl,rfl,.inr (.inl ⟨(by first | rfl | trivial),hk⟩)⟩
   ·rw [decide_eq_false hk]
    simp only [Bool.not_false,if_true]
    have hf:decide (x=y)=false:=decide_eq_false fun z=>hk (by rw [z])
    rw [hf] at h
    exact vaa (vaf (vaf (vaf h)))
  ·cases e
   refine vaa ((oKind prog w).eqBool (a:=x.2) (b:=y.2) hva hvb ?_)
   by_cases hk:x.2=y.2
   ·rw [decide_eq_true hk]
    simp only [Bool.not_true,vam,if_false]
    exact vaf ⟨rfl,rfl,.inr (.inr ⟨(by first | rfl | trivial),Prod.ext hxy hk⟩)⟩
   ·rw [decide_eq_false hk]
    simp only [Bool.not_false,if_true]
    have hf:decide (x=y)=false:=decide_eq_false fun z=>hk (by rw [z])
    rw [hf] at h
    exact vaa (vaf (vaf (vaf h)))
  ·cases e
 ·rintro ⟨r1,r2⟩ s' ⟨hr,rfl,e | ⟨e,_⟩ | ⟨_,e⟩⟩
  ·cases e
  ·cases e
  ·simp only at hr
   subst hr
   refine vaf ?_
   rw [decide_eq_true e] at h
   exact h
theorem zmm {x y:DK} {a b:Addr} {Q:Bool→Shared→Prop} (hu:A.units + 1 < cLine) (hx:IsDK prog w s.heap x a) (hy:IsDK prog w s.heap y b) (h:Q (decide (x=y)) s) :
 wpAny (model prog w) A (eqBool (.ref a) (.ref b)) Q E s:=by
 unfold eqBool
 try with_reducible refine wpAny_holding ?_
 show wpAny _ _ (if (Value.ref a == Value.ref b)=true then _ else _) Q E s
 by_cases hab:(Value.ref a == Value.ref b)=true
 ·rw [if_pos hab]
  have e:a=b:=by have:=eq_of_beq hab; injection this
  subst e
  obtain rfl:=hx.inj hy
  exact vaa (wpAny_rule (vaf (by simpa using h)))
 ·rw [if_neg hab]
  exact vaa (wpAny_richCompare_same_room (op:=.Eq) hx.typeIs hy.typeIs F.slot_tuple_eq
   (wpAny_call_entry F.slot_tuple_eq hx.typeIs F.entry_tuple_eq (zk0 hu hx hy ⟨_,rfl,(fun e=>nomatch e),wpAny_truthy_bool h⟩) (F.args_tuple_eq_2 _ _)) (by omega))
theorem ziw {n:Nat} {ks:List Int} {a:Addr} {Q:Bool→Shared→Prop} (hk:IsTupleKey (intKind prog w) s.heap ks a) (h:Q true s):wpAny (model prog w) A (eqIsQuiet (n + 1) (.ref a)) Q E s:=by
 have hT:=hk.typeIs
 obtain ⟨o,items,m,ho,_,hd,hi⟩:=hk
 unfold eqIsQuiet
 refine vaa (wpAny_specialOf hT F.slot_tuple_eq.lookup ?_)
 show wpAny _ _ (isInstance (.ref a) (.type "tuple") >>= _) _ _ s
 refine vaa (wpAny_isInstance hT isSubtype_tuple_tuple ?_)
 simp only [Bool.not_true,vam,if_false]
 refine vaa (wpAny_seqItems ho hd ?_)
 refine vaa ?_
 show wpAny _ _ (forIn items _ _) _ _ s
 rw [← Array.forIn_toList]
 refine wpAny_forIn_list _ (fun rest r s'=>r.1=none∧s'=s∧∀ v∈rest,carriedByValue v=true) _ ?_ ?_ _ _ ⟨rfl,rfl,hi.byValue⟩
 ·rintro v rest r s' ⟨hr,rfl,hall⟩
  rw [eqIsQuiet_byValue _ (hall v vap)]
  refine vaa (vaf ?_)
  simp only [Bool.not_true,vam,if_false]
  exact vaf ⟨rfl,rfl,fun u hu'=>hall u (vaj _ hu')⟩
 ·rintro ⟨r1,r2⟩ s' ⟨hr,rfl,_⟩
  simp only at hr
  subst hr
  exact vaf h
theorem zpm {k:DK} {a:Addr} {Q:Bool→Shared→Prop} (hk:IsDK prog w s.heap k a) (h:Q true s):wpAny (model prog w) A (eqIsQuiet 8 (.ref a)) Q E s:=by
 have hT:=hk.typeIs
 obtain ⟨o,n,b,v,ho,_,hd,hi,hv⟩:=hk
 unfold eqIsQuiet
 refine vaa (wpAny_specialOf hT F.slot_tuple_eq.lookup ?_)
 show wpAny _ _ (isInstance (.ref a) (.type "tuple") >>= _) _ _ s
 refine vaa (wpAny_isInstance hT isSubtype_tuple_tuple ?_)
 simp only [Bool.not_true,vam,if_false]
 refine vaa (wpAny_seqItems ho hd ?_)
 refine vaa ?_
 show wpAny _ _ (forIn #[.ref b,v] _ _) _ _ s
 rw [← Array.forIn_toList]
 refine wpAny_forIn_list _ (fun rest r s'=>r.1=none∧s'=s∧(rest=[.ref b,v]∨rest=[v]∨rest=[])) _ ?_ ?_ _ _ ⟨rfl,rfl,.inl rfl⟩
 ·rintro u rest r s' ⟨hr,rfl,e | e | e⟩
  ·cases e
   refine vaa (ziw hi ?_)
   simp only [Bool.not_true,vam,if_false]
   exact vaf ⟨rfl,rfl,.inr (.inl (by first | rfl | trivial))⟩
  ·cases e
   rw [eqIsQuiet_byValue _ ((oKind prog w).byValue _ _ hv)]
   refine vaa (vaf ?_)
   simp only [Bool.not_true,vam,if_false]
   exact vaf ⟨rfl,rfl,.inr (.inr (by first | rfl | trivial))⟩
  ·cases e
 ·rintro ⟨r1,r2⟩ s' ⟨hr,rfl,_⟩
  simp only at hr
  subst hr
  exact vaf h
end
noncomputable def dKind (prog:Program) (w:World):HeapKind prog w DK where
 is:=IsDK prog w
 hash:=zmk prog w
 draws:=fun k=>k.1.length + 3
 room:=fun A=>A.units + 1 < cLine
 inj:=fun hx hy=>hx.inj hy
 keeps:=fun x ho hd hs=>x.keeps ho hd hs
 pyHash:=fun hu hk h=>zml hu hk h
 eqBool:=fun hu hx hy h=>zmm hu hx hy h
 quiet:=fun hk h=>zpm hk h
noncomputable def dkh (k:DK):Int:=reduceHash (Builtin.Tuple.tupleHashOf [reduceHash (Builtin.Tuple.tupleHashOf (k.1.map hashInt)),oHash k.2])
noncomputable def ovV:Option Int→V
 | none=>.non
 | some i=>.int i
noncomputable abbrev DX:=List (DK × Addr × V)
noncomputable abbrev dtP (xs:DX) (us:List (DK × Addr × Value)):Prop:=Paired (fun (p:DK × Addr × V) (q:DK × Addr × Value)=>p.1=q.1∧p.2.1=q.2.1∧RelV p.2.2 q.2.2) xs us
noncomputable def dtF (xs:DX) (a:Addr) (h:Heap):Prop:=xs.length≤sizeLine∧(a == sysModules)=false∧(xs.map (·.1)).Nodup∧∃ us,dtP xs us∧∃ o es ep,h.get? a=some o∧o.ExactDict∧o.data=.dict es ep∧es.toList=us.map fun x=>⟨dkh x.1,.ref x.2.1,x.2.2⟩
noncomputable def dtH (xs:DX) (a:Addr):HO:=.ext (dtF xs a)
theorem zqx {P:Program} {w:World} {H:Hp} {h:Heap} {a:Addr} {xs:DX} (e:dtF xs a h):ObjOk P w H h a (dtH xs a):=by
 refine ⟨e,?_,?_⟩
 ·obtain ⟨_,_,_,us,_,o,_,_,h1,_⟩:=e
  exact ⟨o,h1⟩
 ·rintro h1 h2 ⟨a1,a2,a3,us,a4,o,es,ep,b1,b2⟩ k
  exact ⟨a1,a2,a3,us,a4,o,es,ep,k o b1,b2⟩
theorem zvo {P:Program} {w:World} {H:Hp} {h:Heap} {a:Addr} {xs:DX} (ok:HOk P w H h) (e:H a=some (dtH xs a)):dtF xs a h:=(ok a _ e).1
noncomputable def KeyAt (K:PySem.W.Frag) (H:Hp) (k:DK) (b:Addr):Prop:=∃ c,SqT K H b [.ref c,ovV k.2]∧SqT K H c (k.1.map .int)
noncomputable def DT (K:PySem.W.Frag) (H:Hp) (a:Addr) (xs:DX):Prop:=(H a=some (dtH xs a)∧∀ p∈xs,KeyAt K H p.1 p.2.1)∨(xs=[]∧Rd H a (.dK []))
noncomputable def findX (xs:DX) (k:DK):Option (Addr × V):=(xs.find? fun x=>decide (x.1=k)).map (·.2)
noncomputable def putX (xs:DX) (k:DK) (b:Addr) (v:V):DX:=if (findX xs k).isSome then xs.map (fun x=>if x.1=k then (x.1,x.2.1,v) else x) else xs++[(k,b,v)]
theorem zd3 {xs:DX} {us:List (DK × Addr × Value)} (r:dtP xs us) (k:DK):(findX xs k=none∧atKey us k=none)∨∃ p q,findX xs k=some p∧atKey us k=some q∧RelV p.2 q.2:=by
 induction r with
 | nil=>exact .inl ⟨rfl,rfl⟩
 | @cons p q ps qs h t ih=>
  obtain ⟨h1,h2,h3⟩:=h
  by_cases e:p.1=k
  ·refine .inr ⟨p.2,q.2,?_,?_,h3⟩
   ·simp [findX,List.find?_cons,e]
   ·simp [atKey,List.find?_cons,h1.symm.trans e]
  ·have e':¬ q.1=k:=fun z=>e (h1.trans z)
   have b1:findX (p :: ps) k=findX ps k:=by simp [findX,List.find?_cons,e]
   have b2:atKey (q :: qs) k=atKey qs k:=by simp [atKey,List.find?_cons,e']
   rw [b1,b2]; exact ih
theorem zsu {xs:DX} {us:List (DK × Addr × Value)} (r:dtP xs us) (k:DK) (b:Addr) {v:V} {u:Value} (rv:RelV v u):dtP (putX xs k b v) (storedH us k b u):=by
 unfold putX storedH
 have e:(findX xs k).isSome=(atKey us k).isSome:=by
  rcases zd3 r k with ⟨h1,h2⟩ | ⟨p,q,h1,h2,_⟩ <;> (rw [h1,h2]; rfl)
 rw [e]
 by_cases z:(atKey us k).isSome=true
 ·rw [if_pos z,if_pos z]
  clear e z
  induction r with
  | nil=>exact .nil
  | @cons p q ps qs h t ih=>
   rw [vao,vao]
   refine .cons ?_ ih
   obtain ⟨h1,h2,h3⟩:=h
   unfold putAt
   by_cases e:p.1=k
   ·rw [if_pos e,if_pos (h1.symm.trans e)]; exact ⟨h1,h2,rv⟩
   ·rw [if_neg e,if_neg (fun z=>e (h1.trans z))]; exact ⟨h1,h2,h3⟩
 ·rw [if_neg z,if_neg z]
  exact Paired.snoc r ⟨rfl,rfl,rv⟩
theorem zsv (xs:DX) (k:DK) (b:Addr) (v:V):(putX xs k b v).length≤xs.length + 1:=by
 unfold putX
 split
 ·rw [vab]; omega
 ·rw [vag]; exact vae _
section
variable {X:Cx} {pins:List (Addr × Obj)} {σ:St} {H:Hp} {s:Shared} {a b:Addr} {k:DK} {xs:DX} {v:V} {r:Value} {A:Around} {E:Value→Shared→Prop}
theorem zjv:∀ {ls:List Int} {us:List Value},Vals (ls.map .int) us→ItemsAre (intKind X.prog X.w) ls us
 | [],_,.nil=>.nil
 | x :: ls,_,.cons h t=>by
  obtain ⟨t',rfl⟩:=h
  exact .cons (by show Value.isInt x (.int x t')=true; simp [Value.isInt]) (zjv t)
theorem KeyAt.is (I:Inv X pins σ H s) (h:KeyAt X.K H k b):IsDK X.prog X.w s.heap k b:=by
 obtain ⟨c,h1,h2⟩:=h
 obtain ⟨its,r1,⟨o,e1,e2,n,e3⟩,_⟩:=I.tuple h1
 obtain ⟨its2,r2,⟨o2,f1,f2,n2,f3⟩,_⟩:=I.tuple h2
 cases r1 with
 | @cons _ u0 _ us0 q1 q2=>
  cases q2 with
  | @cons _ u1 _ us1 q3 q4=>
   cases q4
   have q1:u0=.ref c:=q1
   subst q1
   refine ⟨o,n,c,u1,e1,e2,e3,⟨o2,its2.toArray,n2,f1,f2,f3,zjv r2⟩,?_⟩
   cases z:k.2 with
   | none=>rw [z] at q3; cases q3; rfl
   | some i=>rw [z] at q3; obtain ⟨t,rfl⟩:=q3; show Value.isInt i (.int i t)=true; simp [Value.isInt]
theorem DT.dict (I:Inv X pins σ H s) (h:DT X.K H a xs):xs.length≤sizeLine∧(a == sysModules)=false∧∃ us,dtP xs us∧s.heap.DictOfH (dKind X.prog X.w) a us:=by
 rcases h with ⟨e,hk⟩ | ⟨rfl,e⟩
 ·obtain ⟨a1,a2,a3,us,a4,o,es,ep,b1,b2,b3,b4⟩:=zvo I.hok e
  refine ⟨a1,a2,us,a4,o,es,ep,b1,b2,b3,b4,?_,?_⟩
  ·intro x hx
   have:∃ p∈xs,p.1=x.1∧p.2.1=x.2.1:=by
    clear a1 a3 b4 hk e
    induction a4 with
    | nil=>cases hx
    | @cons p q ps qs h t ih=>
     rcases List.mem_cons.mp hx with rfl | hx
     ·exact ⟨p,vap,h.1,h.2.1⟩
     ·obtain ⟨p',h1,h2⟩:=ih hx
      exact ⟨p',vaj _ h1,h2⟩
   obtain ⟨p,hp,h1,h2⟩:=this
   have:=KeyAt.is I (hk p hp)
   rw [h1,h2] at this
   exact this
  ·have:us.map (·.1)=xs.map (·.1):=by
    clear a1 a3 b4 hk e
    induction a4 with
    | nil=>rfl
    | @cons p q ps qs h t ih=>rw [vao,vao,ih,h.1]
   rw [this]; exact a3
 ·obtain ⟨z,y,vs,r,o,es,ep,b1,b2,b3,b4,b5,b6⟩:=dk_rd I.hok e
  cases r
  refine ⟨Nat.zero_le _,y,[],.nil,o,es,ep,b1,b2,b3,?_,(fun x hx=>nomatch hx),List.nodup_nil⟩
  generalize es.toList=l at b5 ⊢
  cases b5
  rfl
theorem zvp {Q:Value→Shared→Prop} {p:Addr × V} (hu:A.units + 2 < cLine) (I:Inv X pins σ H s) (d:DT X.K H a xs) (kk:KeyAt X.K H k b) (g:findX xs k=some p) (h:∀ w' s',Inv X pins σ H s'→RelV p.2 w'→Q w' s') :
 wpAny (model X.prog X.w) A (getItem (.ref a) (.ref b)) Q E s:=by
 obtain ⟨_,_,us,r,dd⟩:=d.dict I
 rcases zd3 r k with ⟨h1,_⟩ | ⟨p',q,h1,h2,h3⟩
 ·rw [g] at h1; cases h1
 ·rw [g] at h1; cases h1
  exact wpAny_getItem_heap (knd:=dKind X.prog X.w) (by show A.in1.units + 1 < cLine; exact hu) (kk.is I) dd h2 (h _ _ (I.tok _) h3)
theorem dt_in {Q:Value→Shared→Prop} (hu:A.units + 2 < cLine) (I:Inv X pins σ H s) (d:DT X.K H a xs) (kk:KeyAt X.K H k b) (h:∀ s',Inv X pins σ H s'→Q (.bool (findX xs k).isSome) s') :
 wpAny (model X.prog X.w) A (compareOp .In (.ref b) (.ref a)) Q E s:=by
 obtain ⟨_,y,us,r,dd⟩:=d.dict I
 have e:(findX xs k).isSome=(atKey us k).isSome:=by
  rcases zd3 r k with ⟨h1,h2⟩ | ⟨p,q,h1,h2,_⟩ <;> (rw [h1,h2]; rfl)
 refine wpAny_in_heap (knd:=dKind X.prog X.w) (by show A.in1.units + 1 < cLine; exact hu) (kk.is I) y dd ?_
 rw [← e]
 exact h _ (I.tok _)
theorem zpn {Q:Value→Shared→Prop} (hu:A.units + 2 < cLine) (I:Inv X pins σ H s) (d:DT X.K H a xs) (kk:KeyAt X.K H k b) (h:∀ s',Inv X pins σ H s'→Q (.bool (!(findX xs k).isSome)) s') :
 wpAny (model X.prog X.w) A (compareOp .NotIn (.ref b) (.ref a)) Q E s:=by
 obtain ⟨_,y,us,r,dd⟩:=d.dict I
 have e:(findX xs k).isSome=(atKey us k).isSome:=by
  rcases zd3 r k with ⟨h1,h2⟩ | ⟨p,q,h1,h2,_⟩ <;> (rw [h1,h2]; rfl)
 refine wpAny_notIn_heap (knd:=dKind X.prog X.w) (by show A.in1.units + 1 < cLine; exact hu) (kk.is I) y dd ?_
 rw [← e]
 exact h _ (I.tok _)
theorem zvq {Q:Unit→Shared→Prop} (hu:A.units + 2 < cLine) (I:Inv X pins σ H s) (d:DT X.K H a xs) (mu:Mut (H a)) (kk:KeyAt X.K H k b) (hz:xs.length < sizeLine) (rv:RelV v r) (h:∀ s',Inv X pins σ (upd H a (dtH (putX xs k b v) a)) s'→Q () s') :
 wpAny (model X.prog X.w) A (setItem (.ref a) (.ref b) r) Q E s:=by
 obtain ⟨_,y,us,rl,dd⟩:=d.dict I
 refine wpAny_setItem_heap (knd:=dKind X.prog X.w) (hsz:=by rw [← Paired.length rl]; omega) (by show A.in1.units + 1 < cLine; exact hu) (kk.is I) dd fun h' dd' hs=>h _ ?_
 obtain ⟨q,es,ep,hq,h2,h3,h4,_,h5⟩:=dd'
 have pr:=zsu rl k b rv
 refine zit I mu hs ⟨q,hq⟩ (zqx ⟨?_,y,?_,_,pr,q,es,ep,hq,h2,h3,h4⟩)
 ·have:=zsv xs k b v; omega
 ·have:(putX xs k b v).map (·.1)=(storedH us k b r).map (·.1):=by
   generalize putX xs k b v=ys at pr
   generalize storedH us k b r=zs at pr
   clear h4 h5
   induction pr with
   | nil=>rfl
   | @cons p q ps qs h t ih=>rw [vao,vao,ih,h.1]
  rw [this]; exact h5
end
end L2
namespace L2
open PySem PySem.Spec PyProof.Rows PySem.W
open AutoSeq1 (wpAny_loadPart')
noncomputable def DE (h:Heap) (d:Addr) (es:Array DictEntry) (ep:Nat):Prop:=∃ o,h.get? d=some o∧o.ExactDict∧o.data=.dict es ep
theorem DE.ty {s:Shared} {d:Addr} {es:Array DictEntry} {ep:Nat} (x:DE s.heap d es ep):s.TypeIs (.ref d) "dict" := let ⟨o,a,b,_⟩:=x; ⟨o,a,b.1⟩
theorem DE.at_ {h h':Heap} {d:Addr} {es:Array DictEntry} {ep:Nat} (x:DE h d es ep) (k:∀ o,h.get? d=some o→h'.get? d=some o):DE h' d es ep:=let ⟨o,a,b⟩:=x; ⟨o,k o a,b⟩
theorem DE.lt {h:Heap} {d:Addr} {es:Array DictEntry} {ep:Nat} (x:DE h d es ep):d < h.objs.size:=let ⟨_,a,_⟩:=x; vat a
section
variable {prog:Program} {w:World} {A:Around} {E:Value→Shared→Prop} {s:Shared} {d it:Addr} {es:Array DictEntry} {ep i:Nat}
theorem zvr {Q:Value→Shared→Prop} (hd:(d == sysModules)=false) (hm:DE s.heap d es ep) (hf:(es.size:Int) < 2 ^ 63) (h:∀ t tk,Q (.int es.size t) { s with toks:=tk }) :
 wpAny (model prog w) A (call (.builtin "len") [.ref d]) Q E s:=by
 refine Calls.call_function_entry kind_len plain_len entry_len (args_len1 _) ?_
 unfold Builtin.«len»
 refine vaa (m:=oneArg "len" _) (vaf ?_)
 have M:MeetsIn prog w (Builtin.«dict.__len__» ⟨[.ref d],[]⟩) (fun _ R s=>DE s.heap d es ep∧R (.ok (.ret (.int es.size s.toks))) { s with toks:=s.toks + 1 }):=
  .of_wp fun A R s hq0=>by
   obtain ⟨⟨o,a,b,c⟩,h⟩:=hq0
   show wpAny _ _ (dictSize d >>= _) _ _ s
   unfold dictSize
   exact vaa (vaa (wpAny_dictEntries a c (vaf (vaa (wpAny_pendingCount_other hd (wpAny_ret_mkInt h))))))
 refine vaa (m:=callSpecial? (.ref d) (Str.ofString "__len__")) (wpAny_callSpecial?_slot (name:=Str.ofString "__len__") hm.ty F.slot_dict_len
  (call_meetsIn F.slot_dict_len hm.ty F.entry_dict_len (F.args_dict_len_1 _) M ⟨hm,?_⟩))
 refine vaa (wpAny_holding (vaf (vaa (wpAny_letGo ?_))))
 show wpAny _ _ (if ((es.size:Nat):Int) < 0 then _ else _) _ _ _
 rw [if_neg (by omega)]
 show wpAny _ _ (if ((es.size:Nat):Int)≥2 ^ 63 then _ else _) _ _ _
 rw [if_neg (by omega)]
 exact vaa (wpAny_mkInt (vaf ⟨_,rfl,h _ _⟩))
theorem zsw {Q:Value→Shared→Prop} (hd:(d == sysModules)=false) (hm:DE s.heap d es ep)
 (hQ:Q (.ref s.heap.objs.size) { s with heap:=s.heap.push { cls:=.type "dict_keyiterator",data:=.fields #[.ref d,.int 0 0,.int es.size 0,.int ep 0] } }) :
 wpAny (model prog w) A (pyIter (.ref d)) Q E s:=by
 have hT:=hm.ty
 obtain ⟨o,a,b,c⟩:=hm
 refine wpAny_pyIter_slot hT F.slot_dict_iter (wpAny_call_entry F.slot_dict_iter hT F.entry_dict_iter ?_ (F.args_dict_iter_1 _))
 unfold Builtin.«dict.__iter__» Builtin.Dict.dictSlotNone
 refine vaa (vaa (wpAny_notOrdered_dict hT (vaf ?_)))
 show wpAny _ _ (Builtin.Dict.showsAll d >>= _) _ _ s
 unfold Builtin.Dict.showsAll
 rw [if_neg (by rw [hd]; exact Bool.false_ne_true)]
 refine vaa (vaf (vaa (wpAny_dictEntries a c (vaa (wpAny_dictEpoch a c (vaa (wpAny_newObj_type (vaf
  ⟨_,rfl, "dict_keyiterator",_,⟨_,vaw _ rfl,rfl⟩,F.slot_dict_keyiterator_next.lookup,?_⟩))))))))
 simpa [rawInt] using hQ
theorem zmn {Q:Option Value→Shared→Prop} (hh:A.handled=none) (hit:s.heap.IsKeyIter it d i es.size ep) (hm:DE s.heap d es ep)
 (hI:∀ e h',es[i]?=some e→h'.IsKeyIter it d (i + 1) es.size ep→Heap.SameBut it s.heap h'→Q (some e.key) { s with heap:=h' })
 (hE:es[i]?=none→∀ h',Heap.ExtBut it s.heap h'→Q none { s with heap:=h' }):wpAny (model prog w) A (pyNext (.ref it)) Q E s:=by
 have hT:=hit.typeIs
 obtain ⟨o,ho,hc,hd⟩:=id hit
 obtain ⟨od,hod,_,hdd⟩:=hm
 unfold pyNext
 refine vaa (wpAny_attempt (wpAny_callSpecial?_slot (name:=Str.ofString "__next__") hT F.slot_dict_keyiterator_next
  (wpAny_call_entry F.slot_dict_keyiterator_next hT F.entry_dict_keyiterator_next ?_ (F.args_dict_keyiterator_next_1 _))))
 refine vaa (vaf (vaa (vaa ?_)))
 first | refine vaa (wpAny_typeNameOfWhole_keyiter hT (vaf ?_)) | refine vaa (wpAny_typeNameOf_keyiter hT (vaf ?_))
 refine vaa (wpAny_fieldsOf ho hd ?_)
 have hown:Builtin.Dict_items.ownsTuple "dict_keyiterator" = false:=by decide
 simp only [hown,vam,if_false]
 show wpAny _ _ (if (Value.ref d == Value.none)=true then _ else _) _ _ s
 rw [if_neg (show ¬ ((Value.ref d == Value.none)=true) from Bool.false_ne_true)]
 refine vaa (vaf (vaa (wpAny_dictEntries hod hdd ?_)))
 rw [if_neg (by simp)]
 refine vaa (vaf (vaa (wpAny_dictEpoch hod hdd ?_)))
 rw [if_neg (by simp)]
 refine vaf ?_
 simp only [show ¬ ((i:Int) < 0) from by omega,if_false,Int.toNat_natCast]
 cases hx:es[i]? with
 | some e=>
  refine vaa ?_
  first | refine vaa (wpAny_typeNameOfWhole_keyiter hT (vaf ?_)) | refine vaa (wpAny_typeNameOf_keyiter hT (vaf ?_))
  refine vaa (wpAny_isOneOf_keyiter hT ?_)
  show wpAny _ _ (setField (.ref it) 1 (rawInt ((i:Int) + 1)) >>= _) _ _ s
  refine vaa (wpAny_setField ho hd (by simp) ?_)
  have hit':(s.heap.update it (Obj.mapFields (·.setIfInBounds 1 (rawInt ((i:Int) + 1))))).IsKeyIter it d (i + 1) es.size ep:=
   ⟨_,Heap.get?_update_self _ ho (Obj.isFreed_of_fields (Obj.data_mapFields hd _)),(Obj.cls_mapFields ..).trans hc,by rw [Obj.data_mapFields hd]; simp [rawInt]⟩
  refine vaa (wpAny_holding (vaa (wpAny_isOneOf_keyiter (s:={ s with heap:=s.heap.update it (Obj.mapFields (·.setIfInBounds 1 (rawInt ((i:Int) + 1)))) }) hit'.typeIs ?_)))
  show wpAny _ _ (pure e.key) _ _ _
  exact vaf (vaf ⟨_,rfl,vaf (hI _ _ hx hit' (Heap.SameBut.update ..))⟩)
 | none=>
  refine vaa ?_
  first | refine vaa (wpAny_typeNameOfWhole_keyiter hT (vaf ?_)) | refine vaa (wpAny_typeNameOf_keyiter hT (vaf ?_))
  show wpAny _ _ (setField (.ref it) 0 .none >>= _) _ _ s
  refine vaa (wpAny_setField ho hd (by simp) ?_)
  show wpAny _ _ (newExc (.type "StopIteration") [] >>= _) _ _ _
  refine vaa ?_
  simp only [newExc,newTuple]
  refine vaa (wpAny_newObj_type ?_ (by size_fits))
  refine vaa (m:=firstArgMember _ _) (wpAny_of_eq (a:=Value.none) (by first | rfl | (simp only [firstArgMember]; rfl)) ?_)
  refine wpAny_newObj_type ?_ (by size_fits)
  simp only [raiseNew]
  refine vaa (wpAny_handled ?_)
  rw [show A.in1.handled=none from hh]
  refine vaa (vaf (wpAny_throw ?_))
  refine vaa (wpAny_isInstance (T := "StopIteration") (b:=true) ⟨_,vaw _ rfl,rfl⟩ isSubtype_stop ?_)
  exact vaf (hE hx _ (((Heap.SameBut.update ..).extBut.push _).push _))
theorem zsx (hh:A.handled=none) (hne:d≠it):Walks prog w A it [it,d] [it] es.size (fun i v=>∃ e,es[i]?=some e∧v=e.key) (fun i h=>h.IsKeyIter it d i es.size ep∧DE h d es ep) where
 sub:=fun b hb=>by simp at hb; simp [hb]
 frame:=fun _ _ _ st k=>⟨st.1.at fun o e=>k it (by simp) o e,st.2.at_ fun o e=>k d (by simp) o e⟩
 item:=fun i s Q E hi st hQ=>by
  refine zmn hh st.1 st.2 (fun e h' hx hit' hs=>?_) fun hx=>?_
  ·exact hQ _ h' s.toks ⟨e,hx,rfl⟩ ⟨hit',st.2.at_ fun o q=>hs.extBut d o hne q⟩ fun b o hb q=>hs.extBut b o (fun h=>hb (by simp [h])) q
  ·simp at hx; omega
 done:=fun s Q E st hQ=>by
  refine zmn hh st.1 st.2 (fun e h' hx hit' hs=>?_) fun hx h' he=>?_
  ·simp at hx
  ·exact hQ h' s.toks fun b o hb q=>he b o (fun h=>hb (by simp [h])) q
 self:=fun _ _ _ _ st hQ=>wpAny_pyIter_keyiter st.1 hQ
theorem zvs (hd:(d == sysModules)=false):KdlSrc prog w "dict" d d es.size (fun i v=>∃ e,es[i]?=some e∧v=e.key) (fun h=>DE h d es ep) where
 type:=fun _ hm=>hm.ty
 there:=fun _ hm=>⟨hm.lt,hm.lt⟩
 keep:=fun _ _ hm hk=>hm.at_ fun o e=>hk d (.inl rfl) o e
 notList:=by decide
 notTuple:=by decide
 hint:=fun _ _ _ _ hm hq=>kdl_hint_dict hm.ty hq
 iter:=fun _ _ hh hm=>⟨_,_,(fun _ _ hq=>zsw hd hm hq),zsx hh (Nat.ne_of_lt hm.lt),⟨⟨_,vaw _ rfl,rfl,rfl⟩,hm.at_ fun o e=>vad _ e⟩⟩
end
theorem zvt {d:Addr} {es:Array DictEntry} {ep:Nat} (hd:(d == sysModules)=false) (hz:es.size≤sizeLine) :
 Meets (Builtin.«tuple.__new__» ⟨[.type "tuple",.ref d],[]⟩)
  (fun A R s=>A.handled=none∧DE s.heap d es ep∧∀ (h':Heap) (tk:Nat),(∀ b o',s.heap.get? b=some o'→h'.get? b=some o')→R (.ok (.ret (.ref h'.objs.size))) { s with heap:=h'.push { cls:=.type "tuple",data:=.seq (es.map (·.key)) },toks:=tk }):=
 .of_wp fun prog w A R s h=>by
  obtain ⟨hp,g,dd,tk,os⟩:=s; obtain ⟨hh,ht,h⟩:=h
  have hsub:=sub_tuple_self
  have hinit:=init_tuple_lookup
  have hmh:=madeHere_tuple
  obtain ⟨o,e1,e2,e3⟩:=id ht
  have hT:Shared.TypeIs ⟨hp,g,dd,tk,os⟩ (.ref d) "dict" := ht.ty
  wp_walk using wpAny_loadPart' e1,wpAny_typeOf hT,kdu_collect (A:=A.in1) (zvs (ep:=ep) (es:=es) hd) hh ht hz
  intro h' tk' acc hk hacc
  have e:acc=es.map (·.key):=by
   apply Array.ext_getElem?
   intro j
   rw [Array.getElem?_map]
   cases q:acc[j]? with
   | none=>
    have:es.size≤j:=by rw [← hacc.1]; simpa using q
    rw [Array.getElem?_eq_none this]; rfl
   | some v=>
    obtain ⟨x,h1,h2⟩:=hacc.2 j v q
    rw [h1,h2]; rfl
  show wpAny _ _ (Builtin.Tuple.tupleExact acc.toList.toArray >>= fun v=>ret v) _ _ _
  unfold Builtin.Tuple.tupleExact
  refine vaa (wpAny_newObj_type ?_ (by show acc.toList.toArray.size≤sizeLine; simpa [hacc.1] using hz))
  refine vaf ⟨_,rfl,?_⟩
  have e':acc.toList.toArray=acc:=by simp
  rw [e',e]
  exact h h' tk' hk
section
variable {prog:Program} {w:World} {A:Around} {E:Value→Shared→Prop} {s:Shared} {d:Addr} {es:Array DictEntry} {ep:Nat}
theorem zpo {Q:Value→Shared→Prop} (hh:A.handled=none) (hd:(d == sysModules)=false) (hm:DE s.heap d es ep) (hz:es.size≤sizeLine)
 (h:∀ (h':Heap) (tk:Nat),(∀ b o',s.heap.get? b=some o'→h'.get? b=some o')→Q (.ref h'.objs.size) { s with heap:=h'.push { cls:=.type "tuple",data:=.seq (es.map (·.key)) },toks:=tk }) :
 wpAny (model prog w) A (call (.type "tuple") [.ref d]) Q E s:=
 callType_new F.called_tuple (by decide) (F.typeCall_tuple_1 _) (F.newCall_tuple_1 _) (fun obj=>F.args_object_init_2 obj _) F.entry_tuple_new
  (zvt hd hz) ⟨hh,hm,fun h' tk hk=>⟨⟨_,vaw _ rfl,rfl⟩,h h' tk hk⟩⟩
end
end L2
namespace L2
open PySem PySem.Spec PyProof.Rows PySem.W
section
variable {X:Cx} {pins:List (Addr × Obj)} {σ:St} {H:Hp} {s:Shared} {a b:Addr} {k:DK} {xs:DX}
theorem DT.de (I:Inv X pins σ H s) (h:DT X.K H a xs):∃ (es:Array DictEntry) (ep:Nat),DE s.heap a es ep∧es.size=xs.length∧∀ (i:Nat) (p:DK × Addr × V),xs[i]?=some p→∃ e:DictEntry,es[i]?=some e∧e.key=Value.ref p.2.1:=by
 obtain ⟨g1,_,us,r,o,es,ep,b1,b2,b3,b4,g2⟩:=h.dict I
 clear h g1 g2
 refine ⟨es,ep,⟨o,b1,b2,b3⟩,?_,fun i p hp=>?_⟩
 ·rw [← Array.length_toList,b4,vab,Paired.length r]
 ·have:∃ q,us[i]?=some q∧p.2.1=q.2.1:=by
   clear b4
   revert i
   induction r with
   | nil=>intro i hp; simp at hp
   | @cons p0 q0 ps qs h t ih=>
    intro i hp
    cases i with
    | zero=>simp at hp; subst hp; exact ⟨q0,rfl,h.2.1⟩
    | succ i=>exact ih i (by simpa using hp)
  obtain ⟨q,h1,h2⟩:=this
  refine ⟨⟨dkh q.1,.ref q.2.1,q.2.2⟩,?_,by rw [h2]⟩
  rw [← Array.getElem?_toList,b4,List.getElem?_map,h1]; rfl
noncomputable def rInX (K:PySem.W.Frag) (neg:Bool):R2:=fun x y H Q=>∃ a b xs k,y=.ref a∧x=.ref b∧DT K H a xs∧KeyAt K H k b∧Q (.bl (if neg then !(findX xs k).isSome else (findX xs k).isSome)) H
theorem zvu (hu:X.A.units + 2 < cLine):OpR X (compareOp .In) (rInX X.K false):=by
 intro pins s σ H x y v u Q I rx ry h
 obtain ⟨a,b,xs,k,rfl,rfl,d,kk,q⟩:=h
 cases rx; cases ry
 exact dt_in hu I d kk fun s' I'=>⟨.bl _,H,I',rfl,q⟩
theorem zmo (hu:X.A.units + 2 < cLine):OpR X (compareOp .NotIn) (rInX X.K true):=by
 intro pins s σ H x y v u Q I rx ry h
 obtain ⟨a,b,xs,k,rfl,rfl,d,kk,q⟩:=h
 cases rx; cases ry
 exact zpn hu I d kk fun s' I'=>⟨.bl _,H,I',rfl,q⟩
theorem DT.typeIs (I:Inv X pins σ H s) (h:DT X.K H a xs):s.TypeIs (.ref a) "dict" := let ⟨_,_,d,_⟩:=h.de I; d.ty
noncomputable def rIxX (K:PySem.W.Frag):R2:=fun x y H Q=>∃ a b xs k p,x=.ref a∧y=.ref b∧DT K H a xs∧KeyAt K H k b∧findX xs k=some p∧Q p.2 H
theorem ix_dt (hu:X.A.units + 2 < cLine):IxR X (rIxX X.K):=by
 intro value slice pins s σ H x y v u Q I rx ry q hs
 obtain ⟨a,b,xs,k,p,rfl,rfl,d,kk,g,q⟩:=q
 cases rx; cases ry
 exact tail_any (d.typeIs I) PySem.F.slot_dict_getitem.lookup (zvp hu I d kk g fun w' s3 I3 rw'=>⟨p.2,H,I3,rw',q⟩) hs
noncomputable def rSetX (K:PySem.W.Frag):V→V→V→Hp→(Hp→Prop)→Prop:=fun o i v H Q=>∃ a b xs k,o=.ref a∧i=.ref b∧DT K H a xs∧Mut (H a)∧KeyAt K H k b∧xs.length < sizeLine∧Q (upd H a (dtH (putX xs k b v) a))
theorem zvv (hu:X.A.units + 2 < cLine):PSet X (rSetX X.K):=by
 intro pins s σ H o i v ov iv u Q I ro ri rv h
 obtain ⟨a,b,xs,k,rfl,rfl,d,mu,kk,hz,q⟩:=h
 cases ro; cases ri
 exact zvq hu I d mu kk hz rv fun s' I'=>⟨_,I',q⟩
theorem PSet.or {t t':V→V→V→Hp→(Hp→Prop)→Prop} (h:PSet X t) (h':PSet X t'):PSet X (fun o i v H Q=>t o i v H Q∨t' o i v H Q):=by
 intro pins s σ H o i v ov iv u Q I ro ri rv q
 rcases q with q | q
 ·exact h pins s σ H o i v ov iv u Q I ro ri rv q
 ·exact h' pins s σ H o i v ov iv u Q I ro ri rv q
theorem zmp:CallR X (.builtin "len") (fun ys H Q=>∃ a xs,ys=[.ref a]∧DT X.K H a xs∧Q (.int xs.length) H):=by
 intro pins s σ H ys us Q I r h
 obtain ⟨a,xs,rfl,d,q⟩:=h
 obtain ⟨u,rfl,rx⟩:=vals1 r
 cases rx
 obtain ⟨es,ep,de,hz,_⟩:=d.de I
 obtain ⟨hl,hd,_⟩:=d.dict I
 refine zvr hd de (by rw [hz]; have:=sizeLine_eq; omega) fun t tk=>⟨.int xs.length,H,I.tok _,⟨t,by rw [hz]⟩,q⟩
theorem zmq (hc:X.calm=true):CallR X (.type "tuple") (fun ys H Q=>∃ a xs,ys=[.ref a]∧DT X.K H a xs∧∀ l,H l=none→Q (.ref l) (upd H l (.tup (xs.map fun p=>.ref p.2.1)))):=by
 intro pins s σ H ys us Q I r h
 obtain ⟨a,xs,rfl,d,q⟩:=h
 obtain ⟨u,rfl,rx⟩:=vals1 r
 cases rx
 obtain ⟨es,ep,de,hz,hk⟩:=d.de I
 obtain ⟨hl,hd,_⟩:=d.dict I
 refine zpo (I.ok.hd hc) hd de (by omega) fun h' tk kp=>?_
 have I1:Inv X pins σ H { s with heap:=h',toks:=tk }:=I.kept (t':=tk) kp
 have rv:Vals (xs.map fun p=>.ref p.2.1) (es.map (·.key)).toList:=by
  have:∀ (xs:DX) (ls:List DictEntry),ls.length=xs.length→(∀ (i:Nat) (p:DK × Addr × V),xs[i]?=some p→∃ e:DictEntry,ls[i]?=some e∧e.key=Value.ref p.2.1)→Vals (xs.map fun p=>V.ref p.2.1) (ls.map (·.key)):=by
   intro xs
   induction xs with
   | nil=>intro ls e _; cases ls with | nil=>exact .nil | cons=>cases e
   | cons p ps ih=>
    intro ls e h
    cases ls with
    | nil=>cases e
    | cons l ls=>
     obtain ⟨e',h1,h2⟩:=h 0 p rfl
     cases h1
     refine .cons ?_ (ih ls (by simpa using e) fun i q hq=>by simpa using h (i + 1) q (by simpa using hq))
     exact h2
  have:=this xs es.toList (by simpa using hz) (fun i p hp=>by simpa using hk i p hp)
  simpa using this
 have I2:Inv X pins σ (upd H h'.objs.size (.tup (xs.map fun p=>.ref p.2.1))) { s with heap:=h'.push { cls:=.type "tuple",data:=.seq (es.map (·.key)) },toks:=tk }:=
  I1.laid (t':=tk) (fun b o e=>vad _ e) (vae _) (show ObjOk X.prog X.w _ _ _ (.tup _) from ⟨by rw [vab]; exact hl,_,rv,by rw [Array.toArray_toList]; exact zbc.new h' (es.map (·.key))⟩)
 exact ⟨.ref h'.objs.size,_,I2,rfl,q _ (I1.hok.fresh (vae _))⟩
noncomputable def zvw (K:PySem.W.Frag) (trs:List (TE × TE)):TE:=fun σ H Q=>∀ p,H p=none→zjt trs σ (upd H p (.dK [])) fun ps H2=>H2 p=some (.dK [])∧((∃ kvs:List (Key × V),ps=kvs.map (fun kv=>(kV kv.1,kv.2))∧kvs.length≤15∧Q (.ref p) (upd H2 p (.dK (zdt [] kvs)))) ∨
 ∃ b k v,ps=[(.ref b,v)]∧KeyAt K H2 k b∧Q (.ref p) (upd H2 p (dtH [(k,b,v)] p)))
theorem zpp {pos:Pos} {keys:List (Option Expr)} {values:List Expr} {trs:List (TE × TE)} (hu:X.A.units + 2 < cLine) (h:PPs X pos keys values trs) (hall:keys.all (·.isSome)=true) (hl:keys.length=values.length) (h0:keys≠[])
 (h15:keys.length≤15):PE X (.Dict keys values pos) (zvw X.K trs):=by
 intro pins s σ H Q I q
 have hn:=I.hok.fresh (vae s.heap.objs.size)
 have I1:=I.laid (a:=s.heap.objs.size) (o:=.dK []) (h':=s.heap.push { cls:=.type "dict",data:=.dict #[] }) (t':=s.toks) (fun _ _ q=>vad _ q) (vae _) (zjs s.heap I.big)
 refine wpAny_Dict_any hall hl h0 h15 (thn (h pins _ σ _ _ I1 (q _ hn)) fun ws s2 hq0=>?_)
 obtain ⟨ps,H2,I2,rel,e,q2⟩:=hq0
 unfold storeAll
 rcases q2 with ⟨kvs,ep,lk,q2⟩ | ⟨b,k,v,ep,kk,q2⟩
 ·subst ep
  obtain ⟨rs,c,rk⟩:=ze7 (P:=X.prog) (w:=X.w) rel
  obtain ⟨z,hd,vs0,r0,dd⟩:=dk_of I2.hok e
  cases r0
  have hr:rs.length=kvs.length:=(Paired.length rk).symm
  refine wpAny_storeAll (knd:=za1 X.prog X.w) ws rs [] s2 _ c dd (by rw [List.length_nil,sizeLine_eq]; omega) fun h' dd' hs=>⟨.ref s.heap.objs.size,_,?_,rfl,q2⟩
  have hz:(zdt [] kvs).length≤sizeLine:=by
   have h1:=zcs kvs []
   rw [List.length_nil] at h1
   rw [sizeLine_eq]; omega
  have he:∃ q,h'.get? s.heap.objs.size=some q:=let ⟨q,_,_,hq,_⟩:=dd'; ⟨q,hq⟩
  exact zit I2 (by rw [e]; exact True.intro) hs he (zve hz hd (rk.merge .nil) dd')
 ·subst ep
  cases rel with
  | @cons p0 w0 ps0 ws0 rp rr=>
   cases rr
   obtain ⟨w1,w2⟩:=w0
   obtain ⟨r1,r2⟩:=rp
   cases r1
   have d:DT X.K H2 s.heap.objs.size []:=.inr ⟨rfl,.inl e⟩
   obtain ⟨_,y,us,rl,dd⟩:=d.dict I2
   cases rl
   rw [List.forIn_cons]
   refine vaa (vaa (wpAny_dictSet_heap (knd:=dKind X.prog X.w) (hsz:=by simp) (by show X.A.units + 1 < cLine; omega) (kk.is I2) dd fun h' dd' hs=>vaf ?_))
   show wpAny _ _ (pure _) _ _ _
   refine vaf ⟨.ref s.heap.objs.size,_,?_,rfl,q2⟩
   obtain ⟨q,es,ep,hq,h2,h3,h4,_,h5⟩:=dd'
   refine zit I2 (by rw [e]; exact True.intro) hs ⟨q,hq⟩ (zqx ⟨by rw [sizeLine_eq]; exact Nat.le_add_left 1 16777215,y,by simp,[(k,b,w2)],.cons ⟨rfl,rfl,r2⟩ .nil,q,es,ep,hq,h2,h3,h4⟩)
end
end L2
namespace RF
open PySem
inductive W where
 | non | bl (b:Bool) | int (i:Int) | str (x:Str) | tup (ws:List W) | fz (ws:List W) | ref (i:Nat)
mutual
noncomputable def W.lt (n:Nat):W→Bool
 | .tup ws=>W.lts n ws
 | .fz ws=>W.lts n ws
 | .ref i=>Nat.blt i n
 | _=>true
noncomputable def W.lts (n:Nat):List W→Bool
 | []=>true
 | w :: ws=>W.lt n w && W.lts n ws
end
inductive VO where
 | lst (ws:List W) | dk (kvs:List (L2.Key × W)) | dt (ks ws:List W) | ins (C:Addr) (xs:List Str) (ws:List W)
structure VH where
 n:Nat
 lo:Nat
 os:List VO
noncomputable def VH.get (h:VH) (i:Nat):Option VO:=if Nat.blt i h.n then h.os[h.n - 1 - i]? else none
noncomputable def VH.set (h:VH) (i:Nat) (o:VO):VH:=⟨h.n,if Nat.blt i h.lo then i else h.lo,h.os.set (h.n - 1 - i) o⟩
noncomputable def VH.new (h:VH) (o:VO):VH:=⟨h.n + 1,h.lo,o :: h.os⟩
inductive Res (α:Type) where
 | ok (a:α) (h:VH) | ex (x:W) (h:VH) | no
noncomputable def Res.bind {α β:Type} (r:Res α) (f:α→VH→Res β):Res β:=match r with
 | .ok a h=>f a h
 | .ex x h=>.ex x h
 | .no=>.no
noncomputable def Res.of {α:Type} (o:Option α) (h:VH):Res α:=match o with
 | some a=>.ok a h
 | none=>.no
inductive Op where
 | add | sub | mul | fdiv | mod | shl | pow
 deriving DecidableEq
inductive Cp where
 | eq | ne | lt | le | gt | ge | isn | notn | inn | nin
 deriving DecidableEq
inductive Ty where
 | int | bool | tuple | list | str | dict
 deriving DecidableEq
inductive Bi where
 | len | list | tuple | int | abs | max | min | all
 deriving DecidableEq
inductive Mt where
 | append | get | count
 deriving DecidableEq
inductive Kd where
 | seq | rng1 | rng2 | enm | zip | keys
 deriving DecidableEq
inductive Tg where
 | one (i:Nat) | many (is:List Nat)
 deriving DecidableEq
inductive E where
 | var (i:Nat) | cst (w:W)
 | nil | cons (a r:E)
 | tup (a:E) | lst (a:E) | dsp (a:E)
 | op (o:Op) (a b:E) | neg (a:E)
 | cmp (c:Cp) (a b:E) | chn (c d:Cp) (a b e:E)
 | not (a:E) | and (a b:E) | or (a b:E) | tru (a:E) | ite (c a b:E)
 | idx (a b:E) | slc (a:E) (bl:Bool) (lo:E) (bh:Bool) (hi:E)
 | call (f:Nat) (a:E) | bi (b:Bi) (a:E) | isi (t:Ty) (a:E) | mt (m:Mt) (o a:E)
 | lc (k:Kd) (a:E) (t:Tg) (ow:Nat) (ix:List Nat) (c e:E)
 | lc2 (k:Kd) (a:E) (t:Tg) (ow:Nat) (ix:List Nat) (c:E) (k2:Kd) (a2:E) (t2:Tg) (c2 e:E)
 | att (C:Addr) (x:Str) (a:E)
 | mk (C:Addr) (f:Nat) (a:E) | mcall (C:Addr) (mt:Str) (f:Nat) (o a:E)
 | dc (k:Kd) (a:E) (t:Tg) (ow:Nat) (ix:List Nat) (c e v:E)
inductive S where
 | skip | seq (a b:S) | set (i:Nat) (e:E) | unp (is:List Nat) (e:E) | aug (i:Nat) (o:Op) (e:E)
 | sat (C:Addr) (x:Str) (o v:E) | put (o i v:E) | pts (o:E) (bl:Bool) (lo:E) (bh:Bool) (hi v:E) | ite (c:E) (a b:S) | ret (e:E) | expr (e:E) | brk | cnt
 | for (k:Kd) (a:E) (t:Tg) (b:S) | whl (c:E) (b:S) | no
noncomputable abbrev En:=List (Option W)
inductive Fl where
 | nx (ρ:En) | rt (w:W) | bk (ρ:En) | ct (ρ:En)
noncomputable def mapO {α β:Type} (f:α→Option β):List α→Option (List β)
 | []=>some []
 | a :: r=>match f a with
  | some b=>(match mapO f r with
   | some bs=>some (b :: bs)
   | none=>none)
  | none=>none
noncomputable def toD (h:VH):Nat→W→Option PyData
 | 0,_=>none
 | n + 1,w=>match w with
  | .non=>some .none
  | .bl b=>some (.bool b)
  | .int i=>some (.int i)
  | .str x=>some (.str x)
  | .tup ws=>(mapO (toD h n) ws).map .tuple
  | .fz ws=>(mapO (toD h n) ws).map .list
  | .ref i=>match h.get i with
   | some (.lst ws)=>(mapO (toD h n) ws).map .list
   | _=>none
noncomputable def eqW (h:VH) (x y:W):Option Bool:=
 match toD h 24 x,toD h 24 y with
 | some d,some e=>if SeqAt.shaped d && SeqAt.shaped e then some (PyData.eqv d e) else none
 | _,_=>none
noncomputable def big:Nat:=16777216
noncomputable def zbd (i:Int):Bool:=decide (-(2 ^ 64) < i) && decide (i < 2 ^ 64)
noncomputable def opI:Op→Int→Int→Option Int
 | .add,i,j=>some (i + j)
 | .sub,i,j=>some (i - j)
 | .mul,i,j=>if zbd i || zbd j then some (i * j) else none
 | .fdiv,i,j=>if decide (0 < j) && decide (j < 1073741824) then some (i / j) else none
 | .mod,i,j=>if decide (0 < j) then some (i % j) else none
 | .shl,i,j=>if decide (0≤j) && decide (j≤1000000) && decide (i.natAbs < 2 ^ 64) then some (i * 2 ^ j.toNat) else none
 | .pow,i,j=>if decide (0≤j) && decide (j≤1000000) && decide (i.natAbs < 2 ^ 64) then some (i ^ j.toNat) else none
noncomputable def opT:Op→List W→List W→Option (List W)
 | .add,xs,ys=>if Nat.ble (xs.length + ys.length) big then some (xs++ys) else none
 | _,_,_=>none
noncomputable def opL:Op→List W→List W→Option (List W)
 | .add,xs,ys=>if Nat.ble (xs.length + ys.length) big then some (xs++ys) else none
 | _,_,_=>none
noncomputable def fits (i:Int):Bool:=decide (-(2 ^ 62)≤i) && decide (i < 2 ^ 62)
noncomputable def repW (o:Op) (xs:List W) (k:Int):Option (List W):=match o with
 | .mul=>if fits k && Nat.ble (xs.length * k.toNat) big then some (List.replicate k.toNat xs).flatten else none
 | _=>none
noncomputable def opW (o:Op) (x y:W) (h:VH):Res W:=match x,y with
 | .int i,.int j=>.of ((opI o i j).map .int) h
 | .tup xs,.tup ys=>.of ((opT o xs ys).map .tup) h
 | .tup xs,.int k=>.of ((repW o xs k).map .tup) h
 | .ref i,.int k=>(match h.get i with
  | some (.lst xs)=>(match repW o xs k with
   | some zs=>.ok (.ref h.n) (h.new (.lst zs))
   | none=>.no)
  | _=>.no)
 | .ref i,.ref j=>match h.get i,h.get j with
  | some (.lst xs),some (.lst ys)=>(match opL o xs ys with
   | some zs=>.ok (.ref h.n) (h.new (.lst zs))
   | none=>.no)
  | _,_=>.no
 | _,_=>.no
noncomputable def ipW (o:Op) (x y:W) (h:VH):Res W:=match x,y with
 | .int i,.int j=>(match o with
  | .add=>.ok (.int (i + j)) h
  | .sub=>.ok (.int (i - j)) h
  | .mul=>.of ((opI .mul i j).map .int) h
  | .fdiv=>.of ((opI .fdiv i j).map .int) h
  | _=>.no)
 | .ref i,.ref j=>match o,h.get i,h.get j with
  | .add,some (.lst xs),some (.lst ys)=>if Nat.ble (xs.length + ys.length) big then .ok (.ref i) (h.set i (.lst (xs++ys))) else .no
  | _,_,_=>.no
 | _,_=>.no
noncomputable def cmpI:Cp→Int→Int→Option Bool
 | .lt,i,j=>some (decide (i < j))
 | .le,i,j=>some (decide (i≤j))
 | .gt,i,j=>some (decide (j < i))
 | .ge,i,j=>some (decide (j≤i))
 | _,_,_=>none
noncomputable def isNon:W→Bool
 | .non=>true
 | _=>false
noncomputable def seqW (h:VH):W→Option (List W)
 | .tup ws=>some ws
 | .fz ws=>some ws
 | .ref i=>match h.get i with
  | some (.lst ws)=>some ws
  | _=>none
 | _=>none
noncomputable def intD:W→Option Int
 | .int i=>some i
 | _=>none
noncomputable def keyD:W→Option L2.DK
 | .tup [.tup ws,.non]=>(mapO intD ws).map fun is=>(is,none)
 | .tup [.tup ws,.int i]=>(mapO intD ws).map fun is=>(is,some i)
 | _=>none
noncomputable def lookD:List W→List W→L2.DK→Option W
 | k :: ks,w :: ws,d=>if keyD k=some d then some w else lookD ks ws d
 | _,_,_=>none
noncomputable def inD (h:VH) (x y:W):Option Bool:=match y with
 | .ref a=>(match h.get a,keyD x with
  | some (.dt ks ws),some k=>some (lookD ks ws k).isSome
  | _,_=>none)
 | _=>none
noncomputable def idxD (h:VH) (a:Nat) (y:W):Option W:=match h.get a,keyD y with
 | some (.dt ks ws),some k=>lookD ks ws k
 | _,_=>none
noncomputable def keysD (h:VH) (x:W):Option (List W):=match x with
 | .ref a=>(match h.get a with
  | some (.dt ks _)=>some ks
  | _=>none)
 | _=>none
noncomputable def inW (h:VH) (x y:W):Option Bool:=match seqW h y,toD h 24 x with
 | some ws,some d=>(match mapO (toD h 24) ws with
  | some ds=>if ds.all SeqAt.shaped && SeqAt.shaped d then some (L2.anyEq ds d) else none
  | none=>none)
 | _,_=>inD h x y
noncomputable def isB:W→W→Option Bool
 | .bl c,.bl b=>some (c == b)
 | _,_=>none
noncomputable def cmpW (c:Cp) (h:VH) (x y:W):Option Bool:=match c with
 | .inn=>inW h x y
 | .nin=>(inW h x y).map (!·)
 | .eq=>eqW h x y
 | .ne=>(eqW h x y).map (!·)
 | .isn=>if isNon y then some (isNon x) else isB x y
 | .notn=>if isNon y then some (!isNon x) else (isB x y).map (!·)
 | c=>match x,y with
  | .int i,.int j=>cmpI c i j
  | _,_=>none
noncomputable def truW (h:VH):W→Option Bool
 | .bl b=>some b
 | .int i=>some (i != 0)
 | .non=>some false
 | .tup ws=>some (!ws.isEmpty)
 | .ref i=>match h.get i with
  | some (.lst ws)=>some (!ws.isEmpty)
  | _=>none
 | _=>none
noncomputable def keyW:W→Option L2.Key
 | .int i=>some (.inl i)
 | .str x=>some (.inr x)
 | _=>none
noncomputable def lookK (kvs:List (L2.Key × W)) (k:L2.Key):Option W:=(kvs.find? fun kv=>decide (kv.1=k)).map (·.2)
noncomputable def putKW (kvs:List (L2.Key × W)) (k:L2.Key) (w:W):List (L2.Key × W):=
 if (kvs.any fun kv=>decide (kv.1=k))=true then kvs.map (fun kv=>if kv.1=k then (kv.1,w) else kv) else kvs++[(k,w)]
noncomputable def idxW (h:VH) (x y:W):Option W:=match x,y with
 | .tup ws,.int i=>L2.atI ws i
 | .fz ws,.int i=>L2.atI ws i
 | .ref a,.int i=>(match h.get a with
  | some (.lst ws)=>L2.atI ws i
  | some (.dk kvs)=>lookK kvs (.inl i)
  | _=>none)
 | .ref a,.str x=>(match h.get a with
  | some (.dk kvs)=>lookK kvs (.inr x)
  | _=>none)
 | .ref a,y=>idxD h a y
 | _,_=>none
noncomputable def partW (b:Bool) (w:W):Option (Option Int):=match b,w with
 | false,_=>some none
 | true,.int i=>some (some i)
 | _,_=>none
noncomputable def cutW (ws:List W) (lo hi:Option Int):List W:=(ws.drop (HT.sIx ws.length 0 lo)).take (HT.sIx ws.length ws.length hi - HT.sIx ws.length 0 lo)
noncomputable def slcW (x:W) (l u:Option Int) (h:VH):Res W:=match x with
 | .tup ws=>.ok (.tup (cutW ws l u)) h
 | .ref i=>(match h.get i with
  | some (.lst ws)=>.ok (.ref h.n) (h.new (.lst (cutW ws l u)))
  | _=>.no)
 | _=>.no
@[simp] theorem slcW_tup {ws:List W} {l u:Option Int} {h:VH}:slcW (.tup ws) l u h=.ok (.tup (cutW ws l u)) h:=rfl
noncomputable def tyIs:Ty→VH→W→Option Bool
 | t,_,.non=>some false
 | t,_,.bl _=>some (t == .int || t == .bool)
 | t,_,.int _=>some (t == .int)
 | t,_,.str _=>some (t == .str)
 | t,_,.tup _=>some (t == .tuple)
 | _,_,.fz _=>none
 | t,h,.ref i=>match h.get i with
  | some (.lst _)=>some (t == .list)
  | some (.dk _)=>some (t == .dict)
  | _=>none
noncomputable def lenW (xs:List W) (h:VH):Res W:=match xs with
 | [x]=>.of (match seqW h x with
  | some ws=>some (.int ws.length)
  | none=>(keysD h x).map fun ks=>.int ks.length) h
 | _=>.no
noncomputable def listW (xs:List W) (h:VH):Res W:=match xs with
 | [x]=>(match seqW h x with
  | some ws=>.ok (.ref h.n) (h.new (.lst ws))
  | none=>.no)
 | _=>.no
noncomputable def zcu (xs:List W) (h:VH):Res W:=match xs with
 | [x]=>.of (match seqW h x with
  | some ws=>some (.tup ws)
  | none=>(keysD h x).map .tup) h
 | _=>.no
noncomputable def intW (xs:List W) (h:VH):Res W:=match xs with
 | [.int i]=>.ok (.int i) h
 | [.bl b]=>.ok (.int (if b then 1 else 0)) h
 | _=>.no
noncomputable def absW (xs:List W) (h:VH):Res W:=match xs with
 | [.int i]=>.ok (.int (if i < 0 then -i else i)) h
 | _=>.no
noncomputable def maxW (xs:List W) (h:VH):Res W:=match xs with
 | [.int i,.int j]=>.ok (.int (if j > i then j else i)) h
 | _=>.no
noncomputable def minW (xs:List W) (h:VH):Res W:=match xs with
 | [.int i,.int j]=>.ok (.int (if j < i then j else i)) h
 | _=>.no
noncomputable def ptsW (x w:W) (l u:Option Int) (h:VH):Res W:=match x,w with
 | .ref a,.ref b=>(match h.get a,h.get b with
  | some (.lst ws),some (.lst zs)=>if Nat.beq a b then .no else if Nat.ble (HT.sIx ws.length 0 l) (HT.sIx ws.length ws.length u) && Nat.ble (ws.length + zs.length) big then
   .ok .non (h.set a (.lst (ws.take (HT.sIx ws.length 0 l)++zs++ws.drop (HT.sIx ws.length ws.length u)))) else .no
  | _,_=>.no)
 | _,_=>.no
noncomputable def blW:W→Option Bool
 | .bl b=>some b
 | _=>none
noncomputable def allW (xs:List W) (h:VH):Res W:=match xs with
 | [.ref i]=>(match h.get i with
  | some (.lst ws)=>.of ((mapO blW ws).map fun bs=>.bl (bs.all id)) h
  | _=>.no)
 | _=>.no
noncomputable def biW (b:Bi) (xs:List W) (h:VH):Res W:=match b with
 | .abs=>absW xs h
 | .max=>maxW xs h
 | .min=>minW xs h
 | .all=>allW xs h
 | .len=>lenW xs h
 | .list=>listW xs h
 | .tuple=>zcu xs h
 | .int=>intW xs h
noncomputable def zvx (h:VH) (x y:W):Option W:=match seqW h y,toD h 24 x with
 | some ws,some d=>(match mapO (toD h 24) ws with
  | some ds=>if ds.all SeqAt.shaped && SeqAt.shaped d then some (.int (ds.countP fun e=>PyData.eqv e d:Nat)) else none
  | none=>none)
 | _,_=>none
noncomputable def mtW (m:Mt) (o:W) (xs:List W) (h:VH):Res W:=match m,o,xs with
 | .append,.ref i,[x]=>(match h.get i with
  | some (.lst ws)=>if Nat.blt ws.length big then .ok .non (h.set i (.lst (ws++[x]))) else .no
  | _=>.no)
 | .get,.ref i,[k,d]=>(match h.get i,keyW k with
  | some (.dk kvs),some k=>.ok ((lookK kvs k).getD d) h
  | _,_=>.no)
 | .count,o,[x]=>.of (zvx h x o) h
 | _,_,_=>.no
noncomputable def zhf (m:Mt) (h:VH) (o:W):Bool:=match m,o with
 | .append,.ref i=>(match h.get i with
  | some (.lst _)=>true
  | _=>false)
 | .get,.ref i=>(match h.get i with
  | some (.dk _)=>true
  | _=>false)
 | .count,.tup _=>true
 | .count,.ref i=>(match h.get i with
  | some (.lst _)=>true
  | _=>false)
 | _,_=>false
noncomputable def keyV:L2.Key→W
 | .inl i=>.int i
 | .inr x=>.str x
noncomputable def nxt (k:Kd) (x:W) (i:Nat) (h:VH):Option (Option W):=match k with
 | .seq=>(seqW h x).map fun ws=>ws[i]?
 | .enm=>(match x with
  | .tup ws=>some ((ws[i]?).map fun w=>.tup [.int i,w])
  | _=>none)
 | .keys=>(match x with
  | .ref a=>(match h.get a with
   | some (.dk kvs)=>(match kvs[i]? with
    | some kv=>some (some (keyV kv.1))
    | none=>if Nat.beq i kvs.length then some none else none)
   | _=>none)
  | _=>none)
 | .zip=>(match x with
  | .tup [u,v]=>(match seqW h u,seqW h v with
   | some ws,some zs=>some (match ws[i]?,zs[i]? with
    | some a,some b=>some (.tup [a,b])
    | _,_=>none)
   | _,_=>none)
  | _=>none)
 | .rng1=>(match x with
  | .tup [.int j]=>if fits j then some (if decide ((i:Int) < j) then some (.int (0 + i)) else none) else none
  | _=>none)
 | .rng2=>(match x with
  | .tup [.int a,.int b]=>if fits a && fits b then some (if decide ((i:Int) < b - a) then some (.int (a + i)) else none) else none
  | _=>none)
noncomputable def zaw:List Nat→List W→En→Option En
 | [],[],ρ=>some ρ
 | i :: is,w :: ws,ρ=>zaw is ws (ρ.set i (some w))
 | _,_,_=>none
noncomputable def tgW (t:Tg) (w:W) (h:VH) (ρ:En):Option En:=match t with
 | .one i=>some (ρ.set i (some w))
 | .many is=>match seqW h w with
  | some ws=>zaw is ws ρ
  | none=>none
noncomputable def fuel:Nat:=1000000
noncomputable def inner (ow:Nat) (ix:List Nat) (ρ:En):En:=List.replicate ow none++ix.map fun j=>(ρ[j]?).join
noncomputable def lcG (nx:Nat→VH→Option (Option W)) (tg:W→VH→En→Option En) (c:En→VH→Res W) (e:En→VH→Res W):Nat→Nat→En→VH→List W→Res (List W)
 | 0,_,_,_,_=>.no
 | f + 1,i,ρ,h,acc=>match nx i h with
  | none=>.no
  | some none=>.ok acc.reverse h
  | some (some w)=>match tg w h ρ with
   | none=>.no
   | some ρ=>(c ρ h).bind fun b h=>match b with
    | .bl true=>(e ρ h).bind fun y h=>lcG nx tg c e f (i + 1) ρ h (y :: acc)
    | .bl false=>lcG nx tg c e f (i + 1) ρ h acc
    | _=>.no
noncomputable def lcI (nx:Nat→VH→Option (Option W)) (tg:W→VH→En→Option En) (c:En→VH→Res W) (e:En→VH→Res W):Nat→Nat→En→VH→List W→Res (En × List W)
 | 0,_,_,_,_=>.no
 | f + 1,i,ρ,h,acc=>match nx i h with
  | none=>.no
  | some none=>.ok (ρ,acc) h
  | some (some w)=>match tg w h ρ with
   | none=>.no
   | some ρ=>(c ρ h).bind fun b h=>match b with
    | .bl true=>(e ρ h).bind fun y h=>lcI nx tg c e f (i + 1) ρ h (y :: acc)
    | .bl false=>lcI nx tg c e f (i + 1) ρ h acc
    | _=>.no
noncomputable def lcO (nx:Nat→VH→Option (Option W)) (tg:W→VH→En→Option En) (c:En→VH→Res W) (inn:En→VH→List W→Res (En × List W)):Nat→Nat→En→VH→List W→Res (List W)
 | 0,_,_,_,_=>.no
 | f + 1,i,ρ,h,acc=>match nx i h with
  | none=>.no
  | some none=>.ok acc.reverse h
  | some (some w)=>match tg w h ρ with
   | none=>.no
   | some ρ=>(c ρ h).bind fun b h=>match b with
    | .bl true=>(inn ρ h acc).bind fun p h=>lcO nx tg c inn f (i + 1) p.1 h p.2
    | .bl false=>lcO nx tg c inn f (i + 1) ρ h acc
    | _=>.no
noncomputable def dcG (nx:Nat→VH→Option (Option W)) (tg:W→VH→En→Option En) (c:En→VH→Res W) (e v:En→VH→Res W):Nat→Nat→En→VH→List (L2.Key × W)→Res (List (L2.Key × W))
 | 0,_,_,_,_=>.no
 | f + 1,i,ρ,h,acc=>match nx i h with
  | none=>.no
  | some none=>.ok acc h
  | some (some w)=>match tg w h ρ with
   | none=>.no
   | some ρ=>(c ρ h).bind fun b h=>match b with
    | .bl true=>(e ρ h).bind fun x h=>(v ρ h).bind fun y h=>(match keyW x with
     | some k=>if Nat.blt acc.length big then dcG nx tg c e v f (i + 1) ρ h (putKW acc k y) else .no
     | none=>.no)
    | .bl false=>dcG nx tg c e v f (i + 1) ρ h acc
    | _=>.no
noncomputable def forG (nx:Nat→VH→Option (Option W)) (tg:W→VH→En→Option En) (b:En→VH→Res Fl):Nat→Nat→En→VH→Res Fl
 | 0,_,_,_=>.no
 | f + 1,i,ρ,h=>match nx i h with
  | none=>.no
  | some none=>.ok (.nx ρ) h
  | some (some w)=>match tg w h ρ with
   | none=>.no
   | some ρ=>(b ρ h).bind fun fl h=>match fl with
    | .nx ρ=>forG nx tg b f (i + 1) ρ h
    | .ct ρ=>forG nx tg b f (i + 1) ρ h
    | .bk ρ=>.ok (.nx ρ) h
    | .rt w=>.ok (.rt w) h
noncomputable def whlG (c:En→VH→Res W) (b:En→VH→Res Fl):Nat→En→VH→Res Fl
 | 0,_,_=>.no
 | f + 1,ρ,h=>(c ρ h).bind fun t h=>match t with
  | .bl false=>.ok (.nx ρ) h
  | .bl true=>(b ρ h).bind fun fl h=>match fl with
   | .nx ρ=>whlG c b f ρ h
   | .ct ρ=>whlG c b f ρ h
   | .bk ρ=>.ok (.nx ρ) h
   | .rt w=>.ok (.rt w) h
  | _=>.no
noncomputable def zb0:List W→Option (List (L2.Key × W))
 | []=>some []
 | k :: v :: r=>match keyW k with
  | some k=>(match zb0 r with
   | some kvs=>some ((k,v) :: kvs)
   | none=>none)
  | none=>none
 | _=>none
noncomputable def zjw (kvs more:List (L2.Key × W)):List (L2.Key × W):=more.foldl (fun acc kv=>putKW acc kv.1 kv.2) kvs
noncomputable def dkO:List (L2.Key × W)→VO
 | []=>.dt [] []
 | kvs=>.dk (zjw [] kvs)
noncomputable def dspD (ys:List W) (h:VH):Res W:=match ys with
 | [k,w]=>(match keyD k with
  | some _=>.ok (.ref h.n) (h.new (.dt [k] [w]))
  | none=>.no)
 | _=>.no
noncomputable def putD (ρ:En) (a:Nat) (y w:W) (h:VH):Res Fl:=match h.get a,keyD y with
 | some (.dt ks ws),some k=>if (lookD ks ws k).isNone && Nat.blt ks.length big then .ok (.nx ρ) (h.set a (.dt (ks++[y]) (ws++[w]))) else .no
 | _,_=>.no
noncomputable def lookF (x:Str):List Str→List W→Option W
 | y :: ys,w :: ws=>if y=x then some w else lookF x ys ws
 | _,_=>none
noncomputable def putN (x:Str):List Str→List Str
 | []=>[x]
 | y :: ys=>if y=x then y :: ys else y :: putN x ys
noncomputable def putV (x:Str) (w:W):List Str→List W→List W
 | y :: ys,v :: vs=>if y=x then w :: vs else v :: putV x w ys vs
 | _,_=>[w]
noncomputable def attW (C:Addr) (x:Str) (o:W) (h:VH):Option W:=match o with
 | .ref i=>(match h.get i with
  | some (.ins D xs ws)=>if D=C then lookF x xs ws else none
  | _=>none)
 | _=>none
noncomputable def satW (ρ:En) (C:Addr) (x:Str) (o w:W) (h:VH):Res Fl:=match o with
 | .ref i=>(match h.get i with
  | some (.ins D xs ws)=>if D=C && Nat.blt xs.length 1000 then .ok (.nx ρ) (h.set i (.ins D (putN x xs) (putV x w xs ws))) else .no
  | _=>.no)
 | _=>.no
noncomputable def isIns (C:Addr) (m:Str) (h:VH) (x:W):Bool:=match x with
 | .ref i=>(match h.get i with
  | some (.ins D xs ws)=>decide (D=C) && (lookF m xs ws).isNone
  | _=>false)
 | _=>false
noncomputable abbrev Call:=Nat→List W→VH→Res W
noncomputable abbrev mkR (C:Addr) (g:List W→VH→Res W):List W→VH→Res W:=fun ys h=>(g (.ref h.n :: ys) (h.new (.ins C [] []))).bind fun v h'=>if isNon v then .ok (.ref h.n) h' else .no
noncomputable def ev (cl:Call):E→En→VH→Res W
 | .var i,ρ,h=>.of (ρ[i]?).join h
 | .cst w,_,h=>.ok w h
 | .nil,_,h=>.ok (.tup []) h
 | .cons a r,ρ,h=>(ev cl a ρ h).bind fun x h=>(ev cl r ρ h).bind fun y h=>match y with
  | .tup ys=>.ok (.tup (x :: ys)) h
  | _=>.no
 | .tup a,ρ,h=>(ev cl a ρ h).bind fun y h=>match y with
  | .tup ys=>if Nat.ble ys.length 1000 then .ok (.tup ys) h else .no
  | _=>.no
 | .lst a,ρ,h=>(ev cl a ρ h).bind fun y h=>match y with
  | .tup ys=>if Nat.ble ys.length 1000 then .ok (.ref h.n) (h.new (.lst ys)) else .no
  | _=>.no
 | .dsp a,ρ,h=>(ev cl a ρ h).bind fun y h=>match y with
  | .tup ys=>(match zb0 ys with
   | some kvs=>if Nat.ble kvs.length 15 then .ok (.ref h.n) (h.new (dkO kvs)) else .no
   | none=>dspD ys h)
  | _=>.no
 | .op o a b,ρ,h=>(ev cl a ρ h).bind fun x h=>(ev cl b ρ h).bind fun y h=>opW o x y h
 | .neg a,ρ,h=>(ev cl a ρ h).bind fun x h=>match x with
  | .int i=>.ok (.int (-i)) h
  | _=>.no
 | .cmp c a b,ρ,h=>(ev cl a ρ h).bind fun x h=>(ev cl b ρ h).bind fun y h=>.of ((cmpW c h x y).map .bl) h
 | .chn c d a b e,ρ,h=>(ev cl a ρ h).bind fun x h=>(ev cl b ρ h).bind fun y h=>match cmpW c h x y with
  | some true=>(ev cl e ρ h).bind fun z h=>.of ((cmpW d h y z).map .bl) h
  | some false=>.ok (.bl false) h
  | none=>.no
 | .not a,ρ,h=>(ev cl a ρ h).bind fun x h=>match x with
  | .bl b=>.ok (.bl (!b)) h
  | _=>.no
 | .and a b,ρ,h=>(ev cl a ρ h).bind fun x h=>match x with
  | .bl true=>ev cl b ρ h
  | .bl false=>.ok (.bl false) h
  | _=>.no
 | .or a b,ρ,h=>(ev cl a ρ h).bind fun x h=>match x with
  | .bl true=>.ok (.bl true) h
  | .bl false=>ev cl b ρ h
  | _=>.no
 | .tru a,ρ,h=>(ev cl a ρ h).bind fun x h=>.of ((truW h x).map .bl) h
 | .ite c a b,ρ,h=>(ev cl c ρ h).bind fun x h=>match x with
  | .bl true=>ev cl a ρ h
  | .bl false=>ev cl b ρ h
  | _=>.no
 | .idx a b,ρ,h=>(ev cl a ρ h).bind fun x h=>(ev cl b ρ h).bind fun y h=>.of (idxW h x y) h
 | .slc a bl lo bh hi,ρ,h=>(ev cl a ρ h).bind fun x h=>(ev cl lo ρ h).bind fun l h=>(ev cl hi ρ h).bind fun u h=>match partW bl l,partW bh u with
  | some l,some u=>slcW x l u h
  | _,_=>.no
 | .call f a,ρ,h=>(ev cl a ρ h).bind fun y h=>match y with
  | .tup ys=>cl f ys h
  | _=>.no
 | .bi b a,ρ,h=>(ev cl a ρ h).bind fun y h=>match y with
  | .tup ys=>biW b ys h
  | _=>.no
 | .isi t a,ρ,h=>(ev cl a ρ h).bind fun x h=>.of ((tyIs t h x).map .bl) h
 | .mt m o a,ρ,h=>(ev cl o ρ h).bind fun x h=>if zhf m h x then (ev cl a ρ h).bind fun y h=>match y with
  | .tup ys=>mtW m x ys h
  | _=>.no
  else .no
 | .lc k a t ow ix c e,ρ,h=>(ev cl a ρ h).bind fun x h=>(lcG (nxt k x) (tgW t) (ev cl c) (ev cl e) fuel 0 (inner ow ix ρ) h []).bind fun ys h=>if Nat.ble ys.length big then .ok (.ref h.n) (h.new (.lst ys)) else .no
 | .lc2 k a t ow ix c k2 a2 t2 c2 e,ρ,h=>(ev cl a ρ h).bind fun x h=>(lcO (nxt k x) (tgW t) (ev cl c) (fun ρ h acc=>(ev cl a2 ρ h).bind fun y h=>lcI (nxt k2 y) (tgW t2) (ev cl c2) (ev cl e) fuel 0 ρ h acc) fuel 0 (inner ow ix ρ) h []).bind fun ys h=>if Nat.ble ys.length big then .ok (.ref h.n) (h.new (.lst ys)) else .no
 | .mk C f a,ρ,h=>(ev cl a ρ h).bind fun y h=>match y with
  | .tup ys=>mkR C (cl f) ys h
  | _=>.no
 | .mcall C mt f o a,ρ,h=>(ev cl o ρ h).bind fun x h=>if isIns C mt h x then (ev cl a ρ h).bind fun y h=>match y with
  | .tup ys=>cl f (x :: ys) h
  | _=>.no
  else .no
 | .att C x a,ρ,h=>(ev cl a ρ h).bind fun o h=>.of (attW C x o h) h
 | .dc k a t ow ix c e v,ρ,h=>(ev cl a ρ h).bind fun x h=>(dcG (nxt k x) (tgW t) (ev cl c) (ev cl e) (ev cl v) fuel 0 (inner ow ix ρ) h []).bind fun kvs h=>.ok (.ref h.n) (h.new (.dk kvs))
noncomputable def exs (cl:Call):S→En→VH→Res Fl
 | .skip,ρ,h=>.ok (.nx ρ) h
 | .seq a b,ρ,h=>(exs cl a ρ h).bind fun fl h=>match fl with
  | .nx ρ=>exs cl b ρ h
  | fl=>.ok fl h
 | .set i e,ρ,h=>(ev cl e ρ h).bind fun w h=>.ok (.nx (ρ.set i (some w))) h
 | .unp is e,ρ,h=>(ev cl e ρ h).bind fun w h=>.of ((tgW (.many is) w h ρ).map .nx) h
 | .aug i o e,ρ,h=>match (ρ[i]?).join with
  | some x=>(ev cl e ρ h).bind fun y h=>(ipW o x y h).bind fun z h=>.ok (.nx (ρ.set i (some z))) h
  | none=>.no
 | .sat C x o v,ρ,h=>(ev cl v ρ h).bind fun w h=>(ev cl o ρ h).bind fun o h=>satW ρ C x o w h
 | .put o i v,ρ,h=>(ev cl v ρ h).bind fun w h=>(ev cl o ρ h).bind fun x h=>(ev cl i ρ h).bind fun y h=>match x,y with
  | .ref a,.int j=>(match h.get a with
   | some (.lst ws)=>(match L2.ixN ws.length j with
    | some k=>.ok (.nx ρ) (h.set a (.lst (ws.set k w)))
    | none=>.no)
   | _=>.no)
  | .ref a,y=>putD ρ a y w h
  | _,_=>.no
 | .pts o bl lo bh hi v,ρ,h=>(ev cl v ρ h).bind fun w h=>(ev cl o ρ h).bind fun x h=>(ev cl lo ρ h).bind fun l h=>(ev cl hi ρ h).bind fun u h=>(match partW bl l,partW bh u with
  | some l,some u=>(ptsW x w l u h).bind fun _ h=>.ok (.nx ρ) h
  | _,_=>.no)
 | .ite c a b,ρ,h=>(ev cl c ρ h).bind fun x h=>match x with
  | .bl true=>exs cl a ρ h
  | .bl false=>exs cl b ρ h
  | _=>.no
 | .ret e,ρ,h=>(ev cl e ρ h).bind fun w h=>.ok (.rt w) h
 | .expr e,ρ,h=>(ev cl e ρ h).bind fun _ h=>.ok (.nx ρ) h
 | .brk,ρ,h=>.ok (.bk ρ) h
 | .cnt,ρ,h=>.ok (.ct ρ) h
 | .for k a t b,ρ,h=>(ev cl a ρ h).bind fun x h=>forG (nxt k x) (tgW t) (exs cl b) fuel 0 ρ h
 | .whl c b,ρ,h=>whlG (ev cl c) (exs cl b) fuel ρ h
 | .no,_,_=>.no
structure Fn where
 ps:Nat
 n:Nat
 body:S
noncomputable def leave (h:VH) (w:W) (h':VH):Res W:=
 if Nat.ble h.n h'.lo && W.lt h.n w then .ok w h else .ok w ⟨h'.n,if Nat.ble h.lo h'.lo then h.lo else h'.lo,h'.os⟩
noncomputable def run (F:Nat→Option Fn):Nat→Call
 | 0,_,_,_=>.no
 | k + 1,f,ws,h=>match F f with
  | some fn=>if Nat.beq ws.length fn.ps then
   (exs (run F k) fn.body (ws.map some++List.replicate (fn.n - fn.ps) none) ⟨h.n,h.n,h.os⟩).bind fun fl h'=>match fl with
     | .nx _=>leave h .non h'
     | .rt w=>leave h w h'
     | _=>.no
   else .no
  | none=>.no
open L2 PyProof.Rows PySem.Spec
noncomputable def Fz (K:PySem.W.Frag) (H:Hp) (a:Addr) (xs:List V):Prop:=
 (∃ o,H a=some (.frz o (.lst xs)))∨∃ (o:Obj) (its:Array Value) (n:Nat),K.lookup a=some o∧o.cls=.type "list" ∧ o.dict=none∧o.data=.seq its n∧its.size≤sizeLine∧Vals xs its.toList
theorem Fz.sq {K:PySem.W.Frag} {H:Hp} {a:Addr} {xs:List V} (h:Fz K H a xs):SqL K H a xs:=h.elim (fun ⟨o,q⟩=>.inl (.inr ⟨o,q⟩)) .inr
mutual
inductive VRep (K:PySem.W.Frag) (m:Nat→Addr) (n:Nat) (H:Hp):V→W→Prop
 | non:VRep K m n H .non .non
 | bl (b:Bool):VRep K m n H (.bl b) (.bl b)
 | int (i:Int):VRep K m n H (.int i) (.int i)
 | str (x:Str):VRep K m n H (.str x) (.str x)
 | tup {a:Addr} {vs:List V} {ws:List W}:SqT K H a vs→VReps K m n H vs ws→VRep K m n H (.ref a) (.tup ws)
 | fz {a:Addr} {vs:List V} {ws:List W}:Fz K H a vs→VReps K m n H vs ws→VRep K m n H (.ref a) (.fz ws)
 | ref {i:Nat}:i < n→VRep K m n H (.ref (m i)) (.ref i)
inductive VReps (K:PySem.W.Frag) (m:Nat→Addr) (n:Nat) (H:Hp):List V→List W→Prop
 | nil:VReps K m n H [] []
 | cons {v:V} {w:W} {vs:List V} {ws:List W}:VRep K m n H v w→VReps K m n H vs ws→VReps K m n H (v :: vs) (w :: ws)
end
inductive KReps (K:PySem.W.Frag) (m:Nat→Addr) (n:Nat) (H:Hp):List (Key × V)→List (Key × W)→Prop
 | nil:KReps K m n H [] []
 | cons {k:Key} {v:V} {w:W} {vs:List (Key × V)} {ws:List (Key × W)}:VRep K m n H v w→KReps K m n H vs ws→KReps K m n H ((k,v) :: vs) ((k,w) :: ws)
noncomputable def ORep (K:PySem.W.Frag) (m:Nat→Addr) (n:Nat) (H:Hp) (a:Addr):VO→Prop
 | .lst ws=>∃ vs,H a=some (.lst vs)∧VReps K m n H vs ws
 | .dk kvs=>∃ kv,Rd H a (.dK kv)∧KReps K m n H kv kvs
 | .dt ks ws=>∃ xs:DX,(H a=some (dtH xs a)∨(xs=[]∧H a=some (.dK [])))∧mapO keyD ks=some (xs.map (·.1))∧VReps K m n H (xs.map fun x=>.ref x.2.1) ks∧VReps K m n H (xs.map fun x=>x.2.2) ws
 | .ins C xs ws=>∃ dx vs,H a=some (.ins C dx vs)∧vs.map (·.1)=xs∧VReps K m n H (vs.map (·.2)) ws
structure Rel (K:PySem.W.Frag) (m:Nat→Addr) (h:VH) (H:Hp):Prop where
 obj:∀ i,i < h.n→∃ o,h.get i=some o∧ORep K m h.n H (m i) o
 inj:∀ i j,i < h.n→j < h.n→m i=m j→i=j
 len:h.os.length=h.n
structure Stp (m:Nat→Addr) (n:Nat) (H:Hp) (m':Nat→Addr) (n':Nat) (H':Hp):Prop where
 le:n≤n'
 same:∀ i,i < n→m' i=m i
 new:∀ i,n≤i→i < n'→H (m' i)=none
 apart:∀ i j,n≤i→i < n'→j < n→m' i≠m' j
 tup:∀ b vs,H b=some (.tup vs)→H' b=some (.tup vs)
 frz:∀ b o u,H b=some (.frz o u)→H' b=some (.frz o u)
 keep:∀ b o,(∀ i,i < n→m i≠b)→H b=some o→H' b=some o
section
variable {K:PySem.W.Frag} {m m' m1 m2:Nat→Addr} {n n' n1 n2:Nat} {h h':VH} {H H' H1 H2:Hp}
theorem Stp.refl:Stp m n H m n H:=⟨vae _,fun _ _=>rfl,fun i a b=>absurd b (Nat.not_lt.mpr a),fun i j a b=>absurd b (Nat.not_lt.mpr a),fun _ _ q=>q,fun _ _ _ q=>q,fun _ _ _ q=>q⟩
theorem Stp.trans (a:Stp m n H m1 n1 H1) (b:Stp m1 n1 H1 m2 n2 H2):Stp m n H m2 n2 H2 where
 le:=Nat.le_trans a.le b.le
 same:=fun i hi=>(b.same i (vak hi a.le)).trans (a.same i hi)
 new:=fun i hi hi2=>by
  by_cases hc:i < n1
  ·rw [b.same i hc]; exact a.new i hi hc
  ·have hc:=Nat.not_lt.mp hc
   cases q:H (m2 i) with
   | none=>rfl
   | some o=>
    have q1:H1 (m2 i)=none:=b.new i hc hi2
    rw [a.keep _ o (fun j hj z=>b.apart i j hc hi2 (vak hj a.le) ((b.same j (vak hj a.le)).trans ((a.same j hj).trans z)).symm) q] at q1
    cases q1
 apart:=fun i j hi hi2 hj=>by
  by_cases hc:i < n1
  ·rw [b.same i hc,b.same j (vak hj a.le)]; exact a.apart i j hi hc hj
  ·exact b.apart i j (Nat.not_lt.mp hc) hi2 (vak hj a.le)
 tup:=fun c vs q=>b.tup c vs (a.tup c vs q)
 frz:=fun c o u q=>b.frz c o u (a.frz c o u q)
 keep:=fun c o hc q=>b.keep c o (fun i hi=>by
  by_cases hl:i < n
  ·rw [a.same i hl]; exact hc i hl
  ·intro z
   have:=a.new i (Nat.not_lt.mp hl) hi
   rw [z,q] at this; cases this) (a.keep c o hc q)
theorem Stp.sqT {a:Addr} {vs:List V} (s:Stp m n H m' n' H') (q:SqT K H a vs):SqT K H' a vs:=by
 rcases q with (q | ⟨o,q⟩) | q
 ·exact .inl (.inl (s.tup _ _ q))
 ·exact .inl (.inr ⟨o,s.frz _ _ _ q⟩)
 ·exact .inr q
theorem Stp.fz {a:Addr} {vs:List V} (s:Stp m n H m' n' H') (q:Fz K H a vs):Fz K H' a vs:=by
 rcases q with ⟨o,q⟩ | q
 ·exact .inl ⟨o,s.frz _ _ _ q⟩
 ·exact .inr q
mutual
theorem VRep.stp (s:Stp m n H m' n' H'):∀ {v:V} {w:W},VRep K m n H v w→VRep K m' n' H' v w
 | _,_,.non=>.non
 | _,_,.bl b=>.bl b
 | _,_,.int b=>.int b
 | _,_,.str b=>.str b
 | _,_,.tup q r=>.tup (s.sqT q) (VReps.stp s r)
 | _,_,.fz q r=>.fz (s.fz q) (VReps.stp s r)
 | _,_,.ref (i:=i) q=>by rw [← s.same i q]; exact .ref (vak q s.le)
theorem VReps.stp (s:Stp m n H m' n' H'):∀ {vs:List V} {ws:List W},VReps K m n H vs ws→VReps K m' n' H' vs ws
 | _,_,.nil=>.nil
 | _,_,.cons q r=>.cons (VRep.stp s q) (VReps.stp s r)
end
theorem KReps.stp (s:Stp m n H m' n' H'):∀ {vs:List (Key × V)} {ws:List (Key × W)},KReps K m n H vs ws→KReps K m' n' H' vs ws
 | _,_,.nil=>.nil
 | _,_,.cons q r=>.cons (q.stp s) (KReps.stp s r)
theorem VReps.length:∀ {vs:List V} {ws:List W},VReps K m n H vs ws→vs.length=ws.length
 | _,_,.nil=>rfl
 | _,_,.cons _ r=>by rw [vah,vah,VReps.length r]
theorem VReps.get:∀ {vs:List V} {ws:List W} {i:Nat} {w:W},VReps K m n H vs ws→ws[i]?=some w→∃ v,vs[i]?=some v∧VRep K m n H v w
 | _,_,_,_,.nil,e=>by simp at e
 | _,_,0,_,.cons q _,e=>by simp at e; subst e; exact ⟨_,rfl,q⟩
 | _,_,i + 1,w,.cons _ r,e=>by
  obtain ⟨v,h1,h2⟩:=VReps.get (i:=i) (w:=w) r (by simpa using e)
  exact ⟨v,by simpa using h1,h2⟩
theorem VReps.append:∀ {vs us:List V} {ws zs:List W},VReps K m n H vs ws→VReps K m n H us zs→VReps K m n H (vs++us) (ws++zs)
 | _,_,_,_,.nil,r=>r
 | _,_,_,_,.cons q r,t=>.cons q (VReps.append r t)
theorem VReps.drop:∀ (k:Nat) {vs:List V} {ws:List W},VReps K m n H vs ws→VReps K m n H (vs.drop k) (ws.drop k)
 | 0,_,_,r=>r
 | _ + 1,_,_,.nil=>.nil
 | k + 1,_,_,.cons _ r=>VReps.drop k r
theorem VReps.take:∀ (k:Nat) {vs:List V} {ws:List W},VReps K m n H vs ws→VReps K m n H (vs.take k) (ws.take k)
 | 0,_,_,r=>.nil
 | _ + 1,_,_,.nil=>.nil
 | k + 1,_,_,.cons q r=>.cons q (VReps.take k r)
theorem VReps.set {v:V} {w:W} (q:VRep K m n H v w):∀ (k:Nat) {vs:List V} {ws:List W},VReps K m n H vs ws→VReps K m n H (vs.set k v) (ws.set k w)
 | _,_,_,.nil=>.nil
 | 0,_,_,.cons _ r=>.cons q r
 | k + 1,_,_,.cons p r=>.cons p (VReps.set q k r)
theorem ORep.stp {a:Addr} {o:VO} (s:Stp m n H m' n' H') (e:H' a=H a) (q:ORep K m n H a o):ORep K m' n' H' a o:=by
 cases o with
 | lst ws=>obtain ⟨vs,h1,h2⟩:=q; exact ⟨vs,e.trans h1,h2.stp s⟩
 | dk ws=>obtain ⟨vs,h1,h2⟩:=q; exact ⟨vs,h1.imp (fun z=>e.trans z) fun ⟨o,z⟩=>⟨o,e.trans z⟩,h2.stp s⟩
 | dt ks ws=>obtain ⟨xs,h1,h0,h2,h3⟩:=q; exact ⟨xs,h1.imp (fun z=>e.trans z) fun ⟨o,z⟩=>⟨o,e.trans z⟩,h0,h2.stp s,h3.stp s⟩
 | ins C xs ws=>obtain ⟨dx,vs,h1,h0,h2⟩:=q; exact ⟨dx,vs,e.trans h1,h0,h2.stp s⟩
theorem ORep.some {a:Addr} {o:VO} (q:ORep K m n H a o):∃ u,H a=some u:=by
 cases o with
 | lst ws=>obtain ⟨vs,h1,h2⟩:=q; exact ⟨_,h1⟩
 | dk ws=>
  obtain ⟨vs,h1,h2⟩:=q
  rcases h1 with h1 | ⟨o,h1⟩ <;> exact ⟨_,h1⟩
 | dt ks ws=>
  obtain ⟨xs,h1,_⟩:=q
  rcases h1 with h1 | ⟨_,h1⟩ <;> exact ⟨_,h1⟩
 | ins C xs ws=>obtain ⟨dx,vs,h1,_⟩:=q; exact ⟨_,h1⟩
theorem zan {i j:Nat}:Nat.blt i j=true↔i < j:=by
 unfold Nat.blt; rw [Nat.ble_eq]; exact Iff.rfl
theorem zar {i:Nat} {o:VO} (q:h.get i=some o):i < h.n:=by
 unfold VH.get at q
 split at q
 ·rename_i z; exact zan.mp z
 ·cases q
theorem Rel.at_ (r:Rel K m h H) {i:Nat} {o:VO} (q:h.get i=some o):ORep K m h.n H (m i) o:=by
 obtain ⟨o',h1,h2⟩:=r.obj i (zar q)
 rw [q] at h1; cases h1; exact h2
theorem Rel.lst (r:Rel K m h H) {i:Nat} {ws:List W} (q:h.get i=some (.lst ws)):∃ vs,H (m i)=some (.lst vs)∧VReps K m h.n H vs ws:=r.at_ q
theorem Rel.dk (r:Rel K m h H) {i:Nat} {ws:List (Key × W)} (q:h.get i=some (.dk ws)):∃ vs,Rd H (m i) (.dK vs)∧KReps K m h.n H vs ws:=r.at_ q
theorem Rel.dt (r:Rel K m h H) {i:Nat} {ks ws:List W} (q:h.get i=some (.dt ks ws)):∃ xs:DX,(H (m i)=some (dtH xs (m i))∨(xs=[]∧H (m i)=some (.dK [])))∧mapO keyD ks=some (xs.map (·.1))∧VReps K m h.n H (xs.map fun x=>.ref x.2.1) ks∧VReps K m h.n H (xs.map fun x=>x.2.2) ws:=r.at_ q
theorem zad {i:Nat} {o:VO} (hi:i < h.n):(h.new o).get i=h.get i:=by
 unfold VH.get VH.new
 have h1:Nat.blt i (h.n + 1)=true:=zan.mpr (Nat.lt_succ_of_lt hi)
 have h2:Nat.blt i h.n=true:=zan.mpr hi
 simp only [h1,h2,if_true]
 have:h.n + 1 - 1 - i=(h.n - 1 - i) + 1:=by omega
 rw [this]; rfl
theorem zao {o:VO}:(h.new o).get h.n=some o:=by
 unfold VH.get VH.new
 have h1:Nat.blt h.n (h.n + 1)=true:=zan.mpr (Nat.lt_succ_self _)
 simp only [h1,if_true]
 have:h.n + 1 - 1 - h.n=0:=by omega
 rw [this]; rfl
theorem Rel.alloc (r:Rel K m h H) {p:Addr} {o:VO} {u:HO} (hp:H p=none) (hu:∀ t,u≠.tup t)
 (ho:Stp m h.n H (fun i=>if i=h.n then p else m i) (h.n + 1) (upd H p u)→ORep K (fun i=>if i=h.n then p else m i) (h.n + 1) (upd H p u) p o) :
 Stp m h.n H (fun i=>if i=h.n then p else m i) (h.n + 1) (upd H p u)∧Rel K (fun i=>if i=h.n then p else m i) (h.new o) (upd H p u):=by
 have tr:∀ i,i < h.n→m i≠p:=fun i hi z=>by
  obtain ⟨o',_,h2⟩:=r.obj i hi
  obtain ⟨u',h3⟩:=h2.some
  rw [z,hp] at h3; cases h3
 have st:Stp m h.n H (fun i=>if i=h.n then p else m i) (h.n + 1) (upd H p u):=by
  refine ⟨Nat.le_succ _,fun i hi=>by simp only [if_neg (Nat.ne_of_lt hi)],fun i hi hi2=>?_,fun i j hi hi2 hj=>?_,fun b vs q=>?_,fun b o u q=>?_,fun b o _ q=>?_⟩
  ·have:i=h.n:=by omega
   subst this; simp only [if_true]; exact hp
  ·have:i=h.n:=by omega
   subst this; simp only [if_true,if_neg (Nat.ne_of_lt hj)]; exact (tr j hj).symm
  ·rw [zah (zaf q hp)]; exact q
  ·rw [zah (zaf q hp)]; exact q
  ·rw [zah (zaf q hp)]; exact q
 refine ⟨st,⟨fun i hi=>?_,fun i j hi hj z=>?_,?_⟩⟩
 ·have hi:i < h.n + 1:=hi
  by_cases e:i=h.n
  ·subst e; exact ⟨o,zao,by simp only [if_true]; exact ho st⟩
  ·have hl:i < h.n:=by omega
   obtain ⟨o',h1,h2⟩:=r.obj i hl
   refine ⟨o',(zad hl).trans h1,?_⟩
   simp only [if_neg e]
   exact ORep.stp st (zah (tr i hl)) h2
 ·have hi:i < h.n + 1:=hi
  have hj:j < h.n + 1:=hj
  by_cases e:i=h.n
  ·by_cases e2:j=h.n
   ·omega
   ·simp only [if_pos e,if_neg e2] at z
    exact absurd z.symm (tr j (by omega))
  ·by_cases e2:j=h.n
   ·simp only [if_neg e,if_pos e2] at z
    exact absurd z (tr i (by omega))
   ·simp only [if_neg e,if_neg e2] at z
    exact r.inj i j (by omega) (by omega) z
 ·show (o :: h.os).length=h.n + 1
  rw [vah,r.len]
theorem zhg (r:Rel K m h H) {i:Nat} {o:VO} (hi:i < h.n):(h.set i o).get i=some o:=by
 unfold VH.get VH.set
 have h1:Nat.blt i h.n=true:=zan.mpr hi
 simp only [h1,if_true]
 rw [List.getElem?_set_self]
 rw [r.len]; omega
theorem zdg {i j:Nat} {o:VO} (hi:i < h.n) (hj:j≠i):(h.set i o).get j=h.get j:=by
 unfold VH.get VH.set
 by_cases h1:j < h.n
 ·have h2:Nat.blt j h.n=true:=zan.mpr h1
  simp only [h2,if_true]
  rw [List.getElem?_set_ne]
  omega
 ·have h2:Nat.blt j h.n=false:=by
   cases q:Nat.blt j h.n with
   | false=>rfl
   | true=>exact absurd (zan.mp q) h1
  simp only [h2,vam,if_false]
theorem Rel.write (r:Rel K m h H) {i:Nat} {o:VO} {u u0:HO} (hi:i < h.n) (h0:H (m i)=some u0) (hn:∀ t,u0≠.tup t) (hf:∀ o t,u0≠.frz o t)
 (ho:Stp m h.n H m h.n (upd H (m i) u)→ORep K m h.n (upd H (m i) u) (m i) o) :
 Stp m h.n H m h.n (upd H (m i) u)∧Rel K m (h.set i o) (upd H (m i) u):=by
 have st:Stp m h.n H m h.n (upd H (m i) u):=by
  refine ⟨vae _,fun _ _=>rfl,fun j a b=>absurd b (Nat.not_lt.mpr a),fun j k a b=>absurd b (Nat.not_lt.mpr a),fun b vs q=>?_,fun b o t q=>?_,fun b o nb q=>?_⟩
  ·rw [zah (ne_of q h0 (fun z=>hn vs z.symm))]; exact q
  ·rw [zah (ne_of q h0 (fun z=>hf o t z.symm))]; exact q
  ·rw [zah (nb i hi).symm]; exact q
 refine ⟨st,⟨fun j hj=>?_,fun a b ha hb=>r.inj a b ha hb,?_⟩⟩
 ·have hj:j < h.n:=hj
  by_cases e:j=i
  ·subst e; exact ⟨o,zhg r hj,ho st⟩
  ·obtain ⟨o',h1,h2⟩:=r.obj j hj
   exact ⟨o',(zdg hi e).trans h1,ORep.stp st (zah fun z=>e (r.inj j i hj hi z)) h2⟩
 ·show (h.os.set _ o).length=h.n
  rw [List.length_set,r.len]
theorem Rel.more (r:Rel K m h H) {p:Addr} {u:HO} (hp:H p=none):Stp m h.n H m h.n (upd H p u)∧Rel K m h (upd H p u):=by
 have st:Stp m h.n H m h.n (upd H p u):=by
  refine ⟨vae _,fun _ _=>rfl,fun j a b=>absurd b (Nat.not_lt.mpr a),fun j k a b=>absurd b (Nat.not_lt.mpr a),fun b vs q=>?_,fun b o t q=>?_,fun b o nb q=>?_⟩
  ·rw [zah (zaf q hp)]; exact q
  ·rw [zah (zaf q hp)]; exact q
  ·rw [zah (zaf q hp)]; exact q
 refine ⟨st,⟨fun j hj=>?_,r.inj,r.len⟩⟩
 obtain ⟨o',h1,h2⟩:=r.obj j hj
 obtain ⟨u',h3⟩:=h2.some
 exact ⟨o',h1,ORep.stp st (zah (zaf h3 hp)) h2⟩
end
noncomputable def Grow (h h':VH):Prop:=h.n≤h'.n∧h'.lo≤h.lo∧∀ i,i < h.n→i < h'.lo→h'.get i=h.get i
theorem Grow.refl {h:VH}:Grow h h:=⟨vae _,vae _,fun _ _ _=>rfl⟩
theorem Grow.trans {h h1 h2:VH} (a:Grow h h1) (b:Grow h1 h2):Grow h h2:=⟨Nat.le_trans a.1 b.1,Nat.le_trans b.2.1 a.2.1,fun i hi hl=>(b.2.2 i (vak hi a.1) hl).trans (a.2.2 i hi (vak hl b.2.1))⟩
theorem Grow.new {h:VH} {o:VO}:Grow h (h.new o):=⟨Nat.le_succ _,vae _,fun i hi _=>zad hi⟩
theorem Grow.set {h:VH} {i:Nat} {o:VO} (hi:i < h.n):Grow h (h.set i o):=by
 refine ⟨vae _,?_,fun j hj hl=>zdg hi ?_⟩
 ·show (if Nat.blt i h.lo then i else h.lo)≤h.lo
  split
  ·rename_i q; exact Nat.le_of_lt (zan.mp q)
  ·exact vae _
 ·have hl:j < (if Nat.blt i h.lo then i else h.lo):=hl
  split at hl
  ·omega
  ·rename_i q
   intro z
   rw [z] at hl
   exact q (zan.mpr hl)
noncomputable def Gr {α:Type} (r:Res α) (h:VH):Prop:=∀ a h',r=.ok a h'→Grow h h'
section
variable {α β:Type} {h:VH}
theorem Gr.ok {a:α}:Gr (Res.ok a h) h:=fun _ _ e=>by cases e; exact .refl
theorem Gr.no:Gr (Res.no:Res α) h:=fun _ _ e=>by cases e
theorem Gr.of {o:Option α}:Gr (Res.of o h) h:=fun _ _ e=>by cases o with | none=>cases e | some a=>cases e; exact .refl
theorem Gr.new {a:α} {o:VO}:Gr (Res.ok a (h.new o)) h:=fun _ _ e=>by cases e; exact .new
theorem Gr.set {a:α} {o o':VO} {i:Nat} (g:h.get i=some o'):Gr (Res.ok a (h.set i o)) h:=fun _ _ e=>by cases e; exact .set (zar g)
theorem Gr.bind {r:Res α} {f:α→VH→Res β} (a:Gr r h) (b:∀ x h1,Gr (f x h1) h1):Gr (r.bind f) h:=fun y h' e=>by
 cases r with
 | ok x h1=>exact (a x h1 rfl).trans (b x h1 y h' e)
 | ex _ _=>cases e
 | no=>cases e
end
theorem gr_op {o:Op} {x y:W} {h:VH}:Gr (opW o x y h) h:=by
 unfold opW
 split
 ·exact .of
 ·exact .of
 ·exact .of
 ·split
  ·split
   ·exact .new
   ·exact .no
  ·exact .no
 ·split
  ·split
   ·exact .new
   ·exact .no
  ·exact .no
 ·exact .no
theorem gr_ip {o:Op} {x y:W} {h:VH}:Gr (ipW o x y h) h:=by
 unfold ipW
 split
 ·split
  ·exact .ok
  ·exact .ok
  ·exact .of
  ·exact .of
  ·exact .no
 ·split
  ·split
   ·rename_i g _ _; exact .set g
   ·exact .no
  ·exact .no
 ·exact .no
theorem zvy {x:W} {l u:Option Int} {h:VH}:Gr (slcW x l u h) h:=by
 unfold slcW
 split
 ·exact .ok
 ·split
  ·exact .new
  ·exact .no
 ·exact .no
theorem gr_bi {b:Bi} {xs:List W} {h:VH}:Gr (biW b xs h) h:=by
 cases b <;> simp only [biW]
 ·unfold lenW; split <;> first | exact .of | exact .no
 ·unfold listW
  split
  ·split
   ·exact .new
   ·exact .no
  ·exact .no
 ·unfold zcu; split <;> first | exact .of | exact .no
 ·unfold intW; split <;> first | exact .ok | exact .no
 ·unfold absW; split <;> first | exact .ok | exact .no
 ·unfold maxW; split <;> first | exact .ok | exact .no
 ·unfold minW; split <;> first | exact .ok | exact .no
 ·unfold allW
  split
  ·split
   ·exact .of
   ·exact .no
  ·exact .no
theorem zvz {x w:W} {l u:Option Int} {h:VH}:Gr (ptsW x w l u h) h:=by
 unfold ptsW
 split
 ·split
  ·split
   ·exact .no
   ·split
    ·rename_i g _ _ _; exact .set g
    ·exact .no
  ·exact .no
 ·exact .no
theorem gr_mt {m:Mt} {o:W} {xs:List W} {h:VH}:Gr (mtW m o xs h) h:=by
 unfold mtW
 split
 ·split
  ·split
   ·rename_i g _; exact .set g
   ·exact .no
  ·exact .no
 ·split
  ·exact .ok
  ·exact .no
 ·exact .of
 ·exact .no
theorem zmr {nx:Nat→VH→Option (Option W)} {tg:W→VH→En→Option En} {c e:En→VH→Res W} (hc:∀ ρ h,Gr (c ρ h) h) (he:∀ ρ h,Gr (e ρ h) h):∀ (f i:Nat) (ρ:En) (h:VH) (acc:List W),Gr (lcI nx tg c e f i ρ h acc) h
 | 0,_,_,_,_=>.no
 | f + 1,i,ρ,h,acc=>by
  simp only [lcI]
  split
  ·exact .no
  ·exact .ok
  ·split
   ·exact .no
   ·refine .bind (hc _ _) fun b h1=>?_
    split
    ·exact .bind (he _ _) fun y h2=>zmr hc he f _ _ _ _
    ·exact zmr hc he f _ _ _ _
    ·exact .no
theorem zms {nx:Nat→VH→Option (Option W)} {tg:W→VH→En→Option En} {c:En→VH→Res W} {e:En→VH→List W→Res (En × List W)} (hc:∀ ρ h,Gr (c ρ h) h) (he:∀ ρ h acc,Gr (e ρ h acc) h):∀ (f i:Nat) (ρ:En) (h:VH) (acc:List W),Gr (lcO nx tg c e f i ρ h acc) h
 | 0,_,_,_,_=>.no
 | f + 1,i,ρ,h,acc=>by
  simp only [lcO]
  split
  ·exact .no
  ·exact .ok
  ·split
   ·exact .no
   ·refine .bind (hc _ _) fun b h1=>?_
    split
    ·exact .bind (he _ _ _) fun y h2=>zms hc he f _ _ _ _
    ·exact zms hc he f _ _ _ _
    ·exact .no
theorem gr_lc {nx:Nat→VH→Option (Option W)} {tg:W→VH→En→Option En} {c e:En→VH→Res W} (hc:∀ ρ h,Gr (c ρ h) h) (he:∀ ρ h,Gr (e ρ h) h):∀ (f i:Nat) (ρ:En) (h:VH) (acc:List W),Gr (lcG nx tg c e f i ρ h acc) h
 | 0,_,_,_,_=>.no
 | f + 1,i,ρ,h,acc=>by
  simp only [lcG]
  split
  ·exact .no
  ·exact .ok
  ·split
   ·exact .no
   ·refine .bind (hc _ _) fun b h1=>?_
    split
    ·exact .bind (he _ _) fun y h2=>gr_lc hc he f _ _ _ _
    ·exact gr_lc hc he f _ _ _ _
    ·exact .no
theorem gr_dc {nx:Nat→VH→Option (Option W)} {tg:W→VH→En→Option En} {c e v:En→VH→Res W} (hc:∀ ρ h,Gr (c ρ h) h) (he:∀ ρ h,Gr (e ρ h) h) (hv:∀ ρ h,Gr (v ρ h) h):∀ (f i:Nat) (ρ:En) (h:VH) (acc:List (L2.Key × W)),Gr (dcG nx tg c e v f i ρ h acc) h
 | 0,_,_,_,_=>.no
 | f + 1,i,ρ,h,acc=>by
  simp only [dcG]
  split
  ·exact .no
  ·exact .ok
  ·split
   ·exact .no
   ·refine .bind (hc _ _) fun b h1=>?_
    split
    ·refine .bind (he _ _) fun y h2=>.bind (hv _ _) fun z h3=>?_
     split
     ·split
      ·exact gr_dc hc he hv f _ _ _ _
      ·exact .no
     ·exact .no
    ·exact gr_dc hc he hv f _ _ _ _
    ·exact .no
theorem zmt {nx:Nat→VH→Option (Option W)} {tg:W→VH→En→Option En} {b:En→VH→Res Fl} (hb:∀ ρ h,Gr (b ρ h) h):∀ (f i:Nat) (ρ:En) (h:VH),Gr (forG nx tg b f i ρ h) h
 | 0,_,_,_=>.no
 | f + 1,i,ρ,h=>by
  simp only [forG]
  split
  ·exact .no
  ·exact .ok
  ·split
   ·exact .no
   ·refine .bind (hb _ _) fun fl h1=>?_
    split
    ·exact zmt hb f _ _ _
    ·exact zmt hb f _ _ _
    ·exact .ok
    ·exact .ok
theorem zmu {c:En→VH→Res W} {b:En→VH→Res Fl} (hc:∀ ρ h,Gr (c ρ h) h) (hb:∀ ρ h,Gr (b ρ h) h):∀ (f:Nat) (ρ:En) (h:VH),Gr (whlG c b f ρ h) h
 | 0,_,_=>.no
 | f + 1,ρ,h=>by
  simp only [whlG]
  refine .bind (hc _ _) fun t h1=>?_
  split
  ·exact .ok
  ·refine .bind (hb _ _) fun fl h2=>?_
   split
   ·exact zmu hc hb f _ _
   ·exact zmu hc hb f _ _
   ·exact .ok
   ·exact .ok
  ·exact .no
section
variable {cl:Call}
theorem gr_ev (hcl:∀ f ws h,Gr (cl f ws h) h):∀ (e:E) (ρ:En) (h:VH),Gr (ev cl e ρ h) h:=by
 intro e
 induction e with
 | var i=>intro ρ h; exact .of
 | cst w=>intro ρ h; exact .ok
 | nil=>intro ρ h; exact .ok
 | cons a r i1 i2=>intro ρ h; simp only [ev]; refine .bind (i1 _ _) fun x h1=>.bind (i2 _ _) fun y h2=>?_; split <;> first | exact .ok | exact .no
 | tup a i1=>intro ρ h; simp only [ev]; refine .bind (i1 _ _) fun x h1=>?_; split <;> first | (split <;> first | exact .ok | exact .no) | exact .no
 | lst a i1=>intro ρ h; simp only [ev]; refine .bind (i1 _ _) fun x h1=>?_; split <;> first | (split <;> first | exact .new | exact .no) | exact .no
 | dsp a i1=>
  intro ρ h; simp only [ev]; refine .bind (i1 _ _) fun x h1=>?_
  split
  ·split
   ·split
    ·exact .new
    ·exact .no
   ·unfold dspD
    split
    ·split
     ·exact .new
     ·exact .no
    ·exact .no
  ·exact .no
 | op o a b i1 i2=>intro ρ h; simp only [ev]; exact .bind (i1 _ _) fun x h1=>.bind (i2 _ _) fun y h2=>gr_op
 | neg a i1=>intro ρ h; simp only [ev]; refine .bind (i1 _ _) fun x h1=>?_; split <;> first | exact .ok | exact .no
 | cmp c a b i1 i2=>intro ρ h; simp only [ev]; exact .bind (i1 _ _) fun x h1=>.bind (i2 _ _) fun y h2=>.of
 | chn c d a b e i1 i2 i3=>
  intro ρ h; simp only [ev]; refine .bind (i1 _ _) fun x h1=>.bind (i2 _ _) fun y h2=>?_
  split
  ·exact .bind (i3 _ _) fun z h3=>.of
  ·exact .ok
  ·exact .no
 | not a i1=>intro ρ h; simp only [ev]; refine .bind (i1 _ _) fun x h1=>?_; split <;> first | exact .ok | exact .no
 | and a b i1 i2=>intro ρ h; simp only [ev]; refine .bind (i1 _ _) fun x h1=>?_; split <;> first | exact i2 _ _ | exact .ok | exact .no
 | or a b i1 i2=>intro ρ h; simp only [ev]; refine .bind (i1 _ _) fun x h1=>?_; split <;> first | exact i2 _ _ | exact .ok | exact .no
 | tru a i1=>intro ρ h; simp only [ev]; exact .bind (i1 _ _) fun x h1=>.of
 | ite c a b i1 i2 i3=>
  intro ρ h; simp only [ev]; refine .bind (i1 _ _) fun x h1=>?_
  split
  ·exact i2 _ _
  ·exact i3 _ _
  ·exact .no
 | idx a b i1 i2=>intro ρ h; simp only [ev]; exact .bind (i1 _ _) fun x h1=>.bind (i2 _ _) fun y h2=>.of
 | slc a bl lo bh hi i1 i2 i3=>
  intro ρ h; simp only [ev]; refine .bind (i1 _ _) fun x h1=>.bind (i2 _ _) fun y h2=>.bind (i3 _ _) fun z h3=>?_
  split
  ·exact zvy
  ·exact .no
 | call f a i1=>intro ρ h; simp only [ev]; refine .bind (i1 _ _) fun x h1=>?_; split <;> first | exact hcl _ _ _ | exact .no
 | bi b a i1=>intro ρ h; simp only [ev]; refine .bind (i1 _ _) fun x h1=>?_; split <;> first | exact gr_bi | exact .no
 | isi t a i1=>intro ρ h; simp only [ev]; exact .bind (i1 _ _) fun x h1=>.of
 | mt m o a i1 i2=>
  intro ρ h; simp only [ev]; refine .bind (i1 _ _) fun x h1=>?_
  split
  ·refine .bind (i2 _ _) fun y h2=>?_
   split <;> first | exact gr_mt | exact .no
  ·exact .no
 | lc k a t ow ix c e i1 i2 i3=>
  intro ρ h; simp only [ev]
  refine .bind (i1 _ _) fun x h1=>.bind (gr_lc i2 i3 _ _ _ _ _) fun ys h2=>?_
  split
  ·exact .new
  ·exact .no
 | lc2 k a t ow ix c k2 a2 t2 c2 e i1 i2 i3 i4 i5=>
  intro ρ h; simp only [ev]
  refine .bind (i1 _ _) fun x h1=>.bind (zms i2 (fun ρ h acc=>.bind (i3 _ _) fun y h2=>zmr i4 i5 _ _ _ _ _) _ _ _ _ _) fun ys h2=>?_
  split
  ·exact .new
  ·exact .no
 | mk C f a i1=>
  intro ρ h; simp only [ev]; refine .bind (i1 _ _) fun y h1=>?_
  split
  ·intro b h' e
   refine Grow.new.trans (Gr.bind (hcl _ _ _) (fun v h2=>?_) b h' e)
   split
   ·exact .ok
   ·exact .no
  ·exact .no
 | mcall C mt f o a i1 i2=>
  intro ρ h; simp only [ev]; refine .bind (i1 _ _) fun x h1=>?_
  split
  ·refine .bind (i2 _ _) fun y h2=>?_
   split
   ·exact hcl _ _ _
   ·exact .no
  ·exact .no
 | att C x a i1=>intro ρ h; simp only [ev]; exact .bind (i1 _ _) fun x h1=>.of
 | dc k a t ow ix c e v i1 i2 i3 i4=>
  intro ρ h; simp only [ev]
  exact .bind (i1 _ _) fun x h1=>.bind (gr_dc i2 i3 i4 _ _ _ _ _) fun ys h2=>.new
theorem zhh (hcl:∀ f ws h,Gr (cl f ws h) h):∀ (s:S) (ρ:En) (h:VH),Gr (exs cl s ρ h) h:=by
 have ge:=gr_ev hcl
 intro s
 induction s with
 | skip=>intro ρ h; exact .ok
 | seq a b i1 i2=>intro ρ h; simp only [exs]; refine .bind (i1 _ _) fun fl h1=>?_; split <;> first | exact i2 _ _ | exact .ok
 | set i e=>intro ρ h; simp only [exs]; exact .bind (ge _ _ _) fun w h1=>.ok
 | unp is e=>intro ρ h; simp only [exs]; exact .bind (ge _ _ _) fun w h1=>.of
 | aug i o e=>
  intro ρ h; simp only [exs]
  split
  ·exact .bind (ge _ _ _) fun y h1=>.bind gr_ip fun z h2=>.ok
  ·exact .no
 | sat C x o v=>
  intro ρ h; simp only [exs]
  refine .bind (ge _ _ _) fun w h1=>.bind (ge _ _ _) fun o h2=>?_
  unfold satW
  split
  ·split
   ·split
    ·rename_i g _; exact .set g
    ·exact .no
   ·exact .no
  ·exact .no
 | put o i v=>
  intro ρ h; simp only [exs]
  refine .bind (ge _ _ _) fun w h1=>.bind (ge _ _ _) fun x h2=>.bind (ge _ _ _) fun y h3=>?_
  split
  ·split
   ·split
    ·rename_i g _ _ _; exact .set g
    ·exact .no
   ·exact .no
  ·unfold putD
   split
   ·split
    ·rename_i g _ _; exact .set g
    ·exact .no
   ·exact .no
  ·exact .no
 | pts o bl lo bh hi v=>
  intro ρ h; simp only [exs]
  refine .bind (ge _ _ _) fun w h1=>.bind (ge _ _ _) fun x h2=>.bind (ge _ _ _) fun l h3=>.bind (ge _ _ _) fun u h4=>?_
  split
  ·exact .bind zvz fun _ h5=>.ok
  ·exact .no
 | ite c a b i1 i2=>
  intro ρ h; simp only [exs]; refine .bind (ge _ _ _) fun x h1=>?_
  split
  ·exact i1 _ _
  ·exact i2 _ _
  ·exact .no
 | ret e=>intro ρ h; simp only [exs]; exact .bind (ge _ _ _) fun w h1=>.ok
 | expr e=>intro ρ h; simp only [exs]; exact .bind (ge _ _ _) fun w h1=>.ok
 | brk=>intro ρ h; exact .ok
 | cnt=>intro ρ h; exact .ok
 | «for» k a t b i1=>intro ρ h; simp only [exs]; exact .bind (ge _ _ _) fun x h1=>zmt i1 _ _ _ _
 | whl c b i1=>intro ρ h; simp only [exs]; exact zmu (ge c) i1 _ _ _
 | no=>intro ρ h; exact .no
end
theorem zhi (F:Nat→Option Fn):∀ (k f:Nat) (ws:List W) (h:VH),Gr (run F k f ws h) h
 | 0,_,_,_=>.no
 | k + 1,f,ws,h=>by
  intro a h' e
  simp only [run] at e
  split at e
  ·rename_i fn hf
   split at e
   ·rename_i hl
    generalize hr:exs (run F k) fn.body (ws.map some++List.replicate (fn.n - fn.ps) none) ⟨h.n,h.n,h.os⟩=r at e
    have g:=zhh (zhi F k) fn.body (ws.map some++List.replicate (fn.n - fn.ps) none) ⟨h.n,h.n,h.os⟩
    rw [hr] at g
    have lv:∀ w h1,Grow ⟨h.n,h.n,h.os⟩ h1→leave h w h1=.ok a h'→Grow h h':=by
     intro w h1 g1 e1
     unfold leave at e1
     split at e1
     ·cases e1; exact .refl
     ·cases e1
      refine ⟨g1.1,?_,fun i hi hlo=>?_⟩
      ·show (if Nat.ble h.lo h1.lo then h.lo else h1.lo)≤h.lo
       split
       ·exact vae _
       ·rename_i q
        exact Nat.le_of_not_le fun z=>q (Nat.ble_eq.mpr z)
      ·have hlo:i < (if Nat.ble h.lo h1.lo then h.lo else h1.lo):=hlo
       have hh:i < h1.lo:=by
        split at hlo
        ·rename_i q; exact vak hlo (Nat.le_of_ble_eq_true q)
        ·exact hlo
       exact g1.2.2 i hi hh
    cases r with
    | no=>cases e
    | ex _ _=>cases e
    | ok fl h1=>
     have g1:=g fl h1 rfl
     simp only [Res.bind] at e
     split at e
     ·exact lv _ _ g1 e
     ·exact lv _ _ g1 e
     ·cases e
   ·cases e
  ·cases e
theorem zae {α β:Type} {r:Res α} {f:α→VH→Res β} {b:β} {h':VH} (q:r.bind f=.ok b h'):∃ a h1,r=.ok a h1∧f a h1=.ok b h':=by
 cases r with
 | ok a h=>exact ⟨a,h,rfl,q⟩
 | ex x h=>cases q
 | no=>cases q
theorem of_ok {α:Type} {o:Option α} {h h':VH} {a:α} (q:Res.of o h=.ok a h'):o=some a∧h'=h:=by
 cases o with
 | none=>cases q
 | some b=>cases q; exact ⟨rfl,rfl⟩
structure Fr (K:PySem.W.Frag) (m:Nat→Addr) (n:Nat) (H:Hp) (σ:L2.St) (ρ:En):Prop where
 len:σ.length=ρ.length
 val:∀ (i:Nat) (w:W),ρ[i]?=some (some w)→∃ v,σ[i]?=some (some v)∧VRep K m n H v w
noncomputable abbrev FE:=En→VH→Res W
noncomputable abbrev FS:=En→VH→Res Fl
noncomputable def lft (K:PySem.W.Frag) (f:FE):TE:=fun σ H Q=>∃ ρ h m w h',Fr K m h.n H σ ρ∧Rel K m h H∧f ρ h=.ok w h' ∧
 ∀ v H' m',Stp m h.n H m' h'.n H'→Rel K m' h' H'→VRep K m' h'.n H' v w→Q v H'
noncomputable def lftT (K:PySem.W.Frag) (f:FE):TT:=fun σ H Q=>∃ ρ h m b h',Fr K m h.n H σ ρ∧Rel K m h H∧f ρ h=.ok (.bl b) h' ∧
 ∀ H' m',Stp m h.n H m' h'.n H'→Rel K m' h' H'→Q b H'
noncomputable def lftA (K:PySem.W.Frag) (f:FE):TA:=fun σ H Q=>∃ ρ h m ws h',Fr K m h.n H σ ρ∧Rel K m h H∧f ρ h=.ok (.tup ws) h' ∧
 ∀ vs H' m',Stp m h.n H m' h'.n H'→Rel K m' h' H'→VReps K m' h'.n H' vs ws→Q vs H'
noncomputable abbrev SE (X:Cx) (e:Expr) (f:FE):Prop:=PE X e (lft X.K f)
noncomputable abbrev ST (X:Cx) (e:Expr) (f:FE):Prop:=PT X e (lftT X.K f)
noncomputable abbrev SW (X:Cx) (e:Expr) (f:FE):Prop:=PW X e (lftT X.K f)
noncomputable abbrev SA (X:Cx) (es:List Expr) (f:FE):Prop:=PA X es (lftA X.K f)
theorem _root_.L2.PE.imp {X:Cx} {e:Expr} {t t':TE} (h:PE X e t) (k:∀ σ H Q,t' σ H Q→t σ H Q):PE X e t':=fun pins s σ H Q I q=>h pins s σ H Q I (k σ H Q q)
theorem _root_.L2.PT.imp {X:Cx} {e:Expr} {t t':TT} (h:PT X e t) (k:∀ σ H Q,t' σ H Q→t σ H Q):PT X e t':=fun pins s σ H Q I q=>h pins s σ H Q I (k σ H Q q)
theorem _root_.L2.PW.imp {X:Cx} {e:Expr} {t t':TT} (h:PW X e t) (k:∀ σ H Q,t' σ H Q→t σ H Q):PW X e t':=fun wh pins s σ H Q I q=>h wh pins s σ H Q I (k σ H Q q)
theorem _root_.L2.PA.imp {X:Cx} {es:List Expr} {t t':TA} (h:PA X es t) (k:∀ σ H Q,t' σ H Q→t σ H Q):PA X es t':=fun p pins s σ H Q I q=>h p pins s σ H Q I (k σ H Q q)
theorem _root_.L2.PS.imp {X:Cx} {st:Stmt} {t t':TS} (h:PS X st t) (k:∀ D σ H,t' D σ H→t D σ H):PS X st t':=fun pins s σ H D I q=>h pins s σ H D I (k D σ H q)
theorem _root_.L2.PSs.imp {X:Cx} {st:List Stmt} {t t':TS} (h:PSs X st t) (k:∀ D σ H,t' D σ H→t D σ H):PSs X st t':=fun pins s σ H D I q=>h pins s σ H D I (k D σ H q)
section
variable {K:PySem.W.Frag} {m m':Nat→Addr} {n n':Nat} {h h':VH} {H H':Hp} {σ:L2.St} {ρ:En}
theorem Fr.stp (f:Fr K m n H σ ρ) (s:Stp m n H m' n' H'):Fr K m' n' H' σ ρ:=⟨f.len,fun i w e=>let ⟨v,h1,h2⟩:=f.val i w e; ⟨v,h1,h2.stp s⟩⟩
theorem Fr.set (f:Fr K m n H σ ρ) {v:V} {w:W} (q:VRep K m n H v w) (i:Nat):Fr K m n H (σ.set i (some v)) (ρ.set i (some w)):=by
 refine ⟨by rw [List.length_set,List.length_set]; exact f.len,fun j w' e=>?_⟩
 by_cases hj:i=j
 ·subst hj
  by_cases hl:i < ρ.length
  ·rw [List.getElem?_set_self hl] at e
   cases e
   exact ⟨v,by rw [List.getElem?_set_self (by rw [f.len]; exact hl)],q⟩
  ·rw [List.getElem?_eq_none (by rw [List.length_set]; omega)] at e; cases e
 ·rw [List.getElem?_set_ne hj] at e
  obtain ⟨v',h1,h2⟩:=f.val j w' e
  exact ⟨v',by rw [List.getElem?_set_ne hj]; exact h1,h2⟩
noncomputable def Wants (K:PySem.W.Frag) (m:Nat→Addr) (n:Nat) (H:Hp) (w:W) (h':VH) (Q:VK):Prop:=∀ v H' m',Stp m n H m' h'.n H'→Rel K m' h' H'→VRep K m' h'.n H' v w→Q v H'
theorem Wants.here {w:W} {Q:VK} (k:Wants K m h.n H w h Q) (r:Rel K m h H) {v:V} (q:VRep K m h.n H v w):Q v H:=k v H m .refl r q
theorem Wants.list {ws:List W} {vs:List V} {Q:VK} (k:Wants K m h.n H (.ref h.n) (h.new (.lst ws)) Q) (r:Rel K m h H) (q:VReps K m h.n H vs ws) {p:Addr} (hp:H p=none):Q (.ref p) (upd H p (.lst vs)):=by
 obtain ⟨st,r'⟩:=r.alloc (o:=.lst ws) (u:=.lst vs) hp (fun _ z=>nomatch z) (fun st=>⟨vs,zap,q.stp st⟩)
 refine k _ _ _ st r' ?_
 have:VRep K (fun i=>if i=h.n then p else m i) (h.n + 1) (upd H p (.lst vs)) (.ref ((fun i=>if i=h.n then p else m i) h.n)) (.ref h.n):=.ref (Nat.lt_succ_self _)
 simp only [if_true] at this
 exact this
theorem Wants.dictD {ks ws:List W} {xs:DX} {u:HO} {Q:VK} (k:Wants K m h.n H (.ref h.n) (h.new (.dt ks ws)) Q) (r:Rel K m h H) {p:Addr} (hp:H p=none) (hu:u=dtH xs p∨(xs=[]∧u=.dK [])) (q0:mapO keyD ks=some (xs.map (·.1))) (q1:VReps K m h.n H (xs.map fun x=>.ref x.2.1) ks) (q2:VReps K m h.n H (xs.map fun x=>x.2.2) ws):Q (.ref p) (upd H p u):=by
 obtain ⟨st,r'⟩:=r.alloc (o:=.dt ks ws) (u:=u) hp (fun t z=>by rcases hu with e | ⟨_,e⟩ <;> (rw [e] at z; exact nomatch z)) (fun st=>⟨xs,hu.imp (fun e=>by rw [zap,e]) fun ⟨a,e⟩=>⟨a,by rw [zap,e]⟩,q0,q1.stp st,q2.stp st⟩)
 refine k _ _ _ st r' ?_
 have:VRep K (fun i=>if i=h.n then p else m i) (h.n + 1) (upd H p u) (.ref ((fun i=>if i=h.n then p else m i) h.n)) (.ref h.n):=.ref (Nat.lt_succ_self _)
 simp only [if_true] at this
 exact this
theorem Wants.tuple {ws:List W} {vs:List V} {Q:VK} (k:Wants K m h.n H (.tup ws) h Q) (r:Rel K m h H) (q:VReps K m h.n H vs ws) {p:Addr} (hp:H p=none):Q (.ref p) (upd H p (.tup vs)):=by
 obtain ⟨st,r'⟩:=r.more (u:=.tup vs) hp
 exact k _ _ _ st r' (.tup (SqT.of zap) (q.stp st))
theorem zqy {fa:FE} {g:W→VH→Res W} {G:V→Hp→VK→Prop}
 (hG:∀ (m:Nat→Addr) (h:VH) (H:Hp) (v:V) (x w:W) (h':VH) (Q:VK),Rel K m h H→VRep K m h.n H v x→g x h=.ok w h'→Wants K m h.n H w h' Q→G v H Q) {Q:VK}
 (q:lft K (fun ρ h=>(fa ρ h).bind fun x h=>g x h) σ H Q):lft K fa σ H fun v H1=>G v H1 Q:=by
 obtain ⟨ρ,h,m,w,h',f,r,e,k⟩:=q
 obtain ⟨x,h1,e1,e2⟩:=zae e
 exact ⟨ρ,h,m,x,h1,f,r,e1,fun v H1 m1 s1 r1 q1=>hG m1 h1 H1 v x w h' Q r1 q1 e2 fun v' H' m' s' r' q'=>k v' H' m' (s1.trans s') r' q'⟩
theorem zga {fa fb:FE} {g:W→W→VH→Res W} {G:V→V→Hp→VK→Prop}
 (hG:∀ (m:Nat→Addr) (h:VH) (H:Hp) (v u:V) (x y w:W) (h':VH) (Q:VK),Rel K m h H→VRep K m h.n H v x→VRep K m h.n H u y→g x y h=.ok w h'→Wants K m h.n H w h' Q→G v u H Q) {Q:VK}
 (q:lft K (fun ρ h=>(fa ρ h).bind fun x h=>(fb ρ h).bind fun y h=>g x y h) σ H Q):lft K fa σ H fun v H1=>lft K fb σ H1 fun u H2=>G v u H2 Q:=by
 obtain ⟨ρ,h,m,w,h',f,r,e,k⟩:=q
 obtain ⟨x,h1,e1,e2⟩:=zae e
 obtain ⟨y,h2,e3,e4⟩:=zae e2
 refine ⟨ρ,h,m,x,h1,f,r,e1,fun v H1 m1 s1 r1 q1=>⟨ρ,h1,m1,y,h2,f.stp s1,r1,e3,fun u H2 m2 s2 r2 q2=>?_⟩⟩
 exact hG m2 h2 H2 v u x y w h' Q r2 (q1.stp s2) q2 e4 fun v' H' m' s' r' q'=>k v' H' m' ((s1.trans s2).trans s') r' q'
theorem zdh {fa:FE} {g:List W→VH→Res W} {G:List V→Hp→VK→Prop}
 (hG:∀ (m:Nat→Addr) (h:VH) (H:Hp) (vs:List V) (xs:List W) (w:W) (h':VH) (Q:VK),Rel K m h H→VReps K m h.n H vs xs→g xs h=.ok w h'→Wants K m h.n H w h' Q→G vs H Q) {Q:VK}
 (q:lft K (fun ρ h=>(fa ρ h).bind fun y h=>match y with | .tup ys=>g ys h | _=>.no) σ H Q):lftA K fa σ H fun vs H1=>G vs H1 Q:=by
 obtain ⟨ρ,h,m,w,h',f,r,e,k⟩:=q
 obtain ⟨x,h1,e1,e2⟩:=zae e
 cases x with
 | tup ys=>exact ⟨ρ,h,m,ys,h1,f,r,e1,fun vs H1 m1 s1 r1 q1=>hG m1 h1 H1 vs ys w h' Q r1 q1 e2 fun v' H' m' s' r' q'=>k v' H' m' (s1.trans s') r' q'⟩
 | _=>cases e2
theorem zjx {f:FE} {Q:Bool→Hp→Prop} (q:lftT K f σ H Q):lft K f σ H fun x H'=>∃ k,x=.bl k∧Q k H':=by
 obtain ⟨ρ,h,m,b,h',f,r,e,k⟩:=q
 exact ⟨ρ,h,m,.bl b,h',f,r,e,fun v H' m' s' r' q'=>by cases q'; exact ⟨b,rfl,k H' m' s' r'⟩⟩
end
section
variable {X:Cx} {a b c e:Expr} {es:List Expr} {fa fb fc:FE} {pos:Pos}
theorem zv0 {i:Nat} {x:Str} {pos:Pos} (hN:X.N[i]?=some x) (hv:Vis X.env.scope x) (hd:(x == ("__debug__" : Str))=false) (hcd:(x == ("__classdict__" : Str))=false):SE X (.Name x pos) (fun ρ h=>.of (ρ[i]?).join h):=
 (zua hN hv hd hcd).imp fun σ H Q hq0=>by
   obtain ⟨ρ,h,m,w,h',f,r,e,k⟩:=hq0
   obtain ⟨e1,e2⟩:=of_ok e
   subst e2
   have e3:ρ[i]?=some (some w):=by
    cases q:ρ[i]? with
    | none=>rw [q] at e1; cases e1
    | some o=>rw [q] at e1; rw [← e1]; rfl
   obtain ⟨v,h1,h2⟩:=f.val i w e3
   exact ⟨v,h1,k v H m .refl r h2⟩
theorem zhj {w:W} {v:V} (h:PE X e (tC v)) (hv:∀ m n H,VRep X.K m n H v w):SE X e (fun _ h=>.ok w h):=
 h.imp fun σ H Q ⟨ρ,h,m,w,h',f,r,e,k⟩=>by cases e; exact k v H m .refl r (hv m h.n H)
theorem zv1 {i j pos}:SE X (.Constant (.int i) j pos) (fun _ h=>.ok (.int i) h):=zhj zub fun _ _ _=>.int i
theorem se_bl {i j pos}:SE X (.Constant (.bool i) j pos) (fun _ h=>.ok (.bl i) h):=zhj pe_bl fun _ _ _=>.bl i
theorem zv2 {j pos}:SE X (.Constant .none j pos) (fun _ h=>.ok .non h):=zhj zuc fun _ _ _=>.non
theorem zv3 {i j pos}:SE X (.Constant (.str i) j pos) (fun _ h=>.ok (.str i) h):=zhj zud fun _ _ _=>.str i
theorem zjy:SA X [] (fun _ h=>.ok (.tup []) h):=zjo.imp fun σ H Q ⟨ρ,h,m,ws,h',f,r,e,k⟩=>by cases e; exact k [] H m .refl r .nil
theorem zdi (ha:SE X e fa) (hr:SA X es fb) (hs:starEach (e :: es) X.env=(false,eval e X.env) :: starEach es X.env) :
 SA X (e :: es) (fun ρ h=>(fa ρ h).bind fun x h=>(fb ρ h).bind fun y h=>match y with | .tup ys=>.ok (.tup (x :: ys)) h | _=>.no):=
 (zee ha hr hs).imp fun σ H Q hq0=>by
   obtain ⟨ρ,h,m,ws,h',f,r,e,k⟩:=hq0
   obtain ⟨x,h1,e1,e2⟩:=zae e
   obtain ⟨y,h2,e3,e4⟩:=zae e2
   cases y with
   | tup ys=>
    cases e4
    exact ⟨ρ,h,m,x,h1,f,r,e1,fun v H1 m1 s1 r1 q1=>⟨ρ,h1,m1,ys,h',f.stp s1,r1,e3,fun vs H2 m2 s2 r2 q2=>k _ H2 m2 (s1.trans s2) r2 (.cons (q1.stp s2) q2)⟩⟩
   | _=>cases e4
theorem zqz {k:Nat} (h:Nat.ble k 1000=true):k≤sizeLine:=Nat.le_of_lt (zhd (Nat.le_of_ble_eq_true h))
theorem zv4 {x1:Nat} (ha:SA X es fa):SE X (.Tuple es x1 pos) (fun ρ h=>(fa ρ h).bind fun y h=>match y with | .tup ys=>(if Nat.ble ys.length 1000 then .ok (.tup ys) h else .no) | _=>.no):=
 (zu5 ha).imp fun σ H Q q=>zdh (g:=fun ys h=>if Nat.ble ys.length 1000 then .ok (.tup ys) h else .no) (G:=fun xs H1 Q=>xs.length≤sizeLine∧∀ p,H1 p=none→Q (.ref p) (upd H1 p (.tup xs)))
   (fun m h H vs xs w h' Q r q e k=>by
     split at e
     ·rename_i hl
      cases e
      exact ⟨by rw [q.length]; exact zqz hl,fun p hp=>Wants.tuple k r q hp⟩
     ·cases e) q
theorem zv5 (ha:SA X es fa):SE X (.List es pos) (fun ρ h=>(fa ρ h).bind fun y h=>match y with | .tup ys=>(if Nat.ble ys.length 1000 then .ok (.ref h.n) (h.new (.lst ys)) else .no) | _=>.no):=
 (zu6 ha).imp fun σ H Q q=>zdh (g:=fun ys h=>if Nat.ble ys.length 1000 then .ok (.ref h.n) (h.new (.lst ys)) else .no) (G:=fun xs H1 Q=>xs.length≤sizeLine∧∀ p,H1 p=none→Q (.ref p) (upd H1 p (.lst xs)))
   (fun m h H vs xs w h' Q r q e k=>by
     split at e
     ·rename_i hl
      cases e
      exact ⟨by rw [q.length]; exact zqz hl,fun p hp=>Wants.list k r q hp⟩
     ·cases e) q
noncomputable def OpV (K:PySem.W.Frag) (r:R2) (g:W→W→VH→Res W):Prop:=∀ (m:Nat→Addr) (h:VH) (H:Hp) (v u:V) (x y w:W) (h':VH) (Q:VK),Rel K m h H→VRep K m h.n H v x→VRep K m h.n H u y→g x y h=.ok w h'→Wants K m h.n H w h' Q→r v u H Q
theorem se_op {O:Operator} {r:R2} {g:W→W→VH→Res W} (ho:OpR X (binaryOp O) r) (hg:OpV X.K r g) (ha:SE X a fa) (hb:SE X b fb):SE X (.BinOp a O b pos) (fun ρ h=>(fa ρ h).bind fun x h=>(fb ρ h).bind fun y h=>g x y h):=
 (pe_op ho ha hb).imp fun σ H Q q=>zga (G:=r) hg q
noncomputable def opOf:Operator→Option Op
 | .Add=>some .add | .Sub=>some .sub | .Mult=>some .mul | .FloorDiv=>some .fdiv | .Mod=>some .mod | .LShift=>some .shl | .Pow=>some .pow
 | _=>none
noncomputable def cI:Op→Int→Int→Prop
 | .mul=>CMul | .fdiv=>CDiv | .mod=>fun _ j=>0 < j | .shl=>CPow | .pow=>CPow
 | _=>fun _ _=>True
noncomputable def gI:Op→Int→Int→Int
 | .add=>(· + ·) | .sub=>(· - ·) | .mul=>(· * ·) | .fdiv=>(· / ·) | .mod=>(· % ·) | .shl=>fun i j=>i * 2 ^ j.toNat | .pow=>fun i j=>i ^ j.toNat
noncomputable def rX (K:PySem.W.Frag):Op→R2
 | .add=>fun x y H Q=>rCatT K x y H Q∨zqv K x y H Q∨rCat x y H Q
 | .mul=>fun x y H Q=>rRepT K x y H Q∨rRep x y H Q
 | _=>fun _ _ _ _=>False
noncomputable def rB (K:PySem.W.Frag) (o:Op):R2:=fun x y H Q=>rI (cI o) (fun i j=>.int (gI o i j)) x y H Q∨rX K o x y H Q
theorem zcf {f:Value→Value→Sem Value} {r r':R2} (h:OpR X f r) (k:∀ x y H Q,r' x y H Q→r x y H Q):OpR X f r':=fun pins s σ H x y v u Q I rx ry q=>h pins s σ H x y v u Q I rx ry (k _ _ _ _ q)
theorem op_ok {O:Operator} {o:Op} (e:opOf O=some o):OpR X (binaryOp O) (rB X.K o):=by
 have tr:∀ {g:Int→Int→V} {x y H Q},rI (fun _ _=>True) g x y H Q→rI0 g x y H Q:=fun ⟨i,j,h1,h2,_,h3⟩=>⟨i,j,h1,h2,h3⟩
 cases O <;> cases e
 ·exact zcf (zuw.or (zsf.or (zph.or zvc))) fun x y H Q q=>q.elim (fun z=>.inl (tr z)) .inr
 ·exact zcf zux fun x y H Q q=>q.elim (fun z=>tr z) fun z=>z.elim
 ·exact zcf (zuy.or (zsp.or zvd)) fun x y H Q q=>q
 ·exact zcf zuz fun x y H Q q=>q.elim id fun z=>z.elim
 ·exact zcf zu0 fun x y H Q q=>q.elim id fun z=>z.elim
 ·exact zcf zu1 fun x y H Q q=>q.elim id fun z=>z.elim
 ·exact zcf zr6 fun x y H Q q=>q.elim id fun z=>z.elim
theorem zel {i:Int} (h:zbd i=true):-(2 ^ 64) < i∧i < 2 ^ 64:=by
 unfold zbd at h
 rw [vac] at h
 exact ⟨of_decide_eq_true h.1,of_decide_eq_true h.2⟩
theorem zmv {o:Op} {i j z:Int} (e:opI o i j=some z):cI o i j∧z=gI o i j:=by
 cases o <;> simp only [opI] at e
 ·cases e; exact ⟨trivial,rfl⟩
 ·cases e; exact ⟨trivial,rfl⟩
 ·split at e
  ·rename_i hc
   cases e
   rw [Bool.or_eq_true] at hc
   exact ⟨hc.elim (fun q=>.inl (zel q)) (fun q=>.inr (zel q)),rfl⟩
  ·cases e
 ·split at e
  ·rename_i hc
   cases e
   rw [vac] at hc
   exact ⟨⟨of_decide_eq_true hc.1,of_decide_eq_true hc.2⟩,rfl⟩
  ·cases e
 ·split at e
  ·rename_i hc
   cases e
   exact ⟨(of_decide_eq_true hc:0 < j),rfl⟩
  ·cases e
 ·split at e
  ·rename_i hc
   cases e
   rw [vac,vac] at hc
   exact ⟨⟨of_decide_eq_true hc.1.1,of_decide_eq_true hc.1.2,of_decide_eq_true hc.2⟩,rfl⟩
  ·cases e
 ·split at e
  ·rename_i hc
   cases e
   rw [vac,vac] at hc
   exact ⟨⟨of_decide_eq_true hc.1.1,of_decide_eq_true hc.1.2,of_decide_eq_true hc.2⟩,rfl⟩
  ·cases e
theorem zcg {i:Int} (h:fits i=true):-(2 ^ 62)≤i∧i < 2 ^ 62:=by
 unfold fits at h
 rw [vac] at h
 exact ⟨of_decide_eq_true h.1,of_decide_eq_true h.2⟩
theorem zmw {o:Op} {xs zs:List W} {k:Int} (e:repW o xs k=some zs):o=.mul∧(-(2 ^ 62)≤k∧k < 2 ^ 62)∧xs.length * k.toNat≤sizeLine∧zs=(List.replicate k.toNat xs).flatten:=by
 unfold repW at e
 split at e
 ·split at e
  ·rename_i hc
   cases e
   rw [vac] at hc
   exact ⟨rfl,zcg hc.1,Nat.le_of_ble_eq_true hc.2,rfl⟩
  ·cases e
 ·cases e
theorem VReps.rep {K:PySem.W.Frag} {m:Nat→Addr} {n:Nat} {H:Hp} {vs:List V} {ws:List W} (q:VReps K m n H vs ws):∀ k:Nat,VReps K m n H (List.replicate k vs).flatten (List.replicate k ws).flatten
 | 0=>.nil
 | k + 1=>by
  rw [List.replicate_succ,List.replicate_succ,List.flatten_cons,List.flatten_cons]
  exact q.append (VReps.rep q k)
theorem zix {K:PySem.W.Frag} {m:Nat→Addr} {n:Nat} {H:Hp} {vs:List V} {ws:List W} (q:VReps K m n H vs ws):vs.isEmpty=ws.isEmpty:=by cases q <;> rfl
theorem zpq {ws:List W} {k:Int} (h:(ws.isEmpty || k == 1)=true):(List.replicate k.toNat ws).flatten=ws:=by
 rw [Bool.or_eq_true] at h
 rcases h with h | h
 ·have:ws=[]:=by simpa using h
  subst this
  induction k.toNat with
  | zero=>rfl
  | succ j ih=>rw [List.replicate_succ,List.flatten_cons,ih]; rfl
 ·have:k=1:=by simpa using h
  subst this
  show (List.replicate 1 ws).flatten=ws
  simp
theorem zv6 {K:PySem.W.Frag} (o:Op):OpV K (rB K o) (opW o):=by
 intro m h H v u x y w h' Q r qv qu e k
 unfold opW at e
 split at e
 ·rename_i i j
  obtain ⟨e,rfl⟩:=of_ok e
  cases qv; cases qu
  cases q:opI o i j with
  | none=>rw [q] at e; cases e
  | some z=>
   rw [q] at e; cases e
   obtain ⟨h1,rfl⟩:=zmv q
   exact .inl ⟨i,j,rfl,rfl,h1,Wants.here k r (.int _)⟩
 ·rename_i xs ys
  obtain ⟨e,rfl⟩:=of_ok e
  cases q:opT o xs ys with
  | none=>rw [q] at e; cases e
  | some zs=>
   rw [q] at e; cases e
   cases o <;> simp only [opT] at q
   split at q
   ·rename_i hc
    cases q
    cases qv with
    | tup qa ra=>
     cases qu with
     | tup qb rb=>
      rename_i a va b vb
      have hl:=Nat.le_of_ble_eq_true hc
      cases xs with
      | nil=>
       cases ra
       exact .inr (.inr (.inl ⟨a,b,vb,rfl,rfl,qa,qb,Wants.here k r (.tup qb rb)⟩))
      | cons x0 xs0=>
       refine .inr (.inl ⟨a,b,va,vb,rfl,rfl,qa,qb,fun z=>?_,by rw [ra.length,rb.length]; exact hl,fun z=>?_,fun _ p hp=>Wants.tuple k r (ra.append rb) hp⟩)
       ·subst z; cases ra
       ·subst z; cases rb
        rw [List.append_nil] at k
        exact Wants.here k r (.tup qa ra)
   ·cases q
   all_goals cases q
 ·rename_i xs kk
  obtain ⟨e,rfl⟩:=of_ok e
  cases q:repW o xs kk with
  | none=>rw [q] at e; cases e
  | some zs=>
   rw [q] at e; cases e
   obtain ⟨rfl,⟨k1,k2⟩,hz,rfl⟩:=zmw q
   cases qu
   cases qv with
   | tup qa ra=>
    rename_i a va
    refine .inr (.inl ⟨a,kk,va,rfl,rfl,qa,k1,k2,by rw [ra.length]; exact hz,fun z=>?_,fun z p hp=>Wants.tuple k r (ra.rep _) hp⟩)
    rw [zix ra] at z
    rw [zpq z] at k
    exact Wants.here k r (.tup qa ra)
 ·rename_i i kk
  split at e
  ·rename_i xs hx
   split at e
   ·rename_i zs q
    cases e
    obtain ⟨rfl,⟨k1,k2⟩,hz,rfl⟩:=zmw q
    obtain ⟨va,pa,ra⟩:=r.lst hx
    cases qv; cases qu
    exact .inr (.inr ⟨m i,kk,va,rfl,rfl,pa,by omega,by omega,by rw [ra.length]; exact hz,fun p hp=>Wants.list k r (ra.rep _) hp⟩)
   ·cases e
  ·cases e
 ·rename_i i j
  split at e
  ·rename_i xs ys hx hy
   split at e
   ·rename_i zs q
    cases e
    cases o <;> simp only [opL] at q
    split at q
    ·rename_i hc
     cases q
     obtain ⟨va,pa,ra⟩:=r.lst hx
     obtain ⟨vb,pb,rb⟩:=r.lst hy
     cases qv; cases qu
     exact .inr (.inr (.inr ⟨m i,m j,va,vb,rfl,rfl,pa,pb,by rw [ra.length,rb.length]; exact Nat.le_of_ble_eq_true hc,fun p hp=>Wants.list k r (ra.append rb) hp⟩))
    ·cases q
    all_goals cases q
   ·cases e
  ·cases e
 ·cases e
end
section
variable {K:PySem.W.Frag} {m:Nat→Addr} {h:VH} {H:Hp}
theorem zhk {f:W→Option PyData} (ih:∀ (w:W) (d:PyData) (v:V),f w=some d→VRep K m h.n H v w→Rp K (fun _=>False) H v d):∀ {ws:List W} {ds:List PyData} {vs:List V},mapO f ws=some ds→VReps K m h.n H vs ws→Rps K (fun _=>False) H vs ds
 | [],ds,_,e,.nil=>by cases e; exact .nil
 | w :: ws,ds,_,e,.cons q r=>by
  unfold mapO at e
  split at e
  ·rename_i d hd
   split at e
   ·rename_i bs hb
    cases e
    exact .cons (ih w d _ hd q) (zhk ih hb r)
   ·cases e
  ·cases e
theorem rp_of (r:Rel K m h H):∀ (n:Nat) (w:W) (d:PyData) (v:V),toD h n w=some d→VRep K m h.n H v w→Rp K (fun _=>False) H v d
 | 0,_,_,_,e,_=>by cases e
 | n + 1,w,d,v,e,q=>by
  cases q with
  | non=>cases e; exact .non
  | bl b=>cases e; exact .bl b
  | int b=>cases e; exact .int b
  | str b=>cases e; exact .str b
  | @tup a vs ws sq rs=>
   simp only [toD] at e
   cases z:mapO (toD h n) ws with
   | none=>rw [z] at e; cases e
   | some ds=>rw [z] at e; cases e; exact .tup sq (fun z=>z) (zhk (rp_of r n) z rs)
  | @fz a vs ws sq rs=>
   simp only [toD] at e
   cases z:mapO (toD h n) ws with
   | none=>rw [z] at e; cases e
   | some ds=>rw [z] at e; cases e; exact .lst sq.sq (fun z=>z) (zhk (rp_of r n) z rs)
  | @ref i hi=>
   simp only [toD] at e
   cases g:h.get i with
   | none=>rw [g] at e; cases e
   | some o=>
    rw [g] at e
    cases o with
    | dk _=>cases e
    | dt _ _=>cases e
    | ins _ _ _=>cases e
    | lst ws=>
     obtain ⟨vs,h1,h2⟩:=r.lst g
     simp only at e
     cases z:mapO (toD h n) ws with
     | none=>rw [z] at e; cases e
     | some ds=>rw [z] at e; cases e; exact .lst (SqL.of h1) (fun z=>z) (zhk (rp_of r n) z h2)
theorem zq0 (r:Rel K m h H) {x y:W} {v u:V} {b:Bool} (e:eqW h x y=some b) (qv:VRep K m h.n H v x) (qu:VRep K m h.n H u y) :
 ∃ d e',Rp K (fun _=>False) H v d∧Rp K (fun _=>False) H u e'∧SeqAt.shaped d=true∧SeqAt.shaped e'=true∧b=PyData.eqv d e':=by
 unfold eqW at e
 split at e
 ·rename_i d e' h1 h2
  split at e
  ·rename_i hc
   cases e
   rw [vac] at hc
   exact ⟨d,e',rp_of r _ _ _ _ h1 qv,rp_of r _ _ _ _ h2 qu,hc.1,hc.2,rfl⟩
  ·cases e
 ·cases e
end
theorem zdj {K:PySem.W.Frag} {m:Nat→Addr} {h:VH} {H:Hp} {v:V} {w:W} {ws:List W} (r:Rel K m h H) (q:VRep K m h.n H v w) (e:seqW h w=some ws):∃ p vs,v=.ref p∧(SqL K H p vs∨SqT K H p vs)∧VReps K m h.n H vs ws:=by
 cases q <;> try cases e
 ·exact ⟨_,_,rfl,.inr ‹_›,‹_›⟩
 ·rename_i q _; exact ⟨_,_,rfl,.inl q.sq,‹_›⟩
 ·rename_i i hi
  simp only [seqW] at e
  cases g:h.get i with
  | none=>rw [g] at e; cases e
  | some o=>
   rw [g] at e
   cases o with
   | dk _=>cases e
   | dt _ _=>cases e
   | ins _ _ _=>cases e
   | lst ws=>
    cases e
    obtain ⟨vs,h1,h2⟩:=r.lst g
    exact ⟨_,vs,rfl,.inl (SqL.of h1),h2⟩
theorem ziy {K:PySem.W.Frag} {m:Nat→Addr} {n:Nat} {H:Hp}:∀ {vs:List V} {ws:List W} {is:List Int},VReps K m n H vs ws→mapO intD ws=some is→vs=is.map .int
 | _,_,_,.nil,e=>by cases e; rfl
 | _,_,_,.cons (w:=w) q r,e=>by
  simp only [mapO] at e
  cases q <;> try cases e
  rename_i i _ ws _
  simp only [intD] at e
  cases z:mapO intD ws with
  | none=>rw [z] at e; cases e
  | some js=>rw [z] at e; cases e; rw [vao,ziy r z]
theorem zem {K:PySem.W.Frag} {m:Nat→Addr} {n:Nat} {H:Hp} {v:V} {w:W} {k:DK} (q:VRep K m n H v w) (e:keyD w=some k):∃ b,v=.ref b∧KeyAt K H k b:=by
 unfold keyD at e
 split at e
 ·rename_i ws
  cases z:mapO intD ws with
  | none=>rw [z] at e; cases e
  | some is=>
   rw [z] at e; cases e
   cases q with
   | @tup b vs _ sq rs=>
    cases rs with
    | cons q1 rs=>
     cases rs with
     | cons q2 rs=>
      cases rs; cases q2
      cases q1 with
      | @tup c us _ sq1 rs1=>
       refine ⟨b,rfl,c,sq,?_⟩
       rw [← ziy rs1 z]; exact sq1
 ·rename_i ws i
  cases z:mapO intD ws with
  | none=>rw [z] at e; cases e
  | some is=>
   rw [z] at e; cases e
   cases q with
   | @tup b vs _ sq rs=>
    cases rs with
    | cons q1 rs=>
     cases rs with
     | cons q2 rs=>
      cases rs; cases q2
      cases q1 with
      | @tup c us _ sq1 rs1=>
       refine ⟨b,rfl,c,sq,?_⟩
       rw [← ziy rs1 z]; exact sq1
 ·cases e
theorem dt_ok {K:PySem.W.Frag} {m:Nat→Addr} {n:Nat} {H:Hp}:∀ {xs:DX} {ks:List W},mapO keyD ks=some (xs.map (·.1))→VReps K m n H (xs.map fun x=>.ref x.2.1) ks→∀ p∈xs,KeyAt K H p.1 p.2.1
 | [],_,_,_,p,hp=>nomatch hp
 | x :: xs,ks,e,r,p,hp=>by
  rw [vao] at r
  obtain ⟨w,ks,rfl,q,r⟩:∃ w ks',ks=w :: ks'∧VRep K m n H (.ref x.2.1) w∧VReps K m n H (xs.map fun x=>.ref x.2.1) ks':=by cases r with | cons q r=>exact ⟨_,_,rfl,q,r⟩
  simp only [mapO] at e
  cases z:keyD w with
  | none=>rw [z] at e; cases e
  | some k=>
   rw [z] at e
   simp only at e
   cases z2:mapO keyD ks with
   | none=>rw [z2] at e; cases e
   | some js=>
    rw [z2] at e
    simp only [vao,Option.some.injEq,List.cons.injEq] at e
    rcases List.mem_cons.mp hp with rfl | hp
    ·obtain ⟨b,e1,e2⟩:=zem q z
     cases e1
     rw [← e.1]; exact e2
    ·exact dt_ok (by rw [z2,e.2]) r p hp
theorem dt_DT {K:PySem.W.Frag} {m:Nat→Addr} {n:Nat} {H:Hp} {a:Addr} {xs:DX} {ks:List W} (h:H a=some (dtH xs a)∨(xs=[]∧H a=some (.dK []))) (e:mapO keyD ks=some (xs.map (·.1))) (q:VReps K m n H (xs.map fun x=>.ref x.2.1) ks):DT K H a xs:=
 h.imp (fun z=>⟨z,dt_ok e q⟩) fun ⟨z,y⟩=>⟨z,.inl y⟩
theorem zgb {K:PySem.W.Frag} {m:Nat→Addr} {n:Nat} {H:Hp}:∀ {xs:DX} {ks ws:List W} (k:DK),mapO keyD ks=some (xs.map (·.1))→VReps K m n H (xs.map fun x=>x.2.2) ws→(findX xs k=none∧lookD ks ws k=none)∨∃ p w,findX xs k=some p∧lookD ks ws k=some w∧VRep K m n H p.2 w
 | [],ks,ws,k,e,r=>by
  cases ks with
  | nil=>exact .inl ⟨rfl,by unfold lookD; rfl⟩
  | cons c ks=>
   simp only [mapO] at e
   split at e
   ·split at e <;> cases e
   ·cases e
 | x :: xs,ks,ws,k,e,r=>by
  rw [vao] at r
  obtain ⟨w,ws,rfl,q,r⟩:∃ w ws',ws=w :: ws'∧VRep K m n H x.2.2 w∧VReps K m n H (xs.map fun x=>x.2.2) ws':=by cases r with | cons q r=>exact ⟨_,_,rfl,q,r⟩
  cases ks with
  | nil=>cases e
  | cons c ks=>
   simp only [mapO] at e
   cases z:keyD c with
   | none=>rw [z] at e; cases e
   | some k'=>
    rw [z] at e
    simp only at e
    cases z2:mapO keyD ks with
    | none=>rw [z2] at e; cases e
    | some js=>
     rw [z2] at e
     simp only [vao,Option.some.injEq,List.cons.injEq] at e
     unfold lookD
     rw [z,e.1]
     by_cases y:x.1=k
     ·rw [if_pos (by rw [y])]
      exact .inr ⟨x.2,w,by simp [findX,List.find?_cons,y],rfl,q⟩
     ·rw [if_neg (fun z=>y (Option.some.inj z))]
      have:findX (x :: xs) k=findX xs k:=by simp [findX,List.find?_cons,y]
      rw [this]
      exact zgb k (by rw [z2,e.2]) r
theorem zq1 {K:PySem.W.Frag} {m:Nat→Addr} {h:VH} {H:Hp} (r:Rel K m h H) {x y:W} {v u:V} {b:Bool} (e:inD h x y=some b) (qv:VRep K m h.n H v x) (qu:VRep K m h.n H u y) :
 ∃ a c xs k,u=.ref a∧v=.ref c∧DT K H a xs∧KeyAt K H k c∧b=(findX xs k).isSome:=by
 unfold inD at e
 split at e
 ·rename_i i
  split at e
  ·rename_i ks ws k g hk
   cases e
   cases qu
   obtain ⟨xs,p1,p2,p3,p4⟩:=r.dt g
   obtain ⟨c,rfl,kk⟩:=zem qv hk
   refine ⟨m i,c,xs,k,rfl,rfl,dt_DT p1 p2 p3,kk,?_⟩
   rcases zgb k p2 p4 with ⟨z1,z2⟩ | ⟨p,w,z1,z2,_⟩ <;> (rw [z1,z2]; rfl)
  ·cases e
 ·cases e
theorem zq2 {K:PySem.W.Frag} {m:Nat→Addr} {h:VH} {H:Hp} (r:Rel K m h H) {x y:W} {v u:V} {b:Bool} (e:inW h x y=some b) (qv:VRep K m h.n H v x) (qu:VRep K m h.n H u y) :
 (∃ p vs ds d,u=.ref p∧(SqL K H p vs∨SqT K H p vs)∧Rps K (fun _=>False) H vs ds∧Rp K (fun _=>False) H v d∧ds.all SeqAt.shaped=true∧SeqAt.shaped d=true∧b=anyEq ds d)∨inD h x y=some b:=by
 unfold inW at e
 split at e
 ·rename_i ws d h1 h2
  split at e
  ·rename_i ds h3
   split at e
   ·rename_i hc
    cases e
    rw [vac] at hc
    obtain ⟨p,vs,rfl,h4,h5⟩:=zdj r qu h1
    exact .inl ⟨p,vs,ds,d,rfl,h4,zhk (rp_of r 24) h3 h5,rp_of r _ _ _ _ h2 qv,hc.1,hc.2,rfl⟩
   ·cases e
  ·cases e
 ·exact .inr e
noncomputable def cpOf:CmpOp→Option Cp
 | .Eq=>some .eq | .NotEq=>some .ne | .Lt=>some .lt | .LtE=>some .le | .Gt=>some .gt | .GtE=>some .ge | .Is=>some .isn | .IsNot=>some .notn | .In=>some .inn | .NotIn=>some .nin
noncomputable def rC (K:PySem.W.Frag):Cp→R2
 | .eq=>rEqD K
 | .ne=>rNeD K
 | .lt=>rI0 fun i j=>.bl (decide (i < j))
 | .le=>rI0 fun i j=>.bl (decide (i≤j))
 | .gt=>rI0 fun i j=>.bl (decide (j < i))
 | .ge=>rI0 fun i j=>.bl (decide (j≤i))
 | .isn=>fun x y H Q=>(y=.non∧Q (.bl (decide (x=.non))) H)∨∃ c b,x=.bl c∧y=.bl b∧Q (.bl (c == b)) H
 | .notn=>fun x y H Q=>(y=.non∧Q (.bl (!decide (x=.non))) H)∨∃ c b,x=.bl c∧y=.bl b∧Q (.bl (!(c == b))) H
 | .inn=>fun x y H Q=>rInD K false x y H Q∨rInX K false x y H Q
 | .nin=>fun x y H Q=>rInD K true x y H Q∨rInX K true x y H Q
noncomputable def zcb:Expr→Bool
 | .Set ..=>false
 | _=>true
theorem ziz {op:CmpOp} {b:Expr} (h:zcb b=true):behindInMarks op b=false:=by
 cases b <;> first | rfl | cases h
section
variable {X:Cx} {a b c e:Expr} {es:List Expr} {fa fb fc:FE} {pos:Pos}
theorem zv7:OpR X (compareOp .Is) (fun x y H Q=>∃ c b,x=.bl c∧y=.bl b∧Q (.bl (c == b)) H):=by
 intro pins s σ H x y v u Q I rx ry h
 obtain ⟨c,b,rfl,rfl,q⟩:=h
 cases rx; cases ry
 exact wpAny_is_plain rfl (zjn I q (by cases c <;> cases b <;> rfl))
theorem zmx:OpR X (compareOp .IsNot) (fun x y H Q=>∃ c b,x=.bl c∧y=.bl b∧Q (.bl (!(c == b))) H):=by
 intro pins s σ H x y v u Q I rx ry h
 obtain ⟨c,b,rfl,rfl,q⟩:=h
 cases rx; cases ry
 exact wpAny_isNot_plain rfl (zjn I q (by cases c <;> cases b <;> rfl))
theorem zfd (hu:X.A.units + 65 < cLine) {O:CmpOp} {c:Cp} (e:cpOf O=some c):OpR X (compareOp O) (rC X.K c):=by
 cases O <;> cases e
 ·exact zvg (by omega)
 ·exact zvh (by omega)
 ·exact op_lt
 ·exact op_le
 ·exact op_gt
 ·exact op_ge
 ·exact zu3.or zv7
 ·exact zr8.or zmx
 ·exact (zvj (by show X.A.units + 1 + 64 < cLine; omega)).or (zvu (by omega))
 ·exact (zmf (by show X.A.units + 1 + 64 < cLine; omega)).or (zmo (by omega))
theorem zd4 {K:PySem.W.Frag} {m:Nat→Addr} {n:Nat} {H:Hp} {v:V} {w:W} (q:VRep K m n H v w):isNon w=decide (v=.non):=by
 cases q <;> simp [isNon]
theorem zgc {K:PySem.W.Frag} (c:Cp):OpV K (rC K c) (fun x y h=>.of ((cmpW c h x y).map .bl) h):=by
 intro m h H v u x y w h' Q r qv qu e k
 obtain ⟨e,rfl⟩:=of_ok e
 cases z:cmpW c h' x y with
 | none=>rw [z] at e; cases e
 | some b=>
  rw [z] at e; cases e
  have fin:Q (.bl b) H:=Wants.here k r (.bl b)
  unfold cmpW at z
  split at z
  ·rcases zq2 r z qv qu with ⟨p,vs,ds,d,h1,h2,h3,h4,h5,h6,rfl⟩ | z3
   ·exact .inl ⟨p,vs,ds,d,h1,h2,h3,h4,h5,h6,fin⟩
   ·obtain ⟨a,c,xs,dk,h1,h2,h3,h4,rfl⟩:=zq1 r z3 qv qu
    exact .inr ⟨a,c,xs,dk,h1,h2,h3,h4,fin⟩
  ·cases z2:inW h' x y with
   | none=>rw [z2] at z; cases z
   | some b2=>
    rw [z2] at z; cases z
    rcases zq2 r z2 qv qu with ⟨p,vs,ds,d,h1,h2,h3,h4,h5,h6,rfl⟩ | z3
    ·exact .inl ⟨p,vs,ds,d,h1,h2,h3,h4,h5,h6,fin⟩
    ·obtain ⟨a,c,xs,dk,h1,h2,h3,h4,rfl⟩:=zq1 r z3 qv qu
     exact .inr ⟨a,c,xs,dk,h1,h2,h3,h4,fin⟩
  ·obtain ⟨d,e',h1,h2,h3,h4,rfl⟩:=zq0 r z qv qu
   exact ⟨d,e',h1,h2,h3,h4,fin⟩
  ·cases z2:eqW h' x y with
   | none=>rw [z2] at z; cases z
   | some b2=>
    rw [z2] at z; cases z
    obtain ⟨d,e',h1,h2,h3,h4,rfl⟩:=zq0 r z2 qv qu
    exact ⟨d,e',h1,h2,h3,h4,fin⟩
  ·split at z
   ·rename_i hn
    cases z
    have:=zd4 qu
    rw [hn] at this
    refine .inl ⟨of_decide_eq_true this.symm,?_⟩
    rw [← zd4 qv]; exact fin
   ·unfold isB at z
    split at z
    ·rename_i c b
     cases z
     cases qv; cases qu
     exact .inr ⟨_,_,rfl,rfl,fin⟩
    ·cases z
  ·split at z
   ·rename_i hn
    cases z
    have:=zd4 qu
    rw [hn] at this
    refine .inl ⟨of_decide_eq_true this.symm,?_⟩
    rw [← zd4 qv]; exact fin
   ·cases z2:isB x y with
    | none=>rw [z2] at z; cases z
    | some b2=>
     rw [z2] at z; cases z
     unfold isB at z2
     split at z2
     ·rename_i c b
      cases z2
      cases qv; cases qu
      exact .inr ⟨_,_,rfl,rfl,fin⟩
     ·cases z2
  ·split at z
   ·rename_i i j
    cases qv; cases qu
    cases c <;> simp only [cmpI] at z <;> cases z <;> exact ⟨i,j,rfl,rfl,fin⟩
   ·cases z
theorem zv8 (hu:X.A.units + 65 < cLine) {O:CmpOp} {c:Cp} (e:cpOf O=some c) (hs:zcb b=true) (ha:SE X a fa) (hb:SE X b fb) :
 SE X (.Compare a [O] [b] pos) (fun ρ h=>(fa ρ h).bind fun x h=>(fb ρ h).bind fun y h=>.of ((cmpW c h x y).map .bl) h):=
 (zr9 (zfd hu e) ha hb (ziz hs)).imp fun σ H Q q=>zga (G:=rC X.K c) (zgc c) q
theorem zv9 (hu:X.A.units + 65 < cLine) {O:CmpOp} {c:Cp} (e:cpOf O=some c) (hs:zcb b=true) (ha:SE X a fa) (hb:SE X b fb) :
 ST X (.Compare a [O] [b] pos) (fun ρ h=>(fa ρ h).bind fun x h=>(fb ρ h).bind fun y h=>.of ((cmpW c h x y).map .bl) h):=
 (zsa (zfd hu e) ha hb (ziz hs)).imp fun σ H Q q=>zga (G:=rC X.K c) (zgc c) (zjx q)
theorem lm2 {O O':CmpOp} {a b:Expr} (h:zcb b=true):lastMarks [O,O'] [a,b]=false:=ziz h
theorem zhl {K:PySem.W.Frag} {c1 c2:Cp} {σ:L2.St} {H:Hp} {Q:VK}
 (q:lft K (fun ρ h=>(fa ρ h).bind fun x h=>(fb ρ h).bind fun y h=>match cmpW c1 h x y with
   | some true=>(fc ρ h).bind fun z h=>.of ((cmpW c2 h y z).map .bl) h
   | some false=>.ok (.bl false) h
   | none=>.no) σ H Q):zlx (rC K c1) (rC K c2) (lft K fa) (lft K fb) (lft K fc) σ H Q:=by
 obtain ⟨ρ,h,m,w,h',f,r,e,k⟩:=q
 obtain ⟨x,h1,e1,e2⟩:=zae e
 obtain ⟨y,h2,e3,e4⟩:=zae e2
 refine ⟨ρ,h,m,x,h1,f,r,e1,fun v H1 m1 s1 r1 q1=>⟨ρ,h1,m1,y,h2,f.stp s1,r1,e3,fun u H2 m2 s2 r2 q2=>?_⟩⟩
 have f2:=(f.stp s1).stp s2
 have k2:Wants K m2 h2.n H2 w h' Q:=fun v' H' m' s' r' q'=>k v' H' m' ((s1.trans s2).trans s') r' q'
 cases z:cmpW c1 h2 x y with
 | none=>rw [z] at e4; cases e4
 | some b=>
  rw [z] at e4
  refine zgc c1 m2 h2 H2 v u x y (.bl b) h2 _ r2 (q1.stp s2) q2 (by show Res.of ((cmpW c1 h2 x y).map W.bl) h2=_; rw [z]; rfl) fun v3 H3 m3 s3 r3 q3=>?_
  cases q3
  refine ⟨b,rfl,?_⟩
  cases b with
  | true=>
   obtain ⟨z',h4,e5,e6⟩:=zae e4
   rw [if_pos rfl]
   refine ⟨ρ,h2,m3,z',h4,f2.stp s3,r3,e5,fun v4 H4 m4 s4 r4 q4=>?_⟩
   exact zgc c2 m4 h4 H4 u v4 y z' w h' Q r4 ((q2.stp s3).stp s4) q4 e6 fun v' H' m' s' r' q'=>k2 v' H' m' ((s3.trans s4).trans s') r' q'
  | false=>
   cases e4
   simp only [vam,if_false]
   exact k2 _ H3 m3 s3 r3 (.bl false)
theorem zwa (hu:X.A.units + 65 < cLine) {O O':CmpOp} {c1 c2:Cp} (e:cpOf O=some c1) (e':cpOf O'=some c2) (hs:zcb c=true) (ha:SE X a fa) (hb:SE X b fb) (hc:SE X c fc) :
 SE X (.Compare a [O,O'] [b,c] pos) (fun ρ h=>(fa ρ h).bind fun x h=>(fb ρ h).bind fun y h=>match cmpW c1 h x y with
  | some true=>(fc ρ h).bind fun z h=>.of ((cmpW c2 h y z).map .bl) h
  | some false=>.ok (.bl false) h
  | none=>.no):=(zoz (zfd hu e) (zfd hu e') ha hb hc (lm2 hs)).imp fun σ H Q q=>zhl q
theorem zwb (hu:X.A.units + 65 < cLine) {O O':CmpOp} {c1 c2:Cp} (e:cpOf O=some c1) (e':cpOf O'=some c2) (hs:zcb c=true) (ha:SE X a fa) (hb:SE X b fb) (hc:SE X c fc) :
 ST X (.Compare a [O,O'] [b,c] pos) (fun ρ h=>(fa ρ h).bind fun x h=>(fb ρ h).bind fun y h=>match cmpW c1 h x y with
  | some true=>(fc ρ h).bind fun z h=>.of ((cmpW c2 h y z).map .bl) h
  | some false=>.ok (.bl false) h
  | none=>.no):=(zo0 (zfd hu e) (zfd hu e') ha hb hc (lm2 hs)).imp fun σ H Q q=>zhl (zjx q)
noncomputable abbrev gNot (fa:FE):FE:=fun ρ h=>(fa ρ h).bind fun x h=>match x with | .bl b=>.ok (.bl (!b)) h | _=>.no
noncomputable abbrev gAnd (fa fb:FE):FE:=fun ρ h=>(fa ρ h).bind fun x h=>match x with | .bl true=>fb ρ h | .bl false=>.ok (.bl false) h | _=>.no
noncomputable abbrev gOr (fa fb:FE):FE:=fun ρ h=>(fa ρ h).bind fun x h=>match x with | .bl true=>.ok (.bl true) h | .bl false=>fb ρ h | _=>.no
noncomputable abbrev gIte (fa fb fc:FE):FE:=fun ρ h=>(fa ρ h).bind fun x h=>match x with | .bl true=>fb ρ h | .bl false=>fc ρ h | _=>.no
variable {rest:List Expr}
theorem zwc (ha:ST X a fa):ST X (.UnaryOp .Not a pos) (gNot fa):=(zug ha).imp fun σ H Q hq0=>by
 obtain ⟨ρ,h,m,b,h',f,r,e,k⟩:=hq0
 obtain ⟨x,h1,e1,e2⟩:=zae e
 cases x <;> try cases e2
 rename_i b
 exact ⟨ρ,h,m,b,h',f,r,e1,fun H' m' s' r'=>k H' m' s' r'⟩
theorem zwd (ha:SE X a fa):SE X (.UnaryOp .Not a pos) (gNot fa):=(zuj ha).imp fun σ H Q hq0=>by
 obtain ⟨ρ,h,m,b,h',f,r,e,k⟩:=hq0
 obtain ⟨x,h1,e1,e2⟩:=zae e
 cases x <;> try cases e2
 rename_i b
 exact ⟨ρ,h,m,.bl b,h',f,r,e1,fun v H' m' s' r' q=>by cases q; exact ⟨b,rfl,k _ H' m' s' r' (.bl _)⟩⟩
theorem zq3 {op:BoolOp} (ha:ST X a fa):SW X (.BoolOp op [a] pos) fa:=by
 cases op
 ·exact zr0 ha
 ·exact zue ha
theorem zwe (ha:ST X a fa) (hb:SW X (.BoolOp .And (b :: rest) pos) fb):SW X (.BoolOp .And (a :: b :: rest) pos) (gAnd fa fb):=(zuf ha hb).imp fun σ H Q hq0=>by
 obtain ⟨ρ,h,m,b,h',f,r,e,k⟩:=hq0
 obtain ⟨x,h1,e1,e2⟩:=zae e
 cases x <;> try cases e2
 rename_i c
 refine ⟨ρ,h,m,c,h1,f,r,e1,fun H1 m1 s1 r1=>?_⟩
 cases c with
 | true=>rw [if_pos rfl]; exact ⟨ρ,h1,m1,b,h',f.stp s1,r1,e2,fun H' m' s' r'=>k H' m' (s1.trans s') r'⟩
 | false=>cases e2; simp only [vam,if_false]; exact k H1 m1 s1 r1
theorem sw_or (ha:ST X a fa) (hb:SW X (.BoolOp .Or (b :: rest) pos) fb):SW X (.BoolOp .Or (a :: b :: rest) pos) (gOr fa fb):=(pw_or ha hb).imp fun σ H Q hq0=>by
 obtain ⟨ρ,h,m,b,h',f,r,e,k⟩:=hq0
 obtain ⟨x,h1,e1,e2⟩:=zae e
 cases x <;> try cases e2
 rename_i c
 refine ⟨ρ,h,m,c,h1,f,r,e1,fun H1 m1 s1 r1=>?_⟩
 cases c with
 | true=>cases e2; rw [if_pos rfl]; exact k H1 m1 s1 r1
 | false=>simp only [vam,if_false]; exact ⟨ρ,h1,m1,b,h',f.stp s1,r1,e2,fun H' m' s' r'=>k H' m' (s1.trans s') r'⟩
theorem zq4 {op:BoolOp} (ha:SE X a fa):SE X (.BoolOp op [a] pos) fa:=zuh ha
theorem zwf (ha:SE X a fa) (hb:SE X (.BoolOp .And (b :: rest) pos) fb):SE X (.BoolOp .And (a :: b :: rest) pos) (gAnd fa fb):=(zui ha hb).imp fun σ H Q hq0=>by
 obtain ⟨ρ,h,m,w,h',f,r,e,k⟩:=hq0
 obtain ⟨x,h1,e1,e2⟩:=zae e
 cases x <;> try cases e2
 rename_i c
 refine ⟨ρ,h,m,.bl c,h1,f,r,e1,fun v H1 m1 s1 r1 q1=>?_⟩
 cases q1
 refine ⟨c,rfl,?_⟩
 cases c with
 | true=>rw [if_pos rfl]; exact ⟨ρ,h1,m1,w,h',f.stp s1,r1,e2,fun v H' m' s' r' q'=>k v H' m' (s1.trans s') r' q'⟩
 | false=>cases e2; simp only [vam,if_false]; exact k _ H1 m1 s1 r1 (.bl false)
theorem se_or (ha:SE X a fa) (hb:SE X (.BoolOp .Or (b :: rest) pos) fb):SE X (.BoolOp .Or (a :: b :: rest) pos) (gOr fa fb):=(pe_or ha hb).imp fun σ H Q hq0=>by
 obtain ⟨ρ,h,m,w,h',f,r,e,k⟩:=hq0
 obtain ⟨x,h1,e1,e2⟩:=zae e
 cases x <;> try cases e2
 rename_i c
 refine ⟨ρ,h,m,.bl c,h1,f,r,e1,fun v H1 m1 s1 r1 q1=>?_⟩
 cases q1
 refine ⟨c,rfl,?_⟩
 cases c with
 | true=>cases e2; rw [if_pos rfl]; exact k _ H1 m1 s1 r1 (.bl true)
 | false=>simp only [vam,if_false]; exact ⟨ρ,h1,m1,w,h',f.stp s1,r1,e2,fun v H' m' s' r' q'=>k v H' m' (s1.trans s') r' q'⟩
theorem zwg (hc:ST X c fc) (ha:SE X a fa) (hb:SE X b fb):SE X (.IfExp c a b pos) (gIte fc fa fb):=(zos hc ha hb).imp fun σ H Q hq0=>by
 obtain ⟨ρ,h,m,w,h',f,r,e,k⟩:=hq0
 obtain ⟨x,h1,e1,e2⟩:=zae e
 cases x <;> try cases e2
 rename_i c
 refine ⟨ρ,h,m,c,h1,f,r,e1,fun H1 m1 s1 r1=>?_⟩
 cases c with
 | true=>rw [if_pos rfl]; exact ⟨ρ,h1,m1,w,h',f.stp s1,r1,e2,fun v H' m' s' r' q'=>k v H' m' (s1.trans s') r' q'⟩
 | false=>simp only [vam,if_false]; exact ⟨ρ,h1,m1,w,h',f.stp s1,r1,e2,fun v H' m' s' r' q'=>k v H' m' (s1.trans s') r' q'⟩
theorem zdu {K:PySem.W.Frag} {m:Nat→Addr} {n:Nat} {H:Hp} {vs:List V} {ws:List W} (q:VReps K m n H vs ws):vs.isEmpty=ws.isEmpty:=by cases q <;> rfl
theorem zsy {K:PySem.W.Frag} {m:Nat→Addr} {h:VH} {H:Hp} {v:V} {w:W} {b:Bool} (r:Rel K m h H) (q:VRep K m h.n H v w) (e:truW h w=some b):TruV K v H b:=by
 cases q with
 | non=>cases e; rfl
 | bl x=>cases e; rfl
 | int i=>cases e; rfl
 | str x=>cases e
 | fz _ _=>cases e
 | tup sq rs=>cases e; exact .inr (.inl ⟨_,sq,by rw [zdu rs]⟩)
 | @ref i hi=>
  simp only [truW] at e
  cases g:h.get i with
  | none=>rw [g] at e; cases e
  | some o=>
   rw [g] at e
   cases o with
   | dk _=>cases e
   | dt _ _=>cases e
   | ins _ _ _=>cases e
   | lst ws=>
    cases e
    obtain ⟨vs,h1,h2⟩:=r.lst g
    exact .inl ⟨vs,SqL.of h1,by rw [zdu h2]⟩
theorem zmy (ha:SE X a fa) (he:∀ whole,isTrue a X.env whole=(do let v ← whole; standAt a.pos; holding [v] (truthy v))) :
 ST X a (fun ρ h=>(fa ρ h).bind fun x h=>.of ((truW h x).map .bl) h):=(zo1 ha he).imp fun σ H Q hq0=>by
 obtain ⟨ρ,h,m,b,h',f,r,e,k⟩:=hq0
 obtain ⟨x,h1,e1,e2⟩:=zae e
 obtain ⟨e2,rfl⟩:=of_ok e2
 cases z:truW h' x with
 | none=>rw [z] at e2; cases e2
 | some c=>
  rw [z] at e2; cases e2
  exact ⟨ρ,h,m,x,h',f,r,e1,fun v H' m' s' r' q=>⟨b,zsy r' q z,k H' m' s' r'⟩⟩
theorem zwh (ha:SE X a fa):SE X (.UnaryOp .USub a pos) (fun ρ h=>(fa ρ h).bind fun x h=>match x with | .int i=>.ok (.int (-i)) h | _=>.no):=
 (pe_un zu2 ha).imp fun σ H Q q=>zqy (g:=fun x h=>match x with | .int i=>.ok (.int (-i)) h | _=>.no) (G:=rU fun i=>.int (-i)) (fun m h H v x w h' Q r q e k=>by
   cases q <;> try cases e
   rename_i i
   exact ⟨i,rfl,Wants.here k r (.int _)⟩) q
end
section
variable {K:PySem.W.Frag} {m m0:Nat→Addr} {n n0:Nat} {h:VH} {H H0:Hp}
theorem Rel.adopt (r:Rel K m h H) {p:Addr} {o:VO} {u u0:HO} (hp:∀ i,i < h.n→m i≠p) (hu:H p=some u0) (ht:∀ t,u0≠.tup t) (hf:∀ o t,u0≠.frz o t) (s:Stp m0 n0 H0 m h.n H) (h0:H0 p=none)
 (ho:Stp m h.n H (fun i=>if i=h.n then p else m i) (h.n + 1) (upd H p u)∨True→(∀ {v:V} {w:W},VRep K m h.n H v w→VRep K (fun i=>if i=h.n then p else m i) (h.n + 1) (upd H p u) v w)→ORep K (fun i=>if i=h.n then p else m i) (h.n + 1) (upd H p u) p o) :
 Stp m0 n0 H0 (fun i=>if i=h.n then p else m i) (h.n + 1) (upd H p u)∧Rel K (fun i=>if i=h.n then p else m i) (h.new o) (upd H p u):=by
 have kt:∀ b vs,H b=some (.tup vs)→upd H p u b=some (.tup vs):=fun b vs q=>by rw [zah (ne_of q hu fun z=>ht vs z.symm)]; exact q
 have kf:∀ b o t,H b=some (.frz o t)→upd H p u b=some (.frz o t):=fun b o t q=>by rw [zah (ne_of q hu fun z=>hf o t z.symm)]; exact q
 have mv:∀ {v:V} {w:W},VRep K m h.n H v w→VRep K (fun i=>if i=h.n then p else m i) (h.n + 1) (upd H p u) v w:=by
  intro v w q
  have st:Stp m h.n (fun b=>if b=p then none else H b) (fun i=>if i=h.n then p else m i) (h.n + 1) (upd H p u):=by
   refine ⟨Nat.le_succ _,fun i hi=>by simp only [if_neg (Nat.ne_of_lt hi)],fun i hi hi2=>?_,fun i j hi hi2 hj=>?_,fun b vs q=>?_,fun b o t q=>?_,fun b o _ q=>?_⟩
   ·have:i=h.n:=by omega
    subst this; simp only [if_true]
   ·have:i=h.n:=by omega
    subst this; simp only [if_true,if_neg (Nat.ne_of_lt hj)]; exact (hp j hj).symm
   ·split at q
    ·cases q
    ·exact kt b vs q
   ·split at q
    ·cases q
    ·exact kf b o t q
   ·split at q
    ·cases q
    ·rename_i z; rw [zah z]; exact q
  refine VRep.stp st ?_
  have back:∀ {a vs},SqT K H a vs→SqT K (fun b=>if b=p then none else H b) a vs:=by
   intro a vs q
   rcases q with (q | ⟨o,q⟩) | q
   ·exact .inl (.inl (by simp only [if_neg (ne_of q hu fun z=>ht vs z.symm)]; exact q))
   ·exact .inl (.inr ⟨o,by simp only [if_neg (ne_of q hu fun z=>hf o _ z.symm)]; exact q⟩)
   ·exact .inr q
  have backf:∀ {a vs},Fz K H a vs→Fz K (fun b=>if b=p then none else H b) a vs:=by
   intro a vs q
   rcases q with ⟨o,q⟩ | q
   ·exact .inl ⟨o,by simp only [if_neg (ne_of q hu fun z=>hf o _ z.symm)]; exact q⟩
   ·exact .inr q
  exact (VRep.rec (K:=K) (m:=m) (n:=h.n) (H:=H) (motive_1:=fun v w _=>VRep K m h.n (fun b=>if b=p then none else H b) v w) (motive_2:=fun vs ws _=>VReps K m h.n (fun b=>if b=p then none else H b) vs ws)
   .non .bl .int .str (fun sq _ ih=>.tup (back sq) ih) (fun sq _ ih=>.fz (backf sq) ih) (fun hi=>.ref hi) .nil (fun _ _ i1 i2=>.cons i1 i2) q)
 refine ⟨⟨Nat.le_succ_of_le s.le,fun i hi=>?_,fun i hi hi2=>?_,fun i j hi hi2 hj=>?_,fun b vs q=>kt b vs (s.tup b vs q),fun b o t q=>kf b o t (s.frz b o t q),fun b o nb q=>?_⟩,⟨fun i hi=>?_,fun i j hi hj z=>?_,?_⟩⟩
 ·have:=s.le
  simp only [if_neg (show i≠h.n by omega)]; exact s.same i hi
 ·by_cases e:i=h.n
  ·subst e; simp only [if_true]; exact h0
  ·simp only [if_neg e]; exact s.new i hi (by omega)
 ·have:=s.le
  simp only [if_neg (show j≠h.n by omega)]
  by_cases e:i=h.n
  ·subst e; simp only [if_true]; exact (hp j (by omega)).symm
  ·simp only [if_neg e]; exact s.apart i j hi (by omega) hj
 ·rw [zah (zaf q h0)]; exact s.keep b o nb q
 ·have hi:i < h.n + 1:=hi
  by_cases e:i=h.n
  ·subst e; exact ⟨o,zao,by simp only [if_true]; exact ho (.inr trivial) mv⟩
  ·have hl:i < h.n:=by omega
   obtain ⟨o',h1,h2⟩:=r.obj i hl
   refine ⟨o',(zad hl).trans h1,?_⟩
   simp only [if_neg e]
   have eq:upd H p u (m i)=H (m i):=zah (hp i hl)
   cases o' with
   | lst ws=>
    obtain ⟨vs,q1,q2⟩:=h2
    exact ⟨vs,eq.trans q1,VReps.rec (K:=K) (m:=m) (n:=h.n) (H:=H) (motive_1:=fun v w _=>VRep K m h.n H v w) (motive_2:=fun vs ws _=>VReps K (fun i=>if i=h.n then p else m i) (h.n + 1) (upd H p u) vs ws)
     .non .bl .int .str (fun sq q _=>.tup sq q) (fun sq q _=>.fz sq q) (fun hi=>.ref hi) .nil (fun q _ _ i2=>.cons (mv q) i2) q2⟩
   | dk ws=>
    obtain ⟨vs,q1,q2⟩:=h2
    have go:∀ {vs:List (Key × V)} {ws:List (Key × W)},KReps K m h.n H vs ws→KReps K (fun i=>if i=h.n then p else m i) (h.n + 1) (upd H p u) vs ws:=by
     intro vs ws q2
     induction q2 with
     | nil=>exact .nil
     | cons q _ ih=>exact .cons (mv q) ih
    exact ⟨vs,q1.imp (fun z=>eq.trans z) fun ⟨o,z⟩=>⟨o,eq.trans z⟩,go q2⟩
   | dt ks ws=>
    obtain ⟨xs,q1,q0,q2,q3⟩:=h2
    have go:∀ {vs:List V} {ws:List W},VReps K m h.n H vs ws→VReps K (fun i=>if i=h.n then p else m i) (h.n + 1) (upd H p u) vs ws:=fun q2=>
     VReps.rec (K:=K) (m:=m) (n:=h.n) (H:=H) (motive_1:=fun v w _=>VRep K m h.n H v w) (motive_2:=fun vs ws _=>VReps K (fun i=>if i=h.n then p else m i) (h.n + 1) (upd H p u) vs ws)
      .non .bl .int .str (fun sq q _=>.tup sq q) (fun sq q _=>.fz sq q) (fun hi=>.ref hi) .nil (fun q _ _ i2=>.cons (mv q) i2) q2
    exact ⟨xs,q1.imp (fun z=>eq.trans z) fun ⟨o,z⟩=>⟨o,eq.trans z⟩,q0,go q2,go q3⟩
   | ins C xs ws=>
    obtain ⟨dx,vs,q1,q0,q2⟩:=h2
    have go:∀ {vs:List V} {ws:List W},VReps K m h.n H vs ws→VReps K (fun i=>if i=h.n then p else m i) (h.n + 1) (upd H p u) vs ws:=fun q2=>
     VReps.rec (K:=K) (m:=m) (n:=h.n) (H:=H) (motive_1:=fun v w _=>VRep K m h.n H v w) (motive_2:=fun vs ws _=>VReps K (fun i=>if i=h.n then p else m i) (h.n + 1) (upd H p u) vs ws)
      .non .bl .int .str (fun sq q _=>.tup sq q) (fun sq q _=>.fz sq q) (fun hi=>.ref hi) .nil (fun q _ _ i2=>.cons (mv q) i2) q2
    exact ⟨dx,vs,eq.trans q1,q0,go q2⟩
 ·have hi:i < h.n + 1:=hi
  have hj:j < h.n + 1:=hj
  by_cases e:i=h.n
  ·by_cases e2:j=h.n
   ·omega
   ·simp only [if_pos e,if_neg e2] at z
    exact absurd z.symm (hp j (by omega))
  ·by_cases e2:j=h.n
   ·simp only [if_neg e,if_pos e2] at z
    exact absurd z (hp i (by omega))
   ·simp only [if_neg e,if_neg e2] at z
    exact r.inj i j (by omega) (by omega) z
 ·show (o :: h.os).length=h.n + 1
  rw [vah,r.len]
theorem VReps.map {m':Nat→Addr} {n':Nat} {H':Hp} (mv:∀ {v:V} {w:W},VRep K m n H v w→VRep K m' n' H' v w):∀ {vs:List V} {ws:List W},VReps K m n H vs ws→VReps K m' n' H' vs ws
 | _,_,.nil=>.nil
 | _,_,.cons q r=>.cons (mv q) (VReps.map mv r)
theorem KReps.map {m':Nat→Addr} {n':Nat} {H':Hp} (mv:∀ {v:V} {w:W},VRep K m n H v w→VRep K m' n' H' v w):∀ {vs:List (Key × V)} {ws:List (Key × W)},KReps K m n H vs ws→KReps K m' n' H' vs ws
 | _,_,.nil=>.nil
 | _,_,.cons q r=>.cons (mv q) (KReps.map mv r)
theorem KReps.look (k:Key):∀ {vs:List (Key × V)} {ws:List (Key × W)},KReps K m n H vs ws→(valV vs k=none∧lookK ws k=none)∨∃ v w,valV vs k=some v∧lookK ws k=some w∧VRep K m n H v w
 | _,_,.nil=>.inl ⟨rfl,rfl⟩
 | _,_,.cons (k:=k') (v:=v) (w:=w) q r=>by
  by_cases e:k'=k
  ·refine .inr ⟨v,w,zf7 (p:=(k',v)) e,?_,q⟩
   unfold lookK; rw [List.find?_cons]; simp [e]
  ·rcases KReps.look k r with ⟨a,b⟩ | ⟨v',w',a,b,c⟩
   ·refine .inl ⟨(zd0 (p:=(k',v)) e).trans a,?_⟩
    unfold lookK at b ⊢; rw [List.find?_cons]; simp only [decide_eq_false e]; exact b
   ·refine .inr ⟨v',w',(zd0 (p:=(k',v)) e).trans a,?_,c⟩
    unfold lookK at b ⊢; rw [List.find?_cons]; simp only [decide_eq_false e]; exact b
theorem KReps.any (k:Key):∀ {vs:List (Key × V)} {ws:List (Key × W)},KReps K m n H vs ws→(vs.any fun kv=>decide (kv.1=k))=(ws.any fun kv=>decide (kv.1=k))
 | _,_,.nil=>rfl
 | _,_,.cons q r=>by rw [List.any_cons,List.any_cons,KReps.any k r]
theorem KReps.repl {v:V} {w:W} (q:VRep K m n H v w) (k:Key):∀ {vs:List (Key × V)} {ws:List (Key × W)},KReps K m n H vs ws→KReps K m n H (vs.map fun kv=>if kv.1=k then (kv.1,v) else kv) (ws.map fun kv=>if kv.1=k then (kv.1,w) else kv)
 | _,_,.nil=>.nil
 | _,_,.cons (k:=k') p r=>by
  rw [vao,vao]
  by_cases e:k'=k
  ·simp only [if_pos e]; exact .cons q (KReps.repl q k r)
  ·simp only [if_neg e]; exact .cons p (KReps.repl q k r)
theorem KReps.snoc {v:V} {w:W} (q:VRep K m n H v w) (k:Key):∀ {vs:List (Key × V)} {ws:List (Key × W)},KReps K m n H vs ws→KReps K m n H (vs++[(k,v)]) (ws++[(k,w)])
 | _,_,.nil=>.cons q .nil
 | _,_,.cons p r=>.cons p (KReps.snoc q k r)
theorem KReps.put {v:V} {w:W} (q:VRep K m n H v w) (k:Key) {vs:List (Key × V)} {ws:List (Key × W)} (r:KReps K m n H vs ws):KReps K m n H (putK vs k v) (putKW ws k w):=by
 unfold putK putKW
 rw [r.any k]
 split
 ·exact r.repl q k
 ·exact r.snoc q k
theorem KReps.merge {vs:List (Key × V)} {ws:List (Key × W)} (q:KReps K m n H vs ws):∀ {va:List (Key × V)} {wa:List (Key × W)},KReps K m n H va wa→KReps K m n H (zdt va vs) (zjw wa ws):=by
 induction q with
 | nil=>exact fun a=>a
 | cons q r ih=>exact fun a=>ih (a.put q _)
theorem KReps.length:∀ {vs:List (Key × V)} {ws:List (Key × W)},KReps K m n H vs ws→vs.length=ws.length
 | _,_,.nil=>rfl
 | _,_,.cons _ r=>by rw [vah,vah,KReps.length r]
theorem zsz {v:V} {w:W} {k:Key} (q:VRep K m n H v w) (e:keyW w=some k):v=kV k:=by
 cases q <;> cases e <;> rfl
theorem zgd {vs:List V} {ws:List W} {i:Int} {w:W} (q:VReps K m n H vs ws) (e:atI ws i=some w):∃ v,atI vs i=some v∧VRep K m n H v w:=by
 unfold atI at e ⊢
 rw [q.length]
 cases z:ixN ws.length i with
 | none=>rw [z] at e; cases e
 | some j=>
  rw [z] at e
  exact q.get e
end
noncomputable def rIdx (K:PySem.W.Frag):R2:=fun x y H Q=>rIxL K x y H Q∨rIxT K x y H Q∨(∃ a v,x=.ref a∧DGet H a y (some v)∧Q v H)∨rIxX K x y H Q
section
variable {X:Cx} {a b c e o:Expr} {es:List Expr} {fa fb fc fo:FE} {pos:Pos}
theorem zs0 (hu:X.A.units + 1 < cLine):IxR X (fun x y H Q=>∃ a v,x=.ref a∧DGet H a y (some v)∧Q v H):=by
 intro value slice pins s σ H x y v u Q I rx ry q hs
 obtain ⟨a,v',rfl,g,q⟩:=q
 obtain rfl:v=Value.ref a:=rx
 exact tail_any (ziu I g) PySem.F.slot_dict_getitem.lookup (zmb hu I g ry fun w' s3 I3 rw'=>⟨v',H,I3,rw',q⟩) hs
theorem ix_ok (hu:X.A.units + 2 < cLine):IxR X (rIdx X.K):=zsg.or (zu9.or ((zs0 (by omega)).or (ix_dt hu)))
theorem zs1 {K:PySem.W.Frag}:OpV K (rIdx K) (fun x y h=>.of (idxW h x y) h):=by
 intro m h H v u x y w h' Q r qv qu e0 k
 obtain ⟨e,e1⟩:=of_ok e0
 clear e0
 subst e1
 unfold idxW at e
 split at e
 ·cases qv with
  | tup sq rs=>
   cases qu
   obtain ⟨v',h1,h2⟩:=zgd rs e
   exact .inr (.inl ⟨_,_,_,v',rfl,rfl,sq,h1,Wants.here k r h2⟩)
 ·cases qv with
  | fz sq rs=>
   cases qu
   obtain ⟨v',h1,h2⟩:=zgd rs e
   exact .inl ⟨_,_,_,v',rfl,rfl,sq.sq,h1,Wants.here k r h2⟩
 ·rename_i i j
  cases qv; cases qu
  cases g:h'.get i with
  | none=>rw [g] at e; cases e
  | some ob=>
   rw [g] at e
   cases ob with
   | lst ws=>
    obtain ⟨vs,p1,p2⟩:=r.lst g
    obtain ⟨v',h1,h2⟩:=zgd p2 e
    exact .inl ⟨_,_,_,v',rfl,rfl,SqL.of p1,h1,Wants.here k r h2⟩
   | dk ws=>
    have e:lookK ws (.inl j)=some w:=e
    obtain ⟨vs,p1,p2⟩:=r.dk g
    rcases p2.look (.inl j) with ⟨_,z⟩ | ⟨v',w',z1,z2,z3⟩
    ·rw [z] at e; cases e
    ·rw [z2] at e; cases e
     exact .inr (.inr (.inl ⟨_,v',rfl,by rw [← z1]; exact .inl ⟨vs,.inl j,p1,rfl,rfl⟩,Wants.here k r z3⟩))
   | dt _ _=>cases e
   | ins _ _ _=>cases e
 ·rename_i i j
  cases qv; cases qu
  cases g:h'.get i with
  | none=>rw [g] at e; cases e
  | some ob=>
   rw [g] at e
   cases ob with
   | lst ws=>cases e
   | dk ws=>
    have e:lookK ws (.inr j)=some w:=e
    obtain ⟨vs,p1,p2⟩:=r.dk g
    rcases p2.look (.inr j) with ⟨_,z⟩ | ⟨v',w',z1,z2,z3⟩
    ·rw [z] at e; cases e
    ·rw [z2] at e; cases e
     exact .inr (.inr (.inl ⟨_,v',rfl,by rw [← z1]; exact .inl ⟨vs,.inr j,p1,rfl,rfl⟩,Wants.here k r z3⟩))
   | dt _ _=>cases e
   | ins _ _ _=>cases e
 ·rename_i i _ _
  cases qv
  unfold idxD at e
  split at e
  ·rename_i ks ws dk g hk
   obtain ⟨xs,p1,p2,p3,p4⟩:=r.dt g
   obtain ⟨c,rfl,kk⟩:=zem qu hk
   rcases zgb dk p2 p4 with ⟨_,z2⟩ | ⟨p,w',z1,z2,z3⟩
   ·rw [z2] at e; cases e
   ·rw [z2] at e; cases e
    exact .inr (.inr (.inr ⟨_,c,xs,dk,p,rfl,rfl,dt_DT p1 p2 p3,kk,z1,Wants.here k r z3⟩))
  ·cases e
 ·cases e
theorem zwi (hu:X.A.units + 2 < cLine) (ha:SE X a fa) (hb:SE X b fb) (hs:ziq b):SE X (.Subscript a b pos) (fun ρ h=>(fa ρ h).bind fun x h=>(fb ρ h).bind fun y h=>.of (idxW h x y) h):=
 (pe_ix (ix_ok hu) ha hb hs).imp fun σ H Q q=>zga (G:=rIdx X.K) zs1 q
noncomputable def lftO (K:PySem.W.Frag) (b:Bool) (f:FE):TO:=fun σ H Q=>∃ ρ h m w o h',Fr K m h.n H σ ρ∧Rel K m h H∧f ρ h=.ok w h'∧partW b w=some o∧∀ H' m',Stp m h.n H m' h'.n H'→Rel K m' h' H'→Q o H'
theorem zs2 {w:W}:PO X none (lftO X.K false (fun _ h=>.ok w h)):=fun pins s σ H Q I hq0=>by
 obtain ⟨ρ,h,m,w,o,h',f,r,e,ep,k⟩:=hq0
 cases e
 have:o=none:=by
  unfold partW at ep
  cases ep; rfl
 subst this
 exact zsd pins s σ H Q I (k H m .refl r)
theorem zs3 (ha:SE X e fa):PO X (some e) (lftO X.K true fa):=fun pins s σ H Q I hq0=>by
 obtain ⟨ρ,h,m,w,o,h',f,r,e,ep,k⟩:=hq0
 refine zse ha pins s σ H Q I ⟨ρ,h,m,w,h',f,r,e,fun v H' m' s' r' q=>?_⟩
 cases q <;> cases ep
 exact ⟨_,rfl,k H' m' s' r'⟩
theorem zjz {K:PySem.W.Frag} {m:Nat→Addr} {n:Nat} {H:Hp} {vs:List V} {ws:List W} (q:VReps K m n H vs ws) (lo hi:Option Int):VReps K m n H (cutV vs lo hi) (cutW ws lo hi):=by
 unfold cutV cutW
 rw [q.length]
 exact (q.drop _).take _
theorem zk1 {ws:List W} {lo hi:Option Int} (h:HT.sIx ws.length 0 lo=0∧HT.sIx ws.length ws.length hi=ws.length):cutW ws lo hi=ws:=by
 unfold cutW
 rw [h.1,h.2]
 simp
theorem zwj {lo hi:Option Expr} {fl fh:FE} {p2:Pos} {bl bh:Bool} (ha:SE X a fa) (hl:PO X lo (lftO X.K bl fl)) (hh:PO X hi (lftO X.K bh fh)) :
 SE X (.Subscript a (.Slice lo hi none p2) pos) (fun ρ h=>(fa ρ h).bind fun x h=>(fl ρ h).bind fun l h=>(fh ρ h).bind fun u h=>match partW bl l,partW bh u with
 | some l,some u=>slcW x l u h
 | _,_=>.no):=
 (zo5 zvk ha hl hh).imp fun σ H Q hq0=>by
   obtain ⟨ρ,h,m,w,h',f,r,e,k⟩:=hq0
   obtain ⟨x,h1,e1,e2⟩:=zae e
   obtain ⟨l,h2,e3,e4⟩:=zae e2
   obtain ⟨u,h3,e5,e6⟩:=zae e4
   split at e6
   ·rename_i l' u' pl pu
    refine ⟨ρ,h,m,x,h1,f,r,e1,fun v H1 m1 s1 r1 q1=>⟨ρ,h1,m1,l,l',h2,f.stp s1,r1,e3,pl,fun H2 m2 s2 r2=>⟨ρ,h2,m2,u,u',h3,(f.stp s1).stp s2,r2,e5,pu,fun H3 m3 s3 r3=>?_⟩⟩⟩
    have q3:=(q1.stp s2).stp s3
    have kk:Wants X.K m3 h3.n H3 w h' Q:=fun v' H' m' s' r' q'=>k v' H' m' (((s1.trans s2).trans s3).trans s') r' q'
    unfold slcW at e6
    split at e6
    ·rename_i ws
     cases e6
     cases q3 with
     | @tup a vs _ sq rs=>
      by_cases hw:HT.sIx vs.length 0 l'=0∧HT.sIx vs.length vs.length u'=vs.length
      ·refine .inl (.inr ⟨_,_,rfl,sq,hw,?_⟩)
       have hw':=hw
       rw [rs.length] at hw'
       rw [zk1 hw'] at kk
       exact Wants.here kk r3 (.tup sq rs)
      ·exact .inl (.inl ⟨_,_,rfl,sq,hw,fun p hp=>Wants.tuple kk r3 (zjz rs l' u') hp⟩)
    ·rename_i i
     cases q3
     cases g:h3.get i with
     | none=>rw [g] at e6; cases e6
     | some ob=>
      rw [g] at e6
      cases ob with
      | lst ws=>
       cases e6
       obtain ⟨vs,p1,p2⟩:=r3.lst g
       exact .inr ⟨_,_,rfl,SqL.of p1,fun p hp=>Wants.list kk r3 (zjz p2 l' u') hp⟩
      | dk ws=>cases e6
      | dt _ _=>cases e6
      | ins _ _ _=>cases e6
    ·cases e6
   ·cases e6
end
noncomputable def zaz:Expr→Bool
 | .Starred ..=>false
 | _=>true
theorem zak {e:Expr} {es:List Expr} {env:Env} (h:zaz e=true):starEach (e :: es) env=(false,eval e env) :: starEach es env:=by
 cases e <;> first | rfl | cases h
theorem zcv {pos:Pos} {env:Env}:∀ {es:List Expr},es.all zaz=true→(backTo pos (starEach es env)).any (·.1)=false
 | [],_=>rfl
 | e :: es,h=>by
  rw [List.all_cons,vac] at h
  rw [zak h.1]
  show (false || (backTo pos (starEach es env)).any (·.1))=false
  rw [zcv h.2]; rfl
noncomputable abbrev aNil:FE:=fun _ h=>.ok (.tup []) h
noncomputable abbrev aCons (fa fb:FE):FE:=fun ρ h=>(fa ρ h).bind fun x h=>(fb ρ h).bind fun y h=>match y with | .tup ys=>.ok (.tup (x :: ys)) h | _=>.no
section
variable {X:Cx} {a b c e o:Expr} {es:List Expr} {fa fb fc fo:FE} {pos p:Pos} {x:Str}
noncomputable abbrev gArg (fa:FE) (g:List W→VH→Res W):FE:=fun ρ h=>(fa ρ h).bind fun y h=>match y with | .tup ys=>g ys h | _=>.no
noncomputable def CallV (K:PySem.W.Frag) (r:List V→Hp→VK→Prop) (g:List W→VH→Res W):Prop:=∀ (m:Nat→Addr) (h:VH) (H:Hp) (vs:List V) (xs:List W) (w:W) (h':VH) (Q:VK),Rel K m h H→VReps K m h.n H vs xs→g xs h=.ok w h'→Wants K m h.n H w h' Q→r vs H Q
theorem zcw {id:String} {r:List V→Hp→VK→Prop} {g:List W→VH→Res W} (hc:CallR X (.builtin id) r) (hv:CallV X.K r g) (hg:Gl X x) (hm:X.mg x=none) (hb:bootBuiltins x=some (.builtin id)) (ha:SA X (e :: es) fa) (hs:(e :: es).all zaz=true)
 (hn:x ≠ "__name__") (hdb:(x == ("__debug__" : Str))=false):SE X (.Call (.Name x p) (e :: es) [] pos) (gArg fa g):=by
 rw [List.all_cons,vac] at hs
 exact (zjr hc hg hm hb ha hn hdb (zak hs.1) (zcv hs.2)).imp fun σ H Q q=>zdh hv q
theorem zen {T:String} {r:List V→Hp→VK→Prop} {g:List W→VH→Res W} (hc:CallR X (.type T) r) (hv:CallV X.K r g) (hg:Gl X x) (hm:X.mg x=none) (hb:bootBuiltins x=some (.type T)) (ha:SA X (e :: es) fa) (hs:(e :: es).all zaz=true)
 (hn:x ≠ "__name__") (hdb:(x == ("__debug__" : Str))=false):SE X (.Call (.Name x p) (e :: es) [] pos) (gArg fa g):=by
 rw [List.all_cons,vac] at hs
 exact (zl5 hc hg hm hb ha hn hdb (zak hs.1) (zcv hs.2)).imp fun σ H Q q=>zdh hv q
theorem reps1 {K:PySem.W.Frag} {m:Nat→Addr} {n:Nat} {H:Hp} {vs:List V} {w:W} (q:VReps K m n H vs [w]):∃ v,vs=[v]∧VRep K m n H v w:=by
 cases q with | cons q r=>cases r; exact ⟨_,rfl,q⟩
theorem zwk {K:PySem.W.Frag}:CallV K (fun xs H Q=>(∃ p ys,xs=[.ref p]∧(SqL K H p ys∨SqT K H p ys)∧Q (.int ys.length) H)∨∃ a ys,xs=[.ref a]∧DT K H a ys∧Q (.int ys.length) H) lenW:=by
 intro m h H vs xs w h' Q r q e k
 unfold lenW at e
 split at e <;> try cases e
 rename_i x
 obtain ⟨v,rfl,q1⟩:=reps1 q
 obtain ⟨e,rfl⟩:=of_ok e
 cases z:seqW h' x with
 | none=>
  rw [z] at e
  simp only [keysD] at e
  cases q1 <;> try cases e
  rename_i i _ _
  cases g:h'.get i with
  | none=>simp [g] at e
  | some ob=>
   cases ob with
   | lst _=>simp [g] at e
   | dk _=>simp [g] at e
   | ins _ _ _=>simp [g] at e
   | dt ks ws=>
    simp only [g,van,Option.some.injEq] at e
    subst e
    obtain ⟨xs,p1,p2,p3,p4⟩:=r.dt g
    have:=p3.length
    rw [vab] at this
    exact .inr ⟨_,xs,rfl,dt_DT p1 p2 p3,by rw [this]; exact Wants.here k r (.int _)⟩
 | some ws=>
  rw [z] at e; cases e
  obtain ⟨p,us,rfl,h1,h2⟩:=zdj r q1 z
  exact .inl ⟨p,us,rfl,h1,by rw [h2.length]; exact Wants.here k r (.int _)⟩
theorem zs4 {K:PySem.W.Frag}:CallV K (fun xs H Q=>∃ p ys,xs=[.ref p]∧(SqL K H p ys∨SqT K H p ys)∧∀ l,H l=none→Q (.ref l) (upd H l (.lst ys))) listW:=by
 intro m h H vs xs w h' Q r q e k
 unfold listW at e
 split at e <;> try cases e
 rename_i x
 obtain ⟨v,rfl,q1⟩:=reps1 q
 cases z:seqW h x with
 | none=>rw [z] at e; cases e
 | some ws=>
  rw [z] at e; cases e
  obtain ⟨p,us,rfl,h1,h2⟩:=zdj r q1 z
  exact ⟨p,us,rfl,h1,fun l hl=>Wants.list k r h2 hl⟩
theorem zpr {K:PySem.W.Frag}:CallV K (fun xs H Q=>(∃ p ys,xs=[.ref p]∧((SqL K H p ys∧∀ l,H l=none→Q (.ref l) (upd H l (.tup ys)))∨(SqT K H p ys∧Q (.ref p) H)))∨∃ a ys,xs=[.ref a]∧DT K H a ys∧∀ l,H l=none→Q (.ref l) (upd H l (.tup (ys.map fun p=>.ref p.2.1)))) zcu:=by
 intro m h H vs xs w h' Q r q e k
 unfold zcu at e
 split at e <;> try cases e
 rename_i x
 obtain ⟨v,rfl,q1⟩:=reps1 q
 obtain ⟨e,rfl⟩:=of_ok e
 cases z:seqW h' x with
 | none=>
  rw [z] at e
  simp only [keysD] at e
  cases q1 <;> try cases e
  rename_i i _ _
  cases g:h'.get i with
  | none=>simp [g] at e
  | some ob=>
   cases ob with
   | lst _=>simp [g] at e
   | dk _=>simp [g] at e
   | ins _ _ _=>simp [g] at e
   | dt ks ws=>
    simp only [g,van,Option.some.injEq] at e
    subst e
    obtain ⟨xs,p1,p2,p3,p4⟩:=r.dt g
    exact .inr ⟨_,xs,rfl,dt_DT p1 p2 p3,fun l hl=>Wants.tuple k r p3 hl⟩
 | some ws=>
  rw [z] at e; cases e
  obtain ⟨p,us,rfl,h1,h2⟩:=zdj r q1 z
  rcases h1 with h1 | h1
  ·exact .inl ⟨p,us,rfl,.inl ⟨h1,fun l hl=>Wants.tuple k r h2 hl⟩⟩
  ·exact .inl ⟨p,us,rfl,.inr ⟨h1,Wants.here k r (.tup h1 h2)⟩⟩
theorem zwl {K:PySem.W.Frag}:CallV K (fun xs H Q=>(∃ i,xs=[.int i]∧Q (.int i) H)∨∃ k,xs=[.bl k]∧Q (.int (if k then 1 else 0)) H) intW:=by
 intro m h H vs xs w h' Q r q e k
 unfold intW at e
 split at e <;> try cases e
 ·obtain ⟨v,rfl,q1⟩:=reps1 q
  cases q1
  exact .inl ⟨_,rfl,Wants.here k r (.int _)⟩
 ·obtain ⟨v,rfl,q1⟩:=reps1 q
  cases q1
  exact .inr ⟨_,rfl,Wants.here k r (.int _)⟩
theorem zwm {K:PySem.W.Frag}:CallV K (fun xs H Q=>∃ i,xs=[.int i]∧Q (.int (if i < 0 then -i else i)) H) absW:=by
 intro m h H vs xs w h' Q r q e k
 unfold absW at e
 split at e <;> try cases e
 obtain ⟨v,rfl,q1⟩:=reps1 q
 cases q1
 exact ⟨_,rfl,Wants.here k r (.int _)⟩
theorem reps2 {K:PySem.W.Frag} {m:Nat→Addr} {n:Nat} {H:Hp} {vs:List V} {w z:W} (q:VReps K m n H vs [w,z]):∃ v u,vs=[v,u]∧VRep K m n H v w∧VRep K m n H u z:=by
 cases q with | cons q r=>obtain ⟨u,rfl,h⟩:=reps1 r; exact ⟨_,_,rfl,q,h⟩
theorem zwn {K:PySem.W.Frag}:CallV K (fun xs H Q=>∃ i j,xs=[.int i,.int j]∧Q (.int (if j > i then j else i)) H) maxW:=by
 intro m h H vs xs w h' Q r q e k
 unfold maxW at e
 split at e <;> try cases e
 obtain ⟨v,u,rfl,q1,q2⟩:=reps2 q
 cases q1; cases q2
 exact ⟨_,_,rfl,Wants.here k r (.int _)⟩
theorem zwo {K:PySem.W.Frag}:CallV K (fun xs H Q=>∃ i j,xs=[.int i,.int j]∧Q (.int (if j < i then j else i)) H) minW:=by
 intro m h H vs xs w h' Q r q e k
 unfold minW at e
 split at e <;> try cases e
 obtain ⟨v,u,rfl,q1,q2⟩:=reps2 q
 cases q1; cases q2
 exact ⟨_,_,rfl,Wants.here k r (.int _)⟩
theorem zj0 {K:PySem.W.Frag} {m:Nat→Addr} {n:Nat} {H:Hp}:∀ {vs:List V} {ws:List W} {bs:List Bool},VReps K m n H vs ws→mapO blW ws=some bs→vs=bs.map .bl
 | _,_,bs,.nil,e=>by cases e; rfl
 | _,_,bs,.cons (w:=w) (ws:=ws) q r,e=>by
  unfold mapO at e
  cases z:blW w with
  | none=>rw [z] at e; cases e
  | some b=>
   rw [z] at e
   cases z2:mapO blW ws with
   | none=>rw [z2] at e; cases e
   | some cs=>
    rw [z2] at e; cases e
    unfold blW at z
    split at z <;> cases z
    cases q
    rw [zj0 r z2]; rfl
theorem zwp {K:PySem.W.Frag}:CallV K (fun xs H Q=>∃ (p:Addr) (bs:List Bool),xs=[.ref p]∧SqL K H p (bs.map .bl)∧Q (.bl (bs.all id)) H) allW:=by
 intro m h H vs xs w h' Q r q e k
 unfold allW at e
 split at e <;> try cases e
 rename_i i
 split at e <;> try cases e
 rename_i ws g
 obtain ⟨v,rfl,q1⟩:=reps1 q
 obtain ⟨e,rfl⟩:=of_ok e
 cases z:mapO blW ws with
 | none=>rw [z] at e; cases e
 | some bs=>
  rw [z] at e; cases e
  cases q1
  obtain ⟨us,p1,p2⟩:=r.lst g
  refine ⟨_,bs,rfl,?_,Wants.here k r (.bl _)⟩
  rw [← zj0 p2 z]
  exact .inl (.inl p1)
noncomputable def tyN:Ty→String
 | .int => "int" | .bool => "bool" | .tuple => "tuple" | .list => "list" | .str => "str" | .dict => "dict"
noncomputable def rIsi (K:PySem.W.Frag) (n:String):List V→Hp→VK→Prop:=fun xs H Q=>∃ x b,xs=[x,.ty n]∧((∃ t,TyOf K H x t∧PySem.W.kitOne K t (.type n)=some b)∨(∃ a vs,x=.ref a∧SqT K H a vs∧PySem.W.kitOne K (.type "tuple") (.type n)=some b)∨∃ a kvs,x=.ref a∧Rd H a (.dK kvs)∧PySem.W.kitOne K (.type "dict") (.type n)=some b)∧Q (.bl b) H
theorem zps (n:String):CallR X (.builtin "isinstance") (rIsi X.K n):=by
 intro pins s σ H xs us Q I r h
 obtain ⟨x,b,rfl,hi,q⟩:=h
 obtain ⟨u,u2,rfl,rx,rc⟩:=vals2 r
 obtain rfl:u2=Value.type n:=rc
 rcases hi with ⟨t,ty,e⟩ | ⟨a,vs,rfl,sq,e⟩ | ⟨a,kvs,rfl,rd,e⟩
 ·exact zl2 I rx ty e fun tk=>⟨.bl b,H,I.tok _,rfl,q⟩
 ·obtain rfl:u=Value.ref a:=rx
  obtain ⟨its,_,p,_⟩:=I.tuple sq
  obtain ⟨o,h1,h2,_⟩:=p
  exact PySem.W.kia_one PySem.W.kitx_tuple I.kIn ⟨o,h1,h2⟩ e (fun z=>nomatch z) fun tk=>⟨.bl b,H,I.tok _,rfl,q⟩
 ·obtain rfl:u=Value.ref a:=rx
  obtain ⟨_,_,_,_,o,_,_,h1,h2,_⟩:=dk_rd I.hok rd
  exact PySem.W.kia_one PySem.W.kitx_dict I.kIn ⟨o,h1,h2.1⟩ e (fun z=>nomatch z) fun tk=>⟨.bl b,H,I.tok _,rfl,q⟩
theorem zwq {K:PySem.W.Frag} (t:Ty) {m:Nat→Addr} {h:VH} {H:Hp} {v:V} {x:W} {b:Bool} (r:Rel K m h H) (q:VRep K m h.n H v x) (e:tyIs t h x=some b) :
 (∃ t',TyOf K H v t'∧PySem.W.kitOne K t' (.type (tyN t))=some b)∨(∃ a vs,v=.ref a∧SqT K H a vs∧PySem.W.kitOne K (.type "tuple") (.type (tyN t))=some b)∨∃ a kvs,v=.ref a∧Rd H a (.dK kvs)∧PySem.W.kitOne K (.type "dict") (.type (tyN t))=some b:=by
 cases q with
 | non=>cases e; refine .inl ⟨_,.non,?_⟩; cases t <;> rfl
 | bl x=>cases e; refine .inl ⟨_,.bl x,?_⟩; cases t <;> rfl
 | int x=>cases e; refine .inl ⟨_,.int x,?_⟩; cases t <;> rfl
 | str x=>cases e; refine .inl ⟨_,.str x,?_⟩; cases t <;> rfl
 | tup sq rs=>cases e; refine .inr (.inl ⟨_,_,rfl,sq,?_⟩); cases t <;> rfl
 | fz _ _=>cases e
 | @ref i hi=>
  simp only [tyIs] at e
  cases g:h.get i with
  | none=>rw [g] at e; cases e
  | some o=>
   rw [g] at e
   cases o with
   | lst ws=>
    cases e
    obtain ⟨vs,h1,h2⟩:=r.lst g
    refine .inl ⟨_,.lst h1,?_⟩; cases t <;> rfl
   | dk ws=>
    cases e
    obtain ⟨vs,h1,h2⟩:=r.dk g
    refine .inr (.inr ⟨_,_,rfl,h1,?_⟩); cases t <;> rfl
   | dt _ _=>cases e
   | ins _ _ _=>cases e
theorem zwr (t:Ty) {T:Str} {p2:Pos} (ha:SE X e fa) (hs:zaz e=true) (hg:Gl X "isinstance") (hm:X.mg "isinstance" = none) (hgT:Gl X T) (hmT:X.mg T=none) (hbT:bootBuiltins T=some (.type (tyN t))) (hn:T ≠ "__name__") (hd:(T == ("__debug__" : Str))=false) :
 SE X (.Call (.Name "isinstance" p) [e,.Name T p2] [] pos) (fun ρ h=>(fa ρ h).bind fun x h=>.of ((tyIs t h x).map .bl) h):=by
 have hT:PE X (.Name T p2) (tC (.ty (tyN t))):=zrz hgT hmT hbT rfl hn hd
 refine (zjr (zps (tyN t)) hg hm PyProof.Rows.boot_isinstance (zee ha (zee hT zjo) (zak hs)) (by decide) (by decide) (zak hs) rfl).imp fun σ H Q q=>?_
 refine zqy (g:=fun x h=>.of ((tyIs t h x).map .bl) h) (G:=fun v H1 Q=>rIsi X.K (tyN t) [v,.ty (tyN t)] H1 Q) (fun m h H v x w h' Q r q e k=>?_) q
 obtain ⟨e,rfl⟩:=of_ok e
 cases z:tyIs t h' x with
 | none=>rw [z] at e; cases e
 | some b=>
  rw [z] at e; cases e
  exact ⟨v,b,rfl,zwq t r q z,Wants.here k r (.bl b)⟩
noncomputable def zi0:Expr→Bool
 | .Name .. | .Subscript ..=>true
 | _=>false
theorem zs5 {o:Expr} {m:Str} {env:Env} (h:zi0 o=true):attributeBase o m env (eval o env)=eval o env:=by
 cases o <;> first | rfl | cases h
noncomputable abbrev gMt (m:Mt) (fo fa:FE):FE:=fun ρ h=>(fo ρ h).bind fun x h=>if zhf m h x then (fa ρ h).bind fun y h=>match y with | .tup ys=>mtW m x ys h | _=>.no else .no
theorem zmz {apos:Pos} (ho:SE X o fo) (he:SE X e fa) (hb:zi0 o=true) (hs:zaz e=true) (hl:(apos.endLine == pos.line)=true) :
 SE X (.Call (.Attribute o "append" apos) [e] [] pos) (gMt .append fo (aCons fa aNil)):=by
 refine (pe_bm (X:=X) PySem.F.plainAttrs_list PySem.F.slot_list_append PySem.F.type_list_append zhb ho (zee he zjo (zak hs)) (zs5 hb) ?_ hl (zak hs) rfl).imp fun σ H Q ⟨ρ,h,m,w,h',f,r,e,k⟩=>?_
 ·rw [zak hs]; rfl
 ·obtain ⟨x,h1,e1,e2⟩:=zae e
  split at e2
  ·rename_i hk
   obtain ⟨y,h2,e3,e4⟩:=zae e2
   obtain ⟨z,h3,e5,e6⟩:=zae e3
   cases e6
   refine ⟨ρ,h,m,x,h1,f,r,e1,fun v H1 m1 s1 r1 q1=>?_⟩
   cases x <;> try cases hk
   rename_i i
   simp only [zhf] at hk
   cases g:h1.get i with
   | none=>rw [g] at hk; cases hk
   | some ob=>
    rw [g] at hk
    cases ob with
    | dk _=>cases hk
    | dt _ _=>cases hk
    | ins _ _ _=>cases hk
    | lst ws0=>
     cases q1
     obtain ⟨vs0,p1,_⟩:=r1.lst g
     refine ⟨.inl ⟨rfl,vs0,SqL.of p1⟩,ρ,h1,m1,z,h2,f.stp s1,r1,e5,fun v2 H2 m2 s2 r2 q2=>?_⟩
     simp only [mtW] at e4
     cases g2:h2.get i with
     | none=>rw [g2] at e4; cases e4
     | some ob=>
      rw [g2] at e4
      cases ob with
      | dk _=>cases e4
      | dt _ _=>cases e4
      | ins _ _ _=>cases e4
      | lst ws=>
       simp only at e4
       split at e4
       ·rename_i hz
        cases e4
        obtain ⟨vs,p2,p3⟩:=r2.lst g2
        have hmi:m1 i=m2 i:=(s2.same i (zar g)).symm
        refine ⟨m1 i,vs,v2,rfl,rfl,by rw [hmi]; exact p2,by rw [p3.length]; exact zan.mp hz,?_⟩
        obtain ⟨st,r'⟩:=r2.write (i:=i) (o:=.lst (ws++[z])) (u:=.lst (vs++[v2])) (zar g2) p2 (fun _ z=>nomatch z) (fun _ _ z=>nomatch z) fun st=>⟨vs++[v2],zap,(p3.stp st).append (.cons (q2.stp st) .nil)⟩
        rw [hmi]
        exact k .non _ m2 ((s1.trans s2).trans st) r' .non
       ·cases e4
  ·cases e2
end
section
variable {K:PySem.W.Frag} {m m' m1:Nat→Addr} {n n' n1:Nat} {h h':VH} {H H' H1:Hp}
mutual
theorem VRep.mono (hn:n≤n') (hm:∀ i,i < n→m' i=m i) (kt:∀ b vs,H b=some (.tup vs)→H' b=some (.tup vs)) (kf:∀ b o u,H b=some (.frz o u)→H' b=some (.frz o u)):∀ {v:V} {w:W},VRep K m n H v w→VRep K m' n' H' v w
 | _,_,.non=>.non
 | _,_,.bl b=>.bl b
 | _,_,.int b=>.int b
 | _,_,.str b=>.str b
 | _,_,.tup q r=>.tup (by
  rcases q with (q | ⟨o,q⟩) | q
  ·exact .inl (.inl (kt _ _ q))
  ·exact .inl (.inr ⟨o,kf _ _ _ q⟩)
  ·exact .inr q) (VReps.mono hn hm kt kf r)
 | _,_,.fz q r=>.fz (by
  rcases q with ⟨o,q⟩ | q
  ·exact .inl ⟨o,kf _ _ _ q⟩
  ·exact .inr q) (VReps.mono hn hm kt kf r)
 | _,_,.ref (i:=i) q=>by rw [← hm i q]; exact .ref (vak q hn)
theorem VReps.mono (hn:n≤n') (hm:∀ i,i < n→m' i=m i) (kt:∀ b vs,H b=some (.tup vs)→H' b=some (.tup vs)) (kf:∀ b o u,H b=some (.frz o u)→H' b=some (.frz o u)):∀ {vs:List V} {ws:List W},VReps K m n H vs ws→VReps K m' n' H' vs ws
 | _,_,.nil=>.nil
 | _,_,.cons q r=>.cons (VRep.mono hn hm kt kf q) (VReps.mono hn hm kt kf r)
end
theorem Rel.side (r:Rel K m h H) {D:Addr} {u u0:HO} (hu:H D=some u0) (ht:∀ t,u0≠.tup t) (hf:∀ o t,u0≠.frz o t) (ho:∀ i,i < h.n→m i≠D) (s:Stp m1 n1 H1 m h.n H) (h0:H1 D=none) :
 Stp m1 n1 H1 m h.n (upd H D u)∧Rel K m h (upd H D u)∧∀ {v:V} {w:W},VRep K m h.n H v w→VRep K m h.n (upd H D u) v w:=by
 have kt:∀ b vs,H b=some (.tup vs)→upd H D u b=some (.tup vs):=fun b vs q=>by rw [zah (ne_of q hu fun z=>ht vs z.symm)]; exact q
 have kf:∀ b o t,H b=some (.frz o t)→upd H D u b=some (.frz o t):=fun b o t q=>by rw [zah (ne_of q hu fun z=>hf o t z.symm)]; exact q
 have mv:∀ {v:V} {w:W},VRep K m h.n H v w→VRep K m h.n (upd H D u) v w:=fun q=>q.mono (vae _) (fun _ _=>rfl) kt kf
 refine ⟨⟨s.le,s.same,s.new,s.apart,fun b vs q=>kt b vs (s.tup b vs q),fun b o t q=>kf b o t (s.frz b o t q),fun b o nb q=>by rw [zah (zaf q h0)]; exact s.keep b o nb q⟩,⟨fun i hi=>?_,r.inj,r.len⟩,mv⟩
 obtain ⟨o,h1,h2⟩:=r.obj i hi
 have eq:upd H D u (m i)=H (m i):=zah (ho i hi)
 refine ⟨o,h1,?_⟩
 cases o with
 | lst ws=>obtain ⟨vs,q1,q2⟩:=h2; exact ⟨vs,eq.trans q1,q2.map mv⟩
 | dk ws=>obtain ⟨vs,q1,q2⟩:=h2; exact ⟨vs,q1.imp (fun z=>eq.trans z) fun ⟨o,z⟩=>⟨o,eq.trans z⟩,q2.map mv⟩
 | dt ks ws=>obtain ⟨xs,q1,q0,q2,q3⟩:=h2; exact ⟨xs,q1.imp (fun z=>eq.trans z) fun ⟨o,z⟩=>⟨o,eq.trans z⟩,q0,q2.map mv,q3.map mv⟩
 | ins C xs ws=>obtain ⟨dx,vs,q1,q0,q2⟩:=h2; exact ⟨dx,vs,eq.trans q1,q0,q2.map mv⟩
theorem Rel.out (r:Rel K m h H) {p:Addr} (hp:H p=none):∀ i,i < h.n→m i≠p:=fun i hi z=>by
 obtain ⟨o',_,h2⟩:=r.obj i hi
 obtain ⟨u',h3⟩:=h2.some
 rw [z,hp] at h3; cases h3
theorem Stp.out (s:Stp m n H m' n' H') {p:Addr} {u:HO} (hp:∀ i,i < n→m i≠p) (hu:H p=some u):∀ i,i < n'→m' i≠p:=fun i hi z=>by
 by_cases hl:i < n
 ·exact hp i hl ((s.same i hl).symm.trans z)
 ·have:=s.new i (Nat.not_lt.mp hl) hi
  rw [z,hu] at this; cases this
end
inductive PReps (K:PySem.W.Frag) (m:Nat→Addr) (n:Nat) (H:Hp):List (V × V)→List W→Prop
 | nil:PReps K m n H [] []
 | cons {k v:V} {a b:W} {ps:List (V × V)} {ws:List W}:VRep K m n H k a→VRep K m n H v b→PReps K m n H ps ws→PReps K m n H ((k,v) :: ps) (a :: b :: ws)
noncomputable def lftP (K:PySem.W.Frag) (f:FE) (σ:L2.St) (H:Hp) (Q:List (V × V)→Hp→Prop):Prop:=∃ ρ h m ws h',Fr K m h.n H σ ρ∧Rel K m h H∧f ρ h=.ok (.tup ws) h' ∧
 ∀ ps H' m',Stp m h.n H m' h'.n H'→Rel K m' h' H'→PReps K m' h'.n H' ps ws→Q ps H'
noncomputable def SPs (X:Cx) (pos:Pos) (keys:List (Option Expr)) (values:List Expr) (f:FE):Prop:=∃ trs,PPs X pos keys values trs∧∀ σ H Q,lftP X.K f σ H Q→zjt trs σ H Q
section
variable {X:Cx} {a b c e o:Expr} {es:List Expr} {fa fb fc fo fr:FE} {pos p:Pos} {x:Str}
theorem zs6:SPs X pos [] [] aNil:=⟨[],zsm,fun σ H Q hq0=>by obtain ⟨ρ,h,m,ws,h',f,r,e,k⟩:=hq0; cases e; exact k [] H m .refl r .nil⟩
theorem zpt {ks:List (Option Expr)} {vs:List Expr} (ha:SE X a fa) (hb:SE X b fb) (hr:SPs X pos ks vs fr):SPs X pos (some a :: ks) (b :: vs) (aCons fa (aCons fb fr)):=by
 obtain ⟨trs,h1,h2⟩:=hr
 refine ⟨_,zpa ha hb h1,fun σ H Q ⟨ρ,h,m,ws,h',f,r,e,k⟩=>?_⟩
 obtain ⟨x,h3,e1,e2⟩:=zae e
 obtain ⟨y,h4,e3,e4⟩:=zae e2
 obtain ⟨x2,h5,e5,e6⟩:=zae e3
 obtain ⟨y2,h6,e7,e8⟩:=zae e6
 cases y2 <;> try cases e8
 cases e4
 rename_i ys
 exact ⟨ρ,h,m,x,h3,f,r,e1,fun v H1 m1 s1 r1 q1=>⟨ρ,h3,m1,x2,h5,f.stp s1,r1,e5,fun v2 H2 m2 s2 r2 q2=>h2 σ H2 _ ⟨ρ,h5,m2,ys,h',(f.stp s1).stp s2,r2,e7,fun ps H3 m3 s3 r3 q3=>
  k _ H3 m3 ((s1.trans s2).trans s3) r3 (.cons ((q1.stp s2).stp s3) (q2.stp s3) q3)⟩⟩⟩
theorem zj1 {K:PySem.W.Frag} {m:Nat→Addr} {n:Nat} {H:Hp}:∀ {ps:List (V × V)} {ws:List W} {kws:List (Key × W)},PReps K m n H ps ws→zb0 ws=some kws→∃ kvs:List (Key × V),ps=kvs.map (fun kv=>(kV kv.1,kv.2))∧KReps K m n H kvs kws
 | _,_,_,.nil,e=>by cases e; exact ⟨[],rfl,.nil⟩
 | _,_,_,.cons (a:=a) (v:=v) q1 q2 r,e=>by
  simp only [zb0] at e
  split at e
  ·rename_i k hk
   split at e
   ·rename_i kvs hp
    cases e
    obtain ⟨kv,rfl,r'⟩:=zj1 r hp
    refine ⟨(k,v) :: kv,?_,.cons q2 r'⟩
    rw [vao,zsz q1 hk]
   ·cases e
  ·cases e
noncomputable abbrev gDsp (f:FE):FE:=fun ρ h=>(f ρ h).bind fun y h=>match y with
 | .tup ys=>(match zb0 ys with
  | some kvs=>if Nat.ble kvs.length 15 then .ok (.ref h.n) (h.new (dkO kvs)) else .no
  | none=>dspD ys h)
 | _=>.no
theorem zws {K:PySem.W.Frag} {m:Nat→Addr} {n:Nat} {H:Hp} {ps:List (V × V)} {a b:W} (q:PReps K m n H ps [a,b]):∃ k v,ps=[(k,v)]∧VRep K m n H k a∧VRep K m n H v b:=by
 cases q with | cons q1 q2 r=>cases r; exact ⟨_,_,rfl,q1,q2⟩
theorem zwt (hu:X.A.units + 2 < cLine) {keys:List (Option Expr)} {values:List Expr} (hp:SPs X pos keys values fa) (hall:keys.all (·.isSome)=true) (hl:keys.length=values.length) (h0:keys≠[]) (h15:keys.length≤15):SE X (.Dict keys values pos) (gDsp fa):=by
 obtain ⟨trs,h1,h2⟩:=hp
 refine (zpp hu h1 hall hl h0 h15).imp fun σ H Q ⟨ρ,h,m,w,h',f,r,e,k⟩ p hp=>?_
 obtain ⟨y,h3,e1,e2⟩:=zae e
 cases y <;> try cases e2
 rename_i ys
 obtain ⟨st0,r0⟩:=r.more (u:=.dK []) hp
 refine h2 σ _ _ ⟨ρ,h,m,ys,h3,f.stp st0,r0,e1,fun ps H2 m2 s2 r2 q2=>?_⟩
 have hout:=s2.out (r.out hp) zap
 have hD:H2 p=some (.dK []):=s2.keep p _ (r.out hp) zap
 refine ⟨hD,?_⟩
 have e2:(match zb0 ys with
  | some kvs=>if Nat.ble kvs.length 15 then Res.ok (W.ref h3.n) (h3.new (dkO kvs)) else .no
  | none=>dspD ys h3)=.ok w h':=e2
 cases hk:zb0 ys with
 | none=>
  rw [hk] at e2
  have e5:dspD ys h3=.ok w h':=e2
  clear e2
  rename_i e00
  clear e00
  unfold dspD at e5
  split at e5
  ·rename_i kw vw
   split at e5
   ·rename_i dk hd
    cases e5
    obtain ⟨kv,vv,rfl,q3,q4⟩:=zws q2
    obtain ⟨b,rfl,kk⟩:=zem q3 hd
    refine .inr ⟨b,dk,vv,rfl,kk,?_⟩
    obtain ⟨st,r'⟩:=r2.adopt (o:=.dt [kw] [vw]) (u:=dtH [(dk,b,vv)] p) hout hD (fun _ z=>nomatch z) (fun _ _ z=>nomatch z) (st0.trans s2) hp fun _ mv=>⟨[(dk,b,vv)],.inl zap,by simp [mapO,hd],.cons (mv q3) .nil,.cons (mv q4) .nil⟩
    refine k _ _ _ st r' ?_
    have:VRep X.K (fun i=>if i=h3.n then p else m2 i) (h3.n + 1) (upd H2 p (dtH [(dk,b,vv)] p)) (.ref ((fun i=>if i=h3.n then p else m2 i) h3.n)) (.ref h3.n):=.ref (Nat.lt_succ_self _)
    simp only [if_true] at this
    exact this
   ·cases e5
  ·cases e5
 | some kws=>
  rw [hk] at e2
  have e2:(if Nat.ble kws.length 15 then Res.ok (W.ref h3.n) (h3.new (dkO kws)) else .no)=.ok w h':=e2
  by_cases hz:Nat.ble kws.length 15=true
  ·rw [if_pos hz] at e2
   cases e2
   obtain ⟨kvs,e3,q3⟩:=zj1 q2 hk
   refine .inl ⟨kvs,e3,by rw [q3.length]; exact Nat.le_of_ble_eq_true hz,?_⟩
   obtain ⟨st,r'⟩:=r2.adopt (o:=dkO kws) (u:=.dK (zdt [] kvs)) hout hD (fun _ z=>nomatch z) (fun _ _ z=>nomatch z) (st0.trans s2) hp fun _ mv=>by
    cases kws with
    | nil=>cases q3; exact ⟨[],.inr ⟨rfl,zap⟩,rfl,.nil,.nil⟩
    | cons k1 kws=>exact ⟨_,.inl zap,(q3.merge .nil).map mv⟩
   refine k _ _ _ st r' ?_
   have:VRep X.K (fun i=>if i=h3.n then p else m2 i) (h3.n + 1) (upd H2 p (.dK (zdt [] kvs))) (.ref ((fun i=>if i=h3.n then p else m2 i) h3.n)) (.ref h3.n):=.ref (Nat.lt_succ_self _)
   simp only [if_true] at this
   exact this
  ·rw [if_neg hz] at e2; cases e2
theorem zs7:SE X (.Dict [] [] pos) (gDsp aNil):=zo9.imp fun σ H Q hq0 p hp=>by
 obtain ⟨ρ,h,m,w,h',f,r,e,k⟩:=hq0
 cases e
 exact Wants.dictD (ks:=[]) (ws:=[]) (xs:=[]) k r hp (.inr ⟨rfl,rfl⟩) rfl .nil .nil
noncomputable def spV (K:PySem.W.Frag) (np:Nat) (g:List W→VH→Res W):Sp:=fun vs H Q _=>vs.length=np∧∃ h m ws w h',Rel K m h H∧VReps K m h.n H vs ws∧g ws h=.ok w h'∧Wants K m h.n H w h' Q
theorem zs8 {k:Nat} {f:Addr} {fd:FuncData} {ps:List Str} {g:List W→VH→Res W} (F:FnOk X.prog X.w X.K X.mg X.base CX0 k f fd ps (spV X.K ps.length g)) (hr:Room k X.A) (hg:Gl X x) (hm:X.mg x=some (.ref f)) (hk:PySem.W.keepIn X.K (.ref f)=true)
 (hb:Binds X.K fd ps []) (ha:SA X (e :: es) fa) (hs:(e :: es).all zaz=true) (hdb:(x == ("__debug__" : Str))=false) (hn:∀ ws h w h',g ws h=.ok w h'→ws.length=ps.length):SE X (.Call (.Name x p) (e :: es) [] pos) (gArg fa g):=by
 rw [List.all_cons,vac] at hs
 refine (zl3 F hr hg hm hk hb .nil pass0 ha hdb (zak hs.1) (zcv hs.2)).imp fun σ H Q q=>zdh (G:=fun vs H1 Q=>spV X.K ps.length g (vs++[]) H1 Q E0) (fun m h H vs xs w h' Q r q e k=>?_) q
 rw [List.append_nil]
 exact ⟨by rw [q.length]; exact hn _ _ _ _ e,h,m,xs,w,h',r,q,e,k⟩
theorem zpu {k:Nat} {f:Addr} {fd:FuncData} {ps:List Str} {g:List W→VH→Res W} (F:FnOk X.prog X.w X.K X.mg X.base CX0 k f fd ps (spV X.K ps.length g)) (hr:Room k X.A) (hg:Gl X x) (hm:X.mg x=some (.ref f)) (hk:PySem.W.keepIn X.K (.ref f)=true)
 (hb:Binds X.K fd ps []) (hdb:(x == ("__debug__" : Str))=false) (hn:∀ ws h w h',g ws h=.ok w h'→ws.length=ps.length):SE X (.Call (.Name x p) [] [] pos) (gArg aNil g):=by
 refine (zo3 F hr hg hm hk hb .nil pass0 hdb).imp fun σ H Q hq0=>?_
 obtain ⟨ρ,h,m,w,h',f,r,e,k⟩:=hq0
 exact ⟨hn _ _ _ _ e,h,m,[],w,h',r,.nil,e,k⟩
theorem zpv {k:Nat} {f:Addr} {fd:FuncData} {ps:List Str} {g:List W→VH→Res W} (F:FnOk X.prog X.w X.K X.mg X.base CX0 k f fd ps (spV X.K ps.length g)) (hr:Room k X.A) (hg:Gl X x) (hm:X.mg x=some (.ref f)) (hk:PySem.W.keepIn X.K (.ref f)=true)
 (hb:Binds X.K fd ps [.none]) (ha:SA X (e :: es) fa) (hs:(e :: es).all zaz=true) (hdb:(x == ("__debug__" : Str))=false) (hn:∀ ws h w h',g ws h=.ok w h'→ws.length=ps.length):SE X (.Call (.Name x p) (e :: es) [] pos) (gArg fa fun ws h=>g (ws++[.non]) h):=by
 rw [List.all_cons,vac] at hs
 refine (zl3 F hr hg hm hk hb (dvs:=[V.non]) (.cons rfl .nil) pass0 ha hdb (zak hs.1) (zcv hs.2)).imp fun σ H Q q=>zdh (G:=fun vs H1 Q=>spV X.K ps.length g (vs++[V.non]) H1 Q E0) (fun m h H vs xs w h' Q r q e k=>?_) q
 have q':VReps X.K m h.n H (vs++[V.non]) (xs++[W.non]):=q.append (.cons .non .nil)
 exact ⟨by rw [q'.length]; exact hn _ _ _ _ e,h,m,xs++[W.non],w,h',r,q',e,k⟩
noncomputable def ItOk (K:PySem.W.Frag) (nx:Nat→VH→Option (Option W)) (J:It) (P:(Nat→Addr)→Nat→Hp→Prop):Prop:=
 (∀ m n H m' n' H',n≤n'→(∀ i,i < n→m' i=m i)→(∀ b vs,H b=some (.tup vs)→H' b=some (.tup vs))→(∀ b o u,H b=some (.frz o u)→H' b=some (.frz o u))→P m n H→P m' n' H') ∧
 ∀ m h H,Rel K m h H→P m h.n H→∀ i,(∀ w,nx i h=some (some w)→J.go i H∧∀ y H3,J.yld i H y H3→Stp m h.n H m h.n H3∧Rel K m h H3∧VRep K m h.n H3 y w)∧(nx i h=some none→J.stop i H)
noncomputable def lftI (K:PySem.W.Frag) (kd:Kd) (f:FE):TI:=fun σ H R=>∃ ρ h m x h',Fr K m h.n H σ ρ∧Rel K m h H∧f ρ h=.ok x h'∧(∃ o,nxt kd x 0 h'=some o) ∧
 ∀ J P H' m',Stp m h.n H m' h'.n H'→Rel K m' h' H'→ItOk K (nxt kd x) J P→P m' h'.n H'→R J H'
theorem zge {K:PySem.W.Frag} {H H':Hp} {a:Addr} {vs:List V} (kt:∀ b vs,H b=some (.tup vs)→H' b=some (.tup vs)) (kf:∀ b o u,H b=some (.frz o u)→H' b=some (.frz o u)) (q:SqT K H a vs):SqT K H' a vs:=by
 rcases q with (q | ⟨o,q⟩) | q
 ·exact .inl (.inl (kt _ _ q))
 ·exact .inl (.inr ⟨o,kf _ _ _ q⟩)
 ·exact .inr q
theorem zm0 {K:PySem.W.Frag} {H H':Hp} {a:Addr} {vs:List V} (kf:∀ b o u,H b=some (.frz o u)→H' b=some (.frz o u)) (q:Fz K H a vs):Fz K H' a vs:=by
 rcases q with ⟨o,q⟩ | q
 ·exact .inl ⟨o,kf _ _ _ q⟩
 ·exact .inr q
theorem zfe {ws:List W} {h:VH} {x:W} {i:Nat} {o:Option W} (e:seqW h x=some ws) (q:nxt .seq x i h=some o):ws[i]?=o:=by
 simp only [nxt,e] at q
 cases q; rfl
theorem zwu {K:PySem.W.Frag} {a:Addr} {vs:List V} {ws:List W}:ItOk K (nxt .seq (.tup ws)) (Itt K a) (fun m n H=>SqT K H a vs∧VReps K m n H vs ws):=by
 refine ⟨fun m n H m' n' H' hn hm kt kf ⟨q1,q2⟩=>⟨zge kt kf q1,q2.mono hn hm kt kf⟩,fun m h H r ⟨q1,q2⟩ i=>⟨fun w e=>?_,fun e=>?_⟩⟩
 ·have e:=zfe (ws:=ws) rfl e
  obtain ⟨v,h1,h2⟩:=q2.get e
  refine ⟨⟨vs,v,q1,h1⟩,fun y H3 ⟨e3,y3⟩=>?_⟩
  subst e3
  have:=y3 vs q1
  rw [h1] at this; cases this
  exact ⟨.refl,r,h2⟩
 ·have e:=zfe (ws:=ws) rfl e
  exact ⟨vs,q1,by rw [q2.length]; exact List.getElem?_eq_none_iff.mp e⟩
theorem it_fz {K:PySem.W.Frag} {a:Addr} {vs:List V} {ws:List W}:ItOk K (nxt .seq (.fz ws)) (Itl K a) (fun m n H=>Fz K H a vs∧VReps K m n H vs ws):=by
 refine ⟨fun m n H m' n' H' hn hm kt kf ⟨q1,q2⟩=>⟨zm0 kf q1,q2.mono hn hm kt kf⟩,fun m h H r ⟨q1,q2⟩ i=>⟨fun w e=>?_,fun e=>?_⟩⟩
 ·have e:=zfe (ws:=ws) rfl e
  obtain ⟨v,h1,h2⟩:=q2.get e
  refine ⟨⟨vs,v,q1.sq,h1⟩,fun y H3 ⟨e3,y3⟩=>?_⟩
  subst e3
  have:=y3 vs q1.sq
  rw [h1] at this; cases this
  exact ⟨.refl,r,h2⟩
 ·have e:=zfe (ws:=ws) rfl e
  exact ⟨vs,q1.sq,by rw [q2.length]; exact List.getElem?_eq_none_iff.mp e⟩
theorem zwv {K:PySem.W.Frag} {a:Addr} {l:Nat}:ItOk K (nxt .seq (.ref l)) (Itl K a) (fun m n H=>l < n∧a=m l):=by
 refine ⟨fun m n H m' n' H' hn hm kt kf ⟨q1,q2⟩=>⟨vak q1 hn,by rw [hm l q1]; exact q2⟩,fun m h H r ⟨q1,q2⟩ i=>?_⟩
 subst q2
 cases g:h.get l with
 | none=>exact ⟨fun w e=>by simp [nxt,seqW,g] at e,fun e=>by simp [nxt,seqW,g] at e⟩
 | some o=>
  cases o with
  | dk _=>exact ⟨fun w e=>by simp [nxt,seqW,g] at e,fun e=>by simp [nxt,seqW,g] at e⟩
  | dt _ _=>exact ⟨fun w e=>by simp [nxt,seqW,g] at e,fun e=>by simp [nxt,seqW,g] at e⟩
  | ins _ _ _=>exact ⟨fun w e=>by simp [nxt,seqW,g] at e,fun e=>by simp [nxt,seqW,g] at e⟩
  | lst ws=>
   have hs:seqW h (.ref l)=some ws:=by simp [seqW,g]
   obtain ⟨vs,p1,p2⟩:=r.lst g
   refine ⟨fun w e=>?_,fun e=>?_⟩
   ·have e:=zfe hs e
    obtain ⟨v,h1,h2⟩:=p2.get e
    refine ⟨⟨vs,v,SqL.of p1,h1⟩,fun y H3 ⟨e3,y3⟩=>?_⟩
    subst e3
    have:=y3 vs (SqL.of p1)
    rw [h1] at this; cases this
    exact ⟨.refl,r,h2⟩
   ·have e:=zfe hs e
    exact ⟨vs,SqL.of p1,by rw [p2.length]; exact List.getElem?_eq_none_iff.mp e⟩
theorem zq5 {K:PySem.W.Frag} {kd:Kd} {x:W} {lo:Int} {k:Nat} (hx:∀ i h,nxt kd x i h=some (if i < k then some (.int (lo + i)) else none)):ItOk K (nxt kd x) (Itr lo k) (fun _ _ _=>True):=by
 refine ⟨fun _ _ _ _ _ _ _ _ _ _ _=>trivial,fun m h H r _ i=>⟨fun w e=>?_,fun e=>?_⟩⟩
 ·rw [hx] at e
  split at e
  ·rename_i hi
   cases e
   refine ⟨hi,fun y H3 ⟨e3,y3⟩=>?_⟩
   subst e3 y3
   exact ⟨.refl,r,.int _⟩
  ·cases e
 ·rw [hx] at e
  split at e
  ·cases e
  ·rename_i hi
   exact Nat.not_lt.mp hi
theorem zq6 {tg:Expr} (ha:SE X e fa):PI X tg e (lftI X.K .seq fa):=fun pins s σ H R I hq0=>by
 obtain ⟨ρ,h,m,x,h',f,r,ee,⟨o,en⟩,k⟩:=hq0
 have hs:∃ ws,seqW h' x=some ws:=by
  cases z:seqW h' x with
  | none=>simp [nxt,z] at en
  | some ws=>exact ⟨ws,rfl⟩
 obtain ⟨ws,hs⟩:=hs
 cases x <;> try cases hs
 ·exact zuu ha pins s σ H R I ⟨ρ,h,m,_,h',f,r,ee,fun v H' m' s' r' q=>by
   cases q with
   | tup sq rs=>exact ⟨_,rfl,⟨_,sq⟩,k _ _ H' m' s' r' zwu ⟨sq,rs⟩⟩⟩
 ·exact zls ha pins s σ H R I ⟨ρ,h,m,_,h',f,r,ee,fun v H' m' s' r' q=>by
   cases q with
   | fz sq rs=>exact ⟨_,rfl,⟨_,sq.sq⟩,k _ _ H' m' s' r' it_fz ⟨sq,rs⟩⟩⟩
 ·rename_i l
  exact zls ha pins s σ H R I ⟨ρ,h,m,_,h',f,r,ee,fun v H' m' s' r' q=>by
   obtain ⟨p,vs,e1,e2,e3⟩:=zdj r' q hs
   cases q with
   | ref hi=>
    cases g:h'.get l with
    | none=>simp [seqW,g] at hs
    | some ob=>
     cases ob with
     | dk _=>simp [seqW,g] at hs
     | dt _ _=>simp [seqW,g] at hs
     | ins _ _ _=>simp [seqW,g] at hs
     | lst ws'=>
      obtain ⟨vs',p1,_⟩:=r'.lst g
      exact ⟨_,rfl,⟨_,SqL.of p1⟩,k _ _ H' m' s' r' zwv ⟨hi,rfl⟩⟩⟩
theorem zs9 {tg:Expr} (ha:SA X [e] fa) (hs:zaz e=true) (hg:Gl X "range") (hm:X.mg "range" = none):PI X tg (.Call (.Name "range" p) [e] [] pos) (lftI X.K .rng1 fa):=fun pins s σ H R I hq0=>by
 obtain ⟨ρ,h,m,x,h',f,r,ee,⟨o,en⟩,k⟩:=hq0
 simp only [nxt] at en
 split at en
 ·rename_i j
  split at en
  ·rename_i hf
   refine zlu hg hm ha (zak hs) pins s σ H R I ⟨ρ,h,m,_,h',f,r,ee,fun vs H' m' s' r' q=>?_⟩
   obtain ⟨v,rfl,q1⟩:=reps1 q
   cases q1
   refine ⟨_,rfl,(zcg hf).1,(zcg hf).2,k _ _ H' m' s' r' (zq5 fun i h=>?_) trivial⟩
   simp only [nxt,hf,if_true]
   split <;> split <;> first | rfl | (exfalso; simp at *; omega)
  ·cases en
 ·cases en
theorem zta {tg:Expr} (ha:SA X [a,b] fa) (hs:zaz a=true) (hs2:zaz b=true) (hg:Gl X "range") (hm:X.mg "range" = none):PI X tg (.Call (.Name "range" p) [a,b] [] pos) (lftI X.K .rng2 fa):=fun pins s σ H R I hq0=>by
 obtain ⟨ρ,h,m,x,h',f,r,ee,⟨o,en⟩,k⟩:=hq0
 simp only [nxt] at en
 split at en
 ·rename_i i j
  split at en
  ·rename_i hf
   refine zlv hg hm ha (by rw [zak hs,zak hs2]; rfl) (zak hs2) pins s σ H R I ⟨ρ,h,m,_,h',f,r,ee,fun vs H' m' s' r' q=>?_⟩
   obtain ⟨v,u,rfl,q1,q2⟩:=reps2 q
   cases q1; cases q2
   have hf2:=hf
   rw [vac] at hf2
   refine ⟨_,_,rfl,⟨(zcg hf2.1).1,(zcg hf2.1).2,(zcg hf2.2).1,(zcg hf2.2).2⟩,k _ _ H' m' s' r' (zq5 fun i h=>?_) trivial⟩
   simp only [nxt,hf,if_true]
   split <;> split <;> first | rfl | (exfalso; simp at *; omega)
  ·cases en
 ·cases en
theorem zpw {elts:List Expr} {kx:Nat} {tp:Pos} {l:Expr} {ta:TA} (hg:Gl X "enumerate") (hm:X.mg "enumerate" = none) (hv:bootBuiltins "enumerate" = some (.type "enumerate")) (ha:PA X [l] ta) (hs:starEach [l] X.env=[(false,eval l X.env)]) :
 PI X (.Tuple elts kx tp) (.Call (.Name "enumerate" p) [l] [] pos) (fun σ H R=>ta σ H fun vs H1=>∃ a,vs=[.ref a]∧(∃ xs,SqT X.K H1 a xs)∧R (IteT X.K a) H1):=by
 intro pins s σ H R I h
 refine Call_ (zed I hg hm hv (PyProof.Rows.callWith_type1 (thn (ha pos pins s σ H _ I h) fun us s1 ⟨vs,H1,I1,r1,q1⟩=>?_) hs rfl))
 obtain ⟨a,e,⟨xs,hq⟩,q⟩:=q1
 subst e
 obtain ⟨u,rfl,ru⟩:=vals1 r1
 cases ru
 obtain ⟨its,rv,pl,hz⟩:=I1.tuple hq
 have pl:s1.heap.IsTuple a its.toArray:=pl
 have hlt:a < s1.heap.objs.size:=by obtain ⟨o,q,_⟩:=pl; exact vat q
 refine zky pl fun h' he hit hsz kk=>wpAny_pyIter_enum he ?_
 have hf:∀ b,s1.heap.objs.size≤b→FpOk X pins H1 b:=fun b hb=>I1.fpOk hb (I1.hok.fresh hb)
 refine ⟨s1.heap.objs.size + 1,[s1.heap.objs.size + 1,s1.heap.objs.size],_,_,H1,rfl,I1.kept (t':=s1.toks) kk,zkz a _ _ (Nat.ne_of_gt (Nat.lt_succ_self _)) (Nat.ne_of_lt (Nat.lt_succ_of_lt hlt)) (Nat.ne_of_lt hlt),⟨⟨_,he⟩,hit⟩,fun b hb=>hf b ?_,q⟩
 rcases List.mem_cons.mp hb with rfl | hb
 ·exact Nat.le_succ _
 ·have e':b=s1.heap.objs.size:=by simpa using hb
  rw [e']; exact vae _
theorem zq7 {ws:List W} {h:VH} {i:Nat} {o:Option W} (q:nxt .enm (.tup ws) i h=some o):o=(ws[i]?).map fun w=>.tup [.int i,w]:=by
 cases q; rfl
theorem ztb {K:PySem.W.Frag} {a:Addr} {vs:List V} {ws:List W}:ItOk K (nxt .enm (.tup ws)) (IteT K a) (fun m n H=>SqT K H a vs∧VReps K m n H vs ws):=by
 refine ⟨fun m n H m' n' H' hn hm kt kf ⟨q1,q2⟩=>⟨zge kt kf q1,q2.mono hn hm kt kf⟩,fun m h H r ⟨q1,q2⟩ i=>⟨fun w e=>?_,fun e=>?_⟩⟩
 ·have e:=zq7 (ws:=ws) e
  cases z:ws[i]? with
  | none=>rw [z] at e; cases e
  | some w0=>
   rw [z] at e; cases e
   obtain ⟨v,h1,h2⟩:=q2.get z
   refine ⟨⟨vs,v,q1,h1⟩,fun y H3 ⟨T,v3,e1,e2,e3,y3⟩=>?_⟩
   subst e1 e3
   have:=y3 vs q1
   rw [h1] at this; cases this
   obtain ⟨st,r'⟩:=r.more (u:=.tup [.int i,v]) e2
   exact ⟨st,r',.tup (SqT.of zap) (.cons (.int _) (.cons (h2.stp st) .nil))⟩
 ·have e:=zq7 (ws:=ws) e
  cases z:ws[i]? with
  | some w0=>rw [z] at e; cases e
  | none=>exact ⟨vs,q1,by rw [q2.length]; exact List.getElem?_eq_none_iff.mp z⟩
theorem zm1:bootBuiltins "enumerate" = some (.type "enumerate"):=by decide +kernel
theorem zww (ha:SE X e fa) (hs:zaz e=true):PA X [e] (fun σ H Q=>lft X.K fa σ H fun v H1=>Q [v] H1):=fun p pins s σ H Q I q=>by
 refine zee ha zjo (zak hs) p pins s σ H Q I ?_
 obtain ⟨ρ,h,m,w,h',f,r,ee,k⟩:=q
 exact ⟨ρ,h,m,w,h',f,r,ee,fun v H' m' s' r' q'=>k v H' m' s' r' q'⟩
theorem zwx {elts:List Expr} {kx:Nat} {tp:Pos} (ha:SE X e fa) (hs0:zaz e=true) (hg:Gl X "enumerate") (hm:X.mg "enumerate" = none):PI X (.Tuple elts kx tp) (.Call (.Name "enumerate" p) [e] [] pos) (lftI X.K .enm fa):=fun pins s σ H R I hq0=>by
 obtain ⟨ρ,h,m,x,h',f,r,ee,⟨o,en⟩,k⟩:=hq0
 cases x with
 | tup ws=>exact zpw hg hm zm1 (zww ha hs0) (zak hs0) pins s σ H R I ⟨ρ,h,m,_,h',f,r,ee,fun v H' m' s' r' q=>by
  cases q with
  | tup sq rs=>exact ⟨_,rfl,⟨_,sq⟩,k _ _ H' m' s' r' ztb ⟨sq,rs⟩⟩⟩
 | _=>cases en
theorem zwy {elts:List Expr} {kx:Nat} {tp:Pos} {l l2:Expr} {ta:TA} (hg:Gl X "zip") (hm:X.mg "zip" = none) (ha:PA X [l,l2] ta) (hs:starEach [l,l2] X.env=[(false,eval l X.env),(false,eval l2 X.env)]) (hs2:starEach [l2] X.env=[(false,eval l2 X.env)]) :
 PI X (.Tuple elts kx tp) (.Call (.Name "zip" p) [l,l2] [] pos) (fun σ H R=>ta σ H fun vs H1=>∃ b c a1 a2,vs=[.ref a1,.ref a2]∧(∃ xs,SqB b X.K H1 a1 xs)∧(∃ ys,SqB c X.K H1 a2 ys)∧R (IteZ X.K b c a1 a2) H1):=by
 intro pins s σ H R I h
 refine Call_ (zed I hg hm PyProof.Rows.boot_zip (PyProof.Rows.callWith_type1 (thn (ha pos pins s σ H _ I h) fun us s1 ⟨vs,H1,I1,r1,q1⟩=>?_) (by rw [hs,hs2]) (by rw [hs2]; rfl)))
 obtain ⟨b,c,a1,a2,e,⟨xs,hq⟩,⟨ys,hr⟩,q⟩:=q1
 subst e
 cases r1 with
 | cons r rr=>
  cases rr with
  | cons r' rr=>
   cases rr
   cases r
   cases r'
   obtain ⟨its,_,pl,_⟩:=zfc I1 hq
   obtain ⟨jts,_,pl2,_⟩:=zfc I1 hr
   refine zst pl pl2 fun h' e1 e2 e3 e4 e5 hsz kk=>wpAny_pyIter_zip e1 ?_
   have hf:∀ b,s1.heap.objs.size≤b→FpOk X pins H1 b:=fun b hb=>I1.fpOk hb (I1.hok.fresh hb)
   refine ⟨s1.heap.objs.size + 4,_,_,_,H1,rfl,I1.kept (t':=s1.toks) kk,zpj a1 a2 _ _ _ _ _ (zvl pl.lt pl2.lt),⟨e1,e2,⟨_,_,e3⟩,e4,e5⟩,fun b hb=>hf b ?_,q⟩
   simp only [List.mem_cons,List.not_mem_nil,or_false] at hb
   rcases hb with rfl | rfl | rfl | rfl | rfl
   ·exact Nat.le_add_right _ _
   ·exact Nat.le_add_right _ _
   ·exact Nat.le_add_right _ _
   ·exact vae _
   ·exact Nat.le_add_right _ _
noncomputable def Src (K:PySem.W.Frag) (b:Bool) (a:Addr) (u:W) (P:(Nat→Addr)→Nat→Hp→Prop):Prop:=
 (∀ m n H m' n' H',n≤n'→(∀ i,i < n→m' i=m i)→(∀ b vs,H b=some (.tup vs)→H' b=some (.tup vs))→(∀ b o u,H b=some (.frz o u)→H' b=some (.frz o u))→P m n H→P m' n' H') ∧
 ∀ m h H ws,Rel K m h H→P m h.n H→seqW h u=some ws→∃ vs,SqB b K H a vs∧VReps K m h.n H vs ws
theorem zq8 {K:PySem.W.Frag} {m:Nat→Addr} {h:VH} {H:Hp} {v:V} {u:W} {ws:List W} (r:Rel K m h H) (q:VRep K m h.n H v u) (e:seqW h u=some ws):∃ b a P,v=.ref a∧Src K b a u P∧P m h.n H∧∃ xs,SqB b K H a xs:=by
 cases q with
 | non=>cases e
 | bl b=>cases e
 | int b=>cases e
 | str b=>cases e
 | tup sq rs=>exact ⟨true,_,fun m n H=>SqT K H _ _∧VReps K m n H _ _,rfl,⟨fun m n H m' n' H' hn hm kt kf ⟨q1,q2⟩=>⟨zge kt kf q1,q2.mono hn hm kt kf⟩,fun m h H ws _ ⟨q1,q2⟩ z=>by cases z; exact ⟨_,q1,q2⟩⟩,⟨sq,rs⟩,_,sq⟩
 | fz sq rs=>exact ⟨false,_,fun m n H=>Fz K H _ _∧VReps K m n H _ _,rfl,⟨fun m n H m' n' H' hn hm kt kf ⟨q1,q2⟩=>⟨zm0 kf q1,q2.mono hn hm kt kf⟩,fun m h H ws _ ⟨q1,q2⟩ z=>by cases z; exact ⟨_,q1.sq,q2⟩⟩,⟨sq,rs⟩,_,sq.sq⟩
 | ref hi=>
  rename_i l
  have key:∀ m (h:VH) H ws,Rel K m h H→seqW h (.ref l)=some ws→∃ vs,H (m l)=some (.lst vs)∧VReps K m h.n H vs ws:=fun m h H ws r z=>by
   cases g:h.get l with
   | none=>simp [seqW,g] at z
   | some o=>
    cases o with
    | dk _=>simp [seqW,g] at z
    | dt _ _=>simp [seqW,g] at z
    | ins _ _ _=>simp [seqW,g] at z
    | lst ws'=>
     have:ws'=ws:=by simpa [seqW,g] using z
     subst this
     exact r.lst g
  obtain ⟨vs,p1,_⟩:=key m h H ws r e
  refine ⟨false,_,fun m' n _=>l < n∧m l=m' l,rfl,⟨fun m1 n H m' n' H' hn hm kt kf ⟨q1,q2⟩=>⟨vak q1 hn,by rw [hm l q1]; exact q2⟩,fun m1 h H ws r' ⟨q1,q2⟩ z=>?_⟩,⟨hi,rfl⟩,vs,SqL.of p1⟩
  obtain ⟨vs,g1,g2⟩:=key m1 h H ws r' z
  rw [q2]
  exact ⟨vs,SqL.of g1,g2⟩
theorem zm2 {u v:W} {h:VH} {i:Nat} {o:Option W} (q:nxt .zip (.tup [u,v]) i h=some o):∃ ws zs,seqW h u=some ws∧seqW h v=some zs∧o=(match ws[i]?,zs[i]? with | some a,some b=>some (.tup [a,b]) | _,_=>none):=by
 simp only [nxt] at q
 split at q
 ·rename_i ws zs h1 h2
  cases q
  exact ⟨ws,zs,h1,h2,rfl⟩
 ·cases q
theorem zwz {K:PySem.W.Frag} {b c:Bool} {a1 a2:Addr} {u v:W} {P1 P2:(Nat→Addr)→Nat→Hp→Prop} (s1:Src K b a1 u P1) (s2:Src K c a2 v P2):ItOk K (nxt .zip (.tup [u,v])) (IteZ K b c a1 a2) (fun m n H=>P1 m n H∧P2 m n H):=by
 refine ⟨fun m n H m' n' H' hn hm kt kf ⟨q1,q2⟩=>⟨s1.1 m n H m' n' H' hn hm kt kf q1,s2.1 m n H m' n' H' hn hm kt kf q2⟩,fun m h H r ⟨q1,q2⟩ i=>⟨fun w e=>?_,fun e=>?_⟩⟩
 ·obtain ⟨ws,zs,e1,e2,e3⟩:=zm2 e
  obtain ⟨xs,g1,g2⟩:=s1.2 m h H ws r q1 e1
  obtain ⟨ys,g3,g4⟩:=s2.2 m h H zs r q2 e2
  cases z1:ws[i]? with
  | none=>rw [z1] at e3; cases e3
  | some w1=>
   cases z2:zs[i]? with
   | none=>rw [z1,z2] at e3; cases e3
   | some w2=>
    rw [z1,z2] at e3; cases e3
    obtain ⟨v1,k1,k2⟩:=g2.get z1
    obtain ⟨v2,k3,k4⟩:=g4.get z2
    refine ⟨⟨xs,ys,v1,v2,g1,g3,k1,k3⟩,fun y H3 ⟨T,x3,y3,f1,f2,f3,f4,f5⟩=>?_⟩
    subst f1 f3
    have t1:=f4 xs g1
    have t2:=f5 ys g3
    rw [k1] at t1; cases t1
    rw [k3] at t2; cases t2
    obtain ⟨st,r'⟩:=r.more (u:=.tup [v1,v2]) f2
    exact ⟨st,r',.tup (SqT.of zap) (.cons (k2.stp st) (.cons (k4.stp st) .nil))⟩
 ·obtain ⟨ws,zs,e1,e2,e3⟩:=zm2 e
  obtain ⟨xs,g1,g2⟩:=s1.2 m h H ws r q1 e1
  obtain ⟨ys,g3,g4⟩:=s2.2 m h H zs r q2 e2
  refine ⟨xs,ys,g1,g3,?_⟩
  cases z1:ws[i]? with
  | none=>exact .inl (by rw [g2.length]; exact List.getElem?_eq_none_iff.mp z1)
  | some w1=>
   cases z2:zs[i]? with
   | none=>exact .inr (by rw [g4.length]; exact List.getElem?_eq_none_iff.mp z2)
   | some w2=>rw [z1,z2] at e3; cases e3
theorem zw0 {elts:List Expr} {kx:Nat} {tp:Pos} (ha:SA X [a,b] fa) (hs:zaz a=true) (hs2:zaz b=true) (hg:Gl X "zip") (hm:X.mg "zip" = none):PI X (.Tuple elts kx tp) (.Call (.Name "zip" p) [a,b] [] pos) (lftI X.K .zip fa):=fun pins s σ H R I hq0=>by
 obtain ⟨ρ,h,m,x,h',f,r,ee,⟨o,en⟩,k⟩:=hq0
 have hx:∃ u v,x=.tup [u,v]:=by
  simp only [nxt] at en
  split at en
  ·exact ⟨_,_,rfl⟩
  ·cases en
 obtain ⟨u,v,rfl⟩:=hx
 obtain ⟨ws,zs,e1,e2,_⟩:=zm2 en
 refine zwy hg hm ha (by rw [zak hs,zak hs2]; rfl) (zak hs2) pins s σ H R I ⟨ρ,h,m,_,h',f,r,ee,fun vs H' m' s' r' q=>?_⟩
 obtain ⟨v1,v2,rfl,q1,q2⟩:=reps2 q
 obtain ⟨b1,a1,P1,rfl,o1,p1,x1⟩:=zq8 r' q1 e1
 obtain ⟨b2,a2,P2,rfl,o2,p2,x2⟩:=zq8 r' q2 e2
 exact ⟨b1,b2,a1,a2,rfl,x1,x2,k _ _ H' m' s' r' (zwz o1 o2) ⟨p1,p2⟩⟩
end
section
variable {X:Cx} {a b c e o:Expr} {es:List Expr} {fa fb fc fo fr:FE} {pos p:Pos} {x:Str}
noncomputable def lftG (K:PySem.W.Frag) (t:Tg):TG:=fun v σ H Q=>∃ ρ h m w ρ',Fr K m h.n H σ ρ∧Rel K m h H∧VRep K m h.n H v w∧tgW t w h ρ=some ρ'∧∀ σ',Fr K m h.n H σ' ρ'→Q σ' H
theorem zw1 {i:Nat} (hN:X.N.Nodup) (hi:X.N[i]?=some x) (hx:Loc X.env.scope x) (hf:X.fn x=true∨X.env.scope.names.lookup x=some .local):PG X (.Name x pos) (lftG X.K (.one i)):=fun pins s σ H v u Q I ru hq0=>by
 obtain ⟨ρ,h,m,w,ρ',f,r,q,e,k⟩:=hq0
 cases e
 exact zlq hN hi hx hf pins s σ H v u Q I ru (k _ (f.set q i))
noncomputable def NmOk (X:Cx) (e:Expr) (i:Nat):Prop:=∃ x p,e=.Name x p∧X.N[i]?=some x∧Loc X.env.scope x∧(X.fn x=true∨X.env.scope.names.lookup x=some .local)
noncomputable def lftGs (K:PySem.W.Frag) (is:List Nat):TGs:=fun vs σ H Q=>∃ ρ m n ws ρ',Fr K m n H σ ρ∧VReps K m n H vs ws∧zaw is ws ρ=some ρ'∧∀ σ',Fr K m n H σ' ρ'→Q σ' H
theorem zq9 (hN:X.N.Nodup):∀ {es:List Expr} {is:List Nat},Paired (NmOk X) es is→PGs X es (lftGs X.K is)∧(assignEach es X.env).length=es.length∧(assignEach es X.env).findIdx? (·.1)=none
 | _,_,.nil=>by
  refine ⟨fun pins s σ H vs us Q I ru ⟨ρ,m,n,ws,ρ',f,q,e,k⟩=>?_,rfl,rfl⟩
  cases ws with
  | nil=>cases e; cases q; exact zr5 pins s σ H [] us Q I ru ⟨rfl,k _ f⟩
  | cons _ _=>cases e
 | e :: es,i :: is,.cons ⟨x,p,he,hi,hx,hf⟩ t=>by
  subst he
  obtain ⟨h1,h2,h3⟩:=zq9 hN t
  refine ⟨fun pins s σ H vs us Q I ru ⟨ρ,m,n,ws,ρ',f,q,e,k⟩=>?_,?_,?_⟩
  ·cases q with
   | nil=>cases e
   | cons q qs=>
    exact zow (zlq hN hi hx hf) h1 rfl pins s σ H _ us Q I ru ⟨_,_,rfl,ρ.set i (some _),m,n,_,ρ',f.set q i,qs,e,k⟩
  ·show (assignEach es X.env).length + 1=es.length + 1
   rw [h2]
  ·show List.findIdx? _ ((false,_) :: assignEach es X.env)=none
   rw [List.findIdx?_cons,h3]; rfl
theorem zff:∀ {is:List Nat} {ws:List W} {ρ ρ':En},zaw is ws ρ=some ρ'→ws.length=is.length
 | [],[],_,_,_=>rfl
 | [],_ :: _,_,_,e=>by cases e
 | _ :: _,[],_,_,e=>by cases e
 | _ :: _,_ :: _,_,_,e=>by
  rw [vah,vah,zff (by simpa only [zaw] using e)]
theorem zw2 {t:TGs} {n k:Nat} (hc:X.calm=true) (h:PGs X es t) (hn:(assignEach es X.env).length=n) (hst:(assignEach es X.env).findIdx? (·.1)=none) :
 PG X (.Tuple es k pos) (fun v σ H Q=>∃ a xs,v=.ref a∧SqL X.K H a xs∧xs.length=n∧t xs σ H Q):=by
 intro pins s σ H v u Q I r hw
 obtain ⟨a,xs,rfl,hq,hl,hw⟩:=hw
 cases r
 obtain ⟨its,rv,ht,hz⟩:=I.list hq
 rw [assign_Tuple]
 refine vaa (wpAny_standAt ?_)
 unfold unpack
 have hsz:(assignEach es X.env).length=its.toArray.size:=by rw [hn,← hl,rv.length,vai]
 rw [hst,hsz]
 refine vaa (wpAny_holding (PySem.W.kun_itemsOf (I.ok.hd hc) ht.isList fun h' hx=>?_))
 have I1:Inv X pins σ H { s with heap:=h' }:=I.kept (t':=s.toks) fun b o e=>hx b o (Nat.ne_of_lt (vat e)) e
 exact h pins _ σ H xs _ Q I1 (by simpa using rv) hw
theorem zm3 {is:List Nat} {k:Nat} (hc:X.calm=true) (hN:X.N.Nodup) (hs:Paired (NmOk X) es is):PG X (.Tuple es k pos) (lftG X.K (.many is)):=fun pins s σ H v u Q I ru hq0=>by
 obtain ⟨ρ,h,m,w,ρ',f,r,q,e,k⟩:=hq0
 obtain ⟨h1,h2,h3⟩:=zq9 hN hs
 simp only [tgW] at e
 cases z:seqW h w with
 | none=>rw [z] at e; cases e
 | some ws=>
  rw [z] at e
  have e:zaw is ws ρ=some ρ':=e
  obtain ⟨p,vs,rfl,hq,qs⟩:=zdj r q z
  have hl:vs.length=es.length:=by rw [qs.length,zff e,hs.length]
  rcases hq with hq | hq
  ·exact zw2 hc h1 h2 h3 pins s σ H _ u Q I ru ⟨p,vs,rfl,hq,hl,ρ,m,h.n,ws,ρ',f,qs,e,k⟩
  ·exact zun hc h1 h2 h3 pins s σ H _ u Q I ru ⟨p,vs,rfl,hq,hl,ρ,m,h.n,ws,ρ',f,qs,e,k⟩
theorem zpx {K:PySem.W.Frag} {m:Nat→Addr} {n:Nat} {H:Hp} {σ:L2.St} {ρ:En} {ow fr:List Str} {ix:List Nat} (f:Fr K m n H σ ρ):Fr K m n H (cσ ow fr ix σ) (inner ow.length ix ρ):=by
 unfold cσ inner
 refine ⟨by simp,fun i w e=>?_⟩
 by_cases hi:i < ow.length
 ·rw [List.getElem?_append_left (by simpa using hi)] at e
  rw [List.getElem?_replicate] at e
  split at e <;> cases e
 ·rw [List.getElem?_append_right (by simpa using Nat.not_lt.mp hi)] at e
  rw [List.getElem?_append_right (by simpa using Nat.not_lt.mp hi)]
  simp only [List.length_replicate,vab] at e ⊢
  rw [List.getElem?_map] at e ⊢
  cases z:ix[i - ow.length]? with
  | none=>rw [z] at e; cases e
  | some j=>
   rw [z] at e
   simp only [van,Option.some.injEq] at e ⊢
   have e3:ρ[j]?=some (some w):=by
    cases q:ρ[j]? with
    | none=>rw [q] at e; cases e
    | some o=>rw [q] at e; rw [← e]; rfl
   obtain ⟨v,h1,h2⟩:=f.val j w e3
   exact ⟨v,by rw [h1]; rfl,h2⟩
theorem zi1 {nx:Nat→VH→Option (Option W)} {tg:W→VH→En→Option En} {c e:FE}:∀ {f i:Nat} {ρ:En} {h:VH} {acc ys:List W} {h':VH},lcG nx tg c e f i ρ h acc=.ok ys h'→acc.length≤ys.length
 | 0,_,_,_,_,_,_,q=>by cases q
 | f + 1,i,ρ,h,acc,ys,h',q=>by
  simp only [lcG] at q
  split at q
  ·cases q
  ·cases q; simp
  ·split at q
   ·cases q
   ·obtain ⟨b,h1,e1,e2⟩:=zae q
    split at e2
    ·obtain ⟨y,h2,e3,e4⟩:=zae e2
     have:=zi1 e4
     rw [vah] at this
     omega
    ·exact zi1 e2
    ·cases e2
theorem zw3 {nx:Nat→VH→Option (Option W)} {tg:W→VH→En→Option En} {c e:FE} {f i:Nat} {ρ:En} {h:VH} {acc ys:List W} {h':VH} (q:lcG nx tg c e (f + 1) i ρ h acc=.ok ys h'):∃ o,nx i h=some o:=by
 simp only [lcG] at q
 split at q
 ·cases q
 ·exact ⟨_,by assumption⟩
 ·exact ⟨_,by assumption⟩
theorem zpy {H:Hp} {a:Addr} {o:HO} (h:H a=some o):upd H a o=H:=by
 funext b
 unfold upd
 split
 ·rename_i e; rw [e,h]
 ·rfl
noncomputable abbrev gLc (kd:Kd) (fa:FE) (t:Tg) (ow:Nat) (ix:List Nat) (fc fe:FE):FE:=fun ρ h=>(fa ρ h).bind fun x h=>(lcG (nxt kd x) (tgW t) fc fe fuel 0 (inner ow ix ρ) h []).bind fun ys h=>if Nat.ble ys.length big then .ok (.ref h.n) (h.new (.lst ys)) else .no
theorem lc_ok {K:PySem.W.Frag} {kd:Kd} {t:Tg} {ow fr:List Str} {ix:List Nat} {fe:FE} {σ:L2.St} {H:Hp} {Q:VK} (q:lft K (gLc kd fa t ow.length ix fc fe) σ H Q):tLC K (cσ ow fr ix) (lftI K kd fa) (lftG K t) (lftT K fc) (lft K fe) σ H Q:=by
 obtain ⟨ρ,h,m,w,h',f,r,e,k⟩:=q
 obtain ⟨x,h1,e1,e2⟩:=zae e
 obtain ⟨ys,h2,e3,e4⟩:=zae e2
 split at e4
 case isFalse=>cases e4
 rename_i hz
 cases e4
 have hz:=Nat.le_of_ble_eq_true hz
 refine ⟨ρ,h,m,x,h1,f,r,e1,?_,fun J P H1 m1 s1 r1 J1 p1 D hD hK=>?_⟩
 ·exact zw3 (f:=999999) e3
 obtain ⟨st0,r0⟩:=r1.more (u:=.lst []) hD
 have p0:=J1.1 m1 h1.n H1 m1 h1.n (upd H1 D (.lst [])) (vae _) (fun _ _=>rfl) (fun b vs q=>st0.tup b vs q) (fun b o u q=>st0.frz b o u q) p1
 refine ⟨fun i fl σ' H' vs=>∃ ρ' h3 m3 acc,lcG (nxt kd x) (tgW t) fc fe fl i ρ' h3 acc=.ok ys h2∧Fr K m3 h3.n H' σ' ρ'∧Rel K m3 h3 H'∧H' D=some (.lst vs)∧VReps K m3 h3.n H' vs acc.reverse∧(∀ i,i < h3.n→m3 i≠D)∧Stp m1 h1.n H1 m3 h3.n H'∧P m3 h3.n H',
  ⟨fuel,inner ow.length ix ρ,h1,m1,[],e3,zpx ((f.stp s1).stp st0),r0,zap,.nil,r1.out hD,st0,p0⟩,?_⟩
 rintro i fl σ' H' vs ⟨ρ',h3,m3,acc,e5,f3,r3,d3,q3,o3,s3,p3⟩
 refine ⟨d3,?_⟩
 cases fl with
 | zero=>cases e5
 | succ fl=>
  simp only [lcG] at e5
  obtain ⟨j1,j2⟩:=J1.2 m3 h3 H' r3 p3 i
  split at e5
  ·cases e5
  ·rename_i hn
   cases e5
   refine .inl ⟨j2 hn,?_⟩
   obtain ⟨st,r'⟩:=r3.adopt (o:=.lst acc.reverse) (u:=.lst vs) o3 d3 (fun _ z=>nomatch z) (fun _ _ z=>nomatch z) (s1.trans s3) (by
    cases z:H D with
    | none=>rfl
    | some o=>
     have:=s1.keep D o (fun i hi z2=>(r1.out hD) i (vak hi s1.le) ((s1.same i hi).trans z2)) z
     rw [hD] at this; cases this) fun _ mv=>⟨_,zap,q3.map mv⟩
   rw [zpy d3] at st r'
   refine k _ _ _ st r' ?_
   have:VRep K (fun i=>if i=h2.n then D else m3 i) (h2.n + 1) H' (.ref ((fun i=>if i=h2.n then D else m3 i) h2.n)) (.ref h2.n):=.ref (Nat.lt_succ_self _)
   simp only [if_true] at this
   exact this
  ·rename_i w hn
   obtain ⟨j3,j4⟩:=j1 w hn
   refine .inr ⟨j3,fun y H4 hy=>?_⟩
   obtain ⟨s4,r4,q4⟩:=j4 y H4 hy
   split at e5
   ·cases e5
   ·rename_i ρ5 ht
    refine ⟨ρ',h3,m3,w,ρ5,f3.stp s4,r4,q4,ht,fun σ5 f5=>?_⟩
    obtain ⟨bv,h6,e6,e7⟩:=zae e5
    have d4:H4 D=some (.lst vs):=s4.keep D _ o3 d3
    have s14:=s3.trans s4
    have p4:=J1.1 m3 h3.n H' m3 h3.n H4 (vae _) (fun _ _=>rfl) (fun b vs q=>s4.tup b vs q) (fun b o u q=>s4.frz b o u q) p3
    cases bv <;> try cases e7
    rename_i bb
    refine ⟨ρ5,h3,m3,bb,h6,f5,r4,e6,fun H6 m6 s6 r6=>?_⟩
    have o6:=s6.out o3 d4
    have d6:H6 D=some (.lst vs):=s6.keep D _ o3 d4
    have p6:=J1.1 m3 h3.n H4 m6 h6.n H6 s6.le s6.same (fun b vs q=>s6.tup b vs q) (fun b o u q=>s6.frz b o u q) p4
    cases bb with
    | false=>
     simp only [vam,if_false]
     exact ⟨fl,Nat.lt_succ_self _,ρ5,h6,m6,acc,e7,f5.stp s6,r6,d6,(q3.stp s4).stp s6,o6,s14.trans s6,p6⟩
    | true=>
     simp only [if_true]
     obtain ⟨y7,h7,e8,e9⟩:=zae e7
     refine ⟨ρ5,h6,m6,y7,h7,f5.stp s6,r6,e8,fun v7 H7 m7 s7 r7 q7=>?_⟩
     have o7:=s7.out o6 d6
     have d7:H7 D=some (.lst vs):=s7.keep D _ o6 d6
     have p7:=J1.1 m6 h6.n H6 m7 h7.n H7 s7.le s7.same (fun b vs q=>s7.tup b vs q) (fun b o u q=>s7.frz b o u q) p6
     have q37:=((q3.stp s4).stp s6).stp s7
     have hlen:=zi1 e9
     rw [vah] at hlen
     refine ⟨d7,?_,fl,Nat.lt_succ_self _,ρ5,h7,m7,y7 :: acc,e9,?_⟩
     ·rw [q37.length,List.length_reverse]
      have:big=sizeLine:=rfl
      omega
     ·obtain ⟨st8,r8,mv⟩:=r7.side (u:=.lst (vs++[v7])) d7 (fun _ z=>nomatch z) (fun _ _ z=>nomatch z) o7 ((s14.trans s6).trans s7) hD
      have kt:∀ b us,H7 b=some (.tup us)→upd H7 D (.lst (vs++[v7])) b=some (.tup us):=fun b us q=>by rw [zah (ne_of q d7 fun z=>nomatch z)]; exact q
      have kf:∀ b o u,H7 b=some (.frz o u)→upd H7 D (.lst (vs++[v7])) b=some (.frz o u):=fun b o u q=>by rw [zah (ne_of q d7 fun z=>nomatch z)]; exact q
      refine ⟨⟨(f5.stp s6).len,fun i w e=>let ⟨v,h1,h2⟩:=((f5.stp s6).stp s7).val i w e; ⟨v,h1,mv h2⟩⟩,r8,zap,?_,o7,st8,J1.1 m7 h7.n H7 m7 h7.n _ (vae _) (fun _ _=>rfl) kt kf p7⟩
      rw [List.reverse_cons]
      exact (q37.map mv).append (.cons (mv q7) .nil)
end
noncomputable def FlOk (K:PySem.W.Frag) (m:Nat→Addr) (n:Nat) (H:Hp) (D:Ends):Fl→Prop
 | .nx ρ=>∀ σ,Fr K m n H σ ρ→D.nx σ H
 | .bk ρ=>∀ σ,Fr K m n H σ ρ→D.bk σ H
 | .ct ρ=>∀ σ,Fr K m n H σ ρ→D.ct σ H
 | .rt w=>∀ v,VRep K m n H v w→D.rt v H
noncomputable def lftS (K:PySem.W.Frag) (f:FS):TS:=fun D σ H=>∃ ρ h m fl h',Fr K m h.n H σ ρ∧Rel K m h H∧f ρ h=.ok fl h'∧∀ H' m',Stp m h.n H m' h'.n H'→Rel K m' h' H'→FlOk K m' h'.n H' D fl
noncomputable abbrev SS (X:Cx) (st:Stmt) (f:FS):Prop:=PS X st (lftS X.K f)
noncomputable abbrev SSs (X:Cx) (st:List Stmt) (f:FS):Prop:=PSs X st (lftS X.K f)
section
variable {X:Cx} {a b c e o:Expr} {es:List Expr} {fa fb fc fo fr:FE} {pos p:Pos} {x:Str} {st:Stmt} {sts:List Stmt} {ga gb:FS}
noncomputable abbrev gSkip:FS:=fun ρ h=>.ok (.nx ρ) h
noncomputable abbrev gSeq (ga gb:FS):FS:=fun ρ h=>(ga ρ h).bind fun fl h=>match fl with | .nx ρ=>gb ρ h | fl=>.ok fl h
theorem ztc:SSs X [] gSkip:=zr1.imp fun D σ H hq0=>by obtain ⟨ρ,h,m,fl,h',f,r,e,k⟩:=hq0; cases e; exact k H m .refl r σ f
theorem ztd:SS X (.Pass pos) gSkip:=zr2.imp fun D σ H hq0=>by obtain ⟨ρ,h,m,fl,h',f,r,e,k⟩:=hq0; cases e; exact k H m .refl r σ f
theorem zw4:SS X (.Break pos) (fun ρ h=>.ok (.bk ρ) h):=zou.imp fun D σ H ⟨ρ,h,m,fl,h',f,r,e,k⟩=>by cases e; exact k H m .refl r σ f
theorem zw5:SS X (.Continue pos) (fun ρ h=>.ok (.ct ρ) h):=zio.imp fun D σ H ⟨ρ,h,m,fl,h',f,r,e,k⟩=>by cases e; exact k H m .refl r σ f
theorem zpz (h1:SS X st ga) (h2:SSs X sts gb):SSs X (st :: sts) (gSeq ga gb):=(zot h1 h2).imp fun D σ H hq0=>by
 obtain ⟨ρ,h,m,fl,h',f,r,e,k⟩:=hq0
 obtain ⟨fl1,h1,e1,e2⟩:=zae e
 refine ⟨ρ,h,m,fl1,h1,f,r,e1,fun H1 m1 s1 r1=>?_⟩
 cases fl1 with
 | nx ρ1=>exact fun σ1 f1=>⟨ρ1,h1,m1,fl,h',f1,r1,e2,fun H' m' s' r'=>k H' m' (s1.trans s') r'⟩
 | bk ρ1=>cases e2; exact k H1 m1 s1 r1
 | ct ρ1=>cases e2; exact k H1 m1 s1 r1
 | rt w=>cases e2; exact k H1 m1 s1 r1
theorem ss_no:SS X st (fun _ _=>.no):=zov.imp fun D σ H ⟨ρ,h,m,fl,h',f,r,e,k⟩=>by cases e
noncomputable def zj2:Expr→Bool
 | .ListComp .. | .SetComp .. | .DictComp ..=>false
 | _=>true
theorem zj3 {e:Expr} {t:Option Expr} {l:Nat} {env:Env} (h:zj2 e=true):swapsWith e t l env=pure false:=by
 cases e <;> first | rfl | cases h
theorem zte (he:SE X e fa) (hs:zj2 e=true):SS X (.Expr e pos) (fun ρ h=>(fa ρ h).bind fun _ h=>.ok (.nx ρ) h):=(zr3 he (zj3 hs)).imp fun D σ H hq0=>by
 obtain ⟨ρ,h,m,fl,h',f,r,e,k⟩:=hq0
 obtain ⟨w,h1,e1,e2⟩:=zae e
 cases e2
 exact ⟨ρ,h,m,w,h',f,r,e1,fun v H1 m1 s1 r1 q1=>k H1 m1 s1 r1 σ (f.stp s1)⟩
theorem zw6 (he:SE X e fa):SS X (.Return (some e) pos) (fun ρ h=>(fa ρ h).bind fun w h=>.ok (.rt w) h):=(zul he).imp fun D σ H hq0=>by
 obtain ⟨ρ,h,m,fl,h',f,r,e,k⟩:=hq0
 obtain ⟨w,h1,e1,e2⟩:=zae e
 cases e2
 exact ⟨ρ,h,m,w,h',f,r,e1,fun v H1 m1 s1 r1 q1=>k H1 m1 s1 r1 v q1⟩
theorem ztf:SS X (.Return none pos) (fun ρ h=>(Res.ok W.non h).bind fun w h=>.ok (.rt w) h):=zr4.imp fun D σ H hq0=>by
 obtain ⟨ρ,h,m,fl,h',f,r,e,k⟩:=hq0
 cases e
 exact k H m .refl r .non .non
noncomputable abbrev gSet (i:Nat) (fa:FE):FS:=fun ρ h=>(fa ρ h).bind fun w h=>.ok (.nx (ρ.set i (some w))) h
theorem zra {K:PySem.W.Frag} {i:Nat} {D:Ends} {σ:L2.St} {H:Hp} (q:lftS K (gSet i fa) D σ H):lft K fa σ H fun v H1=>gName i v σ H1 D.nx:=by
 obtain ⟨ρ,h,m,fl,h',f,r,e,k⟩:=q
 obtain ⟨w,h1,e1,e2⟩:=zae e
 cases e2
 exact ⟨ρ,h,m,w,h',f,r,e1,fun v H1 m1 s1 r1 q1=>k H1 m1 s1 r1 _ ((f.stp s1).set q1 i)⟩
theorem zrb {i:Nat} {pos':Pos} (hN:X.N.Nodup) (hi:X.N[i]?=some x) (hx:Loc X.env.scope x) (hf:X.fn x=true∨X.env.scope.names.lookup x=some .local) (he:SE X e fa)
 (hs:swapsWith e (some (.Name x pos')) pos.line X.env=pure false):SS X (.Assign [.Name x pos'] e pos) (gSet i fa):=(zup hN hi hx he hs hf).imp fun D σ H q=>zra q
theorem zp0 {i:Nat} {pos' lp:Pos} {ow fr:List Str} {ix:List Nat} {scope:Scope} {tg iter elt:Expr} {ifs:List Expr} {kd:Kd} {t:Tg} {fe:FE} (hN:X.N.Nodup) (hi:X.N[i]?=some x) (hx:Loc X.env.scope x) (hf:X.fn x=true∨X.env.scope.names.lookup x=some .local)
 (S:CompScope X ow fr ix scope) (hc:X.calm=true) (hI:PI X tg iter (lftI X.K kd fa)) (hg:∀ C s₀ H₀ ex,PG (X.comp (ow++fr) scope C s₀ H₀ ex) tg (lftG X.K t)) (ht:∀ C s₀ H₀ ex,PTs (X.comp (ow++fr) scope C s₀ H₀ ex) ifs (lftT X.K fc))
 (he:∀ C s₀ H₀ ex,PE (X.comp (ow++fr) scope C s₀ H₀ ex) elt (lft X.K fe)) (hsw:swapsWith (.ListComp elt [⟨tg,iter,ifs,0⟩] scope lp) (some (.Name x pos')) pos.line X.env=pure true) (hs:∀ x,foldedSetIterable iter X.env x=pure x) :
 SS X (.Assign [.Name x pos'] (.ListComp elt [⟨tg,iter,ifs,0⟩] scope lp) pos) (gSet i (gLc kd fa t ow.length ix fc fe)):=
 (zpc hN hi hx S hc hI hg ht he hsw hf hs).imp fun D σ H q=>lc_ok (zra q)
theorem se_lc {lp:Pos} {ow fr:List Str} {ix:List Nat} {scope:Scope} {tg iter elt:Expr} {ifs:List Expr} {kd:Kd} {t:Tg} {fe:FE}
 (S:CompScope X ow fr ix scope) (hc:X.calm=true) (hI:PI X tg iter (lftI X.K kd fa)) (hg:∀ C s₀ H₀ ex,PG (X.comp (ow++fr) scope C s₀ H₀ ex) tg (lftG X.K t)) (ht:∀ C s₀ H₀ ex,PTs (X.comp (ow++fr) scope C s₀ H₀ ex) ifs (lftT X.K fc))
 (he:∀ C s₀ H₀ ex,PE (X.comp (ow++fr) scope C s₀ H₀ ex) elt (lft X.K fe)) (hs:∀ x,foldedSetIterable iter X.env x=pure x) :
 SE X (.ListComp elt [⟨tg,iter,ifs,0⟩] scope lp) (gLc kd fa t ow.length ix fc fe):=(pe_lc S hc hI hg ht he hs).imp fun σ H Q q=>lc_ok q
noncomputable def noTup:Expr→Bool
 | .Tuple ..=>false
 | _=>true
theorem zm4 {es:List Expr} {k:Nat} {e:Expr} {l:Nat} {p:Pos} {env:Env}:swapsWithSole [.Tuple es k p] e l env=pure false:=by
 cases e <;> rfl
theorem zk2 {t:Expr} {e:Expr} {env:Env} (h:noTup e=true):swappedStores [t] e env=pure none:=by
 cases e <;> first | (cases t <;> rfl) | cases h
theorem zw7 {is:List Nat} {k:Nat} (hc:X.calm=true) (hN:X.N.Nodup) (hs:Paired (NmOk X) es is) (he:SE X e fa) (ht:noTup e=true) :
 SS X (.Assign [.Tuple es k p] e pos) (fun ρ h=>(fa ρ h).bind fun w h=>.of ((tgW (.many is) w h ρ).map .nx) h):=(zqs he (zm3 hc hN hs) zm4 (zk2 ht) rfl).imp fun D σ H hq0=>by
 obtain ⟨ρ,h,m,fl,h',f,r,e,k⟩:=hq0
 obtain ⟨w,h1,e1,e2⟩:=zae e
 obtain ⟨e2,e3⟩:=of_ok e2
 subst e3
 cases z:tgW (.many is) w h' ρ with
 | none=>rw [z] at e2; cases e2
 | some ρ'=>
  rw [z] at e2; cases e2
  exact ⟨ρ,h,m,w,h',f,r,e1,fun v H1 m1 s1 r1 q1=>⟨ρ,h',m1,w,ρ',f.stp s1,r1,q1,z,fun σ' f'=>k H1 m1 s1 r1 σ' f'⟩⟩
noncomputable def zeo:Expr→Bool
 | .Slice ..=>false
 | _=>true
theorem zk3 {o i:Expr} {p:Pos} {env:Env} (h:zeo i=true) (v:Value):assign (.Subscript o i p) env v=(do
 let ov ← holding [v] (eval o env)
 let iv ← holding [v,ov] (eval i env)
 standAt p
 holding [v,ov,iv] (setItem ov iv v)
 release [v,ov,iv] []):=by
 cases i <;> first | rfl | cases h
noncomputable abbrev gPut (fo fi fv:FE):FS:=fun ρ h=>(fv ρ h).bind fun w h=>(fo ρ h).bind fun x h=>(fi ρ h).bind fun y h=>match x,y with
 | .ref a,.int j=>(match h.get a with
  | some (.lst ws)=>(match L2.ixN ws.length j with
   | some k=>.ok (.nx ρ) (h.set a (.lst (ws.set k w)))
   | none=>.no)
  | _=>.no)
 | .ref a,y=>putD ρ a y w h
 | _,_=>.no
theorem zm5 {o i e:Expr} {l:Nat} {p:Pos} {env:Env}:swapsWithSole [.Subscript o i p] e l env=pure false:=by
 cases e <;> rfl
theorem zi2 {o i e:Expr} {p:Pos} {env:Env}:swappedStores [.Subscript o i p] e env=pure none:=by
 cases e <;> rfl
theorem zhm {α β:Type} {f:α→Option β}:∀ {as:List α} {bs:List β} {a:α} {b:β},mapO f as=some bs→f a=some b→mapO f (as++[a])=some (bs++[b])
 | [],_,_,_,e,h=>by cases e; simp [mapO,h]
 | x :: as,bs,a,b,e,h=>by
  simp only [mapO] at e
  cases z:f x with
  | none=>rw [z] at e; cases e
  | some y=>
   rw [z] at e
   simp only at e
   cases z2:mapO f as with
   | none=>rw [z2] at e; cases e
   | some ys=>
    rw [z2] at e; cases e
    rw [List.cons_append]
    simp only [mapO,z,zhm z2 h,List.cons_append]
theorem zw8 (hu:X.A.units + 2 < cLine) (ho:SE X o fo) (hi:SE X a fa) (hv:SE X e fb) (hs:zeo a=true):SS X (.Assign [.Subscript o a p] e pos) (gPut fo fa fb):=
 (zqs hv (zuo ho hi (zo7.or (zvv hu)) (zk3 hs)) zm5 zi2 rfl).imp fun D σ H hq0=>by
   obtain ⟨ρ,h,m,fl,h',f,r,e,k⟩:=hq0
   obtain ⟨w,h1,e1,e2⟩:=zae e
   obtain ⟨x,h2,e3,e4⟩:=zae e2
   obtain ⟨y,h3,e5,e6⟩:=zae e4
   refine ⟨ρ,h,m,w,h1,f,r,e1,fun v H1 m1 s1 r1 q1=>⟨ρ,h1,m1,x,h2,f.stp s1,r1,e3,fun vo H2 m2 s2 r2 q2=>⟨ρ,h2,m2,y,h3,(f.stp s1).stp s2,r2,e5,fun vi H3 m3 s3 r3 q3=>?_⟩⟩⟩
   split at e6
   ·rename_i l j
    split at e6
    ·rename_i ws g
     split at e6
     ·rename_i kk hk
      cases e6
      cases q3
      have q2':=q2.stp s3
      cases q2'
      obtain ⟨vs,p1,p2⟩:=r3.lst g
      refine .inl ⟨m3 l,vs,j,kk,rfl,rfl,p1,by rw [p2.length]; exact hk,?_⟩
      have qv:=((q1.stp s2).stp s3)
      obtain ⟨st,r'⟩:=r3.write (i:=l) (o:=.lst (ws.set kk w)) (u:=.lst (vs.set kk v)) (zar g) p1 (fun _ z=>nomatch z) (fun _ _ z=>nomatch z) fun st=>⟨_,zap,VReps.set (qv.stp st) kk (p2.stp st)⟩
      exact k _ m3 (((s1.trans s2).trans s3).trans st) r' σ ((((f.stp s1).stp s2).stp s3).stp st)
     ·cases e6
    ·cases e6
   ·rename_i l _
    unfold putD at e6
    split at e6
    ·rename_i ks ws dk g hd
     split at e6
     ·rename_i hc
      cases e6
      rw [vac] at hc
      have q2':=q2.stp s3
      cases q2'
      obtain ⟨xs,p1,p2,p3,p4⟩:=r3.dt g
      obtain ⟨b,rfl,kk⟩:=zem q3 hd
      have hl:=p3.length
      rw [vab] at hl
      have hlt:xs.length < sizeLine:=by rw [hl,sizeLine_eq]; exact zan.mp hc.2
      have qv:=((q1.stp s2).stp s3)
      have hf:findX xs dk=none:=by
       rcases zgb dk p2 p4 with ⟨z,_⟩ | ⟨p,w',z,z2,_⟩
       ·exact z
       ·rw [z2] at hc; exact absurd hc.1 (by simp)
      have hp:putX xs dk b v=xs++[(dk,b,v)]:=by unfold putX; rw [hf]; rfl
      obtain ⟨u0,hu0,hn,hff,hmu⟩:∃ u0:HO,H3 (m3 l)=some u0∧(∀ t,u0≠HO.tup t)∧(∀ o t,u0≠HO.frz o t)∧Mut (some u0):=by
       rcases p1 with p1 | ⟨_,p1⟩
       ·exact ⟨_,p1,(fun _ z=>nomatch z),(fun _ _ z=>nomatch z),True.intro⟩
       ·exact ⟨_,p1,(fun _ z=>nomatch z),(fun _ _ z=>nomatch z),True.intro⟩
      refine .inr ⟨m3 l,b,xs,dk,rfl,rfl,dt_DT p1 p2 p3,by rw [hu0]; exact hmu,kk,hlt,?_⟩
      obtain ⟨st,r'⟩:=r3.write (i:=l) (o:=.dt (ks++[y]) (ws++[w])) (u:=dtH (putX xs dk b v) (m3 l)) (zar g) hu0 hn hff fun st=>by
       rw [hp] at st ⊢
       refine ⟨xs++[(dk,b,v)],.inl zap,?_,?_,?_⟩
       ·rw [List.map_append,zhm p2 hd]; rfl
       ·rw [List.map_append]; exact (p3.stp st).append (.cons (q3.stp st) .nil)
       ·rw [List.map_append]; exact (p4.stp st).append (.cons (qv.stp st) .nil)
      exact k _ m3 (((s1.trans s2).trans s3).trans st) r' σ ((((f.stp s1).stp s2).stp s3).stp st)
     ·cases e6
    ·cases e6
   ·cases e6
theorem zi3 {M:Model} {A:Around} {E:Value→Shared→Prop} {s:Shared} {a b:Value} {T id:String} {Q:Value→Shared→Prop} (ha:s.TypeIs a T) (hb:s.TypeIs b T)
 (hI:typeLookup (.type T) (dunderI "add")=pure (some (.builtin id))) (hq:isSeqSlot (some (.builtin id))=true) (hfill:fillsNumberSlot (.type T) "add" = pure false) (hc:wpAny M A (call (.builtin id) [a,b]) Q E s):wpAny M A (inplaceOp .Add a b) Q E s:=by
 unfold inplaceOp
 refine wpAny_holding ?_
 have h1:fillsInplaceSlot (.type T) "add" (Operator.Add == .Add)=pure false:=by
  unfold fillsInplaceSlot
  show (typeLookup (.type T) (dunderI "add") >>= fun fi=>pure (fi.isSome && !isSeqSlot fi))=_
  rw [hI,pure_bind,hq]; rfl
 have h2:seqSlot? (.type T) (dunderI "add")=pure (some (.builtin id)):=by
  unfold seqSlot?
  rw [hI,pure_bind,hq]; rfl
 refine vaa (wpAny_typeOf ha (vaa (wpAny_of_eq h1 ?_)))
 show wpAny M A (if false=true then _ else _) Q E s
 rw [if_neg Bool.false_ne_true]
 refine vaa (binaryOp1_none (nm := "add") ha hb hfill ?_)
 refine vaa (wpAny_of_eq h2 ?_)
 exact vaa (wpAny_rule hc)
noncomputable def rIcat:R2:=fun x y H Q=>∃ l b xs zs,x=.ref l∧y=.ref b∧H l=some (.lst xs)∧H b=some (.lst zs)∧xs.length + zs.length≤sizeLine∧Q (.ref l) (upd H l (.lst (xs++zs)))
theorem zw9:PIp X .Add rIcat:=by
 intro pins s σ H x y v u Q I rx ry h
 obtain ⟨l,b,xs,zs,rfl,rfl,hH,hB,hz,q⟩:=h
 cases rx
 cases ry
 obtain ⟨z,its,n,r,hl,e⟩:=I.lstM hH
 obtain ⟨z2,its2,n2,r2,hl2,e2⟩:=I.lstM hB
 have hsz:its.toArray.size + its2.toArray.size≤sizeLine:=by rw [vai,vai]; omega
 have hlong:¬ (!its.toArray.isEmpty && Builtin.List.listTooLong (its.toArray.size + its2.toArray.size))=true:=by
  rw [zf5 hsz,Bool.and_false]
  exact Bool.false_ne_true
 refine zi3 (T := "list") (id := "list.__iadd__") ⟨_,e,rfl⟩ ⟨_,e2,rfl⟩ PySem.F.slot_list_iadd.lookup (by decide +kernel) noFill_list_add ?_
 refine call_meets PySem.F.slot_list_iadd ⟨_,e,rfl⟩ PySem.F.entry_list_iadd (PySem.F.args_list_iadd_2 _ _)
  (AutoSeq1.list___iadd___list_list_0 l its.toArray n b its2.toArray n2 hlong (by rw [vai]; omega) (by omega)) ⟨e,e2,?_⟩
 refine ⟨.ref l,_,I.lset (its':=its++its2) hH e (by simp) (r.append r2) ?_,rfl,q⟩
 rw [vag]
 omega
noncomputable def ipOf:Operator→Option Op
 | .Add=>some .add | .Sub=>some .sub | .Mult=>some .mul | .FloorDiv=>some .fdiv
 | _=>none
noncomputable def rIp:Op→R2
 | .mul=>rI CMul fun i j=>.int (i * j)
 | .fdiv=>rI CDiv fun i j=>.int (i / j)
 | .add=>fun x y H Q=>ipI (fun i j=>i + j) x y H Q∨rIcat x y H Q
 | .sub=>ipI fun i j=>i - j
 | _=>fun _ _ _ _=>False
theorem ip_ok {O:Operator} {o:Op} (e:ipOf O=some o):PIp X O (rIp o):=by
 cases O <;> cases e
 ·intro pins s σ H x y v u Q I rx ry q
  rcases q with q | q
  ·exact zur pins s σ H x y v u Q I rx ry q
  ·exact zw9 pins s σ H x y v u Q I rx ry q
 ·exact zus
 ·exact zr7
 ·exact zoy
theorem zxa {K:PySem.W.Frag} {O:Operator} {o:Op} (e:ipOf O=some o):OpV K (rIp o) (ipW o):=by
 intro m h H v u x y w h' Q r qv qu e2 k
 unfold ipW at e2
 split at e2
 ·rename_i i j
  cases qv; cases qu
  split at e2
  ·cases e2; exact .inl ⟨i,j,rfl,rfl,Wants.here k r (.int _)⟩
  ·cases e2; exact ⟨i,j,rfl,rfl,Wants.here k r (.int _)⟩
  ·obtain ⟨e2,rfl⟩:=of_ok e2
   cases z:opI .mul i j with
   | none=>rw [z] at e2; cases e2
   | some t=>
    rw [z] at e2; cases e2
    obtain ⟨c1,rfl⟩:=zmv z
    exact ⟨i,j,rfl,rfl,c1,Wants.here k r (.int _)⟩
  ·obtain ⟨e2,rfl⟩:=of_ok e2
   cases z:opI .fdiv i j with
   | none=>rw [z] at e2; cases e2
   | some t=>
    rw [z] at e2; cases e2
    obtain ⟨c1,rfl⟩:=zmv z
    exact ⟨i,j,rfl,rfl,c1,Wants.here k r (.int _)⟩
  ·cases e2
 ·rename_i i j
  split at e2
  ·rename_i xs ys g1 g2
   split at e2
   ·rename_i hz
    cases e2
    cases qv; cases qu
    obtain ⟨vs,p1,p2⟩:=r.lst g1
    obtain ⟨us,p3,p4⟩:=r.lst g2
    refine .inr ⟨m i,m j,vs,us,rfl,rfl,p1,p3,by rw [p2.length,p4.length]; exact Nat.le_of_ble_eq_true hz,?_⟩
    obtain ⟨st,r'⟩:=r.write (i:=i) (o:=.lst (xs++ys)) (u:=.lst (vs++us)) (zar g1) p1 (fun _ z=>nomatch z) (fun _ _ z=>nomatch z) fun st=>⟨_,zap,(p2.stp st).append (p4.stp st)⟩
    exact k _ _ m st r' (.ref (show i < h.n from zar g1))
   ·cases e2
  ·cases e2
 ·cases e2
noncomputable abbrev gAug (i:Nat) (o:Op) (fa:FE):FS:=fun ρ h=>match (ρ[i]?).join with
 | some x=>(fa ρ h).bind fun y h=>(ipW o x y h).bind fun z h=>.ok (.nx (ρ.set i (some z))) h
 | none=>.no
theorem zxb {i:Nat} {pos':Pos} {O:Operator} {o:Op} (eo:ipOf O=some o) (hN:X.N.Nodup) (hi:X.N[i]?=some x) (hx:Loc X.env.scope x) (hf:X.fn x=true∨X.env.scope.names.lookup x=some .local) (he:SE X e fa) :
 SS X (.AugAssign (.Name x pos') O e pos) (gAug i o fa):=(zuq hN hi hx he (ip_ok eo) hf).imp fun D σ H hq0=>by
 obtain ⟨ρ,h,m,fl,h',f,r,e,k⟩:=hq0
 have e:gAug i o fa ρ h=.ok fl h':=e
 simp only [gAug] at e
 cases z:(ρ[i]?).join with
 | none=>rw [z] at e; cases e
 | some x=>
  rw [z] at e
  simp only at e
  obtain ⟨y,h1,e1,e2⟩:=zae e
  obtain ⟨w,h2,e3,e4⟩:=zae e2
  cases e4
  have e5:ρ[i]?=some (some x):=by
   cases q:ρ[i]? with
   | none=>rw [q] at z; cases z
   | some o=>rw [q] at z; rw [← z]; rfl
  obtain ⟨v,p1,p2⟩:=f.val i x e5
  refine ⟨v,p1,ρ,h,m,y,h1,f,r,e1,fun u H1 m1 s1 r1 q1=>zxa eo m1 h1 H1 v u x y w h' _ r1 (p2.stp s1) q1 e3 fun v' H' m' s' r' q'=>?_⟩
  exact k H' m' (s1.trans s') r' _ (((f.stp s1).stp s').set q' i)
noncomputable abbrev gIf (fc:FE) (ga gb:FS):FS:=fun ρ h=>(fc ρ h).bind fun x h=>match x with | .bl true=>ga ρ h | .bl false=>gb ρ h | _=>.no
variable {sa sb:List Stmt}
theorem zxc (hc:ST X c fc) (ha:SSs X sa ga) (hb:SSs X sb gb):SS X (.If c sa sb pos) (gIf fc ga gb):=(ps_if hc ha hb).imp fun D σ H hq0=>by
 obtain ⟨ρ,h,m,fl,h',f,r,e,k⟩:=hq0
 obtain ⟨x,h1,e1,e2⟩:=zae e
 cases x <;> try cases e2
 rename_i c
 refine ⟨ρ,h,m,c,h1,f,r,e1,fun H1 m1 s1 r1=>?_⟩
 cases c with
 | true=>rw [if_pos rfl]; exact ⟨ρ,h1,m1,fl,h',f.stp s1,r1,e2,fun H' m' s' r'=>k H' m' (s1.trans s') r'⟩
 | false=>simp only [vam,if_false]; exact ⟨ρ,h1,m1,fl,h',f.stp s1,r1,e2,fun H' m' s' r'=>k H' m' (s1.trans s') r'⟩
theorem ztg {nx:Nat→VH→Option (Option W)} {tg:W→VH→En→Option En} {g:FS} {f i:Nat} {ρ:En} {h:VH} {fl:Fl} {h':VH} (q:forG nx tg g (f + 1) i ρ h=.ok fl h'):∃ o,nx i h=some o:=by
 simp only [forG] at q
 split at q
 ·cases q
 ·exact ⟨_,by assumption⟩
 ·exact ⟨_,by assumption⟩
noncomputable abbrev gFor (kd:Kd) (fa:FE) (t:Tg) (g:FS):FS:=fun ρ h=>(fa ρ h).bind fun x h=>forG (nxt kd x) (tgW t) g fuel 0 ρ h
theorem zxd {K:PySem.W.Frag} {kd:Kd} {t:Tg} {D:Ends} {σ:L2.St} {H:Hp} (q:lftS K (gFor kd fa t ga) D σ H):tFor (lftI K kd fa) (lftG K t) (lftS K ga) D σ H:=by
 obtain ⟨ρ,h,m,fl,h',f,r,e,k⟩:=q
 obtain ⟨x,h1,e1,e2⟩:=zae e
 refine ⟨ρ,h,m,x,h1,f,r,e1,ztg (f:=999999) e2,fun J P H1 m1 s1 r1 J1 p1=>?_⟩
 refine ⟨fun i fu σ' H'=>∃ ρ' h3 m3,forG (nxt kd x) (tgW t) ga fu i ρ' h3=.ok fl h'∧Fr K m3 h3.n H' σ' ρ'∧Rel K m3 h3 H'∧Stp m1 h1.n H1 m3 h3.n H'∧P m3 h3.n H',⟨fuel,ρ,h1,m1,e2,f.stp s1,r1,.refl,p1⟩,?_⟩
 rintro i fu σ' H' ⟨ρ',h3,m3,e3,f3,r3,s3,p3⟩
 cases fu with
 | zero=>cases e3
 | succ fu=>
  simp only [forG] at e3
  obtain ⟨j1,j2⟩:=J1.2 m3 h3 H' r3 p3 i
  split at e3
  ·cases e3
  ·rename_i hn
   cases e3
   exact .inl ⟨j2 hn,k H' m3 (s1.trans s3) r3 σ' f3⟩
  ·rename_i w hn
   obtain ⟨j3,j4⟩:=j1 w hn
   split at e3
   ·cases e3
   ·rename_i ρ4 ht
    obtain ⟨fl5,h5,e5,e6⟩:=zae e3
    refine .inr ⟨j3,fun σ6 H6=>∃ ρ6 m6,forG (nxt kd x) (tgW t) ga fu (i + 1) ρ6 h5=.ok fl h'∧Fr K m6 h5.n H6 σ6 ρ6∧Rel K m6 h5 H6∧Stp m1 h1.n H1 m6 h5.n H6∧P m6 h5.n H6,fun σ6 H6 ⟨ρ6,m6,a1,a2,a3,a4,a5⟩=>⟨fu,Nat.lt_succ_self _,ρ6,h5,m6,a1,a2,a3,a4,a5⟩,fun y H4 hy=>?_⟩
    obtain ⟨s4,r4,q4⟩:=j4 y H4 hy
    refine ⟨ρ',h3,m3,w,ρ4,f3.stp s4,r4,q4,ht,fun σ5 f5=>⟨ρ4,h3,m3,fl5,h5,f5,r4,e5,fun H6 m6 s6 r6=>?_⟩⟩
    have p4:=J1.1 m3 h3.n H' m3 h3.n H4 (vae _) (fun _ _=>rfl) (fun b vs q=>s4.tup b vs q) (fun b o u q=>s4.frz b o u q) p3
    have p6:=J1.1 m3 h3.n H4 m6 h5.n H6 s6.le s6.same (fun b vs q=>s6.tup b vs q) (fun b o u q=>s6.frz b o u q) p4
    have s16:=(s3.trans s4).trans s6
    cases fl5 with
    | nx ρ6=>exact fun σ6 f6=>⟨ρ6,m6,e6,f6,r6,s16,p6⟩
    | ct ρ6=>exact fun σ6 f6=>⟨ρ6,m6,e6,f6,r6,s16,p6⟩
    | bk ρ6=>cases e6; exact fun σ6 f6=>k H6 m6 (s1.trans s16) r6 σ6 f6
    | rt w6=>cases e6; exact fun v6 q6=>k H6 m6 (s1.trans s16) r6 v6 q6
theorem zxe {kd:Kd} {t:Tg} {tg iter:Expr} (hp:PassesOwn (model X.prog X.w) X.A X.env X.xe) (hc:X.calm=true) (hI:PI X tg iter (lftI X.K kd fa)) (hg:PG X tg (lftG X.K t)) (hb:SSs X sa ga) (hs:∀ x,foldedSetIterable iter X.env x=pure x) :
 SS X (.For tg iter sa [] pos) (gFor kd fa t ga):=(zuv hp hc hI hg hb hs).imp fun D σ H q=>zxd q
theorem zxf (hp:PassesOwn (model X.prog X.w) X.A X.env X.xe) (hc:ST X c fc) (hb:SSs X sa ga):SS X (.While c sa [] pos) (fun ρ h=>whlG fc ga fuel ρ h):=(zox hp hc hb).imp fun D σ H hq0=>by
 obtain ⟨ρ,h,m,fl,h',f,r,e,k⟩:=hq0
 refine ⟨fun fu σ' H'=>∃ ρ' h3 m3,whlG fc ga fu ρ' h3=.ok fl h'∧Fr X.K m3 h3.n H' σ' ρ'∧Rel X.K m3 h3 H'∧Stp m h.n H m3 h3.n H',⟨fuel,ρ,h,m,e,f,r,.refl⟩,?_⟩
 rintro fu σ' H' ⟨ρ',h3,m3,e3,f3,r3,s3⟩
 cases fu with
 | zero=>cases e3
 | succ fu=>
  simp only [whlG] at e3
  obtain ⟨x,h4,e4,e5⟩:=zae e3
  cases x <;> try cases e5
  rename_i b
  refine ⟨ρ',h3,m3,b,h4,f3,r3,e4,fun H4 m4 s4 r4=>?_⟩
  cases b with
  | false=>cases e5; simp only [vam,if_false]; exact k H4 m4 (s3.trans s4) r4 σ' (f3.stp s4)
  | true=>
   simp only [if_true]
   obtain ⟨fl5,h5,e6,e7⟩:=zae e5
   refine ⟨fun σ6 H6=>∃ ρ6 m6,whlG fc ga fu ρ6 h5=.ok fl h'∧Fr X.K m6 h5.n H6 σ6 ρ6∧Rel X.K m6 h5 H6∧Stp m h.n H m6 h5.n H6,fun σ6 H6 ⟨ρ6,m6,a1,a2,a3,a4⟩=>⟨fu,Nat.lt_succ_self _,ρ6,h5,m6,a1,a2,a3,a4⟩,?_⟩
   refine ⟨ρ',h4,m4,fl5,h5,f3.stp s4,r4,e6,fun H6 m6 s6 r6=>?_⟩
   have s16:=(s3.trans s4).trans s6
   cases fl5 with
   | nx ρ6=>exact fun σ6 f6=>⟨ρ6,m6,e7,f6,r6,s16⟩
   | ct ρ6=>exact fun σ6 f6=>⟨ρ6,m6,e7,f6,r6,s16⟩
   | bk ρ6=>cases e7; exact fun σ6 f6=>k H6 m6 s16 r6 σ6 f6
   | rt w6=>cases e7; exact fun v6 q6=>k H6 m6 s16 r6 v6 q6
end
theorem zcx {n:Str}:∀ {ps:List Str} {us:List Value},us.length=ps.length→n∈ps→((ps.zip us).lookup n).isSome=true
 | [],_,_,h=>by cases h
 | p :: ps,[],hl,_=>by cases hl
 | p :: ps,u :: us,hl,h=>by
  rw [List.zip_cons_cons,List.lookup_cons]
  by_cases e:(n == p)=true
  ·rw [e]; rfl
  ·have e':(n == p)=false:=by simpa using e
   rw [e']
   refine zcx (by simpa using hl) ?_
   rcases List.mem_cons.mp h with z | z
   ·rw [z] at e'; simp at e'
   ·exact z
theorem zp1 {n:Str} {u:Value} {p:Str} {ps:List Str} {us:List Value} (h:n≠p):((p,u) :: ps.zip us).lookup n=(ps.zip us).lookup n:=by
 rw [List.lookup_cons]
 have e':(n == p)=false:=by simpa using h
 rw [e']
theorem zj4 {α β:Type} {f g:α→Option β}:∀ {l:List α},(∀ a∈l,f a=g a)→l.filterMap f=l.filterMap g
 | [],_=>rfl
 | a :: r,h=>by
  rw [List.filterMap_cons,List.filterMap_cons,h a vap,zj4 fun b hb=>h b (vaj _ hb)]
theorem zgf:∀ {ps:List Str} {us:List Value},us.length=ps.length→ps.Nodup→ps.filterMap (fun n=>((ps.zip us).lookup n).map (n,·))=ps.zip us
 | [],_,_,_=>rfl
 | p :: ps,[],hl,_=>by cases hl
 | p :: ps,u :: us,hl,hn=>by
  obtain ⟨h1,h2⟩:=List.nodup_cons.mp hn
  rw [List.zip_cons_cons,List.filterMap_cons]
  have e:((p,u) :: ps.zip us).lookup p=some u:=by rw [List.lookup_cons]; simp
  rw [e]
  simp only [van]
  congr 1
  have ih:=zgf (ps:=ps) (us:=us) (by simpa using hl) h2
  refine Eq.trans ?_ ih
  exact zj4 fun n hn'=>by
   have hne:n≠p:=fun z=>h1 (by rw [← z]; exact hn')
   rw [zp1 hne]
theorem zfg {x qual:Str} {args:List Arg} {body:List Stmt} {sc:Scope} {kV doc pm:Value} {an:Option Addr} {cdv ct:Value} {us:List Value} {df:List Expr} (hl:us.length=(args.map (·.arg)).length) (hn:(args.map (·.arg)).Nodup) :
 bindArgs (PySem.W.fnOf x qual ⟨[],args,none,[],[],none,df⟩ body sc .none kV doc pm an cdv ct) ⟨us,[]⟩=pure ((args.map (·.arg)).zip us):=by
 have hs:seqItems? Value.none=pure none:=rfl
 have hm:((args.map (·.arg)).filter fun n=>(((args.map (·.arg)).zip us).lookup n).isNone)=[]:=by
  rw [List.filter_eq_nil_iff]
  intro n hn'
  have:=zcx hl hn'
  cases q:((args.map (·.arg)).zip us).lookup n with
  | none=>rw [q] at this; cases this
  | some v=>simp
 unfold bindArgs
 simp only [PySem.W.fnOf,List.map_nil,List.nil_append,List.append_nil,hs,pure_bind]
 have hg:¬ (us.length > (args.map (·.arg)).length):=by omega
 have h0:(#[]:Array Value).toList=[]:=rfl
 simp only [Option.getD_none,h0,List.forIn_nil,pure_bind,List.drop_nil,List.length_nil,Nat.sub_zero,List.take_length,hm,List.isEmpty_nil,Bool.not_true,List.drop_length,List.zip_nil_right,List.zip_nil_left,decide_eq_false hg,Bool.false_and,vam,if_false,zgf hl hn]
theorem zhn {z:Str}:∀ {qs:List Str} {us:List Value},us.length=qs.length→(qs++[z]).zip us=qs.zip us
 | [],[],_=>rfl
 | [],_ :: _,h=>by cases h
 | _ :: _,[],h=>by cases h
 | q :: qs,u :: us,h=>by
  rw [List.cons_append,List.zip_cons_cons,List.zip_cons_cons,zhn (by simpa using h)]
theorem zgg {z:Str} {v:Value}:∀ {qs:List Str} {us:List Value},us.length=qs.length→(qs++[z]).zip (us++[v])=qs.zip us++[(z,v)]
 | [],[],_=>rfl
 | [],_ :: _,h=>by cases h
 | _ :: _,[],h=>by cases h
 | q :: qs,u :: us,h=>by
  rw [List.cons_append,List.cons_append,List.zip_cons_cons,List.zip_cons_cons,zgg (by simpa using h),List.cons_append]
theorem zm6 {z:Str}:∀ {qs:List Str} {us:List Value},z∉qs→(qs.zip us).lookup z=none
 | [],_,_=>rfl
 | _ :: _,[],_=>rfl
 | q :: qs,u :: us,h=>by
  rw [List.zip_cons_cons,List.lookup_cons]
  have e':(z == q)=false:=by simpa using (fun e=>h (by rw [e]; exact vap))
  rw [e']
  exact zm6 fun e=>h (vaj _ e)
section
variable {x qual:Str} {args:List Arg} {df:List Expr} {body:List Stmt} {sc:Scope} {kV doc pm:Value} {an:Option Addr} {cdv ct:Value} {t:Addr} {o:Obj} {n:Nat} {s:Shared} {us:List Value} {qs:List Str} {z:Str}
theorem zrc (qs:List Str) (z:Str):List.drop ([Value.none].length - (qs++[z]).length) [Value.none]=[Value.none]:=by
 rw [vag,List.length_singleton,List.length_singleton,show 1 - (qs.length + 1)=0 by omega]; rfl
theorem len_d (qs:List Str) (z:Str):(qs++[z]).length - [Value.none].length=qs.length:=by simp
theorem zk4 (ha:args.map (·.arg)=qs++[z]) (hn:(qs++[z]).Nodup) (ho:s.heap.get? t=some o) (hd:o.data=.seq #[.none] n) (hl:us.length=(qs++[z]).length) :
 BindsTo s (PySem.W.fnOf x qual ⟨[],args,none,[],[],none,df⟩ body sc (.ref t) kV doc pm an cdv ct) ⟨us,[]⟩ ((qs++[z]).zip us):=by
 apply BindsTo.of_defaults (items:=#[.none]) (n:=n) rfl ho hd
 ·unfold bindArgs
  simp only [PySem.W.fnOf,List.map_nil,List.nil_append,List.append_nil,List.forIn_nil,pure_bind,ha]
  rfl
 ·have hm:(qs.filter fun n=>(((qs++[z]).zip us).lookup n).isNone)=[]:=by
   rw [List.filter_eq_nil_iff]
   intro n hn'
   have:=zcx (n:=n) hl (List.mem_append_left _ hn')
   cases q:((qs++[z]).zip us).lookup n with
   | none=>rw [q] at this; cases this
   | some v=>simp
  have hz:(((qs++[z]).zip us).lookup z).isNone=false:=by
   have:=zcx (n:=z) hl (List.mem_append_right _ (List.mem_singleton.mpr rfl))
   cases q:((qs++[z]).zip us).lookup z with
   | none=>rw [q] at this; cases this
   | some v=>rfl
  have hg:¬ (us.length > (qs++[z]).length):=by omega
  simp only [Option.getD_some,zrc,len_d,List.take_left',List.take_left,List.drop_left,List.drop_left',hm,decide_eq_false hg,Bool.false_and,vam,if_false,List.isEmpty_nil,Bool.not_true,List.zip_cons_cons,List.zip_nil_right,List.forIn_cons,List.forIn_nil,hz,pure_bind,zgf hl hn]
theorem zk5 (ha:args.map (·.arg)=qs++[z]) (hn:(qs++[z]).Nodup) (ho:s.heap.get? t=some o) (hd:o.data=.seq #[.none] n) (hl:us.length=qs.length) :
 BindsTo s (PySem.W.fnOf x qual ⟨[],args,none,[],[],none,df⟩ body sc (.ref t) kV doc pm an cdv ct) ⟨us,[]⟩ ((qs++[z]).zip (us++[.none])):=by
 apply BindsTo.of_defaults (items:=#[.none]) (n:=n) rfl ho hd
 ·unfold bindArgs
  simp only [PySem.W.fnOf,List.map_nil,List.nil_append,List.append_nil,List.forIn_nil,pure_bind,ha]
  rfl
 ·have hm:(qs.filter fun n=>((qs.zip us).lookup n).isNone)=[]:=by
   rw [List.filter_eq_nil_iff]
   intro n hn'
   have:=zcx (n:=n) hl hn'
   cases q:(qs.zip us).lookup n with
   | none=>rw [q] at this; cases this
   | some v=>simp
  have hzq:z∉qs:=fun h=>(List.nodup_append.mp hn).2.2 z h z (List.mem_singleton.mpr rfl) rfl
  have hz:((qs.zip us).lookup z).isNone=true:=by rw [zm6 hzq]; rfl
  have hg:¬ (us.length > (qs++[z]).length):=by rw [vag]; omega
  have hl2:(us++[Value.none]).length=(qs++[z]).length:=by rw [vag,vag,hl]; rfl
  have ha2:=zgf hl2 hn
  rw [zgg hl] at ha2
  simp only [Option.getD_some,zrc,len_d,zhn hl,zgg hl,List.take_left',List.take_left,List.drop_left,List.drop_left',hm,decide_eq_false hg,Bool.false_and,vam,if_false,List.isEmpty_nil,Bool.not_true,List.zip_cons_cons,List.zip_nil_right,List.forIn_cons,List.forIn_nil,hz,if_true,pure_bind,ha2]
end
structure FunD (K:PySem.W.Frag) (x qual:Str) (st:Stmt) (f:Addr) (fd:FuncData):Prop where
 ex:∃ (oc:Value) (od:Option Addr) (dV kV doc pm:Value) (an:Option Addr) (cdv ct:Value) (osl:Array (Option Value)),fd=PySem.W.fnOf x qual (zsl st) (zf6 st) (zat st) dV kV doc pm an cdv ct∧K.lookup f=some ⟨oc,od,.func fd,osl⟩∧PySem.W.codeIn K cdv qual=true
 kp:PySem.W.keepIn K (.ref f)=true
theorem FunD.ok {P:Program} {w:World} {K:PySem.W.Frag} {mg:Str→Option Value} {base:Heap} {x qual:Str} {st:Stmt} {f:Addr} {fd:FuncData} {N ps:List Str} {k:Nat} {sp:Sp} (F:FunD K x qual st f fd) (S:FnScope N ps (zat st)) (len:∀ vs H Q E,sp vs H Q E→vs.length=ps.length)
 (hbody:∀ (cdv:Value) (A:Around) (outer:List Env) (s:Shared) (H:Hp) (vs:List V) (Q:VK) (E:XK),Room k (A.deeper (envOfC qual (zat st) s.heap.objs.size f cdv))→sp vs H Q E→∃ t,PSs (cxOf CX0 P w K mg base N qual (zat st) f cdv A outer s H E).nox (zf6 st) t∧t { nx:=fun _ H'=>Q .non H',rt:=Q } (start N vs) H):FnOk P w K mg base CX0 (k + 1) f fd ps sp:=
 let ⟨_,_,_,_,_,_,_,cdv,_,_,e,lk,hcd⟩:=F.ex
 by subst e; exact fn_of lk hcd S len fun A outer s H vs Q E hr hsp=>let ⟨t,h,q⟩:=hbody cdv A outer s H vs Q E hr hsp; ⟨t,h.nox,q⟩
section
variable {K:PySem.W.Frag} {m m':Nat→Addr} {n n':Nat} {h h':VH} {H H':Hp}
mutual
theorem VRep.refsLt:∀ {v:V} {w:W},VRep K m n H v w→W.lt n w=true
 | _,_,.non=>rfl
 | _,_,.bl _=>rfl
 | _,_,.int _=>rfl
 | _,_,.str _=>rfl
 | _,_,.tup _ r=>VReps.refsLt r
 | _,_,.fz _ r=>VReps.refsLt r
 | _,_,.ref q=>zan.mpr q
theorem VReps.refsLt:∀ {vs:List V} {ws:List W},VReps K m n H vs ws→W.lts n ws=true
 | _,_,.nil=>rfl
 | _,_,.cons q r=>by
  show (W.lt n _ && W.lts n _)=true
  rw [VRep.refsLt q,VReps.refsLt r]; rfl
end
mutual
theorem VRep.cut:∀ {v:V} {w:W},VRep K m n' H v w→W.lt n w=true→VRep K m n H v w
 | _,_,.non,_=>.non
 | _,_,.bl b,_=>.bl b
 | _,_,.int b,_=>.int b
 | _,_,.str b,_=>.str b
 | _,_,.tup q r,e=>.tup q (VReps.cut r e)
 | _,_,.fz q r,e=>.fz q (VReps.cut r e)
 | _,_,.ref q,e=>.ref (zan.mp e)
theorem VReps.cut:∀ {vs:List V} {ws:List W},VReps K m n' H vs ws→W.lts n ws=true→VReps K m n H vs ws
 | _,_,.nil,_=>.nil
 | _,_,.cons q r,e=>by
  have e:(W.lt n _ && W.lts n _)=true:=e
  rw [vac] at e
  exact .cons (VRep.cut q e.1) (VReps.cut r e.2)
end
theorem KReps.cut {m':Nat→Addr} {n1:Nat} {H':Hp}:∀ {vs us:List (Key × V)} {ws:List (Key × W)},KReps K m n' H vs ws→KReps K m' n H' us ws→KReps K m n H vs ws
 | _,_,_,.nil,_=>.nil
 | _,_,_,.cons q r,.cons q2 r2=>.cons (q.cut q2.refsLt) (KReps.cut (n1:=n1) r r2)
theorem zrd {lo:Nat} (r:Rel K m h H):Rel K m ⟨h.n,lo,h.os⟩ H:=⟨r.obj,r.inj,r.len⟩
theorem zj5 {w w2:W} {h1 h2:VH} {v:V} {Q:VK} (r:Rel K m h H) (s:Stp m h.n H m' h1.n H') (r1:Rel K m' h1 H') (q:VRep K m' h1.n H' v w) (g:Grow ⟨h.n,h.n,h.os⟩ h1) (e:leave h w h1=.ok w2 h2) (k:Wants K m h.n H w2 h2 Q):Q v H':=by
 unfold leave at e
 split at e
 ·rename_i hc
  cases e
  rw [vac] at hc
  have hlo:=Nat.le_of_ble_eq_true hc.1
  refine k v H' m' ⟨vae _,s.same,fun i a b=>absurd b (Nat.not_lt.mpr a),fun i j a b=>absurd b (Nat.not_lt.mpr a),s.tup,s.frz,s.keep⟩ ⟨fun i hi=>?_,fun i j hi hj=>r1.inj i j (vak hi s.le) (vak hj s.le),r.len⟩ (q.cut hc.2)
  have hg:h1.get i=h.get i:=g.2.2 i hi (vak hi hlo)
  obtain ⟨o,p1,p2⟩:=r1.obj i (vak hi s.le)
  rw [hg] at p1
  refine ⟨o,p1,?_⟩
  have p3:=r.at_ p1
  cases o with
  | lst ws=>
   obtain ⟨vs,a1,a2⟩:=p2
   obtain ⟨us,b1,b2⟩:=p3
   exact ⟨vs,a1,a2.cut b2.refsLt⟩
  | dk ws=>
   obtain ⟨vs,a1,a2⟩:=p2
   obtain ⟨us,b1,b2⟩:=p3
   exact ⟨vs,a1,KReps.cut (n1:=0) a2 b2⟩
  | dt ks ws=>
   obtain ⟨xs,a1,a0,a2,a3⟩:=p2
   obtain ⟨us,b1,b0,b2,b3⟩:=p3
   exact ⟨xs,a1,a0,a2.cut b2.refsLt,a3.cut b3.refsLt⟩
  | ins C xs ws=>
   obtain ⟨dx,vs,a1,a0,a2⟩:=p2
   obtain ⟨dx',us,b1,b0,b2⟩:=p3
   exact ⟨dx,vs,a1,a0,a2.cut b2.refsLt⟩
 ·cases e
  exact k v H' m' s (zrd r1) q
theorem zp2 {N:List Str} {vs:List V} {ws:List W} (q:VReps K m n H vs ws):Fr K m n H (L2.start N vs) (ws.map some++List.replicate (N.length - ws.length) none):=by
 unfold L2.start
 refine ⟨by simp [q.length],fun i w e=>?_⟩
 by_cases hi:i < ws.length
 ·rw [List.getElem?_append_left (by simpa using hi)] at e
  rw [List.getElem?_append_left (by simpa [q.length] using hi)]
  rw [List.getElem?_map] at e ⊢
  cases z:ws[i]? with
  | none=>rw [z] at e; cases e
  | some w'=>
   rw [z] at e
   cases e
   obtain ⟨v,h1,h2⟩:=q.get z
   exact ⟨v,by rw [h1]; rfl,h2⟩
 ·rw [List.getElem?_append_right (by simpa using Nat.not_lt.mp hi)] at e
  rw [List.getElem?_replicate] at e
  split at e <;> cases e
end
theorem zi4 {F:Nat→Option Fn} {k idx:Nat} {ws:List W} {h h':VH} {w:W} {fn:Fn} (hF:F idx=some fn) (e:run F k idx ws h=.ok w h'):ws.length=fn.ps:=by
 cases k with
 | zero=>cases e
 | succ k=>
  simp only [run,hF] at e
  split at e
  ·rename_i hl; exact Nat.eq_of_beq_eq_true hl
  ·cases e
theorem zre {P:Program} {w:World} {K:PySem.W.Frag} {mg:Str→Option Value} {base:Heap} {F:Nat→Option Fn} {k idx:Nat} {fn:Fn} {x qual:Str} {st:Stmt} {f:Addr} {fd:FuncData} {N ps:List Str} (hF:F idx=some fn) (Fu:FunD K x qual st f fd) (S:FnScope N ps (zat st))
 (hn:fn.n=N.length) (hp:fn.ps=ps.length)
 (hbody:∀ (cdv:Value) (A:Around) (outer:List Env) (s:Shared) (H:Hp) (E:XK),Room k (A.deeper (envOfC qual (zat st) s.heap.objs.size f cdv))→SSs (cxOf CX0 P w K mg base N qual (zat st) f cdv A outer s H E).nox (zf6 st) (exs (run F k) fn.body)) :
 FnOk P w K mg base CX0 (k + 1) f fd ps (spV K ps.length (run F (k + 1) idx)):=by
 refine Fu.ok S (fun vs H Q E h=>h.1) fun cdv A outer s H vs Q E hr hsp=>?_
 refine ⟨_,hbody cdv A outer s H E hr,?_⟩
 obtain ⟨hl,h,m,ws,w2,h2,r,q,e,k2⟩:=hsp
 have hws:=zi4 hF e
 simp only [run,hF] at e
 split at e
 ·obtain ⟨fl,h1,e1,e2⟩:=zae e
  have g:=zhh (zhi F k) _ _ _ _ _ e1
  have hN:fn.n - fn.ps=N.length - ws.length:=by rw [hn,hws]
  rw [hN] at e1
  refine ⟨_,⟨h.n,h.n,h.os⟩,m,fl,h1,zp2 q,zrd r,e1,fun H' m' s' r'=>?_⟩
  cases fl with
  | nx ρ=>exact fun σ' f'=>zj5 r s' r' .non g e2 k2
  | rt w3=>exact fun v q3=>zj5 r s' r' q3 g e2 k2
  | bk _=>cases e2
  | ct _=>cases e2
 ·cases e
theorem zm7 {P:Program} {w:World} {K:PySem.W.Frag} {mg:Str→Option Value} {base:Heap} {F:Nat→Option Fn} {idx:Nat} {f:Addr} {fd:FuncData} {ps:List Str}:FnOk P w K mg base CX0 0 f fd ps (spV K ps.length (run F 0 idx)):=
 ⟨fun vs H Q E h=>h.1,fun A outer s H args us vs Q E hr he hb hv hs=>by obtain ⟨_,h,m,ws,w2,h2,r,q,e,k2⟩:=hs; cases e⟩
set_option genInjectivity false in
structure CC where
 N:List Str
 names:List (Str × NameKind)
 fnAll:Bool
noncomputable def zdv:List Str→Str→Nat→Option Nat
 | [],_,_=>none
 | y :: r,x,i=>if y == x then some i else zdv r x (i + 1)
theorem zho:∀ {N:List Str} {x:Str} {k i:Nat},zdv N x k=some i→∃ j,i=k + j∧N[j]?=some x
 | [],_,_,_,e=>by cases e
 | y :: r,x,k,i,e=>by
  unfold zdv at e
  split at e
  ·rename_i h
   cases e
   exact ⟨0,rfl,by simpa using h⟩
  ·obtain ⟨j,h1,h2⟩:=zho e
   exact ⟨j + 1,by omega,by simpa using h2⟩
theorem zm8 {N:List Str} {x:Str} {i:Nat} (e:zdv N x 0=some i):N[i]?=some x:=by
 obtain ⟨j,h1,h2⟩:=zho e
 rw [show i=j by omega]; exact h2
noncomputable def visK:Option NameKind→Bool
 | some .local | some .cell | some .free=>true
 | _=>false
noncomputable def locK (all:Bool):Option NameKind→Bool
 | some .local=>true
 | some .cell=>all
 | _=>false
noncomputable def okN (x:Str):Bool:=!(x == ("__debug__" : Str)) && !(x == ("__classdict__" : Str)) && !(x == ("__name__" : Str)) && !(x == ("" : Str))
theorem zxg {x:Str} (h:okN x=true):x ≠ "" := by
 unfold okN at h
 simp only [vac,Bool.not_eq_true'] at h
 exact fun z=>by rw [z] at h; simp at h
theorem zfh {x:Str} (h:okN x=true):(x == ("__debug__" : Str))=false∧(x == ("__classdict__" : Str))=false∧x ≠ "__name__" := by
 unfold okN at h
 simp only [vac,Bool.not_eq_true'] at h
 exact ⟨h.1.1.1,h.1.1.2,fun z=>by rw [z] at h; simp at h⟩
noncomputable def cstW (K:PySem.W.Frag):Nat→Value→Option W
 | 0,_=>none
 | n + 1,v=>match v with
  | .none=>some .non
  | .bool b=>some (.bl b)
  | .int i _=>some (.int i)
  | .str x _=>some (.str x)
  | .ref a=>(match K.lookup a with
   | some o=>(match o.cls,o.dict,o.data with
    | .type t,none,.seq its _=>if t == "tuple" && Nat.ble its.size 1000 then (mapO (cstW K n) its.toList).map .tup else none
    | _,_,_=>none)
   | none=>none)
  | _=>none
theorem zm9 {K:PySem.W.Frag} {f:Value→Option W} (ih:∀ v w,f v=some w→∃ x,RelV x v∧∀ m n H,VRep K m n H x w):∀ {us:List Value} {ws:List W},mapO f us=some ws→∃ xs,Vals xs us∧∀ m n H,VReps K m n H xs ws
 | [],_,e=>by cases e; exact ⟨[],.nil,fun _ _ _=>.nil⟩
 | u :: us,ws,e=>by
  unfold mapO at e
  split at e
  ·rename_i b hb
   split at e
   ·rename_i bs hbs
    cases e
    obtain ⟨x,h1,h2⟩:=ih u b hb
    obtain ⟨xs,h3,h4⟩:=zm9 ih hbs
    exact ⟨x :: xs,.cons h1 h3,fun m n H=>.cons (h2 m n H) (h4 m n H)⟩
   ·cases e
  ·cases e
theorem zrf {K:PySem.W.Frag}:∀ (n:Nat) (v:Value) (w:W),cstW K n v=some w→∃ x,RelV x v∧∀ m n H,VRep K m n H x w
 | 0,_,_,e=>by cases e
 | n + 1,v,w,e=>by
  unfold cstW at e
  split at e
  ·cases e; exact ⟨.non,rfl,fun _ _ _=>.non⟩
  ·cases e; exact ⟨.bl _,rfl,fun _ _ _=>.bl _⟩
  ·cases e; exact ⟨.int _,⟨_,rfl⟩,fun _ _ _=>.int _⟩
  ·cases e; exact ⟨.str _,⟨_,rfl⟩,fun _ _ _=>.str _⟩
  ·rename_i a
   split at e
   ·rename_i o ho
    split at e
    ·rename_i t its nn hc hdd hd
     split at e
     ·rename_i hz
      rw [vac] at hz
      have ht:t = "tuple" := by simpa using hz.1
      subst ht
      cases z:mapO (cstW K n) its.toList with
      | none=>rw [z] at e; cases e
      | some ws=>
       rw [z] at e
       cases e
       obtain ⟨xs,h3,h4⟩:=zm9 (zrf n) z
       exact ⟨.ref a,rfl,fun m n H=>.tup (.inr ⟨o,its,nn,ho,hc,hdd,hd,Nat.le_of_lt (zhd (Nat.le_of_ble_eq_true hz.2)),h3⟩) (h4 m n H)⟩
     ·cases e
    ·cases e
   ·cases e
  ·cases e
noncomputable def cL (f:Expr→Option E):List Expr→Option E
 | []=>some .nil
 | e :: es=>match f e,cL f es with
  | some a,some r=>some (.cons a r)
  | _,_=>none
noncomputable def fnAt (K:PySem.W.Frag) (x:Str):Option (Addr × Obj × FuncData):=match PySem.W.nsIn K mainGlobals x with
 | some (some (.ref f))=>(match K.lookup f with
  | some o=>(match o.data with
   | .func fd=>some (f,o,fd)
   | _=>none)
  | none=>none)
 | _=>none
noncomputable def zcy:Arguments→Option (List Arg)
 | ⟨[],args,none,[],[],none,_⟩=>some args
 | _=>none
noncomputable def isNone:Value→Bool
 | .none=>true
 | _=>false
noncomputable def zgh:Data→Bool
 | .seq xs _=>(match xs.toList with
  | [v]=>isNone v
  | _=>false)
 | _=>false
noncomputable def noneD (K:PySem.W.Frag):Value→Bool
 | .ref t=>(match K.lookup t with
  | some o=>zgh o.data
  | none=>false)
 | _=>false
noncomputable def zep (K:PySem.W.Frag) (x:Str) (n:Nat):Bool:=match fnAt K x with
 | some (_,_,fd)=>noneD K fd.defaults && Nat.beq (n + 1) fd.params.args.length
 | none=>false
noncomputable def hasD (K:PySem.W.Frag) (x:Str):Bool:=match fnAt K x with
 | some (_,_,fd)=>noneD K fd.defaults
 | none=>false
theorem zk6 {K:PySem.W.Frag} {x:Str} {n:Nat} (h:zep K x n=true):hasD K x=true:=by
 unfold zep at h
 unfold hasD
 split at h
 ·rw [vac] at h; exact h.1
 ·cases h
noncomputable def padE:E→E
 | .nil=>.cons (.cst .non) .nil
 | .cons a r=>.cons a (padE r)
 | e=>e
noncomputable def argsE:E→Bool
 | .nil=>true
 | .cons _ r=>argsE r
 | _=>false
theorem zxh {cl:Call}:∀ {a:E},argsE a=true→∀ (ρ:En) (h:VH),ev cl (padE a) ρ h=(ev cl a ρ h).bind fun y h=>match y with | .tup ys=>.ok (.tup (ys++[.non])) h | _=>.no:=by
 intro a
 induction a with
 | nil=>intro _ ρ h; rfl
 | cons x r _ ih=>
  intro ha ρ h
  have ih:=ih ha
  simp only [padE,ev]
  cases ev cl x ρ h with
  | no=>rfl
  | ex _ _=>rfl
  | ok w h1=>
   show Res.bind (ev cl (padE r) ρ h1) _=Res.bind (Res.bind (ev cl r ρ h1) _) _
   rw [ih]
   cases ev cl r ρ h1 with
   | no=>rfl
   | ex _ _=>rfl
   | ok y h2=>cases y <;> rfl
 | _=>intro ha; cases ha
theorem zna {f:Expr→Option E}:∀ {es:List Expr} {a:E},cL f es=some a→argsE a=true
 | [],_,h=>by cases h; rfl
 | e :: es,a,h=>by
  unfold cL at h
  split at h
  ·rename_i x r h1 h2
   cases h
   show argsE r=true
   exact zna h2
  ·cases h
noncomputable def cPs (f:Expr→Option E):List (Option Expr)→List Expr→Option E
 | [],[]=>some .nil
 | some k :: ks,v :: vs=>match f k,f v,cPs f ks vs with
  | some a,some b,some r=>some (.cons a (.cons b r))
  | _,_,_=>none
 | _,_=>none
noncomputable def cB (and:Bool) (f:Expr→Option E):List Expr→Option E
 | []=>none
 | [a]=>f a
 | a :: b :: r=>match f a,cB and f (b :: r) with
  | some x,some y=>some (if and then .and x y else .or x y)
  | _,_=>none
noncomputable def cO (f:Expr→Option E):Option Expr→Option (Bool × E)
 | none=>some (false,.cst .non)
 | some e=>(f e).map fun c=>(true,c)
noncomputable def zfi (K:PySem.W.Frag) (C:CC) (x:Str):Bool:=C.names.lookup x == some .globalImplicit && (match PySem.W.nsIn K mainGlobals x with | some none=>true | _=>false)
noncomputable def tyOf (x:Str):Option Ty:=
 if x == ("int" : Str) then some .int else if x == ("bool" : Str) then some .bool else if x == ("tuple" : Str) then some .tuple else if x == ("list" : Str) then some .list else if x == ("str" : Str) then some .str else if x == ("dict" : Str) then some .dict else none
noncomputable def biOf (x:Str):Option Bi:=
 if x == ("len" : Str) then some .len else if x == ("list" : Str) then some .list else if x == ("tuple" : Str) then some .tuple else if x == ("int" : Str) then some .int else if x == ("abs" : Str) then some .abs else if x == ("max" : Str) then some .max else if x == ("min" : Str) then some .min else if x == ("all" : Str) then some .all else none
noncomputable def zrg:Expr→Bool
 | .Tuple ..=>true
 | _=>false
noncomputable def okW:Kd→Expr→Bool
 | .enm,t=>zrg t
 | .zip,t=>zrg t
 | _,_=>true
noncomputable def nmIx (C:CC):Expr→Option Nat
 | .Name x _=>if okN x && locK C.fnAll (C.names.lookup x) then zdv C.N x 0 else none
 | _=>none
noncomputable def cTg (C:CC):Expr→Option Tg
 | .Name x p=>(nmIx C (.Name x p)).map .one
 | .Tuple es _ _=>(mapO (nmIx C) es).map .many
 | _=>none
noncomputable def ownOf (sc:Scope):List Str:=(sc.names.filter fun y=>y.2 == .local && !(y.1 == (".0" : Str))).map (·.1)
noncomputable def za8 (sc:Scope):List Str:=(sc.names.filter fun y=>y.2 == .free).map (·.1)
noncomputable def zeq (C:CC) (sc:Scope) (ix:List Nat):Bool:=
 decide (sc.kind=.function) && sc.names.all (fun y=>decide (y.2≠.cell)) && sc.names.all (fun y=>decide (y.2=.local→sc.names.lookup y.1=some .local)) &&
 (ownOf sc).all (fun x=>decide (sc.names.lookup x=some .local)) && sc.names.all (fun y=>decide (y.2=.free→C.names.lookup y.1=some .cell∨C.names.lookup y.1=some .free)) && decide (ix.length=(za8 sc).length) &&
 ((List.range (za8 sc).length).all fun k=>match (za8 sc)[k]?,ix[k]? with
   | some x,some j=>decide (C.N[j]?=some x) && decide (sc.names.lookup x=some .free)
   | _,_=>false) && decide (ownOf sc++za8 sc).Nodup
noncomputable def inC (sc:Scope):CC:=⟨ownOf sc++za8 sc,sc.names,false⟩
mutual
noncomputable def cE (K:PySem.W.Frag) (T:List Str):Nat→CC→Expr→Option E
 | 0,_,_=>none
 | n + 1,C,e=>match e with
  | .Name x _=>if okN x then (if visK (C.names.lookup x) then (zdv C.N x 0).map .var
   else if C.names.lookup x == some .globalImplicit then (match PySem.W.nsIn K mainGlobals x with
    | some (some v)=>(cstW K 8 v).map .cst
    | _=>none) else none) else none
  | .Constant c _ _=>(match c with
   | .int i=>some (.cst (.int i))
   | .bool b=>some (.cst (.bl b))
   | .none=>some (.cst .non)
   | .str x=>some (.cst (.str x))
   | _=>none)
  | .Tuple es _ _=>(cL (cE K T n C) es).map .tup
  | .List es _=>(cL (cE K T n C) es).map .lst
  | .Dict ks vs _=>if Nat.ble ks.length 15 && Nat.beq ks.length vs.length && ks.all (·.isSome) then (cPs (cE K T n C) ks vs).map .dsp else none
  | .BinOp a O b _=>(match opOf O,cE K T n C a,cE K T n C b with
   | some o,some x,some y=>some (.op o x y)
   | _,_,_=>none)
  | .UnaryOp .Not a _=>(cE K T n C a).map .not
  | .UnaryOp .USub a _=>(cE K T n C a).map .neg
  | .BoolOp .And es _=>cB true (cE K T n C) es
  | .BoolOp .Or es _=>cB false (cE K T n C) es
  | .Compare a [O] [b] _=>if zcb b then (match cpOf O,cE K T n C a,cE K T n C b with
   | some c,some x,some y=>some (.cmp c x y)
   | _,_,_=>none) else none
  | .Compare a [O,O'] [b,c] _=>if zcb c then (match cpOf O,cpOf O',cE K T n C a,cE K T n C b,cE K T n C c with
   | some o,some o',some x,some y,some z=>some (.chn o o' x y z)
   | _,_,_,_,_=>none) else none
  | .IfExp c a b _=>(match cT K T n C c,cE K T n C a,cE K T n C b with
   | some z,some x,some y=>some (.ite z x y)
   | _,_,_=>none)
  | .Subscript a (.Slice lo hi none _) _=>(match cE K T n C a,cO (cE K T n C) lo,cO (cE K T n C) hi with
   | some x,some (bl,l),some (bh,u)=>some (.slc x bl l bh u)
   | _,_,_=>none)
  | .Subscript a b _=>if zeo b then (match cE K T n C a,cE K T n C b with
   | some x,some y=>some (.idx x y)
   | _,_=>none) else none
  | .Call (.Name f _) args [] _=>if okN f && C.names.lookup f == some .globalImplicit then (match PySem.W.nsIn K mainGlobals f with
   | some none=>if f == ("isinstance" : Str) then (match args with
    | [a,.Name t _]=>(match tyOf t,cE K T n C a with
     | some ty,some x=>if okN t && zfi K C t then some (.isi ty x) else none
     | _,_=>none)
    | _=>none)
    else (match biOf f,args with
     | some b,_ :: _=>(cL (cE K T n C) args).map (.bi b)
     | _,_=>none)
   | some (some _)=>(match zdv T f 0 with
    | some i=>if zep K f args.length && !args.isEmpty then (cL (cE K T n C) args).map (fun a=>.call i (padE a)) else (cL (cE K T n C) args).map (.call i)
    | none=>none)
   | none=>none) else none
  | .Call (.Attribute o mth ap) args [] pos=>if zi0 o && (ap.endLine == pos.line) then (match cE K T n C o,args with
   | some x,[a]=>if mth == ("append" : Str) then (cE K T n C a).map fun y=>.mt .append x (.cons y .nil) else none
   | _,_=>none) else none
  | .ListComp elt [⟨tg,iter,ifs,0⟩] sc _=>(match mapO (fun x=>zdv C.N x 0) (za8 sc) with
   | some ix=>if zeq C sc ix then (match cW K T n C iter,cTg (inC sc) tg,(match ifs with | []=>some (.cst (.bl true)) | [c]=>cT K T n (inC sc) c | _=>none),cE K T n (inC sc) elt with
    | some (kd,a),some t,some c,some e=>if okW kd tg then some (.lc kd a t (ownOf sc).length ix c e) else none
    | _,_,_,_=>none) else none
   | none=>none)
  | _=>none
noncomputable def cT (K:PySem.W.Frag) (T:List Str):Nat→CC→Expr→Option E
 | 0,_,_=>none
 | n + 1,C,e=>match e with
  | .Compare a [O] [b] _=>if zcb b then (match cpOf O,cE K T n C a,cE K T n C b with
   | some c,some x,some y=>some (.cmp c x y)
   | _,_,_=>none) else none
  | .Compare a [O,O'] [b,c] _=>if zcb c then (match cpOf O,cpOf O',cE K T n C a,cE K T n C b,cE K T n C c with
   | some o,some o',some x,some y,some z=>some (.chn o o' x y z)
   | _,_,_,_,_=>none) else none
  | .UnaryOp .Not a _=>(cT K T n C a).map .not
  | .BoolOp .And es _=>cB true (cT K T n C) es
  | .BoolOp .Or es _=>cB false (cT K T n C) es
  | .Name x p=>(cE K T n C (.Name x p)).map .tru
  | .Call f as ks p=>(cE K T n C (.Call f as ks p)).map .tru
  | .Subscript a b p=>(cE K T n C (.Subscript a b p)).map .tru
  | _=>none
noncomputable def cW (K:PySem.W.Frag) (T:List Str):Nat→CC→Expr→Option (Kd × E)
 | 0,_,_=>none
 | n + 1,C,e=>match e with
  | .Call (.Name f p) args [] pos=>if f == ("range" : Str) then (if zfi K C f then (match args with
   | [a]=>(cE K T n C a).map fun x=>(.rng1,.cons x .nil)
   | [a,b]=>(match cE K T n C a,cE K T n C b with
    | some x,some y=>some (.rng2,.cons x (.cons y .nil))
    | _,_=>none)
   | _=>none) else none)
   else if f == ("enumerate" : Str) then (if zfi K C f then (match args with
    | [a]=>(cE K T n C a).map fun x=>(.enm,x)
    | _=>none) else none)
   else if f == ("zip" : Str) then (if zfi K C f then (match args with
    | [a,b]=>(match cE K T n C a,cE K T n C b with
     | some x,some y=>some (.zip,.cons x (.cons y .nil))
     | _,_=>none)
    | _=>none) else none)
   else (cE K T n C (.Call (.Name f p) args [] pos)).map fun x=>(.seq,x)
  | .Set ..=>none
  | e=>(cE K T n C e).map fun x=>(.seq,x)
end
noncomputable def cSs (f:Stmt→Option S):List Stmt→Option S
 | []=>some .skip
 | s :: r=>match f s,cSs f r with
  | some a,some b=>some (.seq a b)
  | _,_=>none
noncomputable def cS (K:PySem.W.Frag) (T:List Str) (d:Nat):Nat→CC→Stmt→Option S
 | 0,_,_=>none
 | n + 1,C,s=>match s with
  | .Pass _=>some .skip
  | .Break _=>some .brk
  | .Continue _=>some .cnt
  | .Raise ..=>some .no
  | .Return none _=>some (.ret (.cst .non))
  | .Return (some e) _=>(cE K T d C e).map .ret
  | .Expr e _=>if zj2 e then (cE K T d C e).map .expr else none
  | .Assign [.Name x p] e _=>(match nmIx C (.Name x p),cE K T d C e with
   | some i,some c=>some (.set i c)
   | _,_=>none)
  | .Assign [.Tuple ts _ _] e _=>if noTup e then (match mapO (nmIx C) ts,cE K T d C e with
   | some is,some c=>some (.unp is c)
   | _,_=>none) else none
  | .Assign [.Subscript o i _] e _=>if zeo i then (match cE K T d C o,cE K T d C i,cE K T d C e with
   | some x,some y,some z=>some (.put x y z)
   | _,_,_=>none) else none
  | .AugAssign (.Name x p) O e _=>(match nmIx C (.Name x p),ipOf O,cE K T d C e with
   | some i,some o,some c=>some (.aug i o c)
   | _,_,_=>none)
  | .If c a b _=>(match cT K T d C c,cSs (cS K T d n C) a,cSs (cS K T d n C) b with
   | some z,some x,some y=>some (.ite z x y)
   | _,_,_=>none)
  | .For tg it b [] _=>(match cW K T d C it,cTg C tg,cSs (cS K T d n C) b with
   | some (kd,a),some t,some x=>if okW kd tg then some (.for kd a t x) else none
   | _,_,_=>none)
  | .While c b [] _=>(match cT K T d C c,cSs (cS K T d n C) b with
   | some z,some x=>some (.whl z x)
   | _,_=>none)
  | _=>none
structure XOk (X:Cx) (C:CC) (T:List Str) (F:Nat→Option Fn) (k:Nat):Prop where
 hN:X.N=C.N
 nd:C.N.Nodup
 vis:∀ x,visK (C.names.lookup x)=true→Vis X.env.scope x
 loc:∀ x,locK C.fnAll (C.names.lookup x)=true→Loc X.env.scope x∧(X.fn x=true∨X.env.scope.names.lookup x=some .local)
 gl:∀ x,C.names.lookup x=some .globalImplicit→Gl X x
 cf:∀ x,(C.names.lookup x=some .cell∨C.names.lookup x=some .free)→X.env.kindOf x=some .cell∨X.env.kindOf x=some .free
 calm:X.calm=true
 room:Room k X.A
 xe:X.xe=fun _ _=>False
 kfn:X.env.scope.kind=.function
 mgs:∀ x v,PySem.W.nsIn X.K mainGlobals x=some (some v)→X.mg x=some v
 mgn:∀ x,PySem.W.nsIn X.K mainGlobals x=some none→X.mg x=none
 fns:∀ (i:Nat) (x:Str),T[i]?=some x→x ≠ "" → ∃ f fd ps fn,PySem.W.nsIn X.K mainGlobals x=some (some (.ref f))∧FnOk X.prog X.w X.K X.mg X.base CX0 k f fd ps (spV X.K ps.length (run F k i))∧PySem.W.keepIn X.K (.ref f)=true∧Binds X.K fd ps []∧F i=some fn∧fn.ps=ps.length∧(hasD X.K x=true→Binds X.K fd ps [.none])
section
variable {X:Cx} {C:CC} {T:List Str} {F:Nat→Option Fn} {k:Nat}
theorem XOk.u65 (O:XOk X C T F k):X.A.units + 65 < cLine:=by have:=O.room.un; omega
theorem XOk.u2 (O:XOk X C T F k):X.A.units + 2 < cLine:=Nat.lt_of_le_of_lt (Nat.add_le_add_left (by decide:2≤64) _) O.room.units
theorem zcz (O:XOk X C T F k) {x:Str} (h:zfi X.K C x=true):Gl X x∧X.mg x=none:=by
 unfold zfi at h
 rw [vac] at h
 refine ⟨O.gl x (by simpa using h.1),O.mgn x ?_⟩
 have h2:=h.2
 split at h2
 ·assumption
 ·cases h2
theorem nm_ok (O:XOk X C T F k) {e:Expr} {i:Nat} (h:nmIx C e=some i):NmOk X e i:=by
 unfold nmIx at h
 split at h
 ·split at h
  ·rename_i hc
   rw [vac] at hc
   obtain ⟨h1,h2⟩:=O.loc _ hc.2
   exact ⟨_,_,rfl,by rw [O.hN]; exact zm8 h,h1,h2⟩
  ·cases h
 ·cases h
theorem znb (O:XOk X C T F k):∀ {es:List Expr} {is:List Nat},mapO (nmIx C) es=some is→Paired (NmOk X) es is
 | [],_,h=>by cases h; exact .nil
 | e :: es,is,h=>by
  unfold mapO at h
  split at h
  ·rename_i b hb
   split at h
   ·rename_i bs hbs
    cases h
    exact .cons (nm_ok O hb) (znb O hbs)
   ·cases h
  ·cases h
theorem tg_ok (O:XOk X C T F k) {e:Expr} {t:Tg} (h:cTg C e=some t):PG X e (lftG X.K t):=by
 unfold cTg at h
 split at h
 ·rename_i x p
  cases z:nmIx C (.Name x p) with
  | none=>rw [z] at h; cases h
  | some i=>
   rw [z] at h; cases h
   obtain ⟨x',p',e,h1,h2,h3⟩:=nm_ok O z
   cases e
   exact zw1 (O.hN ▸ O.nd) h1 h2 h3
 ·rename_i es kx p
  cases z:mapO (nmIx C) es with
  | none=>rw [z] at h; cases h
  | some is=>rw [z] at h; cases h; exact zm3 O.calm (O.hN ▸ O.nd) (znb O z)
 ·cases h
theorem cL_ok {f:Expr→Option E} {cl:Call} (ih:∀ e c,f e=some c→SE X e (ev cl c)∧zaz e=true):∀ {es:List Expr} {c:E},cL f es=some c→SA X es (ev cl c)∧es.all zaz=true
 | [],_,h=>by cases h; exact ⟨zjy,rfl⟩
 | e :: es,c,h=>by
  unfold cL at h
  split at h
  ·rename_i a r ha hr
   cases h
   obtain ⟨h1,h2⟩:=ih e a ha
   obtain ⟨h3,h4⟩:=cL_ok ih hr
   exact ⟨zdi h1 h3 (zak h2),by rw [List.all_cons,h2,h4]; rfl⟩
  ·cases h
theorem zrh {f:Expr→Option E} {cl:Call} {pos:Pos} (ih:∀ e c,f e=some c→SE X e (ev cl c)∧zaz e=true):∀ {ks:List (Option Expr)} {vs:List Expr} {c:E},cPs f ks vs=some c→SPs X pos ks vs (ev cl c)
 | [],[],_,h=>by cases h; exact zs6
 | [],_ :: _,_,h=>by cases h
 | none :: _,_,_,h=>by cases h
 | some _ :: _,[],_,h=>by cases h
 | some a :: ks,v :: vs,c,h=>by
  unfold cPs at h
  split at h
  ·rename_i x y r hx hy hr
   cases h
   exact zpt (ih _ _ hx).1 (ih _ _ hy).1 (zrh ih hr)
  ·cases h
theorem cB_ok {f:Expr→Option E} {cl:Call} {pos:Pos} (ih:∀ e c,f e=some c→SE X e (ev cl c)∧zaz e=true):∀ {es:List Expr} {c:E},(cB true f es=some c→SE X (.BoolOp .And es pos) (ev cl c))∧(cB false f es=some c→SE X (.BoolOp .Or es pos) (ev cl c))
 | [],_=>⟨(fun h=>nomatch h),(fun h=>nomatch h)⟩
 | [a],c=>⟨fun h=>zq4 (ih a c h).1,fun h=>zq4 (ih a c h).1⟩
 | a :: b :: r,c=>by
  refine ⟨fun h=>?_,fun h=>?_⟩
  ·unfold cB at h
   split at h
   ·rename_i x y hx hy
    cases h
    exact zwf (ih a x hx).1 ((cB_ok ih).1 hy)
   ·cases h
  ·unfold cB at h
   split at h
   ·rename_i x y hx hy
    cases h
    exact se_or (ih a x hx).1 ((cB_ok ih).2 hy)
   ·cases h
theorem zj6 {f:Expr→Option E} {cl:Call} {pos:Pos} (ih:∀ e c,f e=some c→ST X e (ev cl c)):∀ {es:List Expr} {c:E},(cB true f es=some c→SW X (.BoolOp .And es pos) (ev cl c))∧(cB false f es=some c→SW X (.BoolOp .Or es pos) (ev cl c))
 | [],_=>⟨(fun h=>nomatch h),(fun h=>nomatch h)⟩
 | [a],c=>⟨fun h=>zq3 (ih a c h),fun h=>zq3 (ih a c h)⟩
 | a :: b :: r,c=>by
  refine ⟨fun h=>?_,fun h=>?_⟩
  ·unfold cB at h
   split at h
   ·rename_i x y hx hy
    cases h
    exact zwe (ih a x hx) ((zj6 ih).1 hy)
   ·cases h
  ·unfold cB at h
   split at h
   ·rename_i x y hx hy
    cases h
    exact sw_or (ih a x hx) ((zj6 ih).2 hy)
   ·cases h
theorem cO_ok {f:Expr→Option E} {cl:Call} (ih:∀ e c,f e=some c→SE X e (ev cl c)∧zaz e=true) {o:Option Expr} {b:Bool} {c:E} (h:cO f o=some (b,c)):PO X o (lftO X.K b (ev cl c)):=by
 unfold cO at h
 split at h
 ·cases h; exact zs2
 ·rename_i e
  cases z:f e with
  | none=>rw [z] at h; cases h
  | some c'=>rw [z] at h; cases h; exact zs3 (ih _ _ z).1
theorem zth {x:Str} {t:Ty} (h:tyOf x=some t):bootBuiltins x=some (.type (tyN t)):=by
 unfold tyOf at h
 split at h
 ·rename_i e; cases h; rw [show x = "int" by simpa using e]; exact PyProof.Rows.boot_int
 split at h
 ·rename_i e; cases h; rw [show x = "bool" by simpa using e]; decide +kernel
 split at h
 ·rename_i e; cases h; rw [show x = "tuple" by simpa using e]; exact PyProof.Rows.boot_tuple
 split at h
 ·rename_i e; cases h; rw [show x = "list" by simpa using e]; exact PyProof.Rows.boot_list
 split at h
 ·rename_i e; cases h; rw [show x = "str" by simpa using e]; decide +kernel
 split at h
 ·rename_i e; cases h; rw [show x = "dict" by simpa using e]; decide +kernel
 ·cases h
theorem bi_ok {x:Str} {b:Bi} {e:Expr} {es:List Expr} {fa:FE} {p pos:Pos} (h:biOf x=some b) (hg:Gl X x) (hm:X.mg x=none) (hn:okN x=true) (hc:X.calm=true) (ha:SA X (e :: es) fa) (hs:(e :: es).all zaz=true):SE X (.Call (.Name x p) (e :: es) [] pos) (gArg fa (biW b)):=by
 obtain ⟨n1,_,n2⟩:=zfh hn
 unfold biOf at h
 split at h
 ·rename_i z
  cases h
  have z:x = "len" := by simpa using z
  subst z
  exact zcw (zg9.or zmp) zwk hg hm PySem.boot_len ha hs n2 n1
 split at h
 ·rename_i z
  cases h
  have z:x = "list" := by simpa using z
  subst z
  exact zen zha zs4 hg hm PyProof.Rows.boot_list ha hs n2 n1
 split at h
 ·rename_i z
  cases h
  have z:x = "tuple" := by simpa using z
  subst z
  exact zen (zf4.or (zmq hc)) zpr hg hm PyProof.Rows.boot_tuple ha hs n2 n1
 split at h
 ·rename_i z
  cases h
  have z:x = "int" := by simpa using z
  subst z
  exact zen zl0 zwl hg hm PyProof.Rows.boot_int ha hs n2 n1
 split at h
 ·rename_i z
  cases h
  have z:x = "abs" := by simpa using z
  subst z
  exact zcw zo2 zwm hg hm (by decide +kernel) ha hs n2 n1
 split at h
 ·rename_i z
  cases h
  have z:x = "max" := by simpa using z
  subst z
  exact zcw (zly hc) zwn hg hm (by decide +kernel) ha hs n2 n1
 split at h
 ·rename_i z
  cases h
  have z:x = "min" := by simpa using z
  subst z
  exact zcw (zlz hc) zwo hg hm (by decide +kernel) ha hs n2 n1
 split at h
 ·rename_i z
  cases h
  have z:x = "all" := by simpa using z
  subst z
  exact zcw (zpl hc) zwp hg hm (by decide +kernel) ha hs n2 n1
 ·cases h
theorem zk7 {b:Expr} (h:zeo b=true):ziq b:=fun o i=>by cases b <;> first | rfl | cases h
end
section
variable {X:Cx} {C:CC} {T:List Str} {F:Nat→Option Fn} {k:Nat}
theorem za2 {env:Env} {kd:NameKind} (hk:kd≠.free):∀ {l:List (Str × NameKind)} {x:Str},l.lookup x=some kd →
 (l.map fun (n,k)=>if (k == NameKind.free && env.scope.kind == .function && env.kindOf n == some .cell) then (n,NameKind.cell) else (n,k)).lookup x=some kd
 | [],_,h=>by cases h
 | (n,j) :: r,x,h=>by
  rw [vao]
  simp only [List.lookup_cons] at h
  by_cases hx:(x == n)=true
  ·simp only [hx] at h
   cases h
   have:(kd == NameKind.free)=false:=by simpa using hk
   simp only [this,Bool.false_and,vam,if_false,List.lookup_cons,hx]
  ·have hx':(x == n)=false:=by simpa using hx
   simp only [hx'] at h
   have ih:=za2 (env:=env) hk (l:=r) (x:=x) h
   by_cases hc':(j == NameKind.free && env.scope.kind == .function && env.kindOf n == some .cell)=true
   ·simp only [hc',if_true,List.lookup_cons,hx']; exact ih
   ·have hcf:(j == NameKind.free && env.scope.kind == .function && env.kindOf n == some .cell)=false:=by simpa using hc'
    simp only [hcf,vam,if_false,List.lookup_cons,hx']; exact ih
theorem zfj (O:XOk X C T F k) {sc:Scope} {ix:List Nat} (h:zeq C sc ix=true):CompScope X (ownOf sc) (za8 sc) ix sc∧(ownOf sc++za8 sc).Nodup:=by
 unfold zeq at h
 simp only [vac,decide_eq_true_eq,List.all_eq_true] at h
 obtain ⟨⟨⟨⟨⟨⟨⟨h1,h2⟩,h3⟩,h4⟩,h5⟩,h6⟩,h7⟩,h8⟩:=h
 refine ⟨⟨h1,h2,h3,h4,fun y hy e=>O.cf _ (h5 y hy e),fun q x e=>?_,h6⟩,h8⟩
 have hk:q < (za8 sc).length:=(List.getElem?_eq_some_iff.mp e).1
 have:=h7 q (List.mem_range.mpr hk)
 rw [e] at this
 cases z:ix[q]? with
 | none=>rw [z] at this; cases this
 | some j=>
  rw [z] at this
  simp only [vac,decide_eq_true_eq] at this
  exact ⟨j,rfl,by rw [O.hN]; exact this.1,this.2⟩
theorem zi5 (O:XOk X C T F k) {sc:Scope} {ix:List Nat} (h:zeq C sc ix=true) (D:Addr) (s₀:Shared) (H₀:Hp) (ex:List Addr):XOk (X.comp (ownOf sc++za8 sc) sc D s₀ H₀ ex) (inC sc) T F k:=by
 obtain ⟨S,nd⟩:=zfj O h
 refine ⟨rfl,nd,fun x hx=>?_,fun x hx=>?_,fun x hx=>?_,fun x hx=>?_,O.calm,O.room,rfl,S.kind,O.mgs,O.mgn,O.fns⟩
 ·have hx:visK (sc.names.lookup x)=true:=hx
  cases z:sc.names.lookup x with
  | none=>rw [z] at hx; cases hx
  | some kd=>
   cases kd with
   | «local»=>exact .inl (za2 (by decide) z)
   | cell=>exact .inr (.inl (za2 (by decide) z))
   | free=>
    have:=zbh (env:=X.env) O.kfn z
    by_cases hc:X.env.kindOf x=some .cell
    ·rw [if_pos hc] at this; exact .inr (.inl this)
    ·rw [if_neg hc] at this; exact .inr (.inr this)
   | globalExplicit=>rw [z] at hx; cases hx
   | globalImplicit=>rw [z] at hx; cases hx
 ·have hx:locK false (sc.names.lookup x)=true:=hx
  cases z:sc.names.lookup x with
  | none=>rw [z] at hx; cases hx
  | some kd=>
   cases kd with
   | «local»=>exact ⟨.inl (za2 (by decide) z),.inr (za2 (by decide) z)⟩
   | cell=>rw [z] at hx; cases hx
   | free=>rw [z] at hx; cases hx
   | globalExplicit=>rw [z] at hx; cases hx
   | globalImplicit=>rw [z] at hx; cases hx
 ·exact za2 (by decide) hx
 ·have hx:sc.names.lookup x=some .cell∨sc.names.lookup x=some .free:=hx
  rcases hx with z | z
  ·exact .inl (za2 (by decide) z)
  ·have:=zbh (env:=X.env) O.kfn z
   by_cases hc:X.env.kindOf x=some .cell
   ·rw [if_pos hc] at this; exact .inl this
   ·rw [if_neg hc] at this; exact .inr this
end
theorem map_some {α β:Type} {o:Option α} {f:α→β} {b:β} (h:o.map f=some b):∃ a,o=some a∧b=f a:=by
 cases o with
 | none=>cases h
 | some a=>cases h; exact ⟨a,rfl,rfl⟩
structure Snd (X:Cx) (C:CC) (T:List Str) (F:Nat→Option Fn) (k n:Nat):Prop where
 e:∀ e c,cE X.K T n C e=some c→SE X e (ev (run F k) c)∧zaz e=true
 t:∀ e c,cT X.K T n C e=some c→ST X e (ev (run F k) c)
 w:∀ e kd c tg,cW X.K T n C e=some (kd,c)→okW kd tg=true→PI X tg e (lftI X.K kd (ev (run F k) c))∧∀ x,foldedSetIterable e X.env x=pure x
section
variable {X:Cx} {C:CC} {T:List Str} {F:Nat→Option Fn} {k n:Nat}
theorem snd_t (O:XOk X C T F k) (ih:Snd X C T F k n) (e:Expr) (c:E) (h:cT X.K T (n + 1) C e=some c):ST X e (ev (run F k) c):=by
 unfold cT at h
 split at h
 ·split at h
  ·rename_i hs
   split at h
   ·rename_i h1 h2 h3
    cases h
    exact zv9 O.u65 h1 hs (ih.e _ _ h2).1 (ih.e _ _ h3).1
   ·cases h
  ·cases h
 ·split at h
  ·rename_i hs
   split at h
   ·rename_i h1 h2 h3 h4 h5
    cases h
    exact zwb O.u65 h1 h2 hs (ih.e _ _ h3).1 (ih.e _ _ h4).1 (ih.e _ _ h5).1
   ·cases h
  ·cases h
 ·obtain ⟨a,h1,rfl⟩:=map_some h
  exact zwc (ih.t _ _ h1)
 ·exact ((zj6 ih.t).1 h).pt
 ·exact ((zj6 ih.t).2 h).pt
 ·obtain ⟨a,h1,rfl⟩:=map_some h
  exact zmy (ih.e _ _ h1).1 fun _=>rfl
 ·obtain ⟨a,h1,rfl⟩:=map_some h
  exact zmy (ih.e _ _ h1).1 fun _=>rfl
 ·obtain ⟨a,h1,rfl⟩:=map_some h
  exact zmy (ih.e _ _ h1).1 fun _=>rfl
 ·cases h
theorem noSet {e:Expr} (h:∀ a b c,e≠.Set a b c) {env:Env}:∀ x,foldedSetIterable e env x=pure x:=by
 intro x
 cases e <;> first | rfl | exact absurd rfl (h _ _ _)
theorem snd_w (O:XOk X C T F k) (ih:Snd X C T F k n) (e:Expr) (kd:Kd) (c:E) (tg:Expr) (h:cW X.K T (n + 1) C e=some (kd,c)) (hw:okW kd tg=true):PI X tg e (lftI X.K kd (ev (run F k) c))∧∀ x,foldedSetIterable e X.env x=pure x:=by
 unfold cW at h
 split at h
 ·rename_i f p args pos
  refine ⟨?_,fun x=>rfl⟩
  split at h
  ·rename_i hf
   have hf:f = "range" := by simpa using hf
   subst hf
   split at h
   ·rename_i ha
    obtain ⟨g1,g2⟩:=zcz O ha
    split at h
    ·rename_i a
     obtain ⟨x,h1,h2⟩:=map_some h
     cases h2
     obtain ⟨h3,h4⟩:=ih.e _ _ h1
     exact zs9 (zdi h3 zjy (zak h4)) h4 g1 g2
    ·rename_i a b
     split at h
     ·rename_i x y h1 h2
      cases h
      obtain ⟨h3,h4⟩:=ih.e _ _ h1
      obtain ⟨h5,h6⟩:=ih.e _ _ h2
      exact zta (zdi h3 (zdi h5 zjy (zak h6)) (zak h4)) h4 h6 g1 g2
     ·cases h
    ·cases h
   ·cases h
  ·split at h
   ·rename_i hf
    have hf:f = "enumerate" := by simpa using hf
    subst hf
    split at h
    ·rename_i ha
     obtain ⟨g1,g2⟩:=zcz O ha
     split at h
     ·rename_i a
      obtain ⟨x,h1,h2⟩:=map_some h
      cases h2
      obtain ⟨h3,h4⟩:=ih.e _ _ h1
      cases tg <;> first | exact zwx h3 h4 g1 g2 | cases hw
     ·cases h
    ·cases h
   ·split at h
    ·rename_i hf
     have hf:f = "zip" := by simpa using hf
     subst hf
     split at h
     ·rename_i ha
      obtain ⟨g1,g2⟩:=zcz O ha
      split at h
      ·rename_i a b
       split at h
       ·rename_i x y h1 h2
        cases h
        obtain ⟨h3,h4⟩:=ih.e _ _ h1
        obtain ⟨h5,h6⟩:=ih.e _ _ h2
        cases tg <;> first | exact zw0 (zdi h3 (zdi h5 zjy (zak h6)) (zak h4)) h4 h6 g1 g2 | cases hw
       ·cases h
      ·cases h
     ·cases h
    ·obtain ⟨x,h1,h2⟩:=map_some h
     cases h2
     exact zq6 (ih.e _ _ h1).1
 ·cases h
 ·rename_i hns
  obtain ⟨x,h1,h2⟩:=map_some h
  cases h2
  exact ⟨zq6 (ih.e _ _ h1).1,noSet (by first | exact hns | (intro a b c z; exact hns a b c z))⟩
end
section
variable {X:Cx} {C:CC} {T:List Str} {F:Nat→Option Fn} {k n:Nat}
theorem zp3 (O:XOk X C T F k) {x:Str} {p:Pos} {c:E} (h:cE X.K T (n + 1) C (.Name x p)=some c):SE X (.Name x p) (ev (run F k) c):=by
 simp only [cE] at h
 split at h
 ·rename_i hn
  obtain ⟨n1,n2,n3⟩:=zfh hn
  split at h
  ·rename_i hv
   obtain ⟨i,h1,rfl⟩:=map_some h
   exact zv0 (by rw [O.hN]; exact zm8 h1) (O.vis x hv) n1 n2
  ·split at h
   ·rename_i hg
    split at h
    ·rename_i v hv
     obtain ⟨w,h1,rfl⟩:=map_some h
     obtain ⟨y,h2,h3⟩:=zrf 8 v w h1
     exact zhj (zry (O.gl x (by simpa using hg)) (O.mgs x v hv) h2 n1) h3
    ·cases h
   ·cases h
 ·cases h
theorem zp4 (O:XOk X C T F k) (ih:Snd X C T F k n) {f:Str} {p pos:Pos} {args:List Expr} {c:E} (h:cE X.K T (n + 1) C (.Call (.Name f p) args [] pos)=some c):SE X (.Call (.Name f p) args [] pos) (ev (run F k) c):=by
 simp only [cE] at h
 split at h
 ·rename_i hn
  rw [vac] at hn
  have hg:=O.gl f (by simpa using hn.2)
  split at h
  ·rename_i hm
   have hm:=O.mgn f hm
   split at h
   ·rename_i hf
    have hf:f = "isinstance" := by simpa using hf
    subst hf
    split at h
    ·rename_i a t pt
     split at h
     ·rename_i ty x h1 h2
      split at h
      ·rename_i hc
       cases h
       rw [vac] at hc
       obtain ⟨g1,g2⟩:=zcz O hc.2
       obtain ⟨h3,h4⟩:=ih.e _ _ h2
       obtain ⟨n1,n2,n3⟩:=zfh hc.1
       exact zwr ty h3 h4 hg hm g1 g2 (zth h1) n3 n1
      ·cases h
     ·cases h
    ·cases h
   ·split at h
    ·rename_i b e es hb
     obtain ⟨a,h1,rfl⟩:=map_some h
     obtain ⟨h2,h3⟩:=cL_ok ih.e h1
     exact bi_ok hb hg hm hn.1 O.calm h2 h3
    ·cases h
  ·rename_i v hv
   split at h
   ·rename_i i hi
    obtain ⟨fa,fd,ps,fn,q1,q2,q3,q4,q5,q6,q7⟩:=O.fns i f (zm8 hi) (zxg hn.1)
    split at h
    ·rename_i hlv
     rw [vac] at hlv
     obtain ⟨a,h1,rfl⟩:=map_some h
     obtain ⟨h2,h3⟩:=cL_ok ih.e h1
     have hl:∀ ws h w h',run F k i ws h=.ok w h'→ws.length=ps.length:=fun ws h w h' e=>by rw [zi4 q5 e,q6]
     have hev:ev (run F k) (.call i (padE a))=gArg (ev (run F k) a) (fun ws h=>run F k i (ws++[.non]) h):=by
      funext ρ h
      simp only [ev,zxh (zna h1)]
      show Res.bind (Res.bind (ev (run F k) a ρ h) _) _=Res.bind (ev (run F k) a ρ h) _
      cases ev (run F k) a ρ h with
      | no=>rfl
      | ex _ _=>rfl
      | ok y h2=>cases y <;> rfl
     rw [hev]
     cases args with
     | nil=>cases hlv.2
     | cons e es=>exact zpv q2 O.room hg (O.mgs f _ q1) q3 (q7 (zk6 hlv.1)) h2 h3 (zfh hn.1).1 hl
    obtain ⟨a,h1,rfl⟩:=map_some h
    obtain ⟨h2,h3⟩:=cL_ok ih.e h1
    have hl:∀ ws h w h',run F k i ws h=.ok w h'→ws.length=ps.length:=fun ws h w h' e=>by rw [zi4 q5 e,q6]
    cases args with
    | nil=>
     simp only [cL] at h1
     cases h1
     exact zpu q2 O.room hg (O.mgs f _ q1) q3 q4 (zfh hn.1).1 hl
    | cons e es=>exact zs8 q2 O.room hg (O.mgs f _ q1) q3 q4 h2 h3 (zfh hn.1).1 hl
   ·cases h
  ·cases h
 ·cases h
theorem zp5 (O:XOk X C T F k) (ih:Snd X C T F k n) {o:Expr} {m:Str} {ap pos:Pos} {args:List Expr} {c:E} (h:cE X.K T (n + 1) C (.Call (.Attribute o m ap) args [] pos)=some c):SE X (.Call (.Attribute o m ap) args [] pos) (ev (run F k) c):=by
 simp only [cE] at h
 split at h
 ·rename_i hn
  rw [vac] at hn
  split at h
  ·rename_i x a hx
   split at h
   ·rename_i hm
    have hm:m = "append" := by simpa using hm
    subst hm
    obtain ⟨y,h1,rfl⟩:=map_some h
    obtain ⟨h2,h3⟩:=ih.e _ _ h1
    exact zmz (ih.e _ _ hx).1 h2 hn.1 h3 hn.2
   ·cases h
  ·cases h
 ·cases h
theorem zxi {ow fr:List Str} {sc:Scope} {ifs:List Expr} {c:E} (O:∀ D s₀ H₀ ex,Snd (X.comp (ow++fr) sc D s₀ H₀ ex) (inC sc) T F k n)
 (h:(match ifs with | []=>some (E.cst (.bl true)) | [c]=>cT X.K T n (inC sc) c | _=>none)=some c) (D:Addr) (s₀:Shared) (H₀:Hp) (ex:List Addr):PTs (X.comp (ow++fr) sc D s₀ H₀ ex) ifs (lftT X.K (ev (run F k) c)):=by
 split at h
 ·cases h
  exact fun pins s σ H Q I hq0=>by
   obtain ⟨ρ,h,m,b,h',f,r,e,q⟩:=hq0
   cases e
   exact zsn pins s σ H Q I (q H m .refl r)
 ·exact zso ((O D s₀ H₀ ex).t _ _ h)
 ·cases h
theorem zri (O:XOk X C T F k) (ih:Snd X C T F k n) (ihc:∀ {sc:Scope} {ix:List Nat},zeq C sc ix=true→∀ D s₀ H₀ ex,Snd (X.comp (ownOf sc++za8 sc) sc D s₀ H₀ ex) (inC sc) T F k n)
 {elt tg iter:Expr} {ifs:List Expr} {sc:Scope} {pos:Pos} {c:E} (h:cE X.K T (n + 1) C (.ListComp elt [⟨tg,iter,ifs,0⟩] sc pos)=some c) :
 ∃ kd a t ix cc ce,c=.lc kd a t (ownOf sc).length ix cc ce∧CompScope X (ownOf sc) (za8 sc) ix sc∧PI X tg iter (lftI X.K kd (ev (run F k) a))∧(∀ D s₀ H₀ ex,PG (X.comp (ownOf sc++za8 sc) sc D s₀ H₀ ex) tg (lftG X.K t)) ∧
  (∀ D s₀ H₀ ex,PTs (X.comp (ownOf sc++za8 sc) sc D s₀ H₀ ex) ifs (lftT X.K (ev (run F k) cc)))∧(∀ D s₀ H₀ ex,PE (X.comp (ownOf sc++za8 sc) sc D s₀ H₀ ex) elt (lft X.K (ev (run F k) ce)))∧∀ x,foldedSetIterable iter X.env x=pure x:=by
 simp only [cE] at h
 split at h
 ·rename_i ix hix
  split at h
  ·rename_i hc
   split at h
   ·rename_i kd a t cc ce h1 h2 h3 h4
    split at h
    case isFalse=>cases h
    rename_i hw
    cases h
    obtain ⟨w1,w2⟩:=ih.w _ _ _ tg h1 hw
    exact ⟨kd,a,t,ix,cc,ce,rfl,(zfj O hc).1,w1,fun D s₀ H₀ ex=>tg_ok (zi5 O hc D s₀ H₀ ex) h2,zxi (ihc hc) h3,fun D s₀ H₀ ex=>((ihc hc D s₀ H₀ ex).e _ _ h4).1,w2⟩
   ·cases h
  ·cases h
 ·cases h
theorem snd_e (O:XOk X C T F k) (ih:Snd X C T F k n) (ihc:∀ {sc:Scope} {ix:List Nat},zeq C sc ix=true→∀ D s₀ H₀ ex,Snd (X.comp (ownOf sc++za8 sc) sc D s₀ H₀ ex) (inC sc) T F k n)
 (e:Expr) (c:E) (h:cE X.K T (n + 1) C e=some c):SE X e (ev (run F k) c)∧zaz e=true:=by
 have h0:=h
 unfold cE at h
 split at h
 ·exact ⟨zp3 O h0,rfl⟩
 ·refine ⟨?_,rfl⟩
  split at h
  ·cases h; exact zv1
  ·cases h; exact se_bl
  ·cases h; exact zv2
  ·cases h; exact zv3
  ·cases h
 ·obtain ⟨a,h1,rfl⟩:=map_some h
  exact ⟨zv4 (cL_ok ih.e h1).1,rfl⟩
 ·obtain ⟨a,h1,rfl⟩:=map_some h
  exact ⟨zv5 (cL_ok ih.e h1).1,rfl⟩
 ·refine ⟨?_,rfl⟩
  rename_i ks vs pos
  split at h
  ·rename_i hc
   simp only [vac] at hc
   obtain ⟨a,h1,rfl⟩:=map_some h
   cases ks with
   | nil=>
    cases vs with
    | nil=>simp only [cPs] at h1; cases h1; exact zs7
    | cons _ _=>cases h1
   | cons q ks=>exact zwt O.u2 (zrh ih.e h1) hc.2 (Nat.eq_of_beq_eq_true hc.1.2) (by simp) (Nat.le_of_ble_eq_true hc.1.1)
  ·cases h
 ·refine ⟨?_,rfl⟩
  split at h
  ·rename_i h1 h2 h3
   cases h
   exact se_op (op_ok h1) (zv6 _) (ih.e _ _ h2).1 (ih.e _ _ h3).1
  ·cases h
 ·obtain ⟨a,h1,rfl⟩:=map_some h
  exact ⟨zwd (ih.e _ _ h1).1,rfl⟩
 ·obtain ⟨a,h1,rfl⟩:=map_some h
  exact ⟨zwh (ih.e _ _ h1).1,rfl⟩
 ·exact ⟨(cB_ok ih.e).1 h,rfl⟩
 ·exact ⟨(cB_ok ih.e).2 h,rfl⟩
 ·refine ⟨?_,rfl⟩
  split at h
  ·rename_i hs
   split at h
   ·rename_i h1 h2 h3
    cases h
    exact zv8 O.u65 h1 hs (ih.e _ _ h2).1 (ih.e _ _ h3).1
   ·cases h
  ·cases h
 ·refine ⟨?_,rfl⟩
  split at h
  ·rename_i hs
   split at h
   ·rename_i h1 h2 h3 h4 h5
    cases h
    exact zwa O.u65 h1 h2 hs (ih.e _ _ h3).1 (ih.e _ _ h4).1 (ih.e _ _ h5).1
   ·cases h
  ·cases h
 ·refine ⟨?_,rfl⟩
  split at h
  ·rename_i h1 h2 h3
   cases h
   exact zwg (ih.t _ _ h1) (ih.e _ _ h2).1 (ih.e _ _ h3).1
  ·cases h
 ·refine ⟨?_,rfl⟩
  split at h
  ·rename_i h1 h2 h3
   cases h
   exact zwj (ih.e _ _ h1).1 (cO_ok ih.e h2) (cO_ok ih.e h3)
  ·cases h
 ·refine ⟨?_,rfl⟩
  split at h
  ·rename_i hs
   split at h
   ·rename_i h1 h2
    cases h
    exact zwi O.u2 (ih.e _ _ h1).1 (ih.e _ _ h2).1 (zk7 hs)
   ·cases h
  ·cases h
 ·exact ⟨zp4 O ih h0,rfl⟩
 ·exact ⟨zp5 O ih h0,rfl⟩
 ·refine ⟨?_,rfl⟩
  obtain ⟨kd,a,t,ix,cc,ce,rfl,S,w1,w2,w3,w4,w5⟩:=zri O ih ihc h0
  exact se_lc S O.calm w1 w2 w3 w4 w5
 ·cases h
end
theorem zfk {T:List Str} {F:Nat→Option Fn} {k:Nat}:∀ (n:Nat) {X:Cx} {C:CC},XOk X C T F k→Snd X C T F k n
 | 0,_,_,_=>⟨(fun e c h=>nomatch h),(fun e c h=>nomatch h),(fun e kd c tg h _=>nomatch h)⟩
 | n + 1,X,C,O=>by
  have ih:=zfk n O
  have ihc:∀ {sc:Scope} {ix:List Nat},zeq C sc ix=true→∀ D s₀ H₀ ex,Snd (X.comp (ownOf sc++za8 sc) sc D s₀ H₀ ex) (inC sc) T F k n:=fun hc D s₀ H₀ ex=>zfk n (zi5 O hc D s₀ H₀ ex)
  exact ⟨snd_e O ih ihc,snd_t O ih,snd_w O ih⟩
section
variable {X:Cx} {C:CC} {T:List Str} {F:Nat→Option Fn} {k d:Nat}
theorem zch {f:Stmt→Option S} {cl:Call} (ih:∀ st c,f st=some c→SS X st (exs cl c)):∀ {sts:List Stmt} {c:S},cSs f sts=some c→SSs X sts (exs cl c)
 | [],_,h=>by cases h; exact ztc
 | s :: r,c,h=>by
  unfold cSs at h
  split at h
  ·rename_i a b ha hb
   cases h
   exact zpz (ih s a ha) (zch ih hb)
  ·cases h
theorem zti (O:XOk X C T F k) {x:Str} {p pos:Pos} {e:Expr} {i:Nat} {c:E} (hi:nmIx C (.Name x p)=some i) (h:cE X.K T d C e=some c):SS X (.Assign [.Name x p] e pos) (exs (run F k) (.set i c)):=by
 obtain ⟨x',p',ex,h1,h2,h3⟩:=nm_ok O hi
 cases ex
 have nd:X.N.Nodup:=O.hN ▸ O.nd
 have Sd:=zfk (T:=T) (F:=F) (k:=k) d O
 by_cases hc:zj2 e=true
 ·exact zrb nd h1 h2 h3 (Sd.e _ _ h).1 (zj3 hc)
 ·cases d with
  | zero=>cases h
  | succ n=>
   cases e with
   | ListComp elt gs sc lp=>
    have sw:∃ b:Bool,swapsWith (.ListComp elt gs sc lp) (some (.Name x p)) pos.line X.env=pure b:=⟨_,rfl⟩
    obtain ⟨b,hb⟩:=sw
    cases b with
    | false=>exact zrb nd h1 h2 h3 (Sd.e _ _ h).1 hb
    | true=>
     have h0:=h
     unfold cE at h
     split at h <;> first
      | (rename_i z; cases z; done)
      | skip
     all_goals first
      | (rename_i elt' tg iter ifs sc' lp' z
         cases z
         obtain ⟨kd,a,t,ix,cc,ce,rfl,S,w1,w2,w3,w4,w5⟩:=zri O (zfk n O) (fun hc D s₀ H₀ ex=>zfk n (zi5 O hc D s₀ H₀ ex)) h0
         exact zp0 nd h1 h2 h3 S O.calm w1 w2 w3 w4 hb w5)
      | cases h
   | SetComp _ _ _ _=>unfold cE at h; cases h
   | DictComp _ _ _ _ _=>unfold cE at h; cases h
   | _=>exact absurd rfl hc
theorem snd_s (O:XOk X C T F k):∀ (n:Nat) (st:Stmt) (c:S),cS X.K T d n C st=some c→SS X st (exs (run F k) c)
 | 0,_,_,h=>by cases h
 | n + 1,st,c,h=>by
  have nd:X.N.Nodup:=O.hN ▸ O.nd
  have Sd:=zfk (T:=T) (F:=F) (k:=k) d O
  have ih:=snd_s O n
  have hp:PassesOwn (model X.prog X.w) X.A X.env X.xe:=by rw [O.xe]; exact PassesOwn.never
  unfold cS at h
  split at h
  ·cases h; exact ztd
  ·cases h; exact zw4
  ·cases h; exact zw5
  ·cases h; exact ss_no
  ·cases h; exact ztf
  ·obtain ⟨a,h1,rfl⟩:=map_some h
   exact zw6 (Sd.e _ _ h1).1
  ·split at h
   ·rename_i hc
    obtain ⟨a,h1,rfl⟩:=map_some h
    exact zte (Sd.e _ _ h1).1 hc
   ·cases h
  ·split at h
   ·rename_i i a h1 h2
    cases h
    exact zti O h1 h2
   ·cases h
  ·split at h
   ·rename_i ht
    split at h
    ·rename_i h1 h2
     cases h
     exact zw7 O.calm nd (znb O h1) (Sd.e _ _ h2).1 ht
    ·cases h
   ·cases h
  ·split at h
   ·rename_i hs
    split at h
    ·rename_i h1 h2 h3
     cases h
     exact zw8 O.u2 (Sd.e _ _ h1).1 (Sd.e _ _ h2).1 (Sd.e _ _ h3).1 hs
    ·cases h
   ·cases h
  ·split at h
   ·rename_i h1 h2 h3
    cases h
    obtain ⟨x',p',ex,a1,a2,a3⟩:=nm_ok O h1
    cases ex
    exact zxb h2 nd a1 a2 a3 (Sd.e _ _ h3).1
   ·cases h
  ·split at h
   ·rename_i h1 h2 h3
    cases h
    exact zxc (Sd.t _ _ h1) (zch ih h2) (zch ih h3)
   ·cases h
  ·rename_i tg it b pos
   split at h
   ·rename_i h1 h2 h3
    split at h
    case isFalse=>cases h
    rename_i hw
    cases h
    obtain ⟨w1,w2⟩:=Sd.w _ _ _ tg h1 hw
    exact zxe hp O.calm w1 (tg_ok O h2) (zch ih h3) w2
   ·cases h
  ·split at h
   ·rename_i h1 h2
    cases h
    exact zxf hp (Sd.t _ _ h1) (zch ih h2)
   ·cases h
  ·cases h
end
noncomputable def ztj:FuncBody→Option (List Stmt)
 | .stmts b=>some b
 | _=>none
theorem zk8 {d:Data} (h:zgh d=true):∃ n,d=.seq #[.none] n:=by
 cases d with
 | seq xs n=>
  obtain ⟨l⟩:=xs
  unfold zgh at h
  simp only [] at h
  split at h
  ·rename_i v
   cases v <;> first | exact ⟨n,rfl⟩ | cases h
  ·cases h
 | _=>cases h
theorem zp6 {K:PySem.W.Frag} {v:Value} (h:noneD K v=true):∃ t o n,v=.ref t∧K.lookup t=some o∧o.data=.seq #[.none] n:=by
 cases v with
 | ref t=>
  have h:(match K.lookup t with | some o=>zgh o.data | none=>false)=true:=h
  cases e:K.lookup t with
  | none=>rw [e] at h; cases h
  | some o=>
   rw [e] at h
   obtain ⟨n,q⟩:=zk8 h
   exact ⟨t,o,n,rfl,e,q⟩
 | _=>cases h
noncomputable def zgi (ps:List Str) (sc:Scope):List Str:=ps++(sc.names.filter fun y=>(y.2 == .local || y.2 == .cell) && !(ps.contains y.1)).map (·.1)
noncomputable def zi6 (N ps:List Str) (sc:Scope):Bool:=
 decide (sc.kind=.function) && !sc.isCoroutine && !sc.isGenerator && decide N.Nodup && decide (N.take ps.length=ps) && ps.all (fun x=>decide (sc.names.lookup x=some .local∨sc.names.lookup x=some .cell)) && sc.names.all (fun y=>decide (y.2≠.free)) && decide ps.Nodup
theorem zk9 {N ps:List Str} {sc:Scope} (h:zi6 N ps sc=true):FnScope N ps sc∧ps.Nodup:=by
 unfold zi6 at h
 simp only [vac,decide_eq_true_eq,List.all_eq_true,Bool.not_eq_true'] at h
 obtain ⟨⟨⟨⟨⟨⟨⟨h1,h2⟩,h3⟩,h4⟩,h5⟩,h6⟩,h7⟩,h8⟩:=h
 exact ⟨⟨h1,h2,h3,h4,h5,h6,h7⟩,h8⟩
noncomputable def cF (K:PySem.W.Frag) (T:List Str) (d n:Nat) (x:Str):Option Fn:=match fnAt K x with
 | some (f,o,fd)=>(match zcy fd.params,ztj fd.body with
  | some args,some body=>if fd.name == x && fd.qualname == x && Nat.beq fd.globals mainGlobals && fd.closure.isEmpty && (isNone fd.defaults || noneD K fd.defaults && !args.isEmpty) && Nat.beq fd.builtins builtinsNs && PySem.W.codeIn K fd.code x && PySem.W.keepIn K (.ref f) &&
   zi6 (zgi (args.map (·.arg)) fd.scope) (args.map (·.arg)) fd.scope then
   (cSs (cS K T d n ⟨zgi (args.map (·.arg)) fd.scope,fd.scope.names,true⟩) body).map fun b=>⟨(args.map (·.arg)).length,(zgi (args.map (·.arg)) fd.scope).length,b⟩
   else none
  | _,_=>none)
 | none=>none
theorem cF_ok {K:PySem.W.Frag} {T:List Str} {d n:Nat} {x:Str} {fn:Fn} (h:cF K T d n x=some fn):∃ f fd st ps N,PySem.W.nsIn K mainGlobals x=some (some (.ref f))∧FunD K x x st f fd∧FnScope N ps (zat st)∧fn.n=N.length∧fn.ps=ps.length∧(Binds K fd ps []∧(hasD K x=true→Binds K fd ps [.none])∧(hasD K x=false→∀ us:List Value,us.length=ps.length→bindArgs fd ⟨us,[]⟩=pure (ps.zip us))) ∧
 cSs (cS K T d n ⟨N,(zat st).names,true⟩) (zf6 st)=some fn.body∧∃ o' fd' args,fnAt K x=some (f,o',fd')∧zcy fd'.params=some args∧ps=args.map (·.arg):=by
 unfold cF at h
 split at h
 ·rename_i f o fd hf
  split at h
  ·rename_i args body ha hb
   split at h
   ·rename_i hc
    simp only [vac] at hc
    obtain ⟨⟨⟨⟨⟨⟨⟨⟨c1,c2⟩,c3⟩,c4⟩,c5⟩,c6⟩,c7⟩,c8⟩,c9⟩:=hc
    obtain ⟨b,h1,rfl⟩:=map_some h
    obtain ⟨S,nd⟩:=zk9 c9
    have hf0:=hf
    have ha0:=ha
    unfold fnAt at hf
    split at hf
    ·rename_i f' hn
     split at hf
     ·rename_i o' ho
      split at hf
      ·rename_i fd' hd
       cases hf
       obtain ⟨nm,qn,pr,bd,sc,gl,cl,df,kd,dc,pm,an,cdv,ct,bu⟩:=fd
       obtain ⟨oc,od,da,os⟩:=o
       have e1:nm=x:=by simpa using c1
       have e2:qn=x:=by simpa using c2
       have e3:gl=mainGlobals:=Nat.eq_of_beq_eq_true c3
       have e4:cl=[]:=by simpa using c4
       have e6:bu=builtinsNs:=Nat.eq_of_beq_eq_true c6
       have e7:bd=.stmts body:=by
        cases bd with
        | stmts b'=>cases hb; rfl
        | expr _=>cases hb
       obtain ⟨dx,e8⟩:∃ dx,pr=⟨[],args,none,[],[],none,dx⟩:=by
        unfold zcy at ha
        split at ha
        ·cases ha; rename_i z; exact ⟨_,z⟩
        ·cases ha
       have e9:da=.func _:=hd
       subst e1 e2 e3 e4 e6 e7 e8 e9
       let st:Stmt:=.FunctionDef qn ⟨[],args,none,[],[],none,dx⟩ body [] none [] sc none qn ⟨0,0,0,0⟩
       have Fu:FunD K qn qn st f _:=⟨⟨_,_,df,kd,dc,pm,an,cdv,ct,_,rfl,ho,c7⟩,c8⟩
       refine ⟨f,_,st,args.map (·.arg),zgi (args.map (·.arg)) sc,hn,Fu,S,rfl,rfl,?_,h1,_,_,args,hf0,ha0,rfl⟩
       have hh:hasD K qn=noneD K df:=by unfold hasD; rw [hf0]
       rw [hh]
       rw [Bool.or_eq_true,vac] at c5
       rcases c5 with c5 | ⟨c5,c0⟩
       ·have e5:df=.none:=by cases df <;> first | rfl | cases c5
        subst e5
        exact ⟨.all fun us hl=>zfg hl nd,(fun z=>nomatch z),fun _ us hl=>zfg hl nd⟩
       ·obtain ⟨t,o,n,rfl,hk,hd⟩:=zp6 c5
        rw [c5]
        obtain ⟨qs,z,hqz⟩:∃ qs z,args.map (·.arg)=qs++[z]:=by
         rcases List.eq_nil_or_concat (args.map (·.arg)) with q | ⟨l,b,q⟩
         ·rw [List.map_eq_nil_iff.mp q] at c0; cases c0
         ·exact ⟨l,b,by rw [q,List.concat_eq_append]⟩
        have nd':=nd
        rw [hqz] at nd'
        refine ⟨fun s us hK hl=>?_,fun _ s us hK hl=>?_,fun z=>nomatch z⟩
        ·rw [List.append_nil] at hl ⊢
         rw [hqz] at hl ⊢
         exact zk4 hqz nd' (hK _ _ hk) hd hl
        ·rw [hqz] at hl ⊢
         exact zk5 hqz nd' (hK _ _ hk) hd (by rw [vag,vag] at hl; simpa using hl)
      ·cases hf
     ·cases hf
    ·cases hf
   ·cases h
  ·cases h
 ·cases h
theorem zd5 {α β:Type} {f:α→Option β}:∀ {l:List α} {r:List β},mapO f l=some r→∀ (i:Nat) (a:α),l[i]?=some a→∃ b,r[i]?=some b∧f a=some b
 | [],_,_,i,a,e=>by simp at e
 | x :: l,r,h,i,a,e=>by
  unfold mapO at h
  split at h
  ·rename_i b hb
   split at h
   ·rename_i bs hbs
    cases h
    cases i with
    | zero=>simp at e; subst e; exact ⟨b,rfl,hb⟩
    | succ i=>
     obtain ⟨c,h1,h2⟩:=zd5 hbs i a (by simpa using e)
     exact ⟨c,by simpa using h1,h2⟩
   ·cases h
  ·cases h
noncomputable def cF0 (K:PySem.W.Frag) (T:List Str) (d n:Nat) (x:Str):Option Fn:=if x == ("" : Str) then some ⟨0,0,.no⟩ else cF K T d n x
theorem znc {K:PySem.W.Frag} {T:List Str} {d n:Nat} {x:Str} {fn:Fn} (h:cF0 K T d n x=some fn) (hx:x ≠ ""):cF K T d n x=some fn:=by
 unfold cF0 at h
 rw [if_neg (by simpa using hx)] at h
 exact h
noncomputable def cProg (K:PySem.W.Frag) (T:List Str) (d n:Nat):Option (List Fn):=mapO (cF0 K T d n) T
theorem znd {P:Program} {w:World} {K:PySem.W.Frag} {mg:Str→Option Value} {base:Heap} {T:List Str} {Fs:List Fn} {k:Nat} (KX:K.In base) (G:base.Ns mainGlobals mg) {x:Str} {st:Stmt} {f:Addr} {N ps:List Str} (S:FnScope N ps (zat st))
 (H0:∀ (i:Nat) (x:Str),T[i]?=some x→x ≠ "" → ∃ f fd ps fn,PySem.W.nsIn K mainGlobals x=some (some (.ref f))∧FnOk P w K mg base CX0 k f fd ps (spV K ps.length (run (fun i=>Fs[i]?) k i))∧PySem.W.keepIn K (.ref f)=true∧Binds K fd ps []∧Fs[i]?=some fn∧fn.ps=ps.length∧(hasD K x=true→Binds K fd ps [.none]))
 (cdv:Value) (A:Around) (outer:List Env) (s:Shared) (H:Hp) (E:XK) (hr:Room k (A.deeper (envOfC x (zat st) s.heap.objs.size f cdv))):XOk (cxOf CX0 P w K mg base N x (zat st) f cdv A outer s H E).nox ⟨N,(zat st).names,true⟩ T (fun i=>Fs[i]?) k:=by
 refine ⟨rfl,S.nd,fun y hy=>?_,fun y hy=>?_,fun y hy=>hy,fun y hy=>hy,rfl,hr,rfl,S.kind,fun y v hv=>PySem.W.mg_of KX G hv,fun y hv=>PySem.W.mg_none_of KX G hv,H0⟩
 ·have hy:visK ((zat st).names.lookup y)=true:=hy
  cases z:(zat st).names.lookup y with
  | none=>rw [z] at hy; cases hy
  | some kd=>cases kd <;> first | exact .inl z | exact .inr (.inl z) | exact .inr (.inr z) | (rw [z] at hy; cases hy)
 ·have hy:locK true ((zat st).names.lookup y)=true:=hy
  cases z:(zat st).names.lookup y with
  | none=>rw [z] at hy; cases hy
  | some kd=>cases kd <;> first | exact ⟨.inl z,.inl rfl⟩ | exact ⟨.inr z,.inl rfl⟩ | (rw [z] at hy; cases hy)
theorem zne {P:Program} {w:World} {K:PySem.W.Frag} {mg:Str→Option Value} {base:Heap} {T:List Str} {d n:Nat} {Fs:List Fn} (hP:cProg K T d n=some Fs) (KX:K.In base) (G:base.Ns mainGlobals mg):∀ (k i:Nat) (x:Str),T[i]?=some x→x ≠ "" →
 ∃ f fd ps fn,PySem.W.nsIn K mainGlobals x=some (some (.ref f))∧FnOk P w K mg base CX0 k f fd ps (spV K ps.length (run (fun i=>Fs[i]?) k i))∧PySem.W.keepIn K (.ref f)=true∧Binds K fd ps []∧Fs[i]?=some fn∧fn.ps=ps.length∧(hasD K x=true→Binds K fd ps [.none])
 | 0,i,x,e,hx=>by
  obtain ⟨fn,h1,h2⟩:=zd5 hP i x e
  obtain ⟨f,fd,st,ps,N,a1,a2,a3,a4,a5,a6,a7,_⟩:=cF_ok (znc h2 hx)
  exact ⟨f,fd,ps,fn,a1,zm7,a2.kp,a6.1,h1,a5,a6.2.1⟩
 | k + 1,i,x,e,hx=>by
  obtain ⟨fn,h1,h2⟩:=zd5 hP i x e
  obtain ⟨f,fd,st,ps,N,a1,a2,a3,a4,a5,a6,a7,_⟩:=cF_ok (znc h2 hx)
  exact ⟨f,fd,ps,fn,a1,zre (F:=fun i=>Fs[i]?) h1 a2 a3 a4 a5 fun cdv A outer s H E hr=>zch (snd_s (znd KX G a3 (fun j y hj hy=>zne hP KX G k j y hj hy) cdv A outer s H E hr) n) a7,a2.kp,a6.1,h1,a5,a6.2.1⟩
noncomputable def zb4:Res W→Bool
 | .ok (.bl true) _=>true
 | _=>false
noncomputable def says (K:PySem.W.Frag) (T:List Str) (d n k i:Nat) (ns:List Int):Bool:=match cProg K T d n with
 | some Fs=>zb4 (run (fun i=>Fs[i]?) k i [.fz (ns.map .int)] ⟨0,0,[]⟩)
 | none=>false
theorem zi7 {r:Res W} (h:zb4 r=true):∃ h',r=.ok (.bl true) h':=by
 cases r with
 | no=>cases h
 | ex _ _=>cases h
 | ok w h'=>cases w <;> first | (rename_i b; cases b <;> first | exact ⟨h',rfl⟩ | cases h) | cases h
theorem zfl {K:PySem.W.Frag} {m:Nat→Addr} {n:Nat} {H:Hp}:∀ (ns:List Int),VReps K m n H (ns.map V.int) (ns.map W.int)
 | []=>.nil
 | i :: r=>.cons (.int i) (zfl r)
theorem znf {K:PySem.W.Frag} {T:List Str} {d n k i:Nat} {ns:List Int} (h:says K T d n k i ns=true):∃ Fs h',cProg K T d n=some Fs∧run (fun i=>Fs[i]?) k i [.fz (ns.map .int)] ⟨0,0,[]⟩=.ok (.bl true) h':=by
 unfold says at h
 split at h
 ·rename_i Fs hF
  obtain ⟨h',e⟩:=zi7 h
  exact ⟨Fs,h',hF,e⟩
 ·cases h
theorem ztk {K:PySem.W.Frag} {T:List Str} {d n k i:Nat} {ns:List Int} {Fs:List Fn} (hP:cProg K T d n=some Fs) (h:zb4 (run (fun i=>Fs[i]?) k i [.fz (ns.map .int)] ⟨0,0,[]⟩)=true):says K T d n k i ns=true:=by
 unfold says
 rw [hP]
 exact h
noncomputable def lawOk (K:PySem.W.Frag) (x:Str):Bool:=match fnAt K x with
 | some (_,_,fd)=>(match zcy fd.params with
  | some [a]=>a.arg == ("_law_script" : Str) && !(noneD K fd.defaults)
  | _=>false)
 | none=>false
theorem zp7 {l:PySem.W.OpenLaw} {q:Program} {loose:List Str} {XP:(Str→Option Value)→Heap→Prop} {YP:World→Heap→Prop} {dr:DefRec} {K:Params→PySem.W.Frag} (T:List Str) (d n k i:Nat) (hn:l.most=some 63) (hdf:dr.params.defaults=[]) (hr:Room k callerA)
 (hY:∀ (w:World) (h:Heap),YP w h→(K w.params).In h) (hT:T[i]?=some dr.name) (hne:dr.name ≠ "") (hS:∀ (w:World) (ns:List Int),ns.length≤63→says (K w.params) T d n k i ns=true) (hL:∀ w:World,lawOk (K w.params) dr.name=true) :
 PySem.W.WalkO q loose XP YP l.row.toRowW dr [] (fun f vs=>PySem.call f vs):=by
 have any:∀ w:World,∃ Fs,cProg (K w.params) T d n=some Fs:=fun w=>let ⟨Fs,_,h,_⟩:=znf (hS w [] (Nat.zero_le _)); ⟨Fs,h⟩
 refine L2.zsk (n:=63) (k:=k) (x := "_law_script") (CX:=fun _=>CX0) (sp:=fun w=>spV (K w.params) 1 (run (fun j=>(Classical.choose (any w))[j]?) k i)) hn (by decide) hdf hr hY ?_ ?_ fun _ _ _ _ _ z=>z
 ·intro w mg fa h KX G hmg
  have hP:=Classical.choose_spec (any w)
  obtain ⟨fn',h1,h2⟩:=zd5 hP i _ hT
  obtain ⟨f',fd',st,ps',N,a1,a2,a3,a4,a5,a6,a7,o',fd'',args,a8,a9,a10⟩:=cF_ok (znc h2 hne)
  have hps:ps'=[("_law_script" : Str)]:=by
   have hl:=hL w
   unfold lawOk at hl
   rw [a8] at hl
   simp only [a9] at hl
   cases args with
   | nil=>cases hl
   | cons z zs=>
    cases zs with
    | nil=>
     rw [vac] at hl
     have hl:z.arg = "_law_script" := by simpa using hl.1
     rw [a10,vao,hl]; rfl
    | cons _ _=>cases hl
  have hnd:hasD (K w.params) dr.name=false:=by
   have hl:=hL w
   unfold lawOk at hl
   rw [a8] at hl
   unfold hasD
   rw [a8]
   simp only [a9] at hl
   split at hl
   ·rw [vac] at hl
    simpa using hl.2
   ·cases hl
  have e:=PySem.W.mg_of KX G a1
  rw [hmg] at e
  cases e
  subst hps
  refine ⟨fd',fun s u=>.of_eq (a6.2.2 hnd [u] rfl),fun base KB GB=>?_⟩
  cases k with
  | zero=>exact zm7
  | succ k=>exact zre (F:=fun j=>(Classical.choose (any w))[j]?) h1 a2 a3 a4 a5 fun cdv A outer s H E hr=>zch (snd_s (znd KB GB a3 (fun j y hj hy=>zne hP KB GB k j y hj hy) cdv A outer s H E hr) n) a7
 ·intro w H a ns hl hO hQ
  obtain ⟨Fs,h',e1,e2⟩:=znf (hS w ns hl)
  have hP:=Classical.choose_spec (any w)
  rw [hP] at e1
  cases e1
  refine ⟨rfl,⟨0,0,[]⟩,fun _=>0,_,_,h',⟨fun i hi=>absurd hi (Nat.not_lt_zero _),fun i j hi=>absurd hi (Nat.not_lt_zero _),rfl⟩,.cons (.fz ?_ (zfl ns)) .nil,e2,fun v H' m' _ _ q=>by cases q; rfl⟩
  rcases hQ with (q | ⟨o,q⟩) | q
  ·rcases hO a with z | ⟨o,xs,z⟩
   ·rw [z] at q; cases q
   ·rw [z] at q; cases q
  ·exact .inl ⟨o,q⟩
  ·exact .inr q
noncomputable def fn0:Fn:=⟨1,1,(.seq (.ret (.and (.isi .int (.var 0)) (.not (.isi .bool (.var 0))))) .skip)⟩
noncomputable def fn1:Fn:=⟨3,3,(.seq (.ret (.and (.call 0 (.cons (.var 0) .nil)) (.chn .le .le (.var 1) (.var 0) (.var 2)))) .skip)⟩
noncomputable def fn2:Fn:=⟨2,2,(.seq (.ite (.cmp .eq (.bi .len (.cons (.var 0) .nil)) (.cst (.int (0)))) (.seq (.ret (.op .add (.op .mul (.cst (.int (7))) (.var 1)) (.cst (.int (3))))) .skip) .skip) (.seq (.ret (.bi .abs (.cons (.idx (.var 0) (.op .mod (.var 1) (.bi .len (.cons (.var 0) .nil)))) .nil))) .skip))⟩
noncomputable def zdw:E:=(.cmp .ge (.bi .abs (.cons (.var 0) .nil)) (.op .pow (.cst (.int (10))) (.cst (.int (18)))))
noncomputable def zdx:E:=(.bi .abs (.cons (.var 0) .nil))
noncomputable def fn3:Fn:=⟨1,1,(.seq (.ret (.lst (.cons (.var 0) (.cons (.lc .seq (.var 0) (.one 0) 1 [] zdw zdx) (.cons (.cst (.int (0))) (.cons (.cst (.int (0))) .nil)))))) .skip)⟩
noncomputable def fn4:Fn:=⟨3,4,(.seq (.set 3 (.op .mod (.op .pow (.op .add (.op .mul (.op .add (.op .mod (.call 2 (.cons (.var 0) (.cons (.var 1) .nil))) (.cst (.int (1000003)))) (.cst (.int (5)))) (.op .add (.var 1) (.cst (.int (2))))) (.op .mul (.cst (.int (7919))) (.var 1))) (.cst (.int (5)))) (.cst (.int (2147483647))))) (.seq (.ret (.op .mod (.op .fdiv (.var 3) (.cst (.int (13)))) (.var 2))) .skip))⟩
noncomputable def zhp:E:=(.cmp .lt (.idx (.var 0) (.cst (.int (2)))) (.bi .len (.cons (.idx (.var 0) (.cst (.int (1)))) .nil)))
noncomputable def zer:S:=(.seq (.set 2 (.idx (.idx (.var 0) (.cst (.int (1)))) (.idx (.var 0) (.cst (.int (2)))))) (.seq (.ite (.cmp .gt (.var 2) (.cst (.int (0)))) (.seq (.put (.idx (.var 0) (.cst (.int (1)))) (.idx (.var 0) (.cst (.int (2)))) (.op .fdiv (.var 2) (.var 1))) (.seq (.ret (.op .mod (.var 2) (.var 1))) .skip)) .skip) (.seq (.put (.var 0) (.cst (.int (2))) (.op .add (.idx (.var 0) (.cst (.int (2)))) (.cst (.int (1))))) .skip)))
noncomputable def fn5:Fn:=⟨2,3,(.seq (.whl zhp zer) (.seq (.put (.var 0) (.cst (.int (3))) (.op .add (.idx (.var 0) (.cst (.int (3)))) (.cst (.int (1))))) (.seq (.ret (.call 4 (.cons (.idx (.var 0) (.cst (.int (0)))) (.cons (.idx (.var 0) (.cst (.int (3)))) (.cons (.var 1) .nil))))) .skip)))⟩
noncomputable def fn6:Fn:=⟨3,3,(.seq (.ret (.and (.isi .tuple (.var 0)) (.chn .le .le (.var 1) (.bi .len (.cons (.var 0) .nil)) (.var 2)))) .skip)⟩
noncomputable def zj7:S:=(.seq (.ite (.not (.tru (.call 1 (.cons (.var 5) (.cons (.var 3) (.cons (.var 4) .nil)))))) (.seq (.ret (.cst (.bl false))) .skip) .skip) .skip)
noncomputable def fn7:Fn:=⟨5,6,(.seq (.ite (.not (.tru (.call 6 (.cons (.var 0) (.cons (.var 1) (.cons (.var 2) .nil)))))) (.seq (.ret (.cst (.bl false))) .skip) .skip) (.seq (.«for» .seq (.var 0) (.one 5) zj7) (.seq (.ret (.cst (.bl true))) .skip)))⟩
noncomputable def zj8:S:=(.seq (.ite (.not (.tru (.call 11 (.cons (.var 3) (.cons (.var 2) .nil))))) (.seq (.ret (.cst (.bl false))) .skip) .skip) .skip)
noncomputable def fn8:Fn:=⟨3,4,(.seq (.ite (.not (.tru (.call 6 (.cons (.var 0) (.cons (.var 1) (.cons (.var 1) .nil)))))) (.seq (.ret (.cst (.bl false))) .skip) .skip) (.seq (.«for» .seq (.var 0) (.one 3) zj8) (.seq (.ret (.cst (.bl true))) .skip)))⟩
noncomputable def zj9:S:=(.seq (.ite (.not (.tru (.call 6 (.cons (.var 2) (.cons (.var 1) (.cons (.var 1) .nil)))))) (.seq (.ret (.cst (.bl false))) .skip) .skip) .skip)
noncomputable def fn9:Fn:=⟨2,3,(.seq (.ite (.not (.tru (.call 6 (.cons (.var 0) (.cons (.cst (.int (0))) (.cons (.cst (.int (60))) .nil)))))) (.seq (.ret (.cst (.bl false))) .skip) .skip) (.seq (.«for» .seq (.var 0) (.one 2) zj9) (.seq (.ret (.cst (.bl true))) .skip)))⟩
noncomputable def fn10:Fn:=⟨1,6,(.seq (.ite (.not (.tru (.call 6 (.cons (.var 0) (.cons (.cst (.int (5))) (.cons (.cst (.int (5))) .nil)))))) (.seq (.ret (.cst (.bl false))) .skip) .skip) (.seq (.unp [1,2,3,4,5] (.var 0)) (.seq (.ite (.or (.not (.tru (.call 1 (.cons (.var 1) (.cons (.cst (.int (1))) (.cons (.cst (.int (40))) .nil)))))) (.not (.tru (.call 1 (.cons (.var 2) (.cons (.cst (.int (0))) (.cons (.cst (.int (8))) .nil))))))) (.seq (.ret (.cst (.bl false))) .skip) .skip) (.seq (.ite (.not (.tru (.call 7 (.cons (.var 4) (.cons (.cst (.int (1))) (.cons (.cst (.int (4))) (.cons (.cst (.int (0))) (.cons (.op .sub (.var 1) (.cst (.int (1)))) .nil)))))))) (.seq (.ret (.cst (.bl false))) .skip) .skip) (.seq (.ret (.and (.call 9 (.cons (.var 3) (.cons (.var 1) .nil))) (.call 8 (.cons (.var 5) (.cons (.var 1) (.cons (.bi .len (.cons (.var 4) .nil)) .nil)))))) .skip)))))⟩
noncomputable def fn11:Fn:=⟨2,4,(.seq (.ite (.not (.tru (.call 6 (.cons (.var 0) (.cons (.cst (.int (2))) (.cons (.cst (.int (2))) .nil)))))) (.seq (.ret (.cst (.bl false))) .skip) .skip) (.seq (.unp [2,3] (.var 0)) (.seq (.ret (.and (.call 1 (.cons (.var 2) (.cons (.cst (.int (0))) (.cons (.cst (.int (99))) .nil)))) (.call 12 (.cons (.var 3) (.cons (.var 1) .nil))))) .skip)))⟩
noncomputable def fn12:Fn:=⟨2,2,(.seq (.ret (.or (.cmp .isn (.var 0) (.cst .non)) (.call 1 (.cons (.var 0) (.cons (.cst (.int (0))) (.cons (.op .sub (.var 1) (.cst (.int (1)))) .nil)))))) .skip)⟩
noncomputable def fn13:Fn:=⟨2,4,(.seq (.ite (.not (.tru (.call 6 (.cons (.var 0) (.cons (.cst (.int (2))) (.cons (.cst (.int (2))) .nil)))))) (.seq (.ret (.cst (.bl false))) .skip) .skip) (.seq (.unp [2,3] (.var 0)) (.seq (.ret (.and (.call 1 (.cons (.var 2) (.cons (.cst (.int (0))) (.cons (.op .sub (.var 1) (.cst (.int (1)))) .nil)))) (.call 1 (.cons (.var 3) (.cons (.cst (.int (0))) (.cons (.cst (.int (1))) .nil)))))) .skip)))⟩
noncomputable def zgj:S:=(.seq (.ite (.not (.tru (.call 15 (.cons (.var 7) (.cons (.var 6) (.cons (.var 1) (.cons (.var 2) .nil))))))) (.seq .no .skip) .skip) .skip)
noncomputable def zgk:S:=(.seq (.«for» .enm (.var 5) (.many [6,7]) zgj) .skip)
noncomputable def fn14:Fn:=⟨1,8,(.seq (.ite (.not (.tru (.call 10 (.cons (.var 0) .nil)))) (.seq .no .skip) .skip) (.seq (.unp [1,2,3] (.slc (.var 0) false (.cst .non) true (.cst (.int (3))))) (.seq (.«for» .enm (.var 3) (.many [4,5]) zgk) .skip)))⟩
noncomputable def fn15:Fn:=⟨4,4,(.seq (.ite (.or (.cmp .eq (.var 0) (.cst (.str (PySem.Str.ofString "x")))) (.tru (.call 13 (.cons (.var 0) (.cons (.var 3) .nil))))) (.seq (.ret (.chn .lt .lt (.cst (.int (0))) (.var 1) (.op .sub (.var 2) (.cst (.int (1)))))) .skip) .skip) (.seq (.ite (.cmp .eq (.var 0) (.cst (.str (PySem.Str.ofString "<")))) (.seq (.ret (.cmp .gt (.var 1) (.cst (.int (0))))) .skip) .skip) (.seq (.ite (.cmp .eq (.var 0) (.cst (.str (PySem.Str.ofString ">")))) (.seq (.ret (.cmp .lt (.var 1) (.op .sub (.var 2) (.cst (.int (1)))))) .skip) .skip) (.seq (.ret (.or (.cmp .eq (.var 0) (.cst (.str (PySem.Str.ofString ".")))) (.cmp .eq (.var 0) (.cst (.str (PySem.Str.ofString "s")))))) .skip))))⟩
noncomputable def fn21:Fn:=⟨4,6,(.seq (.set 4 (.call 5 (.cons (.var 0) (.cons (.cst (.int (10))) .nil)))) (.seq (.set 5 (.idx (.lst (.cons (.cst (.str (PySem.Str.ofString "."))) (.cons (.cst (.str (PySem.Str.ofString "<"))) (.cons (.cst (.str (PySem.Str.ofString ">"))) (.cons (.cst (.str (PySem.Str.ofString "x"))) (.cons (.cst (.str (PySem.Str.ofString "."))) (.cons (.cst (.str (PySem.Str.ofString "."))) .nil))))))) (.bi .min (.cons (.var 4) (.cons (.cst (.int (5))) .nil))))) (.seq (.ite (.and (.cmp .gt (.var 4) (.cst (.int (4)))) (.cmp .gt (.var 3) (.cst (.int (0))))) (.seq (.set 5 (.tup (.cons (.call 5 (.cons (.var 0) (.cons (.var 3) .nil))) (.cons (.call 5 (.cons (.var 0) (.cons (.cst (.int (2))) .nil))) .nil)))) .skip) .skip) (.seq (.ite (.and (.cmp .eq (.var 4) (.cst (.int (4)))) (.cmp .eq (.call 5 (.cons (.var 0) (.cons (.cst (.int (4))) .nil))) (.cst (.int (0))))) (.seq (.ret (.cst (.str (PySem.Str.ofString "s")))) .skip) .skip) (.seq (.ite (.or (.and (.cmp .eq (.var 1) (.cst (.int (0)))) (.cmp .nin (.var 5) (.tup (.cons (.cst (.str (PySem.Str.ofString "."))) (.cons (.cst (.str (PySem.Str.ofString ">"))) .nil))))) (.and (.cmp .eq (.var 1) (.op .sub (.var 2) (.cst (.int (1))))) (.cmp .nin (.var 5) (.tup (.cons (.cst (.str (PySem.Str.ofString "."))) (.cons (.cst (.str (PySem.Str.ofString "<"))) .nil)))))) (.seq (.ret (.idx (.lst (.cons (.cst (.str (PySem.Str.ofString ">"))) (.cons (.cst (.str (PySem.Str.ofString "<"))) (.cons (.cst (.str (PySem.Str.ofString "."))) .nil)))) (.bi .min (.cons (.op .add (.bi .int (.cons (.cmp .gt (.var 1) (.cst (.int (0)))) .nil)) (.op .mul (.cst (.int (2))) (.bi .int (.cons (.cmp .eq (.var 2) (.cst (.int (1)))) .nil)))) (.cons (.cst (.int (2))) .nil))))) .skip) .skip) (.seq (.ret (.var 5)) .skip))))))⟩
noncomputable def fn23:Fn:=⟨2,4,(.seq (.set 2 (.idx (.lst (.cons (.call 5 (.cons (.var 0) (.cons (.cst (.int (3))) .nil))) (.cons (.call 5 (.cons (.var 0) (.cons (.cst (.int (100))) .nil))) .nil))) (.bi .int (.cons (.cmp .eq (.call 5 (.cons (.var 0) (.cons (.cst (.int (4))) .nil))) (.cst (.int (0)))) .nil)))) (.seq (.set 3 (.call 5 (.cons (.var 0) (.cons (.var 1) .nil)))) (.seq (.ite (.cmp .eq (.call 5 (.cons (.var 0) (.cons (.cst (.int (8))) .nil))) (.cst (.int (0)))) (.seq (.ret (.tup (.cons (.var 2) (.cons (.cst .non) .nil)))) .skip) .skip) (.seq (.ret (.tup (.cons (.var 2) (.cons (.var 3) .nil)))) .skip))))⟩
noncomputable def zgl:E:=(.call 21 (.cons (.var 1) (.cons (.var 0) (.cons (.var 3) (.cons (.var 2) .nil)))))
noncomputable def fn25:Fn:=⟨3,3,(.seq (.ret (.bi .tuple (.cons (.lc .rng1 (.cons (.var 1) .nil) (.one 0) 1 [0,2,1] (.cst (.bl true)) zgl) .nil))) .skip)⟩
noncomputable def zng:E:=(.call 25 (.cons (.var 1) (.cons (.var 3) (.cons (.var 2) .nil))))
noncomputable def znh:E:=(.call 5 (.cons (.var 1) (.cons (.var 2) .nil)))
noncomputable def zni:E:=(.call 23 (.cons (.var 1) (.cons (.bi .len (.cons (.var 2) .nil)) .nil)))
noncomputable def fn26:Fn:=⟨4,9,(.seq (.set 4 (.op .add (.cst (.int (1))) (.call 5 (.cons (.var 0) (.cons (.var 1) .nil))))) (.seq (.set 5 (.call 5 (.cons (.var 0) (.cons (.op .add (.var 3) (.cst (.int (1)))) .nil)))) (.seq (.set 6 (.lc .rng1 (.cons (.call 5 (.cons (.var 0) (.cons (.op .add (.var 2) (.cst (.int (1)))) .nil))) .nil) (.one 0) 1 [0,5,4] (.cst (.bl true)) zng)) (.seq (.set 7 (.bi .tuple (.cons (.lc .rng1 (.cons (.op .add (.cst (.int (1))) (.call 5 (.cons (.var 0) (.cons (.cst (.int (4))) .nil)))) .nil) (.one 0) 1 [0,4] (.cst (.bl true)) znh) .nil))) (.seq (.set 8 (.bi .tuple (.cons (.lc .rng1 (.cons (.var 4) .nil) (.one 0) 1 [0,7] (.cst (.bl true)) zni) .nil))) (.seq (.ret (.tup (.cons (.var 4) (.cons (.var 5) (.cons (.bi .tuple (.cons (.var 6) .nil)) (.cons (.var 7) (.cons (.var 8) .nil))))))) .skip))))))⟩
noncomputable def fin (h:VH) (r:Res Fl):Res W:=r.bind fun fl h'=>match fl with
 | .nx _=>leave h .non h'
 | .rt w=>leave h w h'
 | _=>.no
theorem zag {F:Nat→Option Fn} {k f:Nat} {fn:Fn} {ws:List W} {h:VH} (hF:F f=some fn) (hl:ws.length=fn.ps) :
 run F (k + 1) f ws h=fin h (exs (run F k) fn.body (ws.map some++List.replicate (fn.n - fn.ps) none) ⟨h.n,h.n,h.os⟩):=by
 simp only [run,hF]
 rw [if_pos (by rw [hl]; exact Nat.beq_refl _)]
 rfl
theorem zfm {h:VH} {w:W} {h':VH} (h1:h.n≤h'.lo) (h2:W.lt h.n w=true):leave h w h'=.ok w h:=by
 unfold leave
 rw [if_pos (by rw [vac]; exact ⟨Nat.ble_eq.mpr h1,h2⟩)]
theorem zai {h h':VH} {w:W} (h1:h.n≤h'.lo) (h2:W.lt h.n w=true):fin h (.ok (.rt w) h')=.ok w h:=zfm h1 h2
theorem zrj {h h':VH} {ρ:En} (h1:h.n≤h'.lo):fin h (.ok (.nx ρ) h')=.ok .non h:=zfm h1 (by simp only [W.lt])
@[simp] theorem bindok {α β:Type} {a:α} {h:VH} {f:α→VH→Res β}:(Res.ok a h).bind f=f a h:=rfl
@[simp] theorem bindno {α β:Type} {f:α→VH→Res β}:(Res.no:Res α).bind f=.no:=rfl
@[simp] theorem ofsome {α:Type} {a:α} {h:VH}:Res.of (some a) h=.ok a h:=rfl
@[simp] theorem ofnone {α:Type} {h:VH}:Res.of (none:Option α) h=.no:=rfl
@[simp] theorem lt_non {n:Nat}:W.lt n .non=true:=by simp only [W.lt]
@[simp] theorem lt_bl {n:Nat} {b:Bool}:W.lt n (.bl b)=true:=by simp only [W.lt]
@[simp] theorem lt_int {n:Nat} {b:Int}:W.lt n (.int b)=true:=by simp only [W.lt]
@[simp] theorem lt_str {n:Nat} {b:Str}:W.lt n (.str b)=true:=by simp only [W.lt]
@[simp] theorem lt_tup {n:Nat} {b:List W}:W.lt n (.tup b)=W.lts n b:=by simp only [W.lt]
@[simp] theorem lts_nil {n:Nat}:W.lts n []=true:=by simp only [W.lts]
@[simp] theorem lts_cons {n:Nat} {b:W} {r:List W}:W.lts n (b :: r)=(W.lt n b && W.lts n r):=by simp only [W.lts]
@[simp] theorem ty_int_int:((Ty.int == Ty.int):Bool)=true:=rfl
@[simp] theorem ty_int_bool:((Ty.int == Ty.bool):Bool)=false:=rfl
@[simp] theorem ty_int_tuple:((Ty.int == Ty.tuple):Bool)=false:=rfl
@[simp] theorem ty_int_list:((Ty.int == Ty.list):Bool)=false:=rfl
@[simp] theorem ty_int_str:((Ty.int == Ty.str):Bool)=false:=rfl
@[simp] theorem ty_int_dict:((Ty.int == Ty.dict):Bool)=false:=rfl
@[simp] theorem ty_bool_int:((Ty.bool == Ty.int):Bool)=false:=rfl
@[simp] theorem ty_bool_bool:((Ty.bool == Ty.bool):Bool)=true:=rfl
@[simp] theorem ty_bool_tuple:((Ty.bool == Ty.tuple):Bool)=false:=rfl
@[simp] theorem ty_bool_list:((Ty.bool == Ty.list):Bool)=false:=rfl
@[simp] theorem ty_bool_str:((Ty.bool == Ty.str):Bool)=false:=rfl
@[simp] theorem ty_bool_dict:((Ty.bool == Ty.dict):Bool)=false:=rfl
@[simp] theorem ty_tuple_int:((Ty.tuple == Ty.int):Bool)=false:=rfl
@[simp] theorem ty_tuple_bool:((Ty.tuple == Ty.bool):Bool)=false:=rfl
@[simp] theorem ty_tuple_tuple:((Ty.tuple == Ty.tuple):Bool)=true:=rfl
@[simp] theorem ty_tuple_list:((Ty.tuple == Ty.list):Bool)=false:=rfl
@[simp] theorem ty_tuple_str:((Ty.tuple == Ty.str):Bool)=false:=rfl
@[simp] theorem ty_tuple_dict:((Ty.tuple == Ty.dict):Bool)=false:=rfl
@[simp] theorem ty_list_int:((Ty.list == Ty.int):Bool)=false:=rfl
@[simp] theorem ty_list_bool:((Ty.list == Ty.bool):Bool)=false:=rfl
@[simp] theorem ty_list_tuple:((Ty.list == Ty.tuple):Bool)=false:=rfl
@[simp] theorem ty_list_list:((Ty.list == Ty.list):Bool)=true:=rfl
@[simp] theorem ty_list_str:((Ty.list == Ty.str):Bool)=false:=rfl
@[simp] theorem ty_list_dict:((Ty.list == Ty.dict):Bool)=false:=rfl
@[simp] theorem ty_str_int:((Ty.str == Ty.int):Bool)=false:=rfl
@[simp] theorem ty_str_bool:((Ty.str == Ty.bool):Bool)=false:=rfl
@[simp] theorem ty_str_tuple:((Ty.str == Ty.tuple):Bool)=false:=rfl
@[simp] theorem ty_str_list:((Ty.str == Ty.list):Bool)=false:=rfl
@[simp] theorem ty_str_str:((Ty.str == Ty.str):Bool)=true:=rfl
@[simp] theorem ty_str_dict:((Ty.str == Ty.dict):Bool)=false:=rfl
@[simp] theorem ty_dict_int:((Ty.dict == Ty.int):Bool)=false:=rfl
@[simp] theorem ty_dict_bool:((Ty.dict == Ty.bool):Bool)=false:=rfl
@[simp] theorem ty_dict_tuple:((Ty.dict == Ty.tuple):Bool)=false:=rfl
@[simp] theorem ty_dict_list:((Ty.dict == Ty.list):Bool)=false:=rfl
@[simp] theorem ty_dict_str:((Ty.dict == Ty.str):Bool)=false:=rfl
@[simp] theorem ty_dict_dict:((Ty.dict == Ty.dict):Bool)=true:=rfl
@[simp] theorem isi_non {t:Ty} {h:VH}:tyIs t h .non=some false:=rfl
@[simp] theorem isi_bl {t:Ty} {h:VH} {b:Bool}:tyIs t h (.bl b)=some (t == .int || t == .bool):=rfl
@[simp] theorem isi_int {t:Ty} {h:VH} {i:Int}:tyIs t h (.int i)=some (t == .int):=rfl
@[simp] theorem isi_str {t:Ty} {h:VH} {x:Str}:tyIs t h (.str x)=some (t == .str):=rfl
@[simp] theorem isi_tup {t:Ty} {h:VH} {x:List W}:tyIs t h (.tup x)=some (t == .tuple):=rfl
@[simp] theorem get_lo {h:VH} {l i:Nat}:VH.get ⟨h.n,l,h.os⟩ i=h.get i:=by unfold VH.get; rfl
@[simp] theorem tru_bl {h:VH} {b:Bool}:truW h (.bl b)=some b:=rfl
noncomputable def forL (tg:W→VH→En→Option En) (b:FS):List W→En→VH→Res Fl
 | [],ρ,h=>.ok (.nx ρ) h
 | w :: r,ρ,h=>match tg w h ρ with
  | none=>.no
  | some ρ=>(b ρ h).bind fun fl h=>match fl with
   | .nx ρ=>forL tg b r ρ h
   | .ct ρ=>forL tg b r ρ h
   | .bk ρ=>.ok (.nx ρ) h
   | .rt w=>.ok (.rt w) h
noncomputable def lcL (tg:W→VH→En→Option En) (c e:FE):List W→En→VH→Res (List W)
 | [],_,h=>.ok [] h
 | w :: r,ρ,h=>match tg w h ρ with
  | none=>.no
  | some ρ=>(c ρ h).bind fun b h=>match b with
   | .bl true=>(e ρ h).bind fun y h=>(lcL tg c e r ρ h).bind fun ys h=>.ok (y :: ys) h
   | .bl false=>lcL tg c e r ρ h
   | _=>.no
theorem zfn {α β γ:Type} {r:Res α} {f:α→VH→Res β} {g:β→VH→Res γ}:(r.bind f).bind g=r.bind fun a h=>(f a h).bind g:=by cases r <;> rfl
theorem zc0 {nx:Nat→VH→Option (Option W)} {tg:W→VH→En→Option En} {b:FS} {ws:List W} (hx:∀ i h,nx i h=some ws[i]?):∀ (fu i:Nat) (ρ:En) (h:VH),i≤ws.length→ws.length < fu + i→forG nx tg b fu i ρ h=forL tg b (ws.drop i) ρ h
 | 0,i,ρ,h,hi,hl=>by omega
 | fu + 1,i,ρ,h,hi,hl=>by
  simp only [forG,hx]
  cases q:ws[i]? with
  | none=>
   rw [List.drop_eq_nil_of_le (List.getElem?_eq_none_iff.mp q)]
   rfl
  | some w=>
   obtain ⟨hi,e⟩:=List.getElem?_eq_some_iff.mp q
   rw [List.drop_eq_getElem_cons hi,e]
   simp only [forL]
   cases tg w h ρ with
   | none=>rfl
   | some ρ'=>
    simp only
    congr 1
    funext fl h1
    cases fl <;> simp only [zc0 hx fu (i + 1) _ _ hi (by omega)]
theorem zc1 {nx:Nat→VH→Option (Option W)} {tg:W→VH→En→Option En} {c e:FE} {ws:List W} (hx:∀ i h,nx i h=some ws[i]?):∀ (fu i:Nat) (ρ:En) (h:VH) (acc:List W),i≤ws.length→ws.length < fu + i →
 lcG nx tg c e fu i ρ h acc=(lcL tg c e (ws.drop i) ρ h).bind fun ys h=>.ok (acc.reverse++ys) h
 | 0,i,ρ,h,acc,hi,hl=>by omega
 | fu + 1,i,ρ,h,acc,hi,hl=>by
  simp only [lcG,hx]
  cases q:ws[i]? with
  | none=>
   rw [List.drop_eq_nil_of_le (List.getElem?_eq_none_iff.mp q)]
   simp [lcL]
  | some w=>
   obtain ⟨hi,ee⟩:=List.getElem?_eq_some_iff.mp q
   rw [List.drop_eq_getElem_cons hi,ee]
   simp only [lcL]
   cases tg w h ρ with
   | none=>rfl
   | some ρ'=>
    simp only [zfn]
    congr 1
    funext bv h1
    cases bv <;> try rfl
    rename_i bb
    cases bb with
    | true=>
     simp only [zfn]
     congr 1
     funext y h2
     rw [zc1 hx fu (i + 1) _ _ _ hi (by omega)]
     congr 1
     funext ys h3
     simp
    | false=>simp only [zc1 hx fu (i + 1) _ _ _ hi (by omega)]
theorem zci {ws:List W} {tg:W→VH→En→Option En} {b:FS} {ρ:En} {h:VH} (hl:ws.length < 1000000):forG (nxt .seq (.tup ws)) tg b fuel 0 ρ h=forL tg b ws ρ h:=by
 have:=zc0 (nx:=nxt .seq (.tup ws)) (tg:=tg) (b:=b) (ws:=ws) (fun i h=>rfl) fuel 0 ρ h (Nat.zero_le _) (by simpa [fuel] using hl)
 simpa using this
noncomputable def enumW:Nat→List W→List W
 | _,[]=>[]
 | i,w :: r=>.tup [.int i,w] :: enumW (i + 1) r
theorem zhq:∀ (ws:List W) (i j:Nat),(enumW j ws)[i]?=(ws[i]?).map fun w=>.tup [.int ((j + i:Nat):Int),w]
 | [],i,j=>by simp [enumW]
 | w :: r,0,j=>by simp [enumW]
 | w :: r,i + 1,j=>by
  simp only [enumW,vaq]
  rw [zhq r i (j + 1)]
  congr 1
  funext w
  rw [show j + 1 + i=j + (i + 1) by omega]
theorem zhr:∀ (ws:List W) (j:Nat),(enumW j ws).length=ws.length
 | [],_=>rfl
 | _ :: r,j=>by simp [enumW,zhr r]
theorem zka {ws:List W} {tg:W→VH→En→Option En} {b:FS} {ρ:En} {h:VH} (hl:ws.length < 1000000):forG (nxt .enm (.tup ws)) tg b fuel 0 ρ h=forL tg b (enumW 0 ws) ρ h:=by
 have:=zc0 (nx:=nxt .enm (.tup ws)) (tg:=tg) (b:=b) (ws:=enumW 0 ws) (fun i h=>by rw [zhq]; simp [nxt,seqW]) fuel 0 ρ h (Nat.zero_le _) (by simpa [fuel,zhr] using hl)
 simpa using this
noncomputable def zal (a:Int):Nat→List W
 | 0=>[]
 | n + 1=>.int a :: zal (a + 1) n
theorem zdk:∀ (n i:Nat) (a:Int),(zal a n)[i]?=if i < n then some (.int (a + i)) else none
 | 0,i,a=>by simp [zal]
 | n + 1,0,a=>by simp [zal]
 | n + 1,i + 1,a=>by
  simp only [zal,vaq]
  rw [zdk n i (a + 1)]
  by_cases q:i < n
  ·rw [if_pos q,if_pos (by omega)]
   congr 2
   push_cast
   omega
  ·rw [if_neg q,if_neg (by omega)]
theorem zdl:∀ (n:Nat) (a:Int),(zal a n).length=n
 | 0,_=>rfl
 | n + 1,a=>by simp [zal,zdl n]
theorem ztl {n:Nat} {tg:W→VH→En→Option En} {b:FS} {ρ:En} {h:VH} (hl:n < 1000000):forG (nxt .rng1 (.tup [.int n])) tg b fuel 0 ρ h=forL tg b (zal 0 n) ρ h:=by
 have hf:fits (n:Int)=true:=by simp [fits]; omega
 have:=zc0 (nx:=nxt .rng1 (.tup [.int n])) (tg:=tg) (b:=b) (ws:=zal 0 n) (fun i h=>by rw [zdk]; simp [nxt,hf]) fuel 0 ρ h (Nat.zero_le _) (by simpa [fuel,zdl] using hl)
 simpa using this
theorem zxj {n:Nat} {tg:W→VH→En→Option En} {c e:FE} {ρ:En} {h:VH} (hl:n < 1000000):lcG (nxt .rng1 (.tup [.int n])) tg c e fuel 0 ρ h []=lcL tg c e (zal 0 n) ρ h:=by
 have hf:fits (n:Int)=true:=by simp [fits]; omega
 have:=zc1 (nx:=nxt .rng1 (.tup [.int n])) (tg:=tg) (c:=c) (e:=e) (ws:=zal 0 n) (fun i h=>by rw [zdk]; simp [nxt,hf]) fuel 0 ρ h [] (Nat.zero_le _) (by simpa [fuel,zdl] using hl)
 rw [this]
 simp only [List.drop_zero,List.reverse_nil,List.nil_append]
 cases lcL tg c e (zal 0 n) ρ h <;> rfl
noncomputable def isInt:W→Bool
 | .int _=>true
 | _=>false
noncomputable def Kn (h:VH) (w:W):Prop:=tyIs .int h w≠none
theorem kn_lo {h:VH} {l:Nat} {w:W}:Kn ⟨h.n,l,h.os⟩ w↔Kn h w:=by
 unfold Kn
 cases w <;> simp [tyIs]
structure CoreA (F:Nat→Option Fn):Prop where
 f0:F 0=some fn0
 f1:F 1=some fn1
 f6:F 6=some fn6
 f7:F 7=some fn7
section
variable {F:Nat→Option Fn} (C:CoreA F)
include C
theorem zp8 {k:Nat} {h:VH} {w:W} (hw:Kn h w):run F (k + 1) 0 [w] h=.ok (.bl (isInt w)) h:=by
 rw [zag C.f0 rfl]
 cases w <;> try (simp [fn0,exs,ev,isInt,zai]; done)
 ·exact absurd rfl hw
 ·rename_i i
  unfold Kn at hw
  simp only [tyIs] at hw
  cases g:h.get i with
  | none=>rw [g] at hw; exact absurd rfl hw
  | some o=>cases o <;> first | (simp [fn0,exs,ev,isInt,zai,tyIs,g]; done) | (simp [g] at hw)
noncomputable def within (w:W) (lo hi:Int):Bool:=match w with
 | .int i=>decide (lo≤i) && decide (i≤hi)
 | _=>false
theorem zas {k:Nat} {h:VH} {w:W} {lo hi:Int} (hw:Kn h w):run F (k + 2) 1 [w,.int lo,.int hi] h=.ok (.bl (within w lo hi)) h:=by
 rw [zag C.f1 rfl]
 have e:=zp8 C (k:=k) (h:=⟨h.n,h.n,h.os⟩) (w:=w) (kn_lo.mpr hw)
 cases w <;> simp [fn1,exs,ev,e,isInt,within,zai,cmpW,cmpI]
 rename_i i
 by_cases h1:lo≤i <;> simp [h1,zai]
noncomputable def zau (w:W) (lo hi:Int):Bool:=match w with
 | .tup ws=>decide (lo≤ws.length) && decide ((ws.length:Int)≤hi)
 | _=>false
theorem zam {k:Nat} {h:VH} {w:W} {lo hi:Int} (hw:Kn h w):run F (k + 1) 6 [w,.int lo,.int hi] h=.ok (.bl (zau w lo hi)) h:=by
 rw [zag C.f6 rfl]
 cases w <;> try (simp [fn6,exs,ev,zau,zai]; done)
 ·rename_i ws
  simp [fn6,exs,ev,zau,zai,cmpW,cmpI,biW,lenW,seqW]
  by_cases h1:lo≤ws.length <;> simp [h1,zai]
 ·exact absurd rfl hw
 ·rename_i i
  unfold Kn at hw
  simp only [tyIs] at hw
  cases g:h.get i with
  | none=>rw [g] at hw; exact absurd rfl hw
  | some o=>cases o <;> first | (simp [fn6,exs,ev,zau,zai,tyIs,g]; done) | (simp [g] at hw)
theorem loop7 {k:Nat} {h:VH} {t a b:W} {lo hi:Int}:∀ (ws:List W) (x:Option W),(∀ w∈ws,Kn h w)→∃ y,forL (tgW (.one 5)) (exs (run F (k + 2)) zj7) ws [some t,some a,some b,some (.int lo),some (.int hi),x] h =
 if ws.all (within · lo hi) then .ok (.nx [some t,some a,some b,some (.int lo),some (.int hi),y]) h else .ok (.rt (.bl false)) h
 | [],x,_=>⟨x,by simp [forL]⟩
 | w :: r,x,hk=>by
  obtain ⟨y,e⟩:=loop7 (t:=t) (a:=a) (b:=b) (k:=k) (lo:=lo) (hi:=hi) r (some w) fun z hz=>hk z (vaj _ hz)
  refine ⟨y,?_⟩
  have e1:=zas C (k:=k) (lo:=lo) (hi:=hi) (hk w vap)
  have eb:exs (run F (k + 2)) zj7 [some t,some a,some b,some (.int lo),some (.int hi),some w] h=if within w lo hi then .ok (.nx [some t,some a,some b,some (.int lo),some (.int hi),some w]) h else .ok (.rt (.bl false)) h:=by
   cases q:within w lo hi <;> simp [zj7,exs,ev,e1,q]
  simp only [forL,tgW,List.set,eb]
  cases q:within w lo hi <;> simp [q,e]
noncomputable def zc2 (w:W) (a b lo hi:Int):Bool:=match w with
 | .tup ws=>zau w a b && ws.all (within · lo hi)
 | _=>false
theorem zbm {k:Nat} {h:VH} {w:W} {a b lo hi:Int} (hw:Kn h w) (hp:∀ ws,w=.tup ws→ws.length < 1000000∧∀ x∈ws,Kn h x):run F (k + 3) 7 [w,.int a,.int b,.int lo,.int hi] h=.ok (.bl (zc2 w a b lo hi)) h:=by
 rw [zag C.f7 rfl]
 have e1:=zam C (k:=k + 1) (h:=⟨h.n,h.n,h.os⟩) (w:=w) (lo:=a) (hi:=b) (kn_lo.mpr hw)
 cases q:zau w a b with
 | false=>
  have:zc2 w a b lo hi=false:=by cases w <;> simp [zc2,q]
  simp [fn7,exs,ev,e1,q,this,zai]
 | true=>
  cases w <;> try (simp [zau] at q; done)
  rename_i ws
  obtain ⟨hl,hk⟩:=hp ws rfl
  obtain ⟨y,e2⟩:=loop7 C (k:=k) (h:=⟨h.n,h.n,h.os⟩) (t:=.tup ws) (a:=.int a) (b:=.int b) (lo:=lo) (hi:=hi) ws none fun x hx=>kn_lo.mpr (hk x hx)
  have e3:zc2 (.tup ws) a b lo hi=ws.all (within · lo hi):=by simp [zc2,q]
  rw [e3]
  cases q2:ws.all (within · lo hi) with
  | true=>simp [fn7,exs,ev,e1,q,zci hl,e2,q2,zai]
  | false=>simp [fn7,exs,ev,e1,q,zci hl,e2,q2,zai]
end
noncomputable def za3:Nat→W→Bool
 | 0,_=>false
 | n + 1,w=>match w with
  | .non=>true
  | .bl _=>true
  | .int _=>true
  | .str x=>PyData.strOk x
  | .tup ws=>ws.all (za3 n)
  | _=>false
theorem zkb {f:W→Option PyData} {p:W→Bool} {n:Nat} (h:∀ w,p w=true→∃ d,f w=some d∧d.canLay0=true∧d.depth≤n):∀ ws:List W,ws.all p=true→∃ ds,mapO f ws=some ds∧PyData.canLayAll0 ds=true∧PyData.depthAll ds≤n
 | [],_=>⟨[],rfl,rfl,Nat.zero_le _⟩
 | w :: r,e=>by
  rw [List.all_cons,vac] at e
  obtain ⟨d,h1,h2,h3⟩:=h w e.1
  obtain ⟨ds,h4,h5,h6⟩:=zkb h r e.2
  refine ⟨d :: ds,by simp [mapO,h1,h4],?_,?_⟩
  ·show (d.canLay0 && PyData.canLayAll0 ds)=true
   rw [h2,h5]; rfl
  ·show max d.depth (PyData.depthAll ds)≤n
   omega
theorem zc3 (h:VH):∀ (n:Nat) (w:W),za3 n w=true→∃ d,toD h n w=some d∧d.canLay0=true∧d.depth≤n
 | 0,_,e=>by cases e
 | n + 1,w,e=>by
  cases w <;> simp only [za3] at e <;> try (cases e; done)
  ·exact ⟨.none,rfl,rfl,Nat.zero_le _⟩
  ·exact ⟨.bool _,rfl,rfl,Nat.zero_le _⟩
  ·exact ⟨.int _,rfl,rfl,Nat.zero_le _⟩
  ·exact ⟨.str _,rfl,e,Nat.zero_le _⟩
  ·obtain ⟨ds,h1,h2,h3⟩:=zkb (zc3 h n) _ e
   exact ⟨.tuple ds,by simp [toD,h1],h2,by show PyData.depthAll ds + 1≤n + 1; omega⟩
mutual
theorem zkc:∀ d:PyData,d.canLay0=true→PyData.eqv d d=true
 | .none,_=>rfl
 | .bool b,_=>by simp [PyData.eqv]
 | .int i,_=>by simp [PyData.eqv]
 | .str x,_=>by simp [PyData.eqv]
 | .list xs,h=>by
  simp only [PyData.eqv]
  exact zcj xs h
 | .tuple xs,h=>by
  simp only [PyData.eqv]
  exact zcj xs h
 | .dict _,h=>by cases h
theorem zcj:∀ ds:List PyData,PyData.canLayAll0 ds=true→PyData.eqvAll ds ds=true
 | [],_=>rfl
 | d :: ds,h=>by
  have h:(d.canLay0 && PyData.canLayAll0 ds)=true:=h
  rw [vac] at h
  simp only [PyData.eqvAll,zkc d h.1,zcj ds h.2,Bool.and_self]
end
theorem zx6 {h:VH} {w:W} (p:za3 24 w=true):eqW h w w=some true:=by
 obtain ⟨d,h1,h2,h3⟩:=zc3 h 24 w p
 have hs:SeqAt.shaped d=true:=by
  unfold SeqAt.shaped
  rw [h2,Bool.true_and,decide_eq_true_eq]; omega
 unfold eqW
 rw [h1]
 simp [hs,zkc d h2]
noncomputable def isS (w:W) (x:Str):Bool:=match w with
 | .str y=>y == x
 | _=>false
theorem zck {h:VH} {w:W} {x:Str} (p:za3 24 w=true) (hx:PyData.strOk x=true):eqW h w (.str x)=some (isS w x):=by
 obtain ⟨d,h1,h2,h3⟩:=zc3 h 24 w p
 have hs:SeqAt.shaped d=true:=by
  unfold SeqAt.shaped
  rw [h2,Bool.true_and,decide_eq_true_eq]; omega
 have hs2:SeqAt.shaped (.str x)=true:=by
  unfold SeqAt.shaped
  show (PyData.strOk x && _)=true
  rw [hx]; rfl
 unfold eqW
 rw [h1]
 have h4:toD h 24 (.str x)=some (.str x):=rfl
 rw [h4]
 simp only [hs,hs2,Bool.and_self,if_true]
 cases w <;> simp only [toD] at h1 <;> try (cases h1; done)
 ·cases h1; simp [isS,PyData.eqv]
 ·cases h1; simp [isS,PyData.eqv]
 ·cases h1; simp [isS,PyData.eqv]
 ·cases h1; simp [isS,PyData.eqv]
 ·obtain ⟨ds,h5,h6⟩:=Option.map_eq_some_iff.mp h1
  subst h6
  simp [isS,PyData.eqv]
 ·simp [za3] at p
 ·simp [za3] at p
theorem zhs {n:Nat} {ws:List W}:za3 (n + 1) (.tup ws)=ws.all (za3 n):=rfl
theorem zgm {h:VH} {n:Nat} {w:W} (p:za3 n w=true):Kn h w:=by
 unfold Kn
 cases n with
 | zero=>cases p
 | succ n=>cases w <;> simp [za3,tyIs] at p ⊢
structure CoreB (F:Nat→Option Fn):Prop extends CoreA F where
 f8:F 8=some fn8
 f9:F 9=some fn9
 f10:F 10=some fn10
 f11:F 11=some fn11
 f12:F 12=some fn12
 f13:F 13=some fn13
 f14:F 14=some fn14
 f15:F 15=some fn15
theorem za9:isNon .non=true:=rfl
noncomputable def fon (w:W) (n:Int):Bool:=isNon w || within w 0 (n - 1)
noncomputable def door (w:W) (n:Int):Bool:=match w with
 | .tup [a,b]=>within a 0 99 && fon b n
 | _=>false
noncomputable def zbn (w:W) (g:Int):Bool:=match w with
 | .tup [a,b]=>within a 0 (g - 1) && within b 0 1
 | _=>false
noncomputable def zaj (w:W) (c wd g:Int):Bool:=
 if isS w "x" || zbn w g then decide (0 < c) && decide (c < wd - 1) else if isS w "<" then decide (0 < c) else if isS w ">" then decide (c < wd - 1) else isS w "." || isS w "s"
section
variable {F:Nat→Option Fn} (C:CoreB F)
include C
theorem zbo {k:Nat} {h:VH} {w:W} {n:Int} (hw:Kn h w):run F (k + 3) 12 [w,.int n] h=.ok (.bl (fon w n)) h:=by
 rw [zag C.f12 rfl]
 have e:=zas C.toCoreA (k:=k) (h:=⟨h.n,h.n,h.os⟩) (w:=w) (lo:=0) (hi:=n - 1) (kn_lo.mpr hw)
 cases q:isNon w <;> simp [fn12,exs,ev,e,cmpW,za9,q,fon,zai,opW,opI]
theorem ztm {k:Nat} {h:VH} {w:W} {n:Int} (hw:Kn h w) (hp:∀ a b,w=.tup [a,b]→Kn h a∧Kn h b):run F (k + 4) 11 [w,.int n] h=.ok (.bl (door w n)) h:=by
 rw [zag C.f11 rfl]
 have e1:=zam C.toCoreA (k:=k + 2) (h:=⟨h.n,h.n,h.os⟩) (w:=w) (lo:=2) (hi:=2) (kn_lo.mpr hw)
 cases q:zau w 2 2 with
 | false=>
  have:door w n=false:=by
   cases w <;> simp [door]
   rename_i ws
   rcases ws with _ | ⟨a,_ | ⟨b,_ | _⟩⟩ <;> simp [zau] at q ⊢
  simp [fn11,exs,ev,e1,q,this,zai]
 | true=>
  cases w <;> try (simp [zau] at q; done)
  rename_i ws
  have hl:ws.length=2:=by simp [zau] at q; omega
  rcases ws with _ | ⟨a,_ | ⟨b,_ | _⟩⟩ <;> simp at hl
  obtain ⟨ka,kb⟩:=hp a b rfl
  have e2:=zas C.toCoreA (k:=k + 1) (h:=⟨h.n,h.n,h.os⟩) (w:=a) (lo:=0) (hi:=99) (kn_lo.mpr ka)
  have e3:=zbo C (k:=k) (h:=⟨h.n,h.n,h.os⟩) (w:=b) (n:=n) (kn_lo.mpr kb)
  cases q2:within a 0 99 <;> simp [fn11,exs,ev,e1,q,e2,e3,q2,door,zai,tgW,seqW,zaw]
theorem znj {k:Nat} {h:VH} {w:W} {n:Int} (hw:Kn h w) (hp:∀ a b,w=.tup [a,b]→Kn h a∧Kn h b):run F (k + 3) 13 [w,.int n] h=.ok (.bl (zbn w n)) h:=by
 rw [zag C.f13 rfl]
 have e1:=zam C.toCoreA (k:=k + 1) (h:=⟨h.n,h.n,h.os⟩) (w:=w) (lo:=2) (hi:=2) (kn_lo.mpr hw)
 cases q:zau w 2 2 with
 | false=>
  have:zbn w n=false:=by
   cases w <;> simp [zbn]
   rename_i ws
   rcases ws with _ | ⟨a,_ | ⟨b,_ | _⟩⟩ <;> simp [zau] at q ⊢
  simp [fn13,exs,ev,e1,q,this,zai]
 | true=>
  cases w <;> try (simp [zau] at q; done)
  rename_i ws
  have hl:ws.length=2:=by simp [zau] at q; omega
  rcases ws with _ | ⟨a,_ | ⟨b,_ | _⟩⟩ <;> simp at hl
  obtain ⟨ka,kb⟩:=hp a b rfl
  have e2:=zas C.toCoreA (k:=k) (h:=⟨h.n,h.n,h.os⟩) (w:=a) (lo:=0) (hi:=n - 1) (kn_lo.mpr ka)
  have e3:=zas C.toCoreA (k:=k) (h:=⟨h.n,h.n,h.os⟩) (w:=b) (lo:=0) (hi:=1) (kn_lo.mpr kb)
  cases q2:within a 0 (n - 1) <;> simp [fn13,exs,ev,e1,q,e2,e3,q2,zbn,zai,tgW,seqW,zaw,opW,opI]
theorem znk {k:Nat} {h:VH} {w:W} {c wd g:Int} (p:za3 24 w=true):run F (k + 4) 15 [w,.int c,.int wd,.int g] h=.ok (.bl (zaj w c wd g)) h:=by
 rw [zag C.f15 rfl]
 have hp:∀ a b,w=.tup [a,b]→Kn ⟨h.n,h.n,h.os⟩ a∧Kn ⟨h.n,h.n,h.os⟩ b:=fun a b e=>by
  subst e
  have p:za3 (23 + 1) (.tup [a,b])=true:=p
  rw [zhs,List.all_cons,List.all_cons,vac,vac] at p
  exact ⟨zgm p.1,zgm p.2.1⟩
 have e1:=znj C (k:=k) (h:=⟨h.n,h.n,h.os⟩) (w:=w) (n:=g) (zgm p) hp
 have sx:=zck (h:=⟨h.n,h.n,h.os⟩) (x:=Str.ofString "x") p (by decide +kernel)
 have sl:=zck (h:=⟨h.n,h.n,h.os⟩) (x:=Str.ofString "<") p (by decide +kernel)
 have sg:=zck (h:=⟨h.n,h.n,h.os⟩) (x:=Str.ofString ">") p (by decide +kernel)
 have sd:=zck (h:=⟨h.n,h.n,h.os⟩) (x:=Str.ofString ".") p (by decide +kernel)
 have ss:=zck (h:=⟨h.n,h.n,h.os⟩) (x:=Str.ofString "s") p (by decide +kernel)
 unfold zaj
 cases q1:isS w (Str.ofString "x") <;> cases q2:zbn w g <;> cases q3:isS w (Str.ofString "<") <;> cases q4:isS w (Str.ofString ">") <;> cases q5:isS w (Str.ofString ".") <;> by_cases h1:0 < c <;>
  simp [fn15,exs,ev,cmpW,cmpI,sx,sl,sg,sd,ss,e1,opW,opI,q1,q2,q3,q4,q5,h1,zai]
theorem zcc {k:Nat} {h:VH} {t a:W} {n:Int}:∀ (ws:List W) (x:Option W),(∀ w∈ws,Kn h w∧∀ a b,w=.tup [a,b]→Kn h a∧Kn h b)→∃ y,forL (tgW (.one 3)) (exs (run F (k + 4)) zj8) ws [some t,some a,some (.int n),x] h =
 if ws.all (door · n) then .ok (.nx [some t,some a,some (.int n),y]) h else .ok (.rt (.bl false)) h
 | [],x,_=>⟨x,by simp [forL]⟩
 | w :: r,x,hk=>by
  obtain ⟨y,e⟩:=zcc (t:=t) (a:=a) (k:=k) (n:=n) r (some w) fun z hz=>hk z (vaj _ hz)
  refine ⟨y,?_⟩
  obtain ⟨k1,k2⟩:=hk w vap
  have e1:=ztm C (k:=k) (n:=n) k1 k2
  have eb:exs (run F (k + 4)) zj8 [some t,some a,some (.int n),some w] h=if door w n then .ok (.nx [some t,some a,some (.int n),some w]) h else .ok (.rt (.bl false)) h:=by
   cases q:door w n <;> simp [zj8,exs,ev,e1,q]
  simp only [forL,tgW,List.set,eb]
  cases q:door w n <;> simp [q,e]
theorem znl {k:Nat} {h:VH} {ws:List W} {wd n:Int} (hl:ws.length=wd) (hz:ws.length < 1000000) (hd:∀ w∈ws,door w n=true):run F (k + 5) 8 [.tup ws,.int wd,.int n] h=.ok (.bl true) h:=by
 rw [zag C.f8 rfl]
 have e1:=zam C.toCoreA (k:=k + 3) (h:=⟨h.n,h.n,h.os⟩) (w:=.tup ws) (lo:=wd) (hi:=wd) (by unfold Kn; simp)
 have q:zau (.tup ws) wd wd=true:=by simp [zau,hl]
 have kn:∀ w∈ws,Kn ⟨h.n,h.n,h.os⟩ w∧∀ a b,w=.tup [a,b]→Kn ⟨h.n,h.n,h.os⟩ a∧Kn ⟨h.n,h.n,h.os⟩ b:=fun w hw=>by
  have:=hd w hw
  cases w <;> simp only [door] at this <;> try (cases this; done)
  rename_i us
  refine ⟨by unfold Kn; simp,fun a b e=>?_⟩
  cases e
  simp only [vac] at this
  obtain ⟨h1,h2⟩:=this
  refine ⟨?_,?_⟩
  ·cases a <;> simp [within] at h1
   unfold Kn; simp
  ·unfold fon at h2
   cases b <;> simp [within,isNon] at h2
   ·unfold Kn; simp
   ·unfold Kn; simp
 obtain ⟨y,e2⟩:=zcc C (k:=k) (h:=⟨h.n,h.n,h.os⟩) (t:=.tup ws) (a:=.int wd) (n:=n) ws none kn
 have ha:ws.all (door · n)=true:=List.all_eq_true.mpr hd
 simp [fn8,exs,ev,e1,q,zci hz,e2,ha,zai]
theorem zc4 {k:Nat} {h:VH} {t:W} {wd:Int}:∀ (ws:List W) (x:Option W),(∀ w∈ws,∃ us,w=.tup us∧us.length=wd)→∃ y,forL (tgW (.one 2)) (exs (run F (k + 1)) zj9) ws [some t,some (.int wd),x] h=.ok (.nx [some t,some (.int wd),y]) h
 | [],x,_=>⟨x,by simp [forL]⟩
 | w :: r,x,hk=>by
  obtain ⟨y,e⟩:=zc4 (h:=h) (t:=t) (k:=k) (wd:=wd) r (some w) fun z hz=>hk z (vaj _ hz)
  refine ⟨y,?_⟩
  obtain ⟨us,rfl,hl⟩:=hk w vap
  have e1:=zam C.toCoreA (k:=k) (h:=h) (w:=.tup us) (lo:=wd) (hi:=wd) (by unfold Kn; simp)
  have q:zau (.tup us) wd wd=true:=by simp [zau,hl]
  have eb:exs (run F (k + 1)) zj9 [some t,some (.int wd),some (.tup us)] h=.ok (.nx [some t,some (.int wd),some (.tup us)]) h:=by
   simp [zj9,exs,ev,e1,q]
  simp only [forL,tgW,List.set,eb,bindok,e]
theorem zp9 {k:Nat} {h:VH} {ws:List W} {wd:Int} (hl:ws.length≤60) (hd:∀ w∈ws,∃ us,w=.tup us∧us.length=wd):run F (k + 2) 9 [.tup ws,.int wd] h=.ok (.bl true) h:=by
 rw [zag C.f9 rfl]
 have e1:=zam C.toCoreA (k:=k) (h:=⟨h.n,h.n,h.os⟩) (w:=.tup ws) (lo:=0) (hi:=60) (by unfold Kn; simp)
 have q:zau (.tup ws) 0 60=true:=by simp [zau]; omega
 obtain ⟨y,e2⟩:=zc4 C (k:=k) (h:=⟨h.n,h.n,h.os⟩) (t:=.tup ws) (wd:=wd) ws none hd
 simp [fn9,exs,ev,e1,q,zci (show ws.length < 1000000 by omega),e2,zai]
end
structure Bd where
 wd:Int
 gr:Int
 rows:List (List W)
 fd:List W
 dr:List W
noncomputable def Bd.w (B:Bd):W:=.tup [.int B.wd,.int B.gr,.tup (B.rows.map .tup),.tup B.fd,.tup B.dr]
noncomputable def rowOk (wd g:Int):Int→List W→Prop
 | _,[]=>True
 | c,w :: r=>zaj w c wd g=true∧rowOk wd g (c + 1) r
structure Bd.Ok (B:Bd):Prop where
 w1:1≤B.wd
 w2:B.wd≤40
 g1:0≤B.gr
 g2:B.gr≤8
 r1:B.rows.length≤60
 r2:∀ r∈B.rows,(r.length:Int)=B.wd∧rowOk B.wd B.gr 0 r
 f1:1≤B.fd.length
 f2:B.fd.length≤4
 f3:∀ f∈B.fd,within f 0 (B.wd - 1)=true
 d1:(B.dr.length:Int)=B.wd
 d2:∀ d∈B.dr,door d B.fd.length=true
theorem zht {w:W} {g:Int} (h:zbn w g=true) (n:Nat):za3 (n + 2) w=true:=by
 cases w <;> simp only [zbn] at h <;> try (cases h; done)
 rename_i us
 rcases us with _ | ⟨a,_ | ⟨b,_ | _⟩⟩ <;> simp at h
 obtain ⟨h1,h2⟩:=h
 cases a <;> simp [within] at h1
 cases b <;> simp [within] at h2
 rfl
theorem zfo {w:W} {x:Str} (h:isS w x=true):w=.str x:=by
 cases w <;> simp [isS] at h
 rw [h]
theorem ze4 {w:W} {c wd g:Int} (h:zaj w c wd g=true) (n:Nat):za3 (n + 2) w=true:=by
 have st:∀ x:Str,PyData.strOk x=true→isS w x=true→za3 (n + 2) w=true:=fun x hx e=>by rw [zfo e]; exact hx
 unfold zaj at h
 split at h
 ·rename_i q
  rw [Bool.or_eq_true] at q
  rcases q with q | q
  ·exact st _ (by decide +kernel) q
  ·exact zht q n
 ·split at h
  ·rename_i q; exact st _ (by decide +kernel) q
  ·split at h
   ·rename_i q; exact st _ (by decide +kernel) q
   ·rw [Bool.or_eq_true] at h
    rcases h with q | q
    ·exact st _ (by decide +kernel) q
    ·exact st _ (by decide +kernel) q
section
variable {F:Nat→Option Fn} (C:CoreB F)
include C
theorem zqa {k:Nat} {h:VH} {B:Bd} (b:B.Ok):run F (k + 6) 10 [B.w] h=.ok (.bl true) h:=by
 rw [zag C.f10 rfl]
 have e1:=zam C.toCoreA (k:=k + 4) (h:=⟨h.n,h.n,h.os⟩) (w:=B.w) (lo:=5) (hi:=5) (by unfold Kn Bd.w; simp)
 have q1:zau B.w 5 5=true:=by simp [zau,Bd.w]
 have e2:=zas C.toCoreA (k:=k + 3) (h:=⟨h.n,h.n,h.os⟩) (w:=.int B.wd) (lo:=1) (hi:=40) (by unfold Kn; simp)
 have q2:within (.int B.wd) 1 40=true:=by simp [within,b.w1,b.w2]
 have e3:=zas C.toCoreA (k:=k + 3) (h:=⟨h.n,h.n,h.os⟩) (w:=.int B.gr) (lo:=0) (hi:=8) (by unfold Kn; simp)
 have q3:within (.int B.gr) 0 8=true:=by simp [within,b.g1,b.g2]
 have kf:∀ x∈B.fd,Kn ⟨h.n,h.n,h.os⟩ x:=fun x hx=>by
  have:=b.f3 x hx
  cases x <;> simp [within] at this
  unfold Kn; simp
 have hf:=b.f2
 have e4:=zbm C.toCoreA (k:=k + 2) (h:=⟨h.n,h.n,h.os⟩) (w:=.tup B.fd) (a:=1) (b:=4) (lo:=0) (hi:=B.wd - 1) (by unfold Kn; simp) (fun ws e=>by cases e; exact ⟨by omega,kf⟩)
 have q4:zc2 (.tup B.fd) 1 4 0 (B.wd - 1)=true:=by
  have h1:=b.f1
  simp only [zc2,zau,vac,decide_eq_true_eq]
  exact ⟨⟨by omega,by omega⟩,List.all_eq_true.mpr b.f3⟩
 have e5:=zp9 C (k:=k + 3) (h:=⟨h.n,h.n,h.os⟩) (ws:=B.rows.map .tup) (wd:=B.wd) (by rw [vab]; exact b.r1) (fun w hw=>by
  obtain ⟨r,hr,e⟩:=List.mem_map.mp hw
  exact ⟨r,e.symm,(b.r2 r hr).1⟩)
 have hd:=b.d1
 have h40:=b.w2
 have e6:=znl C (k:=k) (h:=⟨h.n,h.n,h.os⟩) (ws:=B.dr) (wd:=B.wd) (n:=B.fd.length) hd (by omega) b.d2
 unfold Bd.w at e1 q1 ⊢
 simp [fn10,exs,ev,e1,q1,e2,q2,e3,q3,e4,q4,e5,e6,zai,tgW,seqW,zaw,opW,opI,biW,lenW]
theorem znm {k:Nat} {h:VH} {t rs pl:W} {wd g r0:Int}:∀ (ws:List W) (c:Int) (j:Nat) (x y:Option W),c=j→rowOk wd g c ws→∃ x' y',forL (tgW (.many [6,7])) (exs (run F (k + 4)) zgj) (enumW j ws) [some t,some (.int wd),some (.int g),some rs,some (.int r0),some pl,x,y] h =
 .ok (.nx [some t,some (.int wd),some (.int g),some rs,some (.int r0),some pl,x',y']) h
 | [],c,j,x,y,_,_=>⟨x,y,by simp [forL,enumW]⟩
 | w :: r,c,j,x,y,hc,ho=>by
  obtain ⟨h1,h2⟩:=ho
  obtain ⟨x',y',e⟩:=znm (h:=h) (t:=t) (rs:=rs) (pl:=pl) (k:=k) (wd:=wd) (g:=g) (r0:=r0) r (c + 1) (j + 1) (some (.int j)) (some w) (by rw [hc]; push_cast; rfl) h2
  refine ⟨x',y',?_⟩
  have e1:=znk C (k:=k) (h:=h) (c:=j) (wd:=wd) (g:=g) (ze4 h1 22)
  rw [← hc,h1] at e1
  have eb:exs (run F (k + 4)) zgj [some t,some (.int wd),some (.int g),some rs,some (.int r0),some pl,some (.int j),some w] h=.ok (.nx [some t,some (.int wd),some (.int g),some rs,some (.int r0),some pl,some (.int j),some w]) h:=by
   rw [hc] at e1
   simp [zgj,exs,ev,e1]
  simp only [forL,enumW,tgW,seqW,zaw,List.set,eb,bindok,e]
theorem zkd {k:Nat} {h:VH} {t rs:W} {wd g:Int}:∀ (ws:List (List W)) (j:Nat) (x y z u:Option W),(∀ r∈ws,(r.length:Int) < 1000000∧rowOk wd g 0 r)→∃ x' y' z' u',forL (tgW (.many [4,5])) (exs (run F (k + 4)) zgk) (enumW j (ws.map .tup)) [some t,some (.int wd),some (.int g),some rs,x,y,z,u] h =
 .ok (.nx [some t,some (.int wd),some (.int g),some rs,x',y',z',u']) h
 | [],j,x,y,z,u,_=>⟨x,y,z,u,by simp [forL,enumW]⟩
 | w :: r,j,x,y,z,u,ho=>by
  obtain ⟨h1,h2⟩:=ho w vap
  obtain ⟨z1,u1,e1⟩:=znm C (k:=k) (h:=h) (t:=t) (rs:=rs) (pl:=.tup w) (wd:=wd) (g:=g) (r0:=j) w 0 0 z u rfl h2
  obtain ⟨x',y',z',u',e⟩:=zkd (h:=h) (t:=t) (rs:=rs) (k:=k) (wd:=wd) (g:=g) r (j + 1) (some (.int j)) (some (.tup w)) z1 u1 fun q hq=>ho q (vaj _ hq)
  refine ⟨x',y',z',u',?_⟩
  have eb:exs (run F (k + 4)) zgk [some t,some (.int wd),some (.int g),some rs,some (.int j),some (.tup w),z,u] h=.ok (.nx [some t,some (.int wd),some (.int g),some rs,some (.int j),some (.tup w),z1,u1]) h:=by
   simp [zgk,exs,ev,zka (show w.length < 1000000 by omega),e1]
  simp only [forL,vao,enumW,tgW,seqW,zaw,List.set,eb,bindok,e]
theorem zgn {k:Nat} {h:VH} {B:Bd} (b:B.Ok):run F (k + 7) 14 [B.w] h=.ok .non h:=by
 rw [zag C.f14 rfl]
 have e1:=zqa C (k:=k) (h:=⟨h.n,h.n,h.os⟩) b
 have h40:=b.w2
 have h60:=b.r1
 obtain ⟨x',y',z',u',e2⟩:=zkd C (k:=k + 2) (h:=⟨h.n,h.n,h.os⟩) (t:=B.w) (rs:=.tup (B.rows.map .tup)) (wd:=B.wd) (g:=B.gr) B.rows 0 none none none none fun r hr=>⟨by have:=(b.r2 r hr).1; omega,(b.r2 r hr).2⟩
 unfold Bd.w at e1 e2 ⊢
 simp [fn14,exs,ev,e1,zrj,tgW,seqW,zaw,partW,cutW,HT.sIx,zka (show (B.rows.map W.tup).length < 1000000 by rw [vab]; omega),e2]
end
structure CoreD (F:Nat→Option Fn):Prop where
 f2:F 2=some fn2
 f3:F 3=some fn3
 f4:F 4=some fn4
 f5:F 5=some fn5
theorem zaq {h:VH} {i j:Int}:eqW h (.int i) (.int j)=some (decide (i=j)):=by
 unfold eqW
 simp only [toD]
 show some (i == j)=_
 by_cases q:i=j <;> simp [q]
theorem zc5 {i:Int} (h1:-(2 ^ 63)≤i) (h2:i < 2 ^ 63):zbd i=true:=by
 unfold zbd
 simp only [vac,decide_eq_true_eq]
 omega
theorem zbi {h:VH} {i:Nat} {o o0:VO} (g:h.get i=some o0):(h.set i o).get i=some o:=by
 have hi:=zar g
 unfold VH.get at g
 rw [if_pos (zan.mpr hi)] at g
 have hl:=(List.getElem?_eq_some_iff.mp g).1
 unfold VH.get VH.set
 simp only [if_pos (zan.mpr hi)]
 rw [List.getElem?_set_self hl]
theorem zay {h:VH} {i j:Nat} {o o0:VO} (g:h.get i=some o0) (hj:j≠i):(h.set i o).get j=h.get j:=zdg (zar g) hj
structure Dk (h:VH) (d c:Nat) (b:Nat):Prop where
 ne:d≠c
 st:∃ (ns cells:List Int) (p q:Int),h.get d=some (.lst [.fz (ns.map .int),.ref c,.int p,.int q])∧h.get c=some (.lst (cells.map .int))∧(∀ x∈cells,(0:Int)≤x)∧0≤p∧0≤q∧q≤b∧cells.length≤63
theorem Dk.mono {h:VH} {d c b b':Nat} (D:Dk h d c b) (hb:b≤b'):Dk h d c b':=by
 obtain ⟨ne,ns,cells,p,q,a1,a2,a3,a4,a5,a6,a7⟩:=D
 exact ⟨ne,ns,cells,p,q,a1,a2,a3,a4,a5,by omega,a7⟩
structure Keep (h h':VH) (d c:Nat):Prop where
 le:h.n≤h'.n
 get:∀ i o,i≠d→i≠c→h.get i=some o→h'.get i=some o
theorem Keep.refl {h:VH} {d c:Nat}:Keep h h d c:=⟨vae _,fun _ _ _ _ e=>e⟩
theorem Keep.trans {h h1 h2:VH} {d c:Nat} (a:Keep h h1 d c) (b:Keep h1 h2 d c):Keep h h2 d c:=⟨Nat.le_trans a.le b.le,fun i o h1 h2 e=>b.get i o h1 h2 (a.get i o h1 h2 e)⟩
theorem zdm (i:Int):(if i < 0 then -i else i)=(i.natAbs:Int):=by
 split <;> omega
section
variable {F:Nat→Option Fn} (C:CoreD F)
include C
theorem cell {k:Nat} {h:VH} {ns:List Int} {j:Int} (hj:0≤j):∃ r,run F (k + 1) 2 [.fz (ns.map .int),.int j] h=.ok (.int r) h∧0≤r:=by
 rw [zag C.f2 rfl]
 cases ns with
 | nil=>
  refine ⟨7 * j + 3,?_,by omega⟩
  simp [fn2,exs,ev,biW,lenW,seqW,cmpW,zaq,opW,opI,zc5,zai]
 | cons n0 ns0=>
  have hl:(0:Int) < ((n0 :: ns0).length:Int):=by simp only [vah]; omega
  have hm1:=Int.emod_nonneg j (show ((n0 :: ns0).length:Int)≠0 by omega)
  have hm2:=Int.emod_lt_of_pos j hl
  obtain ⟨m,hm⟩:=Int.eq_ofNat_of_zero_le hm1
  have hml:m < (n0 :: ns0).length:=by omega
  have ha:atI (List.map W.int (n0 :: ns0)) (j % ((n0 :: ns0).length:Int))=some (.int ((n0 :: ns0)[m])):=by
   rw [hm]
   exact zbk (by rw [List.getElem?_map,List.getElem?_eq_getElem hml]; rfl)
  have hb:¬(((ns0.length:Int) + 1)=0):=by omega
  have hp:(0:Int) < (ns0.length:Int) + 1:=by omega
  refine ⟨(((n0 :: ns0)[m]).natAbs:Int),?_,by omega⟩
  simp only [vah,Int.natCast_add,Int.cast_ofNat_Int,vao] at ha
  simp [fn2,exs,ev,biW,lenW,seqW,cmpW,zaq,opW,opI,zai,idxW,absW,hb,hp,ha,zdm]
theorem mixed {k:Nat} {h:VH} {ns:List Int} {j m:Int} (hj:0≤j) (hj2:j≤1000000000) (hm:0 < m):∃ r,run F (k + 2) 4 [.fz (ns.map .int),.int j,.int m] h=.ok (.int r) h∧0≤r∧r < m:=by
 rw [zag C.f4 rfl]
 obtain ⟨c,e1,hc⟩:=cell C (k:=k) (h:=⟨h.n,h.n,h.os⟩) (ns:=ns) hj
 have h1:=Int.emod_nonneg c (show (1000003:Int)≠0 by decide)
 have h2:=Int.emod_lt_of_pos c (show (0:Int) < 1000003 by decide)
 generalize hx:c % 1000003=x at h1 h2
 have s1:zbd (x + 5)=true:=zc5 (by omega) (by omega)
 have s2:zbd 7919=true:=zc5 (by omega) (by omega)
 have hb:(x + 5) * (j + 2)≤1000008 * 1000000002:=Int.mul_le_mul (by omega) (by omega) (by omega) (by omega)
 have hb0:0≤(x + 5) * (j + 2):=Int.mul_nonneg (by omega) (by omega)
 generalize hy:(x + 5) * (j + 2)=y at hb hb0
 have hn:(y + 7919 * j).natAbs < 2 ^ 64:=by omega
 refine ⟨(y + 7919 * j) ^ 5 % 2147483647 / 13 % m,?_,Int.emod_nonneg _ (by omega),Int.emod_lt_of_pos _ hm⟩
 have hn':(y + 7919 * j).natAbs < 18446744073709551616:=by omega
 simp [fn4,exs,ev,e1,opW,opI,hx,s1,s2,hy,hn',hm,zai]
theorem zhu {k:Nat} {d c:Nat} {m q:Int} {ns:List Int} (hdc:d≠c) (hm:0 < m) (hm2:m < 1073741824):∀ (n f:Nat) (g:VH) (x:Option W) (cells:List Int) (p:Int),n < f→(cells.length:Int) - p≤n→0≤p→(∀ y∈cells,(0:Int)≤y) →
 g.get d=some (.lst [.fz (ns.map .int),.ref c,.int p,.int q])→g.get c=some (.lst (cells.map .int)) →
 ∃ (g':VH) (cells':List Int) (p':Int),0≤p'∧(∀ y∈cells',(0:Int)≤y)∧cells'.length=cells.length∧g'.get d=some (.lst [.fz (ns.map .int),.ref c,.int p',.int q])∧g'.get c=some (.lst (cells'.map .int))∧g'.n=g.n∧(∀ i,i≠d→i≠c→g'.get i=g.get i) ∧
  ((∃ r,whlG (ev (run F (k + 2)) zhp) (exs (run F (k + 2)) zer) f [some (.ref d),some (.int m),x] g=.ok (.rt (.int r)) g'∧0≤r∧r < m)∨∃ y,whlG (ev (run F (k + 2)) zhp) (exs (run F (k + 2)) zer) f [some (.ref d),some (.int m),x] g=.ok (.nx [some (.ref d),some (.int m),y]) g')
 | n,0,g,x,cells,p,hf,_,_,_,_,_=>by omega
 | n,f + 1,g,x,cells,p,hf,hn,hp,hnn,gd,gc=>by
  have ec:ev (run F (k + 2)) zhp [some (.ref d),some (.int m),x] g=.ok (.bl (decide (p < cells.length))) g:=by
   simp [zhp,ev,idxW,gd,atI,ixN,biW,lenW,seqW,gc,cmpW,cmpI]
  by_cases hlt:p < cells.length
  ·obtain ⟨pn,rfl⟩:=Int.eq_ofNat_of_zero_le hp
   have hpl:pn < cells.length:=by omega
   have hat:atI (cells.map W.int) (pn:Int)=some (.int cells[pn]):=zbk (by rw [List.getElem?_map,List.getElem?_eq_getElem hpl]; rfl)
   by_cases hpos:0 < cells[pn]
   ·refine ⟨g.set c (.lst ((cells.set pn (cells[pn] / m)).map .int)),cells.set pn (cells[pn] / m),pn,hp,?_,by simp,?_,zbi gc,rfl,fun i _ hi=>zay gc hi,.inl ⟨cells[pn] % m,?_,Int.emod_nonneg _ (by omega),Int.emod_lt_of_pos _ hm⟩⟩
    ·intro y hy
     rcases List.mem_or_eq_of_mem_set hy with hy | rfl
     ·exact hnn y hy
     ·exact Int.ediv_nonneg (by omega) (by omega)
    ·rw [zay gc hdc]; exact gd
    ·have hix:ixN (cells.map W.int).length (pn:Int)=some pn:=by
      unfold ixN
      rw [if_pos (by omega),if_pos (by rw [vab]; omega)]; simp
     have eb:exs (run F (k + 2)) zer [some (.ref d),some (.int m),x] g=.ok (.rt (.int (cells[pn] % m))) (g.set c (.lst ((cells.set pn (cells[pn] / m)).map .int))):=by
      have h2:atI [W.fz (ns.map .int),.ref c,.int pn,.int q] 2=some (.int pn):=rfl
      have h1:atI [W.fz (ns.map .int),.ref c,.int pn,.int q] 1=some (.ref c):=rfl
      simp [zer,exs,ev,idxW,gd,h1,h2,gc,hat,cmpW,cmpI,hpos,opW,opI,hm,hm2] at hix ⊢
      simp [hix,hm,List.map_set]
     simp [whlG,ec,hlt,eb]
   ·have gs:(g.set d (.lst [.fz (ns.map .int),.ref c,.int ((pn:Int) + 1),.int q])).get c=some (.lst (cells.map .int)):=by rw [zay gd (Ne.symm hdc)]; exact gc
    cases n with
    | zero=>omega
    | succ n=>
     obtain ⟨g',cells',p',a1,a2,a3,a4,a5,a6,a7,a8⟩:=zhu (k:=k) hdc hm hm2 n f (g.set d (.lst [.fz (ns.map .int),.ref c,.int ((pn:Int) + 1),.int q])) (some (.int cells[pn])) cells (pn + 1) (by omega) (by omega) (by omega) hnn (zbi gd) gs
     have eb:exs (run F (k + 2)) zer [some (.ref d),some (.int m),x] g=.ok (.nx [some (.ref d),some (.int m),some (.int cells[pn])]) (g.set d (.lst [.fz (ns.map .int),.ref c,.int ((pn:Int) + 1),.int q])):=by
      have h2:atI [W.fz (ns.map .int),.ref c,.int pn,.int q] 2=some (.int pn):=rfl
      have h1:atI [W.fz (ns.map .int),.ref c,.int pn,.int q] 1=some (.ref c):=rfl
      have h3:ixN 4 2=some 2:=rfl
      simp [zer,exs,ev,idxW,gd,h1,h2,h3,gc,hat,cmpW,cmpI,hpos,opW,opI]
     refine ⟨g',cells',p',a1,a2,a3,a4,a5,a6,fun i h1 h2=>by rw [a7 i h1 h2,zay gd h1],?_⟩
     rcases a8 with ⟨r,e,h3⟩ | ⟨y,e⟩
     ·exact .inl ⟨r,by simp [whlG,ec,hlt,eb,e],h3⟩
     ·exact .inr ⟨y,by simp [whlG,ec,hlt,eb,e]⟩
  ·exact ⟨g,cells,p,hp,hnn,rfl,gd,gc,rfl,fun _ _ _=>rfl,.inr ⟨x,by simp [whlG,ec,hlt]⟩⟩
omit C in
theorem zes {h h':VH} {w:W} (g:Grow ⟨h.n,h.n,h.os⟩ h'):∃ h2,leave h w h'=.ok w h2∧h.n≤h2.n∧∀ i,i < h.n→h2.get i=h'.get i:=by
 unfold leave
 split
 ·rename_i q
  rw [vac] at q
  have hlo:=Nat.le_of_ble_eq_true q.1
  exact ⟨h,rfl,vae _,fun i hi=>by
   rw [g.2.2 i hi (vak hi hlo)]
   exact get_lo.symm⟩
 ·exact ⟨_,rfl,g.1,fun i hi=>get_lo⟩
theorem take {k:Nat} {h:VH} {d c b:Nat} {m:Int} (D:Dk h d c b) (hb:b < 1000000000) (hm:0 < m) (hm2:m < 1073741824):∃ r h',run F (k + 3) 5 [.ref d,.int m] h=.ok (.int r) h'∧0≤r∧r < m∧Dk h' d c (b + 1)∧Keep h h' d c:=by
 rw [zag C.f5 rfl]
 obtain ⟨hne,ns,cells,p,q,gd,gc,hnn,hp,hq,hqb,hl⟩:=D
 have gd0:VH.get ⟨h.n,h.n,h.os⟩ d=some (.lst [.fz (ns.map .int),.ref c,.int p,.int q]):=by rw [get_lo]; exact gd
 have gc0:VH.get ⟨h.n,h.n,h.os⟩ c=some (.lst (cells.map .int)):=by rw [get_lo]; exact gc
 obtain ⟨g',cells',p',a1,a2,a3,a4,a5,a6,a7,a8⟩:=zhu C (k:=k) hne hm hm2 63 fuel ⟨h.n,h.n,h.os⟩ none cells p (by decide) (by omega) hp hnn gd0 gc0
 have key:∀ (g2:VH) (r:Int) (cells2:List Int) (p2 q2:Int),exs (run F (k + 2)) fn5.body [some (.ref d),some (.int m),none] ⟨h.n,h.n,h.os⟩=.ok (.rt (.int r)) g2→0≤r→r < m→0≤p2→0≤q2→q2≤b + 1→cells2.length≤63→(∀ y∈cells2,(0:Int)≤y) →
  g2.get d=some (.lst [.fz (ns.map .int),.ref c,.int p2,.int q2])→g2.get c=some (.lst (cells2.map .int))→(∀ i,i < h.n→i≠d→i≠c→g2.get i=h.get i) →
  ∃ r h',fin h (exs (run F (k + 2)) fn5.body ([W.ref d,W.int m].map some++List.replicate (fn5.n - fn5.ps) none) ⟨h.n,h.n,h.os⟩)=.ok (.int r) h'∧0≤r∧r < m∧Dk h' d c (b + 1)∧Keep h h' d c:=by
  intro g2 r cells2 p2 q2 e r1 r2 b1 b2 b3 b4 b5 b6 b7 b8
  obtain ⟨h2,e2,hn2,hg2⟩:=zes (w:=.int r) (zhh (zhi F (k + 2)) _ _ _ _ _ e)
  refine ⟨r,h2,?_,r1,r2,⟨hne,ns,cells2,p2,q2,?_,?_,b5,b1,b2,by omega,b4⟩,⟨hn2,fun i o h1 h3 e3=>?_⟩⟩
  ·show fin h (exs (run F (k + 2)) fn5.body [some (.ref d),some (.int m),none] ⟨h.n,h.n,h.os⟩)=_
   rw [e]
   exact e2
  ·rw [hg2 d (zar gd)]; exact b6
  ·rw [hg2 c (zar gc)]; exact b7
  ·rw [hg2 i (zar e3),b8 i (zar e3) h1 h3]; exact e3
 rcases a8 with ⟨r,e,r1,r2⟩ | ⟨y,e⟩
 ·refine key g' r cells' p' q ?_ r1 r2 a1 hq (by omega) (by omega) a2 a4 a5 fun i hi h1 h2=>by rw [a7 i h1 h2,get_lo]
  simp [fn5,exs,e]
 ·obtain ⟨r,e2,r1,r2⟩:=mixed C (k:=k) (h:=g'.set d (.lst [.fz (ns.map .int),.ref c,.int p',.int (q + 1)])) (ns:=ns) (j:=q + 1) (m:=m) (by omega) (by omega) hm
  refine key (g'.set d (.lst [.fz (ns.map .int),.ref c,.int p',.int (q + 1)])) r cells' p' (q + 1) ?_ r1 r2 a1 (by omega) (by omega) (by omega) a2 (zbi a4) (by rw [zay a4 (Ne.symm hne)]; exact a5) fun i hi h1 h2=>by rw [zay a4 h1,a7 i h1 h2,get_lo]
  have h3:atI [W.fz (ns.map .int),.ref c,.int p',.int q] 3=some (.int q):=rfl
  have h30:atI [W.fz (ns.map .int),.ref c,.int p',.int (q + 1)] 3=some (.int (q + 1)):=rfl
  have h00:atI [W.fz (ns.map .int),.ref c,.int p',.int (q + 1)] 0=some (.fz (ns.map .int)):=rfl
  have h33:ixN 4 3=some 3:=rfl
  have hs:=zbi (o:=.lst [.fz (ns.map .int),.ref c,.int p',.int (q + 1)]) a4
  simp [fn5,exs,e,ev,idxW,a4,h3,opW,opI,h33,hs,h30,h00,e2]
end
theorem zaa {cl:Call} {a b:S} {ρ ρ':En} {h h':VH} (e:exs cl a ρ h=.ok (.nx ρ') h'):exs cl (.seq a b) ρ h=exs cl b ρ' h':=by
 simp only [exs,e,bindok]
theorem zab {cl:Call} {a b:S} {ρ:En} {w:W} {h h':VH} (e:exs cl a ρ h=.ok (.rt w) h'):exs cl (.seq a b) ρ h=.ok (.rt w) h':=by
 simp only [exs,e,bindok]
@[simp] theorem exs_skip {cl:Call} {ρ:En} {h:VH}:exs cl .skip ρ h=.ok (.nx ρ) h:=rfl
theorem Dk.new {h:VH} {d c b:Nat} {o:VO} (D:Dk h d c b):Dk (h.new o) d c b:=by
 obtain ⟨ne,ns,cells,p,q,a1,a2,a3⟩:=D
 exact ⟨ne,ns,cells,p,q,by rw [zad (zar a1)]; exact a1,by rw [zad (zar a2)]; exact a2,a3⟩
theorem Keep.new {h h':VH} {d c:Nat} {o:VO} (K:Keep h h' d c):Keep h (h'.new o) d c:=⟨Nat.le_succ_of_le K.le,fun i o' h1 h2 e=>by
 have:=K.get i o' h1 h2 e
 rw [zad (zar this)]; exact this⟩
theorem Dk.lo {h:VH} {d c b l:Nat} (D:Dk h d c b):Dk ⟨h.n,l,h.os⟩ d c b:=by
 obtain ⟨ne,ns,cells,p,q,a1,a2,a3⟩:=D
 exact ⟨ne,ns,cells,p,q,by rw [get_lo]; exact a1,by rw [get_lo]; exact a2,a3⟩
theorem zbj {cl:Call} {h h':VH} {d c b:Nat} {w:W} {fl:Fl} {body:S} {ρ:En} {F:Nat→Option Fn} {k:Nat} (e:exs (run F k) body ρ ⟨h.n,h.n,h.os⟩=.ok (.rt w) h') (D0:Dk h d c 0∨∃ b,Dk h d c b) (D:Dk h' d c b) (K:Keep ⟨h.n,h.n,h.os⟩ h' d c) :
 ∃ h2,fin h (exs (run F k) body ρ ⟨h.n,h.n,h.os⟩)=.ok w h2∧Dk h2 d c b∧Keep h h2 d c:=by
 obtain ⟨h2,e2,hn2,hg2⟩:=zes (w:=w) (zhh (zhi F k) _ _ _ _ _ e)
 have hd:d < h.n∧c < h.n:=by
  rcases D0 with ⟨_,ns,cells,p,q,a1,a2,_⟩ | ⟨b,_,ns,cells,p,q,a1,a2,_⟩ <;> exact ⟨zar a1,zar a2⟩
 refine ⟨h2,by rw [e]; exact e2,?_,⟨hn2,fun i o h1 h3 e3=>?_⟩⟩
 ·obtain ⟨ne,ns,cells,p,q,a1,a2,a3⟩:=D
  exact ⟨ne,ns,cells,p,q,by rw [hg2 d hd.1]; exact a1,by rw [hg2 c hd.2]; exact a2,a3⟩
 ·rw [hg2 i (zar e3)]
  exact K.get i o h1 h3 (by rw [get_lo]; exact e3)
structure CoreP (F:Nat→Option Fn):Prop extends CoreD F where
 f21:F 21=some fn21
 f23:F 23=some fn23
 f25:F 25=some fn25
noncomputable abbrev sDot:Str:=Str.ofString "."
noncomputable abbrev sLt:Str:=Str.ofString "<"
noncomputable abbrev sGt:Str:=Str.ofString ">"
noncomputable abbrev sX:Str:=Str.ofString "x"
noncomputable abbrev sS:Str:=Str.ofString "s"
theorem znn {c wd g:Int}:zaj (.str sDot) c wd g=true:=rfl
theorem may_s {c wd g:Int}:zaj (.str sS) c wd g=true:=rfl
theorem zrk {c wd g:Int} (h:0 < c):zaj (.str sLt) c wd g=true:=by
 have:zaj (.str sLt) c wd g=decide (0 < c):=rfl
 rw [this]; simpa using h
theorem zrl {c wd g:Int} (h:c < wd - 1):zaj (.str sGt) c wd g=true:=by
 have:zaj (.str sGt) c wd g=decide (c < wd - 1):=rfl
 rw [this]; simpa using h
theorem may_x {c wd g:Int} (h:0 < c) (h2:c < wd - 1):zaj (.str sX) c wd g=true:=by
 have:zaj (.str sX) c wd g=(decide (0 < c) && decide (c < wd - 1)):=rfl
 rw [this]; simp [h,h2]
theorem zxk {c wd g a b:Int} (a0:0≤a) (a1:a < g) (b0:0≤b) (b1:b < 2) (h:0 < c) (h2:c < wd - 1):zaj (.tup [.int a,.int b]) c wd g=true:=by
 have h3:zbn (.tup [.int a,.int b]) g=true:=by
  simp only [zbn,within,vac,decide_eq_true_eq]
  omega
 unfold zaj
 rw [h3,Bool.or_true,if_pos rfl]
 simp [h,h2]
inductive Raw (g:Int):W→Prop
 | dot:Raw g (.str sDot)
 | lt:Raw g (.str sLt)
 | gt:Raw g (.str sGt)
 | x:Raw g (.str sX)
 | rk {a b:Int}:0≤a→a < g→0≤b→b < 2→Raw g (.tup [.int a,.int b])
theorem za5 {h:VH} {x y z:Str} (hx:PyData.strOk x=true) (hy:PyData.strOk y=true) (hz:PyData.strOk z=true):inW h (.str x) (.tup [.str y,.str z])=some (y == x || z == x):=by
 have sx:SeqAt.shaped (.str x)=true:=by unfold SeqAt.shaped; show (PyData.strOk x && _)=true; rw [hx]; rfl
 have sy:SeqAt.shaped (.str y)=true:=by unfold SeqAt.shaped; show (PyData.strOk y && _)=true; rw [hy]; rfl
 have sz:SeqAt.shaped (.str z)=true:=by unfold SeqAt.shaped; show (PyData.strOk z && _)=true; rw [hz]; rfl
 simp [inW,seqW,toD,mapO,sx,sy,sz,anyEq,PyData.eqv]
theorem zgo {h:VH} {a b:Int} {y z:Str} (hy:PyData.strOk y=true) (hz:PyData.strOk z=true):inW h (.tup [.int a,.int b]) (.tup [.str y,.str z])=some false:=by
 have sy:SeqAt.shaped (.str y)=true:=by unfold SeqAt.shaped; show (PyData.strOk y && _)=true; rw [hy]; rfl
 have sz:SeqAt.shaped (.str z)=true:=by unfold SeqAt.shaped; show (PyData.strOk z && _)=true; rw [hz]; rfl
 have st:SeqAt.shaped (.tuple [.int a,.int b])=true:=rfl
 simp [inW,seqW,toD,mapO,sy,sz,st,anyEq,PyData.eqv]
noncomputable def pCond:E:=(.or (.and (.cmp .eq (.var 1) (.cst (.int (0)))) (.cmp .nin (.var 5) (.tup (.cons (.cst (.str sDot)) (.cons (.cst (.str sGt)) .nil))))) (.and (.cmp .eq (.var 1) (.op .sub (.var 2) (.cst (.int (1))))) (.cmp .nin (.var 5) (.tup (.cons (.cst (.str sDot)) (.cons (.cst (.str sLt)) .nil))))))
noncomputable def pIdx:E:=(.idx (.lst (.cons (.cst (.str sGt)) (.cons (.cst (.str sLt)) (.cons (.cst (.str sDot)) .nil)))) (.bi .min (.cons (.op .add (.bi .int (.cons (.cmp .gt (.var 1) (.cst (.int (0)))) .nil)) (.op .mul (.cst (.int (2))) (.bi .int (.cons (.cmp .eq (.var 2) (.cst (.int (1)))) .nil)))) (.cons (.cst (.int (2))) .nil))))
noncomputable def pTail:S:=(.seq (.ite pCond (.seq (.ret pIdx) .skip) .skip) (.seq (.ret (.var 5)) .skip))
section
variable {F:Nat→Option Fn} (C:CoreP F)
include C
theorem piece {k:Nat} {h:VH} {d c b:Nat} {co wd g:Int} (D:Dk h d c b) (hb:b + 5 < 1000000000) (h0:0≤co) (h1:co < wd) (g0:0≤g) (g1:g≤8) :
 ∃ w h',run F (k + 4) 21 [.ref d,.int co,.int wd,.int g] h=.ok w h'∧zaj w co wd g=true∧Dk h' d c (b + 5)∧Keep h h' d c:=by
 rw [zag C.f21 rfl]
 have D0:Dk ⟨h.n,h.n,h.os⟩ d c b:=D.lo
 have tail:∀ (w5:W) (lot:Int) (h3:VH),Raw g w5→∃ w h4,exs (run F (k + 3)) pTail
  [some (.ref d),some (.int co),some (.int wd),some (.int g),some (.int lot),some w5] h3=.ok (.rt w) h4∧zaj w co wd g=true∧(h4=h3∨∃ o,h4=h3.new o):=by
  intro w5 lot h3 R
  have two:zbd 2=true:=zc5 (by omega) (by omega)
  have i0:atI [W.str sGt,.str sLt,.str sDot] 0=some (.str sGt):=rfl
  have i1:atI [W.str sGt,.str sLt,.str sDot] 1=some (.str sLt):=rfl
  have i2:atI [W.str sGt,.str sLt,.str sDot] 2=some (.str sDot):=rfl
  have fin1:∀ (b1 b2:Bool),inW h3 w5 (.tup [.str sDot,.str sGt])=some b1→inW h3 w5 (.tup [.str sDot,.str sLt])=some b2→(co≠0∨b1=true)→(co≠wd - 1∨b2=true)→zaj w5 co wd g=true→∃ w h4,exs (run F (k + 3)) pTail
   [some (.ref d),some (.int co),some (.int wd),some (.int g),some (.int lot),some w5] h3=.ok (.rt w) h4∧zaj w co wd g=true∧(h4=h3∨∃ o,h4=h3.new o):=by
   intro b1 b2 n1 n2 o1 o2 hm
   refine ⟨w5,h3,?_,hm,.inl rfl⟩
   by_cases c0:co=0 <;> by_cases c1:co=wd - 1 <;> simp [c0,c1] at o1 o2 <;> simp_all [pTail,pCond,exs,ev,cmpW,zaq,opW,opI]
  have fin2:∀ (b1 b2:Bool),inW h3 w5 (.tup [.str sDot,.str sGt])=some b1→inW h3 w5 (.tup [.str sDot,.str sLt])=some b2→((co=0∧b1=false)∨(co=wd - 1∧b2=false))→∃ w h4,exs (run F (k + 3)) pTail
   [some (.ref d),some (.int co),some (.int wd),some (.int g),some (.int lot),some w5] h3=.ok (.rt w) h4∧zaj w co wd g=true∧(h4=h3∨∃ o,h4=h3.new o):=by
   intro b1 b2 n1 n2 o
   have cond:ev (run F (k + 3)) pCond [some (.ref d),some (.int co),some (.int wd),some (.int g),some (.int lot),some w5] h3=.ok (.bl true) h3:=by
    by_cases c0:co=0 <;> by_cases c1:co=wd - 1 <;> cases b1 <;> cases b2 <;> simp_all [pCond,ev,cmpW,zaq,opW,opI]
   have r1:∀ (x:Str) (j:Int),(if (2:Int) < (if 0 < co then 1 else 0) + 2 * (if wd=1 then 1 else 0) then 2 else (if 0 < co then 1 else 0) + 2 * (if wd=1 then 1 else 0))=j→atI [W.str sGt,.str sLt,.str sDot] j=some (.str x)→ev (run F (k + 3)) pIdx [some (.ref d),some (.int co),some (.int wd),some (.int g),some (.int lot),some w5] h3=.ok (.str x) (h3.new (.lst [W.str sGt,.str sLt,.str sDot])):=by
    intro x j hj ha
    have hg:=zao (h:=h3) (o:=.lst [W.str sGt,.str sLt,.str sDot])
    by_cases c0:0 < co <;> by_cases c1:wd=1 <;> simp [c0,c1] at hj <;> subst hj <;> simp [pIdx,ev,cmpW,cmpI,zaq,opW,opI,two,biW,intW,minW,idxW,hg,ha,c0,c1]
   have fin:∀ x:Str,ev (run F (k + 3)) pIdx [some (.ref d),some (.int co),some (.int wd),some (.int g),some (.int lot),some w5] h3=.ok (.str x) (h3.new (.lst [W.str sGt,.str sLt,.str sDot]))→zaj (.str x) co wd g=true →
    ∃ w h4,exs (run F (k + 3)) pTail [some (.ref d),some (.int co),some (.int wd),some (.int g),some (.int lot),some w5] h3=.ok (.rt w) h4∧zaj w co wd g=true∧(h4=h3∨∃ o,h4=h3.new o):=
    fun x e hm=>⟨.str x,h3.new (.lst [W.str sGt,.str sLt,.str sDot]),by simp only [pTail,exs,cond,bindok,e],hm,.inr ⟨_,rfl⟩⟩
   by_cases w1:wd=1
   ·exact fin sDot (r1 sDot 2 (by rw [if_neg (by omega:¬0 < co)]; simp [w1]) i2) znn
   ·by_cases c0:co=0
    ·exact fin sGt (r1 sGt 0 (by rw [if_neg (by omega:¬0 < co)]; simp [w1]) i0) (zrl (by omega))
    ·exact fin sLt (r1 sLt 1 (by rw [if_pos (by omega:0 < co)]; simp [w1]) i1) (zrk (by omega))
  have d1:(sDot == sLt)=false:=by decide +kernel
  have d2:(sGt == sLt)=false:=by decide +kernel
  have d3:(sDot == sGt)=false:=by decide +kernel
  have d4:(sLt == sGt)=false:=by decide +kernel
  have d5:(sDot == sX)=false:=by decide +kernel
  have d6:(sGt == sX)=false:=by decide +kernel
  have d7:(sLt == sX)=false:=by decide +kernel
  have k1:PyData.strOk sDot=true:=by decide +kernel
  have k2:PyData.strOk sLt=true:=by decide +kernel
  have k3:PyData.strOk sGt=true:=by decide +kernel
  have k4:PyData.strOk sX=true:=by decide +kernel
  cases R with
  | dot=>exact fin1 true true (by rw [za5 k1 k1 k3]; simp) (by rw [za5 k1 k1 k2]; simp) (.inr rfl) (.inr rfl) znn
  | lt=>
   by_cases c0:co=0
   ·exact fin2 false true (by rw [za5 k2 k1 k3,d1,d2]; rfl) (by rw [za5 k2 k1 k2]; simp) (.inl ⟨c0,rfl⟩)
   ·exact fin1 false true (by rw [za5 k2 k1 k3,d1,d2]; rfl) (by rw [za5 k2 k1 k2]; simp) (.inl c0) (.inr rfl) (zrk (by omega))
  | gt=>
   by_cases c0:co=wd - 1
   ·exact fin2 true false (by rw [za5 k3 k1 k3]; simp) (by rw [za5 k3 k1 k2,d3,d4]; rfl) (.inr ⟨c0,rfl⟩)
   ·exact fin1 true false (by rw [za5 k3 k1 k3]; simp) (by rw [za5 k3 k1 k2,d3,d4]; rfl) (.inr rfl) (.inl c0) (zrl (by omega))
  | x=>
   by_cases c0:co=0∨co=wd - 1
   ·exact fin2 false false (by rw [za5 k4 k1 k3,d5,d6]; rfl) (by rw [za5 k4 k1 k2,d5,d7]; rfl) (c0.elim (fun z=>.inl ⟨z,rfl⟩) fun z=>.inr ⟨z,rfl⟩)
   ·exact fin1 false false (by rw [za5 k4 k1 k3,d5,d6]; rfl) (by rw [za5 k4 k1 k2,d5,d7]; rfl) (.inl (by omega)) (.inl (by omega)) (may_x (by omega) (by omega))
  | rk a0 a1 b0 b1=>
   by_cases c0:co=0∨co=wd - 1
   ·exact fin2 false false (zgo k1 k3) (zgo k1 k2) (c0.elim (fun z=>.inl ⟨z,rfl⟩) fun z=>.inr ⟨z,rfl⟩)
   ·exact fin1 false false (zgo k1 k3) (zgo k1 k2) (.inl (by omega)) (.inl (by omega)) (zxk a0 a1 b0 b1 (by omega) (by omega))
 obtain ⟨lot,h1',e1,l0,l1,D1,K1⟩:=take C.toCoreD (k:=k) (m:=10) D0 (by omega) (by omega) (by omega)
 have done:∀ (w5:W) (h3:VH),Raw g w5→Dk h3 d c (b + 5)→Keep ⟨h.n,h.n,h.os⟩ h3 d c→exs (run F (k + 3)) fn21.body [some (.ref d),some (.int co),some (.int wd),some (.int g),none,none] ⟨h.n,h.n,h.os⟩=exs (run F (k + 3)) pTail [some (.ref d),some (.int co),some (.int wd),some (.int g),some (.int lot),some w5] h3 →
  ∃ w h',fin h (exs (run F (k + 3)) fn21.body [some (.ref d),some (.int co),some (.int wd),some (.int g),none,none] ⟨h.n,h.n,h.os⟩)=.ok w h'∧zaj w co wd g=true∧Dk h' d c (b + 5)∧Keep h h' d c:=by
  intro w5 h3 R D3 K3 e
  obtain ⟨w,h4,e4,hm,hh⟩:=tail w5 lot h3 R
  have D4:Dk h4 d c (b + 5)∧Keep ⟨h.n,h.n,h.os⟩ h4 d c:=by
   rcases hh with rfl | ⟨o,rfl⟩
   ·exact ⟨D3,K3⟩
   ·exact ⟨D3.new,K3.new⟩
  obtain ⟨h5,e5,D5,K5⟩:=zbj (cl:=run F (k + 3)) (fl:=.nx []) (e.trans e4) (.inr ⟨b,D⟩) D4.1 D4.2
  exact ⟨w,h5,e5,hm,D5,K5⟩
 have hg1:=zao (h:=h1') (o:=.lst [W.str sDot,.str sLt,.str sGt,.str sX,.str sDot,.str sDot])
 have two:∀ (x:Str) (j:Int),(if (5:Int) < lot then 5 else lot)=j→atI [W.str sDot,.str sLt,.str sGt,.str sX,.str sDot,.str sDot] j=some (.str x)→∀ rest:S,exs (run F (k + 3)) (.seq (.set 4 (.call 5 (.cons (.var 0) (.cons (.cst (.int (10))) .nil)))) (.seq (.set 5 (.idx (.lst (.cons (.cst (.str sDot)) (.cons (.cst (.str sLt)) (.cons (.cst (.str sGt)) (.cons (.cst (.str sX)) (.cons (.cst (.str sDot)) (.cons (.cst (.str sDot)) .nil))))))) (.bi .min (.cons (.var 4) (.cons (.cst (.int (5))) .nil))))) rest)) [some (.ref d),some (.int co),some (.int wd),some (.int g),none,none] ⟨h.n,h.n,h.os⟩ =
  exs (run F (k + 3)) rest [some (.ref d),some (.int co),some (.int wd),some (.int g),some (.int lot),some (.str x)] (h1'.new (.lst [W.str sDot,.str sLt,.str sGt,.str sX,.str sDot,.str sDot])):=by
  intro x j hj ha rest
  refine (zaa (ρ':=[some (.ref d),some (.int co),some (.int wd),some (.int g),some (.int lot),none]) (h':=h1') (by simp [exs,ev,e1])).trans ?_
  refine zaa ?_
  by_cases q:(5:Int) < lot
  ·rw [if_pos q] at hj
   subst hj
   simp [exs,ev,biW,minW,q,idxW,hg1,ha]
  ·rw [if_neg q] at hj
   subst hj
   simp [exs,ev,biW,minW,q,idxW,hg1,ha]
 have low:∀ (x:Str),lot≤3→atI [W.str sDot,.str sLt,.str sGt,.str sX,.str sDot,.str sDot] lot=some (.str x)→Raw g (.str x)→_:=fun x hl ha R=>done (.str x) (h1'.new (.lst [W.str sDot,.str sLt,.str sGt,.str sX,.str sDot,.str sDot])) R (D1.new.mono (by omega)) K1.new (by
  refine (two x lot (if_neg (by omega)) ha _).trans ?_
  have n1:¬(4 < lot):=by omega
  have n2:¬(lot=4):=by omega
  refine (zaa (ρ':=[some (.ref d),some (.int co),some (.int wd),some (.int g),some (.int lot),some (.str x)]) (h':=h1'.new (.lst [W.str sDot,.str sLt,.str sGt,.str sX,.str sDot,.str sDot])) (by simp [exs,ev,cmpW,cmpI,n1])).trans ?_
  refine (zaa (ρ':=[some (.ref d),some (.int co),some (.int wd),some (.int g),some (.int lot),some (.str x)]) (h':=h1'.new (.lst [W.str sDot,.str sLt,.str sGt,.str sX,.str sDot,.str sDot])) (by simp [exs,ev,cmpW,zaq,n2])).trans ?_
  rfl)
 by_cases l4:lot≤3
 ·have:lot=0∨lot=1∨lot=2∨lot=3:=by omega
  rcases this with z | z | z | z
  ·exact low sDot l4 (by rw [z]; rfl) .dot
  ·exact low sLt l4 (by rw [z]; rfl) .lt
  ·exact low sGt l4 (by rw [z]; rfl) .gt
  ·exact low sX l4 (by rw [z]; rfl) .x
 ·by_cases l5:lot=4
  ·-- a blind place,or nothing
   obtain ⟨r4,h4,e4,_,_,D4,K4⟩:=take C.toCoreD (k:=k) (m:=4) (D1.new (o:=.lst [W.str sDot,.str sLt,.str sGt,.str sX,.str sDot,.str sDot])) (by omega) (by omega) (by omega)
   have n1:¬(4 < lot):=by omega
   have s3:∀ rest:S,exs (run F (k + 3)) (.seq (.ite (.and (.cmp .gt (.var 4) (.cst (.int (4)))) (.cmp .gt (.var 3) (.cst (.int (0))))) (.seq (.set 5 (.tup (.cons (.call 5 (.cons (.var 0) (.cons (.var 3) .nil))) (.cons (.call 5 (.cons (.var 0) (.cons (.cst (.int (2))) .nil))) .nil)))) .skip) .skip) rest) [some (.ref d),some (.int co),some (.int wd),some (.int g),some (.int lot),some (.str sDot)] (h1'.new (.lst [W.str sDot,.str sLt,.str sGt,.str sX,.str sDot,.str sDot]))=exs (run F (k + 3)) rest [some (.ref d),some (.int co),some (.int wd),some (.int g),some (.int lot),some (.str sDot)] (h1'.new (.lst [W.str sDot,.str sLt,.str sGt,.str sX,.str sDot,.str sDot])):=fun rest=>zaa (by simp [exs,ev,cmpW,cmpI,n1])
   by_cases r0:r4=0
   ·obtain ⟨h5,e5,D5,K5⟩:=zbj (cl:=run F (k + 3)) (fl:=.nx []) (w:=.str sS) (body:=fn21.body) (ρ:=[some (.ref d),some (.int co),some (.int wd),some (.int g),none,none]) (F:=F) (k:=k + 3) (h:=h) (h':=h4) (b:=b + 5) ((two sDot 4 (by rw [l5]; rfl) rfl _).trans ((s3 _).trans (zab (by simp [exs,ev,cmpW,zaq,l5,e4,r0])))) (.inr ⟨b,D⟩) (D4.mono (by omega)) (K1.new.trans K4)
    exact ⟨_,h5,e5,may_s,D5,K5⟩
   ·exact done (.str sDot) h4 .dot (D4.mono (by omega)) (K1.new.trans K4) ((two sDot 4 (by rw [l5]; rfl) rfl _).trans ((s3 _).trans (zaa (by simp [exs,ev,cmpW,zaq,l5,e4,r0]))))
  ·-- a zbn,if there are groups
   have n1:4 < lot:=by omega
   have n2:¬(lot=4):=by omega
   have ha:∃ j:Int,(if (5:Int) < lot then 5 else lot)=j∧atI [W.str sDot,.str sLt,.str sGt,.str sX,.str sDot,.str sDot] j=some (.str sDot):=⟨5,by split <;> omega,rfl⟩
   obtain ⟨j,hj,ha⟩:=ha
   by_cases hg:0 < g
   ·obtain ⟨ra,h4,e4,a0,a1,D4,K4⟩:=take C.toCoreD (k:=k) (m:=g) (D1.new (o:=.lst [W.str sDot,.str sLt,.str sGt,.str sX,.str sDot,.str sDot])) (by omega) hg (by omega)
    obtain ⟨rb,h5,e5,b0,b1,D5,K5⟩:=take C.toCoreD (k:=k) (m:=2) D4 (by omega) (by omega) (by omega)
    exact done (.tup [.int ra,.int rb]) h5 (.rk a0 a1 b0 b1) (D5.mono (by omega)) ((K1.new.trans K4).trans K5) ((two sDot j hj ha _).trans ((zaa (ρ':=[some (.ref d),some (.int co),some (.int wd),some (.int g),some (.int lot),some (.tup [.int ra,.int rb])]) (h':=h5) (by simp [exs,ev,cmpW,cmpI,n1,hg,e4,e5])).trans (zaa (by simp [exs,ev,cmpW,zaq,n2]))))
   ·exact done (.str sDot) (h1'.new (.lst [W.str sDot,.str sLt,.str sGt,.str sX,.str sDot,.str sDot])) .dot (D1.new.mono (by omega)) K1.new ((two sDot j hj ha _).trans ((zaa (ρ':=[some (.ref d),some (.int co),some (.int wd),some (.int g),some (.int lot),some (.str sDot)]) (h':=h1'.new (.lst [W.str sDot,.str sLt,.str sGt,.str sX,.str sDot,.str sDot])) (by simp [exs,ev,cmpW,cmpI,n1,hg])).trans (zaa (by simp [exs,ev,cmpW,zaq,n2]))))
end
noncomputable def allF (P:Int→W→Prop):Int→List W→Prop
 | _,[]=>True
 | a,w :: r=>P a w∧allF P (a + 1) r
theorem zc6 {P:W→Prop}:∀ {ws:List W} {a:Int},allF (fun _ w=>P w) a ws→∀ w∈ws,P w
 | [],_,_,w,h=>by cases h
 | x :: r,a,⟨h1,h2⟩,w,h=>by
  rcases List.mem_cons.mp h with rfl | h
  ·exact h1
  ·exact zc6 h2 w h
theorem zdn {cl:Call} {P:Int→W→Prop} {e:E} {tl:En} {d c m lim:Nat} (hs:∀ (i:Int) (h:VH) (b:Nat),0≤i→i < lim→Dk h d c b→b + m < 1000000000→∃ w h',ev cl e (some (.int i) :: tl) h=.ok w h'∧P i w∧Dk h' d c (b + m)∧Keep h h' d c) :
 ∀ (n:Nat) (a:Int) (x:Option W) (h:VH) (b:Nat),0≤a→a + n≤lim→Dk h d c b→b + m * n < 1000000000 →
  ∃ ws h',lcL (tgW (.one 0)) (fun _ h=>.ok (.bl true) h) (ev cl e) (zal a n) (x :: tl) h=.ok ws h'∧allF P a ws∧ws.length=n∧Dk h' d c (b + m * n)∧Keep h h' d c
 | 0,a,x,h,b,_,_,D,_=>⟨[],h,rfl,trivial,rfl,by simpa using D,.refl⟩
 | n + 1,a,x,h,b,ha,hl,D,hb=>by
  have e1:m * (n + 1)=m * n + m:=Nat.mul_succ m n
  obtain ⟨w,h1,e2,p1,D1,K1⟩:=hs a h b ha (by omega) D (by omega)
  obtain ⟨ws,h2,e3,p2,l2,D2,K2⟩:=zdn hs n (a + 1) (some (.int a)) h1 (b + m) (by omega) (by omega) D1 (by omega)
  refine ⟨w :: ws,h2,?_,⟨p1,p2⟩,by rw [vah,l2],D2.mono (by omega),K1.trans K2⟩
  simp only [zal,lcL,tgW,List.set,ev,bindok,e2,e3]
theorem zcl {n:Nat} (h:n≤1000000):Nat.ble n big=true:=Nat.ble_eq.mpr (Nat.le_trans h (by decide))
theorem zrm {cl:Call} {a:E} {ρ:En} {h h1 h2:VH} {n ow:Nat} {ix:List Nat} {e:E} {ys:List W} (ea:ev cl a ρ h=.ok (.tup [.int n]) h1) (hn:n < 1000000) (el:lcL (tgW (.one 0)) (fun _ h=>.ok (.bl true) h) (ev cl e) (zal 0 n) (inner ow ix ρ) h1=.ok ys h2) (hy:ys.length≤1000000) :
 ev cl (.lc .rng1 a (.one 0) ow ix (.cst (.bl true)) e) ρ h=.ok (.ref h2.n) (h2.new (.lst ys)):=by
 have l:=zxj (n:=n) (tg:=tgW (.one 0)) (c:=fun _ h=>.ok (.bl true) h) (e:=ev cl e) (ρ:=inner ow ix ρ) (h:=h1) hn
 rw [el] at l
 have q:ev cl (.lc .rng1 a (.one 0) ow ix (.cst (.bl true)) e) ρ h=(ev cl a ρ h).bind fun x h=>(lcG (nxt .rng1 x) (tgW (.one 0)) (ev cl (.cst (.bl true))) (ev cl e) fuel 0 (inner ow ix ρ) h []).bind fun ys h=>if Nat.ble ys.length big then .ok (.ref h.n) (h.new (.lst ys)) else .no:=by rw [ev]
 rw [q,ea,bindok]
 show (lcG (nxt .rng1 (.tup [.int n])) (tgW (.one 0)) (fun _ h=>.ok (.bl true) h) (ev cl e) fuel 0 (inner ow ix ρ) h1 []).bind _=_
 rw [l,bindok,if_pos (zcl hy)]
theorem zfp {cl:Call} {x:E} {ρ:En} {h h1:VH} {i:Nat} {ys:List W} (e:ev cl x ρ h=.ok (.ref i) h1) (g:h1.get i=some (.lst ys)):ev cl (.bi .tuple (.cons x .nil)) ρ h=.ok (.tup ys) h1:=by
 simp only [ev,e,bindok,biW,zcu,seqW,g,van,ofsome]
theorem zke {cl:Call} {a:E} {ρ:En} {h h1 h2:VH} {n ow:Nat} {ix:List Nat} {e:E} {ys:List W} (ea:ev cl a ρ h=.ok (.tup [.int n]) h1) (hn:n < 1000000) (el:lcL (tgW (.one 0)) (fun _ h=>.ok (.bl true) h) (ev cl e) (zal 0 n) (inner ow ix ρ) h1=.ok ys h2) (hy:ys.length≤1000000) :
 ev cl (.bi .tuple (.cons (.lc .rng1 a (.one 0) ow ix (.cst (.bl true)) e) .nil)) ρ h=.ok (.tup ys) (h2.new (.lst ys)):=zfp (zrm ea hn el hy) zao
theorem zfq {wd g:Int}:∀ {ws:List W} {c:Int},allF (fun i w=>zaj w i wd g=true) c ws→rowOk wd g c ws
 | [],_,_=>trivial
 | _ :: _,_,⟨h1,h2⟩=>⟨h1,zfq h2⟩
section
variable {F:Nat→Option Fn} (C:CoreP F)
include C
theorem row {k:Nat} {h:VH} {d c b:Nat} {wd:Nat} {g:Int} (D:Dk h d c b) (hb:b + 200 < 1000000000) (h1:wd≤40) (g0:0≤g) (g1:g≤8) :
 ∃ ws h',run F (k + 5) 25 [.ref d,.int wd,.int g] h=.ok (.tup ws) h'∧ws.length=wd∧rowOk wd g 0 ws∧Dk h' d c (b + 200)∧Keep h h' d c:=by
 rw [zag C.f25 rfl]
 have D0:Dk ⟨h.n,h.n,h.os⟩ d c b:=D.lo
 obtain ⟨ws,h2,e2,p2,l2,D2,K2⟩:=zdn (cl:=run F (k + 4)) (P:=fun i w=>zaj w i wd g=true) (e:=zgl) (tl:=[some (.ref d),some (.int g),some (.int wd)]) (m:=5) (lim:=wd) (fun i h b h0 hl D hb=>by
  obtain ⟨w,h',e,a1,a2,a3⟩:=piece C (k:=k) (co:=i) (wd:=wd) (g:=g) D hb h0 hl g0 g1
  exact ⟨w,h',by simp [zgl,ev,e],a1,a2,a3⟩) wd 0 none ⟨h.n,h.n,h.os⟩ b (by omega) (by omega) D0 (by omega)
 have e3:=zke (cl:=run F (k + 4)) (a:=.cons (.var 1) .nil) (ρ:=[some (.ref d),some (.int wd),some (.int g)]) (h:=⟨h.n,h.n,h.os⟩) (ow:=1) (ix:=[0,2,1]) (e:=zgl) (by simp [ev]) (by omega) e2 (by omega)
 obtain ⟨h5,e5,D5,K5⟩:=zbj (cl:=run F (k + 4)) (fl:=.nx []) (w:=.tup ws) (body:=fn25.body) (ρ:=[some (.ref d),some (.int wd),some (.int g)]) (F:=F) (k:=k + 4) (h:=h) (h':=h2.new (.lst ws)) (by simp only [fn25,exs,e3,bindok]) (.inr ⟨b,D⟩) (D2.new.mono (show _≤b + 200 by omega)) K2.new
 exact ⟨ws,h5,e5,l2,zfq p2,D5,K5⟩
theorem zla {k:Nat} {h:VH} {d c b:Nat} {nf:Int} (D:Dk h d c b) (hb:b + 5 < 1000000000) (n0:1≤nf) (n1:nf≤4) :
 ∃ w h',run F (k + 4) 23 [.ref d,.int nf] h=.ok w h'∧door w nf=true∧Dk h' d c (b + 5)∧Keep h h' d c:=by
 rw [zag C.f23 rfl]
 have D0:Dk ⟨h.n,h.n,h.os⟩ d c b:=D.lo
 obtain ⟨r1,h1,e1,a1,b1,D1,K1⟩:=take C.toCoreD (k:=k) (m:=3) D0 (by omega) (by omega) (by omega)
 obtain ⟨r2,h2,e2,a2,b2,D2,K2⟩:=take C.toCoreD (k:=k) (m:=100) D1 (by omega) (by omega) (by omega)
 have hg:=zao (h:=h2) (o:=.lst [.int r1,.int r2])
 obtain ⟨r3,h3,e3,a3,b3,D3,K3⟩:=take C.toCoreD (k:=k) (m:=4) (D2.new (o:=.lst [.int r1,.int r2])) (by omega) (by omega) (by omega)
 obtain ⟨r4,h4,e4,a4,b4,D4,K4⟩:=take C.toCoreD (k:=k) (m:=nf) D3 (by omega) (by omega) (by omega)
 obtain ⟨r5,h5,e5,a5,b5,D5,K5⟩:=take C.toCoreD (k:=k) (m:=8) D4 (by omega) (by omega) (by omega)
 obtain ⟨_,ns,cells,p,q,gd,gc,_⟩:=D2
 have hg3:h3.get h2.n=some (.lst [.int r1,.int r2]):=K3.get _ _ (Nat.ne_of_gt (zar gd)) (Nat.ne_of_gt (zar gc)) hg
 have KK:Keep ⟨h.n,h.n,h.os⟩ h5 d c:=((((K1.trans K2).new (o:=.lst [.int r1,.int r2])).trans K3).trans K4).trans K5
 have nm:∃ x:Int,0≤x∧x≤99∧exs (run F (k + 3)) (.set 2 (.idx (.lst (.cons (.call 5 (.cons (.var 0) (.cons (.cst (.int (3))) .nil))) (.cons (.call 5 (.cons (.var 0) (.cons (.cst (.int (100))) .nil))) .nil))) (.bi .int (.cons (.cmp .eq (.call 5 (.cons (.var 0) (.cons (.cst (.int (4))) .nil))) (.cst (.int (0)))) .nil)))) [some (.ref d),some (.int nf),none,none] ⟨h.n,h.n,h.os⟩=.ok (.nx [some (.ref d),some (.int nf),some (.int x),none]) h3:=by
  have i0:atI [W.int r1,.int r2] 0=some (.int r1):=rfl
  have i1:atI [W.int r1,.int r2] 1=some (.int r2):=rfl
  by_cases z:r3=0
  ·exact ⟨r2,a2,by omega,by simp [exs,ev,e1,e2,e3,cmpW,zaq,z,biW,intW,idxW,hg3,i1]⟩
  ·exact ⟨r1,a1,by omega,by simp [exs,ev,e1,e2,e3,cmpW,zaq,z,biW,intW,idxW,hg3,i0]⟩
 obtain ⟨x,x0,x1,ex⟩:=nm
 have e6:exs (run F (k + 3)) (.set 3 (.call 5 (.cons (.var 0) (.cons (.var 1) .nil)))) [some (.ref d),some (.int nf),some (.int x),none] h3=.ok (.nx [some (.ref d),some (.int nf),some (.int x),some (.int r4)]) h4:=by simp [exs,ev,e4]
 have hd:∀ w:W,w=.tup [.int x,.non]∨w=.tup [.int x,.int r4]→door w nf=true:=by
  intro w hw
  rcases hw with rfl | rfl
  ·simp [door,within,fon,isNon,x0,x1]
  ·simp only [door,within,fon,isNon,vac,decide_eq_true_eq,Bool.false_or]
   omega
 have body:∃ w,exs (run F (k + 3)) fn23.body [some (.ref d),some (.int nf),none,none] ⟨h.n,h.n,h.os⟩=.ok (.rt w) h5∧door w nf=true:=by
  by_cases z:r5=0
  ·exact ⟨.tup [.int x,.non],(zaa ex).trans ((zaa e6).trans (by simp [exs,ev,e5,cmpW,zaq,z])),hd _ (.inl rfl)⟩
  ·exact ⟨.tup [.int x,.int r4],(zaa ex).trans ((zaa e6).trans (by simp [exs,ev,e5,cmpW,zaq,z])),hd _ (.inr rfl)⟩
 obtain ⟨w,eb,hw⟩:=body
 obtain ⟨h6,e7,D6,K6⟩:=zbj (cl:=run F (k + 3)) (fl:=.nx []) eb (.inr ⟨b,D⟩) (D5.mono (show _≤b + 5 by omega)) KK
 exact ⟨w,h6,e7,hw,D6,K6⟩
theorem ztn {k:Nat} {d c wd n b:Nat} {g:Int} {h:VH} {x:Option W} (D:Dk h d c b) (hb:b + 200 * n < 1000000000) (h1:wd≤40) (g0:0≤g) (g1:g≤8) :
 ∃ (rs:List (List W)) (h':VH),lcL (tgW (.one 0)) (fun _ h=>.ok (.bl true) h) (ev (run F (k + 5)) (.call 25 (.cons (.var 1) (.cons (.var 3) (.cons (.var 2) .nil))))) (zal 0 n) [x,some (.ref d),some (.int g),some (.int wd)] h=.ok (rs.map .tup) h'∧rs.length=n∧(∀ r∈rs,(r.length:Int)=wd∧rowOk wd g 0 r)∧Dk h' d c (b + 200 * n)∧Keep h h' d c:=by
 obtain ⟨ws,h',e,p,l,D',K'⟩:=zdn (cl:=run F (k + 5)) (P:=fun _ w=>∃ r,w=.tup r∧(r.length:Int)=wd∧rowOk wd g 0 r) (e:=.call 25 (.cons (.var 1) (.cons (.var 3) (.cons (.var 2) .nil)))) (tl:=[some (.ref d),some (.int g),some (.int wd)]) (m:=200) (lim:=n) (fun i h b _ _ D hb=>by
  obtain ⟨ws,h',e,a1,a2,a3,a4⟩:=row C (k:=k) (wd:=wd) (g:=g) D hb h1 g0 g1
  exact ⟨.tup ws,h',by simp [ev,e],⟨ws,rfl,by omega,a2⟩,a3,a4⟩) n 0 x h b (by omega) (by omega) D hb
 replace p:=zc6 p
 have hr:∃ rs:List (List W),ws=rs.map .tup∧∀ r∈rs,(r.length:Int)=wd∧rowOk wd g 0 r:=by
  clear e l
  induction ws with
  | nil=>exact ⟨[],rfl,fun r hr=>by cases hr⟩
  | cons w ws ih=>
   obtain ⟨rs,e1,e2⟩:=ih fun w hw=>p w (vaj _ hw)
   obtain ⟨r,e3,e4⟩:=p w vap
   refine ⟨r :: rs,by rw [e3,e1]; rfl,fun q hq=>?_⟩
   rcases List.mem_cons.mp hq with rfl | hq
   ·exact e4
   ·exact e2 q hq
 obtain ⟨rs,rfl,hrs⟩:=hr
 exact ⟨rs,h',e,by rw [← l,vab],hrs,D',K'⟩
theorem zlb {k:Nat} {d c wd n b:Nat} {h:VH} {x:Option W} (D:Dk h d c b) (hb:b + 1 * n < 1000000000) (h0:1≤wd) (h1:wd≤40) :
 ∃ (fs:List W) (h':VH),lcL (tgW (.one 0)) (fun _ h=>.ok (.bl true) h) (ev (run F (k + 3)) (.call 5 (.cons (.var 1) (.cons (.var 2) .nil)))) (zal 0 n) [x,some (.ref d),some (.int wd)] h=.ok fs h'∧fs.length=n∧(∀ f∈fs,within f 0 ((wd:Int) - 1)=true)∧Dk h' d c (b + 1 * n)∧Keep h h' d c:=by
 obtain ⟨ws,h',e,p,l,D',K'⟩:=zdn (cl:=run F (k + 3)) (P:=fun _ w=>within w 0 ((wd:Int) - 1)=true) (e:=.call 5 (.cons (.var 1) (.cons (.var 2) .nil))) (tl:=[some (.ref d),some (.int wd)]) (m:=1) (lim:=n) (fun i h b _ _ D hb=>by
  obtain ⟨r,h',e,a1,a2,a3,a4⟩:=take C.toCoreD (k:=k) (m:=wd) D (by omega) (by omega) (by omega)
  exact ⟨.int r,h',by simp [ev,e],by simp only [within,vac,decide_eq_true_eq]; omega,a3,a4⟩) n 0 x h b (by omega) (by omega) D hb
 exact ⟨ws,h',e,l,zc6 p,D',K'⟩
theorem zqb {k:Nat} {d c n b:Nat} {h:VH} {x:Option W} {fs:List W} (D:Dk h d c b) (hb:b + 5 * n < 1000000000) (h0:1≤fs.length) (h1:fs.length≤4) :
 ∃ (ds:List W) (h':VH),lcL (tgW (.one 0)) (fun _ h=>.ok (.bl true) h) (ev (run F (k + 4)) (.call 23 (.cons (.var 1) (.cons (.bi .len (.cons (.var 2) .nil)) .nil)))) (zal 0 n) [x,some (.ref d),some (.tup fs)] h=.ok ds h'∧ds.length=n∧(∀ w∈ds,door w fs.length=true)∧Dk h' d c (b + 5 * n)∧Keep h h' d c:=by
 obtain ⟨ws,h',e,p,l,D',K'⟩:=zdn (cl:=run F (k + 4)) (P:=fun _ w=>door w fs.length=true) (e:=.call 23 (.cons (.var 1) (.cons (.bi .len (.cons (.var 2) .nil)) .nil))) (tl:=[some (.ref d),some (.tup fs)]) (m:=5) (lim:=n) (fun i h b _ _ D hb=>by
  obtain ⟨w,h',e,a1,a2,a3⟩:=zla C (k:=k) (nf:=fs.length) D hb (by omega) (by omega)
  exact ⟨w,h',by simp [ev,e,biW,lenW,seqW],a1,a2,a3⟩) n 0 x h b (by omega) (by omega) D hb
 exact ⟨ws,h',e,l,zc6 p,D',K'⟩
end
structure CoreQ (F:Nat→Option Fn):Prop extends CoreP F where
 f26:F 26=some fn26
section
variable {F:Nat→Option Fn} (C:CoreQ F)
include C
theorem zet {k:Nat} {h:VH} {d c b:Nat} {mw mr mg:Int} (D:Dk h d c b) (hb:b + 13000 < 1000000000) (w0:1≤mw) (w1:mw≤40) (r0:0≤mr) (r1:mr≤60) (g0:0≤mg) (g1:mg≤8) :
 ∃ B h',run F (k + 6) 26 [.ref d,.int mw,.int mr,.int mg] h=.ok (Bd.w B) h'∧B.Ok∧B.wd≤mw∧B.gr≤mg∧(B.rows.length:Int)≤mr∧Dk h' d c (b + 13000)∧Keep h h' d c:=by
 rw [zag C.f26 rfl]
 have D0:Dk ⟨h.n,h.n,h.os⟩ d c b:=D.lo
 obtain ⟨t1,h1,e1,a1,b1,D1,K1⟩:=take C.toCoreD (k:=k + 2) (m:=mw) D0 (by omega) (by omega) (by omega)
 obtain ⟨wd,hwd⟩:=Int.eq_ofNat_of_zero_le (show 0≤1 + t1 by omega)
 obtain ⟨gr,h2,e2,a2,b2,D2,K2⟩:=take C.toCoreD (k:=k + 2) (m:=mg + 1) D1 (by omega) (by omega) (by omega)
 obtain ⟨t3,h3,e3,a3,b3,D3,K3⟩:=take C.toCoreD (k:=k + 2) (m:=mr + 1) D2 (by omega) (by omega) (by omega)
 obtain ⟨nr,hnr⟩:=Int.eq_ofNat_of_zero_le a3
 obtain ⟨rs,h4,e4,l4,p4,D4,K4⟩:=ztn C.toCoreP (k:=k) (n:=nr) (wd:=wd) (g:=gr) (x:=none) D3 (by omega) (by omega) a2 (by omega)
 have D4':=D4.new (o:=.lst (rs.map .tup))
 obtain ⟨t5,h5,e5,a5,b5,D5,K5⟩:=take C.toCoreD (k:=k + 2) (m:=4) D4' (by omega) (by omega) (by omega)
 obtain ⟨nf,hnf⟩:=Int.eq_ofNat_of_zero_le (show 0≤1 + t5 by omega)
 obtain ⟨fs,h6,e6,l6,p6,D6,K6⟩:=zlb C.toCoreP (k:=k + 2) (n:=nf) (wd:=wd) (x:=none) D5 (by omega) (by omega) (by omega)
 have D6':=D6.new (o:=.lst fs)
 obtain ⟨ds,h7,e7,l7,p7,D7,K7⟩:=zqb C.toCoreP (k:=k + 1) (n:=wd) (fs:=fs) (x:=none) D6' (by omega) (by omega) (by omega)
 obtain ⟨hne,ns,cells,p,q,gd,gc,_⟩:=D4
 have gl:(h7.new (.lst ds)).get h4.n=some (.lst (rs.map .tup)):=by
  have n1:h4.n≠d:=Nat.ne_of_gt (zar gd)
  have n2:h4.n≠c:=Nat.ne_of_gt (zar gc)
  have q1:=K5.get h4.n _ n1 n2 zao
  have q2:=K6.get h4.n _ n1 n2 q1
  have q3:(h6.new (.lst fs)).get h4.n=some (.lst (rs.map .tup)):=by rw [zad (zar q2)]; exact q2
  have q4:=K7.get h4.n _ n1 n2 q3
  rw [zad (zar q4)]; exact q4
 have s1:exs (run F (k + 5)) (.set 4 (.op .add (.cst (.int (1))) (.call 5 (.cons (.var 0) (.cons (.var 1) .nil))))) [some (.ref d),some (.int mw),some (.int mr),some (.int mg),none,none,none,none,none] ⟨h.n,h.n,h.os⟩=.ok (.nx [some (.ref d),some (.int mw),some (.int mr),some (.int mg),some (.int wd),none,none,none,none]) h1:=by
  simp [exs,ev,e1,opW,opI,hwd]
 have s2:exs (run F (k + 5)) (.set 5 (.call 5 (.cons (.var 0) (.cons (.op .add (.var 3) (.cst (.int (1)))) .nil)))) [some (.ref d),some (.int mw),some (.int mr),some (.int mg),some (.int wd),none,none,none,none] h1=.ok (.nx [some (.ref d),some (.int mw),some (.int mr),some (.int mg),some (.int wd),some (.int gr),none,none,none]) h2:=by
  simp [exs,ev,e2,opW,opI]
 have s3:=zrm (cl:=run F (k + 5)) (a:=.cons (.call 5 (.cons (.var 0) (.cons (.op .add (.var 2) (.cst (.int (1)))) .nil))) .nil) (ρ:=[some (.ref d),some (.int mw),some (.int mr),some (.int mg),some (.int wd),some (.int gr),none,none,none]) (h:=h2) (h1:=h3) (n:=nr) (ow:=1) (ix:=[0,5,4]) (by simp [ev,opW,opI,e3,hnr]) (by omega) e4 (by rw [vab]; omega)
 have s4:=zke (cl:=run F (k + 5)) (a:=.cons (.op .add (.cst (.int (1))) (.call 5 (.cons (.var 0) (.cons (.cst (.int (4))) .nil)))) .nil) (ρ:=[some (.ref d),some (.int mw),some (.int mr),some (.int mg),some (.int wd),some (.int gr),some (.ref h4.n),none,none]) (h:=h4.new (.lst (rs.map .tup))) (h1:=h5) (n:=nf) (ow:=1) (ix:=[0,4]) (by simp [ev,opW,opI,e5,hnf]) (by omega) e6 (by omega)
 have s5:=zke (cl:=run F (k + 5)) (a:=.cons (.var 4) .nil) (ρ:=[some (.ref d),some (.int mw),some (.int mr),some (.int mg),some (.int wd),some (.int gr),some (.ref h4.n),some (.tup fs),none]) (h:=h6.new (.lst fs)) (h1:=h6.new (.lst fs)) (n:=wd) (ow:=1) (ix:=[0,7]) (by simp [ev]) (by omega) e7 (by omega)
 have body:exs (run F (k + 5)) fn26.body [some (.ref d),some (.int mw),some (.int mr),some (.int mg),none,none,none,none,none] ⟨h.n,h.n,h.os⟩=.ok (.rt (Bd.w ⟨wd,gr,rs,fs,ds⟩)) (h7.new (.lst ds)):=by
  refine (zaa s1).trans ((zaa s2).trans ?_)
  refine (zaa (ρ':=[some (.ref d),some (.int mw),some (.int mr),some (.int mg),some (.int wd),some (.int gr),some (.ref h4.n),none,none]) (h':=h4.new (.lst (rs.map .tup))) (by unfold zng; simp only [exs,s3,bindok]; rfl)).trans ?_
  refine (zaa (ρ':=[some (.ref d),some (.int mw),some (.int mr),some (.int mg),some (.int wd),some (.int gr),some (.ref h4.n),some (.tup fs),none]) (h':=h6.new (.lst fs)) (by unfold znh; simp only [exs,s4,bindok]; rfl)).trans ?_
  refine (zaa (ρ':=[some (.ref d),some (.int mw),some (.int mr),some (.int mg),some (.int wd),some (.int gr),some (.ref h4.n),some (.tup fs),some (.tup ds)]) (h':=h7.new (.lst ds)) (by unfold zni; simp only [exs,s5,bindok]; rfl)).trans ?_
  simp [exs,ev,biW,zcu,seqW,gl,Bd.w]
 have KK:Keep ⟨h.n,h.n,h.os⟩ (h7.new (.lst ds)) d c:=((((((K1.trans K2).trans K3).trans K4).new.trans K5).trans K6).new.trans K7).new
 obtain ⟨h8,e8,D8,K8⟩:=zbj (cl:=run F (k + 5)) (fl:=.nx []) body (.inr ⟨b,D⟩) (D7.new.mono (show _≤b + 13000 by omega)) KK
 refine ⟨⟨wd,gr,rs,fs,ds⟩,h8,e8,⟨by show (1:Int)≤wd; omega,by show (wd:Int)≤40; omega,a2,by show gr≤8; omega,by show rs.length≤60; omega,p4,by show 1≤fs.length; omega,by show fs.length≤4; omega,p6,by show (ds.length:Int)=wd; omega,p7⟩,by show (wd:Int)≤mw; omega,by show gr≤mg; omega,by show (rs.length:Int)≤mr; omega,D8,K8⟩
end
structure Gw (h h':VH):Prop where
 le:h.n≤h'.n
 lo:h'.lo=h.lo
 get:∀ i o,h.get i=some o→h'.get i=some o
theorem zqc {h h':VH} {w:W} {n:Nat} (g:Gw ⟨h.n,h.n,h.os⟩ h') (hw:∀ m,W.lt m w=true):fin h (.ok (.rt w) h')=.ok w h:=zai (by rw [g.lo]; exact vae _) (hw _)
theorem zno {n:Nat} (h:n≤1000000):Nat.blt n big=true:=zan.mpr (Nat.lt_of_le_of_lt h (by decide))
theorem zxl {h:VH} {xs ys:List W} (hl:xs.length + ys.length≤1000000):opW .add (.tup xs) (.tup ys) h=.ok (.tup (xs++ys)) h:=by
 have:opT .add xs ys=some (xs++ys):=if_pos (zcl hl)
 simp only [opW,this,van,ofsome]
theorem znp {h:VH} {i j:Nat} {xs ys:List W} (hi:h.get i=some (.lst xs)) (hj:h.get j=some (.lst ys)) (hl:xs.length + ys.length≤1000000):opW .add (.ref i) (.ref j) h=.ok (.ref h.n) (h.new (.lst (xs++ys))):=by
 have:opL .add xs ys=some (xs++ys):=if_pos (zcl hl)
 simp only [opW,hi,hj,this]
theorem zbp {cl:Call} {i l:Nat} {x:E} {ρ:En} {h h1:VH} {w:W} {acc acc0:List W} (hρ:ρ[i]?=some (some (.ref l))) (g0:h.get l=some (.lst acc0)) (e:ev cl x ρ h=.ok w h1) (g:h1.get l=some (.lst acc)) (hl:acc.length≤1000000) :
 ev cl (.mt .append (.var i) (.cons x .nil)) ρ h=.ok .non (h1.set l (.lst (acc++[w]))):=by
 have hk:zhf .append h (.ref l)=true:=by simp only [zhf,g0]
 have hm:mtW .append (.ref l) [w] h1=.ok .non (h1.set l (.lst (acc++[w]))):=by
  simp only [mtW,g]
  rw [if_pos (zno hl)]
 simp only [ev,hρ,Option.join_some,ofsome,bindok,hk,if_true,e,hm]
theorem zi8 {w:W} {g:Int} (h:zbn w g=true):∃ a b:Int,w=.tup [.int a,.int b]∧0≤a∧a < g∧0≤b∧b < 2:=by
 cases w <;> simp only [zbn] at h <;> try (cases h; done)
 rename_i us
 rcases us with _ | ⟨a,_ | ⟨b,_ | _⟩⟩ <;> simp at h
 obtain ⟨h1,h2⟩:=h
 cases a <;> simp [within] at h1
 cases b <;> simp [within] at h2
 exact ⟨_,_,rfl,by omega,by omega,by omega,by omega⟩
theorem zeu {w:W} {n:Int} (h:door w n=true):∃ (a:Int) (b:W),w=.tup [.int a,b]∧0≤a∧a≤99∧(b=.non∨∃ i:Int,b=.int i∧0≤i∧i < n):=by
 cases w <;> simp only [door] at h <;> try (cases h; done)
 rename_i us
 rcases us with _ | ⟨a,_ | ⟨b,_ | _⟩⟩ <;> simp at h
 obtain ⟨h1,h2⟩:=h
 cases a <;> simp [within] at h1
 unfold fon at h2
 cases b <;> simp [within,isNon] at h2
 ·exact ⟨_,_,rfl,h1.1,h1.2,.inl rfl⟩
 ·exact ⟨_,_,rfl,h1.1,h1.2,.inr ⟨_,rfl,by omega,by omega⟩⟩
noncomputable def fn17:Fn:=⟨2,2,(.seq (.ret (.call 7 (.cons (.var 0) (.cons (.var 1) (.cons (.var 1) (.cons (.cst (.int (0))) (.cons (.cst (.int (1))) .nil))))))) .skip)⟩
noncomputable def zgp:E:=(.call 5 (.cons (.var 1) (.cons (.cst (.int (2))) .nil)))
noncomputable def fn20:Fn:=⟨2,2,(.seq (.ret (.bi .tuple (.cons (.lc .rng1 (.cons (.var 1) .nil) (.one 0) 1 [0] (.cst (.bl true)) zgp) .nil))) .skip)⟩
noncomputable def fn27:Fn:=⟨2,4,(.seq (.expr (.call 14 (.cons (.var 0) .nil))) (.seq (.ite (.not (.tru (.call 6 (.cons (.var 1) (.cons (.cst (.int (2))) (.cons (.cst (.int (2))) .nil)))))) (.seq (.ret (.cst (.bl false))) .skip) .skip) (.seq (.unp [2,3] (.var 1)) (.seq (.ret (.and (.call 17 (.cons (.var 2) (.cons (.idx (.var 0) (.cst (.int (1)))) .nil))) (.call 12 (.cons (.var 3) (.cons (.bi .len (.cons (.idx (.var 0) (.cst (.int (3)))) .nil)) .nil))))) .skip))))⟩
noncomputable def fn29:Fn:=⟨2,2,(.seq (.ite (.not (.tru (.call 27 (.cons (.var 0) (.cons (.var 1) .nil))))) (.seq .no .skip) .skip) .skip)⟩
noncomputable def zdo:S:=(.seq (.set 8 (.idx (.var 7) (.idx (.var 4) (.neg (.cst (.int (1))))))) (.seq (.ite (.cmp .eq (.var 8) (.cst (.str (PySem.Str.ofString "s")))) (.seq (.ret (.lst (.cons (.bi .tuple (.cons (.var 4) .nil)) (.cons (.bi .tuple (.cons (.var 5) .nil)) (.cons (.bi .tuple (.cons (.var 1) .nil)) (.cons (.cst (.bl true)) .nil)))))) .skip) .skip) (.seq (.ite (.or (.cmp .eq (.var 8) (.cst (.str (PySem.Str.ofString ".")))) (.or (.cmp .eq (.var 8) (.cst (.str (PySem.Str.ofString "<")))) (.cmp .eq (.var 8) (.cst (.str (PySem.Str.ofString ">")))))) (.seq (.set 6 (.idx (.dsp (.cons (.cst (.str (PySem.Str.ofString "."))) (.cons (.cst (.int (0))) (.cons (.cst (.str (PySem.Str.ofString "<"))) (.cons (.neg (.cst (.int (1)))) (.cons (.cst (.str (PySem.Str.ofString ">"))) (.cons (.cst (.int (1))) .nil))))))) (.var 8))) .skip) (.seq (.ite (.cmp .ne (.var 8) (.cst (.str (PySem.Str.ofString "x")))) (.seq (.set 6 (.op .sub (.cst (.int (1))) (.op .mul (.cst (.int (2))) (.bi .int (.cons (.cmp .eq (.idx (.var 1) (.idx (.var 8) (.cst (.int (0))))) (.idx (.var 8) (.cst (.int (1))))) .nil))))) (.seq (.expr (.mt .append (.var 5) (.cons (.idx (.var 8) (.cst (.int (0)))) .nil))) (.seq (.put (.var 1) (.idx (.var 8) (.cst (.int (0)))) (.op .sub (.cst (.int (1))) (.idx (.var 1) (.idx (.var 8) (.cst (.int (0))))))) .skip))) .skip) .skip)) (.seq (.expr (.mt .append (.var 4) (.cons (.op .add (.idx (.var 4) (.neg (.cst (.int (1))))) (.var 6)) .nil))) .skip))))
noncomputable def fn38:Fn:=⟨3,9,(.seq (.set 3 (.idx (.idx (.var 0) (.cst (.int (3)))) (.var 2))) (.seq (.set 4 (.lst (.cons (.var 3) .nil))) (.seq (.set 5 (.lst .nil)) (.seq (.set 1 (.bi .list (.cons (.var 1) .nil))) (.seq (.set 6 (.cst (.int (0)))) (.seq (.«for» .seq (.idx (.var 0) (.cst (.int (2)))) (.one 7) zdo) (.seq (.ret (.lst (.cons (.bi .tuple (.cons (.var 4) .nil)) (.cons (.bi .tuple (.cons (.var 5) .nil)) (.cons (.bi .tuple (.cons (.var 1) .nil)) (.cons (.cst (.bl false)) .nil)))))) .skip)))))))⟩
noncomputable def fn39:Fn:=⟨2,2,(.seq (.ret (.and (.isi .int (.var 0)) (.and (.not (.isi .bool (.var 0))) (.cmp .eq (.var 0) (.var 1))))) .skip)⟩
noncomputable def zi9:E:=(.call 59 (.cons (.var 0) (.cons (.var 1) .nil)))
noncomputable def fn59:Fn:=⟨2,2,(.seq (.ite (.tru (.isi .tuple (.var 1))) (.seq (.ite (.not (.tru (.call 6 (.cons (.var 0) (.cons (.bi .len (.cons (.var 1) .nil)) (.cons (.bi .len (.cons (.var 1) .nil)) .nil)))))) (.seq (.ret (.cst (.bl false))) .skip) .skip) (.seq (.ret (.bi .all (.cons (.lc .zip (.cons (.var 0) (.cons (.var 1) .nil)) (.many [0,1]) 2 [] (.cst (.bl true)) zi9) .nil))) .skip)) .skip) (.seq (.ret (.and (.not (.isi .bool (.var 0))) (.cmp .eq (.var 0) (.var 1)))) .skip))⟩
noncomputable def zja:E:=(.call 92 (.cons (.var 0) (.cons (.var 1) .nil)))
noncomputable def fn92:Fn:=⟨2,2,(.seq (.ite (.tru (.isi .tuple (.var 1))) (.seq (.ite (.or (.not (.tru (.isi .tuple (.var 0)))) (.cmp .ne (.bi .len (.cons (.var 0) .nil)) (.bi .len (.cons (.var 1) .nil)))) (.seq (.ret (.cst (.bl false))) .skip) .skip) (.seq (.ret (.bi .all (.cons (.lc .zip (.cons (.var 0) (.cons (.var 1) .nil)) (.many [0,1]) 2 [] (.cst (.bl true)) zja) .nil))) .skip)) .skip) (.seq (.ite (.cmp .isn (.var 1) (.cst .non)) (.seq (.ret (.cmp .isn (.var 0) (.cst .non))) .skip) .skip) (.seq (.ret (.call 39 (.cons (.var 0) (.cons (.var 1) .nil)))) .skip)))⟩
noncomputable def fn93:Fn:=⟨2,4,(.seq (.set 2 (.call 20 (.cons (.var 0) (.cons (.idx (.var 1) (.cst (.int (1)))) .nil)))) (.seq (.set 3 (.call 5 (.cons (.var 0) (.cons (.bi .len (.cons (.idx (.var 1) (.cst (.int (3)))) .nil)) .nil)))) (.seq (.ite (.cmp .eq (.call 5 (.cons (.var 0) (.cons (.cst (.int (12))) .nil))) (.cst (.int (7)))) (.seq (.ret (.tup (.cons (.var 2) (.cons (.cst .non) .nil)))) .skip) .skip) (.seq (.ret (.tup (.cons (.var 2) (.cons (.var 3) .nil)))) .skip))))⟩
noncomputable def fn99:Fn:=⟨1,2,(.seq (.set 1 (.call 5 (.cons (.var 0) (.cons (.cst (.int (8))) .nil)))) (.seq (.ite (.cmp .eq (.var 1) (.cst (.int (0)))) (.seq (.ret (.call 26 (.cons (.var 0) (.cons (.cst (.int (40))) (.cons (.cst (.int (60))) (.cons (.cst (.int (8))) .nil)))))) .skip) .skip) (.seq (.ite (.cmp .eq (.var 1) (.cst (.int (1)))) (.seq (.ret (.call 26 (.cons (.var 0) (.cons (.cst (.int (6))) (.cons (.cst (.int (12))) (.cons (.cst (.int (6))) .nil)))))) .skip) .skip) (.seq (.ret (.call 26 (.cons (.var 0) (.cons (.cst (.int (9))) (.cons (.cst (.int (8))) (.cons (.cst (.int (4))) .nil)))))) .skip))))⟩
noncomputable def zbb:E:=(.cmp .notn (.idx (.idx (.var 2) (.neg (.cst (.int (1))))) (.cst (.int (1)))) (.cst .non))
noncomputable def za0:S:=(.seq (.unp [5,6] (.call 117 (.cons (.var 0) (.cons (.idx (.var 2) (.neg (.cst (.int (1))))) .nil)))) (.seq (.expr (.mt .append (.var 4) (.cons (.var 5) .nil))) (.seq (.ite (.cmp .inn (.var 6) (.var 3)) (.seq (.ret (.lst (.cons (.var 2) (.cons (.var 4) (.cons (.idx (.var 3) (.var 6)) .nil))))) .skip) .skip) (.seq (.put (.var 3) (.var 6) (.bi .len (.cons (.var 2) .nil))) (.seq (.expr (.mt .append (.var 2) (.cons (.var 6) .nil))) .skip)))))
noncomputable def fn112:Fn:=⟨2,7,(.seq (.set 2 (.lst (.cons (.var 1) .nil))) (.seq (.set 3 (.dsp (.cons (.var 1) (.cons (.cst (.int (0))) .nil)))) (.seq (.set 4 (.lst .nil)) (.seq (.whl zbb za0) (.seq (.ret (.lst (.cons (.var 2) (.cons (.var 4) (.cons (.cst .non) .nil))))) .skip)))))⟩
noncomputable def fn117:Fn:=⟨2,8,(.seq (.unp [2,3,4,5] (.call 38 (.cons (.var 0) (.cons (.idx (.var 1) (.cst (.int (0)))) (.cons (.idx (.var 1) (.cst (.int (1)))) .nil))))) (.seq (.ite (.tru (.var 5)) (.seq (.ret (.tup (.cons (.cst .non) (.cons (.tup (.cons (.var 4) (.cons (.cst .non) .nil))) .nil)))) .skip) .skip) (.seq (.unp [6,7] (.idx (.idx (.var 0) (.cst (.int (4)))) (.idx (.var 2) (.neg (.cst (.int (1))))))) (.seq (.ret (.tup (.cons (.var 6) (.cons (.tup (.cons (.var 4) (.cons (.var 7) .nil))) .nil)))) .skip))))⟩
noncomputable def fn132:Fn:=⟨1,3,(.seq (.set 1 (.call 99 (.cons (.var 0) .nil))) (.seq (.set 2 (.call 93 (.cons (.var 0) (.cons (.var 1) .nil)))) (.seq (.ite (.cmp .gt (.op .mul (.bi .len (.cons (.idx (.call 112 (.cons (.var 1) (.cons (.var 2) .nil))) (.cst (.int (0)))) .nil)) (.bi .len (.cons (.idx (.var 1) (.cst (.int (2)))) .nil))) (.cst (.int (6000)))) (.seq (.set 1 (.call 26 (.cons (.var 0) (.cons (.cst (.int (9))) (.cons (.cst (.int (8))) (.cons (.cst (.int (4))) .nil)))))) (.seq (.set 2 (.call 93 (.cons (.var 0) (.cons (.var 1) .nil)))) .skip)) .skip) (.seq (.ret (.lst (.cons (.var 1) (.cons (.var 2) .nil)))) .skip))))⟩
noncomputable def fn173:Fn:=⟨4,7,(.seq (.ite (.tru (.isi .tuple (.var 0))) (.seq (.unp [4,5] (.var 0)) (.seq (.set 6 (.idx (.var 2) (.var 4))) (.seq (.ite (.cmp .ne (.var 4) (.var 3)) (.seq (.put (.var 2) (.var 4) (.op .sub (.cst (.int (1))) (.var 6))) .skip) .skip) (.seq (.ret (.ite (.cmp .eq (.var 6) (.var 5)) (.cst (.int (-1))) (.cst (.int (1))))) .skip)))) .skip) (.seq (.ite (.cmp .eq (.var 0) (.cst (.str (PySem.Str.ofString "s")))) (.seq (.ret (.cst .non)) .skip) .skip) (.seq (.ite (.cmp .eq (.var 0) (.cst (.str (PySem.Str.ofString "x")))) (.seq (.ret (.var 1)) .skip) .skip) (.seq (.ite (.cmp .eq (.var 0) (.cst (.str (PySem.Str.ofString ".")))) (.seq (.ret (.cst (.int (0)))) .skip) .skip) (.seq (.ret (.ite (.cmp .eq (.var 0) (.cst (.str (PySem.Str.ofString "<")))) (.cst (.int (-1))) (.cst (.int (1))))) .skip)))))⟩
noncomputable def zc7:S:=(.seq (.set 10 (.idx (.var 9) (.var 4))) (.seq (.set 8 (.call 173 (.cons (.var 10) (.cons (.var 8) (.cons (.var 7) (.cons (.var 3) .nil)))))) (.seq (.ite (.cmp .isn (.var 8) (.cst .non)) (.seq .brk .skip) .skip) (.seq (.ite (.and (.tru (.isi .tuple (.var 10))) (.cmp .ne (.idx (.var 10) (.cst (.int (0)))) (.var 3))) (.seq (.expr (.mt .append (.var 6) (.cons (.idx (.var 10) (.cst (.int (0)))) .nil))) .skip) .skip) (.seq (.aug 4 .add (.var 8)) (.seq (.expr (.mt .append (.var 5) (.cons (.var 4) .nil))) .skip))))))
noncomputable def fn174:Fn:=⟨4,11,(.seq (.set 4 (.idx (.idx (.var 0) (.cst (.int (3)))) (.var 2))) (.seq (.set 5 (.lst (.cons (.var 4) .nil))) (.seq (.set 6 (.lst .nil)) (.seq (.set 7 (.bi .list (.cons (.var 1) .nil))) (.seq (.set 8 (.cst (.int (0)))) (.seq (.«for» .seq (.idx (.var 0) (.cst (.int (2)))) (.one 9) zc7) (.seq (.ret (.tup (.cons (.bi .tuple (.cons (.var 5) .nil)) (.cons (.bi .tuple (.cons (.var 6) .nil)) (.cons (.bi .tuple (.cons (.var 7) .nil)) .nil))))) .skip)))))))⟩
noncomputable def fn175:Fn:=⟨4,8,(.seq (.unp [4,5,6] (.call 174 (.cons (.var 0) (.cons (.var 1) (.cons (.var 2) (.cons (.var 3) .nil)))))) (.seq (.set 7 (.ite (.cmp .gt (.bi .len (.cons (.var 4) .nil)) (.bi .len (.cons (.idx (.var 0) (.cst (.int (2)))) .nil))) (.idx (.var 4) (.neg (.cst (.int (1))))) (.cst .non))) (.seq (.ret (.tup (.cons (.var 7) (.cons (.var 6) .nil)))) .skip)))⟩
noncomputable def fn176:Fn:=⟨4,7,(.seq (.unp [4,5] (.call 175 (.cons (.var 0) (.cons (.var 1) (.cons (.var 2) (.cons (.var 3) .nil)))))) (.seq (.set 6 (.ite (.cmp .isn (.var 4) (.cst .non)) (.cst (.tup [.non,.non])) (.idx (.idx (.var 0) (.cst (.int (4)))) (.var 4)))) (.seq (.ret (.tup (.cons (.var 6) (.cons (.var 5) .nil)))) .skip)))⟩
noncomputable def fn182:Fn:=⟨2,6,(.seq (.unp [2,3] (.var 1)) (.seq (.ite (.cmp .isn (.var 3) (.cst .non)) (.seq (.ret (.cst .non)) .skip) .skip) (.seq (.unp [4,5] (.call 176 (.cons (.var 0) (.cons (.var 2) (.cons (.var 3) (.cons (.cst .non) .nil)))))) (.seq (.ret (.tup (.cons (.var 5) (.cons (.idx (.var 4) (.cst (.int (1)))) .nil)))) .skip))))⟩
noncomputable def zbs:E:=(.and (.cmp .notn (.var 3) (.cst .non)) (.cmp .nin (.var 3) (.var 2)))
noncomputable def zb5:S:=(.seq (.put (.var 2) (.var 3) (.bi .len (.cons (.var 2) .nil))) (.seq (.set 3 (.call 182 (.cons (.var 0) (.cons (.var 3) .nil)))) .skip))
noncomputable def fn184:Fn:=⟨2,5,(.seq (.expr (.call 29 (.cons (.var 0) (.cons (.var 1) .nil)))) (.seq (.set 2 (.dsp .nil)) (.seq (.set 3 (.var 1)) (.seq (.whl zbs zb5) (.seq (.set 4 (.ite (.cmp .isn (.var 3) (.cst .non)) (.cst .non) (.idx (.var 2) (.var 3)))) (.seq (.ret (.tup (.cons (.bi .tuple (.cons (.var 2) .nil)) (.cons (.var 4) .nil)))) .skip))))))⟩
noncomputable def zbt:E:=(.and (.tru (.var 0)) (.cmp .eq (.idx (.var 0) (.neg (.cst (.int (1))))) (.idx (.var 1) (.neg (.cst (.int (1)))))))
noncomputable def zb6:S:=(.seq (.set 0 (.slc (.var 0) false (.cst .non) true (.neg (.cst (.int (1)))))) (.seq (.set 1 (.op .add (.slc (.var 1) true (.neg (.cst (.int (1)))) false (.cst .non)) (.slc (.var 1) false (.cst .non) true (.neg (.cst (.int (1))))))) .skip))
noncomputable def fn194:Fn:=⟨2,2,(.seq (.whl zbt zb6) (.seq (.ret (.tup (.cons (.var 0) (.cons (.var 1) .nil)))) .skip))⟩
noncomputable def zc8:E:=(.or (.cmp .ne (.op .mod (.bi .len (.cons (.var 0) .nil)) (.var 1)) (.cst (.int (0)))) (.cmp .ne (.op .mul (.slc (.var 0) false (.cst .non) true (.var 1)) (.op .fdiv (.bi .len (.cons (.var 0) .nil)) (.var 1))) (.var 0)))
noncomputable def zb7:S:=(.seq (.aug 1 .add (.cst (.int (1)))) .skip)
noncomputable def fn197:Fn:=⟨1,2,(.seq (.set 1 (.cst (.int (1)))) (.seq (.whl zc8 zb7) (.seq (.ret (.slc (.var 0) false (.cst .non) true (.var 1))) .skip)))⟩
noncomputable def zc9:E:=(.cmp .notn (.var 1) (.cst .non))
noncomputable def zd6:E:=(.idx (.call 176 (.cons (.var 2) (.cons (.var 0) (.cons (.var 1) (.cons (.cst .non) .nil))))) (.cst (.int (0))))
noncomputable def zda:E:=(.cmp .notn (.var 0) (.cst .non))
noncomputable def zd7:E:=(.var 0)
noncomputable def fn200:Fn:=⟨2,6,(.seq (.unp [2,3] (.var 1)) (.seq (.set 4 (.lc .seq (.var 2) (.many [0,1]) 2 [0] zc9 zd6)) (.seq (.set 5 (.bi .tuple (.cons (.lc .seq (.var 4) (.many [0,1]) 2 [] zda zd7) .nil))) (.seq (.ite (.cmp .isn (.var 3) (.cst .non)) (.seq (.ret (.tup (.cons (.var 5) (.cons (.tup .nil) .nil)))) .skip) .skip) (.seq (.ret (.call 194 (.cons (.slc (.var 5) false (.cst .non) true (.var 3)) (.cons (.call 197 (.cons (.slc (.var 5) true (.var 3) false (.cst .non)) .nil)) .nil)))) .skip)))))⟩
noncomputable def fn203:Fn:=⟨2,2,(.seq (.ret (.call 200 (.cons (.var 0) (.cons (.call 184 (.cons (.var 0) (.cons (.var 1) .nil))) .nil)))) .skip)⟩
noncomputable def zdb:S:=(.seq (.ite (.or (.cmp .isn (.var 6) (.cst .non)) (.or (.cmp .inn (.var 6) (.var 5)) (.not (.tru (.call 59 (.cons (.var 7) (.cons (.var 6) .nil))))))) (.seq (.ret (.cst (.bl false))) .skip) .skip) (.seq (.put (.var 5) (.var 6) (.bi .len (.cons (.var 5) .nil))) (.seq (.set 6 (.call 182 (.cons (.var 0) (.cons (.var 6) .nil)))) .skip)))
noncomputable def fn204:Fn:=⟨3,8,(.seq (.expr (.call 29 (.cons (.var 0) (.cons (.var 1) .nil)))) (.seq (.ite (.or (.not (.tru (.call 6 (.cons (.var 2) (.cons (.cst (.int (2))) (.cons (.cst (.int (2))) .nil)))))) (.not (.tru (.isi .tuple (.idx (.var 2) (.cst (.int (0)))))))) (.seq (.ret (.cst (.bl false))) .skip) .skip) (.seq (.unp [3,4] (.var 2)) (.seq (.set 5 (.dsp .nil)) (.seq (.set 6 (.var 1)) (.seq (.«for» .seq (.var 3) (.one 7) zdb) (.seq (.ite (.cmp .isn (.var 6) (.cst .non)) (.seq (.ret (.cmp .isn (.var 4) (.cst .non))) .skip) .skip) (.seq (.ret (.and (.cmp .inn (.var 6) (.var 5)) (.call 59 (.cons (.var 4) (.cons (.idx (.var 5) (.var 6)) .nil))))) .skip))))))))⟩
noncomputable def fn269:Fn:=⟨4,4,(.seq (.ret (.and (.call 204 (.cons (.var 0) (.cons (.var 1) (.cons (.var 2) .nil)))) (.call 59 (.cons (.var 3) (.cons (.call 200 (.cons (.var 0) (.cons (.var 2) .nil))) .nil))))) .skip)⟩
noncomputable def stepP (w:W) (hd:Int) (ls:List Int):Option (Int × List Int × List Int):=match w with
 | .tup [.int g,.int s]=>some (if ls.getD g.toNat 0=s then -1 else 1,[g],ls.set g.toNat (1 - ls.getD g.toNat 0))
 | .str x=>if x == sS then none else if x == sX then some (hd,[],ls) else if x == sDot then some (0,[],ls) else some (if x == sLt then -1 else 1,[],ls)
 | _=>none
noncomputable def colAt (r:List W) (c:Int):W:=(r[c.toNat]?).getD .non
structure Fa where
 cs:List Int
 ts:List Int
 ls:List Int
 st:Bool
noncomputable def fallP:List (List W)→Int→Int→List Int→Fa
 | [],_,_,ls=>⟨[],[],ls,false⟩
 | r :: rs,c,hd,ls=>match stepP (colAt r c) hd ls with
  | none=>⟨[],[],ls,true⟩
  | some (d,t,l)=>⟨(c + d) :: (fallP rs (c + d) d l).cs,t++(fallP rs (c + d) d l).ts,(fallP rs (c + d) d l).ls,(fallP rs (c + d) d l).st⟩
noncomputable def lastC:Int→List Int→Int
 | c,[]=>c
 | _,x :: r=>lastC x r
noncomputable def Bits (ls:List Int):Prop:=∀ x∈ls,x=0∨x=1
theorem zdc {w:W} {c wd g:Int} (h:zaj w c wd g=true):(w=.str sX∧0 < c∧c < wd - 1)∨(w=.str sLt∧0 < c)∨(w=.str sGt∧c < wd - 1)∨w=.str sDot∨w=.str sS∨∃ a b:Nat,w=.tup [.int a,.int b]∧(a:Int) < g∧b < 2∧0 < c∧c < wd - 1:=by
 unfold zaj at h
 split at h
 ·rename_i q
  rw [vac,decide_eq_true_eq,decide_eq_true_eq] at h
  rw [Bool.or_eq_true] at q
  rcases q with q | q
  ·exact .inl ⟨zfo q,h⟩
  ·obtain ⟨a,b,rfl,h1,h2,h3,h4⟩:=zi8 q
   obtain ⟨a,rfl⟩:=Int.eq_ofNat_of_zero_le h1
   obtain ⟨b,rfl⟩:=Int.eq_ofNat_of_zero_le h3
   exact .inr (.inr (.inr (.inr (.inr ⟨a,b,rfl,h2,by omega,h⟩))))
 ·split at h
  ·rename_i q; exact .inr (.inl ⟨zfo q,by simpa using h⟩)
  ·split at h
   ·rename_i q; exact .inr (.inr (.inl ⟨zfo q,by simpa using h⟩))
   ·rw [Bool.or_eq_true] at h
    rcases h with q | q
    ·exact .inr (.inr (.inr (.inl (zfo q))))
    ·exact .inr (.inr (.inr (.inr (.inl (zfo q)))))
theorem zkf {hd:Int} {ls:List Int}:stepP (.str sX) hd ls=some (hd,[],ls):=rfl
theorem zgq {hd:Int} {ls:List Int}:stepP (.str sLt) hd ls=some (-1,[],ls):=rfl
theorem zgr {hd:Int} {ls:List Int}:stepP (.str sGt) hd ls=some (1,[],ls):=rfl
theorem zd8 {hd:Int} {ls:List Int}:stepP (.str sDot) hd ls=some (0,[],ls):=rfl
theorem zkg {hd:Int} {ls:List Int}:stepP (.str sS) hd ls=none:=rfl
theorem zgs {hd:Int} {ls:List Int} {a b:Nat}:stepP (.tup [.int a,.int b]) hd ls=some (if ls.getD a 0=b then -1 else 1,[(a:Int)],ls.set a (1 - ls.getD a 0)):=rfl
theorem zqd {ls:List Int} (h:Bits ls) (a:Nat):ls.getD a 0=0∨ls.getD a 0=1:=by
 rw [List.getD_eq_getElem?_getD]
 cases q:ls[a]? with
 | none=>exact .inl rfl
 | some x=>exact h x (List.mem_of_getElem? q)
theorem zjb {w:W} {c wd g hd:Int} {ls:List Int} (h:zaj w c wd g=true) (c0:0≤c) (c1:c < wd) (h1:-1≤hd) (h2:hd≤1) (b:Bits ls) {d:Int} {t l:List Int} (e:stepP w hd ls=some (d,t,l)):-1≤d∧d≤1∧0≤c + d∧c + d < wd∧l.length=ls.length∧Bits l∧t.length≤1:=by
 rcases zdc h with ⟨rfl,h3,h4⟩ | ⟨rfl,h3⟩ | ⟨rfl,h3⟩ | rfl | rfl | ⟨p,q,rfl,h3,h4,h5,h6⟩
 ·rw [zkf] at e; cases e; exact ⟨h1,h2,by omega,by omega,rfl,b,by simp⟩
 ·rw [zgq] at e; cases e; exact ⟨by omega,by omega,by omega,by omega,rfl,b,by simp⟩
 ·rw [zgr] at e; cases e; exact ⟨by omega,by omega,by omega,by omega,rfl,b,by simp⟩
 ·rw [zd8] at e; cases e; exact ⟨by omega,by omega,by omega,by omega,rfl,b,by simp⟩
 ·rw [zkg] at e; cases e
 ·rw [zgs] at e; cases e
  refine ⟨by split <;> omega,by split <;> omega,by split <;> omega,by split <;> omega,by simp,fun x hx=>?_,by simp⟩
  rcases List.mem_or_eq_of_mem_set hx with hx | rfl
  ·exact b x hx
  ·rcases zqd b p with q | q <;> rw [q] <;> omega
noncomputable def zhv (wd g:Int) (rs:List (List W)):Prop:=∀ r∈rs,(r.length:Int)=wd∧rowOk wd g 0 r
theorem zkh {wd g:Int}:∀ {ws:List W} {c:Int} (i:Nat) {w:W},rowOk wd g c ws→ws[i]?=some w→zaj w (c + i) wd g=true
 | [],_,_,_,_,e=>by simp at e
 | x :: r,c,0,w,⟨h1,h2⟩,e=>by
  simp at e; subst e; simpa using h1
 | x :: r,c,i + 1,w,⟨h1,h2⟩,e=>by
  have:=zkh i h2 (by simpa using e)
  rw [show c + ((i + 1:Nat):Int)=c + 1 + i by push_cast; omega]
  exact this
theorem zfr {wd g c:Int} {r:List W} (h:(r.length:Int)=wd∧rowOk wd g 0 r) (c0:0≤c) (c1:c < wd):r[c.toNat]?=some (colAt r c)∧zaj (colAt r c) c wd g=true:=by
 obtain ⟨n,rfl⟩:=Int.eq_ofNat_of_zero_le c0
 have hn:n < r.length:=by omega
 have e:r[n]?=some r[n]:=List.getElem?_eq_getElem hn
 have e2:colAt r n=r[n]:=by
  unfold colAt
  rw [Int.toNat_natCast,e]; rfl
 rw [e2,Int.toNat_natCast]
 refine ⟨e,?_⟩
 have:=zkh n h.2 e
 simpa using this
structure Fa.Ok (q:Fa) (wd:Int) (c:Int) (m n:Nat):Prop where
 l1:q.ls.length=n
 l2:Bits q.ls
 c1:∀ x∈q.cs,0≤x∧x < wd
 c2:q.cs.length≤m
 c3:q.st=false→q.cs.length=m
 c5:q.st=true→q.cs.length < m
 c4:0≤lastC c q.cs∧lastC c q.cs < wd
 t1:q.ts.length≤m
theorem znq {wd g:Int}:∀ (rs:List (List W)) (c hd:Int) (ls:List Int),zhv wd g rs→0≤c→c < wd→-1≤hd→hd≤1→Bits ls→(fallP rs c hd ls).Ok wd c rs.length ls.length
 | [],c,hd,ls,_,c0,c1,_,_,b=>⟨rfl,b,by simp [fallP],by simp [fallP],by simp [fallP],by simp [fallP],⟨c0,c1⟩,by simp [fallP]⟩
 | r :: rs,c,hd,ls,ok,c0,c1,h1,h2,b=>by
  obtain ⟨_,hm⟩:=zfr (ok r vap) c0 c1
  unfold fallP
  cases e:stepP (colAt r c) hd ls with
  | none=>exact ⟨rfl,b,by simp,by simp,by simp,by simp,⟨c0,c1⟩,by simp⟩
  | some q=>
   obtain ⟨d,t,l⟩:=q
   obtain ⟨a1,a2,a3,a4,a5,a6,a7⟩:=zjb hm c0 c1 h1 h2 b e
   have ih:=znq rs (c + d) d l (fun r hr=>ok r (vaj _ hr)) a3 a4 a1 a2 a6
   refine ⟨ih.l1.trans a5,ih.l2,fun x hx=>?_,?_,fun h=>?_,fun h=>?_,ih.c4,?_⟩
   ·rcases List.mem_cons.mp hx with rfl | hx
    ·exact ⟨a3,a4⟩
    ·exact ih.c1 x hx
   ·simp only [vah]; have:=ih.c2; omega
   ·simp only [vah]; have:=ih.c3 h; omega
   ·simp only [vah]; have:=ih.c5 h; omega
   ·simp only [vah,vag]; have:=ih.t1; omega
theorem zhw {r:List W} {rs:List (List W)} {c hd:Int} {ls:List Int} (e:stepP (colAt r c) hd ls=none):fallP (r :: rs) c hd ls=⟨[],[],ls,true⟩:=by
 unfold fallP
 rw [e]
theorem zhx {r:List W} {rs:List (List W)} {c hd d:Int} {ls t l:List Int} (e:stepP (colAt r c) hd ls=some (d,t,l)):fallP (r :: rs) c hd ls=⟨(c + d) :: (fallP rs (c + d) d l).cs,t++(fallP rs (c + d) d l).ts,(fallP rs (c + d) d l).ls,(fallP rs (c + d) d l).st⟩:=by
 rw [fallP,e]
noncomputable def st3 (h:VH) (gs:List VO) (c t l:List W):VH:=⟨h.n + 3 + gs.length,h.n,gs++(.lst l :: .lst t :: .lst c :: h.os)⟩
theorem st_c {h:VH} {gs:List VO} {c t l:List W}:(st3 h gs c t l).get h.n=some (.lst c):=by
 unfold st3 VH.get
 rw [if_pos (zan.mpr (by show h.n < h.n + 3 + gs.length; omega))]
 show (gs++(.lst l :: .lst t :: .lst c :: h.os))[h.n + 3 + gs.length - 1 - h.n]?=_
 rw [List.getElem?_append_right (by omega),show h.n + 3 + gs.length - 1 - h.n - gs.length=2 by omega]
 rfl
theorem st_t {h:VH} {gs:List VO} {c t l:List W}:(st3 h gs c t l).get (h.n + 1)=some (.lst t):=by
 unfold st3 VH.get
 rw [if_pos (zan.mpr (by show h.n + 1 < h.n + 3 + gs.length; omega))]
 show (gs++(.lst l :: .lst t :: .lst c :: h.os))[h.n + 3 + gs.length - 1 - (h.n + 1)]?=_
 rw [List.getElem?_append_right (by omega),show h.n + 3 + gs.length - 1 - (h.n + 1) - gs.length=1 by omega]
 rfl
theorem st_l {h:VH} {gs:List VO} {c t l:List W}:(st3 h gs c t l).get (h.n + 2)=some (.lst l):=by
 unfold st3 VH.get
 rw [if_pos (zan.mpr (by show h.n + 2 < h.n + 3 + gs.length; omega))]
 show (gs++(.lst l :: .lst t :: .lst c :: h.os))[h.n + 3 + gs.length - 1 - (h.n + 2)]?=_
 rw [List.getElem?_append_right (by omega),show h.n + 3 + gs.length - 1 - (h.n + 2) - gs.length=0 by omega]
 rfl
theorem zcd {a b:Nat} (h:b≤a):Nat.blt a b=false:=by
 cases q:Nat.blt a b with
 | false=>rfl
 | true=>have:=zan.mp q; omega
theorem znr {h:VH} {gs:List VO} {c t l c':List W}:(st3 h gs c t l).set h.n (.lst c')=st3 h gs c' t l:=by
 unfold st3 VH.set
 simp only [zcd (vae h.n)]
 rw [List.set_append_right _ _ (by omega),show h.n + 3 + gs.length - 1 - h.n - gs.length=2 by omega]
 rfl
theorem zns {h:VH} {gs:List VO} {c t l t':List W}:(st3 h gs c t l).set (h.n + 1) (.lst t')=st3 h gs c t' l:=by
 unfold st3 VH.set
 simp only [zcd (Nat.le_succ h.n)]
 rw [List.set_append_right _ _ (by omega),show h.n + 3 + gs.length - 1 - (h.n + 1) - gs.length=1 by omega]
 rfl
theorem zto {h:VH} {gs:List VO} {c t l l':List W}:(st3 h gs c t l).set (h.n + 2) (.lst l')=st3 h gs c t l':=by
 unfold st3 VH.set
 simp only [zcd (show h.n≤h.n + 2 by omega)]
 rw [List.set_append_right _ _ (by omega),show h.n + 3 + gs.length - 1 - (h.n + 2) - gs.length=0 by omega]
 rfl
theorem znt {h:VH} {gs:List VO} {c t l:List W} {o:VO}:(st3 h gs c t l).new o=st3 h (o :: gs) c t l:=by
 unfold st3 VH.new
 simp only [vah,List.cons_append]
 rw [show h.n + 3 + gs.length + 1=h.n + 3 + (gs.length + 1) by omega]
theorem eqS {h:VH} {x y:Str} (hx:PyData.strOk x=true) (hy:PyData.strOk y=true):eqW h (.str x) (.str y)=some (x == y):=by
 rw [zck (x:=y) (by exact hx) hy]; rfl
@[simp] theorem eq_X_X {h:VH}:eqW h (.str sX) (.str (PySem.Str.ofString "x"))=some true:=(eqS (by decide +kernel) (by decide +kernel)).trans (by decide +kernel)
@[simp] theorem eq_X_Lt {h:VH}:eqW h (.str sX) (.str (PySem.Str.ofString "<"))=some false:=(eqS (by decide +kernel) (by decide +kernel)).trans (by decide +kernel)
@[simp] theorem eq_X_Gt {h:VH}:eqW h (.str sX) (.str (PySem.Str.ofString ">"))=some false:=(eqS (by decide +kernel) (by decide +kernel)).trans (by decide +kernel)
@[simp] theorem eq_X_Dot {h:VH}:eqW h (.str sX) (.str (PySem.Str.ofString "."))=some false:=(eqS (by decide +kernel) (by decide +kernel)).trans (by decide +kernel)
@[simp] theorem eq_X_S {h:VH}:eqW h (.str sX) (.str (PySem.Str.ofString "s"))=some false:=(eqS (by decide +kernel) (by decide +kernel)).trans (by decide +kernel)
@[simp] theorem eq_Lt_X {h:VH}:eqW h (.str sLt) (.str (PySem.Str.ofString "x"))=some false:=(eqS (by decide +kernel) (by decide +kernel)).trans (by decide +kernel)
@[simp] theorem eq_Lt_Lt {h:VH}:eqW h (.str sLt) (.str (PySem.Str.ofString "<"))=some true:=(eqS (by decide +kernel) (by decide +kernel)).trans (by decide +kernel)
@[simp] theorem eq_Lt_Gt {h:VH}:eqW h (.str sLt) (.str (PySem.Str.ofString ">"))=some false:=(eqS (by decide +kernel) (by decide +kernel)).trans (by decide +kernel)
@[simp] theorem eq_Lt_Dot {h:VH}:eqW h (.str sLt) (.str (PySem.Str.ofString "."))=some false:=(eqS (by decide +kernel) (by decide +kernel)).trans (by decide +kernel)
@[simp] theorem eq_Lt_S {h:VH}:eqW h (.str sLt) (.str (PySem.Str.ofString "s"))=some false:=(eqS (by decide +kernel) (by decide +kernel)).trans (by decide +kernel)
@[simp] theorem eq_Gt_X {h:VH}:eqW h (.str sGt) (.str (PySem.Str.ofString "x"))=some false:=(eqS (by decide +kernel) (by decide +kernel)).trans (by decide +kernel)
@[simp] theorem eq_Gt_Lt {h:VH}:eqW h (.str sGt) (.str (PySem.Str.ofString "<"))=some false:=(eqS (by decide +kernel) (by decide +kernel)).trans (by decide +kernel)
@[simp] theorem eq_Gt_Gt {h:VH}:eqW h (.str sGt) (.str (PySem.Str.ofString ">"))=some true:=(eqS (by decide +kernel) (by decide +kernel)).trans (by decide +kernel)
@[simp] theorem eq_Gt_Dot {h:VH}:eqW h (.str sGt) (.str (PySem.Str.ofString "."))=some false:=(eqS (by decide +kernel) (by decide +kernel)).trans (by decide +kernel)
@[simp] theorem eq_Gt_S {h:VH}:eqW h (.str sGt) (.str (PySem.Str.ofString "s"))=some false:=(eqS (by decide +kernel) (by decide +kernel)).trans (by decide +kernel)
@[simp] theorem eq_Dot_X {h:VH}:eqW h (.str sDot) (.str (PySem.Str.ofString "x"))=some false:=(eqS (by decide +kernel) (by decide +kernel)).trans (by decide +kernel)
@[simp] theorem eq_Dot_Lt {h:VH}:eqW h (.str sDot) (.str (PySem.Str.ofString "<"))=some false:=(eqS (by decide +kernel) (by decide +kernel)).trans (by decide +kernel)
@[simp] theorem eq_Dot_Gt {h:VH}:eqW h (.str sDot) (.str (PySem.Str.ofString ">"))=some false:=(eqS (by decide +kernel) (by decide +kernel)).trans (by decide +kernel)
@[simp] theorem eq_Dot_Dot {h:VH}:eqW h (.str sDot) (.str (PySem.Str.ofString "."))=some true:=(eqS (by decide +kernel) (by decide +kernel)).trans (by decide +kernel)
@[simp] theorem eq_Dot_S {h:VH}:eqW h (.str sDot) (.str (PySem.Str.ofString "s"))=some false:=(eqS (by decide +kernel) (by decide +kernel)).trans (by decide +kernel)
@[simp] theorem eq_S_X {h:VH}:eqW h (.str sS) (.str (PySem.Str.ofString "x"))=some false:=(eqS (by decide +kernel) (by decide +kernel)).trans (by decide +kernel)
@[simp] theorem eq_S_Lt {h:VH}:eqW h (.str sS) (.str (PySem.Str.ofString "<"))=some false:=(eqS (by decide +kernel) (by decide +kernel)).trans (by decide +kernel)
@[simp] theorem eq_S_Gt {h:VH}:eqW h (.str sS) (.str (PySem.Str.ofString ">"))=some false:=(eqS (by decide +kernel) (by decide +kernel)).trans (by decide +kernel)
@[simp] theorem eq_S_Dot {h:VH}:eqW h (.str sS) (.str (PySem.Str.ofString "."))=some false:=(eqS (by decide +kernel) (by decide +kernel)).trans (by decide +kernel)
@[simp] theorem eq_S_S {h:VH}:eqW h (.str sS) (.str (PySem.Str.ofString "s"))=some true:=(eqS (by decide +kernel) (by decide +kernel)).trans (by decide +kernel)
theorem zqe {h0:VH} {gs:List VO} {c t l l':List W} {w:W}:leave (st3 h0 gs c t l) w (VH.set ⟨(st3 h0 gs c t l).n,(st3 h0 gs c t l).n,(st3 h0 gs c t l).os⟩ (h0.n + 2) (.lst l'))=.ok w (st3 h0 gs c t l'):=by
 have hb:Nat.blt (h0.n + 2) (h0.n + 3 + gs.length)=true:=zan.mpr (by omega)
 have hn:Nat.ble (h0.n + 3 + gs.length) (h0.n + 2)=false:=by
  cases q:Nat.ble (h0.n + 3 + gs.length) (h0.n + 2) with
  | false=>rfl
  | true=>have:=Nat.le_of_ble_eq_true q; omega
 have hl:Nat.ble h0.n (h0.n + 2)=true:=Nat.ble_eq.mpr (by omega)
 unfold leave VH.set st3
 simp only [hb,if_true,hn,Bool.false_and,hl]
 rw [if_neg (by simp),List.set_append_right _ _ (by omega),show h0.n + 3 + gs.length - 1 - (h0.n + 2) - gs.length=0 by omega]
 rfl
theorem zrn {ls:List Int} {a:Nat} (h:a < ls.length):atI (ls.map W.int) (a:Int)=some (.int (ls.getD a 0)):=
 zbk (by rw [List.getElem?_map,List.getElem?_eq_getElem h,List.getD_eq_getElem?_getD,List.getElem?_eq_getElem h]; rfl)
theorem znu {n a:Nat} (h:a < n):ixN n (a:Int)=some a:=by
 unfold ixN
 rw [if_pos (by omega),if_pos (by omega)]; simp
theorem zlc {cl:Call} {a b:S} {ρ ρ':En} {h h':VH} (e:exs cl a ρ h=.ok (.bk ρ') h'):exs cl (.seq a b) ρ h=.ok (.bk ρ') h':=by
 simp only [exs,e,bindok]
theorem zro {wd g c:Int} {r:List W} (ok:(r.length:Int)=wd∧rowOk wd g 0 r) (c0:0≤c) (c1:c < wd):atI r c=some (colAt r c):=by
 have:=(zfr ok c0 c1).1
 obtain ⟨n,rfl⟩:=Int.eq_ofNat_of_zero_le c0
 rw [Int.toNat_natCast] at this
 exact zbk this
noncomputable def iW (ls:List Int):W:=.tup (ls.map .int)
theorem iW_lt {n:Nat} {ls:List Int}:W.lt n (iW ls)=true:=by
 unfold iW
 rw [lt_tup]
 induction ls with
 | nil=>simp
 | cons x r ih=>rw [vao,lts_cons,ih,lt_int]; rfl
theorem Bd.Ok.feeder {B:Bd} (b:B.Ok) {f:Nat} (hf:f < B.fd.length):∃ c:Int,B.fd[f]?=some (.int c)∧0≤c∧c < B.wd:=by
 have h:=b.f3 _ (List.getElem_mem hf)
 have e:B.fd[f]?=some B.fd[f]:=List.getElem?_eq_getElem hf
 generalize B.fd[f]=w at h e
 cases w <;> simp only [within] at h <;> try (cases h; done)
 rename_i c
 rw [vac,decide_eq_true_eq,decide_eq_true_eq] at h
 exact ⟨c,e,h.1,by omega⟩
noncomputable def Bd.col (B:Bd) (f:Nat):Int:=match B.fd[f]? with
 | some (.int c)=>c
 | _=>0
theorem Bd.Ok.col {B:Bd} (b:B.Ok) {f:Nat} (hf:f < B.fd.length):B.fd[f]?=some (.int (B.col f))∧0≤B.col f∧B.col f < B.wd:=by
 obtain ⟨c,e,h⟩:=b.feeder hf
 have:B.col f=c:=by unfold Bd.col; rw [e]
 rw [this]; exact ⟨e,h⟩
noncomputable def Bd.fall (B:Bd) (ls:List Int) (f:Nat):Fa:=fallP B.rows (B.col f) 0 ls
theorem Bd.Ok.rows {B:Bd} (b:B.Ok) {ls:List Int} (hl:(ls.length:Int)=B.gr):zhv B.wd (ls.length:Int) B.rows:=by
 rw [hl]; exact b.r2
theorem Bd.Ok.fall {B:Bd} (b:B.Ok) {ls:List Int} {f:Nat} (hf:f < B.fd.length) (hl:(ls.length:Int)=B.gr) (bi:Bits ls):(B.fall ls f).Ok B.wd (B.col f) B.rows.length ls.length:=
 znq _ _ _ _ (b.rows hl) (b.col hf).2.1 (b.col hf).2.2 (by decide) (by decide) bi
noncomputable def wayW (B:Bd) (ls:List Int) (f:Nat):W:=.tup [iW (B.col f :: (B.fall ls f).cs),iW (B.fall ls f).ts,iW (B.fall ls f).ls]
theorem ztp {B:Bd} {ls:List Int} {f n:Nat}:W.lt n (wayW B ls f)=true:=by
 unfold wayW
 simp [iW_lt]
theorem zdp {cl:Call} {i l:Nat} {ρ:En} {h:VH} {ws:List W} (hρ:ρ[i]?=some (some (.ref l))) (g:h.get l=some (.lst ws)):ev cl (.bi .tuple (.cons (.var i) .nil)) ρ h=.ok (.tup ws) h:=by
 simp only [ev,hρ,Option.join_some,ofsome,bindok,biW,zcu,seqW,g,van]
theorem tup3 {cl:Call} {a b c:E} {ρ:En} {h:VH} {x y z:W} (ea:ev cl a ρ h=.ok x h) (eb:ev cl b ρ h=.ok y h) (ec:ev cl c ρ h=.ok z h):ev cl (.tup (.cons a (.cons b (.cons c .nil)))) ρ h=.ok (.tup [x,y,z]) h:=by
 rw [ev,ev,ea,bindok,ev,eb,bindok,ev,ec,bindok,ev]
 rfl
theorem zki:∀ (cs:List Int) (c:Int),(c :: cs)[cs.length]?=some (lastC c cs)
 | [],c=>rfl
 | x :: r,c=>by
  rw [vah,vaq]
  exact zki r x
theorem znv {cs:List Int} {c:Int}:atI ((c :: cs).map W.int) (-1)=some (.int (lastC c cs)):=by
 have e:ixN ((c :: cs).map W.int).length (-1)=some cs.length:=by
  unfold ixN
  rw [if_neg (by decide),vab,vah,if_pos (by omega)]
  congr 1
  omega
 unfold atI
 rw [e,Option.bind_some,List.getElem?_map,zki]
 rfl
noncomputable def Bd.door (B:Bd) (c:Int):W:=(B.dr[c.toNat]?).getD .non
theorem Bd.Ok.door {B:Bd} (b:B.Ok) {c:Int} (c0:0≤c) (c1:c < B.wd):atI B.dr c=some (B.door c)∧RF.door (B.door c) B.fd.length=true:=by
 obtain ⟨n,rfl⟩:=Int.eq_ofNat_of_zero_le c0
 have hd:=b.d1
 have hn:n < B.dr.length:=by omega
 have e:B.dr[n]?=some B.dr[n]:=List.getElem?_eq_getElem hn
 have e2:B.door n=B.dr[n]:=by
  unfold Bd.door
  rw [Int.toNat_natCast,e]; rfl
 rw [e2]
 exact ⟨zbk e,b.d2 _ (List.getElem_mem hn)⟩
noncomputable def outD (B:Bd) (ls:List Int) (f:Nat):W:=if (B.fall ls f).st then .tup [.non,.non] else B.door (lastC (B.col f) (B.fall ls f).cs)
theorem tup2 {cl:Call} {a b:E} {ρ:En} {h:VH} {x y:W} (ea:ev cl a ρ h=.ok x h) (eb:ev cl b ρ h=.ok y h):ev cl (.tup (.cons a (.cons b .nil))) ρ h=.ok (.tup [x,y]) h:=by
 rw [ev,ev,ea,bindok,ev,eb,bindok,ev]
 rfl
theorem znw {ls:List Int} {g:Int} (hl:(ls.length:Int)=g) (b:Bits ls):zc2 (iW ls) g g 0 1=true:=by
 unfold iW zc2 zau
 simp only [vab,vac,decide_eq_true_eq,List.all_eq_true]
 refine ⟨⟨by omega,by omega⟩,fun w hw=>?_⟩
 obtain ⟨x,hx,rfl⟩:=List.mem_map.mp hw
 rcases b x hx with rfl | rfl <;> rfl
noncomputable def zxm (w:W):W:=match w with
 | .tup [n,_]=>n
 | _=>.non
noncomputable def nameP (B:Bd) (ls:List Int) (f:Nat):W:=zxm (outD B ls f)
theorem zhy {B:Bd} {ls:List Int} {f:Nat} (b:B.Ok) (hf:f < B.fd.length) (hl:(ls.length:Int)=B.gr) (bi:Bits ls):∃ y,outD B ls f=.tup [nameP B ls f,y]∧(nameP B ls f=.non∨∃ i:Int,nameP B ls f=.int i):=by
 unfold nameP outD
 cases z:(B.fall ls f).st with
 | true=>exact ⟨.non,rfl,.inl rfl⟩
 | false=>
  have q:=b.fall hf hl bi
  obtain ⟨a1,a2⟩:=b.door q.c4.1 q.c4.2
  obtain ⟨a,y,e,_,_,_⟩:=zeu a2
  refine ⟨y,?_,.inr ⟨a,?_⟩⟩
  ·rw [if_neg (by simp),e]; rfl
  ·rw [if_neg (by simp),e]; rfl
theorem znx {B:Bd} {ls:List Int} {f:Nat} (b:B.Ok) (hf:f < B.fd.length) (hl:(ls.length:Int)=B.gr) (bi:Bits ls) (n:Nat):W.lt n (nameP B ls f)=true:=by
 obtain ⟨_,_,e | ⟨i,e⟩⟩:=zhy b hf hl bi <;> rw [e] <;> simp
structure CoreY0 (F:Nat→Option Fn):Prop where
 f173:F 173=some fn173
 f174:F 174=some fn174
 f175:F 175=some fn175
theorem zny {h:VH} {x:W} {r:List W}:idxW h (.tup (x :: r)) (.int 0)=some x:=zbk (j:=0) (xs:=x :: r) rfl
theorem zgt {h:VH} {i:Int}:eqW h (.int i) .non=some false:=rfl
section
variable {F:Nat→Option Fn} (C:CoreY0 F)
include C
theorem zqf {k:Nat} {h0:VH} {gs:List VO} {cs ts:List W} {ls:List Int} {w:W} {c wd hd:Int} (hm:zaj w c wd (ls.length:Int)=true) :
 run F (k + 1) 173 [w,.int hd,.ref (h0.n + 2),.non] (st3 h0 gs cs ts (ls.map .int))=match stepP w hd ls with
  | none=>.ok .non (st3 h0 gs cs ts (ls.map .int))
  | some (d,_,l)=>.ok (.int d) (st3 h0 gs cs ts (l.map .int)):=by
 rw [zag C.f173 rfl]
 rcases zdc hm with ⟨rfl,h3,h4⟩ | ⟨rfl,h3⟩ | ⟨rfl,h3⟩ | rfl | rfl | ⟨p,q,rfl,h3,h4,h5,h6⟩
 ·rw [zkf]; simp [fn173,exs,ev,cmpW,zai]
 ·rw [zgq]; simp [fn173,exs,ev,cmpW,zai]
 ·rw [zgr]; simp [fn173,exs,ev,cmpW,zai]
 ·rw [zd8]; simp [fn173,exs,ev,cmpW,zai]
 ·rw [zkg]; simp [fn173,exs,ev,cmpW,zai]
 ·rw [zgs]
  have hp:p < ls.length:=by omega
  have e1:=zrn hp
  have g:VH.get ⟨(st3 h0 gs cs ts (ls.map .int)).n,(st3 h0 gs cs ts (ls.map .int)).n,(st3 h0 gs cs ts (ls.map .int)).os⟩ (h0.n + 2)=some (.lst (ls.map .int)):=by rw [get_lo]; exact st_l
  have e2:ixN (ls.map W.int).length (p:Int)=some p:=znu (by rw [vab]; exact hp)
  have e3:exs (run F k) fn173.body [some (.tup [.int p,.int q]),some (.int hd),some (.ref (h0.n + 2)),some .non,none,none,none] ⟨(st3 h0 gs cs ts (ls.map .int)).n,(st3 h0 gs cs ts (ls.map .int)).n,(st3 h0 gs cs ts (ls.map .int)).os⟩=.ok (.rt (.int (if ls.getD p 0=q then -1 else 1))) (VH.set ⟨(st3 h0 gs cs ts (ls.map .int)).n,(st3 h0 gs cs ts (ls.map .int)).n,(st3 h0 gs cs ts (ls.map .int)).os⟩ (h0.n + 2) (.lst ((ls.set p (1 - ls.getD p 0)).map .int))):=by
   rw [List.map_set]
   generalize ls.getD p 0=y at e1 ⊢
   by_cases z:y=(q:Int)
   ·simp only [fn173,exs,ev,tgW,seqW,zaw,Option.join_some,vaq,vav,ofsome,bindok,isi_tup,van,tru_bl,ty_tuple_tuple,vau,vas,idxW,g,e1,opW,opI,e2,cmpW,zaq,zgt,Bool.not_false,z,decide_true,if_true]
   ·simp only [fn173,exs,ev,tgW,seqW,zaw,Option.join_some,vaq,vav,ofsome,bindok,isi_tup,van,tru_bl,ty_tuple_tuple,vau,vas,idxW,g,e1,opW,opI,e2,cmpW,zaq,zgt,Bool.not_false,z,decide_false,if_false]
  show fin _ (exs (run F k) fn173.body [some (.tup [.int p,.int q]),some (.int hd),some (.ref (h0.n + 2)),some .non,none,none,none] _)=_
  rw [e3]
  exact zqe
theorem ztq {k:Nat} {h0:VH} {b l f:W} {r:List W} {c wd hd:Int} {cs ts:List W} {ls:List Int} {y:Option W} (ok:(r.length:Int)=wd∧rowOk wd (ls.length:Int) 0 r) (c0:0≤c) (c1:c < wd) (hc:cs.length≤1000) (ht:ts.length≤1000) :
 exs (run F (k + 1)) zc7 [some b,some l,some f,some .non,some (.int c),some (.ref h0.n),some (.ref (h0.n + 1)),some (.ref (h0.n + 2)),some (.int hd),some (.tup r),y] (st3 h0 [] cs ts (ls.map .int))=match stepP (colAt r c) hd ls with
  | none=>.ok (.bk [some b,some l,some f,some .non,some (.int c),some (.ref h0.n),some (.ref (h0.n + 1)),some (.ref (h0.n + 2)),some .non,some (.tup r),some (colAt r c)]) (st3 h0 [] cs ts (ls.map .int))
  | some (d,t,l')=>.ok (.nx [some b,some l,some f,some .non,some (.int (c + d)),some (.ref h0.n),some (.ref (h0.n + 1)),some (.ref (h0.n + 2)),some (.int d),some (.tup r),some (colAt r c)]) (st3 h0 [] (cs++[.int (c + d)]) (ts++t.map .int) (l'.map .int)):=by
 obtain ⟨_,hm⟩:=zfr ok c0 c1
 have e0:=zro ok c0 c1
 generalize colAt r c=w at hm e0 ⊢
 have e1:=zqf C (k:=k) (h0:=h0) (gs:=[]) (cs:=cs) (ts:=ts) (hd:=hd) hm
 unfold zc7
 rw [zaa (ρ':=[some b,some l,some f,some .non,some (.int c),some (.ref h0.n),some (.ref (h0.n + 1)),some (.ref (h0.n + 2)),some (.int hd),some (.tup r),some w]) (h':=st3 h0 [] cs ts (ls.map .int)) (by simp [exs,ev,idxW,e0])]
 have key:∀ (d:Int) (l':List Int) (t:List Int),stepP w hd ls=some (d,t,l')→exs (run F (k + 1)) (.seq (.ite (.and (.tru (.isi .tuple (.var 10))) (.cmp .ne (.idx (.var 10) (.cst (.int (0)))) (.var 3))) (.seq (.expr (.mt .append (.var 6) (.cons (.idx (.var 10) (.cst (.int (0)))) .nil))) .skip) .skip) (.seq (.aug 4 .add (.var 8)) (.seq (.expr (.mt .append (.var 5) (.cons (.var 4) .nil))) .skip))) [some b,some l,some f,some .non,some (.int c),some (.ref h0.n),some (.ref (h0.n + 1)),some (.ref (h0.n + 2)),some (.int d),some (.tup r),some w] (st3 h0 [] cs ts (l'.map .int))=.ok (.nx [some b,some l,some f,some .non,some (.int (c + d)),some (.ref h0.n),some (.ref (h0.n + 1)),some (.ref (h0.n + 2)),some (.int d),some (.tup r),some w]) (st3 h0 [] (cs++[.int (c + d)]) (ts++t.map .int) (l'.map .int)):=by
  intro d l' t es
  have fin:∀ ts':List W,exs (run F (k + 1)) (.seq (.aug 4 .add (.var 8)) (.seq (.expr (.mt .append (.var 5) (.cons (.var 4) .nil))) .skip)) [some b,some l,some f,some .non,some (.int c),some (.ref h0.n),some (.ref (h0.n + 1)),some (.ref (h0.n + 2)),some (.int d),some (.tup r),some w] (st3 h0 [] cs ts' (l'.map .int))=.ok (.nx [some b,some l,some f,some .non,some (.int (c + d)),some (.ref h0.n),some (.ref (h0.n + 1)),some (.ref (h0.n + 2)),some (.int d),some (.tup r),some w]) (st3 h0 [] (cs++[.int (c + d)]) ts' (l'.map .int)):=by
   intro ts'
   rw [zaa (ρ':=[some b,some l,some f,some .non,some (.int (c + d)),some (.ref h0.n),some (.ref (h0.n + 1)),some (.ref (h0.n + 2)),some (.int d),some (.tup r),some w]) (h':=st3 h0 [] cs ts' (l'.map .int)) (by simp [exs,ev,ipW])]
   have ea:=zbp (cl:=run F (k + 1)) (i:=5) (l:=h0.n) (x:=.var 4) (ρ:=[some b,some l,some f,some .non,some (.int (c + d)),some (.ref h0.n),some (.ref (h0.n + 1)),some (.ref (h0.n + 2)),some (.int d),some (.tup r),some w]) (h:=st3 h0 [] cs ts' (l'.map .int)) (h1:=st3 h0 [] cs ts' (l'.map .int)) (w:=.int (c + d)) (acc:=cs) (acc0:=cs) rfl st_c (by simp [ev]) st_c (by omega)
   rw [znr] at ea
   simp only [exs,ea,bindok]
  rcases zdc hm with ⟨rfl,h3,h4⟩ | ⟨rfl,h3⟩ | ⟨rfl,h3⟩ | rfl | rfl | ⟨p,q,rfl,h3,h4,h5,h6⟩
  ·rw [zkf] at es; cases es
   rw [zaa (ρ':=[some b,some l,some f,some .non,some (.int c),some (.ref h0.n),some (.ref (h0.n + 1)),some (.ref (h0.n + 2)),some (.int hd),some (.tup r),some (.str sX)]) (h':=st3 h0 [] cs ts (ls.map .int)) (by simp [exs,ev]),fin]; simp
  ·rw [zgq] at es; cases es
   rw [zaa (ρ':=[some b,some l,some f,some .non,some (.int c),some (.ref h0.n),some (.ref (h0.n + 1)),some (.ref (h0.n + 2)),some (.int (-1)),some (.tup r),some (.str sLt)]) (h':=st3 h0 [] cs ts (ls.map .int)) (by simp [exs,ev]),fin]; simp
  ·rw [zgr] at es; cases es
   rw [zaa (ρ':=[some b,some l,some f,some .non,some (.int c),some (.ref h0.n),some (.ref (h0.n + 1)),some (.ref (h0.n + 2)),some (.int 1),some (.tup r),some (.str sGt)]) (h':=st3 h0 [] cs ts (ls.map .int)) (by simp [exs,ev]),fin]; simp
  ·rw [zd8] at es; cases es
   rw [zaa (ρ':=[some b,some l,some f,some .non,some (.int c),some (.ref h0.n),some (.ref (h0.n + 1)),some (.ref (h0.n + 2)),some (.int 0),some (.tup r),some (.str sDot)]) (h':=st3 h0 [] cs ts (ls.map .int)) (by simp [exs,ev]),fin]; simp
  ·rw [zkg] at es; cases es
  ·rw [zgs] at es; cases es
   have ea:=zbp (cl:=run F (k + 1)) (i:=6) (l:=h0.n + 1) (x:=.idx (.var 10) (.cst (.int 0))) (ρ:=[some b,some l,some f,some .non,some (.int c),some (.ref h0.n),some (.ref (h0.n + 1)),some (.ref (h0.n + 2)),some (.int (if ls.getD p 0=q then -1 else 1)),some (.tup r),some (.tup [.int p,.int q])]) (h:=st3 h0 [] cs ts ((ls.set p (1 - ls.getD p 0)).map .int)) (h1:=st3 h0 [] cs ts ((ls.set p (1 - ls.getD p 0)).map .int)) (w:=.int p) (acc:=ts) (acc0:=ts) rfl st_t (by simp [ev,idxW]; rfl) st_t (by omega)
   rw [zns] at ea
   have eb:exs (run F (k + 1)) (.ite (.and (.tru (.isi .tuple (.var 10))) (.cmp .ne (.idx (.var 10) (.cst (.int (0)))) (.var 3))) (.seq (.expr (.mt .append (.var 6) (.cons (.idx (.var 10) (.cst (.int (0)))) .nil))) .skip) .skip) [some b,some l,some f,some .non,some (.int c),some (.ref h0.n),some (.ref (h0.n + 1)),some (.ref (h0.n + 2)),some (.int (if ls.getD p 0=q then -1 else 1)),some (.tup r),some (.tup [.int p,.int q])] (st3 h0 [] cs ts ((ls.set p (1 - ls.getD p 0)).map .int))=.ok (.nx [some b,some l,some f,some .non,some (.int c),some (.ref h0.n),some (.ref (h0.n + 1)),some (.ref (h0.n + 2)),some (.int (if ls.getD p 0=q then -1 else 1)),some (.tup r),some (.tup [.int p,.int q])]) (st3 h0 [] cs (ts++[.int p]) ((ls.set p (1 - ls.getD p 0)).map .int)):=by
    rw [exs]
    have e5:ev (run F (k + 1)) (.and (.tru (.isi .tuple (.var 10))) (.cmp .ne (.idx (.var 10) (.cst (.int (0)))) (.var 3))) [some b,some l,some f,some .non,some (.int c),some (.ref h0.n),some (.ref (h0.n + 1)),some (.ref (h0.n + 2)),some (.int (if ls.getD p 0=q then -1 else 1)),some (.tup r),some (.tup [.int p,.int q])] (st3 h0 [] cs ts ((ls.set p (1 - ls.getD p 0)).map .int))=.ok (.bl true) (st3 h0 [] cs ts ((ls.set p (1 - ls.getD p 0)).map .int)):=by simp [ev,zny,cmpW,zgt]
    rw [e5,bindok]
    simp only [exs,ea,bindok]
   rw [zaa eb,fin]
   rfl
 cases es:stepP w hd ls with
 | none=>
  rw [es] at e1
  rw [zaa (ρ':=[some b,some l,some f,some .non,some (.int c),some (.ref h0.n),some (.ref (h0.n + 1)),some (.ref (h0.n + 2)),some .non,some (.tup r),some w]) (h':=st3 h0 [] cs ts (ls.map .int)) (by simp only [exs,ev,Option.join_some,vaq,vav,ofsome,bindok,e1,vau,vas])]
  exact zlc (by simp [exs,ev,cmpW,isNon])
 | some q=>
  obtain ⟨d,t,l'⟩:=q
  rw [es] at e1
  rw [zaa (ρ':=[some b,some l,some f,some .non,some (.int c),some (.ref h0.n),some (.ref (h0.n + 1)),some (.ref (h0.n + 2)),some (.int d),some (.tup r),some w]) (h':=st3 h0 [] cs ts (l'.map .int)) (by simp only [exs,ev,Option.join_some,vaq,vav,ofsome,bindok,e1,vau,vas])]
  rw [zaa (ρ':=[some b,some l,some f,some .non,some (.int c),some (.ref h0.n),some (.ref (h0.n + 1)),some (.ref (h0.n + 2)),some (.int d),some (.tup r),some w]) (h':=st3 h0 [] cs ts (l'.map .int)) (by simp [exs,ev,cmpW,isNon])]
  exact key d l' t es
theorem zfs {k:Nat} {h0:VH} {b l f:W} {wd:Int}:∀ (rs:List (List W)) (c hd:Int) (cs ts:List W) (ls:List Int) (x y:Option W),zhv wd (ls.length:Int) rs→0≤c→c < wd→-1≤hd→hd≤1→Bits ls→cs.length + rs.length≤1000→ts.length + rs.length≤1000 →
 ∃ c' hd' x' y',forL (tgW (.one 9)) (exs (run F (k + 1)) zc7) (rs.map .tup) [some b,some l,some f,some .non,some (.int c),some (.ref h0.n),some (.ref (h0.n + 1)),some (.ref (h0.n + 2)),some (.int hd),x,y] (st3 h0 [] cs ts (ls.map .int)) =
  .ok (.nx [some b,some l,some f,some .non,c',some (.ref h0.n),some (.ref (h0.n + 1)),some (.ref (h0.n + 2)),hd',x',y']) (st3 h0 [] (cs++(fallP rs c hd ls).cs.map .int) (ts++(fallP rs c hd ls).ts.map .int) ((fallP rs c hd ls).ls.map .int))
 | [],c,hd,cs,ts,ls,x,y,_,_,_,_,_,_,_,_=>⟨some (.int c),some (.int hd),x,y,by simp [forL,fallP]⟩
 | r :: rs,c,hd,cs,ts,ls,x,y,ok,c0,c1,h1,h2,bi,hc,ht=>by
  have hc':cs.length + rs.length + 1≤1000:=by rw [vah] at hc; omega
  have ht':ts.length + rs.length + 1≤1000:=by rw [vah] at ht; omega
  have eb:=ztq C (k:=k) (h0:=h0) (b:=b) (l:=l) (f:=f) (hd:=hd) (cs:=cs) (ts:=ts) (y:=y) (ok r vap) c0 c1 (by omega) (by omega)
  obtain ⟨_,hm⟩:=zfr (ok r vap) c0 c1
  cases e:stepP (colAt r c) hd ls with
  | none=>
   rw [e] at eb
   rw [zhw e]
   refine ⟨some (.int c),some .non,some (.tup r),some (colAt r c),?_⟩
   simp only [vao,forL,tgW,vau,vas,eb,bindok,List.map_nil,List.append_nil]
  | some q=>
   obtain ⟨d,t,l'⟩:=q
   rw [e] at eb
   obtain ⟨a1,a2,a3,a4,a5,a6,a7⟩:=zjb hm c0 c1 h1 h2 bi e
   obtain ⟨c',hd',x',y',ih⟩:=zfs (k:=k) (h0:=h0) (b:=b) (l:=l) (f:=f) rs (c + d) d (cs++[.int (c + d)]) (ts++t.map .int) l' (some (.tup r)) (some (colAt r c)) (fun r hr=>by rw [a5]; exact ok r (vaj _ hr)) a3 a4 a1 a2 a6 (by simp only [vag,List.length_singleton]; omega) (by simp only [vag,vab]; omega)
   rw [zhx e]
   refine ⟨c',hd',x',y',?_⟩
   simp only [vao,forL,tgW,vau,vas,eb,bindok,ih,List.map_append,List.append_assoc,List.singleton_append]
theorem ztr {k:Nat} {h:VH} {B:Bd} {ls:List Int} {f:Nat} (b:B.Ok) (hf:f < B.fd.length) (hl:(ls.length:Int)=B.gr) (bi:Bits ls):run F (k + 2) 174 [B.w,iW ls,.int f,.non] h=.ok (wayW B ls f) h:=by
 rw [zag C.f174 rfl]
 obtain ⟨e0,c0,c1⟩:=b.col hf
 have hr:=b.r1
 obtain ⟨c',hd',x',y',el⟩:=zfs C (k:=k) (h0:=h) (b:=B.w) (l:=iW ls) (f:=.int f) B.rows (B.col f) 0 [.int (B.col f)] [] ls none none (b.rows hl) c0 c1 (by decide) (by decide) bi (by rw [List.length_singleton]; omega) (by rw [List.length_nil]; omega)
 have e1:atI B.fd (f:Int)=some (.int (B.col f)):=zbk e0
 have i3:atI [W.int B.wd,.int B.gr,.tup (B.rows.map .tup),.tup B.fd,.tup B.dr] 3=some (.tup B.fd):=rfl
 have i2:atI [W.int B.wd,.int B.gr,.tup (B.rows.map .tup),.tup B.fd,.tup B.dr] 2=some (.tup (B.rows.map .tup)):=rfl
 have hz:(B.rows.map W.tup).length < 1000000:=by rw [vab]; omega
 have eb:exs (run F (k + 1)) fn174.body [some B.w,some (iW ls),some (.int f),some .non,none,none,none,none,none,none,none] ⟨h.n,h.n,h.os⟩=.ok (.rt (wayW B ls f)) (st3 h [] (([.int (B.col f)]:List W)++(fallP B.rows (B.col f) 0 ls).cs.map .int) (([]:List W)++(fallP B.rows (B.col f) 0 ls).ts.map .int) ((fallP B.rows (B.col f) 0 ls).ls.map .int)):=by
  show exs (run F (k + 1)) (.seq _ _) _ _=_
  rw [zaa (ρ':=[some B.w,some (iW ls),some (.int f),some .non,some (.int (B.col f)),none,none,none,none,none,none]) (h':=⟨h.n,h.n,h.os⟩) (by unfold Bd.w; simp [exs,ev,idxW,i3,e1])]
  rw [zaa (ρ':=[some B.w,some (iW ls),some (.int f),some .non,some (.int (B.col f)),some (.ref h.n),none,none,none,none,none]) (h':=VH.new ⟨h.n,h.n,h.os⟩ (.lst [.int (B.col f)])) (by simp [exs,ev])]
  rw [zaa (ρ':=[some B.w,some (iW ls),some (.int f),some .non,some (.int (B.col f)),some (.ref h.n),some (.ref (h.n + 1)),none,none,none,none]) (h':=VH.new (VH.new ⟨h.n,h.n,h.os⟩ (.lst [.int (B.col f)])) (.lst [])) (by simp [exs,ev,VH.new])]
  rw [zaa (ρ':=[some B.w,some (iW ls),some (.int f),some .non,some (.int (B.col f)),some (.ref h.n),some (.ref (h.n + 1)),some (.ref (h.n + 2)),none,none,none]) (h':=st3 h [] [.int (B.col f)] [] (ls.map .int)) (by unfold iW; simp [exs,ev,VH.new,biW,listW,seqW,st3])]
  rw [zaa (ρ':=[some B.w,some (iW ls),some (.int f),some .non,some (.int (B.col f)),some (.ref h.n),some (.ref (h.n + 1)),some (.ref (h.n + 2)),some (.int 0),none,none]) (h':=st3 h [] [.int (B.col f)] [] (ls.map .int)) (by simp [exs,ev])]
  have ei:ev (run F (k + 1)) (.idx (.var 0) (.cst (.int (2)))) [some B.w,some (iW ls),some (.int f),some .non,some (.int (B.col f)),some (.ref h.n),some (.ref (h.n + 1)),some (.ref (h.n + 2)),some (.int 0),none,none] (st3 h [] [.int (B.col f)] [] (ls.map .int))=.ok (.tup (B.rows.map .tup)) (st3 h [] [.int (B.col f)] [] (ls.map .int)):=by
   unfold Bd.w; simp [ev,idxW,i2]
  have ef:=zci (tg:=tgW (.one 9)) (b:=exs (run F (k + 1)) zc7) (ρ:=[some B.w,some (iW ls),some (.int f),some .non,some (.int (B.col f)),some (.ref h.n),some (.ref (h.n + 1)),some (.ref (h.n + 2)),some (.int 0),none,none]) (h:=st3 h [] [.int (B.col f)] [] (ls.map .int)) hz
  rw [el] at ef
  refine (zaa (by rw [exs,ei,bindok,ef])).trans ?_
  have et:=tup3 (cl:=run F (k + 1)) (zdp (i:=5) (ρ:=[some B.w,some (iW ls),some (.int f),some .non,c',some (.ref h.n),some (.ref (h.n + 1)),some (.ref (h.n + 2)),hd',x',y']) rfl (st_c (h:=h) (gs:=[]) (c:=([.int (B.col f)]:List W)++(fallP B.rows (B.col f) 0 ls).cs.map .int) (t:=([]:List W)++(fallP B.rows (B.col f) 0 ls).ts.map .int) (l:=(fallP B.rows (B.col f) 0 ls).ls.map .int))) (zdp (i:=6) rfl st_t) (zdp (i:=7) rfl st_l)
  simp only [exs,et,bindok]
  rfl
 show fin h (exs (run F (k + 1)) fn174.body [some B.w,some (iW ls),some (.int f),some .non,none,none,none,none,none,none,none] ⟨h.n,h.n,h.os⟩)=_
 rw [eb]
 exact zai (vae _) ztp
noncomputable def downW (B:Bd) (ls:List Int) (f:Nat):W:=if (B.fall ls f).st then .non else .int (lastC (B.col f) (B.fall ls f).cs)
theorem zld {k:Nat} {h:VH} {B:Bd} {ls:List Int} {f:Nat} (b:B.Ok) (hf:f < B.fd.length) (hl:(ls.length:Int)=B.gr) (bi:Bits ls):run F (k + 3) 175 [B.w,iW ls,.int f,.non] h=.ok (.tup [downW B ls f,iW (B.fall ls f).ls]) h:=by
 rw [zag C.f175 rfl]
 have e1:=ztr C (k:=k) (h:=⟨h.n,h.n,h.os⟩) b hf hl bi
 have q:=b.fall hf hl bi
 have i2:atI [W.int B.wd,.int B.gr,.tup (B.rows.map .tup),.tup B.fd,.tup B.dr] 2=some (.tup (B.rows.map .tup)):=rfl
 have e2:exs (run F (k + 2)) (.unp [4,5,6] (.call 174 (.cons (.var 0) (.cons (.var 1) (.cons (.var 2) (.cons (.var 3) .nil)))))) [some B.w,some (iW ls),some (.int f),some .non,none,none,none,none] ⟨h.n,h.n,h.os⟩=.ok (.nx [some B.w,some (iW ls),some (.int f),some .non,some (iW (B.col f :: (B.fall ls f).cs)),some (iW (B.fall ls f).ts),some (iW (B.fall ls f).ls),none]) ⟨h.n,h.n,h.os⟩:=by
  simp only [exs,ev,Option.join_some,vaq,vav,ofsome,bindok,e1,wayW,tgW,seqW,zaw,vau,vas,van]
 have e3:ev (run F (k + 2)) (.cmp .gt (.bi .len (.cons (.var 4) .nil)) (.bi .len (.cons (.idx (.var 0) (.cst (.int (2)))) .nil))) [some B.w,some (iW ls),some (.int f),some .non,some (iW (B.col f :: (B.fall ls f).cs)),some (iW (B.fall ls f).ts),some (iW (B.fall ls f).ls),none] ⟨h.n,h.n,h.os⟩=.ok (.bl (!(B.fall ls f).st)) ⟨h.n,h.n,h.os⟩:=by
  have:decide ((B.rows.length:Int) < ((B.fall ls f).cs.length:Int) + 1)=!(B.fall ls f).st:=by
   cases z:(B.fall ls f).st with
   | true=>have:=q.c5 z; exact decide_eq_false (by omega)
   | false=>have:=q.c3 z; exact decide_eq_true (by omega)
  unfold Bd.w iW
  simp [ev,biW,lenW,seqW,idxW,i2,cmpW,cmpI,this]
 have el:=znv (cs:=(B.fall ls f).cs) (c:=B.col f)
 show fin h (exs (run F (k + 2)) (.seq (.unp [4,5,6] (.call 174 (.cons (.var 0) (.cons (.var 1) (.cons (.var 2) (.cons (.var 3) .nil)))))) _) [some B.w,some (iW ls),some (.int f),some .non,none,none,none,none] ⟨h.n,h.n,h.os⟩)=_
 rw [zaa e2]
 have e4:ev (run F (k + 2)) (.idx (.var 4) (.neg (.cst (.int (1))))) [some B.w,some (iW ls),some (.int f),some .non,some (iW (B.col f :: (B.fall ls f).cs)),some (iW (B.fall ls f).ts),some (iW (B.fall ls f).ls),none] ⟨h.n,h.n,h.os⟩=.ok (.int (lastC (B.col f) (B.fall ls f).cs)) ⟨h.n,h.n,h.os⟩:=by
  unfold iW
  simp only [ev,Option.join_some,vaq,vav,ofsome,bindok,idxW,el]
 have e5:exs (run F (k + 2)) (.set 7 (.ite (.cmp .gt (.bi .len (.cons (.var 4) .nil)) (.bi .len (.cons (.idx (.var 0) (.cst (.int (2)))) .nil))) (.idx (.var 4) (.neg (.cst (.int (1))))) (.cst .non))) [some B.w,some (iW ls),some (.int f),some .non,some (iW (B.col f :: (B.fall ls f).cs)),some (iW (B.fall ls f).ts),some (iW (B.fall ls f).ls),none] ⟨h.n,h.n,h.os⟩=.ok (.nx [some B.w,some (iW ls),some (.int f),some .non,some (iW (B.col f :: (B.fall ls f).cs)),some (iW (B.fall ls f).ts),some (iW (B.fall ls f).ls),some (downW B ls f)]) ⟨h.n,h.n,h.os⟩:=by
  unfold downW
  rw [exs,ev,e3]
  cases z:(B.fall ls f).st with
  | true=>rfl
  | false=>simp only [Bool.not_false,bindok,e4]; rfl
 rw [zaa e5]
 simp only [exs]
 rw [tup2 (x:=downW B ls f) (y:=iW (B.fall ls f).ls) rfl rfl]
 refine zai (vae _) ?_
 unfold downW
 split <;> simp [iW_lt]
end
noncomputable def dirD:List (Key × W):=[(.inr sDot,.int 0),(.inr sLt,.int (-1)),(.inr sGt,.int 1)]
theorem znz:zjw [] [(.inr sDot,.int 0),(.inr sLt,.int (-1)),(.inr sGt,.int 1)]=dirD:=by rfl
theorem zts:lookK dirD (.inr sDot)=some (.int 0):=by rfl
theorem zxn:lookK dirD (.inr sLt)=some (.int (-1)):=by rfl
theorem zxo:lookK dirD (.inr sGt)=some (.int 1):=by rfl
noncomputable abbrev dspE:E:=.dsp (.cons (.cst (.str (PySem.Str.ofString "."))) (.cons (.cst (.int (0))) (.cons (.cst (.str (PySem.Str.ofString "<"))) (.cons (.neg (.cst (.int (1)))) (.cons (.cst (.str (PySem.Str.ofString ">"))) (.cons (.cst (.int (1))) .nil))))))
theorem zxp {cl:Call} {ρ:En} {h:VH}:ev cl dspE ρ h=.ok (.ref h.n) (h.new (.dk dirD)):=by
 simp only [dspE,ev,bindok,zb0,keyW]
 rw [if_pos (by decide)]
 show Res.ok _ (h.new (.dk (zjw [] _)))=_
 rw [znz]
theorem zn0 {h:VH} {o:VO}:(h.new o).get h.n=some o:=by
 unfold VH.get VH.new
 rw [if_pos (zan.mpr (by show h.n < h.n + 1; omega))]
 show (o :: h.os)[h.n + 1 - 1 - h.n]?=_
 rw [show h.n + 1 - 1 - h.n=0 by omega]
 rfl
theorem zxq {cl:Call} {ρ:En} {h:VH} {x:Str} {d:Int} (hρ:ρ[8]?=some (some (.str x))) (e:lookK dirD (.inr x)=some (.int d)):ev cl (.idx dspE (.var 8)) ρ h=.ok (.int d) (h.new (.dk dirD)):=by
 rw [ev,zxp,bindok,ev,hρ]
 show (Res.of (idxW (h.new (.dk dirD)) (.ref h.n) (.str x)) (h.new (.dk dirD)))=_
 unfold idxW
 simp only [zn0,e]
 rfl
theorem zbq {h:VH} {p q:Int} {x:Str} (hx:PyData.strOk x=true):eqW h (.tup [.int p,.int q]) (.str x)=some false:=by
 rw [zck (x:=x) rfl hx]; rfl
noncomputable def endE (st:Bool):E:=.lst (.cons (.bi .tuple (.cons (.var 4) .nil)) (.cons (.bi .tuple (.cons (.var 5) .nil)) (.cons (.bi .tuple (.cons (.var 1) .nil)) (.cons (.cst (.bl st)) .nil))))
theorem zrp {cl:Call} {st:Bool} {ρ:En} {h0:VH} {gs:List VO} {cs ts ls:List W} (r4:ρ[4]?=some (some (.ref h0.n))) (r5:ρ[5]?=some (some (.ref (h0.n + 1)))) (r1:ρ[1]?=some (some (.ref (h0.n + 2)))) :
 ev cl (endE st) ρ (st3 h0 gs cs ts ls)=.ok (.ref (h0.n + 3 + gs.length)) (st3 h0 (.lst [.tup cs,.tup ts,.tup ls,.bl st] :: gs) cs ts ls):=by
 unfold endE
 rw [ev,ev,zdp r4 st_c,bindok,ev,zdp r5 st_t,bindok,ev,zdp r1 st_l,bindok,ev,ev,bindok,ev]
 simp only [bindok]
 rw [if_pos (by rfl),znt]
 rfl
theorem zhz {cl:Call} {h0:VH} {gs:List VO} {cs ts ls:List W} {b l f:W} {a r:W} {w:W} {c d:Int} (hc:atI cs (-1)=some (.int c)) (hl:cs.length≤1000000) :
 exs cl (.seq (.expr (.mt .append (.var 4) (.cons (.op .add (.idx (.var 4) (.neg (.cst (.int (1))))) (.var 6)) .nil))) .skip) [some b,some l,some f,some a,some (.ref h0.n),some (.ref (h0.n + 1)),some (.int d),some r,some w] (st3 h0 gs cs ts ls)=.ok (.nx [some b,some l,some f,some a,some (.ref h0.n),some (.ref (h0.n + 1)),some (.int d),some r,some w]) (st3 h0 gs (cs++[.int (c + d)]) ts ls):=by
 have g:=st_c (h:=h0) (gs:=gs) (c:=cs) (t:=ts) (l:=ls)
 have ea:=zbp (cl:=cl) (i:=4) (l:=h0.n) (x:=.op .add (.idx (.var 4) (.neg (.cst (.int (1))))) (.var 6)) (ρ:=[some b,some l,some f,some a,some (.ref h0.n),some (.ref (h0.n + 1)),some (.int d),some r,some w]) (h:=st3 h0 gs cs ts ls) (h1:=st3 h0 gs cs ts ls) (w:=.int (c + d)) (acc:=cs) (acc0:=cs) rfl g (by simp only [ev,Option.join_some,vaq,vav,ofsome,bindok,idxW,g,hc,opW,opI,van]) g hl
 rw [znr] at ea
 simp only [exs,ea,bindok]
noncomputable abbrev sE:E:=.cst (.str (PySem.Str.ofString "s"))
noncomputable def midS:S:=(.ite (.or (.cmp .eq (.var 8) (.cst (.str (PySem.Str.ofString ".")))) (.or (.cmp .eq (.var 8) (.cst (.str (PySem.Str.ofString "<")))) (.cmp .eq (.var 8) (.cst (.str (PySem.Str.ofString ">")))))) (.seq (.set 6 (.idx dspE (.var 8))) .skip) (.seq (.ite (.cmp .ne (.var 8) (.cst (.str (PySem.Str.ofString "x")))) (.seq (.set 6 (.op .sub (.cst (.int (1))) (.op .mul (.cst (.int (2))) (.bi .int (.cons (.cmp .eq (.idx (.var 1) (.idx (.var 8) (.cst (.int (0))))) (.idx (.var 8) (.cst (.int (1))))) .nil))))) (.seq (.expr (.mt .append (.var 5) (.cons (.idx (.var 8) (.cst (.int (0)))) .nil))) (.seq (.put (.var 1) (.idx (.var 8) (.cst (.int (0)))) (.op .sub (.cst (.int (1))) (.idx (.var 1) (.idx (.var 8) (.cst (.int (0))))))) .skip))) .skip) .skip))
theorem zjc {cl:Call} {h0:VH} {gs:List VO} {cs ts ls:List W} {b l f a r:W} {hd d:Int} {x:Str} (e1:(.str x:W)=.str sDot∨(.str x:W)=.str sLt∨(.str x:W)=.str sGt) (e:lookK dirD (.inr x)=some (.int d)) :
 exs cl midS [some b,some l,some f,some a,some (.ref h0.n),some (.ref (h0.n + 1)),some (.int hd),some r,some (.str x)] (st3 h0 gs cs ts ls)=.ok (.nx [some b,some l,some f,some a,some (.ref h0.n),some (.ref (h0.n + 1)),some (.int d),some r,some (.str x)]) (st3 h0 (.dk dirD :: gs) cs ts ls):=by
 have ed:=zxq (cl:=cl) (ρ:=[some b,some l,some f,some a,some (.ref h0.n),some (.ref (h0.n + 1)),some (.int hd),some r,some (.str x)]) (h:=st3 h0 gs cs ts ls) rfl e
 rw [znt] at ed
 have ec:ev cl (.or (.cmp .eq (.var 8) (.cst (.str (PySem.Str.ofString ".")))) (.or (.cmp .eq (.var 8) (.cst (.str (PySem.Str.ofString "<")))) (.cmp .eq (.var 8) (.cst (.str (PySem.Str.ofString ">")))))) [some b,some l,some f,some a,some (.ref h0.n),some (.ref (h0.n + 1)),some (.int hd),some r,some (.str x)] (st3 h0 gs cs ts ls)=.ok (.bl true) (st3 h0 gs cs ts ls):=by
  rcases e1 with e1 | e1 | e1 <;> rw [e1] <;> simp [ev,cmpW]
 unfold midS
 rw [exs,ec,bindok]
 simp only [exs,ed,bindok,vau,vas]
theorem mid_x {cl:Call} {h0:VH} {gs:List VO} {cs ts ls:List W} {b l f a r:W} {hd:Int} :
 exs cl midS [some b,some l,some f,some a,some (.ref h0.n),some (.ref (h0.n + 1)),some (.int hd),some r,some (.str sX)] (st3 h0 gs cs ts ls)=.ok (.nx [some b,some l,some f,some a,some (.ref h0.n),some (.ref (h0.n + 1)),some (.int hd),some r,some (.str sX)]) (st3 h0 gs cs ts ls):=by
 simp [midS,exs,ev,cmpW]
theorem zxr {cl:Call} {h0:VH} {gs:List VO} {cs ts:List W} {ls:List Int} {b f a r:W} {hd:Int} {p q:Nat} (hp:p < ls.length) (ht:ts.length≤1000000) :
 exs cl midS [some b,some (.ref (h0.n + 2)),some f,some a,some (.ref h0.n),some (.ref (h0.n + 1)),some (.int hd),some r,some (.tup [.int p,.int q])] (st3 h0 gs cs ts (ls.map .int))=.ok (.nx [some b,some (.ref (h0.n + 2)),some f,some a,some (.ref h0.n),some (.ref (h0.n + 1)),some (.int (if ls.getD p 0=q then -1 else 1)),some r,some (.tup [.int p,.int q])]) (st3 h0 gs cs (ts++[.int p]) ((ls.set p (1 - ls.getD p 0)).map .int)):=by
 have e1:=zrn hp
 have e2:ixN (ls.map W.int).length (p:Int)=some p:=znu (by rw [vab]; exact hp)
 have i0:atI [W.int p,.int q] 0=some (.int p):=rfl
 have i1:atI [W.int p,.int q] 1=some (.int q):=rfl
 have n1:∀ h,eqW h (.tup [.int (p:Int),.int (q:Int)]) (.str (PySem.Str.ofString "."))=some false:=fun h=>zbq (by decide +kernel)
 have n2:∀ h,eqW h (.tup [.int (p:Int),.int (q:Int)]) (.str (PySem.Str.ofString "<"))=some false:=fun h=>zbq (by decide +kernel)
 have n3:∀ h,eqW h (.tup [.int (p:Int),.int (q:Int)]) (.str (PySem.Str.ofString ">"))=some false:=fun h=>zbq (by decide +kernel)
 have n4:∀ h,eqW h (.tup [.int (p:Int),.int (q:Int)]) (.str (PySem.Str.ofString "x"))=some false:=fun h=>zbq (by decide +kernel)
 have g:=st_l (h:=h0) (gs:=gs) (c:=cs) (t:=ts) (l:=ls.map .int)
 have s1:exs cl (.set 6 (.op .sub (.cst (.int (1))) (.op .mul (.cst (.int (2))) (.bi .int (.cons (.cmp .eq (.idx (.var 1) (.idx (.var 8) (.cst (.int (0))))) (.idx (.var 8) (.cst (.int (1))))) .nil))))) [some b,some (.ref (h0.n + 2)),some f,some a,some (.ref h0.n),some (.ref (h0.n + 1)),some (.int hd),some r,some (.tup [.int p,.int q])] (st3 h0 gs cs ts (ls.map .int))=.ok (.nx [some b,some (.ref (h0.n + 2)),some f,some a,some (.ref h0.n),some (.ref (h0.n + 1)),some (.int (if ls.getD p 0=q then -1 else 1)),some r,some (.tup [.int p,.int q])]) (st3 h0 gs cs ts (ls.map .int)):=by
  generalize ls.getD p 0=y at e1 ⊢
  have sm:zbd 2=true:=by decide
  by_cases z:y=(q:Int)
  ·simp only [exs,ev,Option.join_some,vaq,vav,ofsome,bindok,idxW,i0,i1,g,e1,cmpW,zaq,z,decide_true,if_true,van,biW,intW,opW,opI,sm,Bool.true_or,vau,vas]
   rfl
  ·simp only [exs,ev,Option.join_some,vaq,vav,ofsome,bindok,idxW,i0,i1,g,e1,cmpW,zaq,z,decide_false,if_false,van,biW,intW,opW,opI,sm,Bool.true_or,vau,vas]
   rfl
 generalize hy:(if ls.getD p 0=(q:Int) then (-1:Int) else 1)=dd at s1 ⊢
 have ea:=zbp (cl:=cl) (i:=5) (l:=h0.n + 1) (x:=.idx (.var 8) (.cst (.int 0))) (ρ:=[some b,some (.ref (h0.n + 2)),some f,some a,some (.ref h0.n),some (.ref (h0.n + 1)),some (.int dd),some r,some (.tup [.int p,.int q])]) (h:=st3 h0 gs cs ts (ls.map .int)) (h1:=st3 h0 gs cs ts (ls.map .int)) (w:=.int p) (acc:=ts) (acc0:=ts) rfl st_t (by simp only [ev,Option.join_some,vaq,vav,ofsome,bindok,idxW,i0]) st_t ht
 rw [zns] at ea
 have g2:=st_l (h:=h0) (gs:=gs) (c:=cs) (t:=ts++[.int p]) (l:=ls.map .int)
 have s3:exs cl (.put (.var 1) (.idx (.var 8) (.cst (.int (0)))) (.op .sub (.cst (.int (1))) (.idx (.var 1) (.idx (.var 8) (.cst (.int (0))))))) [some b,some (.ref (h0.n + 2)),some f,some a,some (.ref h0.n),some (.ref (h0.n + 1)),some (.int dd),some r,some (.tup [.int p,.int q])] (st3 h0 gs cs (ts++[.int p]) (ls.map .int))=.ok (.nx [some b,some (.ref (h0.n + 2)),some f,some a,some (.ref h0.n),some (.ref (h0.n + 1)),some (.int dd),some r,some (.tup [.int p,.int q])]) (st3 h0 gs cs (ts++[.int p]) ((ls.set p (1 - ls.getD p 0)).map .int)):=by
  simp only [exs,ev,Option.join_some,vaq,vav,ofsome,bindok,idxW,i0,g2,e1,opW,opI,van,e2,zto,List.map_set]
 unfold midS
 have ec:ev cl (.or (.cmp .eq (.var 8) (.cst (.str (PySem.Str.ofString ".")))) (.or (.cmp .eq (.var 8) (.cst (.str (PySem.Str.ofString "<")))) (.cmp .eq (.var 8) (.cst (.str (PySem.Str.ofString ">")))))) [some b,some (.ref (h0.n + 2)),some f,some a,some (.ref h0.n),some (.ref (h0.n + 1)),some (.int hd),some r,some (.tup [.int p,.int q])] (st3 h0 gs cs ts (ls.map .int))=.ok (.bl false) (st3 h0 gs cs ts (ls.map .int)):=by
  simp [ev,cmpW,n1,n2,n3]
 have ed:ev cl (.cmp .ne (.var 8) (.cst (.str (PySem.Str.ofString "x")))) [some b,some (.ref (h0.n + 2)),some f,some a,some (.ref h0.n),some (.ref (h0.n + 1)),some (.int hd),some r,some (.tup [.int p,.int q])] (st3 h0 gs cs ts (ls.map .int))=.ok (.bl true) (st3 h0 gs cs ts (ls.map .int)):=by
  simp [ev,cmpW,n4]
 rw [exs,ec,bindok]
 simp only
 have s0:exs cl (.ite (.cmp .ne (.var 8) (.cst (.str (PySem.Str.ofString "x")))) (.seq (.set 6 (.op .sub (.cst (.int (1))) (.op .mul (.cst (.int (2))) (.bi .int (.cons (.cmp .eq (.idx (.var 1) (.idx (.var 8) (.cst (.int (0))))) (.idx (.var 8) (.cst (.int (1))))) .nil))))) (.seq (.expr (.mt .append (.var 5) (.cons (.idx (.var 8) (.cst (.int (0)))) .nil))) (.seq (.put (.var 1) (.idx (.var 8) (.cst (.int (0)))) (.op .sub (.cst (.int (1))) (.idx (.var 1) (.idx (.var 8) (.cst (.int (0))))))) .skip))) .skip) [some b,some (.ref (h0.n + 2)),some f,some a,some (.ref h0.n),some (.ref (h0.n + 1)),some (.int hd),some r,some (.tup [.int p,.int q])] (st3 h0 gs cs ts (ls.map .int))=.ok (.nx [some b,some (.ref (h0.n + 2)),some f,some a,some (.ref h0.n),some (.ref (h0.n + 1)),some (.int dd),some r,some (.tup [.int p,.int q])]) (st3 h0 gs cs (ts++[.int p]) ((ls.set p (1 - ls.getD p 0)).map .int)):=by
  rw [exs,ed,bindok]
  simp only
  rw [zaa s1,zaa (ρ':=[some b,some (.ref (h0.n + 2)),some f,some a,some (.ref h0.n),some (.ref (h0.n + 1)),some (.int dd),some r,some (.tup [.int p,.int q])]) (h':=st3 h0 gs cs (ts++[.int p]) (ls.map .int)) (by rw [exs,ea,bindok]),zaa s3]
  rfl
 rw [zaa s0]
 rfl
structure CoreL (F:Nat→Option Fn):Prop where
 f38:F 38=some fn38
theorem zle:zdo=.seq (.set 8 (.idx (.var 7) (.idx (.var 4) (.neg (.cst (.int (1))))))) (.seq (.ite (.cmp .eq (.var 8) sE) (.seq (.ret (endE true)) .skip) .skip) (.seq midS (.seq (.expr (.mt .append (.var 4) (.cons (.op .add (.idx (.var 4) (.neg (.cst (.int (1))))) (.var 6)) .nil))) .skip))):=rfl
theorem ztt:fn38=⟨3,9,.seq (.set 3 (.idx (.idx (.var 0) (.cst (.int (3)))) (.var 2))) (.seq (.set 4 (.lst (.cons (.var 3) .nil))) (.seq (.set 5 (.lst .nil)) (.seq (.set 1 (.bi .list (.cons (.var 1) .nil))) (.seq (.set 6 (.cst (.int (0)))) (.seq (.«for» .seq (.idx (.var 0) (.cst (.int (2)))) (.one 7) zdo) (.seq (.ret (endE false)) .skip))))))⟩:=rfl
theorem zxs {cl:Call} {h0:VH} {gs:List VO} {b f a:W} {r:List W} {c wd hd:Int} {cs ts:List W} {ls:List Int} {y:Option W} (ok:(r.length:Int)=wd∧rowOk wd (ls.length:Int) 0 r) (c0:0≤c) (c1:c < wd) (hc:cs.length≤1000) (ht:ts.length≤1000) (hlast:atI cs (-1)=some (.int c)) :
 ∃ gs',exs cl zdo [some b,some (.ref (h0.n + 2)),some f,some a,some (.ref h0.n),some (.ref (h0.n + 1)),some (.int hd),some (.tup r),y] (st3 h0 gs cs ts (ls.map .int))=match stepP (colAt r c) hd ls with
  | none=>.ok (.rt (.ref (h0.n + 3 + gs.length))) (st3 h0 (.lst [.tup cs,.tup ts,iW ls,.bl true] :: gs) cs ts (ls.map .int))
  | some (d,t,l')=>.ok (.nx [some b,some (.ref (h0.n + 2)),some f,some a,some (.ref h0.n),some (.ref (h0.n + 1)),some (.int d),some (.tup r),some (colAt r c)]) (st3 h0 gs' (cs++[.int (c + d)]) (ts++t.map .int) (l'.map .int)):=by
 obtain ⟨_,hm⟩:=zfr ok c0 c1
 have e0:=zro ok c0 c1
 generalize colAt r c=w at hm e0 ⊢
 have g:=st_c (h:=h0) (gs:=gs) (c:=cs) (t:=ts) (l:=ls.map .int)
 have s1:exs cl (.set 8 (.idx (.var 7) (.idx (.var 4) (.neg (.cst (.int (1))))))) [some b,some (.ref (h0.n + 2)),some f,some a,some (.ref h0.n),some (.ref (h0.n + 1)),some (.int hd),some (.tup r),y] (st3 h0 gs cs ts (ls.map .int))=.ok (.nx [some b,some (.ref (h0.n + 2)),some f,some a,some (.ref h0.n),some (.ref (h0.n + 1)),some (.int hd),some (.tup r),some w]) (st3 h0 gs cs ts (ls.map .int)):=by
  simp only [exs,ev,Option.join_some,vaq,vav,ofsome,bindok,idxW,g,hlast,e0,vau,vas]
 have no:∀ _:Unit,eqW (st3 h0 gs cs ts (ls.map .int)) w (.str sS)=some false→exs cl (.ite (.cmp .eq (.var 8) sE) (.seq (.ret (endE true)) .skip) .skip) [some b,some (.ref (h0.n + 2)),some f,some a,some (.ref h0.n),some (.ref (h0.n + 1)),some (.int hd),some (.tup r),some w] (st3 h0 gs cs ts (ls.map .int))=.ok (.nx [some b,some (.ref (h0.n + 2)),some f,some a,some (.ref h0.n),some (.ref (h0.n + 1)),some (.int hd),some (.tup r),some w]) (st3 h0 gs cs ts (ls.map .int)):=by
  intro _ e
  simp only [exs,ev,Option.join_some,vaq,vav,ofsome,bindok,cmpW,e,van]
 rw [zle,zaa s1]
 rcases zdc hm with ⟨rfl,h3,h4⟩ | ⟨rfl,h3⟩ | ⟨rfl,h3⟩ | rfl | rfl | ⟨p,q,rfl,h3,h4,h5,h6⟩
 ·refine ⟨gs,?_⟩
  rw [zkf,zaa (no () eq_X_S),zaa mid_x,zhz hlast (by omega)]
  simp
 ·refine ⟨.dk dirD :: gs,?_⟩
  rw [zgq,zaa (no () eq_Lt_S),zaa (zjc (.inr (.inl rfl)) zxn),zhz hlast (by omega)]
  simp
 ·refine ⟨.dk dirD :: gs,?_⟩
  rw [zgr,zaa (no () eq_Gt_S),zaa (zjc (.inr (.inr rfl)) zxo),zhz hlast (by omega)]
  simp
 ·refine ⟨.dk dirD :: gs,?_⟩
  rw [zd8,zaa (no () eq_Dot_S),zaa (zjc (.inl rfl) zts),zhz hlast (by omega)]
  simp
 ·refine ⟨gs,?_⟩
  rw [zkg]
  have ee:=zrp (cl:=cl) (st:=true) (ρ:=[some b,some (.ref (h0.n + 2)),some f,some a,some (.ref h0.n),some (.ref (h0.n + 1)),some (.int hd),some (.tup r),some (.str sS)]) (h0:=h0) (gs:=gs) (cs:=cs) (ts:=ts) (ls:=ls.map .int) rfl rfl rfl
  refine zab ?_
  have ec:ev cl (.cmp .eq (.var 8) sE) [some b,some (.ref (h0.n + 2)),some f,some a,some (.ref h0.n),some (.ref (h0.n + 1)),some (.int hd),some (.tup r),some (.str sS)] (st3 h0 gs cs ts (ls.map .int))=.ok (.bl true) (st3 h0 gs cs ts (ls.map .int)):=by
   simp only [ev,Option.join_some,vaq,vav,ofsome,bindok,cmpW,eq_S_S,van]
  rw [exs,ec,bindok]
  simp only [exs,ee,bindok]
  rfl
 ·refine ⟨gs,?_⟩
  rw [zgs,zaa (no () (zbq (by decide +kernel))),zaa (zxr (by omega) (by omega)),zhz hlast (by omega)]
  rfl
theorem zrq {cl:Call} {h0:VH} {b f a:W} {wd:Int}:∀ (rs:List (List W)) (c hd:Int) (gs:List VO) (cs ts:List W) (ls:List Int) (x y:Option W),zhv wd (ls.length:Int) rs→0≤c→c < wd→-1≤hd→hd≤1→Bits ls→cs.length + rs.length≤1000→ts.length + rs.length≤1000→atI cs (-1)=some (.int c) →
 ∃ gs' hd' x' y',forL (tgW (.one 7)) (exs cl zdo) (rs.map .tup) [some b,some (.ref (h0.n + 2)),some f,some a,some (.ref h0.n),some (.ref (h0.n + 1)),some (.int hd),x,y] (st3 h0 gs cs ts (ls.map .int)) =
  if (fallP rs c hd ls).st then .ok (.rt (.ref (h0.n + 3 + gs'.length))) (st3 h0 (.lst [.tup (cs++(fallP rs c hd ls).cs.map .int),.tup (ts++(fallP rs c hd ls).ts.map .int),iW (fallP rs c hd ls).ls,.bl true] :: gs') (cs++(fallP rs c hd ls).cs.map .int) (ts++(fallP rs c hd ls).ts.map .int) ((fallP rs c hd ls).ls.map .int))
  else .ok (.nx [some b,some (.ref (h0.n + 2)),some f,some a,some (.ref h0.n),some (.ref (h0.n + 1)),hd',x',y']) (st3 h0 gs' (cs++(fallP rs c hd ls).cs.map .int) (ts++(fallP rs c hd ls).ts.map .int) ((fallP rs c hd ls).ls.map .int))
 | [],c,hd,gs,cs,ts,ls,x,y,_,_,_,_,_,_,_,_,_=>⟨gs,some (.int hd),x,y,by simp [forL,fallP]⟩
 | r :: rs,c,hd,gs,cs,ts,ls,x,y,ok,c0,c1,h1,h2,bi,hc,ht,hlast=>by
  have hc':cs.length + rs.length + 1≤1000:=by rw [vah] at hc; omega
  have ht':ts.length + rs.length + 1≤1000:=by rw [vah] at ht; omega
  obtain ⟨gs1,eb⟩:=zxs (cl:=cl) (h0:=h0) (gs:=gs) (b:=b) (f:=f) (a:=a) (hd:=hd) (cs:=cs) (ts:=ts) (y:=y) (ok r vap) c0 c1 (by omega) (by omega) hlast
  obtain ⟨_,hm⟩:=zfr (ok r vap) c0 c1
  cases e:stepP (colAt r c) hd ls with
  | none=>
   rw [e] at eb
   rw [zhw e]
   refine ⟨gs,some (.int hd),x,y,?_⟩
   simp only [vao,forL,tgW,vau,vas,eb,bindok,List.map_nil,List.append_nil,if_true]
  | some q=>
   obtain ⟨d,t,l'⟩:=q
   rw [e] at eb
   obtain ⟨a1,a2,a3,a4,a5,a6,a7⟩:=zjb hm c0 c1 h1 h2 bi e
   obtain ⟨gs',hd',x',y',ih⟩:=zrq (cl:=cl) (h0:=h0) (b:=b) (f:=f) (a:=a) rs (c + d) d gs1 (cs++[.int (c + d)]) (ts++t.map .int) l' (some (.tup r)) (some (colAt r c)) (fun r hr=>by rw [a5]; exact ok r (vaj _ hr)) a3 a4 a1 a2 a6 (by simp only [vag,List.length_singleton]; omega) (by simp only [vag,vab]; omega) (zo6 _ _)
   rw [zhx e]
   refine ⟨gs',hd',x',y',?_⟩
   simp only [vao,forL,tgW,vau,vas,eb,bindok,ih,List.map_append,List.append_assoc,List.singleton_append]
theorem zxt {h:VH} {gs:List VO} {c t l:List W} {i:Nat} (hi:i < h.n):(st3 h gs c t l).get i=h.get i:=by
 unfold st3 VH.get
 rw [if_pos (zan.mpr (by show i < h.n + 3 + gs.length; omega)),if_pos (zan.mpr hi)]
 show (gs++(.lst l :: .lst t :: .lst c :: h.os))[h.n + 3 + gs.length - 1 - i]?=_
 rw [List.getElem?_append_right (by omega),show h.n + 3 + gs.length - 1 - i - gs.length=(h.n - 1 - i) + 3 by omega]
 rfl
theorem zxu {h:VH} {gs:List VO} {c t l:List W} {o:VO}:(st3 h (o :: gs) c t l).get (h.n + 3 + gs.length)=some o:=by
 rw [← znt]
 exact zn0
section
variable {F:Nat→Option Fn} (C:CoreL F)
include C
theorem zqg {k:Nat} {h:VH} {B:Bd} {ls:List Int} {f:Nat} {c:Int} (hlo:h.lo≤h.n) (hf:B.fd[f]?=some (.int c)) (c0:0≤c) (c1:c < B.wd) (hr:zhv B.wd (ls.length:Int) B.rows) (h60:B.rows.length≤60) (bi:Bits ls) :
 ∃ i h',run F (k + 1) 38 [B.w,iW ls,.int f] h=.ok (.ref i) h'∧h'.get i=some (.lst [iW (c :: (fallP B.rows c 0 ls).cs),iW (fallP B.rows c 0 ls).ts,iW (fallP B.rows c 0 ls).ls,.bl (fallP B.rows c 0 ls).st])∧Gw h h':=by
 rw [zag C.f38 rfl]
 have e1:atI B.fd (f:Int)=some (.int c):=zbk hf
 have i3:atI [W.int B.wd,.int B.gr,.tup (B.rows.map .tup),.tup B.fd,.tup B.dr] 3=some (.tup B.fd):=rfl
 have i2:atI [W.int B.wd,.int B.gr,.tup (B.rows.map .tup),.tup B.fd,.tup B.dr] 2=some (.tup (B.rows.map .tup)):=rfl
 have hz:(B.rows.map W.tup).length < 1000000:=by rw [vab]; omega
 obtain ⟨gs,hd',x',y',el⟩:=zrq (cl:=run F k) (h0:=h) (b:=B.w) (f:=.int f) (a:=.int c) B.rows c 0 [] [.int c] [] ls none none hr c0 c1 (by decide) (by decide) bi (by rw [List.length_singleton]; omega) (by rw [List.length_nil]; omega) rfl
 have key:exs (run F k) fn38.body [some B.w,some (iW ls),some (.int f),none,none,none,none,none,none] ⟨h.n,h.n,h.os⟩=.ok (.rt (.ref (h.n + 3 + gs.length))) (st3 h (.lst [iW (c :: (fallP B.rows c 0 ls).cs),iW (fallP B.rows c 0 ls).ts,iW (fallP B.rows c 0 ls).ls,.bl (fallP B.rows c 0 ls).st] :: gs) (([.int c]:List W)++(fallP B.rows c 0 ls).cs.map .int) (([]:List W)++(fallP B.rows c 0 ls).ts.map .int) ((fallP B.rows c 0 ls).ls.map .int)):=by
  rw [ztt]
  show exs (run F k) (.seq _ _) _ _=_
  rw [zaa (ρ':=[some B.w,some (iW ls),some (.int f),some (.int c),none,none,none,none,none]) (h':=⟨h.n,h.n,h.os⟩) (by unfold Bd.w; simp [exs,ev,idxW,i3,e1])]
  rw [zaa (ρ':=[some B.w,some (iW ls),some (.int f),some (.int c),some (.ref h.n),none,none,none,none]) (h':=VH.new ⟨h.n,h.n,h.os⟩ (.lst [.int c])) (by simp [exs,ev])]
  rw [zaa (ρ':=[some B.w,some (iW ls),some (.int f),some (.int c),some (.ref h.n),some (.ref (h.n + 1)),none,none,none]) (h':=VH.new (VH.new ⟨h.n,h.n,h.os⟩ (.lst [.int c])) (.lst [])) (by simp [exs,ev,VH.new])]
  rw [zaa (ρ':=[some B.w,some (.ref (h.n + 2)),some (.int f),some (.int c),some (.ref h.n),some (.ref (h.n + 1)),none,none,none]) (h':=st3 h [] [.int c] [] (ls.map .int)) (by unfold iW; simp [exs,ev,VH.new,biW,listW,seqW,st3])]
  rw [zaa (ρ':=[some B.w,some (.ref (h.n + 2)),some (.int f),some (.int c),some (.ref h.n),some (.ref (h.n + 1)),some (.int 0),none,none]) (h':=st3 h [] [.int c] [] (ls.map .int)) (by simp [exs,ev])]
  have ei:ev (run F k) (.idx (.var 0) (.cst (.int (2)))) [some B.w,some (.ref (h.n + 2)),some (.int f),some (.int c),some (.ref h.n),some (.ref (h.n + 1)),some (.int 0),none,none] (st3 h [] [.int c] [] (ls.map .int))=.ok (.tup (B.rows.map .tup)) (st3 h [] [.int c] [] (ls.map .int)):=by
   unfold Bd.w; simp [ev,idxW,i2]
  have ef:=zci (tg:=tgW (.one 7)) (b:=exs (run F k) zdo) (ρ:=[some B.w,some (.ref (h.n + 2)),some (.int f),some (.int c),some (.ref h.n),some (.ref (h.n + 1)),some (.int 0),none,none]) (h:=st3 h [] [.int c] [] (ls.map .int)) hz
  rw [el] at ef
  cases z:(fallP B.rows c 0 ls).st with
  | true=>
   rw [z] at ef
   refine (zab (by rw [exs,ei,bindok,ef]; rfl)).trans ?_
   rfl
  | false=>
   rw [z] at ef
   refine (zaa (by rw [exs,ei,bindok,ef]; rfl)).trans ?_
   have ee:=zrp (cl:=run F k) (st:=false) (ρ:=[some B.w,some (.ref (h.n + 2)),some (.int f),some (.int c),some (.ref h.n),some (.ref (h.n + 1)),hd',x',y']) (h0:=h) (gs:=gs) (cs:=([.int c]:List W)++(fallP B.rows c 0 ls).cs.map .int) (ts:=([]:List W)++(fallP B.rows c 0 ls).ts.map .int) (ls:=(fallP B.rows c 0 ls).ls.map .int) rfl rfl rfl
   simp only [exs,ee,bindok]
   rfl
 show ∃ i h',fin h (exs (run F k) fn38.body [some B.w,some (iW ls),some (.int f),none,none,none,none,none,none] ⟨h.n,h.n,h.os⟩)=.ok (.ref i) h'∧_∧_
 rw [key]
 generalize (([.int c]:List W)++(fallP B.rows c 0 ls).cs.map .int)=c1'
 generalize (([]:List W)++(fallP B.rows c 0 ls).ts.map .int)=t1'
 generalize ((fallP B.rows c 0 ls).ls.map W.int)=l1'
 generalize W.bl (fallP B.rows c 0 ls).st=s1'
 refine ⟨h.n + 3 + gs.length,⟨h.n + 3 + (gs.length + 1),h.lo,(.lst [iW (c :: (fallP B.rows c 0 ls).cs),iW (fallP B.rows c 0 ls).ts,iW (fallP B.rows c 0 ls).ls,s1'] :: gs)++(.lst l1' :: .lst t1' :: .lst c1' :: h.os)⟩,?_,?_,?_,rfl,?_⟩
 ·show leave _ _ _=_
  unfold leave
  rw [if_neg (by rw [W.lt,zcd (by omega)]; simp)]
  show Res.ok _ ⟨_,if Nat.ble h.lo h.n then h.lo else h.n,_⟩=_
  rw [if_pos (Nat.ble_eq.mpr hlo)]
  rfl
 ·exact (get_lo (h:=st3 h (.lst [iW (c :: (fallP B.rows c 0 ls).cs),iW (fallP B.rows c 0 ls).ts,iW (fallP B.rows c 0 ls).ls,s1'] :: gs) c1' t1' l1')).trans zxu
 ·show h.n≤h.n + 3 + (gs.length + 1); omega
 ·intro i o e
  exact ((get_lo (h:=st3 h (.lst [iW (c :: (fallP B.rows c 0 ls).cs),iW (fallP B.rows c 0 ls).ts,iW (fallP B.rows c 0 ls).ls,s1'] :: gs) c1' t1' l1')).trans (zxt (zar e))).trans e
end
theorem zn1 {n:Nat}:∀ {ws:List W},(∀ w∈ws,W.lt n w=true)→W.lts n ws=true
 | [],_=>by simp
 | w :: r,h=>by rw [lts_cons,h w vap,zn1 fun w hw=>h w (vaj _ hw)]; rfl
section
variable {F:Nat→Option Fn} (C:CoreD F)
include C
theorem zft {k:Nat}:∀ (ns:List Int) (x:Option W) (h:VH),∃ cells:List Int,lcL (tgW (.one 0)) (ev (run F k) zdw) (ev (run F k) zdx) (ns.map .int) [x] h=.ok (cells.map .int) h∧(∀ y∈cells,(0:Int)≤y)∧cells.length≤ns.length
 | [],x,h=>⟨[],rfl,(fun y hy=>by cases hy),vae _⟩
 | n :: ns,x,h=>by
  obtain ⟨cells,e,h1,h2⟩:=zft (k:=k) ns (some (.int n)) h
  have s10:((10:Int).natAbs < 2 ^ 64):=by decide
  have ec:ev (run F k) zdw [some (.int n)] h=.ok (.bl (decide (1000000000000000000≤(n.natAbs:Int)))) h:=by
   simp [zdw,ev,biW,absW,opW,opI,cmpW,cmpI,zdm]
  have ee:ev (run F k) zdx [some (.int n)] h=.ok (.int (n.natAbs:Int)) h:=by
   simp [zdx,ev,biW,absW,zdm]
  by_cases q:1000000000000000000≤(n.natAbs:Int)
  ·refine ⟨(n.natAbs:Int) :: cells,?_,fun y hy=>?_,by rw [vah,vah]; omega⟩
   ·simp only [lcL,vao,tgW,List.set,ec,bindok,q,decide_true,ee,e]
   ·rcases List.mem_cons.mp hy with rfl | hy
    ·omega
    ·exact h1 y hy
  ·refine ⟨cells,?_,h1,by rw [vah]; omega⟩
   simp only [lcL,vao,tgW,List.set,ec,bindok,q,decide_false,e]
theorem deck {k:Nat} {h:VH} {ns:List Int} (hl:ns.length≤63):∃ h',run F (k + 1) 3 [.fz (ns.map .int)] h=.ok (.ref (h.n + 1)) h'∧Dk h' (h.n + 1) h.n 0:=by
 rw [zag C.f3 rfl]
 obtain ⟨cells,e,h1,h2⟩:=zft C (k:=k) ns none ⟨h.n,h.n,h.os⟩
 have l:=zc1 (nx:=nxt .seq (.fz (ns.map .int))) (tg:=tgW (.one 0)) (c:=ev (run F k) zdw) (e:=ev (run F k) zdx) (ws:=ns.map .int) (fun i h=>rfl) fuel 0 [none] ⟨h.n,h.n,h.os⟩ [] (Nat.zero_le _) (by rw [vab]; unfold fuel; omega)
 rw [List.drop_zero,e] at l
 have l:lcG (nxt .seq (.fz (ns.map .int))) (tgW (.one 0)) (ev (run F k) zdw) (ev (run F k) zdx) fuel 0 [none] ⟨h.n,h.n,h.os⟩ []=.ok (cells.map .int) ⟨h.n,h.n,h.os⟩:=l
 have q:ev (run F k) (.lc .seq (.var 0) (.one 0) 1 [] zdw zdx) [some (.fz (ns.map .int))] ⟨h.n,h.n,h.os⟩=.ok (.ref h.n) (VH.new ⟨h.n,h.n,h.os⟩ (.lst (cells.map .int))):=by
  rw [ev]
  have:ev (run F k) (.var 0) [some (.fz (ns.map .int))] ⟨h.n,h.n,h.os⟩=.ok (.fz (ns.map .int)) ⟨h.n,h.n,h.os⟩:=rfl
  rw [this,bindok]
  show (lcG (nxt .seq (.fz (ns.map .int))) (tgW (.one 0)) (ev (run F k) zdw) (ev (run F k) zdx) fuel 0 [none] ⟨h.n,h.n,h.os⟩ []).bind _=_
  rw [l,bindok,if_pos (zcl (by rw [vab]; omega))]
 let h1':VH:=VH.new ⟨h.n,h.n,h.os⟩ (.lst (cells.map .int))
 let o:VO:=.lst [.fz (ns.map .int),.ref h.n,.int 0,.int 0]
 have eb:exs (run F k) fn3.body [some (.fz (ns.map .int))] ⟨h.n,h.n,h.os⟩=.ok (.rt (.ref (h.n + 1))) (h1'.new o):=by
  simp only [fn3,exs,ev,bindok,ofsome,vav,Option.join_some] at q ⊢
  rw [q]
  rfl
 refine ⟨⟨h.n + 2,if Nat.ble h.lo h.n then h.lo else h.n,(h1'.new o).os⟩,?_,?_⟩
 ·show fin h (exs (run F k) fn3.body [some (.fz (ns.map .int))] ⟨h.n,h.n,h.os⟩)=_
  rw [eb]
  show leave h (.ref (h.n + 1)) (h1'.new o)=_
  unfold leave
  rw [if_neg (by
   rw [vac]
   intro z
   have:=z.2
   simp only [W.lt] at this
   have:=zan.mp this
   omega)]
  rfl
 ·refine ⟨by omega,ns,cells,0,0,?_,?_,h1,by omega,by omega,by omega,by omega⟩
  ·show VH.get ⟨(h1'.new o).n,_,(h1'.new o).os⟩ (h.n + 1)=_
   rw [get_lo]
   exact zao (h:=h1')
  ·show VH.get ⟨(h1'.new o).n,_,(h1'.new o).os⟩ h.n=_
   rw [get_lo,zad (h:=h1') (by show h.n < h.n + 1; omega)]
   exact zao (h:=⟨h.n,h.n,h.os⟩)
end
noncomputable def zipW (ws zs:List W):List W:=List.zipWith (fun a b=>W.tup [a,b]) ws zs
theorem zqh {ws zs:List W} (i:Nat) (h:VH):nxt .zip (.tup [.tup ws,.tup zs]) i h=some (zipW ws zs)[i]?:=by
 simp only [nxt,seqW,zipW,List.getElem?_zipWith]
 cases ws[i]? <;> cases zs[i]? <;> rfl
theorem zn2 {cl:Call} {a:E} {ρ:En} {h h1 h2:VH} {ow:Nat} {ix:List Nat} {e:E} {t:Tg} {ws zs ys:List W} (ea:ev cl a ρ h=.ok (.tup [.tup ws,.tup zs]) h1) (hn:(zipW ws zs).length < 1000000) (el:lcL (tgW t) (fun _ h=>.ok (.bl true) h) (ev cl e) (zipW ws zs) (inner ow ix ρ) h1=.ok ys h2) (hy:ys.length≤1000000) :
 ev cl (.lc .zip a t ow ix (.cst (.bl true)) e) ρ h=.ok (.ref h2.n) (h2.new (.lst ys)):=by
 have l:=zc1 (nx:=nxt .zip (.tup [.tup ws,.tup zs])) (tg:=tgW t) (c:=fun _ h=>.ok (.bl true) h) (e:=ev cl e) (ws:=zipW ws zs) (fun i h=>zqh i h) fuel 0 (inner ow ix ρ) h1 [] (Nat.zero_le _) (by simpa [fuel] using hn)
 rw [List.drop_zero,el] at l
 have q:ev cl (.lc .zip a t ow ix (.cst (.bl true)) e) ρ h=(ev cl a ρ h).bind fun x h=>(lcG (nxt .zip x) (tgW t) (ev cl (.cst (.bl true))) (ev cl e) fuel 0 (inner ow ix ρ) h []).bind fun ys h=>if Nat.ble ys.length big then .ok (.ref h.n) (h.new (.lst ys)) else .no:=by rw [ev]
 rw [q,ea,bindok]
 show (lcG (nxt .zip (.tup [.tup ws,.tup zs])) (tgW t) (fun _ h=>.ok (.bl true) h) (ev cl e) fuel 0 (inner ow ix ρ) h1 []).bind _=_
 rw [l]
 show (if Nat.ble ([].reverse++ys).length big then _ else _)=_
 rw [List.reverse_nil,List.nil_append,if_pos (zcl hy)]
theorem opE {cl:Call} {o:Op} {a b:E} {ρ:En} {h h1 h2:VH} {x y:W} {r:Res W} (ea:ev cl a ρ h=.ok x h1) (eb:ev cl b ρ h1=.ok y h2) (e:opW o x y h2=r):ev cl (.op o a b) ρ h=r:=by
 rw [ev,ea,bindok,eb,bindok,e]
theorem retE {cl:Call} {a:E} {ρ:En} {h h1:VH} {x:W} (ea:ev cl a ρ h=.ok x h1):exs cl (.ret a) ρ h=.ok (.rt x) h1:=by
 rw [exs,ea,bindok]
theorem setE {cl:Call} {i:Nat} {a:E} {ρ:En} {h h1:VH} {x:W} (ea:ev cl a ρ h=.ok x h1):exs cl (.set i a) ρ h=.ok (.nx (ρ.set i (some x))) h1:=by
 rw [exs,ea,bindok]
theorem varE {cl:Call} {i:Nat} {ρ:En} {h:VH} {x:W} (e:ρ[i]?=some (some x)):ev cl (.var i) ρ h=.ok x h:=by
 rw [ev,e]; rfl
theorem idxE {cl:Call} {a b:E} {ρ:En} {h h1 h2:VH} {x y z:W} (ea:ev cl a ρ h=.ok x h1) (eb:ev cl b ρ h1=.ok y h2) (e:idxW h2 x y=some z):ev cl (.idx a b) ρ h=.ok z h2:=by
 rw [ev,ea,bindok,eb,bindok,e]; rfl
theorem lenE {cl:Call} {a:E} {ρ:En} {h h1:VH} {x:W} {ws:List W} (ea:ev cl a ρ h=.ok x h1) (e:seqW h1 x=some ws):ev cl (.bi .len (.cons a .nil)) ρ h=.ok (.int ws.length) h1:=by
 rw [ev,ev,ea,bindok,ev,bindok]
 show lenW [x] h1=_
 simp only [lenW,e,ofsome]
theorem zev {cl:Call} {ρ:En} {h h1 h':VH} {n:Nat} {a:E} {x w:W} (ea:ev cl a ρ h=.ok x h1) (e:cl n [x] h1=.ok w h'):ev cl (.call n (.cons a .nil)) ρ h=.ok w h':=by
 rw [ev,ev,ea,bindok,ev]
 exact e
theorem zav {cl:Call} {ρ:En} {h h1 h2 h':VH} {n:Nat} {a b:E} {x y w:W} (ea:ev cl a ρ h=.ok x h1) (eb:ev cl b ρ h1=.ok y h2) (e:cl n [x,y] h2=.ok w h'):ev cl (.call n (.cons a (.cons b .nil))) ρ h=.ok w h':=by
 rw [ev,ev,ea,bindok,ev,eb,bindok,ev]
 exact e
theorem zfu {cl:Call} {ρ:En} {h h1 h2 h3 h':VH} {n:Nat} {a b c:E} {x y z w:W} (ea:ev cl a ρ h=.ok x h1) (eb:ev cl b ρ h1=.ok y h2) (ec:ev cl c ρ h2=.ok z h3) (e:cl n [x,y,z] h3=.ok w h'):ev cl (.call n (.cons a (.cons b (.cons c .nil)))) ρ h=.ok w h':=by
 rw [ev,ev,ea,bindok,ev,eb,bindok,ev,ec,bindok,ev]
 exact e
theorem zfv {cl:Call} {ρ:En} {h h1 h2 h3 h4 h':VH} {n:Nat} {a b c d:E} {x y z u w:W} (ea:ev cl a ρ h=.ok x h1) (eb:ev cl b ρ h1=.ok y h2) (ec:ev cl c ρ h2=.ok z h3) (ed:ev cl d ρ h3=.ok u h4) (e:cl n [x,y,z,u] h4=.ok w h'):ev cl (.call n (.cons a (.cons b (.cons c (.cons d .nil))))) ρ h=.ok w h':=by
 rw [ev,ev,ea,bindok,ev,eb,bindok,ev,ec,bindok,ev,ed,bindok,ev]
 exact e
theorem tup2E {cl:Call} {a b:E} {ρ:En} {h h1 h2:VH} {x y:W} (ea:ev cl a ρ h=.ok x h1) (eb:ev cl b ρ h1=.ok y h2):ev cl (.tup (.cons a (.cons b .nil))) ρ h=.ok (.tup [x,y]) h2:=by
 rw [ev,ev,ea,bindok,ev,eb,bindok,ev]; rfl
noncomputable def optW:Option Nat→W
 | none=>.non
 | some f=>.int f
noncomputable def callO (B:Bd) (ls:List Int) (f:Nat):Option Nat:=match outD B ls f with
 | .tup [_,.int i]=>some i.toNat
 | _=>none
theorem zb1 {B:Bd} {ls:List Int} {f:Nat} (b:B.Ok) (hf:f < B.fd.length) (hl:(ls.length:Int)=B.gr) (bi:Bits ls):outD B ls f=.tup [nameP B ls f,optW (callO B ls f)]∧∀ g,callO B ls f=some g→g < B.fd.length:=by
 have q:=b.fall hf hl bi
 unfold callO nameP
 by_cases z:(B.fall ls f).st=true
 ·have:outD B ls f=.tup [.non,.non]:=by unfold outD; rw [if_pos z]
  rw [this]
  exact ⟨rfl,fun g h=>by cases h⟩
 ·have e:outD B ls f=B.door (lastC (B.col f) (B.fall ls f).cs):=by unfold outD; rw [if_neg z]
  obtain ⟨_,d2⟩:=b.door q.c4.1 q.c4.2
  obtain ⟨x,y,de,_,_,hy⟩:=zeu d2
  rw [e,de]
  rcases hy with rfl | ⟨i,rfl,i0,i1⟩
  ·exact ⟨rfl,fun g h=>by cases h⟩
  ·refine ⟨?_,fun g h=>?_⟩
   ·show W.tup [.int x,.int i]=.tup [.int x,.int (i.toNat:Int)]
    rw [Int.toNat_of_nonneg i0]
   ·have h:some i.toNat=some g:=h
    cases h
    omega
theorem zn3 {ws:List W} (n:Nat) (h:∀ w∈ws,w=.non∨∃ i:Int,w=.int i):W.lts n ws=true:=zn1 fun w hw=>by
 rcases h w hw with rfl | ⟨i,rfl⟩ <;> simp
theorem zn4 {n:Nat} {fo:Option Nat}:W.lt n (optW fo)=true:=by cases fo <;> simp [optW]
theorem slcE {cl:Call} {a lo hi:E} {bl bh:Bool} {ρ:En} {h h1 h2 h3 h4:VH} {x l u w:W} {l' u':Option Int} (ea:ev cl a ρ h=.ok x h1) (el:ev cl lo ρ h1=.ok l h2) (eu:ev cl hi ρ h2=.ok u h3) (pl:partW bl l=some l') (pu:partW bh u=some u') (e:slcW x l' u' h3=.ok w h4):ev cl (.slc a bl lo bh hi) ρ h=.ok w h4:=by
 rw [ev,ea,bindok,el,bindok,eu,bindok,pl,pu]
 exact e
theorem lst2E {cl:Call} {a b:E} {ρ:En} {h h1 h2:VH} {x y:W} (ea:ev cl a ρ h=.ok x h1) (eb:ev cl b ρ h1=.ok y h2):ev cl (.lst (.cons a (.cons b .nil))) ρ h=.ok (.ref h2.n) (h2.new (.lst [x,y])):=by
 rw [ev,ev,ea,bindok,ev,eb,bindok,ev]; rfl
theorem iteF {cl:Call} {c:E} {a b:S} {ρ:En} {h h1:VH} (e:ev cl c ρ h=.ok (.bl false) h1):exs cl (.ite c a b) ρ h=exs cl b ρ h1:=by
 rw [exs,e]; rfl
theorem iteT {cl:Call} {c:E} {a b:S} {ρ:En} {h h1:VH} (e:ev cl c ρ h=.ok (.bl true) h1):exs cl (.ite c a b) ρ h=exs cl a ρ h1:=by
 rw [exs,e]; rfl
theorem truE {cl:Call} {a:E} {ρ:En} {h h1:VH} {b:Bool} (e:ev cl a ρ h=.ok (.bl b) h1):ev cl (.tru a) ρ h=.ok (.bl b) h1:=by
 rw [ev,e,bindok]; rfl
theorem exprE {cl:Call} {a:E} {ρ:En} {h h1:VH} {x:W} (ea:ev cl a ρ h=.ok x h1):exs cl (.expr a) ρ h=.ok (.nx ρ) h1:=by
 rw [exs,ea,bindok]
theorem zkj {n:Nat} {ls:List Int}:za3 (n + 2) (iW ls)=true:=by
 unfold iW
 rw [zhs,List.all_eq_true]
 intro w hw
 obtain ⟨x,_,rfl⟩:=List.mem_map.mp hw
 rfl
theorem zn5 {P:Int→Prop}:∀ {ws:List W},(∀ w∈ws,∃ x:Int,w=.int x∧P x)→∃ xs:List Int,ws=xs.map .int∧∀ x∈xs,P x
 | [],_=>⟨[],rfl,by simp⟩
 | w :: r,h=>by
  obtain ⟨x,rfl,hx⟩:=h w vap
  obtain ⟨xs,rfl,hs⟩:=zn5 fun w hw=>h w (vaj _ hw)
  refine ⟨x :: xs,rfl,fun y hy=>?_⟩
  rcases List.mem_cons.mp hy with rfl | hy
  ·exact hx
  ·exact hs y hy
section
variable {F:Nat→Option Fn} (C:CoreD F)
include C
theorem zjd {k:Nat} {h:VH} {d c b g:Nat} (f20:F 20=some fn20) (D:Dk h d c b) (hb:b + 10 < 1000000000) (hg:g≤8) :
 ∃ ls h',run F (k + 4) 20 [.ref d,.int g] h=.ok (iW ls) h'∧ls.length=g∧Bits ls∧Dk h' d c (b + 10)∧Keep h h' d c:=by
 rw [zag f20 rfl]
 have D0:Dk ⟨h.n,h.n,h.os⟩ d c b:=D.lo
 obtain ⟨ws,h2,e2,p2,l2,D2,K2⟩:=zdn (cl:=run F (k + 3)) (P:=fun _ w=>∃ x:Int,w=.int x∧(x=0∨x=1)) (e:=zgp) (tl:=[some (.ref d)]) (m:=1) (lim:=g) (fun i h b h0 hl D hb=>by
  obtain ⟨r,h',e,r0,r1,D',K'⟩:=take C (k:=k) (m:=2) D (by omega) (by omega) (by omega)
  exact ⟨.int r,h',by simp [zgp,ev,e],⟨r,rfl,by omega⟩,D',K'⟩) g 0 none ⟨h.n,h.n,h.os⟩ b (by omega) (by omega) D0 (by omega)
 obtain ⟨ls,rfl,hbits⟩:=zn5 (zc6 p2)
 have e3:=zke (cl:=run F (k + 3)) (a:=.cons (.var 1) .nil) (ρ:=[some (.ref d),some (.int g)]) (h:=⟨h.n,h.n,h.os⟩) (ow:=1) (ix:=[0]) (e:=zgp) (by simp [ev]) (by omega) e2 (by rw [l2]; omega)
 obtain ⟨h5,e5,D5,K5⟩:=zbj (cl:=run F (k + 3)) (fl:=.nx []) (w:=iW ls) (body:=fn20.body) (ρ:=[some (.ref d),some (.int g)]) (F:=F) (k:=k + 3) (h:=h) (h':=h2.new (.lst (ls.map .int))) (by simp only [fn20,exs,e3,bindok]; rfl) (.inr ⟨b,D⟩) (D2.new.mono (show _≤b + 10 by omega)) K2.new
 exact ⟨ls,h5,e5,by rw [vab] at l2; exact l2,hbits,D5,K5⟩
end
theorem zxv {nx:Nat→VH→Option (Option W)} {e:FE} {h:VH} {ws:List W} {x:W} {tl:En} {f:W→W} (hx:∀ i,nx i h=some ws[i]?) (he:∀ w∈ws,e (some x :: some w :: tl) h=.ok (f w) h) :
 ∀ (fu i:Nat) (b:Option W) (acc:List W),i≤ws.length→ws.length < fu + i→∃ b',lcI nx (tgW (.one 1)) (fun _ h=>.ok (.bl true) h) e fu i (some x :: b :: tl) h acc=.ok (some x :: b' :: tl,((ws.drop i).map f).reverse++acc) h
 | 0,i,b,acc,hi,hl=>by omega
 | fu + 1,i,b,acc,hi,hl=>by
  cases q:ws[i]? with
  | none=>
   rw [List.drop_eq_nil_of_le (List.getElem?_eq_none_iff.mp q)]
   exact ⟨b,by simp only [lcI,hx,q]; rfl⟩
  | some w=>
   obtain ⟨hi,ee⟩:=List.getElem?_eq_some_iff.mp q
   obtain ⟨b',ih⟩:=zxv hx he fu (i + 1) (some w) (f w :: acc) hi (by omega)
   refine ⟨b',?_⟩
   simp only [lcI,hx,q,tgW,vau,vas,bindok,he w (List.mem_of_getElem? q),ih]
   rw [List.drop_eq_getElem_cons hi,ee]
   simp
theorem zn6 {nx:Nat→VH→Option (Option W)} {c e:FE} {h:VH} {ws:List W} {tl:En} {p:W→Bool} {f:W→W} (hx:∀ i,nx i h=some ws[i]?) (hc:∀ w∈ws,c (some w :: tl) h=.ok (.bl (p w)) h) (he:∀ w∈ws,e (some w :: tl) h=.ok (f w) h) :
 ∀ (fu i:Nat) (a:Option W) (acc:List W),i≤ws.length→ws.length < fu + i→lcG nx (tgW (.one 0)) c e fu i (a :: tl) h acc=.ok (acc.reverse++((ws.drop i).filter p).map f) h
 | 0,i,a,acc,hi,hl=>by omega
 | fu + 1,i,a,acc,hi,hl=>by
  cases q:ws[i]? with
  | none=>
   rw [List.drop_eq_nil_of_le (List.getElem?_eq_none_iff.mp q)]
   simp only [lcG,hx,q]; simp
  | some w=>
   obtain ⟨hi,ee⟩:=List.getElem?_eq_some_iff.mp q
   have hm:=List.mem_of_getElem? q
   simp only [lcG,hx,q,tgW,vas,hc w hm,bindok]
   rw [List.drop_eq_getElem_cons hi,ee]
   cases z:p w with
   | true=>
    simp only [he w hm,bindok]
    rw [zn6 hx hc he fu (i + 1) (some w) (f w :: acc) hi (by omega)]
    simp [z]
   | false=>
    rw [zn6 hx hc he fu (i + 1) (some w) acc hi (by omega)]
    simp [z]
theorem zkk {h:VH} {n:Nat}:∀ ls:List Int,mapO (toD h (n + 1)) (ls.map W.int)=some (ls.map PyData.int)
 | []=>rfl
 | x :: r=>by simp only [vao,mapO,zkk r]; rfl
theorem ztu {h:VH} {n:Nat} {ws:List W}:toD h (n + 1) (.tup ws)=(mapO (toD h n) ws).map .tuple:=rfl
theorem zrr {h:VH} {n:Nat} {ls:List Int}:toD h (n + 2) (iW ls)=some (.tuple (ls.map .int)):=by
 unfold iW
 rw [ztu,zkk,van]
theorem zkl:∀ ls ms:List Int,PyData.eqvAll (ls.map .int) (ms.map .int)=decide (ls=ms)
 | [],[]=>rfl
 | [],_ :: _=>rfl
 | _ :: _,[]=>rfl
 | x :: r,y :: s=>by
  simp only [vao,PyData.eqvAll,PyData.eqv,zkl r s]
  by_cases a:x=y <;> by_cases b:r=s <;> simp [a,b]
theorem zh0 {h:VH} {w:W} {d:PyData} (p:za3 24 w=true) (e:toD h 24 w=some d):SeqAt.shaped d=true:=by
 obtain ⟨d',h1,h2,h3⟩:=zc3 h 24 w p
 rw [e] at h1; cases h1
 unfold SeqAt.shaped
 rw [h2,Bool.true_and,decide_eq_true_eq]; omega
theorem zxw {h:VH} {w w':W} {d d':PyData} (p:za3 24 w=true) (p':za3 24 w'=true) (e:toD h 24 w=some d) (e':toD h 24 w'=some d'):eqW h w w'=some (PyData.eqv d d'):=by
 unfold eqW
 rw [e,e']
 simp [zh0 p e,zh0 p' e']
theorem zxx {h:VH} {a b:List Int}:eqW h (iW a) (iW b)=some (decide (a=b)):=by
 rw [zxw zkj zkj zrr zrr]
 simp only [PyData.eqv,zkl]
noncomputable abbrev Stn:=List Int × Option Nat
noncomputable def stW (s:Stn):W:=.tup [iW s.1,optW s.2]
noncomputable def dkS (s:Stn):DK:=(s.1,s.2.map fun (f:Nat)=>(f:Int))
theorem zgu:∀ ls:List Int,mapO intD (ls.map .int)=some ls
 | []=>rfl
 | x :: ls=>by
  have h:=zgu ls
  rw [vao]
  unfold mapO
  simp only [intD,h]
theorem zew (s:Stn):keyD (stW s)=some (dkS s):=by
 obtain ⟨ls,fo⟩:=s
 cases fo with
 | none=>simp [stW,iW,optW,keyD,zgu,dkS]
 | some f=>simp [stW,iW,optW,keyD,zgu,dkS]
theorem ztv {s t:Stn} (h:dkS s=dkS t):s=t:=by
 obtain ⟨ls,fo⟩:=s
 obtain ⟨ms,go⟩:=t
 unfold dkS at h
 have h1:=congrArg Prod.fst h
 have h2:=congrArg Prod.snd h
 simp only at h1 h2
 subst h1
 cases fo <;> cases go <;> simp at h2 ⊢
 omega
theorem zn7 {n:Nat} {s:Stn}:W.lt n (stW s)=true:=by
 unfold stW
 simp [iW_lt,zn4]
noncomputable def GoodS (B:Bd) (s:Stn):Prop:=(s.1.length:Int)=B.gr∧Bits s.1∧∀ f,s.2=some f→f < B.fd.length
noncomputable def nextS (B:Bd) (s:Stn):Option Stn:=match s.2 with
 | none=>none
 | some f=>some ((B.fall s.1 f).ls,callO B s.1 f)
theorem zbe {B:Bd} {s t:Stn} (b:B.Ok) (h:GoodS B s) (e:nextS B s=some t):GoodS B t:=by
 obtain ⟨ls,fo⟩:=s
 obtain ⟨hl,bi,hf⟩:=h
 cases fo with
 | none=>cases e
 | some f=>
  cases e
  have hf:=hf f rfl
  have q:=b.fall hf hl bi
  exact ⟨by rw [q.l1]; exact hl,q.l2,(zb1 b hf hl bi).2⟩
noncomputable def posS (s:Stn):Nat→List Stn→Option Nat
 | _,[]=>none
 | i,x :: xs=>if x=s then some i else posS s (i + 1) xs
theorem zb8 {s:Stn}:∀ {xs:List Stn} {i:Nat},posS s i xs=none→s∉xs
 | [],_,_=>fun h=>nomatch h
 | x :: xs,i,e=>by
  unfold posS at e
  split at e
  ·cases e
  ·rename_i hx
   intro h
   rcases List.mem_cons.mp h with rfl | h
   ·exact hx rfl
   ·exact zb8 e h
theorem zcm (a:Int) (n:Nat):zal a (n + 1)=.int a :: zal (a + 1) n:=rfl
theorem zgv {s:Stn}:∀ (xs:List Stn) (i:Nat),lookD (xs.map stW) (zal (i:Int) xs.length) (dkS s)=(posS s i xs).map fun (n:Nat)=>.int (n:Int)
 | [],i=>by unfold lookD posS; rfl
 | x :: xs,i=>by
  rw [vao,vah,zcm]
  unfold lookD posS
  rw [zew]
  by_cases e:x=s
  ·rw [if_pos (by rw [e]),if_pos e]; rfl
  ·rw [if_neg (fun z=>e (ztv (Option.some.inj z))),if_neg e]
   have:=zgv (s:=s) xs (i + 1)
   rw [show ((i:Int) + 1)=((i + 1:Nat):Int) by omega]
   exact this
theorem zdq:∀ (n:Nat) (a:Int),zal a n++[.int (a + n)]=zal a (n + 1)
 | 0,a=>by show [W.int (a + 0)]=[W.int a]; rw [Int.add_zero]
 | n + 1,a=>by
  rw [zcm,zcm a (n + 1),List.cons_append]
  have:=zdq n (a + 1)
  rw [show a + ((n + 1:Nat):Int)=a + 1 + (n:Int) by omega,this]
noncomputable def everP (B:Bd):Nat→List Stn→Option Stn→List Stn × Option Nat
 | 0,seen,_=>(seen,none)
 | _ + 1,seen,none=>(seen,none)
 | n + 1,seen,some s=>match posS s 0 seen with
  | some i=>(seen,some i)
  | none=>everP B n (seen++[s]) (nextS B s)
theorem zn8 {α:Type} [DecidableEq α]:∀ {l m:List α},l.Nodup→(∀ x∈l,x∈m)→l.length≤m.length
 | [],m,_,_=>Nat.zero_le _
 | x :: l,m,nd,h=>by
  have hx:=h x vap
  obtain ⟨h1,h2⟩:=List.nodup_cons.mp nd
  have:=zn8 (m:=m.erase x) h2 fun y hy=>(List.mem_erase_of_ne (show y≠x from fun z=>h1 (z ▸ hy))).mpr (h y (vaj _ hy))
  rw [List.length_erase_of_mem hx] at this
  have:0 < m.length:=List.length_pos_of_mem hx
  rw [vah]; omega
noncomputable def zcn:Nat→List (List Int)
 | 0=>[[]]
 | n + 1=>(zcn n).map (0 :: ·)++(zcn n).map (1 :: ·)
theorem zex:∀ n,(zcn n).length=2 ^ n
 | 0=>rfl
 | n + 1=>by
  unfold zcn
  rw [vag,vab,vab,zex n,Nat.pow_succ]; omega
theorem zey:∀ {ls:List Int},Bits ls→ls∈zcn ls.length
 | [],_=>List.mem_singleton.mpr rfl
 | x :: ls,b=>by
  have:=zey (ls:=ls) fun y hy=>b y (vaj _ hy)
  rw [vah]
  unfold zcn
  rcases b x vap with rfl | rfl
  ·exact List.mem_append_left _ (List.mem_map.mpr ⟨ls,this,rfl⟩)
  ·exact List.mem_append_right _ (List.mem_map.mpr ⟨ls,this,rfl⟩)
noncomputable def zez (fs:List (Option Nat)):List (List Int)→List Stn
 | []=>[]
 | l :: ls=>fs.map (fun f=>(l,f))++zez fs ls
theorem zfw (fs:List (Option Nat)):∀ ls,(zez fs ls).length=ls.length * fs.length
 | []=>by simp [zez]
 | l :: ls=>by
  unfold zez
  rw [vag,vab,zfw fs ls,vah,Nat.add_mul]; omega
theorem zfx {fs:List (Option Nat)} {f:Option Nat} (hf:f∈fs) {l:List Int}:∀ {ls},l∈ls→(l,f)∈zez fs ls
 | x :: ls,h=>by
  unfold zez
  rcases List.mem_cons.mp h with rfl | h
  ·exact List.mem_append_left _ (List.mem_map.mpr ⟨f,hf,rfl⟩)
  ·exact List.mem_append_right _ (zfx hf h)
theorem few {B:Bd} (b:B.Ok) {xs:List Stn} (nd:xs.Nodup) (g:∀ s∈xs,GoodS B s):xs.length≤1280:=by
 have h:=zn8 (m:=zez [none,some 0,some 1,some 2,some 3] (zcn B.gr.toNat)) nd fun s hs=>by
  obtain ⟨hl,bi,hf⟩:=g s hs
  obtain ⟨ls,fo⟩:=s
  have e:B.gr.toNat=ls.length:=by simp only at hl; omega
  refine zfx ?_ (by rw [e]; exact zey bi)
  cases fo with
  | none=>simp
  | some f=>
   have:=hf f rfl
   have:=b.f2
   have:f=0∨f=1∨f=2∨f=3:=by omega
   rcases this with rfl | rfl | rfl | rfl <;> simp
 rw [zfw,zex] at h
 have h8:B.gr.toNat≤8:=by have:=b.g2; omega
 have:2 ^ B.gr.toNat≤2 ^ 8:=Nat.pow_le_pow_right (by decide) h8
 have e5:([none,some 0,some 1,some 2,some 3]:List (Option Nat)).length=5:=rfl
 rw [e5] at h
 omega
theorem zgw {B:Bd} (b:B.Ok):∀ (n:Nat) (xs:List Stn) (c:Option Stn),xs.Nodup→(∀ s∈xs,GoodS B s)→(∀ s,c=some s→GoodS B s)→(everP B n xs c).1.Nodup∧∀ s∈(everP B n xs c).1,GoodS B s
 | 0,xs,c,nd,g,_=>⟨nd,g⟩
 | n + 1,xs,none,nd,g,_=>⟨nd,g⟩
 | n + 1,xs,some s,nd,g,gc=>by
  unfold everP
  split
  ·exact ⟨nd,g⟩
  ·rename_i e
   have hs:=zb8 e
   refine zgw b n (xs++[s]) (nextS B s) ?_ ?_ fun t ht=>zbe b (gc s rfl) ht
   ·rw [List.nodup_append]
    exact ⟨nd,by simp,fun a ha b hb=>by rw [List.mem_singleton.mp hb]; exact fun z=>hs (z ▸ ha)⟩
   ·intro t ht
    rcases List.mem_append.mp ht with ht | ht
    ·exact g t ht
    ·rw [List.mem_singleton.mp ht]; exact gc s rfl
structure CoreE (F:Nat→Option Fn):Prop extends CoreY0 F where
 f17:F 17=some fn17
 f27:F 27=some fn27
 f29:F 29=some fn29
 f176:F 176=some fn176
 f182:F 182=some fn182
 f184:F 184=some fn184
section
variable {F:Nat→Option Fn} (C:CoreE F)
include C
theorem zh6 {k:Nat} {h:VH} {B:Bd} {ls:List Int} {f:Nat} (b:B.Ok) (hf:f < B.fd.length) (hl:(ls.length:Int)=B.gr) (bi:Bits ls):run F (k + 4) 176 [B.w,iW ls,.int f,.non] h=.ok (.tup [outD B ls f,iW (B.fall ls f).ls]) h:=by
 rw [zag C.f176 rfl]
 have e1:=zld C.toCoreY0 (k:=k) (h:=⟨h.n,h.n,h.os⟩) b hf hl bi
 have q:=b.fall hf hl bi
 obtain ⟨a1,a2⟩:=b.door q.c4.1 q.c4.2
 have e2:exs (run F (k + 3)) (.unp [4,5] (.call 175 (.cons (.var 0) (.cons (.var 1) (.cons (.var 2) (.cons (.var 3) .nil)))))) [some B.w,some (iW ls),some (.int f),some .non,none,none,none] ⟨h.n,h.n,h.os⟩=.ok (.nx [some B.w,some (iW ls),some (.int f),some .non,some (downW B ls f),some (iW (B.fall ls f).ls),none]) ⟨h.n,h.n,h.os⟩:=by
  simp only [exs,ev,Option.join_some,vaq,vav,ofsome,bindok,e1,tgW,seqW,zaw,vau,vas,van]
 have i4:idxW ⟨h.n,h.n,h.os⟩ B.w (.int 4)=some (.tup B.dr):=rfl
 have e3:ev (run F (k + 3)) (.ite (.cmp .isn (.var 4) (.cst .non)) (.cst (.tup [.non,.non])) (.idx (.idx (.var 0) (.cst (.int (4)))) (.var 4))) [some B.w,some (iW ls),some (.int f),some .non,some (downW B ls f),some (iW (B.fall ls f).ls),none] ⟨h.n,h.n,h.os⟩=.ok (outD B ls f) ⟨h.n,h.n,h.os⟩:=by
  unfold downW outD
  cases z:(B.fall ls f).st with
  | true=>simp [ev,cmpW,isNon]
  | false=>
   have i5:idxW ⟨h.n,h.n,h.os⟩ (.tup B.dr) (.int (lastC (B.col f) (B.fall ls f).cs))=some (B.door (lastC (B.col f) (B.fall ls f).cs)):=a1
   simp [ev,cmpW,isNon,i4,i5]
 show fin h (exs (run F (k + 3)) fn176.body [some B.w,some (iW ls),some (.int f),some .non,none,none,none] ⟨h.n,h.n,h.os⟩)=_
 have eb:exs (run F (k + 3)) fn176.body [some B.w,some (iW ls),some (.int f),some .non,none,none,none] ⟨h.n,h.n,h.os⟩=.ok (.rt (.tup [outD B ls f,iW (B.fall ls f).ls])) ⟨h.n,h.n,h.os⟩:=by
  refine (zaa e2).trans ?_
  refine (zaa (setE e3)).trans ?_
  exact zab (retE (tup2E (varE rfl) (varE rfl)))
 rw [eb]
 refine zai (vae _) ?_
 obtain ⟨oe,_⟩:=zb1 b hf hl bi
 rw [oe]
 simp [iW_lt,zn4,znx b hf hl bi]
noncomputable def nextW (B:Bd) (s:Stn):W:=match nextS B s with
 | none=>.non
 | some t=>stW t
omit C in
theorem zqi {B:Bd} {s:Stn} {n:Nat}:W.lt n (nextW B s)=true:=by
 unfold nextW
 split
 ·simp
 ·exact zn7
theorem zdy {k:Nat} {h:VH} {B:Bd} {s:Stn} (b:B.Ok) (g:GoodS B s):run F (k + 5) 182 [B.w,stW s] h=.ok (nextW B s) h:=by
 rw [zag C.f182 rfl]
 obtain ⟨ls,fo⟩:=s
 obtain ⟨hl,bi,hf⟩:=g
 have e1:exs (run F (k + 4)) (.unp [2,3] (.var 1)) [some B.w,some (stW (ls,fo)),none,none,none,none] ⟨h.n,h.n,h.os⟩=.ok (.nx [some B.w,some (stW (ls,fo)),some (iW ls),some (optW fo),none,none]) ⟨h.n,h.n,h.os⟩:=by
  simp only [stW,exs,ev,Option.join_some,vaq,vav,ofsome,bindok,tgW,seqW,zaw,vau,vas,van]
 show fin h (exs (run F (k + 4)) fn182.body [some B.w,some (stW (ls,fo)),none,none,none,none] ⟨h.n,h.n,h.os⟩)=_
 have eb:exs (run F (k + 4)) fn182.body [some B.w,some (stW (ls,fo)),none,none,none,none] ⟨h.n,h.n,h.os⟩=.ok (.rt (nextW B (ls,fo))) ⟨h.n,h.n,h.os⟩:=by
  refine (zaa e1).trans ?_
  cases fo with
  | none=>
   refine zab ?_
   rw [iteT (h1:=⟨h.n,h.n,h.os⟩) (by simp [ev,cmpW,isNon,optW])]
   exact zab (retE (by simp [ev,nextW,nextS]))
  | some f=>
   have hf:=hf f rfl
   obtain ⟨oe,og⟩:=zb1 b hf hl bi
   have e2:=zh6 C (k:=k) (h:=⟨h.n,h.n,h.os⟩) b hf hl bi
   refine (zaa (ρ':=[some B.w,some (stW (ls,some f)),some (iW ls),some (optW (some f)),none,none]) (h':=⟨h.n,h.n,h.os⟩) ?_).trans ?_
   ·rw [iteF (h1:=⟨h.n,h.n,h.os⟩) (by simp [ev,cmpW,isNon,optW])]; rfl
   have e3:exs (run F (k + 4)) (.unp [4,5] (.call 176 (.cons (.var 0) (.cons (.var 2) (.cons (.var 3) (.cons (.cst .non) .nil)))))) [some B.w,some (stW (ls,some f)),some (iW ls),some (optW (some f)),none,none] ⟨h.n,h.n,h.os⟩=.ok (.nx [some B.w,some (stW (ls,some f)),some (iW ls),some (optW (some f)),some (outD B ls f),some (iW (B.fall ls f).ls)]) ⟨h.n,h.n,h.os⟩:=by
    have e2':run F (k + 4) 176 [B.w,iW ls,optW (some f),.non] ⟨h.n,h.n,h.os⟩=.ok (.tup [outD B ls f,iW (B.fall ls f).ls]) ⟨h.n,h.n,h.os⟩:=e2
    simp only [exs,ev,Option.join_some,vaq,vav,ofsome,bindok,e2',tgW,seqW,zaw,vau,vas,van]
   refine (zaa e3).trans (zab (retE ?_))
   have e4:ev (run F (k + 4)) (.idx (.var 4) (.cst (.int (1)))) [some B.w,some (stW (ls,some f)),some (iW ls),some (optW (some f)),some (outD B ls f),some (iW (B.fall ls f).ls)] ⟨h.n,h.n,h.os⟩=.ok (optW (callO B ls f)) ⟨h.n,h.n,h.os⟩:=by
    refine idxE (varE rfl) rfl ?_
    rw [oe]; rfl
   exact tup2E (varE rfl) e4
 rw [eb]
 exact zai (vae _) zqi
end
section
variable {F:Nat→Option Fn} (C:CoreE F) (B':CoreB F)
include C B'
theorem zce {k:Nat} {h:VH} {B:Bd} {s:Stn} (b:B.Ok) (g:GoodS B s):run F (k + 9) 29 [B.w,stW s] h=.ok .non h:=by
 obtain ⟨ls,fo⟩:=s
 obtain ⟨hl,bi,hf⟩:=g
 have hg:=b.g2
 have w0:∀ h:VH,run F (k + 7) 17 [iW ls,.int B.gr] h=.ok (.bl true) h:=by
  intro h
  rw [zag C.f17 rfl]
  have e:=zbm B'.toCoreA (k:=k + 3) (h:=⟨h.n,h.n,h.os⟩) (w:=iW ls) (a:=B.gr) (b:=B.gr) (lo:=0) (hi:=1) (by unfold Kn iW; simp) (fun ws e=>by
   cases e
   refine ⟨by rw [vab]; simp only at hl; omega,fun x hx=>?_⟩
   obtain ⟨y,_,rfl⟩:=List.mem_map.mp hx
   unfold Kn; simp)
  rw [znw hl bi] at e
  simp [fn17,exs,ev,e,zai]
 have wf:∀ h:VH,run F (k + 7) 12 [optW fo,.int B.fd.length] h=.ok (.bl true) h:=by
  intro h
  rw [zbo B' (k:=k + 4) (w:=optW fo) (n:=B.fd.length) (by cases fo <;> (unfold Kn optW; simp))]
  have:fon (optW fo) B.fd.length=true:=by
   cases fo with
   | none=>rfl
   | some f=>
    have:=hf f rfl
    simp only [optW,fon,isNon,within,Bool.false_or,vac,decide_eq_true_eq]
    omega
  rw [this]
 have w1:∀ h:VH,run F (k + 8) 27 [B.w,.tup [iW ls,optW fo]] h=.ok (.bl true) h:=by
  intro h
  rw [zag C.f27 rfl]
  have e:=zgn B' (k:=k) (h:=⟨h.n,h.n,h.os⟩) b
  have e6:=zam B'.toCoreA (k:=k + 6) (h:=⟨h.n,h.n,h.os⟩) (w:=.tup [iW ls,optW fo]) (lo:=2) (hi:=2) (by unfold Kn; simp)
  have t6:zau (.tup [iW ls,optW fo]) 2 2=true:=rfl
  rw [t6] at e6
  have i1:idxW ⟨h.n,h.n,h.os⟩ B.w (.int 1)=some (.int B.gr):=rfl
  have i3:idxW ⟨h.n,h.n,h.os⟩ B.w (.int 3)=some (.tup B.fd):=rfl
  have eb:exs (run F (k + 7)) fn27.body [some B.w,some (.tup [iW ls,optW fo]),none,none] ⟨h.n,h.n,h.os⟩=.ok (.rt (.bl true)) ⟨h.n,h.n,h.os⟩:=by
   refine (zaa (ρ':=[some B.w,some (.tup [iW ls,optW fo]),none,none]) (h':=⟨h.n,h.n,h.os⟩) (by simp [exs,ev,e])).trans ?_
   refine (zaa (ρ':=[some B.w,some (.tup [iW ls,optW fo]),none,none]) (h':=⟨h.n,h.n,h.os⟩) (by simp [exs,ev,e6])).trans ?_
   refine (zaa (ρ':=[some B.w,some (.tup [iW ls,optW fo]),some (iW ls),some (optW fo)]) (h':=⟨h.n,h.n,h.os⟩) (by simp [exs,ev,tgW,seqW,zaw])).trans ?_
   refine zab (retE ?_)
   rw [ev,zav (varE rfl) (idxE (varE rfl) rfl i1) (w0 _),bindok]
   exact zav (varE rfl) (lenE (idxE (varE rfl) rfl i3) rfl) (wf _)
  show fin h (exs (run F (k + 7)) fn27.body [some B.w,some (.tup [iW ls,optW fo]),none,none] ⟨h.n,h.n,h.os⟩)=_
  rw [eb]
  exact zai (vae _) (by simp)
 rw [zag C.f29 rfl]
 have w2:run F (k + 8) 27 [B.w,stW (ls,fo)] ⟨h.n,h.n,h.os⟩=.ok (.bl true) ⟨h.n,h.n,h.os⟩:=w1 _
 simp [fn29,exs,ev,w2,zrj]
end
noncomputable def stD (h:VH) (xs:List Stn):VH:=⟨h.n + 1,h.n,.dt (xs.map stW) (zal 0 xs.length) :: h.os⟩
theorem zbl {h:VH} {xs:List Stn}:(stD h xs).get h.n=some (.dt (xs.map stW) (zal 0 xs.length)):=zao (h:=h)
theorem zn9 {h:VH} {xs:List Stn} {s:Stn}:(stD h xs).set h.n (.dt (xs.map stW++[stW s]) (zal 0 xs.length++[.int xs.length]))=stD h (xs++[s]):=by
 have e:=zdq xs.length 0
 rw [Int.zero_add] at e
 unfold VH.set stD
 simp only [zcd (vae h.n),List.map_append,vao,List.map_nil,vag,vah,List.length_nil,e]
 have:h.n + 1 - 1 - h.n=0:=by omega
 rw [this]; rfl
noncomputable def optS:Option Stn→W
 | none=>.non
 | some s=>stW s
theorem zh7 {B:Bd} {s:Stn}:nextW B s=optS (nextS B s):=by
 unfold nextW optS
 cases nextS B s <;> rfl
noncomputable def backW:Option Nat→W
 | none=>.non
 | some i=>.int (i:Int)
theorem in_st {h:VH} {a:Nat} {xs:List Stn} {s:Stn} (g:h.get a=some (.dt (xs.map stW) (zal 0 xs.length))):inW h (stW s) (.ref a)=some (posS s 0 xs).isSome:=by
 have e:seqW h (.ref a)=none:=by simp [seqW,g]
 have:lookD (xs.map stW) (zal 0 xs.length) (dkS s)=_:=zgv (s:=s) xs 0
 unfold inW
 rw [e]
 simp only [inD,g,zew,this]
 cases posS s 0 xs <;> rfl
theorem zoa {h:VH} {a:Nat} {xs:List Stn} {s:Stn} {i:Nat} (g:h.get a=some (.dt (xs.map stW) (zal 0 xs.length))) (e:posS s 0 xs=some i):idxW h (.ref a) (stW s)=some (.int (i:Int)):=by
 have:lookD (xs.map stW) (zal 0 xs.length) (dkS s)=_:=zgv (s:=s) xs 0
 show idxD h a (stW s)=_
 simp only [idxD,g,zew,this,e]; rfl
theorem zob {cl:Call} {ρ:En} {h:VH} {i a:Nat} {xs:List Stn} (hρ:ρ[i]?=some (some (.ref a))) (g:h.get a=some (.dt (xs.map stW) (zal 0 xs.length))):ev cl (.bi .len (.cons (.var i) .nil)) ρ h=.ok (.int xs.length) h:=by
 have e:seqW h (.ref a)=none:=by simp [seqW,g]
 have hv:ev cl (.cons (.var i) .nil) ρ h=.ok (.tup [.ref a]) h:=by
  rw [ev,varE hρ,bindok,ev]; rfl
 rw [ev,hv,bindok]
 show lenW [.ref a] h=_
 simp only [lenW,e,keysD,g,van,ofsome,vab]
theorem ztw {cl:Call} {ρ:En} {h:VH} {i a:Nat} {xs:List Stn} (hρ:ρ[i]?=some (some (.ref a))) (g:h.get a=some (.dt (xs.map stW) (zal 0 xs.length))):ev cl (.bi .tuple (.cons (.var i) .nil)) ρ h=.ok (.tup (xs.map stW)) h:=by
 have e:seqW h (.ref a)=none:=by simp [seqW,g]
 have hv:ev cl (.cons (.var i) .nil) ρ h=.ok (.tup [.ref a]) h:=by
  rw [ev,varE hρ,bindok,ev]; rfl
 rw [ev,hv,bindok]
 show zcu [.ref a] h=_
 simp only [zcu,e,keysD,g,van,ofsome]
theorem putE {cl:Call} {o i v:E} {ρ:En} {h h1 h2 h3:VH} {a:Nat} {w:W} {xs:List Stn} {s:Stn} (ev1:ev cl v ρ h=.ok w h1) (ev2:ev cl o ρ h1=.ok (.ref a) h2) (ev3:ev cl i ρ h2=.ok (stW s) h3) (g:h3.get a=some (.dt (xs.map stW) (zal 0 xs.length))) (hn:posS s 0 xs=none) (hl:xs.length≤100000) :
 exs cl (.put o i v) ρ h=.ok (.nx ρ) (h3.set a (.dt (xs.map stW++[stW s]) (zal 0 xs.length++[w]))):=by
 have:lookD (xs.map stW) (zal 0 xs.length) (dkS s)=_:=zgv (s:=s) xs 0
 rw [hn] at this
 rw [exs,ev1,bindok,ev2,bindok,ev3,bindok]
 show putD ρ a (stW s) w h3=_
 have hb:Nat.blt (xs.map stW).length big=true:=zno (by rw [vab]; omega)
 simp only [putD,g,zew,this,hb]
 rfl
theorem zkm {s:Stn}:isNon (stW s)=false:=rfl
section
variable {F:Nat→Option Fn} (C:CoreE F)
include C
theorem zh8 {k:Nat} {h:VH} {B:Bd} {s0:W} (b:B.Ok):∀ (n fu:Nat) (xs:List Stn) (c:Option Stn) (x:Option W),n < fu→1281≤n + xs.length→xs.Nodup→(∀ s∈xs,GoodS B s)→(∀ s,c=some s→GoodS B s) →
 ∃ c',whlG (ev (run F (k + 5)) zbs) (exs (run F (k + 5)) zb5) fu [some B.w,some s0,some (.ref h.n),some (optS c),x] (stD h xs)=.ok (.nx [some B.w,some s0,some (.ref h.n),some (optS c'),x]) (stD h (everP B n xs c).1) ∧
  ((c'=none∧(everP B n xs c).2=none)∨∃ s i,c'=some s∧(everP B n xs c).2=some i∧posS s 0 (everP B n xs c).1=some i)
 | n,0,xs,c,x,hn,_,_,_,_=>by omega
 | 0,fu + 1,xs,c,x,_,hN,nd,g,_=>by have:=few b nd g; omega
 | n + 1,fu + 1,xs,none,x,hn,hN,nd,g,gc=>by
  refine ⟨none,?_,.inl ⟨rfl,rfl⟩⟩
  have ec:ev (run F (k + 5)) zbs [some B.w,some s0,some (.ref h.n),some (optS none),x] (stD h xs)=.ok (.bl false) (stD h xs):=by
   simp [zbs,ev,cmpW,isNon,optS]
  rw [whlG,ec,bindok]; rfl
 | n + 1,fu + 1,xs,some s,x,hn,hN,nd,g,gc=>by
  have hin:=in_st (s:=s) (zbl (h:=h) (xs:=xs))
  have ec:ev (run F (k + 5)) zbs [some B.w,some s0,some (.ref h.n),some (optS (some s)),x] (stD h xs)=.ok (.bl (!(posS s 0 xs).isSome)) (stD h xs):=by
   unfold zbs
   rw [ev]
   have e1:ev (run F (k + 5)) (.cmp .notn (.var 3) (.cst .non)) [some B.w,some s0,some (.ref h.n),some (optS (some s)),x] (stD h xs)=.ok (.bl true) (stD h xs):=by
    simp [ev,cmpW,za9,optS,zkm]
   rw [e1,bindok]
   show ev (run F (k + 5)) (.cmp .nin (.var 3) (.var 2)) _ _=_
   simp [ev,cmpW,optS,hin]
  cases hp:posS s 0 xs with
  | some i=>
   refine ⟨some s,?_,.inr ⟨s,i,rfl,by simp only [everP,hp],by simp only [everP,hp]⟩⟩
   rw [hp] at ec
   rw [whlG,ec,bindok]
   simp only [everP,hp]; rfl
  | none=>
   rw [hp] at ec
   have hfew:=few b nd g
   have gs:=gc s rfl
   obtain ⟨c',ih,hc'⟩:=zh8 (k:=k) (h:=h) (s0:=s0) b n fu (xs++[s]) (nextS B s) x (by omega) (by rw [vag,List.length_singleton]; omega)
    (by
      rw [List.nodup_append]
      exact ⟨nd,by simp,fun a ha b hb=>by rw [List.mem_singleton.mp hb]; exact fun z=>zb8 hp (z ▸ ha)⟩)
    (fun t ht=>by
      rcases List.mem_append.mp ht with ht | ht
      ·exact g t ht
      ·rw [List.mem_singleton.mp ht]; exact gs) (fun t ht=>zbe b gs ht)
   have e1:=putE (cl:=run F (k + 5)) (o:=.var 2) (i:=.var 3) (v:=.bi .len (.cons (.var 2) .nil)) (ρ:=[some B.w,some s0,some (.ref h.n),some (optS (some s)),x]) (h:=stD h xs) (a:=h.n) (xs:=xs) (s:=s) (zob rfl zbl) (varE rfl) (varE rfl) zbl hp (by omega)
   rw [zn9] at e1
   have e2:=zdy C (k:=k) (h:=stD h (xs++[s])) b gs
   rw [zh7] at e2
   have eb:exs (run F (k + 5)) zb5 [some B.w,some s0,some (.ref h.n),some (optS (some s)),x] (stD h xs)=.ok (.nx [some B.w,some s0,some (.ref h.n),some (optS (nextS B s)),x]) (stD h (xs++[s])):=by
    unfold zb5
    refine (zaa e1).trans ?_
    refine (zaa (setE (zav (varE rfl) (varE rfl) e2))).trans ?_
    rfl
   refine ⟨c',?_,?_⟩
   ·rw [whlG,ec,bindok]
    show Res.bind (exs (run F (k + 5)) zb5 _ _) _=_
    rw [eb,bindok]
    show whlG _ _ fu _ _=_
    rw [ih]
    simp only [everP,hp]
   ·simp only [everP,hp]; exact hc'
end
section
variable {F:Nat→Option Fn} (C:CoreE F) (B':CoreB F)
include C B'
theorem zqj {k:Nat} {h:VH} {B:Bd} {s:Stn} (b:B.Ok) (g:GoodS B s):run F (k + 10) 184 [B.w,stW s] h=.ok (.tup [.tup ((everP B 1281 [] (some s)).1.map stW),backW (everP B 1281 [] (some s)).2]) h:=by
 rw [zag C.f184 rfl]
 have e0:=zce C B' (k:=k) (h:=⟨h.n,h.n,h.os⟩) b g
 obtain ⟨c',el,hc'⟩:=zh8 C (k:=k + 4) (h:=h) (s0:=stW s) b 1281 fuel [] (some s) none (by decide) (by decide) List.nodup_nil (fun _ h=>nomatch h) (fun t ht=>by cases ht; exact g)
 generalize everP B 1281 [] (some s)=E at el hc' ⊢
 have e1:exs (run F (k + 9)) (.set 2 (.dsp .nil)) [some B.w,some (stW s),none,none,none] ⟨h.n,h.n,h.os⟩=.ok (.nx [some B.w,some (stW s),some (.ref h.n),none,none]) (stD h []):=by
  simp only [exs,ev,bindok,zb0]
  rw [if_pos (by decide)]
  rfl
 have e4:ev (run F (k + 9)) (.ite (.cmp .isn (.var 3) (.cst .non)) (.cst .non) (.idx (.var 2) (.var 3))) [some B.w,some (stW s),some (.ref h.n),some (optS c'),none] (stD h E.1)=.ok (backW E.2) (stD h E.1):=by
  rcases hc' with ⟨rfl,e⟩ | ⟨t,i,rfl,e,ep⟩
  ·rw [e]; simp [ev,cmpW,isNon,optS,backW]
  ·rw [e,ev]
   have:ev (run F (k + 9)) (.cmp .isn (.var 3) (.cst .non)) [some B.w,some (stW s),some (.ref h.n),some (optS (some t)),none] (stD h E.1)=.ok (.bl false) (stD h E.1):=by
    simp [ev,cmpW,za9,optS,zkm]
   rw [this,bindok]
   exact idxE (varE rfl) (varE rfl) (zoa zbl ep)
 show fin h (exs (run F (k + 9)) fn184.body [some B.w,some (stW s),none,none,none] ⟨h.n,h.n,h.os⟩)=_
 have eb:exs (run F (k + 9)) fn184.body [some B.w,some (stW s),none,none,none] ⟨h.n,h.n,h.os⟩=.ok (.rt (.tup [.tup (E.1.map stW),backW E.2])) (stD h E.1):=by
  refine (zaa (exprE (zav (varE rfl) (varE rfl) e0))).trans ?_
  refine (zaa e1).trans ?_
  refine (zaa (setE (varE rfl))).trans ?_
  refine (zaa (show exs (run F (k + 9)) (.whl zbs zb5) _ _=_ from el)).trans ?_
  refine (zaa (setE e4)).trans ?_
  exact zab (retE (tup2E (ztw rfl zbl) (varE rfl)))
 rw [eb]
 refine zai (vae _) ?_
 have h1:W.lts h.n (E.1.map stW)=true:=zn1 fun w hw=>by
  obtain ⟨t,_,rfl⟩:=List.mem_map.mp hw
  exact zn7
 have h2:W.lt h.n (backW E.2)=true:=by cases E.2 <;> simp [backW]
 simp [h1,h2]
end
structure CoreX (F:Nat→Option Fn):Prop extends CoreL F where
 f112:F 112=some fn112
 f117:F 117=some fn117
section
variable {F:Nat→Option Fn} (C:CoreX F)
include C
theorem zqk {k:Nat} {h:VH} {B:Bd} {ls:List Int} {f:Nat} (b:B.Ok) (hf:f < B.fd.length) (hl:(ls.length:Int)=B.gr) (bi:Bits ls) :
 run F (k + 2) 117 [B.w,stW (ls,some f)] h=.ok (.tup [nameP B ls f,stW ((B.fall ls f).ls,callO B ls f)]) h:=by
 rw [zag C.f117 rfl]
 obtain ⟨c1,c2,c3⟩:=b.col hf
 obtain ⟨i,h1,e1,g1,w1⟩:=zqg C.toCoreL (k:=k) (h:=⟨h.n,h.n,h.os⟩) (B:=B) (ls:=ls) (vae _) c1 c2 c3 (b.rows hl) b.r1 bi
 have q:=b.fall hf hl bi
 obtain ⟨oe,og⟩:=zb1 b hf hl bi
 have e2:exs (run F (k + 1)) (.unp [2,3,4,5] (.call 38 (.cons (.var 0) (.cons (.idx (.var 1) (.cst (.int (0)))) (.cons (.idx (.var 1) (.cst (.int (1)))) .nil))))) [some B.w,some (stW (ls,some f)),none,none,none,none,none,none] ⟨h.n,h.n,h.os⟩ =
  .ok (.nx [some B.w,some (stW (ls,some f)),some (iW (B.col f :: (B.fall ls f).cs)),some (iW (B.fall ls f).ts),some (iW (B.fall ls f).ls),some (.bl (B.fall ls f).st),none,none]) h1:=by
  have e3:=zfu (cl:=run F (k + 1)) (ρ:=[some B.w,some (stW (ls,some f)),none,none,none,none,none,none]) (h:=⟨h.n,h.n,h.os⟩) (n:=38) (a:=.var 0) (b:=.idx (.var 1) (.cst (.int (0)))) (c:=.idx (.var 1) (.cst (.int (1)))) (varE rfl) (idxE (varE rfl) rfl (show idxW _ (stW (ls,some f)) (.int 0)=some (iW ls) from rfl)) (idxE (varE rfl) rfl (show idxW _ (stW (ls,some f)) (.int 1)=some (.int f) from rfl)) e1
  rw [exs,e3,bindok]
  simp only [tgW,seqW,g1,zaw,vau,vas,van,ofsome]
  rfl
 show fin h (exs (run F (k + 1)) fn117.body [some B.w,some (stW (ls,some f)),none,none,none,none,none,none] ⟨h.n,h.n,h.os⟩)=_
 have hb:exs (run F (k + 1)) fn117.body [some B.w,some (stW (ls,some f)),none,none,none,none,none,none] ⟨h.n,h.n,h.os⟩=.ok (.rt (.tup [nameP B ls f,stW ((B.fall ls f).ls,callO B ls f)])) h1:=by
  refine (zaa e2).trans ?_
  cases z:(B.fall ls f).st with
  | true=>
   have ho:outD B ls f=.tup [.non,.non]:=by unfold outD; rw [if_pos z]
   rw [ho] at oe
   simp only [W.tup.injEq,List.cons.injEq,and_true] at oe
   obtain ⟨o1,o2⟩:=oe
   refine zab ?_
   rw [iteT (h1:=h1) (by simp [ev,truW])]
   refine (zab (w:=.tup [.non,.tup [iW (B.fall ls f).ls,.non]]) (h':=h1) (retE (tup2E (h1:=h1) rfl (tup2E (varE rfl) rfl)))).trans ?_
   rw [← o1]
   unfold stW
   rw [← o2]
  | false=>
   have ho:outD B ls f=B.door (lastC (B.col f) (B.fall ls f).cs):=by unfold outD; rw [z]; rfl
   obtain ⟨a1,a2⟩:=b.door q.c4.1 q.c4.2
   refine (zaa (ρ':=[some B.w,some (stW (ls,some f)),some (iW (B.col f :: (B.fall ls f).cs)),some (iW (B.fall ls f).ts),some (iW (B.fall ls f).ls),some (.bl false),none,none]) (h':=h1) ?_).trans ?_
   ·rw [iteF (h1:=h1) (by simp [ev,truW])]; rfl
   have el:=znv (cs:=(B.fall ls f).cs) (c:=B.col f)
   have e4:ev (run F (k + 1)) (.idx (.idx (.var 0) (.cst (.int (4)))) (.idx (.var 2) (.neg (.cst (.int (1)))))) [some B.w,some (stW (ls,some f)),some (iW (B.col f :: (B.fall ls f).cs)),some (iW (B.fall ls f).ts),some (iW (B.fall ls f).ls),some (.bl false),none,none] h1=.ok (.tup [nameP B ls f,optW (callO B ls f)]) h1:=by
    rw [← oe,ho]
    exact idxE (idxE (varE rfl) rfl (show idxW h1 B.w (.int 4)=some (.tup B.dr) from rfl)) (idxE (varE rfl) rfl (show idxW h1 (iW (B.col f :: (B.fall ls f).cs)) (.int (-1))=_ from el)) a1
   refine (zaa (ρ':=[some B.w,some (stW (ls,some f)),some (iW (B.col f :: (B.fall ls f).cs)),some (iW (B.fall ls f).ts),some (iW (B.fall ls f).ls),some (.bl false),some (nameP B ls f),some (optW (callO B ls f))]) (h':=h1) ?_).trans ?_
   ·rw [exs,e4,bindok]
    simp only [tgW,seqW,zaw,vau,vas,van,ofsome]
   ·exact zab (retE (tup2E (varE rfl) (tup2E (varE rfl) (varE rfl))))
 rw [hb]
 exact zqc (n:=0) w1 fun m=>by
  have h1:=zn7 (n:=m) (s:=((B.fall ls f).ls,callO B ls f))
  have h2:=znx b hf hl bi m
  simp [h1,h2]
noncomputable def stE (h:VH) (xs:List Stn) (ns:List W):VH:=⟨h.n + 3,h.n,.lst ns :: .dt (xs.map stW) (zal 0 xs.length) :: .lst (xs.map stW) :: h.os⟩
omit C in
theorem stE_s {h:VH} {xs:List Stn} {ns:List W}:(stE h xs ns).get h.n=some (.lst (xs.map stW)):=by
 unfold VH.get stE
 rw [if_pos (zan.mpr (show h.n < h.n + 3 by omega)),show h.n + 3 - 1 - h.n=2 by omega]; rfl
omit C in
theorem stE_d {h:VH} {xs:List Stn} {ns:List W}:(stE h xs ns).get (h.n + 1)=some (.dt (xs.map stW) (zal 0 xs.length)):=by
 unfold VH.get stE
 rw [if_pos (zan.mpr (show h.n + 1 < h.n + 3 by omega)),show h.n + 3 - 1 - (h.n + 1)=1 by omega]; rfl
omit C in
theorem stE_n {h:VH} {xs:List Stn} {ns:List W}:(stE h xs ns).get (h.n + 2)=some (.lst ns):=by
 unfold VH.get stE
 rw [if_pos (zan.mpr (show h.n + 2 < h.n + 3 by omega)),show h.n + 3 - 1 - (h.n + 2)=0 by omega]; rfl
omit C in
theorem zql {h:VH} {xs:List Stn} {ns ms:List W}:(stE h xs ns).set (h.n + 2) (.lst ms)=stE h xs ms:=by
 unfold VH.set stE
 simp only [zcd (show h.n≤h.n + 2 by omega)]
 rw [show h.n + 3 - 1 - (h.n + 2)=0 by omega]; rfl
omit C in
theorem ztx {h:VH} {xs:List Stn} {ns:List W} {s:Stn}:(((stE h xs ns).set (h.n + 1) (.dt (xs.map stW++[stW s]) (zal 0 xs.length++[.int xs.length]))).set h.n (.lst (xs.map stW++[stW s])))=stE h (xs++[s]) ns:=by
 have e:=zdq xs.length 0
 rw [Int.zero_add] at e
 unfold VH.set stE
 simp only [zcd (show h.n≤h.n + 1 by omega),vam,if_false,zcd (vae h.n),List.map_append,vao,List.map_nil,vag,vah,List.length_nil,e]
 rw [show h.n + 3 - 1 - (h.n + 1)=1 by omega,show h.n + 3 - 1 - h.n=2 by omega]; rfl
omit C in
theorem zkn {h:VH} {xs:List Stn} {ns:List W} {o:VO}:((stE h xs ns).set (h.n + 1) o).get h.n=some (.lst (xs.map stW)):=by
 rw [zay stE_d (by omega)]; exact stE_s
omit C in
theorem zoc {h:VH} {xs:List Stn} {ns:List W} {s:Stn} (e:xs.getLast?=some s) {cl:Call} {ρ:En} (hρ:ρ[2]?=some (some (.ref h.n))):ev cl (.idx (.var 2) (.neg (.cst (.int (1))))) ρ (stE h xs ns)=.ok (stW s) (stE h xs ns):=by
 refine idxE (varE hρ) rfl ?_
 have hl:xs.length≠0:=fun z=>by rw [List.length_eq_zero_iff.mp z] at e; cases e
 have:atI (xs.map stW) (-1)=some (stW s):=by
  unfold atI ixN
  rw [vab,if_neg (by decide),if_pos (by omega)]
  rw [List.getLast?_eq_getElem?] at e
  show (xs.map stW)[((xs.length:Int) + -1).toNat]?=_
  rw [show ((xs.length:Int) + -1).toNat=xs.length - 1 by omega,List.getElem?_map,e]; rfl
 simp only [idxW,stE_s]
 exact this
end
theorem zty {h:VH} {xs:List Stn} {ns:List W} {i:Nat} (hi:i < h.n):(stE h xs ns).get i=h.get i:=by
 unfold VH.get stE
 rw [if_pos (zan.mpr (show i < h.n + 3 by omega)),if_pos (zan.mpr hi),show h.n + 3 - 1 - i=(h.n - 1 - i) + 3 by omega]; rfl
theorem zfy {B:Bd} {s:Stn} (n:Nat):everP B (n + 1) [] (some s)=everP B n [s] (nextS B s):=rfl
structure Gx (h h':VH):Prop where
 le:h.n≤h'.n
 lo:h.lo=h.n→h'.lo=h.n
 get:∀ i o,h.get i=some o→h'.get i=some o
noncomputable def nestN:Nat→W→Bool
 | _,.int _=>true
 | _,.non=>true
 | n + 1,.tup ws=>Nat.ble ws.length 5000 && ws.all (nestN n)
 | _,_=>false
theorem allE {cl:Call} {a:E} {ρ:En} {h h1:VH} {j:Nat} {n:Nat} (ea:ev cl a ρ h=.ok (.ref j) h1) (g:h1.get j=some (.lst (List.replicate n (.bl true)))):ev cl (.bi .all (.cons a .nil)) ρ h=.ok (.bl true) h1:=by
 have hm:mapO blW (List.replicate n (W.bl true))=some (List.replicate n true):=by
  clear g
  induction n with
  | zero=>rfl
  | succ n ih=>simp only [List.replicate_succ,mapO,blW,ih]
 have ha:(List.replicate n true).all id=true:=by
  rw [List.all_eq_true]; intro x hx; exact (List.mem_replicate.mp hx).2
 rw [ev,ev,ea,bindok,ev,bindok,bindok]
 show allW [.ref j] h1=_
 simp only [allW,g,hm,van,ha,ofsome]
theorem zje {cl:Call} {e:E}:∀ (ws:List W) (x y:Option W) (h:VH),(∀ w∈ws,∀ h,ev cl e [some w,some w] h=.ok (.bl true) h)→lcL (tgW (.many [0,1])) (fun _ h=>.ok (.bl true) h) (ev cl e) (zipW ws ws) [x,y] h=.ok (List.replicate ws.length (.bl true)) h
 | [],x,y,h,_=>rfl
 | a :: ws,x,y,h,hs=>by
  have e1:=hs a vap h
  have e2:=zje (e:=e) ws (some a) (some a) h fun w hw=>hs w (vaj _ hw)
  show lcL _ _ _ (.tup [a,a] :: zipW ws ws) _ _=_
  simp only [lcL,tgW,seqW,zaw,List.set,bindok,e1,e2]; rfl
structure CoreM (F:Nat→Option Fn):Prop where
 f39:F 39=some fn39
 f92:F 92=some fn92
section
variable {F:Nat→Option Fn} (C:CoreM F)
include C
theorem zqm:∀ (n:Nat) {k:Nat} {h:VH} {w:W},nestN n w=true→run F (k + n + 2) 92 [w,w] h=.ok (.bl true) h:=by
 have hint:∀ {k:Nat} {h:VH} {i:Int},run F (k + 2) 92 [.int i,.int i] h=.ok (.bl true) h:=by
  intro k h i
  have e1:∀ h,run F (k + 1) 39 [.int i,.int i] h=.ok (.bl true) h:=by
   intro h
   rw [zag C.f39 rfl]
   simp [fn39,exs,ev,cmpW,zaq,zai]
  rw [zag C.f92 rfl]
  simp [fn92,exs,ev,truW,cmpW,isNon,e1,zai]
 have hnon:∀ {k:Nat} {h:VH},run F (k + 2) 92 [.non,.non] h=.ok (.bl true) h:=by
  intro k h
  rw [zag C.f92 rfl]
  simp [fn92,exs,ev,truW,cmpW,isNon,zai]
 intro n
 induction n with
 | zero=>
  intro k h w hw
  cases w <;> simp only [nestN] at hw <;> first | exact hint | exact hnon | cases hw
 | succ n ih=>
  intro k h w hw
  cases w <;> simp only [nestN] at hw <;> first | (exact hint (k:=k + n + 1)) | (exact hnon (k:=k + n + 1)) | (cases hw; done) | skip
  rename_i ws
  rw [vac] at hw
  have hlen:=Nat.le_of_ble_eq_true hw.1
  have hall:=List.all_eq_true.mp hw.2
  rw [show k + (n + 1) + 2=(k + n + 2) + 1 by omega,zag C.f92 rfl]
  have hz:(zipW ws ws).length < 1000000:=by unfold zipW; rw [List.length_zipWith]; omega
  have e1:=zje (cl:=run F (k + n + 2)) (e:=zja) ws none none ⟨h.n,h.n,h.os⟩ fun w hw h=>zav (varE rfl) (varE rfl) (ih (k:=k) (hall w hw))
  have e2:=zn2 (cl:=run F (k + n + 2)) (a:=.cons (.var 0) (.cons (.var 1) .nil)) (ρ:=[some (.tup ws),some (.tup ws)]) (h:=⟨h.n,h.n,h.os⟩) (h1:=⟨h.n,h.n,h.os⟩) (ow:=2) (ix:=[]) (e:=zja) (t:=.many [0,1]) rfl hz e1 (by rw [List.length_replicate]; omega)
  have e3:=allE e2 zao
  have e4:ev (run F (k + n + 2)) (.or (.not (.tru (.isi .tuple (.var 0)))) (.cmp .ne (.bi .len (.cons (.var 0) .nil)) (.bi .len (.cons (.var 1) .nil)))) [some (.tup ws),some (.tup ws)] ⟨h.n,h.n,h.os⟩=.ok (.bl false) ⟨h.n,h.n,h.os⟩:=by
   simp [ev,biW,lenW,seqW,cmpW,zaq,truW]
  have e5:ev (run F (k + n + 2)) (.tru (.isi .tuple (.var 1))) [some (.tup ws),some (.tup ws)] ⟨h.n,h.n,h.os⟩=.ok (.bl true) ⟨h.n,h.n,h.os⟩:=by
   simp [ev,truW]
  have eb:exs (run F (k + n + 2)) fn92.body [some (.tup ws),some (.tup ws)] ⟨h.n,h.n,h.os⟩=.ok (.rt (.bl true)) (VH.new ⟨h.n,h.n,h.os⟩ (.lst (List.replicate ws.length (.bl true)))):=by
   refine zab ?_
   rw [iteT e5]
   refine (zaa (ρ':=[some (.tup ws),some (.tup ws)]) (h':=⟨h.n,h.n,h.os⟩) ?_).trans (zab (retE e3))
   rw [iteF e4]; rfl
  show fin h (exs (run F (k + n + 2)) fn92.body [some (.tup ws),some (.tup ws)] ⟨h.n,h.n,h.os⟩)=_
  rw [eb]
  exact zai (vae _) (by simp)
end
noncomputable def seg (f:Nat→Int):Nat→Nat→List Int
 | _,0=>[]
 | a,n + 1=>f a :: seg f (a + 1) n
theorem zba (f:Nat→Int):∀ (n a:Nat),(seg f a n).length=n
 | 0,_=>rfl
 | n + 1,a=>by rw [seg,vah,zba f n]
theorem zb2 (f:Nat→Int):∀ (m n a:Nat),seg f a (m + n)=seg f a m++seg f (a + m) n
 | 0,n,a=>by rw [Nat.zero_add]; rfl
 | m + 1,n,a=>by
  rw [show m + 1 + n=(m + n) + 1 by omega,seg,seg,List.cons_append,zb2 f m n (a + 1),show a + 1 + m=a + (m + 1) by omega]
theorem zbr {f g:Nat→Int}:∀ {n a b:Nat},(∀ j,j < n→f (a + j)=g (b + j))→seg f a n=seg g b n
 | 0,_,_,_=>rfl
 | n + 1,a,b,h=>by
  rw [seg,seg,show f a=g b from h 0 (by omega)]
  rw [zbr (n:=n) (a:=a + 1) (b:=b + 1) fun j hj=>by
   have:=h (j + 1) (by omega)
   rw [show a + 1 + j=a + (j + 1) by omega,show b + 1 + j=b + (j + 1) by omega]; exact this]
theorem zod {f g:Nat→Int}:∀ {n a b:Nat},seg f a n=seg g b n→∀ j,j < n→f (a + j)=g (b + j)
 | 0,_,_,_,j,hj=>by omega
 | n + 1,a,b,h,j,hj=>by
  rw [seg,seg,List.cons.injEq] at h
  cases j with
  | zero=>exact h.1
  | succ j=>
   have:=zod h.2 j (by omega)
   rw [show a + 1 + j=a + (j + 1) by omega,show b + 1 + j=b + (j + 1) by omega] at this; exact this
theorem zjf (f:Nat→Int):∀ (n a j:Nat),j < n→(seg f a n)[j]?=some (f (a + j))
 | 0,_,_,h=>by omega
 | n + 1,a,0,_=>rfl
 | n + 1,a,j + 1,h=>by
  rw [seg,vaq,zjf f n (a + 1) j (by omega),show a + 1 + j=a + (j + 1) by omega]
theorem zko (f:Nat→Int) (a n:Nat):seg f a (n + 1)=seg f a n++[f (a + n)]:=zb2 f n 1 a
theorem zdd (f:Nat→Int) {a m n:Nat} (h:m≤n):(seg f a n).take m=seg f a m:=by
 obtain ⟨k,rfl⟩:=Nat.le.dest h
 rw [zb2,List.take_left' (zba f m a)]
theorem zgx (f:Nat→Int) {a m n:Nat} (h:m≤n):(seg f a n).drop m=seg f (a + m) (n - m):=by
 obtain ⟨k,rfl⟩:=Nat.le.dest h
 rw [zb2,List.drop_left' (zba f m a),show m + k - m=k by omega]
noncomputable def Prd (g:Nat→Int) (s:Nat):Prop:=∀ j,g (j + s)=g j
theorem zh9 {g:Nat→Int} {s:Nat} (h:Prd g s):∀ k j,g (j + s * k)=g j
 | 0,j=>by rw [Nat.mul_zero]; rfl
 | k + 1,j=>by rw [Nat.mul_succ,← Nat.add_assoc,h,zh9 h k]
theorem zrs {g:Nat→Int} {s:Nat} (h:Prd g s) (j:Nat):g (j % s)=g j:=by
 have:=zh9 h (j / s) (j % s)
 rw [Nat.mod_add_div] at this; exact this.symm
theorem pr_of {g:Nat→Int} {R s:Nat} (hR:Prd g R) (h0:0 < R) (hs:s ∣ R) (h:∀ j,j < R→g j=g (j % s)):Prd g s:=by
 have key:∀ j,g j=g (j % s):=fun j=>by
  rw [← zrs hR j,h _ (Nat.mod_lt _ h0),Nat.mod_mod_of_dvd _ hs]
 intro j
 rw [key (j + s),Nat.add_mod_right,← key j]
theorem ztz {g:Nat→Int} {R s:Nat} (hR:Prd g R) (h0:0 < R) (h:∀ j,j < R→g j=g (j + s)):Prd g s:=by
 intro j
 have e1:=h _ (Nat.mod_lt j h0)
 rw [zrs hR j] at e1
 have e2:=zh9 hR (j / R) (j % R + s)
 rw [show j % R + s + R * (j / R)=j + s by have:=Nat.mod_add_div j R; omega] at e2
 rw [e2,← e1]
theorem zoe {p:Nat→Prop}:∀ n,p n→∃ m,p m∧m≤n∧∀ k,k < m→¬ p k:=by
 intro n
 induction n using Nat.strongRecOn with
 | _ n ih=>
  intro hn
  by_cases h:∃ k,k < n∧p k
  ·obtain ⟨k,h1,h2⟩:=h
   obtain ⟨m,a,b,c⟩:=ih k h1 h2
   exact ⟨m,a,by omega,c⟩
  ·exact ⟨n,hn,vae _,fun k hk hp=>h ⟨k,hk,hp⟩⟩
structure Least (g:Nat→Int) (R q:Nat):Prop where
 q0:1≤q
 q1:q≤R
 pr:Prd g q
 no:∀ s,1≤s→s < q→¬ Prd g s
 dv:q ∣ R
theorem zqn {g:Nat→Int} {R:Nat} (hR:Prd g R) (h0:1≤R):∃ q,Least g R q:=by
 obtain ⟨q,⟨h1,h2⟩,h3,h4⟩:=zoe (p:=fun s=>1≤s∧Prd g s) R ⟨h0,hR⟩
 refine ⟨q,h1,h3,h2,fun s a b c=>h4 s b ⟨a,c⟩,?_⟩
 apply Nat.dvd_of_mod_eq_zero
 by_cases hz:R % q=0
 ·exact hz
 ·refine absurd ⟨by omega,fun j=>?_⟩ (h4 (R % q) (Nat.mod_lt _ (by omega)))
  have e:=zh9 h2 (R / q) (j + R % q)
  rw [show j + R % q + q * (R / q)=j + R by have:=Nat.mod_add_div R q; omega,hR] at e
  exact e.symm
theorem zjg (g:Nat→Int) {s:Nat} (h:Prd g s):∀ k,(List.replicate k (seg g 0 s)).flatten=seg g 0 (k * s)
 | 0=>by rw [Nat.zero_mul]; rfl
 | k + 1=>by
  rw [List.replicate_succ,List.flatten_cons,zjg g h k,show (k + 1) * s=s + k * s by rw [Nat.add_mul]; omega,zb2]
  congr 1
  exact zbr fun j _=>by rw [Nat.zero_add,Nat.zero_add,show s + j=j + s by omega,h]
theorem zrt {g:Nat→Int} {R s:Nat} (hR:Prd g R) (h0:1≤R) (hs:s ∣ R) (s0:1≤s):(List.replicate (R / s) (seg g 0 s)).flatten=seg g 0 R↔Prd g s:=by
 have hm:R / s * s=R:=Nat.div_mul_cancel hs
 have e1:seg g 0 s=seg (fun j=>g (j % s)) 0 s:=zbr fun j hj=>by rw [Nat.zero_add,Nat.mod_eq_of_lt hj]
 have p:Prd (fun j=>g (j % s)) s:=fun j=>by show g ((j + s) % s)=g (j % s); rw [Nat.add_mod_right]
 constructor
 ·intro h
  rw [e1,zjg _ p,hm] at h
  exact pr_of hR (by omega) hs fun j hj=>by
   have:=zod h j hj
   rw [Nat.zero_add] at this; exact this.symm
 ·intro h
  rw [zjg _ h,hm]
noncomputable def leadP (f:Nat→Int) (q:Nat):Nat→Nat
 | 0=>0
 | n + 1=>if f n=f (n + q) then leadP f q n else n + 1
theorem zgy (f:Nat→Int) (q:Nat):∀ n,leadP f q n≤n
 | 0=>vae _
 | n + 1=>by
  unfold leadP
  split
  ·have:=zgy f q n; omega
  ·exact vae _
theorem zia (f:Nat→Int) (q:Nat):∀ n j,leadP f q n≤j→j < n→f j=f (j + q)
 | 0,j,_,h=>by omega
 | n + 1,j,h1,h2=>by
  unfold leadP at h1
  split at h1
  ·rename_i e
   by_cases z:j=n
   ·rw [z]; exact e
   ·exact zia f q n j h1 (by omega)
  ·omega
theorem ze0 (f:Nat→Int) (q:Nat) {i:Nat}:∀ n,i≤n→(∀ j,i≤j→j < n→f j=f (j + q))→leadP f q n=leadP f q i
 | 0,h,_=>by rw [show i=0 by omega]
 | n + 1,h,e=>by
  by_cases z:i=n + 1
  ·rw [z]
  ·rw [leadP,if_pos (e n (by omega) (by omega)),ze0 f q n (by omega) fun j a b=>e j a (by omega)]
noncomputable def zac (v:List Int) (i R n:Nat):Int:=if n < i then v.getD n 0 else v.getD (i + (n - i) % R) 0
theorem zde (v:List Int) (i R:Nat):Prd (fun j=>zac v i R (i + j)) R:=fun j=>by
 show zac v i R (i + (j + R))=zac v i R (i + j)
 unfold zac
 rw [if_neg (by omega),if_neg (by omega),show i + (j + R) - i=j + R by omega,show i + j - i=j by omega,Nat.add_mod_right]
theorem zdr {v:List Int} {i R:Nat} (h:v.length=i + R):seg (zac v i R) 0 (i + R)=v:=by
 apply List.ext_getElem?
 intro j
 by_cases hj:j < i + R
 ·rw [zjf _ _ _ _ hj,Nat.zero_add,List.getElem?_eq_getElem (by omega)]
  unfold zac
  split
  ·rw [List.getD_eq_getElem?_getD,List.getElem?_eq_getElem (by omega)]; rfl
  ·rw [Nat.mod_eq_of_lt (by omega),show i + (j - i)=j by omega,List.getD_eq_getElem?_getD,List.getElem?_eq_getElem (by omega)]; rfl
 ·rw [List.getElem?_eq_none (by rw [zba]; omega),List.getElem?_eq_none (by omega)]
theorem zco {v:List Int} {i R:Nat} (h:v.length=i + R) (k:Nat):seg (zac v i R) (i + R * k) R=v.drop i:=by
 rw [show v.drop i=(seg (zac v i R) 0 (i + R)).drop i by rw [zdr h],zgx _ (by omega),Nat.zero_add,show i + R - i=R by omega]
 exact zbr fun j _=>by
  have:=zh9 (zde v i R) k j
  rw [show i + R * k + j=i + (j + R * k) by omega]; exact this
theorem zjh {v:List Int} {i R:Nat} (h:v.length=i + R):seg (zac v i R) 0 (i + R + R + R + R)=v++v.drop i++v.drop i++v.drop i:=by
 have e1:=zco h 1
 have e2:=zco h 2
 have e3:=zco h 3
 rw [zb2,zb2,zb2,zdr h]
 simp only [Nat.zero_add]
 rw [show i + R=i + R * 1 by omega,e1,show i + R * 1 + R=i + R * 2 by omega,e2,show i + R * 2 + R=i + R * 3 by omega,e3]
theorem zkp {v:List Int} {i R q:Nat} (h0:1≤R):leadP (zac v i R) q (i + R + q)≤i↔Prd (fun j=>zac v i R (i + j)) q:=by
 constructor
 ·intro h
  exact ztz (zde v i R) (by omega) fun j hj=>by
   have:=zia (zac v i R) q (i + R + q) (i + j) (by omega) (by omega)
   rw [show i + (j + q)=i + j + q by omega]; exact this
 ·intro h
  rw [ze0 _ q (i:=i) (i + R + q) (by omega) fun j a b=>by
   have:=h (j - i)
   simp only at this
   rw [show i + (j - i + q)=j + q by omega,show i + (j - i)=j by omega] at this
   exact this.symm]
  exact zgy _ q i
theorem zqo {v:List Int} {i R q:Nat} (h:Prd (fun j=>zac v i R (i + j)) q):leadP (zac v i R) q (i + R + q)=leadP (zac v i R) q i:=
 ze0 _ q (i:=i) (i + R + q) (by omega) fun j a b=>by
  have:=h (j - i)
  simp only at this
  rw [show i + (j - i + q)=j + q by omega,show i + (j - i)=j by omega] at this
  exact this.symm
noncomputable def nmS (B:Bd) (s:Stn):W:=match s.2 with
 | none=>.non
 | some f=>nameP B s.1 f
noncomputable def nmL (B:Bd) (xs:List Stn):List W:=xs.dropLast.map (nmS B)
theorem ze1 {α:Type}:∀ {xs:List α} {x:α},xs.getLast?=some x→xs.dropLast++[x]=xs
 | [],_,h=>by cases h
 | [y],x,h=>by cases h; rfl
 | y :: z :: xs,x,h=>by
  have:=ze1 (xs:=z :: xs) (x:=x) (by simpa using h)
  rw [List.dropLast_cons₂,List.cons_append,this]
theorem zt0 {B:Bd} {xs:List Stn} {ls:List Int} {f:Nat} (h:xs.getLast?=some (ls,some f)):nmL B xs++[nameP B ls f]=xs.map (nmS B):=by
 have e:xs.dropLast++[(ls,some f)]=xs:=ze1 h
 unfold nmL
 conv=>rhs; rw [← e]
 rw [List.map_append]; rfl
theorem zt1 {B:Bd} {xs:List Stn} {t:Stn}:nmL B (xs++[t])=xs.map (nmS B):=by
 unfold nmL
 rw [List.dropLast_concat]
section
variable {F:Nat→Option Fn} (C:CoreX F)
include C
theorem zib {k:Nat} {h:VH} {B:Bd} {s0:W} (b:B.Ok):∀ (n fu:Nat) (xs:List Stn) (s:Stn) (x y:Option W),n < fu→1281≤n + xs.length→xs.Nodup→(∀ s∈xs,GoodS B s)→xs.getLast?=some s →
 ∃ x' y',(whlG (ev (run F (k + 2)) zbb) (exs (run F (k + 2)) za0) fu [some B.w,some s0,some (.ref h.n),some (.ref (h.n + 1)),some (.ref (h.n + 2)),x,y] (stE h xs (nmL B xs))=.ok (.nx [some B.w,some s0,some (.ref h.n),some (.ref (h.n + 1)),some (.ref (h.n + 2)),x',y']) (stE h (everP B n xs (nextS B s)).1 (nmL B (everP B n xs (nextS B s)).1))∧(everP B n xs (nextS B s)).2=none) ∨
  ∃ i,(everP B n xs (nextS B s)).2=some i∧whlG (ev (run F (k + 2)) zbb) (exs (run F (k + 2)) za0) fu [some B.w,some s0,some (.ref h.n),some (.ref (h.n + 1)),some (.ref (h.n + 2)),x,y] (stE h xs (nmL B xs))=.ok (.rt (.ref (h.n + 3))) ((stE h (everP B n xs (nextS B s)).1 ((everP B n xs (nextS B s)).1.map (nmS B))).new (.lst [.ref h.n,.ref (h.n + 2),.int (i:Int)]))
 | n,0,xs,s,x,y,hn,_,_,_,_=>by omega
 | 0,fu + 1,xs,s,x,y,_,hN,nd,g,_=>by have:=few b nd g; omega
 | n + 1,fu + 1,xs,s,x,y,hn,hN,nd,g,hs=>by
  obtain ⟨ls,fo⟩:=s
  have hmem:(ls,fo)∈xs:=List.mem_of_getLast? hs
  obtain ⟨hl,bi,hf⟩:=g _ hmem
  have hfew:=few b nd g
  have e0:ev (run F (k + 2)) (.idx (.idx (.var 2) (.neg (.cst (.int (1))))) (.cst (.int (1)))) [some B.w,some s0,some (.ref h.n),some (.ref (h.n + 1)),some (.ref (h.n + 2)),x,y] (stE h xs (nmL B xs))=.ok (optW fo) (stE h xs (nmL B xs)):=idxE (zoc hs rfl) rfl rfl
  have ec:ev (run F (k + 2)) zbb [some B.w,some s0,some (.ref h.n),some (.ref (h.n + 1)),some (.ref (h.n + 2)),x,y] (stE h xs (nmL B xs))=.ok (.bl (!isNon (optW fo))) (stE h xs (nmL B xs)):=by
   unfold zbb
   rw [ev,e0,bindok]
   simp [ev,cmpW,za9]
  cases fo with
  | none=>
   refine ⟨x,y,.inl ⟨?_,rfl⟩⟩
   rw [whlG,ec,bindok]; rfl
  | some f=>
   have hf:=hf f rfl
   have gt:GoodS B ((B.fall ls f).ls,callO B ls f):=zbe b (s:=(ls,some f)) ⟨hl,bi,fun _ e=>by cases e; exact hf⟩ rfl
   have e1:=zqk C (k:=k) (h:=stE h xs (nmL B xs)) b hf hl bi
   generalize ht:((B.fall ls f).ls,callO B ls f)=t at e1 gt
   have hnx:nextS B (ls,some f)=some t:=by rw [← ht]; rfl
   have e2:exs (run F (k + 2)) (.unp [5,6] (.call 117 (.cons (.var 0) (.cons (.idx (.var 2) (.neg (.cst (.int (1))))) .nil)))) [some B.w,some s0,some (.ref h.n),some (.ref (h.n + 1)),some (.ref (h.n + 2)),x,y] (stE h xs (nmL B xs))=.ok (.nx [some B.w,some s0,some (.ref h.n),some (.ref (h.n + 1)),some (.ref (h.n + 2)),some (nameP B ls f),some (stW t)]) (stE h xs (nmL B xs)):=by
    rw [exs,zav (varE rfl) (zoc hs rfl) e1,bindok]
    simp only [tgW,seqW,zaw,vau,vas,van,ofsome]
   have e3:=zbp (cl:=run F (k + 2)) (i:=4) (l:=h.n + 2) (x:=.var 5) (ρ:=[some B.w,some s0,some (.ref h.n),some (.ref (h.n + 1)),some (.ref (h.n + 2)),some (nameP B ls f),some (stW t)]) (h:=stE h xs (nmL B xs)) (h1:=stE h xs (nmL B xs)) (w:=nameP B ls f) (acc:=nmL B xs) (acc0:=nmL B xs) rfl stE_n rfl stE_n (by unfold nmL; rw [vab,List.length_dropLast]; omega)
   rw [zql,zt0 hs] at e3
   have hin:=in_st (s:=t) (stE_d (h:=h) (xs:=xs) (ns:=xs.map (nmS B)))
   have e4:ev (run F (k + 2)) (.cmp .inn (.var 6) (.var 3)) [some B.w,some s0,some (.ref h.n),some (.ref (h.n + 1)),some (.ref (h.n + 2)),some (nameP B ls f),some (stW t)] (stE h xs (xs.map (nmS B)))=.ok (.bl (posS t 0 xs).isSome) (stE h xs (xs.map (nmS B))):=by
    simp [ev,cmpW,hin]
   rw [hnx]
   cases hp:posS t 0 xs with
   | some i=>
    have hev:everP B (n + 1) xs (some t)=(xs,some i):=by simp only [everP,hp]
    rw [hev]
    refine ⟨x,y,.inr ⟨i,rfl,?_⟩⟩
    rw [hp] at e4
    have eb:exs (run F (k + 2)) za0 [some B.w,some s0,some (.ref h.n),some (.ref (h.n + 1)),some (.ref (h.n + 2)),x,y] (stE h xs (nmL B xs))=.ok (.rt (.ref (h.n + 3))) ((stE h xs (xs.map (nmS B))).new (.lst [.ref h.n,.ref (h.n + 2),.int (i:Int)])):=by
     unfold za0
     refine (zaa e2).trans ?_
     refine (zaa (exprE e3)).trans ?_
     refine zab ?_
     rw [iteT e4]
     refine zab (retE ?_)
     have e5:ev (run F (k + 2)) (.idx (.var 3) (.var 6)) [some B.w,some s0,some (.ref h.n),some (.ref (h.n + 1)),some (.ref (h.n + 2)),some (nameP B ls f),some (stW t)] (stE h xs (xs.map (nmS B)))=.ok (.int (i:Int)) (stE h xs (xs.map (nmS B))):=idxE (varE rfl) (varE rfl) (zoa stE_d hp)
     rw [ev,ev,varE (x:=.ref h.n) rfl,bindok,ev,varE (x:=.ref (h.n + 2)) rfl,bindok,ev,e5,bindok,ev]
     rfl
    rw [whlG,ec]
    show Res.bind (exs (run F (k + 2)) za0 _ _) _=_
    rw [eb]; rfl
   | none=>
    rw [hp] at e4
    have hev:everP B (n + 1) xs (some t)=everP B n (xs++[t]) (nextS B t):=by simp only [everP,hp]
    rw [hev]
    have eb:exs (run F (k + 2)) za0 [some B.w,some s0,some (.ref h.n),some (.ref (h.n + 1)),some (.ref (h.n + 2)),x,y] (stE h xs (nmL B xs))=.ok (.nx [some B.w,some s0,some (.ref h.n),some (.ref (h.n + 1)),some (.ref (h.n + 2)),some (nameP B ls f),some (stW t)]) (stE h (xs++[t]) (xs.map (nmS B))):=by
     unfold za0
     refine (zaa e2).trans ?_
     refine (zaa (exprE e3)).trans ?_
     refine (zaa (ρ':=[some B.w,some s0,some (.ref h.n),some (.ref (h.n + 1)),some (.ref (h.n + 2)),some (nameP B ls f),some (stW t)]) (h':=stE h xs (xs.map (nmS B))) ?_).trans ?_
     ·rw [iteF e4]; rfl
     have e6:=putE (cl:=run F (k + 2)) (o:=.var 3) (i:=.var 6) (v:=.bi .len (.cons (.var 2) .nil)) (ρ:=[some B.w,some s0,some (.ref h.n),some (.ref (h.n + 1)),some (.ref (h.n + 2)),some (nameP B ls f),some (stW t)]) (h:=stE h xs (xs.map (nmS B))) (a:=h.n + 1) (w:=.int xs.length) (xs:=xs) (s:=t)
      (by
        have:=lenE (cl:=run F (k + 2)) (a:=.var 2) (ρ:=[some B.w,some s0,some (.ref h.n),some (.ref (h.n + 1)),some (.ref (h.n + 2)),some (nameP B ls f),some (stW t)]) (h:=stE h xs (xs.map (nmS B))) (x:=.ref h.n) (ws:=xs.map stW) (varE rfl) (by simp only [seqW,stE_s])
        rw [vab] at this
        exact this) (varE rfl) (varE rfl) stE_d hp (by omega)
     refine (zaa e6).trans ?_
     have e7:=zbp (cl:=run F (k + 2)) (i:=2) (l:=h.n) (x:=.var 6) (ρ:=[some B.w,some s0,some (.ref h.n),some (.ref (h.n + 1)),some (.ref (h.n + 2)),some (nameP B ls f),some (stW t)]) (h:=(stE h xs (xs.map (nmS B))).set (h.n + 1) (.dt (xs.map stW++[stW t]) (zal 0 xs.length++[.int xs.length]))) (h1:=(stE h xs (xs.map (nmS B))).set (h.n + 1) (.dt (xs.map stW++[stW t]) (zal 0 xs.length++[.int xs.length]))) (w:=stW t) (acc:=xs.map stW) (acc0:=xs.map stW) rfl zkn rfl zkn (by rw [vab]; omega)
     rw [ztx] at e7
     exact (zaa (exprE e7)).trans rfl
    obtain ⟨x',y',ih⟩:=zib (k:=k) (h:=h) (s0:=s0) b n fu (xs++[t]) t (some (nameP B ls f)) (some (stW t)) (by omega) (by rw [vag,List.length_singleton]; omega)
     (by
       rw [List.nodup_append]
       exact ⟨nd,by simp,fun a ha b hb=>by rw [List.mem_singleton.mp hb]; exact fun z=>zb8 hp (z ▸ ha)⟩)
     (fun u hu=>by
       rcases List.mem_append.mp hu with hu | hu
       ·exact g u hu
       ·rw [List.mem_singleton.mp hu]; exact gt) (by simp)
    rw [zt1] at ih
    have hw:whlG (ev (run F (k + 2)) zbb) (exs (run F (k + 2)) za0) (fu + 1) [some B.w,some s0,some (.ref h.n),some (.ref (h.n + 1)),some (.ref (h.n + 2)),x,y] (stE h xs (nmL B xs))=whlG (ev (run F (k + 2)) zbb) (exs (run F (k + 2)) za0) fu [some B.w,some s0,some (.ref h.n),some (.ref (h.n + 1)),some (.ref (h.n + 2)),some (nameP B ls f),some (stW t)] (stE h (xs++[t]) (xs.map (nmS B))):=by
     rw [whlG,ec]
     show Res.bind (exs (run F (k + 2)) za0 _ _) _=_
     rw [eb]; rfl
    rw [hw]
    exact ⟨x',y',ih⟩
theorem zic {k:Nat} {h:VH} {B:Bd} {s:Stn} (b:B.Ok) (g:GoodS B s) :
 ∃ i a c h',run F (k + 3) 112 [B.w,stW s] h=.ok (.ref i) h'∧h'.get i=some (.lst [.ref a,.ref c,backW (everP B 1280 [s] (nextS B s)).2])∧h'.get a=some (.lst ((everP B 1280 [s] (nextS B s)).1.map stW)) ∧
  h'.get c=some (.lst (if (everP B 1280 [s] (nextS B s)).2=none then nmL B (everP B 1280 [s] (nextS B s)).1 else (everP B 1280 [s] (nextS B s)).1.map (nmS B)))∧h.n≤a∧h.n≤c∧Gx h h':=by
 rw [zag C.f112 rfl]
 obtain ⟨x',y',hl⟩:=zib C (k:=k) (h:=h) (s0:=stW s) b 1280 fuel [s] s none none (by decide) (show 1281≤1280 + 1 by decide) (by simp) (fun t ht=>by rw [List.mem_singleton.mp ht]; exact g) rfl
 generalize everP B 1280 [s] (nextS B s)=E at hl ⊢
 have e1:exs (run F (k + 2)) (.set 3 (.dsp (.cons (.var 1) (.cons (.cst (.int (0))) .nil)))) [some B.w,some (stW s),some (.ref h.n),none,none,none,none] (VH.new ⟨h.n,h.n,h.os⟩ (.lst [stW s]))=.ok (.nx [some B.w,some (stW s),some (.ref h.n),some (.ref (h.n + 1)),none,none,none]) ((VH.new ⟨h.n,h.n,h.os⟩ (.lst [stW s])).new (.dt [stW s] [.int 0])):=by
  have hk:zb0 [stW s,.int 0]=none:=rfl
  have hd:dspD [stW s,.int 0] (VH.new ⟨h.n,h.n,h.os⟩ (.lst [stW s]))=.ok (.ref (h.n + 1)) ((VH.new ⟨h.n,h.n,h.os⟩ (.lst [stW s])).new (.dt [stW s] [.int 0])):=by
   simp only [dspD,zew]; rfl
  have ha:ev (run F (k + 2)) (.cons (.var 1) (.cons (.cst (.int (0))) .nil)) [some B.w,some (stW s),some (.ref h.n),none,none,none,none] (VH.new ⟨h.n,h.n,h.os⟩ (.lst [stW s]))=.ok (.tup [stW s,.int 0]) (VH.new ⟨h.n,h.n,h.os⟩ (.lst [stW s])):=rfl
  have hz:ev (run F (k + 2)) (.dsp (.cons (.var 1) (.cons (.cst (.int (0))) .nil))) [some B.w,some (stW s),some (.ref h.n),none,none,none,none] (VH.new ⟨h.n,h.n,h.os⟩ (.lst [stW s]))=dspD [stW s,.int 0] (VH.new ⟨h.n,h.n,h.os⟩ (.lst [stW s])):=by
   rw [ev,ha,bindok]
   simp only [hk]
  exact setE (hz.trans hd)
 have key:exs (run F (k + 2)) fn112.body [some B.w,some (stW s),none,none,none,none,none] ⟨h.n,h.n,h.os⟩=.ok (.rt (.ref (h.n + 3))) ((stE h E.1 (if E.2=none then nmL B E.1 else E.1.map (nmS B))).new (.lst [.ref h.n,.ref (h.n + 2),backW E.2])):=by
  refine (zaa (ρ':=[some B.w,some (stW s),some (.ref h.n),none,none,none,none]) (h':=VH.new ⟨h.n,h.n,h.os⟩ (.lst [stW s])) ?_).trans ?_
  ·exact setE (by rw [ev,ev,varE (x:=stW s) rfl,bindok,ev,bindok]; rfl)
  refine (zaa e1).trans ?_
  refine (zaa (ρ':=[some B.w,some (stW s),some (.ref h.n),some (.ref (h.n + 1)),some (.ref (h.n + 2)),none,none]) (h':=stE h [s] (nmL B [s])) ?_).trans ?_
  ·rfl
  rcases hl with ⟨hl,he⟩ | ⟨i,he,hl⟩
  ·refine (zaa (show exs (run F (k + 2)) (.whl zbb za0) _ _=_ from hl)).trans ?_
   rw [he,if_pos rfl]
   exact zab (retE (by
    rw [ev,ev,varE (x:=.ref h.n) rfl,bindok,ev,varE (x:=.ref (h.n + 2)) rfl,bindok,ev,ev,bindok,ev]
    rfl))
  ·rw [he,if_neg (by simp)]
   exact zab (show exs (run F (k + 2)) (.whl zbb za0) _ _=_ from hl)
 generalize (if E.2=none then nmL B E.1 else E.1.map (nmS B))=ns' at key ⊢
 show ∃ i a c h',fin h (exs (run F (k + 2)) fn112.body [some B.w,some (stW s),none,none,none,none,none] ⟨h.n,h.n,h.os⟩)=.ok (.ref i) h'∧_
 rw [key]
 have hlt:W.lt h.n (.ref (h.n + 3))=false:=by show Nat.blt (h.n + 3) h.n=false; exact zcd (by omega)
 have hlv:leave h (.ref (h.n + 3)) ((stE h E.1 ns').new (.lst [.ref h.n,.ref (h.n + 2),backW E.2]))=.ok (.ref (h.n + 3)) ⟨h.n + 4,if Nat.ble h.lo h.n then h.lo else h.n,((stE h E.1 ns').new (.lst [.ref h.n,.ref (h.n + 2),backW E.2])).os⟩:=by
  unfold leave
  rw [hlt,Bool.and_false]
  rfl
 refine ⟨h.n + 3,h.n,h.n + 2,_,hlv,?_,?_,?_,vae _,Nat.le_add_right _ _,⟨Nat.le_add_right _ _,fun e=>?_,fun i o e=>?_⟩⟩
 ·exact (get_lo (h:=(stE h E.1 ns').new (.lst [.ref h.n,.ref (h.n + 2),backW E.2]))).trans zao
 ·exact (get_lo (h:=(stE h E.1 ns').new (.lst [.ref h.n,.ref (h.n + 2),backW E.2]))).trans ((zad (show h.n < h.n + 3 by omega)).trans stE_s)
 ·exact (get_lo (h:=(stE h E.1 ns').new (.lst [.ref h.n,.ref (h.n + 2),backW E.2]))).trans ((zad (show h.n + 2 < h.n + 3 by omega)).trans stE_n)
 ·show (if Nat.ble h.lo h.n then h.lo else h.n)=h.n
  rw [e]; split <;> rfl
 ·have hi:=zar e
  exact (get_lo (h:=(stE h E.1 ns').new (.lst [.ref h.n,.ref (h.n + 2),backW E.2]))).trans ((zad (show i < h.n + 3 by omega)).trans ((zty hi).trans e))
end
theorem zgz {ws:List W} {k:Nat} (h:k≤ws.length):cutW ws none (some (k:Int))=ws.take k:=by
 unfold cutW
 rw [HT.sIx_none,HT.sIx_nat,List.drop_zero,Nat.min_eq_left h,Nat.sub_zero]
theorem zof {ws:List W} {k:Nat} (h:k≤ws.length):cutW ws (some (k:Int)) none=ws.drop k:=by
 unfold cutW
 rw [HT.sIx_none,HT.sIx_nat,Nat.min_eq_left h]
 exact List.take_of_length_le (by rw [List.length_drop]; omega)
theorem zt2 {ws:List W} {k m:Nat} (h:k + m≤ws.length):cutW ws (some (k:Int)) (some ((k + m:Nat):Int))=(ws.drop k).take m:=by
 unfold cutW
 rw [HT.sIx_nat,HT.sIx_nat,Nat.min_eq_left h,Nat.min_eq_left (show k≤ws.length by omega),show k + m - k=m by omega]
theorem zkq {ws:List W} {w:W}:cutW (ws++[w]) none (some (-1))=ws:=by
 unfold cutW HT.sIx
 have:((-1:Int) + ((ws++[w]).length:Int)).toNat=ws.length:=by rw [vag,List.length_singleton]; omega
 simp only [if_pos (show (-1:Int) < 0 by decide),this,List.drop_zero,Nat.sub_zero]
 exact List.take_left' rfl
theorem zqp {ws:List W} {w:W}:cutW (ws++[w]) (some (-1)) none=[w]:=by
 unfold cutW HT.sIx
 have:((-1:Int) + ((ws++[w]).length:Int)).toNat=ws.length:=by rw [vag,List.length_singleton]; omega
 simp only [if_pos (show (-1:Int) < 0 by decide),this]
 rw [List.drop_left' rfl]
 exact List.take_of_length_le (by rw [vag,List.length_singleton]; simp)
theorem zog {ws:List W} {w:W}:atI (ws++[w]) (-1)=some w:=by
 unfold atI ixN
 rw [if_neg (by decide),if_pos (by rw [vag,List.length_singleton]; omega)]
 show (ws++[w])[(((ws++[w]).length:Int) + -1).toNat]?=_
 rw [show (((ws++[w]).length:Int) + -1).toNat=ws.length by rw [vag,List.length_singleton]; omega]
 simp
theorem zds {xs:List Int} {x:Int}:iW (xs++[x])=.tup (xs.map .int++[.int x]):=by unfold iW; rw [List.map_append]; rfl
theorem zlf {m:Nat} (h:m≤5000):fits (m:Int)=true:=by
 unfold fits
 rw [vac,decide_eq_true_eq,decide_eq_true_eq]
 omega
theorem orF {cl:Call} {a b:E} {ρ:En} {h h1:VH} (ea:ev cl a ρ h=.ok (.bl false) h1):ev cl (.or a b) ρ h=ev cl b ρ h1:=by rw [ev,ea,bindok]
theorem orT {cl:Call} {a b:E} {ρ:En} {h h1:VH} (ea:ev cl a ρ h=.ok (.bl true) h1):ev cl (.or a b) ρ h=.ok (.bl true) h1:=by rw [ev,ea,bindok]
structure CoreF (F:Nat→Option Fn):Prop where
 f194:F 194=some fn194
 f197:F 197=some fn197
section
variable {F:Nat→Option Fn} (C:CoreF F)
include C
omit C in
theorem zfz {cl:Call} {f:Nat→Int} {q:Nat} {h:VH} (hq5:q≤5000):∀ (a fu:Nat),a < fu→whlG (ev cl zbt) (exs cl zb6) fu [some (iW (seg f 0 a)),some (iW (seg f a (q + 1)))] h=.ok (.nx [some (iW (seg f 0 (leadP f (q + 1) a))),some (iW (seg f (leadP f (q + 1) a) (q + 1)))]) h
 | a,0,hf=>by omega
 | 0,fu + 1,_=>by
  have ec:ev cl zbt [some (iW (seg f 0 0)),some (iW (seg f 0 (q + 1)))] h=.ok (.bl false) h:=by
   simp [zbt,ev,truW,seg,iW]
  rw [whlG,ec,bindok]; rfl
 | a + 1,fu + 1,hf=>by
  have s1:seg f 0 (a + 1)=seg f 0 a++[f a]:=by rw [zko,Nat.zero_add]
  have s2:seg f (a + 1) (q + 1)=seg f (a + 1) q++[f (a + (q + 1))]:=by rw [zko,show a + 1 + q=a + (q + 1) by omega]
  have e1:ev cl (.tru (.var 0)) [some (iW (seg f 0 (a + 1))),some (iW (seg f (a + 1) (q + 1)))] h=.ok (.bl true) h:=by
   rw [ev,varE (x:=iW (seg f 0 (a + 1))) rfl,bindok,s1,zds]
   simp [truW]
  have e2:ev cl (.cmp .eq (.idx (.var 0) (.neg (.cst (.int (1))))) (.idx (.var 1) (.neg (.cst (.int (1)))))) [some (iW (seg f 0 (a + 1))),some (iW (seg f (a + 1) (q + 1)))] h=.ok (.bl (decide (f a=f (a + (q + 1))))) h:=by
   have i1:ev cl (.idx (.var 0) (.neg (.cst (.int (1))))) [some (iW (seg f 0 (a + 1))),some (iW (seg f (a + 1) (q + 1)))] h=.ok (.int (f a)) h:=idxE (varE rfl) rfl (by rw [s1,zds]; exact zog)
   have i2:ev cl (.idx (.var 1) (.neg (.cst (.int (1))))) [some (iW (seg f 0 (a + 1))),some (iW (seg f (a + 1) (q + 1)))] h=.ok (.int (f (a + (q + 1)))) h:=idxE (varE rfl) rfl (by rw [s2,zds]; exact zog)
   rw [ev,i1,bindok,i2,bindok]
   simp only [cmpW,zaq,van,ofsome]
  have ec:ev cl zbt [some (iW (seg f 0 (a + 1))),some (iW (seg f (a + 1) (q + 1)))] h=.ok (.bl (decide (f a=f (a + (q + 1))))) h:=by
   unfold zbt
   rw [ev,e1,bindok]
   exact e2
  by_cases z:f a=f (a + (q + 1))
  ·rw [decide_eq_true z] at ec
   have eb:exs cl zb6 [some (iW (seg f 0 (a + 1))),some (iW (seg f (a + 1) (q + 1)))] h=.ok (.nx [some (iW (seg f 0 a)),some (iW (seg f a (q + 1)))]) h:=by
    unfold zb6
    have v0:ev cl (.slc (.var 0) false (.cst .non) true (.neg (.cst (.int (1))))) [some (iW (seg f 0 (a + 1))),some (iW (seg f (a + 1) (q + 1)))] h=.ok (iW (seg f 0 a)) h:=slcE (varE rfl) rfl rfl rfl rfl (by rw [s1,zds,slcW_tup,zkq]; rfl)
    refine (zaa (setE v0)).trans ?_
    have v1:ev cl (.slc (.var 1) true (.neg (.cst (.int (1)))) false (.cst .non)) [some (iW (seg f 0 a)),some (iW (seg f (a + 1) (q + 1)))] h=.ok (.tup [.int (f (a + (q + 1)))]) h:=slcE (varE rfl) rfl rfl rfl rfl (by rw [s2,zds,slcW_tup,zqp])
    have v2:ev cl (.slc (.var 1) false (.cst .non) true (.neg (.cst (.int (1))))) [some (iW (seg f 0 a)),some (iW (seg f (a + 1) (q + 1)))] h=.ok (iW (seg f (a + 1) q)) h:=slcE (varE rfl) rfl rfl rfl rfl (by rw [s2,zds,slcW_tup,zkq]; rfl)
    have hq:opW .add (.tup [.int (f (a + (q + 1)))]) (iW (seg f (a + 1) q)) h=.ok (iW (seg f a (q + 1))) h:=by
     have:iW (seg f a (q + 1))=.tup ([.int (f (a + (q + 1)))]++(seg f (a + 1) q).map .int):=by rw [← z]; rfl
     rw [this]
     exact zxl (by rw [vab,zba,List.length_singleton]; omega)
    exact (zaa (setE (opE v1 v2 hq))).trans rfl
   rw [whlG,ec,bindok]
   show Res.bind (exs cl zb6 _ _) _=_
   rw [eb,bindok]
   show whlG _ _ fu _ _=_
   rw [zfz hq5 a fu (by omega),leadP,if_pos z]
  ·rw [decide_eq_false z] at ec
   rw [whlG,ec,bindok,leadP,if_neg z]
theorem zqq {k:Nat} {h:VH} {f:Nat→Int} {q a:Nat} (q0:1≤q) (hq:q≤5000) (ha:a≤5000):run F (k + 1) 194 [iW (seg f 0 a),iW (seg f a q)] h=.ok (.tup [iW (seg f 0 (leadP f q a)),iW (seg f (leadP f q a) q)]) h:=by
 obtain ⟨q,rfl⟩:∃ p,q=p + 1:=⟨q - 1,by omega⟩
 rw [zag C.f194 rfl]
 have e1:=zfz (cl:=run F k) (f:=f) (q:=q) (h:=⟨h.n,h.n,h.os⟩) (by omega) a fuel (by have:fuel=1000000:=rfl; omega)
 have eb:exs (run F k) fn194.body [some (iW (seg f 0 a)),some (iW (seg f a (q + 1)))] ⟨h.n,h.n,h.os⟩=.ok (.rt (.tup [iW (seg f 0 (leadP f (q + 1) a)),iW (seg f (leadP f (q + 1) a) (q + 1))])) ⟨h.n,h.n,h.os⟩:=by
  refine (zaa (show exs (run F k) (.whl zbt zb6) _ _=_ from e1)).trans ?_
  exact zab (retE (tup2E (varE rfl) (varE rfl)))
 show fin h (exs (run F k) fn194.body [some (iW (seg f 0 a)),some (iW (seg f a (q + 1)))] ⟨h.n,h.n,h.os⟩)=_
 rw [eb]
 exact zai (vae _) (by simp [iW_lt])
omit C in
theorem zid {cl:Call} {g:Nat→Int} {R s:Nat} {h:VH} (hR:Prd g R) (R0:1≤R) (R1:R≤5000) (s0:1≤s) (s1:s≤R):ev cl zc8 [some (iW (seg g 0 R)),some (.int (s:Int))] h=.ok (.bl (!decide (s ∣ R∧(List.replicate (R / s) (seg g 0 s)).flatten=seg g 0 R))) h:=by
 have el:ev cl (.bi .len (.cons (.var 0) .nil)) [some (iW (seg g 0 R)),some (.int (s:Int))] h=.ok (.int (R:Int)) h:=by
  have:=lenE (cl:=cl) (a:=.var 0) (ρ:=[some (iW (seg g 0 R)),some (.int (s:Int))]) (h:=h) (x:=iW (seg g 0 R)) (ws:=(seg g 0 R).map .int) (varE rfl) rfl
  rw [vab,zba] at this
  exact this
 have hm:opW .mod (.int (R:Int)) (.int (s:Int)) h=.ok (.int ((R % s:Nat):Int)) h:=by
  have:opI .mod (R:Int) (s:Int)=some ((R % s:Nat):Int):=by
   simp only [opI]
   rw [if_pos (by simp; omega)]; rfl
  simp only [opW,this,van,ofsome]
 have hd:opW .fdiv (.int (R:Int)) (.int (s:Int)) h=.ok (.int ((R / s:Nat):Int)) h:=by
  have:opI .fdiv (R:Int) (s:Int)=some ((R / s:Nat):Int):=by
   simp only [opI]
   rw [if_pos (by simp; omega)]; rfl
  simp only [opW,this,van,ofsome]
 have e1:ev cl (.cmp .ne (.op .mod (.bi .len (.cons (.var 0) .nil)) (.var 1)) (.cst (.int (0)))) [some (iW (seg g 0 R)),some (.int (s:Int))] h=.ok (.bl (!decide (R % s=0))) h:=by
  rw [ev,opE el (varE rfl) hm,bindok,ev,bindok]
  have hdd:decide (((R % s:Nat):Int)=0)=decide (R % s=0):=decide_eq_decide.mpr (by omega)
  simp only [cmpW,zaq,van,ofsome,hdd]
 unfold zc8
 by_cases z:R % s=0
 ·rw [decide_eq_true z] at e1
  rw [orF e1]
  have hs:s ∣ R:=Nat.dvd_of_mod_eq_zero z
  have hmul:R / s * s=R:=Nat.div_mul_cancel hs
  have e2:ev cl (.slc (.var 0) false (.cst .non) true (.var 1)) [some (iW (seg g 0 R)),some (.int (s:Int))] h=.ok (iW (seg g 0 s)) h:=slcE (varE rfl) rfl (varE rfl) rfl rfl (by
   show slcW (iW (seg g 0 R)) none (some (s:Int)) h=_
   unfold iW
   rw [slcW_tup,zgz (by rw [vab,zba]; exact s1),← List.map_take,zdd _ s1])
  have e3:opW .mul (iW (seg g 0 s)) (.int ((R / s:Nat):Int)) h=.ok (iW (List.replicate (R / s) (seg g 0 s)).flatten) h:=by
   have:repW .mul ((seg g 0 s).map .int) ((R / s:Nat):Int)=some ((List.replicate (R / s) (seg g 0 s)).flatten.map .int):=by
    simp only [repW]
    have hf:fits ((R / s:Nat):Int)=true:=zlf (Nat.le_trans (Nat.div_le_self _ _) R1)
    have hb:Nat.ble (((seg g 0 s).map W.int).length * ((R / s:Nat):Int).toNat) big=true:=zcl (by rw [vab,zba,Int.toNat_natCast,Nat.mul_comm,hmul]; omega)
    rw [hf,hb,Int.toNat_natCast]
    simp [List.map_flatten]
   unfold iW
   simp only [opW,this,van,ofsome]
  rw [ev,opE e2 (opE el (varE rfl) hd) e3,bindok,varE (x:=iW (seg g 0 R)) rfl,bindok]
  have hdd:decide ((List.replicate (R / s) (seg g 0 s)).flatten=seg g 0 R)=decide (s ∣ R∧(List.replicate (R / s) (seg g 0 s)).flatten=seg g 0 R):=decide_eq_decide.mpr ⟨fun a=>⟨hs,a⟩,fun a=>a.2⟩
  simp only [cmpW,zxx,van,ofsome,hdd]
 ·rw [decide_eq_false z] at e1
  rw [orT e1]
  have:¬ (s ∣ R∧(List.replicate (R / s) (seg g 0 s)).flatten=seg g 0 R):=fun a=>z (Nat.mod_eq_zero_of_dvd a.1)
  rw [decide_eq_false this]
  rfl
omit C in
theorem zie {cl:Call} {g:Nat→Int} {R q:Nat} {h:VH} (hR:Prd g R) (R0:1≤R) (R1:R≤5000) (L:Least g R q):∀ (n s fu:Nat),n < fu→s + n=q→1≤s→whlG (ev cl zc8) (exs cl zb7) fu [some (iW (seg g 0 R)),some (.int (s:Int))] h=.ok (.nx [some (iW (seg g 0 R)),some (.int (q:Int))]) h
 | n,s,0,h1,_,_=>by omega
 | 0,s,fu + 1,h1,h2,h3=>by
  have hs:s=q:=by omega
  subst hs
  have ec:=zid (cl:=cl) (h:=h) hR R0 R1 h3 L.q1
  rw [decide_eq_true ⟨L.dv,(zrt hR R0 L.dv h3).mpr L.pr⟩] at ec
  rw [whlG,ec,bindok]; rfl
 | n + 1,s,fu + 1,h1,h2,h3=>by
  have q1:=L.q1
  have ec:=zid (cl:=cl) (h:=h) hR R0 R1 h3 (show s≤R by omega)
  rw [decide_eq_false (fun a=>L.no s h3 (by omega) ((zrt hR R0 a.1 h3).mp a.2))] at ec
  have eb:exs cl zb7 [some (iW (seg g 0 R)),some (.int (s:Int))] h=.ok (.nx [some (iW (seg g 0 R)),some (.int ((s + 1:Nat):Int))]) h:=by
   simp [zb7,exs,ev,ipW]
  rw [whlG,ec,bindok]
  show Res.bind (exs cl zb7 _ _) _=_
  rw [eb,bindok]
  exact zie hR R0 R1 L n (s + 1) fu (by omega) (by omega) (by omega)
theorem zg0 {k:Nat} {h:VH} {g:Nat→Int} {R q:Nat} (hR:Prd g R) (R0:1≤R) (R1:R≤5000) (L:Least g R q):run F (k + 1) 197 [iW (seg g 0 R)] h=.ok (iW (seg g 0 q)) h:=by
 rw [zag C.f197 rfl]
 have q0:=L.q0
 have q1:=L.q1
 have e1:=zie (cl:=run F k) (h:=⟨h.n,h.n,h.os⟩) hR R0 R1 L (q - 1) 1 fuel (by have:fuel=1000000:=rfl; omega) (by omega) (by omega)
 have eb:exs (run F k) fn197.body [some (iW (seg g 0 R)),none] ⟨h.n,h.n,h.os⟩=.ok (.rt (iW (seg g 0 q))) ⟨h.n,h.n,h.os⟩:=by
  refine (zaa (setE rfl)).trans ?_
  refine (zaa (show exs (run F k) (.whl zc8 zb7) _ _=_ from e1)).trans ?_
  exact zab (retE (slcE (varE rfl) rfl (varE rfl) rfl rfl (by
   show slcW (iW (seg g 0 R)) none (some (q:Int)) _=_
   unfold iW
   rw [slcW_tup,zgz (by rw [vab,zba]; exact q1),← List.map_take,zdd _ q1])))
 show fin h (exs (run F k) fn197.body [some (iW (seg g 0 R)),none] ⟨h.n,h.n,h.os⟩)=_
 rw [eb]
 exact zai (vae _) iW_lt
end
structure CoreH (F:Nat→Option Fn):Prop where
 f59:F 59=some fn59
 f204:F 204=some fn204
theorem zt3 {h:VH}:eqW h .non .non=some true:=rfl
section
variable {F:Nat→Option Fn} (C:CoreH F) (A:CoreA F)
include C A
omit C in
theorem zxy {k:Nat} {h:VH} {ws:List W}:run F (k + 1) 6 [.tup ws,.int ws.length,.int ws.length] h=.ok (.bl true) h:=by
 rw [zam A (by unfold Kn; simp)]
 simp [zau]
theorem zji:∀ (n:Nat) {k:Nat} {h:VH} {w:W},nestN n w=true→run F (k + n + 2) 59 [w,w] h=.ok (.bl true) h:=by
 have hint:∀ {k:Nat} {h:VH} {i:Int},run F (k + 2) 59 [.int i,.int i] h=.ok (.bl true) h:=by
  intro k h i
  rw [zag C.f59 rfl]
  simp [fn59,exs,ev,truW,cmpW,zaq,zai]
 have hnon:∀ {k:Nat} {h:VH},run F (k + 2) 59 [.non,.non] h=.ok (.bl true) h:=by
  intro k h
  rw [zag C.f59 rfl]
  simp [fn59,exs,ev,truW,cmpW,zt3,zai]
 intro n
 induction n with
 | zero=>
  intro k h w hw
  cases w <;> simp only [nestN] at hw <;> first | exact hint | exact hnon | cases hw
 | succ n ih=>
  intro k h w hw
  cases w <;> simp only [nestN] at hw <;> first | (exact hint (k:=k + n + 1)) | (exact hnon (k:=k + n + 1)) | (cases hw; done) | skip
  rename_i ws
  rw [vac] at hw
  have hlen:=Nat.le_of_ble_eq_true hw.1
  have hall:=List.all_eq_true.mp hw.2
  rw [show k + (n + 1) + 2=(k + n + 2) + 1 by omega,zag C.f59 rfl]
  have hz:(zipW ws ws).length < 1000000:=by unfold zipW; rw [List.length_zipWith]; omega
  have e1:=zje (cl:=run F (k + n + 2)) (e:=zi9) ws none none ⟨h.n,h.n,h.os⟩ fun w hw h=>zav (varE rfl) (varE rfl) (ih (k:=k) (hall w hw))
  have e2:=zn2 (cl:=run F (k + n + 2)) (a:=.cons (.var 0) (.cons (.var 1) .nil)) (ρ:=[some (.tup ws),some (.tup ws)]) (h:=⟨h.n,h.n,h.os⟩) (h1:=⟨h.n,h.n,h.os⟩) (ow:=2) (ix:=[]) (e:=zi9) (t:=.many [0,1]) rfl hz e1 (by rw [List.length_replicate]; omega)
  have e3:=allE e2 zao
  have el:ev (run F (k + n + 2)) (.bi .len (.cons (.var 1) .nil)) [some (.tup ws),some (.tup ws)] ⟨h.n,h.n,h.os⟩=.ok (.int ws.length) ⟨h.n,h.n,h.os⟩:=lenE (varE rfl) rfl
  have e4:ev (run F (k + n + 2)) (.not (.tru (.call 6 (.cons (.var 0) (.cons (.bi .len (.cons (.var 1) .nil)) (.cons (.bi .len (.cons (.var 1) .nil)) .nil)))))) [some (.tup ws),some (.tup ws)] ⟨h.n,h.n,h.os⟩=.ok (.bl false) ⟨h.n,h.n,h.os⟩:=by
   rw [ev,truE (zfu (varE rfl) el el (zxy A (k:=k + n + 1)))]; rfl
  have e5:ev (run F (k + n + 2)) (.tru (.isi .tuple (.var 1))) [some (.tup ws),some (.tup ws)] ⟨h.n,h.n,h.os⟩=.ok (.bl true) ⟨h.n,h.n,h.os⟩:=by
   simp [ev,truW]
  have eb:exs (run F (k + n + 2)) fn59.body [some (.tup ws),some (.tup ws)] ⟨h.n,h.n,h.os⟩=.ok (.rt (.bl true)) (VH.new ⟨h.n,h.n,h.os⟩ (.lst (List.replicate ws.length (.bl true)))):=by
   refine zab ?_
   rw [iteT e5]
   refine (zaa (ρ':=[some (.tup ws),some (.tup ws)]) (h':=⟨h.n,h.n,h.os⟩) ?_).trans (zab (retE e3))
   rw [iteF e4]; rfl
  show fin h (exs (run F (k + n + 2)) fn59.body [some (.tup ws),some (.tup ws)] ⟨h.n,h.n,h.os⟩)=_
  rw [eb]
  exact zai (vae _) (by simp)
end
theorem zqr (s:Stn) (hl:s.1.length≤5000) (n:Nat):nestN (n + 2) (stW s)=true:=by
 obtain ⟨ls,fo⟩:=s
 have h1:nestN (n + 1) (iW ls)=true:=by
  unfold iW nestN
  rw [vac,List.all_eq_true]
  refine ⟨Nat.ble_eq.mpr (by rw [vab]; exact hl),fun w hw=>?_⟩
  obtain ⟨i,_,rfl⟩:=List.mem_map.mp hw
  cases n <;> rfl
 have h2:nestN (n + 1) (optW fo)=true:=by cases fo <;> rfl
 unfold stW
 show (Nat.ble 2 5000 && [iW ls,optW fo].all (nestN (n + 1)))=true
 simp [h1,h2]
section
variable {F:Nat→Option Fn} (C:CoreH F) (A:CoreA F) (Y:CoreE F) (B':CoreB F)
include C A Y B'
omit B' in
theorem zf0 {k:Nat} {h:VH} {B:Bd} {s0 p st bk:W} (b:B.Ok):∀ (n:Nat) (xs:List Stn) (c:Option Stn) (x:Option W),1281≤n + xs.length→xs.Nodup→(∀ s∈xs,GoodS B s)→(∀ s,c=some s→GoodS B s) →
 ∃ rest c' x',(everP B n xs c).1=xs++rest∧forL (tgW (.one 7)) (exs (run F (k + 5)) zdb) (rest.map stW) [some B.w,some s0,some p,some st,some bk,some (.ref h.n),some (optS c),x] (stD h xs)=.ok (.nx [some B.w,some s0,some p,some st,some bk,some (.ref h.n),some (optS c'),x']) (stD h (everP B n xs c).1) ∧
  ((c'=none∧(everP B n xs c).2=none)∨∃ s i,c'=some s∧(everP B n xs c).2=some i∧posS s 0 (everP B n xs c).1=some i)
 | 0,xs,c,x,hN,nd,g,_=>by have:=few b nd g; omega
 | n + 1,xs,none,x,hN,nd,g,gc=>⟨[],none,x,(List.append_nil _).symm,rfl,.inl ⟨rfl,rfl⟩⟩
 | n + 1,xs,some s,x,hN,nd,g,gc=>by
  cases hp:posS s 0 xs with
  | some i=>
   have hev:everP B (n + 1) xs (some s)=(xs,some i):=by simp only [everP,hp]
   rw [hev]
   exact ⟨[],some s,x,(List.append_nil _).symm,rfl,.inr ⟨s,i,rfl,rfl,hp⟩⟩
  | none=>
   have hev:everP B (n + 1) xs (some s)=everP B n (xs++[s]) (nextS B s):=by simp only [everP,hp]
   rw [hev]
   have hfew:=few b nd g
   have gs:=gc s rfl
   obtain ⟨rest,c',x',h1,ih,hc'⟩:=zf0 (k:=k) (h:=h) (s0:=s0) (p:=p) (st:=st) (bk:=bk) b n (xs++[s]) (nextS B s) (some (stW s)) (by rw [vag,List.length_singleton]; omega)
    (by
      rw [List.nodup_append]
      exact ⟨nd,by simp,fun a ha b hb=>by rw [List.mem_singleton.mp hb]; exact fun z=>zb8 hp (z ▸ ha)⟩)
    (fun t ht=>by
      rcases List.mem_append.mp ht with ht | ht
      ·exact g t ht
      ·rw [List.mem_singleton.mp ht]; exact gs) (fun t ht=>zbe b gs ht)
   refine ⟨s :: rest,c',x',by rw [h1,List.append_assoc]; rfl,?_,hc'⟩
   have hin:=in_st (s:=s) (zbl (h:=h) (xs:=xs))
   have hlen:s.1.length≤5000:=by have:=gs.1; have:=b.g2; omega
   have hj:=zji C A 2 (k:=k + 1) (h:=stD h xs) (zqr s hlen 0)
   have ec:ev (run F (k + 5)) (.or (.cmp .isn (.var 6) (.cst .non)) (.or (.cmp .inn (.var 6) (.var 5)) (.not (.tru (.call 59 (.cons (.var 7) (.cons (.var 6) .nil))))))) [some B.w,some s0,some p,some st,some bk,some (.ref h.n),some (optS (some s)),some (stW s)] (stD h xs)=.ok (.bl false) (stD h xs):=by
    rw [orF (h1:=stD h xs) (by simp [ev,cmpW,za9,optS,zkm]),orF (h1:=stD h xs) (by simp [ev,cmpW,optS,hin,hp]),ev,truE (zav (x:=stW s) (y:=stW s) (varE rfl) (varE rfl) hj)]
    rfl
   have e1:=putE (cl:=run F (k + 5)) (o:=.var 5) (i:=.var 6) (v:=.bi .len (.cons (.var 5) .nil)) (ρ:=[some B.w,some s0,some p,some st,some bk,some (.ref h.n),some (optS (some s)),some (stW s)]) (h:=stD h xs) (a:=h.n) (xs:=xs) (s:=s) (zob rfl zbl) (varE rfl) (varE rfl) zbl hp (by omega)
   rw [zn9] at e1
   have e2:=zdy Y (k:=k) (h:=stD h (xs++[s])) b gs
   rw [zh7] at e2
   have eb:exs (run F (k + 5)) zdb [some B.w,some s0,some p,some st,some bk,some (.ref h.n),some (optS (some s)),some (stW s)] (stD h xs)=.ok (.nx [some B.w,some s0,some p,some st,some bk,some (.ref h.n),some (optS (nextS B s)),some (stW s)]) (stD h (xs++[s])):=by
    unfold zdb
    refine (zaa ((iteF ec).trans rfl)).trans ?_
    refine (zaa e1).trans ?_
    refine (zaa (setE (zav (varE rfl) (varE rfl) e2))).trans ?_
    rfl
   rw [vao]
   simp only [forL,tgW,vau,vas,eb,bindok]
   exact ih
theorem zlg {k:Nat} {h:VH} {B:Bd} {s:Stn} (b:B.Ok) (g:GoodS B s):run F (k + 10) 204 [B.w,stW s,.tup [.tup ((everP B 1281 [] (some s)).1.map stW),backW (everP B 1281 [] (some s)).2]] h=.ok (.bl true) h:=by
 rw [zag C.f204 rfl]
 have e0:=zce Y B' (k:=k) (h:=⟨h.n,h.n,h.os⟩) b g
 obtain ⟨rest,c',x',h1,el,hc'⟩:=zf0 C A Y (k:=k + 4) (h:=h) (s0:=stW s) (p:=.tup [.tup ((everP B 1281 [] (some s)).1.map stW),backW (everP B 1281 [] (some s)).2]) (st:=.tup ((everP B 1281 [] (some s)).1.map stW)) (bk:=backW (everP B 1281 [] (some s)).2) b 1281 [] (some s) none (by decide) List.nodup_nil (fun _ h=>nomatch h) (fun t ht=>by cases ht; exact g)
 obtain ⟨nd,gd⟩:=zgw b 1281 [] (some s) List.nodup_nil (fun _ h=>nomatch h) (fun t ht=>by cases ht; exact g)
 generalize everP B 1281 [] (some s)=E at *
 have hfew:=few b nd gd
 rw [List.nil_append] at h1
 subst h1
 have e1:exs (run F (k + 9)) (.set 5 (.dsp .nil)) [some B.w,some (stW s),some (.tup [.tup (E.1.map stW),backW E.2]),some (.tup (E.1.map stW)),some (backW E.2),none,none,none] ⟨h.n,h.n,h.os⟩=.ok (.nx [some B.w,some (stW s),some (.tup [.tup (E.1.map stW),backW E.2]),some (.tup (E.1.map stW)),some (backW E.2),some (.ref h.n),none,none]) (stD h []):=by
  simp only [exs,ev,bindok,zb0]
  rw [if_pos (by decide)]
  rfl
 have e6:=zam A (k:=k + 8) (h:=⟨h.n,h.n,h.os⟩) (w:=.tup [.tup (E.1.map stW),backW E.2]) (lo:=2) (hi:=2) (by unfold Kn; simp)
 have t6:zau (.tup [.tup (E.1.map stW),backW E.2]) 2 2=true:=rfl
 rw [t6] at e6
 have ec:ev (run F (k + 9)) (.or (.not (.tru (.call 6 (.cons (.var 2) (.cons (.cst (.int (2))) (.cons (.cst (.int (2))) .nil)))))) (.not (.tru (.isi .tuple (.idx (.var 2) (.cst (.int (0)))))))) [some B.w,some (stW s),some (.tup [.tup (E.1.map stW),backW E.2]),none,none,none,none,none] ⟨h.n,h.n,h.os⟩=.ok (.bl false) ⟨h.n,h.n,h.os⟩:=by
  rw [orF (h1:=⟨h.n,h.n,h.os⟩) (by rw [ev,truE (zfu (x:=.tup [.tup (E.1.map stW),backW E.2]) (y:=.int 2) (z:=.int 2) (varE rfl) rfl rfl e6)]; rfl)]
  rfl
 have efor:exs (run F (k + 9)) (.«for» .seq (.var 3) (.one 7) zdb) [some B.w,some (stW s),some (.tup [.tup (E.1.map stW),backW E.2]),some (.tup (E.1.map stW)),some (backW E.2),some (.ref h.n),some (optS (some s)),none] (stD h [])=.ok (.nx [some B.w,some (stW s),some (.tup [.tup (E.1.map stW),backW E.2]),some (.tup (E.1.map stW)),some (backW E.2),some (.ref h.n),some (optS c'),x']) (stD h E.1):=by
  rw [exs,varE (x:=.tup (E.1.map stW)) rfl,bindok,zci (by rw [vab]; omega)]
  exact el
 have eb:exs (run F (k + 9)) fn204.body [some B.w,some (stW s),some (.tup [.tup (E.1.map stW),backW E.2]),none,none,none,none,none] ⟨h.n,h.n,h.os⟩=.ok (.rt (.bl true)) (stD h E.1):=by
  refine (zaa (exprE (zav (varE rfl) (varE rfl) e0))).trans ?_
  refine (zaa ((iteF ec).trans rfl)).trans ?_
  refine (zaa (ρ':=[some B.w,some (stW s),some (.tup [.tup (E.1.map stW),backW E.2]),some (.tup (E.1.map stW)),some (backW E.2),none,none,none]) (h':=⟨h.n,h.n,h.os⟩) rfl).trans ?_
  refine (zaa e1).trans ?_
  refine (zaa (setE (varE rfl))).trans ?_
  refine (zaa efor).trans ?_
  rcases hc' with ⟨rfl,e⟩ | ⟨t,i,rfl,e,ep⟩
  ·refine zab ?_
   rw [iteT (h1:=stD h E.1) (by simp [ev,cmpW,isNon,optS])]
   exact zab (retE (by rw [e]; rfl))
  ·refine (zaa (ρ':=[some B.w,some (stW s),some (.tup [.tup (E.1.map stW),backW E.2]),some (.tup (E.1.map stW)),some (backW E.2),some (.ref h.n),some (optS (some t)),x']) (h':=stD h E.1) ?_).trans (zab (retE ?_))
   ·exact (iteF (h1:=stD h E.1) (by simp [ev,cmpW,za9,optS,zkm])).trans rfl
   ·have hin:=in_st (s:=t) (zbl (h:=h) (xs:=E.1))
    have hj:=zji C A 0 (k:=k + 7) (h:=stD h E.1) (w:=.int (i:Int)) rfl
    have e7:ev (run F (k + 9)) (.cmp .inn (.var 6) (.var 5)) [some B.w,some (stW s),some (.tup [.tup (E.1.map stW),backW E.2]),some (.tup (E.1.map stW)),some (backW E.2),some (.ref h.n),some (optS (some t)),x'] (stD h E.1)=.ok (.bl true) (stD h E.1):=by
     simp [ev,cmpW,optS,hin,ep]
    rw [ev,e7,bindok]
    refine zav (x:=.int (i:Int)) ?_ (idxE (varE rfl) (varE rfl) (zoa zbl ep)) hj
    rw [e]; rfl
 show fin h (exs (run F (k + 9)) fn204.body [some B.w,some (stW s),some (.tup [.tup (E.1.map stW),backW E.2]),none,none,none,none,none] ⟨h.n,h.n,h.os⟩)=_
 rw [eb]
 exact zai (vae _) (by simp)
end
theorem zru {s:Stn}:∀ {xs:List Stn} {i j:Nat},posS s j xs=some i→j≤i∧i < j + xs.length
 | [],_,_,h=>by cases h
 | x :: xs,i,j,h=>by
  unfold posS at h
  split at h
  ·cases h; rw [vah]; omega
  ·have:=zru h; rw [vah]; omega
theorem zoh {s:Stn}:∀ {xs:List Stn} {i j:Nat},posS s j xs=some i→s∈xs
 | [],_,_,h=>by cases h
 | x :: xs,i,j,h=>by
  unfold posS at h
  split at h
  ·rename_i e; rw [e]; exact vap
  ·exact vaj _ (zoh h)
theorem zif {B:Bd}:∀ (n:Nat) (xs:List Stn) (c:Option Stn) {i:Nat},(everP B n xs c).2=some i→i < (everP B n xs c).1.length
 | 0,xs,c,i,h=>by cases h
 | n + 1,xs,none,i,h=>by cases h
 | n + 1,xs,some s,i,h=>by
  cases hp:posS s 0 xs with
  | some j=>
   have hev:everP B (n + 1) xs (some s)=(xs,some j):=by simp only [everP,hp]
   rw [hev] at h ⊢
   cases h
   have:=zru hp
   show i < xs.length
   omega
  | none=>
   have hev:everP B (n + 1) xs (some s)=everP B n (xs++[s]) (nextS B s):=by simp only [everP,hp]
   rw [hev] at h ⊢
   exact zif n _ _ h
theorem zf1 {B:Bd}:∀ (n:Nat) (xs:List Stn) (c:Option Stn) {i:Nat},(∀ x∈xs,nextS B x=c∨∃ y∈xs,nextS B x=some y)→(everP B n xs c).2=some i→∀ x∈(everP B n xs c).1,∃ y∈(everP B n xs c).1,nextS B x=some y
 | 0,xs,c,i,_,h=>by cases h
 | n + 1,xs,none,i,_,h=>by cases h
 | n + 1,xs,some s,i,hc,h=>by
  cases hp:posS s 0 xs with
  | some j=>
   have hev:everP B (n + 1) xs (some s)=(xs,some j):=by simp only [everP,hp]
   rw [hev] at h ⊢
   intro x hx
   rcases hc x hx with e | e
   ·exact ⟨s,zoh hp,e⟩
   ·exact e
  | none=>
   have hev:everP B (n + 1) xs (some s)=everP B n (xs++[s]) (nextS B s):=by simp only [everP,hp]
   rw [hev] at h ⊢
   refine zf1 n _ _ (fun x hx=>?_) h
   rcases List.mem_append.mp hx with hx | hx
   ·rcases hc x hx with e | ⟨y,hy,e⟩
    ·exact .inr ⟨s,List.mem_append_right _ (List.mem_singleton.mpr rfl),e⟩
    ·exact .inr ⟨y,List.mem_append_left _ hy,e⟩
   ·rw [List.mem_singleton.mp hx]; exact .inl rfl
theorem zig {B:Bd} (b:B.Ok):∀ (n:Nat) (xs:List Stn) (s:Stn),1281≤n + xs.length→xs.Nodup→(∀ s∈xs,GoodS B s)→xs.getLast?=some s→(everP B n xs (nextS B s)).2=none→∃ t,(everP B n xs (nextS B s)).1.getLast?=some t∧t.2=none
 | 0,xs,s,hN,nd,g,_,_=>by have:=few b nd g; omega
 | n + 1,xs,s,hN,nd,g,hs,h=>by
  obtain ⟨ls,fo⟩:=s
  cases fo with
  | none=>exact ⟨_,hs,rfl⟩
  | some f=>
   have gs:=g _ (List.mem_of_getLast? hs)
   have gt:GoodS B ((B.fall ls f).ls,callO B ls f):=zbe b gs rfl
   generalize ht:((B.fall ls f).ls,callO B ls f)=t at gt
   have hnx:nextS B (ls,some f)=some t:=by rw [← ht]; rfl
   rw [hnx] at h ⊢
   cases hp:posS t 0 xs with
   | some j=>
    have hev:everP B (n + 1) xs (some t)=(xs,some j):=by simp only [everP,hp]
    rw [hev] at h; cases h
   | none=>
    have hev:everP B (n + 1) xs (some t)=everP B n (xs++[t]) (nextS B t):=by simp only [everP,hp]
    rw [hev] at h ⊢
    exact zig b n (xs++[t]) t (by rw [vag,List.length_singleton]; omega)
     (by
       rw [List.nodup_append]
       exact ⟨nd,by simp,fun a ha b hb=>by rw [List.mem_singleton.mp hb]; exact fun z=>zb8 hp (z ▸ ha)⟩)
     (fun u hu=>by
       rcases List.mem_append.mp hu with hu | hu
       ·exact g u hu
       ·rw [List.mem_singleton.mp hu]; exact gt) (by simp) h
theorem zoi {B:Bd} {ls:List Int} {f:Nat} (b:B.Ok) (hf:f < B.fd.length) (hl:(ls.length:Int)=B.gr) (bi:Bits ls):(∃ i:Int,nameP B ls f=.int i)∨callO B ls f=none:=by
 have q:=b.fall hf hl bi
 by_cases z:(B.fall ls f).st=true
 ·right
  have:outD B ls f=.tup [.non,.non]:=by unfold outD; rw [if_pos z]
  unfold callO; rw [this]
 ·left
  have e:outD B ls f=B.door (lastC (B.col f) (B.fall ls f).cs):=by unfold outD; rw [if_neg z]
  obtain ⟨_,d2⟩:=b.door q.c4.1 q.c4.2
  obtain ⟨x,y,de,_⟩:=zeu d2
  unfold nameP
  rw [e,de]
  exact ⟨x,rfl⟩
theorem zoj {B:Bd} (b:B.Ok) {xs:List Stn} (g:∀ s∈xs,GoodS B s) (ch:∀ x∈xs,∃ y∈xs,nextS B x=some y):∃ v:List Int,xs.map (nmS B)=v.map .int:=by
 have key:∀ s∈xs,∃ i:Int,nmS B s=.int i:=by
  intro s hs
  obtain ⟨y,hy,e⟩:=ch s hs
  obtain ⟨ls,fo⟩:=s
  cases fo with
  | none=>cases e
  | some f=>
   obtain ⟨hl,bi,hf⟩:=g _ hs
   rcases zoi b (hf f rfl) hl bi with h | h
   ·exact h
   ·obtain ⟨z,hz,e2⟩:=ch y hy
    cases e
    unfold nextS at e2
    simp only [h] at e2
    cases e2
 clear ch g
 induction xs with
 | nil=>exact ⟨[],rfl⟩
 | cons s xs ih=>
  obtain ⟨i,hi⟩:=key s vap
  obtain ⟨v,hv⟩:=ih fun t ht=>key t (vaj _ ht)
  exact ⟨i :: v,by rw [vao,vao,hi,hv]⟩
noncomputable def nnW (w:W):Bool:=!isNon w
theorem zdz {B:Bd}:∀ (xs:List Stn),((xs.filter fun s=>s.2.isSome).filter fun s=>nnW (nmS B s)).map (nmS B)=(xs.map (nmS B)).filter nnW
 | []=>rfl
 | s :: xs=>by
  have ih:=zdz (B:=B) xs
  obtain ⟨ls,fo⟩:=s
  cases fo with
  | none=>
   have e:nnW (nmS B (ls,none))=false:=rfl
   rw [vao,List.filter_cons,List.filter_cons,e]
   exact ih
  | some f=>
   rw [vao,List.filter_cons,if_pos (show ((ls,some f):Stn).2.isSome=true from rfl),List.filter_cons,List.filter_cons]
   split
   ·rw [vao,ih]
   ·exact ih
theorem zlh (v:List Int):(v.map W.int).filter nnW=v.map .int:=by
 induction v with
 | nil=>rfl
 | cons i v ih=>rw [vao,List.filter_cons,if_pos (show nnW (.int i)=true from rfl),ih]
theorem zjj {B:Bd} {xs:List Stn} {t:Stn} (h:xs.getLast?=some t) (ht:t.2=none):(nmL B xs).filter nnW=(xs.map (nmS B)).filter nnW:=by
 have e:=ze1 h
 unfold nmL
 conv=>rhs; rw [← e]
 rw [List.map_append,List.filter_append]
 have:nmS B t=.non:=by unfold nmS; rw [ht]
 rw [vao,this]
 show _=_++[]
 rw [List.append_nil]
theorem zd9 {α:Type} {nx:Nat→VH→Option (Option W)} {c e:En→VH→Res W} {h:VH} {u:α→W} {tl:En} {p:α→Bool} {f:α→W} {zs:List α} (hx:∀ i,nx i h=some ((zs.map u)[i]?))
 (ht:∀ z∈zs,∃ a b,u z=.tup [a,b]∧c (some a :: some b :: tl) h=.ok (.bl (p z)) h∧(p z=true→e (some a :: some b :: tl) h=.ok (f z) h)) :
 ∀ (fu i:Nat) (x y:Option W) (acc:List W),i≤zs.length→zs.length < fu + i→lcG nx (tgW (.many [0,1])) c e fu i (x :: y :: tl) h acc=.ok (acc.reverse++((zs.drop i).filter p).map f) h
 | 0,i,x,y,acc,hi,hl=>by omega
 | fu + 1,i,x,y,acc,hi,hl=>by
  cases q:zs[i]? with
  | none=>
   rw [List.drop_eq_nil_of_le (List.getElem?_eq_none_iff.mp q)]
   have hn:(zs.map u)[i]?=none:=by rw [List.getElem?_map,q]; rfl
   rw [lcG,hx,hn]
   simp
  | some z=>
   obtain ⟨hi,ee⟩:=List.getElem?_eq_some_iff.mp q
   obtain ⟨a,b,hu,hc,he⟩:=ht z (List.mem_of_getElem? q)
   have hn:(zs.map u)[i]?=some (.tup [a,b]):=by rw [List.getElem?_map,q,← hu]; rfl
   rw [lcG,hx,hn]
   simp only [tgW,seqW,zaw,vas,vau,hc,bindok]
   rw [List.drop_eq_getElem_cons hi,ee,List.filter_cons]
   cases w:p z with
   | true=>
    simp only [he w,bindok]
    rw [zd9 hx ht fu (i + 1) (some a) (some b) (f z :: acc) hi (by omega)]
    simp
   | false=>
    simp only [vam,if_false]
    exact zd9 hx ht fu (i + 1) (some a) (some b) acc hi (by omega)
structure CoreO (F:Nat→Option Fn):Prop extends CoreF F,CoreH F,CoreE F where
 f200:F 200=some fn200
 f203:F 203=some fn203
 f269:F 269=some fn269
noncomputable def outS (B:Bd) (s:Stn):W:=match s.2 with
 | none=>.non
 | some f=>outD B s.1 f
noncomputable def papW (E:List Stn × Option Nat):W:=.tup [.tup (E.1.map stW),backW E.2]
theorem ze2 {cl:Call} {a c e:E} {t:Tg} {ρ:En} {h h1 h2:VH} {x:W} {ow:Nat} {ix:List Nat} {ys:List W} (ea:ev cl a ρ h=.ok x h1) (el:lcG (nxt .seq x) (tgW t) (ev cl c) (ev cl e) fuel 0 (inner ow ix ρ) h1 []=.ok ys h2) (hy:ys.length≤1000000):ev cl (.lc .seq a t ow ix c e) ρ h=.ok (.ref h2.n) (h2.new (.lst ys)):=by
 rw [ev,ea,bindok,el,bindok,if_pos (zcl hy)]
section
variable {F:Nat→Option Fn} (C:CoreO F)
include C
theorem zih {k:Nat} {h:VH} {B:Bd} {E:List Stn × Option Nat} (b:B.Ok) (g:∀ s∈E.1,GoodS B s) (hlen:E.1.length≤1280) :
 ∃ x,exs (run F (k + 4)) (.seq (.unp [2,3] (.var 1)) (.seq (.set 4 (.lc .seq (.var 2) (.many [0,1]) 2 [0] zc9 zd6)) (.seq (.set 5 (.bi .tuple (.cons (.lc .seq (.var 4) (.many [0,1]) 2 [] zda zd7) .nil))) .skip))) [some B.w,some (papW E),none,none,none,none] ⟨h.n,h.n,h.os⟩=.ok (.nx [some B.w,some (papW E),some (.tup (E.1.map stW)),some (backW E.2),x,some (.tup ((E.1.map (nmS B)).filter nnW))]) ((VH.new ⟨h.n,h.n,h.os⟩ (.lst ((E.1.filter fun s=>s.2.isSome).map (outS B)))).new (.lst ((E.1.map (nmS B)).filter nnW))):=by
 have hf:fuel=1000000:=rfl
 have l1:=zd9 (nx:=nxt .seq (.tup (E.1.map stW))) (c:=ev (run F (k + 4)) zc9) (e:=ev (run F (k + 4)) zd6) (h:=⟨h.n,h.n,h.os⟩) (u:=stW) (tl:=[some B.w]) (p:=fun s:Stn=>s.2.isSome) (f:=outS B) (zs:=E.1) (fun i=>rfl) (fun s hs=>by
  obtain ⟨ls,fo⟩:=s
  obtain ⟨hl,bi,hf⟩:=g _ hs
  refine ⟨iW ls,optW fo,rfl,by cases fo <;> simp [zc9,ev,cmpW,isNon,optW],fun hp=>?_⟩
  cases fo with
  | none=>cases hp
  | some f=>
   have e:=zh6 C.toCoreE (k:=k) (h:=⟨h.n,h.n,h.os⟩) b (hf f rfl) hl bi
   exact idxE (zfv (varE rfl) (varE rfl) (varE rfl) rfl e) rfl rfl) fuel 0 none none [] (Nat.zero_le _) (by omega)
 rw [List.drop_zero,List.reverse_nil,List.nil_append] at l1
 have e1:=ze2 (cl:=run F (k + 4)) (a:=.var 2) (c:=zc9) (e:=zd6) (t:=.many [0,1]) (ρ:=[some B.w,some (papW E),some (.tup (E.1.map stW)),some (backW E.2),none,none]) (h:=⟨h.n,h.n,h.os⟩) (ow:=2) (ix:=[0]) (varE rfl) l1 (by rw [vab]; have:=List.length_filter_le (fun s:Stn=>s.2.isSome) E.1; omega)
 generalize hds:(E.1.filter fun s=>s.2.isSome)=zs at e1 ⊢
 have gz:(VH.new ⟨h.n,h.n,h.os⟩ (.lst (zs.map (outS B)))).get h.n=some (.lst (zs.map (outS B))):=zao (h:=⟨h.n,h.n,h.os⟩)
 have hz:zs.length≤1280:=by rw [← hds]; have:=List.length_filter_le (fun s:Stn=>s.2.isSome) E.1; omega
 have l2:=zd9 (nx:=nxt .seq (.ref h.n)) (c:=ev (run F (k + 4)) zda) (e:=ev (run F (k + 4)) zd7) (h:=VH.new ⟨h.n,h.n,h.os⟩ (.lst (zs.map (outS B)))) (u:=outS B) (tl:=[]) (p:=fun s:Stn=>nnW (nmS B s)) (f:=nmS B) (zs:=zs) (fun i=>by simp only [nxt,seqW,gz]; rfl) (fun s hs=>by
  rw [← hds] at hs
  obtain ⟨hs,hp⟩:=List.mem_filter.mp hs
  obtain ⟨ls,fo⟩:=s
  obtain ⟨hl,bi,hf⟩:=g _ hs
  cases fo with
  | none=>cases hp
  | some f=>
   obtain ⟨oe,_⟩:=zb1 b (hf f rfl) hl bi
   refine ⟨nameP B ls f,optW (callO B ls f),oe,?_,fun _=>rfl⟩
   simp [zda,ev,cmpW,za9,nnW,nmS]) fuel 0 none none [] (Nat.zero_le _) (by omega)
 rw [List.drop_zero,List.reverse_nil,List.nil_append,← hds,zdz,hds] at l2
 have hN:((E.1.map (nmS B)).filter nnW).length≤1000000:=by have:=List.length_filter_le nnW (E.1.map (nmS B)); rw [vab] at this; omega
 have e2:=ze2 (cl:=run F (k + 4)) (a:=.var 4) (c:=zda) (e:=zd7) (t:=.many [0,1]) (ρ:=[some B.w,some (papW E),some (.tup (E.1.map stW)),some (backW E.2),some (.ref h.n),none]) (h:=VH.new ⟨h.n,h.n,h.os⟩ (.lst (zs.map (outS B)))) (ow:=2) (ix:=[]) (varE rfl) l2 hN
 refine ⟨some (.ref h.n),?_⟩
 refine (zaa (ρ':=[some B.w,some (papW E),some (.tup (E.1.map stW)),some (backW E.2),none,none]) (h':=⟨h.n,h.n,h.os⟩) rfl).trans ?_
 refine (zaa (setE e1)).trans ?_
 refine (zaa (setE (zfp e2 zao))).trans ?_
 rfl
omit C in
theorem zii {cl:Call} {a b c d:S} {ρ ρ':En} {h h':VH} (e:exs cl (.seq a (.seq b (.seq c .skip))) ρ h=.ok (.nx ρ') h'):exs cl (.seq a (.seq b (.seq c d))) ρ h=exs cl d ρ' h':=by
 simp only [exs] at e ⊢
 cases h1:exs cl a ρ h with
 | no=>rw [h1] at e; cases e
 | ex x g=>rw [h1] at e; cases e
 | ok fl g=>
  rw [h1,bindok] at e
  rw [bindok]
  cases fl with
  | nx ρ1=>
   simp only at e ⊢
   cases h2:exs cl b ρ1 g with
   | no=>rw [h2] at e; cases e
   | ex x g=>rw [h2] at e; cases e
   | ok fl g=>
    rw [h2,bindok] at e
    rw [bindok]
    cases fl with
    | nx ρ2=>
     simp only at e ⊢
     cases h3:exs cl c ρ2 g with
     | no=>rw [h3] at e; cases e
     | ex x g=>rw [h3] at e; cases e
     | ok fl g=>
      rw [h3,bindok] at e
      rw [bindok]
      cases fl with
      | nx ρ3=>cases e; rfl
      | _=>cases e
    | _=>cases e
  | _=>cases e
theorem zok {k:Nat} {h:VH} {B:Bd} {E:List Stn × Option Nat} (b:B.Ok) (g:∀ s∈E.1,GoodS B s) (hlen:E.1.length≤1280) (hE:E.2=none) (hlt:∀ n,W.lts n ((E.1.map (nmS B)).filter nnW)=true) :
 run F (k + 5) 200 [B.w,papW E] h=.ok (.tup [.tup ((E.1.map (nmS B)).filter nnW),.tup []]) h:=by
 rw [zag C.f200 rfl]
 obtain ⟨x,e1⟩:=zih C (k:=k) (h:=h) b g hlen
 have eb:exs (run F (k + 4)) fn200.body [some B.w,some (papW E),none,none,none,none] ⟨h.n,h.n,h.os⟩=.ok (.rt (.tup [.tup ((E.1.map (nmS B)).filter nnW),.tup []])) ((VH.new ⟨h.n,h.n,h.os⟩ (.lst ((E.1.filter fun s=>s.2.isSome).map (outS B)))).new (.lst ((E.1.map (nmS B)).filter nnW))):=by
  refine (zii e1).trans ?_
  refine zab ?_
  refine (iteT (h1:=(VH.new ⟨h.n,h.n,h.os⟩ (.lst ((E.1.filter fun s=>s.2.isSome).map (outS B)))).new (.lst ((E.1.map (nmS B)).filter nnW))) (by rw [hE]; rfl)).trans ?_
  exact zab (retE (tup2E (varE rfl) rfl))
 show fin h (exs (run F (k + 4)) fn200.body [some B.w,some (papW E),none,none,none,none] ⟨h.n,h.n,h.os⟩)=_
 rw [eb]
 exact zai (vae _) (by simp [hlt])
theorem zol {k:Nat} {h:VH} {B:Bd} {E:List Stn × Option Nat} {v:List Int} {i q:Nat} (b:B.Ok) (g:∀ s∈E.1,GoodS B s) (hlen:E.1.length≤1280) (hE:E.2=some i) (hv:E.1.map (nmS B)=v.map .int) (hi:i < v.length) (L:Least (fun j=>zac v i (v.length - i) (i + j)) (v.length - i) q) :
 run F (k + 5) 200 [B.w,papW E] h=.ok (.tup [iW (seg (zac v i (v.length - i)) 0 (leadP (zac v i (v.length - i)) q i)),iW (seg (zac v i (v.length - i)) (leadP (zac v i (v.length - i)) q i) q)]) h:=by
 rw [zag C.f200 rfl]
 obtain ⟨x,e1⟩:=zih C (k:=k) (h:=h) b g hlen
 rw [hv,zlh] at e1
 have hvl:v.length=E.1.length:=by have:=congrArg List.length hv; rw [vab,vab] at this; exact this.symm
 generalize hR:v.length - i=R at *
 have hvR:v.length=i + R:=by omega
 have hseg:=zdr hvR
 generalize hh2:(VH.new ⟨h.n,h.n,h.os⟩ (.lst ((E.1.filter fun s=>s.2.isSome).map (outS B)))).new (.lst (v.map .int))=h2 at e1
 have t1:v.take i=seg (zac v i R) 0 i:=by
  have:=zdd (zac v i R) (a:=0) (show i≤i + R by omega)
  rw [hseg] at this; exact this
 have t2:v.drop i=seg (fun j=>zac v i R (i + j)) 0 R:=by
  have:=zgx (zac v i R) (a:=0) (show i≤i + R by omega)
  rw [hseg,show i + R - i=R by omega] at this
  rw [this]
  exact zbr fun j _=>by rw [Nat.zero_add,Nat.zero_add]
 have t3:seg (fun j=>zac v i R (i + j)) 0 q=seg (zac v i R) i q:=zbr fun j _=>by rw [Nat.zero_add]
 have e2:=zg0 C.toCoreF (k:=k + 3) (h:=h2) (zde v i R) (by omega) (by omega) L
 rw [t3] at e2
 have q0:=L.q0
 have q1:=L.q1
 have e3:=zqq C.toCoreF (k:=k + 3) (h:=h2) (f:=zac v i R) (a:=i) q0 (by omega) (by omega)
 have eb:exs (run F (k + 4)) fn200.body [some B.w,some (papW E),none,none,none,none] ⟨h.n,h.n,h.os⟩=.ok (.rt (.tup [iW (seg (zac v i R) 0 (leadP (zac v i R) q i)),iW (seg (zac v i R) (leadP (zac v i R) q i) q)])) h2:=by
  refine (zii e1).trans ?_
  refine (zaa (ρ':=[some B.w,some (papW E),some (.tup (E.1.map stW)),some (backW E.2),x,some (.tup (v.map .int))]) (h':=h2) ?_).trans ?_
  ·exact (iteF (h1:=h2) (by rw [hE]; rfl)).trans rfl
  ·refine zab (retE ?_)
   have s1:ev (run F (k + 4)) (.slc (.var 5) false (.cst .non) true (.var 3)) [some B.w,some (papW E),some (.tup (E.1.map stW)),some (backW E.2),x,some (.tup (v.map .int))] h2=.ok (iW (seg (zac v i R) 0 i)) h2:=slcE (varE rfl) rfl (varE rfl) rfl (show partW true (backW E.2)=some (some (i:Int)) by rw [hE]; rfl) (by
    rw [slcW_tup,zgz (by rw [vab]; omega),← List.map_take,t1]; rfl)
   have s2:ev (run F (k + 4)) (.slc (.var 5) true (.var 3) false (.cst .non)) [some B.w,some (papW E),some (.tup (E.1.map stW)),some (backW E.2),x,some (.tup (v.map .int))] h2=.ok (iW (seg (fun j=>zac v i R (i + j)) 0 R)) h2:=slcE (varE rfl) (varE rfl) rfl (show partW true (backW E.2)=some (some (i:Int)) by rw [hE]; rfl) rfl (by
    rw [slcW_tup,zof (by rw [vab]; omega),← List.map_drop,t2]; rfl)
   exact zav s1 (zev s2 e2) e3
 show fin h (exs (run F (k + 4)) fn200.body [some B.w,some (papW E),none,none,none,none] ⟨h.n,h.n,h.os⟩)=_
 rw [eb]
 refine zai ?_ (by simp [iW_lt])
 rw [← hh2]; exact vae _
end
noncomputable def zbu:E:=(.cmp .notn (.var 0) (.cst .non))
noncomputable def zcp:E:=(.var 0)
noncomputable def zbf:E:=(.cmp .gt (.call 332 (.cons (.var 5) (.cons (.var 6) (.cons (.op .add (.var 3) (.bi .len (.cons (.var 4) .nil))) .nil)))) (.var 3))
noncomputable def za6:S:=(.seq (.set 6 (.op .add (.var 6) (.cst (.int (1))))) .skip)
noncomputable def zb9:Fn:=⟨1,8,(.seq (.unp [1,2,3] (.var 0)) (.seq (.ite (.cmp .isn (.var 3) (.cst .non)) (.seq (.ret (.tup (.cons (.bi .tuple (.cons (.lc .seq (.var 2) (.one 0) 1 [] zbu zcp) .nil)) (.cons (.tup .nil) .nil)))) .skip) .skip) (.seq (.set 4 (.slc (.var 2) true (.var 3) false (.cst .non))) (.seq (.set 5 (.op .add (.op .add (.op .add (.var 2) (.var 4)) (.var 4)) (.var 4))) (.seq (.set 6 (.cst (.int (1)))) (.seq (.whl zbf za6) (.seq (.set 7 (.call 332 (.cons (.var 5) (.cons (.var 6) (.cons (.op .add (.var 3) (.bi .len (.cons (.var 4) .nil))) .nil))))) (.seq (.ret (.tup (.cons (.bi .tuple (.cons (.slc (.var 5) false (.cst .non) true (.var 7)) .nil)) (.cons (.bi .tuple (.cons (.slc (.var 5) true (.var 7) true (.op .add (.var 7) (.var 6))) .nil)) .nil)))) .skip))))))))⟩
noncomputable def za7:S:=(.seq (.ite (.cmp .ne (.idx (.var 0) (.var 4)) (.idx (.var 0) (.op .add (.var 4) (.var 1)))) (.seq (.set 3 (.op .add (.var 4) (.cst (.int (1))))) .skip) .skip) .skip)
noncomputable def zea:Fn:=⟨3,5,(.seq (.set 3 (.cst (.int (0)))) (.seq (.«for» .rng1 (.cons (.op .add (.var 2) (.var 1)) .nil) (.one 4) za7) (.seq (.ret (.var 3)) .skip)))⟩
noncomputable def zeb:Fn:=⟨2,4,(.seq (.set 2 (.call 112 (.cons (.var 0) (.cons (.var 1) .nil)))) (.seq (.set 3 (.call 323 (.cons (.var 2) .nil))) (.seq (.ite (.not (.tru (.call 92 (.cons (.call 203 (.cons (.var 0) (.cons (.var 1) .nil))) (.cons (.var 3) .nil))))) (.seq (.ret (.cst (.bl false))) .skip) .skip) (.seq (.ret (.cmp .isn (.call 269 (.cons (.var 0) (.cons (.var 1) (.cons (.tup (.cons (.bi .tuple (.cons (.idx (.var 2) (.cst (.int (0)))) .nil)) (.cons (.idx (.var 2) (.cst (.int (2)))) .nil))) (.cons (.var 3) .nil))))) (.cst (.bl true)))) .skip))))⟩
noncomputable def zcq:E:=(.var 0)
noncomputable def zcr:E:=(.var 1)
noncomputable def zbg:S:=(.seq (.ite (.not (.tru (.call 700 (.cons (.idx (.var 3) (.var 5)) (.cons (.idx (.var 4) (.var 5)) .nil))))) (.seq (.ret (.cst (.bl false))) .skip) .skip) .skip)
noncomputable def zec:Fn:=⟨1,6,(.seq (.set 1 (.call 3 (.cons (.var 0) .nil))) (.seq (.set 2 (.lst (.cons (.call 132 (.cons (.var 1) .nil)) (.cons (.call 132 (.cons (.var 1) .nil)) .nil)))) (.seq (.set 3 (.lc .seq (.var 2) (.many [0,1]) 2 [] (.cst (.bl true)) zcq)) (.seq (.set 4 (.lc .seq (.var 2) (.many [0,1]) 2 [] (.cst (.bl true)) zcr)) (.seq (.«for» .seq (.lst (.cons (.cst (.int (0))) (.cons (.cst (.int (1))) (.cons (.cst (.int (0))) .nil)))) (.one 5) zbg) (.seq (.ret (.cst (.bl true))) .skip))))))⟩
structure C22 (F:Nat→Option Fn):Prop where
 o:CoreO F
 x:CoreX F
 m:CoreM F
 q:CoreQ F
 b:CoreB F
 f20:F 20=some fn20
 f93:F 93=some fn93
 f99:F 99=some fn99
 f132:F 132=some fn132
 f323:F 323=some zb9
 f332:F 332=some zea
 f700:F 700=some zeb
 f701:F 701=some zec
theorem zrv {f:Nat→Int} {h:VH} {l N j:Nat} (g:h.get l=some (.lst ((seg f 0 N).map .int))) (hj:j < N):idxW h (.ref l) (.int (j:Int))=some (.int (f j)):=by
 simp only [idxW,g]
 exact zbk (by rw [List.getElem?_map,zjf f N 0 j hj,Nat.zero_add]; rfl)
theorem zij {cl:Call} {f:Nat→Int} {h:VH} {l N q:Nat} {mo:W} (g:h.get l=some (.lst ((seg f 0 N).map .int))):∀ (m a:Nat) (x:Option W),a + m + q≤N→∃ x',forL (tgW (.one 4)) (exs cl za7) (zal (a:Int) m) [some (.ref l),some (.int (q:Int)),some mo,some (.int (leadP f q a:Nat)),x] h=.ok (.nx [some (.ref l),some (.int (q:Int)),some mo,some (.int (leadP f q (a + m):Nat)),x']) h
 | 0,a,x,_=>⟨x,rfl⟩
 | m + 1,a,x,hN=>by
  obtain ⟨x',ih⟩:=zij (cl:=cl) (q:=q) (mo:=mo) g m (a + 1) (some (.int (a:Int))) (by omega)
  refine ⟨x',?_⟩
  have i1:ev cl (.idx (.var 0) (.var 4)) [some (.ref l),some (.int (q:Int)),some mo,some (.int (leadP f q a:Nat)),some (.int (a:Int))] h=.ok (.int (f a)) h:=idxE (varE rfl) (varE rfl) (zrv g (by omega))
  have i2:ev cl (.idx (.var 0) (.op .add (.var 4) (.var 1))) [some (.ref l),some (.int (q:Int)),some mo,some (.int (leadP f q a:Nat)),some (.int (a:Int))] h=.ok (.int (f (a + q))) h:=idxE (varE rfl) (opE (varE rfl) (varE rfl) (show opW .add (.int (a:Int)) (.int (q:Int)) h=.ok (.int ((a + q:Nat):Int)) h from rfl)) (zrv g (by omega))
  have ec:ev cl (.cmp .ne (.idx (.var 0) (.var 4)) (.idx (.var 0) (.op .add (.var 4) (.var 1)))) [some (.ref l),some (.int (q:Int)),some mo,some (.int (leadP f q a:Nat)),some (.int (a:Int))] h=.ok (.bl (!decide (f a=f (a + q)))) h:=by
   rw [ev,i1,bindok,i2,bindok]
   simp only [cmpW,zaq,van,ofsome]
  have eb:exs cl za7 [some (.ref l),some (.int (q:Int)),some mo,some (.int (leadP f q a:Nat)),some (.int (a:Int))] h=.ok (.nx [some (.ref l),some (.int (q:Int)),some mo,some (.int (leadP f q (a + 1):Nat)),some (.int (a:Int))]) h:=by
   unfold za7
   by_cases z:f a=f (a + q)
   ·rw [decide_eq_true z] at ec
    rw [leadP,if_pos z]
    exact (zaa ((iteF ec).trans rfl)).trans rfl
   ·rw [decide_eq_false z] at ec
    rw [leadP,if_neg z]
    exact (zaa ((iteT ec).trans ((zaa (setE (opE (varE rfl) rfl (show opW .add (.int (a:Int)) (.int 1) h=.ok (.int ((a + 1:Nat):Int)) h from rfl)))).trans rfl))).trans rfl
  show forL _ _ (.int (a:Int) :: zal ((a:Int) + 1) m) _ _=_
  simp only [forL,tgW,vau,vas,eb,bindok]
  rw [show a + (m + 1)=a + 1 + m by omega]
  exact ih
section
variable {F:Nat→Option Fn} (C:C22 F)
include C
theorem zkr {k:Nat} {f:Nat→Int} {h:VH} {l N q m:Nat} (g:h.get l=some (.lst ((seg f 0 N).map .int))) (hN:m + q + q≤N) (h5:N≤100000):run F (k + 1) 332 [.ref l,.int (q:Int),.int (m:Int)] h=.ok (.int (leadP f q (m + q):Nat)) h:=by
 rw [zag C.f332 rfl]
 have g':VH.get ⟨h.n,h.n,h.os⟩ l=some (.lst ((seg f 0 N).map .int)):=by rw [get_lo]; exact g
 obtain ⟨x',e1⟩:=zij (cl:=run F k) (q:=q) (mo:=.int (m:Int)) g' (m + q) 0 none (by omega)
 rw [Nat.zero_add] at e1
 have er:=ztl (n:=m + q) (tg:=tgW (.one 4)) (b:=exs (run F k) za7) (ρ:=[some (.ref l),some (.int (q:Int)),some (.int (m:Int)),some (.int ((0:Nat):Int)),none]) (h:=⟨h.n,h.n,h.os⟩) (by omega)
 have eb:exs (run F k) zea.body [some (.ref l),some (.int (q:Int)),some (.int (m:Int)),none,none] ⟨h.n,h.n,h.os⟩=.ok (.rt (.int (leadP f q (m + q):Nat))) ⟨h.n,h.n,h.os⟩:=by
  refine (zaa (setE rfl)).trans ?_
  refine (zaa (ρ':=[some (.ref l),some (.int (q:Int)),some (.int (m:Int)),some (.int (leadP f q (m + q):Nat)),x']) (h':=⟨h.n,h.n,h.os⟩) ?_).trans (zab (retE (varE rfl)))
  have ea:ev (run F k) (.cons (.op .add (.var 2) (.var 1)) .nil) [some (.ref l),some (.int (q:Int)),some (.int (m:Int)),some (.int ((0:Nat):Int)),none] ⟨h.n,h.n,h.os⟩=.ok (.tup [.int ((m + q:Nat):Int)]) ⟨h.n,h.n,h.os⟩:=rfl
  show exs (run F k) (.«for» .rng1 (.cons (.op .add (.var 2) (.var 1)) .nil) (.one 4) za7) [some (.ref l),some (.int (q:Int)),some (.int (m:Int)),some (.int ((0:Nat):Int)),none] ⟨h.n,h.n,h.os⟩=_
  rw [exs,ea,bindok,er]
  exact e1
 show fin h (exs (run F k) zea.body [some (.ref l),some (.int (q:Int)),some (.int (m:Int)),none,none] ⟨h.n,h.n,h.os⟩)=_
 rw [eb]
 exact zai (vae _) (by simp)
theorem zli {k:Nat} {h:VH} {a c l:Nat} {ns:List W} (g1:h.get l=some (.lst [.ref a,.ref c,.non])) (g2:h.get c=some (.lst ns)) (hl:ns.length≤5000) (hlt:∀ n,W.lts n (ns.filter nnW)=true):run F (k + 2) 323 [.ref l] h=.ok (.tup [.tup (ns.filter nnW),.tup []]) h:=by
 rw [zag C.f323 rfl]
 have g1':VH.get ⟨h.n,h.n,h.os⟩ l=some (.lst [.ref a,.ref c,.non]):=by rw [get_lo]; exact g1
 have g2':VH.get ⟨h.n,h.n,h.os⟩ c=some (.lst ns):=by rw [get_lo]; exact g2
 have l1:=zn6 (nx:=nxt .seq (.ref c)) (c:=ev (run F (k + 1)) zbu) (e:=ev (run F (k + 1)) zcp) (h:=⟨h.n,h.n,h.os⟩) (ws:=ns) (tl:=[]) (p:=nnW) (f:=id) (fun i=>by simp only [nxt,seqW,g2']; rfl) (fun w _=>by simp [zbu,ev,cmpW,za9,nnW]) (fun w _=>rfl) fuel 0 none [] (Nat.zero_le _) (by have:fuel=1000000:=rfl; omega)
 rw [List.drop_zero,List.reverse_nil,List.nil_append,List.map_id] at l1
 have e1:=ze2 (cl:=run F (k + 1)) (a:=.var 2) (c:=zbu) (e:=zcp) (t:=.one 0) (ρ:=[some (.ref l),some (.ref a),some (.ref c),some .non,none,none,none,none]) (h:=⟨h.n,h.n,h.os⟩) (ow:=1) (ix:=[]) (varE rfl) l1 (by have:=List.length_filter_le nnW ns; omega)
 have eb:exs (run F (k + 1)) zb9.body [some (.ref l),none,none,none,none,none,none,none] ⟨h.n,h.n,h.os⟩=.ok (.rt (.tup [.tup (ns.filter nnW),.tup []])) (VH.new ⟨h.n,h.n,h.os⟩ (.lst (ns.filter nnW))):=by
  refine (zaa (ρ':=[some (.ref l),some (.ref a),some (.ref c),some .non,none,none,none,none]) (h':=⟨h.n,h.n,h.os⟩) ?_).trans ?_
  ·rw [exs,varE (x:=.ref l) rfl,bindok]
   simp only [tgW,seqW,g1',zaw,vau,vas,van,ofsome]
  refine zab ?_
  refine (iteT (h1:=⟨h.n,h.n,h.os⟩) rfl).trans ?_
  exact zab (retE (tup2E (zfp e1 (zao (h:=⟨h.n,h.n,h.os⟩))) rfl))
 show fin h (exs (run F (k + 1)) zb9.body [some (.ref l),none,none,none,none,none,none,none] ⟨h.n,h.n,h.os⟩)=_
 rw [eb]
 exact zai (vae _) (by simp [hlt])
end
theorem zjk {h:VH} {c:Nat} {ws:List W} {l u:Option Int} (g:h.get c=some (.lst ws)):slcW (.ref c) l u h=.ok (.ref h.n) (h.new (.lst (cutW ws l u))):=by
 simp only [slcW,g]
section
variable {F:Nat→Option Fn} (C:C22 F)
include C
theorem zom {k:Nat} {h:VH} {v:List Int} {i R q l5 l4:Nat} {w0 w1 w2:W} {x7:Option W} (g5:h.get l5=some (.lst ((seg (zac v i R) 0 (i + R + R + R + R)).map .int))) (g4:h.get l4=some (.lst ((v.drop i).map .int))) (hv:v.length=i + R) (R0:1≤R) (h5:v.length≤5000) (L:Least (fun j=>zac v i R (i + j)) R q) :
 ∀ (n s fu:Nat),n < fu→s + n=q→1≤s→whlG (ev (run F (k + 1)) zbf) (exs (run F (k + 1)) za6) fu [some w0,some w1,some w2,some (.int (i:Int)),some (.ref l4),some (.ref l5),some (.int (s:Int)),x7] h=.ok (.nx [some w0,some w1,some w2,some (.int (i:Int)),some (.ref l4),some (.ref l5),some (.int (q:Int)),x7]) h:=by
 have q1:=L.q1
 have ecs:∀ s:Nat,1≤s→s≤R→ev (run F (k + 1)) zbf [some w0,some w1,some w2,some (.int (i:Int)),some (.ref l4),some (.ref l5),some (.int (s:Int)),x7] h=.ok (.bl (decide (i < leadP (zac v i R) s (i + R + s)))) h:=by
  intro s s0 s1
  have e1:=zkr C (k:=k) (f:=zac v i R) (h:=h) (l:=l5) (q:=s) (m:=i + R) g5 (by omega) (by omega)
  have el:ev (run F (k + 1)) (.bi .len (.cons (.var 4) .nil)) [some w0,some w1,some w2,some (.int (i:Int)),some (.ref l4),some (.ref l5),some (.int (s:Int)),x7] h=.ok (.int (R:Int)) h:=by
   have:=lenE (cl:=run F (k + 1)) (a:=.var 4) (ρ:=[some w0,some w1,some w2,some (.int (i:Int)),some (.ref l4),some (.ref l5),some (.int (s:Int)),x7]) (h:=h) (x:=.ref l4) (ws:=(v.drop i).map .int) (varE rfl) (by simp only [seqW,g4])
   rw [vab,List.length_drop,show v.length - i=R by omega] at this
   exact this
  have e2:ev (run F (k + 1)) (.call 332 (.cons (.var 5) (.cons (.var 6) (.cons (.op .add (.var 3) (.bi .len (.cons (.var 4) .nil))) .nil)))) [some w0,some w1,some w2,some (.int (i:Int)),some (.ref l4),some (.ref l5),some (.int (s:Int)),x7] h=.ok (.int (leadP (zac v i R) s (i + R + s):Nat)) h:=zfu (varE rfl) (varE rfl) (opE (varE rfl) el (show opW .add (.int (i:Int)) (.int (R:Int)) h=.ok (.int ((i + R:Nat):Int)) h from rfl)) e1
  unfold zbf
  rw [ev,e2,bindok,varE (x:=.int (i:Int)) rfl,bindok]
  have hd:decide ((i:Int) < (leadP (zac v i R) s (i + R + s):Nat))=decide (i < leadP (zac v i R) s (i + R + s)):=decide_eq_decide.mpr (by omega)
  simp only [cmpW,cmpI,van,ofsome,hd]
 intro n
 induction n with
 | zero=>
  intro s fu hf hs s0
  obtain ⟨fu,rfl⟩:∃ m,fu=m + 1:=⟨fu - 1,by omega⟩
  have:s=q:=by omega
  subst this
  have ec:=ecs s s0 q1
  rw [decide_eq_false (by have:=(zkp (v:=v) (i:=i) (q:=s) R0).mpr L.pr; omega)] at ec
  rw [whlG,ec,bindok]
 | succ n ih=>
  intro s fu hf hs s0
  obtain ⟨fu,rfl⟩:∃ m,fu=m + 1:=⟨fu - 1,by omega⟩
  have ec:=ecs s s0 (by omega)
  rw [decide_eq_true (Nat.lt_of_not_le fun z=>L.no s s0 (by omega) ((zkp R0).mp z))] at ec
  have eb:exs (run F (k + 1)) za6 [some w0,some w1,some w2,some (.int (i:Int)),some (.ref l4),some (.ref l5),some (.int (s:Int)),x7] h=.ok (.nx [some w0,some w1,some w2,some (.int (i:Int)),some (.ref l4),some (.ref l5),some (.int ((s + 1:Nat):Int)),x7]) h:=by
   unfold za6
   exact (zaa (setE (opE (varE rfl) rfl (show opW .add (.int (s:Int)) (.int 1) h=.ok (.int ((s + 1:Nat):Int)) h from rfl)))).trans rfl
  rw [whlG,ec,bindok]
  show Res.bind (exs (run F (k + 1)) za6 _ _) _=_
  rw [eb,bindok]
  exact ih (s + 1) fu (by omega) (by omega) (by omega)
theorem zlj {k:Nat} {h:VH} {a c l i R q:Nat} {v:List Int} (g1:h.get l=some (.lst [.ref a,.ref c,.int (i:Int)])) (g2:h.get c=some (.lst (v.map .int))) (hv:v.length=i + R) (R0:1≤R) (h5:v.length≤5000) (L:Least (fun j=>zac v i R (i + j)) R q) :
 run F (k + 2) 323 [.ref l] h=.ok (.tup [iW (seg (zac v i R) 0 (leadP (zac v i R) q i)),iW (seg (zac v i R) (leadP (zac v i R) q i) q)]) h:=by
 rw [zag C.f323 rfl]
 have g1':VH.get ⟨h.n,h.n,h.os⟩ l=some (.lst [.ref a,.ref c,.int (i:Int)]):=by rw [get_lo]; exact g1
 have g2':VH.get ⟨h.n,h.n,h.os⟩ c=some (.lst (v.map .int)):=by rw [get_lo]; exact g2
 have hc:=zar g2
 have q0:=L.q0
 have q1:=L.q1
 have hr:(v.drop i).length=R:=by rw [List.length_drop]; omega
 have s4:ev (run F (k + 1)) (.slc (.var 2) true (.var 3) false (.cst .non)) [some (.ref l),some (.ref a),some (.ref c),some (.int (i:Int)),none,none,none,none] ⟨h.n,h.n,h.os⟩=.ok (.ref h.n) (VH.new ⟨h.n,h.n,h.os⟩ (.lst ((v.drop i).map .int))):=slcE (varE rfl) (varE rfl) rfl rfl rfl (by
  rw [zjk g2',zof (by rw [vab]; omega),← List.map_drop])
 generalize hh1:VH.new ⟨h.n,h.n,h.os⟩ (.lst ((v.drop i).map .int))=h1 at s4
 have n1:h1.n=h.n + 1:=by rw [← hh1]; rfl
 have lo1:h1.lo=h.n:=by rw [← hh1]; rfl
 have gc1:h1.get c=some (.lst (v.map .int)):=by rw [← hh1]; exact (zad (h:=⟨h.n,h.n,h.os⟩) hc).trans g2'
 have g41:h1.get h.n=some (.lst ((v.drop i).map .int)):=by rw [← hh1]; exact zao (h:=⟨h.n,h.n,h.os⟩)
 have o1:=znp (h:=h1) gc1 g41 (by rw [vab,vab,hr]; omega)
 have g42:(h1.new (.lst (v.map .int++(v.drop i).map .int))).get h.n=some (.lst ((v.drop i).map .int)):=(zad (by omega)).trans g41
 have o2:=znp (h:=h1.new (.lst (v.map .int++(v.drop i).map .int))) (i:=h1.n) zao g42 (by rw [vag,vab,vab,hr]; omega)
 generalize hh2:h1.new (.lst (v.map .int++(v.drop i).map .int))=h2 at o1 o2 g42
 have n2:h2.n=h.n + 2:=by rw [← hh2]; show h1.n + 1=_; omega
 have lo2:h2.lo=h.n:=by rw [← hh2]; exact lo1
 have g43:(h2.new (.lst (v.map .int++(v.drop i).map .int++(v.drop i).map .int))).get h.n=some (.lst ((v.drop i).map .int)):=(zad (by omega)).trans g42
 have o3:=znp (h:=h2.new (.lst (v.map .int++(v.drop i).map .int++(v.drop i).map .int))) (i:=h2.n) zao g43 (by rw [vag,vag,vab,vab,hr]; omega)
 generalize hh3:h2.new (.lst (v.map .int++(v.drop i).map .int++(v.drop i).map .int))=h3 at o2 o3 g43
 have n3:h3.n=h.n + 3:=by rw [← hh3]; show h2.n + 1=_; omega
 have lo3:h3.lo=h.n:=by rw [← hh3]; exact lo2
 have hlong:(v.map W.int++(v.drop i).map .int++(v.drop i).map .int++(v.drop i).map .int)=(seg (zac v i R) 0 (i + R + R + R + R)).map .int:=by
  rw [zjh hv]; simp only [List.map_append]
 rw [hlong] at o3
 have g44:(h3.new (.lst ((seg (zac v i R) 0 (i + R + R + R + R)).map .int))).get h.n=some (.lst ((v.drop i).map .int)):=(zad (by omega)).trans g43
 have g54:(h3.new (.lst ((seg (zac v i R) 0 (i + R + R + R + R)).map .int))).get h3.n=some (.lst ((seg (zac v i R) 0 (i + R + R + R + R)).map .int)):=zao
 generalize hh4:h3.new (.lst ((seg (zac v i R) 0 (i + R + R + R + R)).map .int))=h4 at o3 g44 g54
 have n4:h4.n=h.n + 4:=by rw [← hh4]; show h3.n + 1=_; omega
 have lo4:h4.lo=h.n:=by rw [← hh4]; exact lo3
 have s5:ev (run F (k + 1)) (.op .add (.op .add (.op .add (.var 2) (.var 4)) (.var 4)) (.var 4)) [some (.ref l),some (.ref a),some (.ref c),some (.int (i:Int)),some (.ref h.n),none,none,none] h1=.ok (.ref h3.n) h4:=opE (opE (opE (varE rfl) (varE rfl) o1) (varE rfl) o2) (varE rfl) o3
 have ew:=zom C (k:=k) (h:=h4) (w0:=.ref l) (w1:=.ref a) (w2:=.ref c) (x7:=none) g54 g44 hv R0 h5 L (q - 1) 1 fuel (by have:fuel=1000000:=rfl; omega) (by omega) (by omega)
 have e7:=zkr C (k:=k) (f:=zac v i R) (h:=h4) (l:=h3.n) (q:=q) (m:=i + R) g54 (by omega) (by omega)
 rw [zqo L.pr] at e7
 have hA:=zgy (zac v i R) q i
 generalize leadP (zac v i R) q i=A at e7 hA ⊢
 have el:ev (run F (k + 1)) (.bi .len (.cons (.var 4) .nil)) [some (.ref l),some (.ref a),some (.ref c),some (.int (i:Int)),some (.ref h.n),some (.ref h3.n),some (.int (q:Int)),none] h4=.ok (.int (R:Int)) h4:=by
  have:=lenE (cl:=run F (k + 1)) (a:=.var 4) (ρ:=[some (.ref l),some (.ref a),some (.ref c),some (.int (i:Int)),some (.ref h.n),some (.ref h3.n),some (.int (q:Int)),none]) (h:=h4) (x:=.ref h.n) (ws:=(v.drop i).map .int) (varE rfl) (by simp only [seqW,g44])
  rw [vab,hr] at this
  exact this
 have t1:cutW ((seg (zac v i R) 0 (i + R + R + R + R)).map .int) none (some (A:Int))=(seg (zac v i R) 0 A).map .int:=by
  rw [zgz (by rw [vab,zba]; omega),← List.map_take,zdd _ (by omega)]
 have t2:cutW ((seg (zac v i R) 0 (i + R + R + R + R)).map .int) (some (A:Int)) (some ((A + q:Nat):Int))=(seg (zac v i R) A q).map .int:=by
  rw [zt2 (by rw [vab,zba]; omega),← List.map_drop,← List.map_take,zgx _ (by omega),Nat.zero_add,zdd _ (by omega)]
 have s8:ev (run F (k + 1)) (.slc (.var 5) false (.cst .non) true (.var 7)) [some (.ref l),some (.ref a),some (.ref c),some (.int (i:Int)),some (.ref h.n),some (.ref h3.n),some (.int (q:Int)),some (.int (A:Int))] h4=.ok (.ref h4.n) (h4.new (.lst ((seg (zac v i R) 0 A).map .int))):=slcE (varE rfl) rfl (varE rfl) rfl rfl (by rw [zjk g54,t1])
 have g55:(h4.new (.lst ((seg (zac v i R) 0 A).map .int))).get h3.n=some (.lst ((seg (zac v i R) 0 (i + R + R + R + R)).map .int)):=(zad (by omega)).trans g54
 have s9:ev (run F (k + 1)) (.slc (.var 5) true (.var 7) true (.op .add (.var 7) (.var 6))) [some (.ref l),some (.ref a),some (.ref c),some (.int (i:Int)),some (.ref h.n),some (.ref h3.n),some (.int (q:Int)),some (.int (A:Int))] (h4.new (.lst ((seg (zac v i R) 0 A).map .int)))=.ok (.ref (h4.n + 1)) ((h4.new (.lst ((seg (zac v i R) 0 A).map .int))).new (.lst ((seg (zac v i R) A q).map .int))):=slcE (varE rfl) (varE rfl) (opE (varE rfl) (varE rfl) (show opW .add (.int (A:Int)) (.int (q:Int)) _=.ok (.int ((A + q:Nat):Int)) _ from rfl)) rfl rfl (by rw [zjk g55,t2]; rfl)
 have eb:exs (run F (k + 1)) zb9.body [some (.ref l),none,none,none,none,none,none,none] ⟨h.n,h.n,h.os⟩=.ok (.rt (.tup [iW (seg (zac v i R) 0 A),iW (seg (zac v i R) A q)])) ((h4.new (.lst ((seg (zac v i R) 0 A).map .int))).new (.lst ((seg (zac v i R) A q).map .int))):=by
  refine (zaa (ρ':=[some (.ref l),some (.ref a),some (.ref c),some (.int (i:Int)),none,none,none,none]) (h':=⟨h.n,h.n,h.os⟩) ?_).trans ?_
  ·rw [exs,varE (x:=.ref l) rfl,bindok]
   simp only [tgW,seqW,g1',zaw,vau,vas,van,ofsome]
  refine (zaa (ρ':=[some (.ref l),some (.ref a),some (.ref c),some (.int (i:Int)),none,none,none,none]) (h':=⟨h.n,h.n,h.os⟩) ((iteF (h1:=⟨h.n,h.n,h.os⟩) rfl).trans rfl)).trans ?_
  refine (zaa (setE s4)).trans ?_
  refine (zaa (setE s5)).trans ?_
  refine (zaa (setE rfl)).trans ?_
  refine (zaa (show exs (run F (k + 1)) (.whl zbf za6) _ _=_ from ew)).trans ?_
  refine (zaa (setE (zfu (varE rfl) (varE rfl) (opE (varE rfl) el (show opW .add (.int (i:Int)) (.int (R:Int)) h4=.ok (.int ((i + R:Nat):Int)) h4 from rfl)) e7))).trans ?_
  exact zab (retE (tup2E (zfp s8 zao) (zfp s9 (zao (h:=h4.new (.lst ((seg (zac v i R) 0 A).map .int)))))))
 show fin h (exs (run F (k + 1)) zb9.body [some (.ref l),none,none,none,none,none,none,none] ⟨h.n,h.n,h.os⟩)=_
 rw [eb]
 refine zai ?_ (by simp [iW_lt])
 show h.n≤h4.lo
 omega
end
theorem zt4 {nx:Nat→VH→Option (Option W)} {tg:W→VH→En→Option En} {c e:En→VH→Res W} {ρ0 ρ1 ρ2:En} {h0 h1 h2:VH} {w0 w1 y0 y1:W} (n0:nx 0 h0=some (some w0)) (t0:tg w0 h0 ρ0=some ρ1) (c0:c ρ1 h0=.ok (.bl true) h0) (e0:e ρ1 h0=.ok y0 h1)
 (n1:nx 1 h1=some (some w1)) (t1:tg w1 h1 ρ1=some ρ2) (c1:c ρ2 h1=.ok (.bl true) h1) (e1:e ρ2 h1=.ok y1 h2) (n2:nx 2 h2=some none) (f:Nat):lcG nx tg c e (f + 3) 0 ρ0 h0 []=.ok [y0,y1] h2:=by
 rw [lcG,n0]
 simp only [t0,c0,bindok,e0]
 rw [lcG,n1]
 simp only [t1,c1,bindok,e1]
 rw [lcG,n2]; rfl
theorem zlk {nx:Nat→VH→Option (Option W)} {tg:W→VH→En→Option En} {b:En→VH→Res Fl} {ρ0 ρ1 ρ2 ρ3:En} {h:VH} {w0 w1 w2:W} (n0:nx 0 h=some (some w0)) (t0:tg w0 h ρ0=some ρ1) (e0:b ρ1 h=.ok (.nx ρ1) h)
 (n1:nx 1 h=some (some w1)) (t1:tg w1 h ρ1=some ρ2) (e1:b ρ2 h=.ok (.nx ρ2) h) (n2:nx 2 h=some (some w2)) (t2:tg w2 h ρ2=some ρ3) (e2:b ρ3 h=.ok (.nx ρ3) h) (n3:nx 3 h=some none) (f:Nat):forG nx tg b (f + 4) 0 ρ0 h=.ok (.nx ρ3) h:=by
 rw [forG,n0]
 simp only [t0,bindok,e0]
 rw [forG,n1]
 simp only [t1,bindok,e1]
 rw [forG,n2]
 simp only [t2,bindok,e2]
 rw [forG,n3]
theorem Dk.gx {h h':VH} {d c b:Nat} (D:Dk h d c b) (g:∀ i o,h.get i=some o→h'.get i=some o):Dk h' d c b:=by
 obtain ⟨ne,ns,cells,p,q,a1,a2,a3⟩:=D
 exact ⟨ne,ns,cells,p,q,g _ _ a1,g _ _ a2,a3⟩
theorem Dk.lt {h:VH} {d c b:Nat} (D:Dk h d c b):d < h.n∧c < h.n:=by
 obtain ⟨ne,ns,cells,p,q,a1,a2,a3⟩:=D
 exact ⟨zar a1,zar a2⟩
theorem zik {h:VH} {i j:Nat} {ws:List W} {w:W} (g:h.get i=some (.lst ws)) (e:ws[j]?=some w):idxW h (.ref i) (.int (j:Int))=some w:=by
 simp only [idxW,g]
 exact zbk e
theorem zon {h h':VH} {l:Nat} (hl:h.n≤l):∃ h2,fin h (.ok (.rt (.ref l)) h')=.ok (.ref l) h2∧h2.n=h'.n∧∀ i,h2.get i=h'.get i:=by
 have hlt:W.lt h.n (.ref l)=false:=by show Nat.blt l h.n=false; exact zcd hl
 refine ⟨⟨h'.n,if Nat.ble h.lo h'.lo then h.lo else h'.lo,h'.os⟩,?_,rfl,fun i=>get_lo⟩
 show leave h (.ref l) h'=_
 unfold leave; rw [hlt,Bool.and_false]; rfl
section
variable {F:Nat→Option Fn} (C:C22 F)
include C
theorem ze3 {k:Nat} {h:VH} {d c bb:Nat} {B:Bd} (b:B.Ok) (D:Dk h d c bb) (hb:bb + 20 < 1000000000) :
 ∃ s h',run F (k + 5) 93 [.ref d,B.w] h=.ok (stW s) h'∧GoodS B s∧Dk h' d c (bb + 20)∧Keep h h' d c:=by
 rw [zag C.f93 rfl]
 obtain ⟨g,hg⟩:=Int.eq_ofNat_of_zero_le b.g1
 have hg8:g≤8:=by have:=b.g2; omega
 have hf1:=b.f1
 have hf4:=b.f2
 have D0:Dk ⟨h.n,h.n,h.os⟩ d c bb:=D.lo
 obtain ⟨ls,h1,e1,l1,b1,D1,K1⟩:=zjd C.q.toCoreD (k:=k) (g:=g) C.f20 D0 (by omega) hg8
 obtain ⟨r,h2,e2,r0,r1,D2,K2⟩:=take C.q.toCoreD (k:=k + 1) (m:=(B.fd.length:Int)) D1 (by omega) (by omega) (by omega)
 obtain ⟨f,rfl⟩:=Int.eq_ofNat_of_zero_le r0
 obtain ⟨t,h3,e3,t0,t1,D3,K3⟩:=take C.q.toCoreD (k:=k + 1) (m:=12) D2 (by omega) (by omega) (by omega)
 have i1:idxW ⟨h.n,h.n,h.os⟩ B.w (.int 1)=some (.int B.gr):=rfl
 have i3:idxW h1 B.w (.int 3)=some (.tup B.fd):=rfl
 have ec:ev (run F (k + 4)) (.cmp .eq (.call 5 (.cons (.var 0) (.cons (.cst (.int (12))) .nil))) (.cst (.int (7)))) [some (.ref d),some B.w,some (iW ls),some (.int f)] h2=.ok (.bl (decide (t=7))) h3:=by
  rw [ev,zav (x:=.ref d) (y:=.int 12) (varE rfl) rfl e3,bindok,ev,bindok]
  simp only [cmpW,zaq,van,ofsome]
 have eb:exs (run F (k + 4)) fn93.body [some (.ref d),some B.w,none,none] ⟨h.n,h.n,h.os⟩=.ok (.rt (stW (ls,if t=7 then none else some f))) h3:=by
  refine (zaa (setE (zav (varE rfl) (idxE (varE rfl) rfl i1) (by rw [hg]; exact e1)))).trans ?_
  refine (zaa (setE (zav (varE rfl) (lenE (ws:=B.fd) (idxE (varE rfl) rfl i3) rfl) e2))).trans ?_
  by_cases z:t=7
  ·rw [if_pos z]
   rw [decide_eq_true z] at ec
   refine zab ?_
   refine (iteT ec).trans ?_
   exact zab (retE (tup2E (varE rfl) rfl))
  ·rw [if_neg z]
   rw [decide_eq_false z] at ec
   refine (zaa (ρ':=[some (.ref d),some B.w,some (iW ls),some (.int f)]) (h':=h3) ?_).trans (zab (retE (tup2E (varE rfl) (varE rfl))))
   exact (iteF ec).trans rfl
 obtain ⟨h5,e5,D5,K5⟩:=zbj (cl:=run F (k + 4)) (fl:=.nx []) (h:=h) eb (.inr ⟨bb,D⟩) (D3.mono (show _≤bb + 20 by omega)) ((K1.trans K2).trans K3)
 refine ⟨_,h5,e5,⟨by show (ls.length:Int)=B.gr; omega,b1,fun f' e=>?_⟩,D5,K5⟩
 have e:(if t=7 then none else some f)=some f':=e
 split at e
 ·cases e
 ·cases e; omega
theorem zoo {k:Nat} {h:VH} {d c bb:Nat} (D:Dk h d c bb) (hb:bb + 14000 < 1000000000) :
 ∃ B h',run F (k + 7) 99 [.ref d] h=.ok (Bd.w B) h'∧B.Ok∧Dk h' d c (bb + 14000)∧Keep h h' d c:=by
 rw [zag C.f99 rfl]
 have D0:Dk ⟨h.n,h.n,h.os⟩ d c bb:=D.lo
 obtain ⟨t,h1,e1,t0,t1,D1,K1⟩:=take C.q.toCoreD (k:=k + 3) (m:=8) D0 (by omega) (by omega) (by omega)
 have es:exs (run F (k + 6)) (.set 1 (.call 5 (.cons (.var 0) (.cons (.cst (.int (8))) .nil)))) [some (.ref d),none] ⟨h.n,h.n,h.os⟩=.ok (.nx [some (.ref d),some (.int t)]) h1:=setE (zav (varE rfl) rfl e1)
 have ec:∀ j:Int,ev (run F (k + 6)) (.cmp .eq (.var 1) (.cst (.int j))) [some (.ref d),some (.int t)] h1=.ok (.bl (decide (t=j))) h1:=fun j=>by
  simp [ev,cmpW,zaq]
 obtain ⟨mw,mr,mg,hw1,hw2,hr1,hr2,hg1,hg2,hx⟩:∃ mw mr mg:Int,1≤mw∧mw≤40∧0≤mr∧mr≤60∧0≤mg∧mg≤8∧∀ w h2,run F (k + 6) 26 [.ref d,.int mw,.int mr,.int mg] h1=.ok w h2→exs (run F (k + 6)) fn99.body [some (.ref d),none] ⟨h.n,h.n,h.os⟩=.ok (.rt w) h2:=by
  by_cases z:t=0
  ·refine ⟨40,60,8,by decide,by decide,by decide,by decide,by decide,by decide,fun w h2 e=>?_⟩
   refine (zaa es).trans (zab ?_)
   rw [iteT (by rw [ec,decide_eq_true z])]
   exact zab (retE (zfv (varE rfl) rfl rfl rfl e))
  ·by_cases z1:t=1
   ·refine ⟨6,12,6,by decide,by decide,by decide,by decide,by decide,by decide,fun w h2 e=>?_⟩
    refine (zaa es).trans ?_
    refine (zaa (ρ':=[some (.ref d),some (.int t)]) (h':=h1) (by rw [iteF (by rw [ec,decide_eq_false z])]; rfl)).trans (zab ?_)
    rw [iteT (by rw [ec,decide_eq_true z1])]
    exact zab (retE (zfv (varE rfl) rfl rfl rfl e))
   ·refine ⟨9,8,4,by decide,by decide,by decide,by decide,by decide,by decide,fun w h2 e=>?_⟩
    refine (zaa es).trans ?_
    refine (zaa (ρ':=[some (.ref d),some (.int t)]) (h':=h1) (by rw [iteF (by rw [ec,decide_eq_false z])]; rfl)).trans ?_
    refine (zaa (ρ':=[some (.ref d),some (.int t)]) (h':=h1) (by rw [iteF (by rw [ec,decide_eq_false z1])]; rfl)).trans (zab ?_)
    exact retE (zfv (varE rfl) rfl rfl rfl e)
 obtain ⟨B,h2,e2,b,_,_,_,D2,K2⟩:=zet C.q (k:=k) (mw:=mw) (mr:=mr) (mg:=mg) D1 (by omega) hw1 hw2 hr1 hr2 hg1 hg2
 obtain ⟨h5,e5,D5,K5⟩:=zbj (cl:=run F (k + 6)) (fl:=.nx []) (h:=h) (hx _ _ e2) (.inr ⟨bb,D⟩) (D2.mono (show _≤bb + 14000 by omega)) (K1.trans K2)
 exact ⟨B,h5,e5,b,D5,K5⟩
theorem zop {B:Bd} {s:Stn} (b:B.Ok) (g:GoodS B s):∃ ww,nestN 2 ww=true∧(∀ n,W.lt n ww=true)∧(∀ (k:Nat) (h:VH),run F (k + 5) 200 [B.w,papW (everP B 1280 [s] (nextS B s))] h=.ok ww h) ∧
 ∀ (k:Nat) (h:VH) (l a c:Nat),h.get l=some (.lst [.ref a,.ref c,backW (everP B 1280 [s] (nextS B s)).2])→h.get c=some (.lst (if (everP B 1280 [s] (nextS B s)).2=none then nmL B (everP B 1280 [s] (nextS B s)).1 else (everP B 1280 [s] (nextS B s)).1.map (nmS B)))→run F (k + 2) 323 [.ref l] h=.ok ww h:=by
 obtain ⟨nd,gd⟩:=zgw b 1280 [s] (nextS B s) (by simp) (fun t ht=>by rw [List.mem_singleton.mp ht]; exact g) (fun t ht=>zbe b g ht)
 have hlast:=zig b 1280 [s] s (show 1281≤1280 + 1 by decide) (by simp) (fun t ht=>by rw [List.mem_singleton.mp ht]; exact g) rfl
 have hback:=fun i=>zif (B:=B) 1280 [s] (nextS B s) (i:=i)
 have hch:=fun i=>zf1 (B:=B) 1280 [s] (nextS B s) (i:=i) (fun x hx=>by rw [List.mem_singleton.mp hx]; exact .inl rfl)
 generalize everP B 1280 [s] (nextS B s)=E at *
 have hfew:=few b nd gd
 cases hE:E.2 with
 | none=>
  obtain ⟨t,ht,ht2⟩:=hlast hE
  have hn:∀ w∈(E.1.map (nmS B)).filter nnW,w=.non∨∃ i:Int,w=.int i:=by
   intro w hw
   obtain ⟨hw,_⟩:=List.mem_filter.mp hw
   obtain ⟨u,hu,rfl⟩:=List.mem_map.mp hw
   obtain ⟨ls,fo⟩:=u
   cases fo with
   | none=>exact .inl rfl
   | some f=>
    obtain ⟨hl,bi,hf⟩:=gd _ hu
    obtain ⟨_,_,h3⟩:=zhy b (hf f rfl) hl bi
    exact h3
  have hlts:=fun n=>zn3 n hn
  have hlen:((E.1.map (nmS B)).filter nnW).length≤1280:=by have:=List.length_filter_le nnW (E.1.map (nmS B)); rw [vab] at this; omega
  refine ⟨.tup [.tup ((E.1.map (nmS B)).filter nnW),.tup []],?_,fun n=>by simp [hlts n],fun k h=>zok C.o b gd hfew hE hlts,fun k h l a c g1 g2=>?_⟩
  ·have h1:nestN 1 (.tup ((E.1.map (nmS B)).filter nnW))=true:=by
    unfold nestN
    rw [vac,List.all_eq_true]
    refine ⟨Nat.ble_eq.mpr (by omega),fun w hw=>?_⟩
    rcases hn w hw with rfl | ⟨i,rfl⟩ <;> rfl
   show (Nat.ble 2 5000 && [.tup ((E.1.map (nmS B)).filter nnW),.tup []].all (nestN 1))=true
   have h0:nestN 1 (.tup [])=true:=rfl
   simp [h1,h0]
  ·rw [if_pos rfl] at g2
   have e:=zjj (B:=B) ht ht2
   have:=zli C (k:=k) g1 g2 (by unfold nmL; rw [vab,List.length_dropLast]; omega) (by rw [e]; exact hlts)
   rw [e] at this
   exact this
 | some i=>
  obtain ⟨v,hv⟩:=zoj b gd (hch i hE)
  have hvl:v.length=E.1.length:=by have:=congrArg List.length hv; rw [vab,vab] at this; exact this.symm
  have hi:i < v.length:=by rw [hvl]; exact hback i hE
  obtain ⟨q,L⟩:=zqn (zde v i (v.length - i)) (by omega)
  have q1:=L.q1
  have hA:=zgy (zac v i (v.length - i)) q i
  refine ⟨_,?_,fun n=>?_,fun k h=>zol C.o b gd hfew hE hv hi L,fun k h l a c g1 g2=>?_⟩
  ·have hs:∀ (f:Nat→Int) (a n:Nat),n≤5000→nestN 1 (iW (seg f a n))=true:=fun f a n hn=>by
    unfold iW nestN
    rw [vac,List.all_eq_true]
    refine ⟨Nat.ble_eq.mpr (by rw [vab,zba]; exact hn),fun w hw=>?_⟩
    obtain ⟨j,_,rfl⟩:=List.mem_map.mp hw
    rfl
   show (Nat.ble 2 5000 && [iW (seg (zac v i (v.length - i)) 0 (leadP (zac v i (v.length - i)) q i)),iW (seg (zac v i (v.length - i)) (leadP (zac v i (v.length - i)) q i) q)].all (nestN 1))=true
   simp [hs _ _ _ (show leadP (zac v i (v.length - i)) q i≤5000 by omega),hs _ _ _ (show q≤5000 by omega)]
  ·simp [iW_lt]
  ·rw [if_neg (by simp),hv] at g2
   exact zlj C (k:=k) g1 g2 (by omega) (by omega) (by omega) L
theorem zll {k:Nat} {h:VH} {B:Bd} {s:Stn} {ww:W} (b:B.Ok) (g:GoodS B s) (hw:∀ n,W.lt n ww=true) (e:∀ (k:Nat) (h:VH),run F (k + 5) 200 [B.w,papW (everP B 1280 [s] (nextS B s))] h=.ok ww h):run F (k + 11) 203 [B.w,stW s] h=.ok ww h:=by
 rw [zag C.o.f203 rfl]
 have e2:=zqj C.o.toCoreE C.b (k:=k) (h:=⟨h.n,h.n,h.os⟩) b g
 rw [zfy 1280] at e2
 have eb:exs (run F (k + 10)) fn203.body [some B.w,some (stW s)] ⟨h.n,h.n,h.os⟩=.ok (.rt ww) ⟨h.n,h.n,h.os⟩:=zab (retE (zav (varE rfl) (zav (varE rfl) (varE rfl) e2) (e (k + 5) _)))
 show fin h (exs (run F (k + 10)) fn203.body [some B.w,some (stW s)] ⟨h.n,h.n,h.os⟩)=_
 rw [eb]
 exact zai (vae _) (hw _)
theorem zlm {k:Nat} {h:VH} {B:Bd} {s:Stn} {ww:W} (b:B.Ok) (g:GoodS B s) (hn:nestN 2 ww=true) (e:∀ (k:Nat) (h:VH),run F (k + 5) 200 [B.w,papW (everP B 1280 [s] (nextS B s))] h=.ok ww h):run F (k + 11) 269 [B.w,stW s,papW (everP B 1280 [s] (nextS B s)),ww] h=.ok (.bl true) h:=by
 rw [zag C.o.f269 rfl]
 have e2:=zlg C.o.toCoreH C.b.toCoreA C.o.toCoreE C.b (k:=k) (h:=⟨h.n,h.n,h.os⟩) b g
 rw [zfy 1280] at e2
 have e3:=zji C.o.toCoreH C.b.toCoreA 2 (k:=k + 6) (h:=⟨h.n,h.n,h.os⟩) hn
 have eb:exs (run F (k + 10)) fn269.body [some B.w,some (stW s),some (papW (everP B 1280 [s] (nextS B s))),some ww] ⟨h.n,h.n,h.os⟩=.ok (.rt (.bl true)) ⟨h.n,h.n,h.os⟩:=by
  refine zab (retE ?_)
  rw [ev,zfu (varE rfl) (varE rfl) (varE rfl) e2,bindok]
  exact zav (varE rfl) (zav (varE rfl) (varE rfl) (e (k + 5) _)) e3
 show fin h (exs (run F (k + 10)) fn269.body [some B.w,some (stW s),some (papW (everP B 1280 [s] (nextS B s))),some ww] ⟨h.n,h.n,h.os⟩)=_
 rw [eb]
 exact zai (vae _) (by simp)
theorem zoq {k:Nat} {h:VH} {B:Bd} {s:Stn} (b:B.Ok) (g:GoodS B s):run F (k + 12) 700 [B.w,stW s] h=.ok (.bl true) h:=by
 rw [zag C.f700 rfl]
 obtain ⟨i,a,c,h1,e1,g1,g2,g3,_,_,G⟩:=zic C.x (k:=k + 8) (h:=⟨h.n,h.n,h.os⟩) b g
 obtain ⟨ww,w1,w2,w3,w4⟩:=zop C b g
 have e2:=w4 (k + 9) h1 i a c g1 g3
 have e3:=zll C (k:=k) (h:=h1) b g w2 w3
 have e4:=zlm C (k:=k) (h:=h1) b g w1 w3
 have e5:=zqm C.m 2 (k:=k + 7) (h:=h1) w1
 generalize hE:everP B 1280 [s] (nextS B s)=E at *
 have ec:ev (run F (k + 11)) (.not (.tru (.call 92 (.cons (.call 203 (.cons (.var 0) (.cons (.var 1) .nil))) (.cons (.var 3) .nil))))) [some B.w,some (stW s),some (.ref i),some ww] h1=.ok (.bl false) h1:=by
  rw [ev,truE (zav (zav (varE rfl) (varE rfl) e3) (varE rfl) e5)]; rfl
 have ep:ev (run F (k + 11)) (.tup (.cons (.bi .tuple (.cons (.idx (.var 2) (.cst (.int (0)))) .nil)) (.cons (.idx (.var 2) (.cst (.int (2)))) .nil))) [some B.w,some (stW s),some (.ref i),some ww] h1=.ok (papW E) h1:=tup2E (zfp (idxE (varE rfl) rfl (zik (j:=0) g1 rfl)) g2) (idxE (varE rfl) rfl (zik (j:=2) g1 rfl))
 have eb:exs (run F (k + 11)) zeb.body [some B.w,some (stW s),none,none] ⟨h.n,h.n,h.os⟩=.ok (.rt (.bl true)) h1:=by
  refine (zaa (setE (zav (varE rfl) (varE rfl) e1))).trans ?_
  refine (zaa (setE (zev (varE rfl) e2))).trans ?_
  refine (zaa ((iteF ec).trans rfl)).trans ?_
  refine zab (retE ?_)
  rw [ev,zfv (varE rfl) (varE rfl) ep (varE rfl) e4,bindok]
  rfl
 show fin h (exs (run F (k + 11)) zeb.body [some B.w,some (stW s),none,none] ⟨h.n,h.n,h.os⟩)=_
 rw [eb]
 exact zai (by rw [G.lo rfl]; exact vae _) (by simp)
end
section
variable {F:Nat→Option Fn} (C:C22 F)
include C
theorem near {k:Nat} {h:VH} {d c bb:Nat} (D:Dk h d c bb) (hb:bb + 40000 < 1000000000) :
 ∃ B s l h',run F (k + 8) 132 [.ref d] h=.ok (.ref l) h'∧h'.get l=some (.lst [Bd.w B,stW s])∧B.Ok∧GoodS B s∧h.n≤l∧Dk h' d c (bb + 40000)∧Keep h h' d c:=by
 rw [zag C.f132 rfl]
 have D0:Dk ⟨h.n,h.n,h.os⟩ d c bb:=D.lo
 obtain ⟨B,h1,e1,b,D1,K1⟩:=zoo C (k:=k) D0 (by omega)
 obtain ⟨s,h2,e2,gs,D2,K2⟩:=ze3 C (k:=k + 2) b D1 (by omega)
 obtain ⟨i,a,c',h3,e3,g1,g2,_,hna,_,G⟩:=zic C.x (k:=k + 4) (h:=h2) b gs
 obtain ⟨nd,gd⟩:=zgw b 1280 [s] (nextS B s) (by simp) (fun t ht=>by rw [List.mem_singleton.mp ht]; exact gs) (fun t ht=>zbe b gs ht)
 generalize everP B 1280 [s] (nextS B s)=E at *
 have hfew:=few b nd gd
 have D3:=D2.gx G.get
 have K3:Keep h2 h3 d c:=⟨G.le,fun i o _ _ e=>G.get i o e⟩
 have hr:=b.r1
 have el:ev (run F (k + 7)) (.bi .len (.cons (.idx (.call 112 (.cons (.var 1) (.cons (.var 2) .nil))) (.cst (.int (0)))) .nil)) [some (.ref d),some B.w,some (stW s)] h2=.ok (.int (E.1.length:Int)) h3:=by
  have:=lenE (cl:=run F (k + 7)) (a:=.idx (.call 112 (.cons (.var 1) (.cons (.var 2) .nil))) (.cst (.int (0)))) (ρ:=[some (.ref d),some B.w,some (stW s)]) (h:=h2) (h1:=h3) (x:=.ref a) (ws:=E.1.map stW) (idxE (zav (varE rfl) (varE rfl) e3) rfl (zik (j:=0) g1 rfl)) (by simp only [seqW,g2])
  rw [vab] at this
  exact this
 have er:ev (run F (k + 7)) (.bi .len (.cons (.idx (.var 1) (.cst (.int (2)))) .nil)) [some (.ref d),some B.w,some (stW s)] h3=.ok (.int (B.rows.length:Int)) h3:=by
  have:=lenE (cl:=run F (k + 7)) (a:=.idx (.var 1) (.cst (.int (2)))) (ρ:=[some (.ref d),some B.w,some (stW s)]) (h:=h3) (h1:=h3) (x:=.tup (B.rows.map .tup)) (ws:=B.rows.map .tup) (idxE (varE rfl) rfl rfl) rfl
  rw [vab] at this
  exact this
 have em:opW .mul (.int (E.1.length:Int)) (.int (B.rows.length:Int)) h3=.ok (.int ((E.1.length:Int) * (B.rows.length:Int))) h3:=by
  have hs:zbd (E.1.length:Int)=true:=zc5 (by omega) (by omega)
  simp only [opW,opI,hs,Bool.true_or,if_true,van,ofsome]
 have ec:ev (run F (k + 7)) (.cmp .gt (.op .mul (.bi .len (.cons (.idx (.call 112 (.cons (.var 1) (.cons (.var 2) .nil))) (.cst (.int (0)))) .nil)) (.bi .len (.cons (.idx (.var 1) (.cst (.int (2)))) .nil))) (.cst (.int (6000)))) [some (.ref d),some B.w,some (stW s)] h2=.ok (.bl (decide ((6000:Int) < (E.1.length:Int) * (B.rows.length:Int)))) h3:=by
  rw [ev,opE el er em,bindok,ev,bindok]
  simp only [cmpW,cmpI,van,ofsome]
 obtain ⟨hd3,hc3⟩:=D3.lt
 have hdn:d < h.n∧c < h.n:=D.lt
 by_cases z:(6000:Int) < (E.1.length:Int) * (B.rows.length:Int)
 ·rw [decide_eq_true z] at ec
  obtain ⟨B2,h4,e4,b2,_,_,_,D4,K4⟩:=zet C.q (k:=k + 1) (mw:=9) (mr:=8) (mg:=4) D3 (by omega) (by omega) (by omega) (by omega) (by omega) (by omega) (by omega)
  obtain ⟨s2,h5,e5,gs2,D5,K5⟩:=ze3 C (k:=k + 2) b2 D4 (by omega)
  have eb:exs (run F (k + 7)) fn132.body [some (.ref d),none,none] ⟨h.n,h.n,h.os⟩=.ok (.rt (.ref h5.n)) (h5.new (.lst [B2.w,stW s2])):=by
   refine (zaa (setE (zev (varE rfl) e1))).trans ?_
   refine (zaa (setE (zav (varE rfl) (varE rfl) e2))).trans ?_
   refine (zaa (ρ':=[some (.ref d),some B2.w,some (stW s2)]) (h':=h5) ?_).trans ?_
   ·refine (iteT ec).trans ?_
    refine (zaa (setE (zfv (varE rfl) rfl rfl rfl e4))).trans ?_
    exact (zaa (setE (zav (varE rfl) (varE rfl) e5))).trans rfl
   ·exact zab (retE (lst2E (varE rfl) (varE rfl)))
  have Kall:Keep ⟨h.n,h.n,h.os⟩ (h5.new (.lst [B2.w,stW s2])) d c:=((((K1.trans K2).trans K3).trans K4).trans K5).new
  have hle:h.n≤h5.n:=((((K1.trans K2).trans K3).trans K4).trans K5).le
  obtain ⟨h6,e6,n6,g6⟩:=zon (h:=h) (h':=h5.new (.lst [B2.w,stW s2])) hle
  refine ⟨B2,s2,h5.n,h6,?_,(g6 _).trans zao,b2,gs2,hle,?_,⟨by rw [n6]; exact Kall.le,fun i o x y e=>by rw [g6]; exact Kall.get i o x y (by rw [get_lo]; exact e)⟩⟩
  ·show fin h (exs (run F (k + 7)) fn132.body [some (.ref d),none,none] ⟨h.n,h.n,h.os⟩)=_
   rw [eb]; exact e6
  ·exact (D5.new.gx (h':=h6) fun i o e=>by rw [g6]; exact e).mono (by omega)
 ·rw [decide_eq_false z] at ec
  have eb:exs (run F (k + 7)) fn132.body [some (.ref d),none,none] ⟨h.n,h.n,h.os⟩=.ok (.rt (.ref h3.n)) (h3.new (.lst [B.w,stW s])):=by
   refine (zaa (setE (zev (varE rfl) e1))).trans ?_
   refine (zaa (setE (zav (varE rfl) (varE rfl) e2))).trans ?_
   refine (zaa (ρ':=[some (.ref d),some B.w,some (stW s)]) (h':=h3) ((iteF ec).trans rfl)).trans ?_
   exact zab (retE (lst2E (varE rfl) (varE rfl)))
  have Kall:Keep ⟨h.n,h.n,h.os⟩ (h3.new (.lst [B.w,stW s])) d c:=((K1.trans K2).trans K3).new
  have hle:h.n≤h3.n:=((K1.trans K2).trans K3).le
  obtain ⟨h6,e6,n6,g6⟩:=zon (h:=h) (h':=h3.new (.lst [B.w,stW s])) hle
  refine ⟨B,s,h3.n,h6,?_,(g6 _).trans zao,b,gs,hle,?_,⟨by rw [n6]; exact Kall.le,fun i o x y e=>by rw [g6]; exact Kall.get i o x y (by rw [get_lo]; exact e)⟩⟩
  ·show fin h (exs (run F (k + 7)) fn132.body [some (.ref d),none,none] ⟨h.n,h.n,h.os⟩)=_
   rw [eb]; exact e6
  ·exact (D3.new.gx (h':=h6) fun i o e=>by rw [g6]; exact e).mono (by omega)
theorem law22 {ns:List Int} (hl:ns.length≤63):zb4 (run F 30 701 [.fz (ns.map .int)] ⟨0,0,[]⟩)=true:=by
 rw [show (30:Nat)=29 + 1 from rfl,zag C.f701 rfl]
 obtain ⟨h1,e1,D1⟩:=deck C.q.toCoreD (k:=28) (h:=⟨0,0,[]⟩) hl
 obtain ⟨B1,s1,l1,h2,e2,g2,b1,gs1,hl1,D2,K2⟩:=near C (k:=21) D1 (by omega)
 obtain ⟨B2,s2,l2,h3,e3,g3,b2,gs2,hl2,D3,K3⟩:=near C (k:=21) D2 (by omega)
 obtain ⟨hd1,hc1⟩:=D1.lt
 have g2':=K3.get l1 _ (by omega) (by omega) g2
 have hn1:=zar g2'
 have hn2:=zar g3
 have hfu:fuel=999997 + 3:=rfl
 have hfu4:fuel=999996 + 4:=rfl
 have gl:(h3.new (.lst [.ref l1,.ref l2])).get h3.n=some (.lst [.ref l1,.ref l2]):=zao
 have gp1:(h3.new (.lst [.ref l1,.ref l2])).get l1=some (.lst [B1.w,stW s1]):=(zad hn1).trans g2'
 have gp2:(h3.new (.lst [.ref l1,.ref l2])).get l2=some (.lst [B2.w,stW s2]):=(zad hn2).trans g3
 generalize hh4:h3.new (.lst [.ref l1,.ref l2])=h4 at gl gp1 gp2
 have n4:h4.n=h3.n + 1:=by rw [← hh4]; rfl
 have two:∀ (h:VH) (e:E) (y1 y2:W),h.get h3.n=some (.lst [.ref l1,.ref l2])→h.get l1=some (.lst [B1.w,stW s1])→h.get l2=some (.lst [B2.w,stW s2])→ev (run F 29) e [some B1.w,some (stW s1)] h=.ok y1 h→ev (run F 29) e [some B2.w,some (stW s2)] h=.ok y2 h →
  lcG (nxt .seq (.ref h3.n)) (tgW (.many [0,1])) (ev (run F 29) (.cst (.bl true))) (ev (run F 29) e) fuel 0 [none,none] h []=.ok [y1,y2] h:=by
  intro h e y1 y2 a1 a2 a3 a4 a5
  have l:=zt4 (nx:=nxt .seq (.ref h3.n)) (tg:=tgW (.many [0,1])) (c:=ev (run F 29) (.cst (.bl true))) (e:=ev (run F 29) e) (ρ0:=[none,none]) (ρ1:=[some B1.w,some (stW s1)]) (ρ2:=[some B2.w,some (stW s2)]) (h0:=h) (h1:=h) (h2:=h) (w0:=.ref l1) (w1:=.ref l2) (y0:=y1) (y1:=y2)
   (by simp only [nxt,seqW,a1]; rfl) (by simp only [tgW,seqW,a2]; rfl) rfl a4 (by simp only [nxt,seqW,a1]; rfl) (by simp only [tgW,seqW,a3]; rfl) rfl a5 (by simp only [nxt,seqW,a1]; rfl) 999997
  rw [hfu]; exact l
 have el3:ev (run F 29) (.lc .seq (.var 2) (.many [0,1]) 2 [] (.cst (.bl true)) zcq) [some (.fz (ns.map .int)),some (.ref 1),some (.ref h3.n),none,none,none] h4=.ok (.ref h4.n) (h4.new (.lst [B1.w,B2.w])):=ze2 (varE rfl) (two h4 zcq B1.w B2.w gl gp1 gp2 rfl rfl) (show 2≤1000000 by decide)
 have gl5:(h4.new (.lst [B1.w,B2.w])).get h3.n=some (.lst [.ref l1,.ref l2]):=(zad (by omega)).trans gl
 have gq1:(h4.new (.lst [B1.w,B2.w])).get l1=some (.lst [B1.w,stW s1]):=(zad (by omega)).trans gp1
 have gq2:(h4.new (.lst [B1.w,B2.w])).get l2=some (.lst [B2.w,stW s2]):=(zad (by omega)).trans gp2
 have gb5:(h4.new (.lst [B1.w,B2.w])).get h4.n=some (.lst [B1.w,B2.w]):=zao
 generalize hh5:h4.new (.lst [B1.w,B2.w])=h5 at el3 gl5 gq1 gq2 gb5
 have n5:h5.n=h4.n + 1:=by rw [← hh5]; rfl
 have el4:ev (run F 29) (.lc .seq (.var 2) (.many [0,1]) 2 [] (.cst (.bl true)) zcr) [some (.fz (ns.map .int)),some (.ref 1),some (.ref h3.n),some (.ref h4.n),none,none] h5=.ok (.ref h5.n) (h5.new (.lst [stW s1,stW s2])):=ze2 (varE rfl) (two h5 zcr (stW s1) (stW s2) gl5 gq1 gq2 rfl rfl) (show 2≤1000000 by decide)
 have gb:((h5.new (.lst [stW s1,stW s2])).new (.lst [.int 0,.int 1,.int 0])).get h4.n=some (.lst [B1.w,B2.w]):=(zad (show h4.n < h5.n + 1 by omega)).trans ((zad (by omega)).trans gb5)
 have gst:((h5.new (.lst [stW s1,stW s2])).new (.lst [.int 0,.int 1,.int 0])).get h5.n=some (.lst [stW s1,stW s2]):=(zad (show h5.n < h5.n + 1 by omega)).trans zao
 have gt:((h5.new (.lst [stW s1,stW s2])).new (.lst [.int 0,.int 1,.int 0])).get (h5.n + 1)=some (.lst [.int 0,.int 1,.int 0]):=zao (h:=h5.new (.lst [stW s1,stW s2]))
 generalize hh8:(h5.new (.lst [stW s1,stW s2])).new (.lst [.int 0,.int 1,.int 0])=h8 at gb gst gt
 have r1:=zoq C (k:=17) (h:=h8) b1 gs1
 have r2:=zoq C (k:=17) (h:=h8) b2 gs2
 have ebody:∀ (t:Nat) (B:Bd) (s:Stn),[B1.w,B2.w][t]?=some B.w→[stW s1,stW s2][t]?=some (stW s)→run F 29 700 [B.w,stW s] h8=.ok (.bl true) h8→exs (run F 29) zbg [some (.fz (ns.map .int)),some (.ref 1),some (.ref h3.n),some (.ref h4.n),some (.ref h5.n),some (.int (t:Int))] h8=.ok (.nx [some (.fz (ns.map .int)),some (.ref 1),some (.ref h3.n),some (.ref h4.n),some (.ref h5.n),some (.int (t:Int))]) h8:=by
  intro t B s hB hS hr
  have en:ev (run F 29) (.not (.tru (.call 700 (.cons (.idx (.var 3) (.var 5)) (.cons (.idx (.var 4) (.var 5)) .nil))))) [some (.fz (ns.map .int)),some (.ref 1),some (.ref h3.n),some (.ref h4.n),some (.ref h5.n),some (.int (t:Int))] h8=.ok (.bl false) h8:=by
   rw [ev,truE (zav (idxE (varE rfl) (varE rfl) (zik gb hB)) (idxE (varE rfl) (varE rfl) (zik gst hS)) hr)]; rfl
  unfold zbg
  exact (zaa ((iteF en).trans rfl)).trans rfl
 have efor:exs (run F 29) (.«for» .seq (.lst (.cons (.cst (.int (0))) (.cons (.cst (.int (1))) (.cons (.cst (.int (0))) .nil)))) (.one 5) zbg) [some (.fz (ns.map .int)),some (.ref 1),some (.ref h3.n),some (.ref h4.n),some (.ref h5.n),none] (h5.new (.lst [stW s1,stW s2]))=.ok (.nx [some (.fz (ns.map .int)),some (.ref 1),some (.ref h3.n),some (.ref h4.n),some (.ref h5.n),some (.int ((0:Nat):Int))]) h8:=by
  have l:=zlk (nx:=nxt .seq (.ref (h5.n + 1))) (tg:=tgW (.one 5)) (b:=exs (run F 29) zbg) (ρ0:=[some (.fz (ns.map .int)),some (.ref 1),some (.ref h3.n),some (.ref h4.n),some (.ref h5.n),none]) (h:=h8) (w0:=.int 0) (w1:=.int 1) (w2:=.int 0)
   (by simp only [nxt,seqW,gt]; rfl) rfl (ebody 0 B1 s1 rfl rfl r1) (by simp only [nxt,seqW,gt]; rfl) rfl (ebody 1 B2 s2 rfl rfl r2) (by simp only [nxt,seqW,gt]; rfl) rfl (ebody 0 B1 s1 rfl rfl r1) (by simp only [nxt,seqW,gt]; rfl) 999996
  have ea:ev (run F 29) (.lst (.cons (.cst (.int (0))) (.cons (.cst (.int (1))) (.cons (.cst (.int (0))) .nil)))) [some (.fz (ns.map .int)),some (.ref 1),some (.ref h3.n),some (.ref h4.n),some (.ref h5.n),none] (h5.new (.lst [stW s1,stW s2]))=.ok (.ref (h5.n + 1)) h8:=by rw [← hh8]; rfl
  rw [exs,ea,bindok,hfu4]
  exact l
 have eb:exs (run F 29) zec.body [some (.fz (ns.map .int)),none,none,none,none,none] ⟨0,0,[]⟩=.ok (.rt (.bl true)) h8:=by
  refine (zaa (setE (h1:=h1) (x:=.ref 1) (zev (varE rfl) e1))).trans ?_
  have el2:=lst2E (cl:=run F 29) (a:=.call 132 (.cons (.var 1) .nil)) (b:=.call 132 (.cons (.var 1) .nil)) (ρ:=[some (.fz (ns.map .int)),some (.ref 1),none,none,none,none]) (h:=h1) (zev (varE rfl) e2) (zev (varE rfl) e3)
  rw [hh4] at el2
  refine (zaa (setE el2)).trans ?_
  refine (zaa (setE el3)).trans ?_
  refine (zaa (setE el4)).trans ?_
  refine (zaa efor).trans ?_
  exact zab (retE rfl)
 show zb4 (fin ⟨0,0,[]⟩ (exs (run F 29) zec.body [some (.fz (ns.map .int)),none,none,none,none,none] ⟨0,0,[]⟩))=true
 rw [eb]
 obtain ⟨h11,e11,_⟩:=zes (h:=⟨0,0,[]⟩) (w:=.bl true) (zhh (zhi F 29) _ _ ⟨0,0,[]⟩ _ _ eb)
 show zb4 (leave ⟨0,0,[]⟩ (.bl true) h8)=true
 rw [e11]
 rfl
end
end RF
namespace HD
open PySem PySem.W PySem.Calls PyProof.Rows
noncomputable section
noncomputable def p:Program:=PySem.Challenge.pw_ballrockers_k22_doors_word
noncomputable abbrev S (x:String):Str:=Str.ofString x
noncomputable abbrev U (x:String) (t:Tok):Value:=Value.str (S x) t
noncomputable abbrev R (a:Addr):Value:=Value.ref a
noncomputable abbrev I (i:Int) (t:Tok):Value:=Value.int i t
noncomputable abbrev E (P:Params) (x:String) (t:Tok) (v:Value):DictEntry:=DictEntry.mk (PyData.keyHash P (S x)) (Value.str (S x) t) v
noncomputable abbrev N (o:Obj) (l r:BT):BT:=BT.node o l r
noncomputable abbrev Z:BT:=BT.nil
noncomputable abbrev L (o:Obj):BT:=BT.node o Z Z
noncomputable abbrev Y (c:String) (d:Data):Obj:=Obj.mk (Value.type c) none d #[]
noncomputable abbrev X (d:Data):Obj:=Obj.mk Value.none none d #[]
noncomputable def atN (l:List Stmt) (i:Nat):Stmt:=l.getD i (Stmt.Pass ⟨0,0,0,0⟩)
noncomputable def fbS:Stmt→List Stmt
 | .FunctionDef _ _ b _ _ _ _ _ _ _=>b
 | .ClassDef _ _ _ b _ _ _ _ _ _ _=>b
 | _=>[]
noncomputable def faS:Stmt→Arguments
 | .FunctionDef _ a _ _ _ _ _ _ _ _=>a
 | _=>⟨[],[],none,[],[],none,[]⟩
noncomputable def fsS:Stmt→Scope
 | .FunctionDef _ _ _ _ _ _ s _ _ _=>s
 | _=>p.main.scope
noncomputable def fb (i:Nat):List Stmt:=fbS (atN p.main.body i)
noncomputable def fa (i:Nat):Arguments:=faS (atN p.main.body i)
noncomputable def fs (i:Nat):Scope:=fsS (atN p.main.body i)
noncomputable def cb (i j:Nat):List Stmt:=fbS (atN (fb i) j)
noncomputable def ca (i j:Nat):Arguments:=faS (atN (fb i) j)
noncomputable def cs (i j:Nat):Scope:=fsS (atN (fb i) j)
noncomputable abbrev O:Value:=Value.none
noncomputable abbrev J (i:Int):Value:=Value.int i 0
noncomputable abbrev V (t:Tok):Value:=Value.str (S "/claim/cut.py") t
noncomputable abbrev A (l:Array Value):Data:=Data.fields l
noncomputable abbrev B (f:FuncData):Data:=Data.func f
noncomputable abbrev G (x:String) (i:Nat) (g:Addr) (c:List (Str × Addr)) (d k o m:Value) (n:Option Addr) (cd ct:Value) (b:Addr):FuncData:=FuncData.mk (S x) (S x) (fa i) (FuncBody.stmts (fb i)) (fs i) g c d k o m n cd ct b
section
variable (P:Params)
noncomputable def N0:Nat:=5222
noncomputable def lo:List Str:=[S "fallen",S "heading_behind",S "come_down",S "come_out"]
noncomputable def keep:List Nat:=[1,2,3,4,6,7,8,9,10,12,13,14,15,16,17,18,19,20,21,22,23,24,25,26,27,29,30,31,32,38,39,40,42,43,44,45,46,48,49,50,51,52,53,54,55,56,57,58,59,60,61,62,63,64,65,66,67,68]
noncomputable def life:Life:=(Life.mk [] [] [] 0 [] [] false #[] [] 0 false false false 0 [2000,10,10] false 0 true [] [] 0 false)
noncomputable def m0:Nat:=11
noncomputable def ann:Option Value:=(some (R 6))
noncomputable def env:Env:={ scope:=p.main.scope,locals:=mainNs,globals:=mainNs,cells:=[],code:=(R 13),frame:=some 14 }
noncomputable def bd:List Stmt:=behindTheImports p
noncomputable def cd:Code:=Code.body bd env
noncomputable def fr:List Frame:=[topFrame (Pos.mk 0 0 0 0)]
noncomputable abbrev qC (n:String) (t:Nat) (l k:Int) (r m:Nat):Obj:=Y "code" (A #[U n t,U n (t + 1),V (t + 2),J l,J k,J 0,J 0,J 3,R r,Value.bool true,J 181,R (r + 1),O,R (r + 2),R (r + 3),R (r + 4),J (Int.ofNat m),J l,V (m + 1)])
noncomputable abbrev qD (n:String) (t:Nat) (l k:Int) (r m:Nat):Obj:=Y "code" (A #[U n t,U n (t + 1),V (t + 2),J l,J k,J 0,J 0,J 3,R r,Value.bool true,J 181,R (r + 1),O,O,O,R (r + 2),J (Int.ofNat m),J l,V (m + 1)])
noncomputable def qU:Nat→List String→List Value
 | _,[]=>[]
 | t,x :: r=>U x t :: qU (t + 1) r
noncomputable abbrev qT (t:Nat) (l:List String):Obj:=Y "tuple" (Data.seq (qU t l).toArray 0)
noncomputable abbrev qF (n:String) (i:Nat) (u:Value) (r:Addr):Obj:=Y "function" (B (G n i 3 [] O O O u none (R r) O 0))
noncomputable abbrev qG (n:String) (i:Nat):Obj:=X (B (G n i 0 [] O O O O none O O 0))
noncomputable def qJ:List (Int × Nat)→List Value
 | []=>[]
 | (a,b) :: r=>J a :: J 0 :: R b :: qJ r
noncomputable def qO:List Obj→List Obj
 | x :: _ :: r=>x :: qO r
 | x=>x
noncomputable def qE:List Obj→List Obj
 | _ :: y :: r=>y :: qE r
 | _=>[]
noncomputable def qB:Nat→List Obj→BT
 | f + 1,x :: r=>N x (qB f (qO r)) (qB f (qE r))
 | _,_=>Z
 def a0:=(Y "tuple" (Data.seq #[] 0))
 def a1:=(X (A #[]))
 def a2:=(Y "code" (A #[(U "<module>" 182),(U "<module>" 183),(V 184),(J 1),(J 0),(J 0),(J 0),(J 0),(R 11),(Value.bool false),(J 181),(R 12),O,O,O,O,(J 185),(J 1),(V 186)]))
 def a3:=(Obj.mk (Value.type "frame") none Data.plain #[(some (R 13)),(some (R 3)),(some (R 3)),none,(some (U "__main__" 164)),none,(some (R 0))])
 def ha:Heap:=Heap.mk (Array.mk [(boot_o_0 P),(boot_o_1 P),(boot_o_2 P),(boot_o_3 P),(boot_o_4 P),(boot_o_5 P),(boot_o_6 P),(boot_o_7 P),(boot_o_8 P),(boot_o_9 P),(boot_o_10 P),a0,a1,a2,a3]) (Life.mk [] [] [] 0 [] [] false #[] [] 0 false false false 0 [2000,10,10] false 0 true [] [] 0 false)
noncomputable def sa (w:World) (os:OsState):Shared:=⟨ha w.params,(Array.mk []),(Drawn.mk 0 0 0 0),187,os⟩
theorem seg_q {w:World} {n:Nat} {s s':SharedT} {l:List Stmt} {pos pos':Pos} (h:PySem.W.Fast.tw10110043849684766642 PySem.W.Fast.tw14364793385576792824 p w m0 ann 1 n s (piecesOf l env cd pos fr)=some (.next,s',cd,pos')) :
 segRun treeTable p w m0 ann 1 n s.abs (piecesOf l env cd pos fr)=some (.next,s'.abs,cd,pos'):=
 segRun_of (by rw [PySem.W.Fast.te10110043849684766642,PySem.W.Fast.te14364793385576792824]; exact h)
theorem pre_q {w:World} {n:Nat} {s s':Shared} {pos:Pos} (h:PySem.W.Fast.tw15667345088766844465 PySem.W.Fast.tw14364793385576792824 p w m0 ann n s (topStub p)=some (s',⟨PySem.W.Fast.tw11892475500146522536 PySem.W.Fast.tw14364793385576792824 cd,cd,pos,fr⟩)) :
 topGo treeTable p w m0 ann n s (topStub p)=some (s',⟨denote treeTable cd,cd,pos,fr⟩):=by
 rw [PySem.W.Fast.te15667345088766844465,PySem.W.Fast.te14364793385576792824,PySem.W.Fast.te11892475500146522536]; exact h
theorem zt5 {w:World} {n:Nat} {s s':Shared} {pos pos':Pos} (h:PySem.W.Fast.tw14374325043358763698 PySem.W.Fast.tw14364793385576792824 p w m0 ann 1 n s (blockOf bd env cd pos fr)=some (.next,s',cd,pos')) :
 segRun treeTable p w m0 ann 1 n s (blockOf bd env cd pos fr)=some (.next,s',cd,pos'):=by
 rw [PySem.W.Fast.te14374325043358763698,PySem.W.Fast.te14364793385576792824]; exact h
theorem fin_q {w:World} {n:Nat} {s s':Shared} {pos:Pos} (h:PySem.W.Fast.tw14082659384304107361 PySem.W.Fast.tw14364793385576792824 p w m0 ann n s ⟨doneF .next,cd,pos,fr⟩=some s') :
 topRun treeTable p w m0 ann n s ⟨doneF .next,cd,pos,fr⟩=some s':=by
 rw [PySem.W.Fast.te14082659384304107361,PySem.W.Fast.te14364793385576792824]; exact h
set_option maxHeartbeats 0 in
theorem pre (w:World) (os:OsState):topGo treeTable p w m0 ann 12 ⟨boot_heap w.params,Array.mk [],boot_drawn,boot_toks,os⟩ (topStub p)=some (sa w os,⟨denote treeTable cd,cd,(Pos.mk 0 0 0 0),fr⟩):=pre_q (by kernel_rfl)
 def vtb:List Obj:=[(boot_o_0 P),(boot_o_1 P),(boot_o_2 P),(boot_o_3 P),(boot_o_4 P),(boot_o_5 P),(boot_o_6 P),(boot_o_7 P),(boot_o_8 P),(boot_o_9 P),(boot_o_10 P),a0,a1,a2,a3]
 def tb:=qB 20 (vtb P)
noncomputable def sb (w:World) (os:OsState):SharedT:=⟨tb w.params,15,life,(Array.mk []),(Drawn.mk 0 0 0 0),187,os⟩
set_option maxHeartbeats 0 in
theorem block (w:World) (os:OsState):segRun treeTable p w m0 ann 1 1 (sa w os) (blockOf bd env cd (Pos.mk 0 0 0 0) fr)=some (.next,(sb w os).abs,cd,(Pos.mk 0 0 0 0)):=zt5 (by kernel_rfl)
 def ea4:=[(E P "__doc__" 166 O),(E P "__package__" 167 O),(E P "__loader__" 168 (Value.builtin "__main__.__loader__#opaque")),(E P "__spec__" 169 O),(E P "__annotations__" 170 (R 6)),(E P "__builtins__" 171 (R 4)),(E P "__file__" 173 (V 172)),(E P "__cached__" 174 O),(E P "BoardError" 206 (R 24)),(E P "NoBoard" 222 (R 37)),(E P "Fault" 249 (R 56)),(E P "NoStand" 265 (R 68)),(E P "is_whole" 274 (R 77)),(E P "is_whole_within" 283 (R 84)),(E P "is_tuple_within" 292 (R 91)),(E P "are_wholes_within" 304 (R 98)),(E P "is_just" 310 (R 103)),(E P "MOST_COLUMNS" 314 (I 40 313)),(E P "MOST_ROWS" 316 (I 60 315)),(E P "MOST_GROUPS" 318 (I 8 317)),(E P "MOST_FEEDERS" 320 (I 4 319)),(E P "MOST_NAME" 322 (I 99 321)),(E P "look_at_board" 336 (R 110)),(E P "is_stand" 346 (R 117)),(E P "look_at_stand" 354 (R 124)),(E P "is_board_but_for_places" 366 (R 131)),(E P "are_rows" 375 (R 138)),(E P "are_doors" 385 (R 145)),(E P "is_door" 395 (R 152)),(E P "is_feeder_or_none" 403 (R 159)),(E P "may_stand" 413 (R 166)),(E P "is_rocker" 423 (R 173)),(E P "are_leans" 431 (R 180)),(E P "LEFT" 436 (I (-1) 435)),(E P "STRAIGHT" 438 (I 0 437)),(E P "RIGHT" 440 (I 1 439)),(E P "NO_DOOR" 441 (R 181))]
 def a4:=Y "dict" (Data.dict ((E P "__name__" 165 (U "ballrockers.ways" 432)) :: ea4 P).toArray 38)
 def ja5:List (Int × Nat):=[(2,20),(4,33),(6,45),(11,64),(14,76),(16,83),(18,90),(20,97),(27,102),(39,109),(47,116),(53,123),(56,130),(65,137),(72,144),(79,151),(84,158),(86,165),(94,172),(99,179)]
 def a5:=X (A (qJ ja5).toArray)
 def a6:=(Y "tuple" (Data.seq #[(Value.type "ValueError")] 0))
 def a7:=(Y "builtin_function_or_method" (A #[(Value.builtin "type.__prepare__"),(Value.type "type")]))
 def a8:=(Y "dict" (Data.dict #[(E P "__module__" 196 (U "ballrockers.errors" 187)),(E P "__qualname__" 198 (U "BoardError" 197)),(E P "__firstlineno__" 200 (I 2 199)),(E P "__static_attributes__" 201 (R 22))] 4))
 def a9:=(Y "code" (A #[(U "BoardError" 191),(U "BoardError" 192),(V 193),(J 2),(J 0),(J 0),(J 0),(J 0),(R 18),(Value.bool false),(J 181),(R 19),O,O,O,O,(J 194),(J 2),(V 195)]))
 def a10:=(Obj.mk (Value.type "frame") none Data.plain #[(some (R 20)),(some (R 3)),(some (R 17)),none,(some (U "ballrockers.errors" 187)),none,(some (R 0))])
 def a11:=(Y "dict" (Data.dict #[(E P "__module__" 196 (U "ballrockers.errors" 187)),(E P "__firstlineno__" 200 (I 2 199)),(E P "__static_attributes__" 201 (R 22)),(E P "__weakref__" 203 (R 25)),(E P "__doc__" 204 O)] 3))
 def a12:=(Obj.mk (Value.type "type") none (Data.cls (ClassData.mk (S "BoardError") [(Value.type "ValueError")] [(R 24),(Value.type "ValueError"),(Value.type "Exception"),(Value.type "BaseException"),(Value.type "object")] 23 (S "BoardError") true [] [(R 37),(R 56),(R 68)] false none false)) #[(some (R 15)),none,(some (U "BoardError" 189)),(some (U "BoardError" 197)),(some (Value.builtin "ValueError.__new__")),(some (Value.bool true))])
 def a13:=(Y "getset_descriptor" (A #[(U "__weakref__" 202),(R 24),(Value.builtin "ExceptionGroup.__weakref__"),O]))
 def a14:=(Y "super" (A #[(R 24),(R 24),(R 24)]))
 def a15:=(Y "builtin_function_or_method" (A #[(Value.builtin "object.__init_subclass__"),(R 24)]))
 def a16:=(Y "tuple" (Data.seq #[(R 24)] 0))
 def a17:=(Y "dict" (Data.dict #[(E P "__module__" 214 (U "ballrockers.errors" 187)),(E P "__qualname__" 216 (U "NoBoard" 215)),(E P "__firstlineno__" 218 (I 4 217)),(E P "__static_attributes__" 219 (R 35))] 4))
 def a18:=(Y "code" (A #[(U "NoBoard" 209),(U "NoBoard" 210),(V 211),(J 4),(J 0),(J 0),(J 0),(J 0),(R 31),(Value.bool false),(J 181),(R 32),O,O,O,O,(J 212),(J 4),(V 213)]))
 def a19:=(Obj.mk (Value.type "frame") none Data.plain #[(some (R 33)),(some (R 3)),(some (R 30)),none,(some (U "ballrockers.errors" 187)),none,(some (R 0))])
 def a20:=(Y "dict" (Data.dict #[(E P "__module__" 214 (U "ballrockers.errors" 187)),(E P "__firstlineno__" 218 (I 4 217)),(E P "__static_attributes__" 219 (R 35)),(E P "__doc__" 220 O)] 2))
 def a21:=(Obj.mk (Value.type "type") none (Data.cls (ClassData.mk (S "NoBoard") [(R 24)] [(R 37),(R 24),(Value.type "ValueError"),(Value.type "Exception"),(Value.type "BaseException"),(Value.type "object")] 36 (S "NoBoard") true [] [] false none false)) #[(some (R 28)),none,(some (U "NoBoard" 207)),(some (U "NoBoard" 215)),(some (Value.builtin "ValueError.__new__")),(some (Value.bool true))])
 def a22:=(Y "super" (A #[(R 37),(R 37),(R 37)]))
 def a23:=(Y "builtin_function_or_method" (A #[(Value.builtin "object.__init_subclass__"),(R 37)]))
 def a24:=(Y "dict" (Data.dict #[(E P "__module__" 230 (U "ballrockers.errors" 187)),(E P "__qualname__" 232 (U "Fault" 231)),(E P "__firstlineno__" 234 (I 6 233)),(E P "__init__" 243 (R 53)),(E P "__static_attributes__" 246 (R 54))] 5))
 def a25:=(X (A #[(J 8),(J 4),(R 52)]))
 def a26:=(Y "code" (A #[(U "Fault" 225),(U "Fault" 226),(V 227),(J 6),(J 0),(J 0),(J 0),(J 0),(R 43),(Value.bool false),(J 181),(R 44),O,O,O,O,(J 228),(J 6),(V 229)]))
 def a27:=(Obj.mk (Value.type "frame") none Data.plain #[(some (R 45)),(some (R 3)),(some (R 42)),none,(some (U "ballrockers.errors" 187)),none,(some (R 0))])
 def a28:=qT 238 ["self", "row", "column"]
 def a29:=(X (B (FuncData.mk (S "__init__") (S "Fault.__init__") (ca 3 0) (FuncBody.stmts (cb 3 0)) (cs 3 0) 0 [] O O O O none O O 0)))
 def a30:=(Y "code" (A #[(U "__init__" 235),(U "Fault.__init__" 236),(V 237),(J 8),(J 3),(J 0),(J 0),(J 3),(R 47),(Value.bool true),(J 181),(R 48),O,(R 49),(R 50),(R 51),(J 241),(J 8),(V 242)]))
 def a31:=(Y "function" (B (FuncData.mk (S "__init__") (S "Fault.__init__") (ca 3 0) (FuncBody.stmts (cb 3 0)) (cs 3 0) 3 [] O O O (U "ballrockers.errors" 187) none (R 52) O 0)))
 def a32:=qT 244 ["column", "row"]
 def a33:=(Y "dict" (Data.dict #[(E P "__module__" 230 (U "ballrockers.errors" 187)),(E P "__firstlineno__" 234 (I 6 233)),(E P "__init__" 243 (R 53)),(E P "__static_attributes__" 246 (R 54)),(E P "__doc__" 247 O)] 2))
 def a34:=(Obj.mk (Value.type "type") none (Data.cls (ClassData.mk (S "Fault") [(R 24)] [(R 56),(R 24),(Value.type "ValueError"),(Value.type "Exception"),(Value.type "BaseException"),(Value.type "object")] 55 (S "Fault") true [] [] false none false)) #[(some (R 40)),none,(some (U "Fault" 223)),(some (U "Fault" 231)),(some (Value.builtin "ValueError.__new__")),(some (Value.bool true))])
 def a35:=(Y "super" (A #[(R 56),(R 56),(R 56)]))
 def a36:=(Y "builtin_function_or_method" (A #[(Value.builtin "object.__init_subclass__"),(R 56)]))
 def a37:=(Y "dict" (Data.dict #[(E P "__module__" 257 (U "ballrockers.errors" 187)),(E P "__qualname__" 259 (U "NoStand" 258)),(E P "__firstlineno__" 261 (I 11 260)),(E P "__static_attributes__" 262 (R 66))] 4))
 def a38:=(Y "code" (A #[(U "NoStand" 252),(U "NoStand" 253),(V 254),(J 11),(J 0),(J 0),(J 0),(J 0),(R 62),(Value.bool false),(J 181),(R 63),O,O,O,O,(J 255),(J 11),(V 256)]))
 def a39:=(Obj.mk (Value.type "frame") none Data.plain #[(some (R 64)),(some (R 3)),(some (R 61)),none,(some (U "ballrockers.errors" 187)),none,(some (R 0))])
 def a40:=(Y "dict" (Data.dict #[(E P "__module__" 257 (U "ballrockers.errors" 187)),(E P "__firstlineno__" 261 (I 11 260)),(E P "__static_attributes__" 262 (R 66)),(E P "__doc__" 263 O)] 2))
 def a41:=(Obj.mk (Value.type "type") none (Data.cls (ClassData.mk (S "NoStand") [(R 24)] [(R 68),(R 24),(Value.type "ValueError"),(Value.type "Exception"),(Value.type "BaseException"),(Value.type "object")] 67 (S "NoStand") true [] [] false none false)) #[(some (R 59)),none,(some (U "NoStand" 250)),(some (U "NoStand" 258)),(some (Value.builtin "ValueError.__new__")),(some (Value.bool true))])
 def a42:=(Y "super" (A #[(R 68),(R 68),(R 68)]))
 def a43:=(Y "builtin_function_or_method" (A #[(Value.builtin "object.__init_subclass__"),(R 68)]))
 def a44:=qT 271 ["thing"]
 def a45:=qG "is_whole" 6
 def a46:=qC "is_whole" 268 14 1 71 272
 def u266:=U "ballrockers.whole" 266
 def a47:=qF "is_whole" 6 u266 76
 def a48:=qT 278 ["thing", "low", "high"]
 def a49:=qG "is_whole_within" 7
 def a50:=qC "is_whole_within" 275 16 3 78 281
 def a51:=qF "is_whole_within" 7 u266 83
 def a52:=qT 287 ["thing", "fewest", "most"]
 def a53:=qG "is_tuple_within" 8
 def a54:=qC "is_tuple_within" 284 18 3 85 290
 def a55:=qF "is_tuple_within" 8 u266 90
 def a56:=qT 296 ["thing", "fewest", "most", "low", "high", "number"]
 def a57:=qG "are_wholes_within" 9
 def a58:=qC "are_wholes_within" 293 20 5 92 302
 def a59:=qF "are_wholes_within" 9 u266 97
 def a60:=qG "is_just" 10
 def a61:=qD "is_just" 305 27 2 99 308
 def a62:=qF "is_just" 10 u266 102
 def a63:=qT 326 ["board", "width", "groups", "rows", "row", "places", "column", "piece"]
 def a64:=qG "look_at_board" 17
 def a65:=qC "look_at_board" 323 39 1 104 334
 def u311:=U "ballrockers.boards" 311
 def a66:=qF "look_at_board" 17 u311 109
 def a67:=qT 340 ["board", "thing", "leans", "feeder"]
 def a68:=qG "is_stand" 18
 def a69:=qC "is_stand" 337 47 2 111 344
 def a70:=qF "is_stand" 18 u311 116
 def a71:=qT 350 ["board", "thing"]
 def a72:=qG "look_at_stand" 19
 def a73:=qC "look_at_stand" 347 53 2 118 352
 def a74:=qF "look_at_stand" 19 u311 123
 def a75:=qT 358 ["board", "width", "groups", "rows", "feeders", "doors"]
 def a76:=qG "is_board_but_for_places" 20
 def a77:=qC "is_board_but_for_places" 355 56 1 125 364
 def a78:=qF "is_board_but_for_places" 20 u311 130
 def a79:=qT 370 ["thing", "width", "places"]
 def a80:=qG "are_rows" 21
 def a81:=qC "are_rows" 367 65 2 132 373
 def a82:=qF "are_rows" 21 u311 137
 def a83:=qT 379 ["thing", "width", "feeders", "door"]
 def a84:=qG "are_doors" 22
 def a85:=qC "are_doors" 376 72 3 139 383
 def a86:=qF "are_doors" 22 u311 144
 def a87:=qT 389 ["thing", "feeders", "name", "call"]
 def a88:=qG "is_door" 23
 def a89:=qC "is_door" 386 79 2 146 393
 def a90:=qF "is_door" 23 u311 151
 def a91:=qT 399 ["thing", "feeders"]
 def a92:=qG "is_feeder_or_none" 24
 def a93:=qC "is_feeder_or_none" 396 84 2 153 401
 def a94:=qF "is_feeder_or_none" 24 u311 158
 def a95:=qT 407 ["piece", "column", "width", "groups"]
 def a96:=qG "may_stand" 25
 def a97:=qC "may_stand" 404 86 4 160 411
 def a98:=qF "may_stand" 25 u311 165
 def a99:=qT 417 ["thing", "groups", "group", "side"]
 def a100:=qG "is_rocker" 26
 def a101:=qC "is_rocker" 414 94 2 167 421
 def a102:=qF "is_rocker" 26 u311 172
 def a103:=qT 427 ["thing", "groups"]
 def a104:=qG "are_leans" 27
 def a105:=qC "are_leans" 424 99 2 174 429
 def a106:=qF "are_leans" 27 u311 179
 def a107:=(Y "tuple" (Data.seq #[O,O] 0))
 def vt0:List Obj:=((vtb P).set 3 (a4 P)).set 12 a5++[a6,a7,(a8 P),a0,a1,a9,a10,a0,(a11 P),a12,a13,a14,a15,a16,a7,(a17 P),a0,a1,a18,a19,a0,(a20 P),a21,a22,a23,a16,a7,(a24 P),a0,a25,a26,a27,a0,a1,a28,a0,a29,a30,a31,a32,(a33 P),a34,a35,a36,a16,a7,(a37 P),a0,a1,a38,a39,a0,(a40 P),a41,a42,a43,a0,a1,a44,a0,a45,a46,a47,a0,a1,a48,a0,a49,a50,a51,a0,a1,a52,a0,a53,a54,a55,a0,a1,a56,a0,a57,a58,a59,a0,a1,a60,a61,a62,a0,a1,a63,a0,a64,a65,a66,a0,a1,a67,a0,a68,a69,a70,a0,a1,a71,a0,a72,a73,a74,a0,a1,a75,a0,a76,a77,a78,a0,a1,a79,a0,a80,a81,a82,a0,a1,a83,a0,a84,a85,a86,a0,a1,a87,a0,a88,a89,a90,a0,a1,a91,a0,a92,a93,a94,a0,a1,a95,a0,a96,a97,a98,a0,a1,a99,a0,a100,a101,a102,a0,a1,a103,a0,a104,a105,a106,a107]
 def t0:=qB 20 (vt0 P)
noncomputable def s0 (w:World) (os:OsState):SharedT:=⟨t0 w.params,182,life,(Array.mk []),(Drawn.mk 0 0 0 0),442,os⟩
noncomputable def st0:List Stmt:=(bd.drop 0).take 33
set_option maxHeartbeats 0 in
theorem seg0 (w:World) (os:OsState):segRun treeTable p w m0 ann 1 1485 (sb w os).abs (piecesOf st0 env cd (Pos.mk 0 0 0 0) fr)=some (.next,(s0 w os).abs,cd,(Pos.mk 105 0 105 7)):=seg_q (by kernel_rfl)
 def ea108 := (ea4 P ++ [(E P "fallen" 458 (R 189)), (E P "heading_behind" 471 (R 197)), (E P "come_down" 485 (R 205)), (E P "come_out" 498 (R 213)), (E P "for_ever" 511 (R 220)), (E P "for_ever_holds" 525 (R 227)), (E P "stand_behind" 537 (R 234)), (E P "doors_word" 547 (R 241)), (E P "word_holds" 557 (R 248)), (E P "word_of" 563 (R 253)), (E P "shortest_turn" 571 (R 260)), (E P "drawn_in" 579 (R 267)), (E P "_law_cell" 589 (R 274)), (E P "_law_mixed" 599 (R 281)), (E P "_law_deck" 605 (R 286)), (E P "_law_take" 614 (R 293)), (E P "_law_piece" 626 (R 300)), (E P "_law_row" 632 (R 305)), (E P "_law_door" 642 (R 312)), (E P "_law_board" 648 (R 317)), (E P "_law_leans" 654 (R 322)), (E P "_law_fall" 669 (R 329)), (E P "_law_number" 677 (R 336)), (E P "_law_step" 691 (R 343)), (E P "_law_ever" 704 (R 350)), (E P "_law_stand" 714 (R 357)), (E P "_law_same" 720 (R 362)), (E P "_law_any_board" 728 (R 369)), (E P "_law_lead" 739 (R 376)), (E P "_law_doors" 745 (R 381)), (E P "_law_right" 755 (R 388)), (E P "_law_near" 764 (R 395)), (E P "law" 770 (R 400))])
 def a108:=Y "dict" (Data.dict ((E P "__name__" 165 (U "law_ballrockers_k22_doors_word" 580)) :: ea108 P).toArray 71)
 def ja109:List (Int × Nat):=ja5++[(106,188),(122,196),(136,204),(140,212),(145,219),(154,226),(169,233),(176,240),(178,247),(180,252),(187,259),(192,266),(198,273),(202,280),(205,285),(207,292),(216,299),(226,304),(228,311),(234,316),(241,321),(243,328),(261,335),(263,342),(269,349),(281,356),(287,361),(295,368),(302,375),(308,380),(319,387),(325,394),(332,399)]
 def a109:=X (A (qJ ja109).toArray)
 def a110:=(Y "tuple" (Data.seq #[O] 0))
 def a111:=qT 445 ["board", "leans", "feeder", "fault", "column", "columns", "turned", "leaning", "heading", "places", "piece"]
 def a112:=qG "fallen" 33
 def a113:=qC "fallen" 442 106 4 183 456
 def a114:=(Y "function" (B (G "fallen" 33 3 [] (R 182) O O (U "ballrockers.ways" 432) none (R 188) O 0)))
 def a115:=qT 462 ["piece", "heading", "leaning", "fault", "group", "side", "lean"]
 def a116:=qG "heading_behind" 34
 def a117:=qC "heading_behind" 459 122 4 191 469
 def a118:=(Y "function" (B (G "heading_behind" 34 3 [] (R 190) O O (U "ballrockers.ways" 432) none (R 196) O 0)))
 def a119:=qT 475 ["board", "leans", "feeder", "fault", "columns", "turned", "behind", "column"]
 def a120:=qG "come_down" 35
 def a121:=qC "come_down" 472 136 4 199 483
 def a122:=(Y "function" (B (G "come_down" 35 3 [] (R 198) O O (U "ballrockers.ways" 432) none (R 204) O 0)))
 def a123:=qT 489 ["board", "leans", "feeder", "fault", "column", "behind", "door"]
 def a124:=qG "come_out" 36
 def a125:=qC "come_out" 486 140 4 207 496
 def a126:=(Y "function" (B (G "come_out" 36 3 [] (R 206) O O (U "ballrockers.ways" 432) none (R 212) O 0)))
 def a127:=qT 504 ["board", "stand", "numbers", "coming", "back"]
 def a128:=qG "for_ever" 38
 def a129:=qC "for_ever" 501 145 2 214 509
 def u499:=U "ballrockers.ever" 499
 def a130:=qF "for_ever" 38 u499 219
 def a131:=qT 515 ["board", "stand", "paper", "stands", "back", "numbers", "coming", "thing"]
 def a132 := qG "for_ever_holds" 39
 def a133 := qC "for_ever_holds" 512 154 3 221 523
 def a134 := qF "for_ever_holds" 39 u499 226
 def a135:=qT 529 ["board", "stand", "leans", "feeder", "door", "behind"]
 def a136:=qG "stand_behind" 40
 def a137:=qC "stand_behind" 526 169 2 228 535
 def a138:=qF "stand_behind" 40 u499 233
 def a139:=qT 543 ["board", "stand"]
 def a140:=qG "doors_word" 42
 def a141:=qC "doors_word" 540 176 2 235 545
 def u538:=U "ballrockers.words" 538
 def a142:=qF "doors_word" 42 u538 240
 def a143:=qT 551 ["board", "stand", "paper", "word"]
 def a144 := qG "word_holds" 43
 def a145 := qC "word_holds" 548 178 4 242 555
 def a146 := qF "word_holds" 43 u538 247
 def a147:=qG "word_of" 44
 def a148:=qD "word_of" 558 180 2 249 561
 def a149:=qF "word_of" 44 u538 252
 def a150:=qT 567 ["names", "size"]
 def a151:=qG "shortest_turn" 45
 def a152:=qC "shortest_turn" 564 187 1 254 569
 def a153:=qF "shortest_turn" 45 u538 259
 def a154:=qT 575 ["lead", "turn"]
 def a155:=qG "drawn_in" 46
 def a156:=qC "drawn_in" 572 192 2 261 577
 def a157:=qF "drawn_in" 46 u538 266
 def a158:=qT 585 ["_law_script", "_law_k"]
 def a159:=qG "_law_cell" 48
 def a160:=qC "_law_cell" 582 198 2 268 587
 def u580:=U "law_ballrockers_k22_doors_word" 580
 def a161:=qF "_law_cell" 48 u580 273
 def a162:=qT 593 ["_law_script", "_law_k", "_law_many", "_law_number_here"]
 def a163:=qG "_law_mixed" 49
 def a164:=qC "_law_mixed" 590 202 3 275 597
 def a165:=qF "_law_mixed" 49 u580 280
 def a166:=qG "_law_deck" 50
 def a167:=qD "_law_deck" 600 205 1 282 603
 def a168:=qF "_law_deck" 50 u580 285
 def a169:=qT 609 ["_law_deck_here", "_law_many", "_law_cell_here"]
 def a170:=qG "_law_take" 51
 def a171:=qC "_law_take" 606 207 2 287 612
 def a172:=qF "_law_take" 51 u580 292
 def a173:=qT 618 ["_law_deck_here", "_law_column", "_law_width", "_law_groups", "_law_pick", "_law_piece_here"]
 def a174:=qG "_law_piece" 52
 def a175:=qC "_law_piece" 615 216 4 294 624
 def a176:=qF "_law_piece" 52 u580 299
 def a177:=qG "_law_row" 53
 def a178:=qD "_law_row" 627 226 3 301 630
 def a179:=qF "_law_row" 53 u580 304
 def a180:=qT 636 ["_law_deck_here", "_law_feeders", "_law_name", "_law_call"]
 def a181:=qG "_law_door" 54
 def a182:=qC "_law_door" 633 228 2 306 640
 def a183:=qF "_law_door" 54 u580 311
 def a184:=qG "_law_board" 55
 def a185:=qD "_law_board" 643 234 4 313 646
 def a186:=qF "_law_board" 55 u580 316
 def a187:=qG "_law_leans" 56
 def a188:=qD "_law_leans" 649 241 2 318 652
 def a189:=qF "_law_leans" 56 u580 321
 def a190:=qT 658 ["_law_board_here", "_law_leans_here", "_law_feeder", "_law_column", "_law_columns", "_law_turned", "_law_came", "_law_row_here", "_law_piece_here"]
 def a191:=qG "_law_fall" 57
 def a192:=qC "_law_fall" 655 243 3 323 667
 def a193:=qF "_law_fall" 57 u580 328
 def a194:=qT 673 ["_law_found", "_law_due"]
 def a195:=qG "_law_number" 58
 def a196:=qC "_law_number" 670 261 2 330 675
 def a197:=qF "_law_number" 58 u580 335
 def a198:=qT 681 ["_law_board_here", "_law_stand_here", "_law_columns", "_law_turned", "_law_leans_here", "_law_is_stuck", "_law_name", "_law_call"]
 def a199:=qG "_law_step" 59
 def a200:=qC "_law_step" 678 263 2 337 689
 def a201:=qF "_law_step" 59 u580 342
 def a202:=qT 695 ["_law_board_here", "_law_stand_here", "_law_stands", "_law_numbers", "_law_names", "_law_name", "_law_behind"]
 def a203:=qG "_law_ever" 60
 def a204:=qC "_law_ever" 692 269 2 344 702
 def a205:=qF "_law_ever" 60 u580 349
 def a206:=qT 708 ["_law_deck_here", "_law_board_here", "_law_leans_here", "_law_feeder"]
 def a207:=qG "_law_stand" 61
 def a208:=qC "_law_stand" 705 281 2 351 712
 def a209:=qF "_law_stand" 61 u580 356
 def a210:=qG "_law_same" 62
 def a211:=qD "_law_same" 715 287 2 358 718
 def a212:=qF "_law_same" 62 u580 361
 def a213:=qT 724 ["_law_deck_here", "_law_kind"]
 def a214:=qG "_law_any_board" 63
 def a215:=qC "_law_any_board" 721 295 1 363 726
 def a216:=qF "_law_any_board" 63 u580 368
 def a217:=qT 732 ["_law_names", "_law_many", "_law_most", "_law_found", "_law_place"]
 def a218:=qG "_law_lead" 64
 def a219:=qC "_law_lead" 729 302 3 370 737
 def a220:=qF "_law_lead" 64 u580 375
 def a221:=qG "_law_doors" 65
 def a222:=qD "_law_doors" 740 308 1 377 743
 def a223:=qF "_law_doors" 65 u580 380
 def a224:=qT 749 ["_law_board_here", "_law_stand_here", "_law_ever_here", "_law_due"]
 def a225:=qG "_law_right" 66
 def a226:=qC "_law_right" 746 319 2 382 753
 def a227:=qF "_law_right" 66 u580 387
 def a228:=qT 759 ["_law_deck_here", "_law_board_here", "_law_stand_here"]
 def a229:=qG "_law_near" 67
 def a230:=qC "_law_near" 756 325 1 389 762
 def a231:=qF "_law_near" 67 u580 394
 def a232:=qG "law" 68
 def a233:=qD "law" 765 332 1 396 768
 def a234:=qF "law" 68 u580 399
 def vt1:List Obj:=((vt0 P).set 3 (a108 P)).set 12 a109++[a110,a0,a1,a111,a0,a112,a113,a114,a110,a0,a1,a115,a0,a116,a117,a118,a110,a0,a1,a119,a0,a120,a121,a122,a110,a0,a1,a123,a0,a124,a125,a126,a0,a1,a127,a0,a128,a129,a130,a0,a1,a131,a0,a132,a133,a134,a0,a1,a135,a0,a136,a137,a138,a0,a1,a139,a0,a140,a141,a142,a0,a1,a143,a0,a144,a145,a146,a0,a1,a147,a148,a149,a0,a1,a150,a0,a151,a152,a153,a0,a1,a154,a0,a155,a156,a157,a0,a1,a158,a0,a159,a160,a161,a0,a1,a162,a0,a163,a164,a165,a0,a1,a166,a167,a168,a0,a1,a169,a0,a170,a171,a172,a0,a1,a173,a0,a174,a175,a176,a0,a1,a177,a178,a179,a0,a1,a180,a0,a181,a182,a183,a0,a1,a184,a185,a186,a0,a1,a187,a188,a189,a0,a1,a190,a0,a191,a192,a193,a0,a1,a194,a0,a195,a196,a197,a0,a1,a198,a0,a199,a200,a201,a0,a1,a202,a0,a203,a204,a205,a0,a1,a206,a0,a207,a208,a209,a0,a1,a210,a211,a212,a0,a1,a213,a0,a214,a215,a216,a0,a1,a217,a0,a218,a219,a220,a0,a1,a221,a222,a223,a0,a1,a224,a0,a225,a226,a227,a0,a1,a228,a0,a229,a230,a231,a0,a1,a232,a233,a234]
 def t1:=qB 20 (vt1 P)
noncomputable def s1 (w:World) (os:OsState):SharedT:=⟨t1 w.params,401,life,(Array.mk []),(Drawn.mk 0 0 0 0),771,os⟩
noncomputable def st1:List Stmt:=(bd.drop 33).take 36
set_option maxHeartbeats 0 in
theorem seg1 (w:World) (os:OsState):segRun treeTable p w m0 ann 1 1065 (s0 w os).abs (piecesOf st1 env cd (Pos.mk 105 0 105 7) fr)=some (.next,(s1 w os).abs,cd,(Pos.mk 332 0 340 15)):=seg_q (by kernel_rfl)
 def hz:Heap:=Heap.mk (Array.mk (vt1 P)) (Life.mk [] [] [] 0 [] [] false #[] [] 0 false false false 0 [2000,10,10] false 0 true [] [] 0 false)
noncomputable def sz (w:World) (os:OsState):Shared:=⟨hz w.params,(Array.mk []),(Drawn.mk 0 0 0 0),771,os⟩
set_option maxHeartbeats 0 in
theorem fin (w:World) (os:OsState):topRun treeTable p w m0 ann 2 (s1 w os).abs ⟨doneF .next,cd,(Pos.mk 332 0 340 15),fr⟩=some (sz w os):=fin_q (by kernel_rfl)
 def as:List Addr:=[2,3,15,22,23,24,25,28,35,36,37,40,47,49,50,52,53,54,55,56,59,66,67,68,71,73,74,76,77,78,80,81,83,84,85,87,88,90,91,92,94,95,97,98,99,102,103,104,106,107,109,110,111,113,114,116,117,118,120,121,123,124,125,127,128,130,131,132,134,135,137,138,139,141,142,144,145,146,148,149,151,152,153,155,156,158,159,160,162,163,165,166,167,169,170,172,173,174,176,177,179,180,181,182,183,185,186,188,189,190,191,193,194,196,197,198,199,201,202,204,205,206,207,209,210,212,213,214,216,217,219,220,221,223,224,226,227,228,230,231,233,234,235,237,238,240,241,242,244,245,247,248,249,252,253,254,256,257,259,260,261,263,264,266,267,268,270,271,273,274,275,277,278,280,281,282,285,286,287,289,290,292,293,294,296,297,299,300,301,304,305,306,308,309,311,312,313,316,317,318,321,322,323,325,326,328,329,330,332,333,335,336,337,339,340,342,343,344,346,347,349,350,351,353,354,356,357,358,361,362,363,365,366,368,369,370,372,373,375,376,377,380,381,382,384,385,387,388,389,391,392,394,395,396,399,400]
 def K:Frag:=as.map fun i=>(i,(vt1 P).getD i a0)
noncomputable def M0:Nat:=(12 + (1 + (1485 + (1065 + 2))))
theorem bd_is:bd=st0++(st1++([])):=by kernel_rfl
theorem rest (w:World) (os:OsState):topRun treeTable p w m0 ann (1485 + (1065 + (2))) (sb w os).abs (restOf bd env cd (Pos.mk 0 0 0 0) fr)=some (sz w os):=by
 rw [show restOf bd env cd (Pos.mk 0 0 0 0) fr=restOf (st0++(st1++([]))) env cd (Pos.mk 0 0 0 0) fr from congrArg (fun b=>restOf b env cd (Pos.mk 0 0 0 0) fr) bd_is]
 exact (piece_app (seg0 w os) (piece_app (seg1 w os) (piece_nil (fin w os))))
theorem run (w:World) (os:OsState):topRun treeTable p w m0 ann M0 ⟨boot_heap w.params,Array.mk [],boot_drawn,boot_toks,os⟩ (topStub p)=some (sz w os):=
 go_top (pre w os) (piece_block (block w os) (rest w os))
noncomputable def lawAt:Nat:=68
noncomputable def zxz:Pos:=(Pos.mk 332 0 340 15)
noncomputable def q:Program:={ p with main:={ p.main with body:=keep.map (atN p.main.body) } }
theorem as_is:∀ P,as=(K P).map (·.1):=fun _=>by kernel_rfl
noncomputable def H:Hook:=kHook K as as_is
noncomputable def Xt (s:Shared):Bool:=xlAt q [] s && recOk [] s
theorem zx0 (w:World) (os:OsState):(staticsOk (importedModules p.main.body) (boot_heap w.params) (hz w.params) && namesBound p (hz w.params) && gensDone (sz w os) && laidKept (boot_heap w.params) (hz w.params))=true:=by
 rw [PySem.W.Fast.te5923862056798008813]; kernel_rfl
theorem zx1 (w:World) (os:OsState):seen ((recsOf q).map (·.name)) (ownsOf q) [] { sz w os with gens:=#[] } = expectedOf q:=by
 rw [PySem.W.Fast.te5160383126252970620,PySem.W.R.mapR_eq,PySem.W.Fast.te3399658132070893891,PySem.W.Fast.te5991557255702980513]; kernel_rfl
theorem l_blt (w:World) (os:OsState):(sz w os).heap.bltView=bltViewBooted:=by kernel_rfl
theorem zx2 (w:World) (os:OsState):((sz w os).heap.keysOk (looseW q lo) ((recsOf q).map (·.name)) ((litsOf q).map (·.1)) ((clssOf q (looseW q lo)).map (·.name)) && (sz w os).heap.accountedOkI (importedModules p.main.body) && (sz w os).heap.isNs mainGlobals && (sz w os).heap.isNs builtinsNs && tablesOk q (sz w os).heap && Xt (sz w os) && (if true=true then (sz w os).gens.size == 0 else !leftWithCleanup (sz w os).gens))=true:=by
 rw [PySem.W.Fast.te10880121769531294198,PySem.W.Fast.te821141287760084731,PySem.W.R.mapR_eq,PySem.W.Fast.te3399658132070893891,PySem.W.Fast.te7409074990110511671,PySem.W.Fast.te13664370479719496447,PySem.W.Fast.te14722251495701143533,PySem.W.Fast.te10994771534591457954,PySem.W.Fast.te5923862056798008813]; kernel_rfl
theorem zx3 (w:World) (os:OsState):tabsOk q (sz w os)=true:=by rw [PySem.W.Fast.te479339242167458305]; kernel_rfl
theorem l_pin (w:World) (os:OsState):pinSeenD q (drecsOf q) (sz w os)=pinGoodD (drecsOf q):=by rw [PySem.W.Fast.te16090120013241838585,PySem.W.Fast.te3247288618530077131]; kernel_rfl
theorem l_plE (w:World) (os:OsState):plainSeenE q (looseW q lo) (sz w os)=plainGoodE q (looseW q lo):=by rw [PySem.W.Fast.te2386780881361962483,PySem.W.Fast.te821141287760084731]; kernel_rfl
theorem l_plD (w:World) (os:OsState):plainSeenD q lo (sz w os)=plainGoodD q lo:=by rw [PySem.W.Fast.te11698064438423848299]; kernel_rfl
theorem zx4 (w:World) (os:OsState):wideSeen q (sz w os)=wideGood q:=by rw [PySem.W.Fast.te7317090234206586261]; kernel_rfl
theorem l_cls (w:World) (os:OsState):clsSeenW q lo (sz w os)=clsGoodW q lo:=by rw [PySem.W.Fast.te7369524293546568484]; kernel_rfl
theorem zx5 (w:World) (os:OsState):as.map (sz w os).heap.get?=(K w.params).map fun p=>some p.2:=by kernel_rfl
theorem left:LeftO p q lo Xt (Hook.obs H) (Hook.val H) N0 true:=
 LeftO.of_pieces (H₀:=boot_heap) (H₁:=hz) (boot_open (by kernel_rfl) (by kernel_rfl) (fun s=>by kernel_rfl)) (fun w=>by kernel_rfl) run (by kernel_rfl)
  (fun w=>funext fun os=>looks_pair (zx0 w os) (looks_pair
    (looks_pair (zx1 w os) (looks_pair (l_blt w os) (looks_pair (zx2 w os) (looks_pair (zx3 w os) (looks_pair (l_pin w os) (looks_pair (l_plE w os) (looks_pair (l_plD w os) (looks_pair (zx4 w os) (l_cls w os)))))))))
    (zx5 w os)))
noncomputable def df:DefRec:=⟨S "law",fa lawAt,fb lawAt,fs lawAt,zxz⟩
theorem df_is:defOf q (S "law")=some (df,[]):=by kernel_rfl
theorem holds (l:OpenLaw) (hp:l.prog=p) (hn:l.name=S "law") (ok:l.wellSaid=true) (hch:(chainsOk q && opensWell p && (frees l.row.toRowW && l.row.within.isEmpty))=true) (hb:l.row.toRowW.prog.bare) (hw:l.row.toRowW.promised)
 (hwr:(!l.row.writes || l.row.records.isEmpty)=true) (hk:p.theDef (S "law")=some (df.params,df.body,df.scope)) (hkw:kwWritten? df.params.kwonlyargs df.params.kw_defaults=some [])
 (call:WalkO q lo (XL q []) (Hook.says H) l.row.toRowW df [] fun f vs=>PySem.call f vs):l.Holds:=
 holds_law ok fun said=>PySem.W.holds_open (q:=q) (loose:=lo) (Xt:=Xt) (XP:=XL q []) (Yf:=Hook.obs H) (Ya:=Hook.val H) (YP:=Hook.says H) (N:=N0) (r:=l.row) (by have h:l.row.toRowW.prog=p:=hp; show LeftO l.row.toRowW.prog q lo Xt (Hook.obs H) (Hook.val H) N0 true; rw [h]; exact left) (Hook.of H) (Hook.keeps H) (fun s e=>xl_of s (Bool.and_eq_true_iff.mp e).1) XL.keeps
  (by show defOf q l.name=_; rw [hn]; exact df_is) (by show l.prog.theDef l.name=_; rw [hp,hn]; exact hk) hkw (fun s e=>recFacts_of (Bool.and_eq_true_iff.mp e).2) hwr said (by have h:l.row.toRowW.prog=p:=hp; rw [h]; exact hch) hb hw call
end
end
end HD
namespace RF
noncomputable def T22 : List PySem.Str := (["is_whole", "is_whole_within", "_law_cell", "_law_deck", "_law_mixed", "_law_take", "is_tuple_within", "are_wholes_within", "are_doors", "are_rows", "is_board_but_for_places", "is_door", "is_feeder_or_none", "is_rocker", "look_at_board", "may_stand"] ++ List.replicate 1 "" ++ ["are_leans"] ++ List.replicate 2 "" ++ ["_law_leans", "_law_piece"] ++ List.replicate 1 "" ++ ["_law_door"] ++ List.replicate 1 "" ++ ["_law_row", "_law_board", "is_stand"] ++ List.replicate 1 "" ++ ["look_at_stand"] ++ List.replicate 8 "" ++ ["_law_fall", "_law_number"] ++ List.replicate 19 "" ++ ["is_just"] ++ List.replicate 32 "" ++ ["_law_same", "_law_stand"] ++ List.replicate 5 "" ++ ["_law_any_board"] ++ List.replicate 12 "" ++ ["_law_ever"] ++ List.replicate 4 "" ++ ["_law_step"] ++ List.replicate 14 "" ++ ["_law_near"] ++ List.replicate 40 "" ++ ["heading_behind", "fallen", "come_down", "come_out"] ++ List.replicate 5 "" ++ ["stand_behind"] ++ List.replicate 1 "" ++ ["for_ever"] ++ List.replicate 9 "" ++ ["drawn_in"] ++ List.replicate 2 "" ++ ["shortest_turn"] ++ List.replicate 2 "" ++ ["word_of"] ++ List.replicate 2 "" ++ ["doors_word", "for_ever_holds"] ++ List.replicate 64 "" ++ ["word_holds"] ++ List.replicate 53 "" ++ ["_law_doors"] ++ List.replicate 8 "" ++ ["_law_lead"] ++ List.replicate 367 "" ++ ["_law_right", "law"]).map PySem.Str.ofString
noncomputable def fnNo:Fn:=⟨0,0,.no⟩
noncomputable def zrw:List Fn:=[fn0,fn1,fn2,fn3,fn4,fn5,fn6,fn7,fn8,fn9,fn10,fn11,fn12,fn13,fn14,fn15]++List.replicate 1 fnNo++[fn17]++List.replicate 2 fnNo++[fn20,fn21]++List.replicate 1 fnNo++[fn23]++List.replicate 1 fnNo++[fn25,fn26,fn27]++List.replicate 1 fnNo++[fn29]++List.replicate 8 fnNo++[fn38,fn39]++List.replicate 19 fnNo++[fn59]++List.replicate 32 fnNo++[fn92,fn93]++List.replicate 5 fnNo++[fn99]++List.replicate 12 fnNo++[fn112]++List.replicate 4 fnNo++[fn117]++List.replicate 14 fnNo++[fn132]++List.replicate 40 fnNo++[fn173,fn174,fn175,fn176]++List.replicate 5 fnNo++[fn182]++List.replicate 1 fnNo++[fn184]++List.replicate 9 fnNo++[fn194]++List.replicate 2 fnNo++[fn197]++List.replicate 2 fnNo++[fn200]++List.replicate 2 fnNo++[fn203,fn204]++List.replicate 64 fnNo++[fn269]++List.replicate 53 fnNo++[zb9]++List.replicate 8 fnNo++[zea]++List.replicate 367 fnNo++[zeb,zec]
theorem c22:C22 fun i=>zrw[i]?:=by repeat' (first | rfl | constructor)
end RF
open PySem PySem.W PyProof.Rows
set_option maxRecDepth 100000 in
set_option maxHeartbeats 0 in
theorem PySem.Challenge.cw_ballrockers_k22_doors_word_holds : PySem.Challenge.rw_ballrockers_k22_doors_word.Holds := by
 refine HD.holds _ rfl rfl (by kernel_rfl) (by kernel_rfl) ⟨rfl,rfl,rfl,rfl,rfl,by decide +kernel⟩ ?hw rfl (by kernel_rfl) (by kernel_rfl) ?call
 (case hw=>w_witness2)
 refine RF.zp7 RF.T22 60 60 30 701 rfl (by kernel_rfl) ⟨rfl,by decide,by decide⟩ (fun w h Y=>PySem.W.kIn_of Y) (by kernel_rfl) (by decide) ?b ?c
 (case c=>intro w; kernel_rfl)
 (case b=>
   intro w ns hl
   refine RF.ztk (Fs:=RF.zrw) ?prg (RF.law22 RF.c22 hl)
   kernel_rfl)
