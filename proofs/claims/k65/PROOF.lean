import PyProof.Rows.All
import Wide.All
import OpenK.AllK
import Wide.FinOn
import Lean
import PyProof.EqAt
import PyProof.EqKinds
import PyProof.TupleCall
import KE.KUnpack
import PySem.Challenge.RW_ballrockers_k65_faults_told
set_option Elab.async false
set_option linter.all false
set_option genSizeOf false
set_option maxRecDepth 100000
def vaa:=@PySem.wpAny_bind
def vab:=@Bool.and_eq_true
def vac:=@PySem.Heap.get?_push_of_some
def vad:=@List.mem_cons_of_mem
def vae:=@Nat.le_refl
def vaf:=@List.length_map
def vag:=@List.mem_cons_self
def vah:=@List.length_cons
def vai:=@Nat.lt_of_lt_of_le
def vaj:=@PySem.wpAny_pure
def vak:=@Bool.false_eq_true
def vam:=@List.map_cons
def van:=@List.size_toArray
def vao:=@List.length_append
def vap:=@List.set_cons_zero
def vaq:=@PySem.Heap.lt_size
def vas:=@Int.eq_ofNat_of_zero_le
def vat:=@Option.map_some
def vau:=@List.set_cons_succ
def vav:=@List.getElem?_eq_some_iff
def vaw:=@decide_eq_true_eq
def vax:=@List.getElem?_cons_succ
def vay:=@List.getElem?_eq_getElem
def vaz:=@List.getElem?_eq_none_iff
def va0:=@PySem.Heap.get?_push_size
def va1:=@Nat.le_of_ble_eq_true
def va2:=@List.mem_cons
def va3:=@decide_eq_false
def va4:=@Nat.ne_of_lt
def va5:=@List.length_singleton
def va6:=@List.lookup_cons
namespace L2
open PySem PySem.Spec PyProof.Rows
noncomputable abbrev Key:=Sum Int Str
noncomputable def keyIs:Key->Value->Bool
 |.inl k,v=>Value.isInt k v
 |.inr x,v=>Value.isStrOf x v
noncomputable def keyH(w:World):Key->Int
 |.inl k=>hashInt k
 |.inr x=>hashStr w x
theorem zax:∀{k:Key} {v:Value},keyIs k v=true->(∃i t,k=Sum.inl i/\v=Value.int i t)\/(∃x t,k=Sum.inr x/\v=Value.str x t)
 |.inl i,v,h=>by
  obtain⟨t,e⟩:=Value.isInt_shape (k:=i) (v:=v) h
  exact .inl ⟨i,t,rfl,e⟩
 |.inr x,v,h=>by
  obtain⟨t,e⟩:=Value.isStrOf_shape (x:=x) (v:=v) h
  exact .inr ⟨x,t,rfl,e⟩
theorem zla(i:Int)(t:Tok):keyIs (.inl i) (.int i t)=true:=by simp[keyIs,Value.isInt]
theorem zlb(x:Str)(t:Tok):keyIs (.inr x) (.str x t)=true:=by simp[keyIs,Value.isStrOf]
theorem ztd(a b:Int):decide ((Sum.inl a:Key)=Sum.inl b)=(a==b):=by
 by_cases e:a=b
 .subst e;simp
 .have h:¬(Sum.inl a:Key)=Sum.inl b:=λq=>e (Sum.inl.inj q)
  rw[va3 h]
  exact(beq_eq_false_iff_ne.mpr e).symm
theorem zte(a b:Str):decide ((Sum.inr a:Key)=Sum.inr b)=decide (a=b):=by
 by_cases e:a=b
 .subst e;simp
 .have h:¬(Sum.inr a:Key)=Sum.inr b:=λq=>e (Sum.inr.inj q)
  rw[va3 h,va3 e]
theorem ztf(a:Int)(b:Str):decide ((Sum.inl a:Key)=Sum.inr b)=false:=va3 (λq=>nomatch q)
theorem ztg(a:Str)(b:Int):decide ((Sum.inr a:Key)=Sum.inl b)=false:=va3 (λq=>nomatch q)
noncomputable def za2(prog:Program)(w:World):PySem.KeyKind prog w Key where
 is:=keyIs
 hash:=keyH w
 inj:=λv a b ha hb=>by
  rcases zax ha with⟨i,t,rfl,rfl⟩|⟨x,t,rfl,rfl⟩
  .rcases zax hb with⟨j,u,rfl,e⟩|⟨y,u,rfl,e⟩
   .injection e with e1 _;rw[e1]
   .exact nomatch e
  .rcases zax hb with⟨j,u,rfl,e⟩|⟨y,u,rfl,e⟩
   .exact nomatch e
   .injection e with e1 _;rw[e1]
 byValue:=λk v h=>by
  rcases zax h with⟨i,t,rfl,rfl⟩|⟨x,t,rfl,rfl⟩<;>rfl
 pyHash:=λhv h=>by
  rcases zax hv with⟨i,t,rfl,rfl⟩|⟨x,t,rfl,rfl⟩
  .exact wpAny_pyHash_int h
  .exact wpAny_pyHash_str h
 eqBool:=λhu hv h=>by
  rcases zax hu with⟨i,t,rfl,rfl⟩|⟨x,t,rfl,rfl⟩
  .rcases zax hv with⟨j,u,rfl,rfl⟩|⟨y,u,rfl,rfl⟩
   .rw[ztd]at h;exact wpAny_eqBool_int h
   .rw[ztf]at h;exact SeqAt.EqAt.int_str i t y u _ _ _ _ h
  .rcases zax hv with⟨j,u,rfl,rfl⟩|⟨y,u,rfl,rfl⟩
   .rw[ztg]at h;exact SeqAt.EqAt.str_int x t j u _ _ _ _ h
   .rw[zte]at h;exact wpAny_eqBool_str h
 «strs»:=λk x t v h=>by
  rcases zax h with⟨i,u,rfl,e⟩|⟨y,u,rfl,e⟩
  .exact nomatch e
  .injection e with e1 _
   subst e1
   cases v<;>rfl
theorem zh9(prog:Program)(w:World)(i:Int)(t:Tok):(za2 prog w).is (.inl i) (.int i t)=true:=zla i t
theorem zia(prog:Program)(w:World)(x:Str)(t:Tok):(za2 prog w).is (.inr x) (.str x t)=true:=zlb x t
inductive V where
 |non|bl (b:Bool)|int (i:Int)|str (x:Str)|byt (b:Array UInt8)|flt (b:UInt64)|ref (a:Addr)|ty (n:String)
 deriving DecidableEq
noncomputable def RelV:V->Value->Prop
 |.non,u=>u=Value.none
 |.bl b,u=>u=Value.bool b
 |.int i,u=>∃t,u=Value.int i t
 |.str x,u=>∃t,u=Value.str x t
 |.byt b,u=>∃t,u=Value.bytes b t
 |.flt b,u=>∃t,u=Value.float b t
 |.ref a,u=>u=Value.ref a
 |.ty n,u=>u=Value.type n
noncomputable abbrev Vals:List V->List Value->Prop:=Paired RelV
theorem Vals.length{xs:List V}{us:List Value}(r:Vals xs us):xs.length=us.length:=Paired.length r
theorem Vals.get:∀{xs:List V} {us:List Value} {i:Nat} {x:V},Vals xs us->xs[i]?=some x->∃u,us[i]?=some u/\RelV x u
 |_,_,_,_,.nil,e=>by simp at e
 |_,_,0,_,.cons r _,e=>by simp at e;subst e;exact⟨_,rfl,r⟩
 |_,_,i+1,x,.cons _ t,e=>by
  obtain⟨u,h1,h2⟩:=Vals.get (i:=i) (x:=x) t (by simpa using e)
  exact⟨u,by simpa using h1,h2⟩
theorem Vals.set{x:V}{u:Value}(r:RelV x u):∀{xs:List V} {us:List Value} (i:Nat),Vals xs us->Vals (xs.set i x) (us.set i u)
 |_,_,_,.nil=>.nil
 |_,_,0,.cons _ t=>.cons r t
 |_,_,i+1,.cons q t=>.cons q (Vals.set r i t)
theorem Vals.append:∀{xs ys:List V} {us ws:List Value},Vals xs us->Vals ys ws->Vals (xs++ys) (us++ws)
 |_,_,_,_,.nil,s=>s
 |_,_,_,_,.cons r t,s=>.cons r (Vals.append t s)
theorem Vals.take:∀{xs:List V} {us:List Value} (n:Nat),Vals xs us->Vals (xs.take n) (us.take n)
 |_,_,0,_=>.nil
 |_,_,_+1,.nil=>.nil
 |_,_,n+1,.cons r t=>.cons r (Vals.take n t)
theorem Vals.drop:∀{xs:List V} {us:List Value} (n:Nat),Vals xs us->Vals (xs.drop n) (us.drop n)
 |_,_,0,r=>r
 |_,_,_+1,.nil=>.nil
 |_,_,n+1,.cons _ t=>Vals.drop n t
noncomputable def RelO:Option V->Option Value->Prop
 |some v,some u=>RelV v u
 |none,none=>True
 |_,_=>False
noncomputable def KV{κ:Type}:List (κ×V)->List (κ×Value)->Prop:=Paired λ(p:κ×V) (q:κ×Value)=>p.1=q.1/\RelV p.2 q.2
noncomputable def kV:Key->V
 |.inl i=>.int i
 |.inr x=>.str x
inductive HO where
 /-- a list -/
 |lst (xs:List V)
 /-- a tuple (never changes) -/
 |tup (xs:List V)
 /-- a dict whose keys are ints and texts;one whose keys are tuples of ints and texts (the empty one is both) -/
 |dK (kvs:List (Key×V))|dT (kvs:List (List Key×V))
 /-- a set of ints: its members,its size -/
 |set (S:Int->Bool) (n:Nat)
 /-- an instance of the class at C,its dict at dx,its attributes -/
 |ins (C dx:Addr) (fs:List (Str×V))
 /-- the dict of the instance at x -/
 |own (x:Addr)
 /-- the dict of an exception -/
 |xd (fs:List (Str×V))
 /-- a bound method,f of x -/
 |met (f x:Addr)
 /-- a range object lo,lo+1,.. below hi -/
 |rng (lo hi:Int)
 /-- a thing that is known to the object (the script;a dict while a loop walks it): read,never written while it is so -/
 |frz (o:Obj) (u:HO)
 /-- a code object's table -/
 |tbl (ps:Array Value)
 /-- any other thing,by what is true of its one object (a def of one's own: SetO a S n:=HO.ext λh=>..) -/
 |ext (φ:Heap->Prop)
noncomputable abbrev Hp:=Addr->Option HO
noncomputable def upd(H:Hp)(a:Addr)(o:HO):Hp:=λb=>if b=a then some o else H b
theorem zak{H:Hp}{a:Addr}{o:HO}:upd H a o a=some o:=by unfold upd;rw[if_pos rfl]
theorem zae{H:Hp}{a b:Addr}{o:HO}(h:b≠a):upd H a o b=H b:=by unfold upd;rw[if_neg h]
theorem ne_of{H:Hp}{a b:Addr}{o u:HO}(h:H a=some o)(h':H b=some u)(d:o≠u):a≠b:=by
 intro e;subst e;rw[h]at h';exact d (Option.some.inj h')
theorem zac{H:Hp}{a b:Addr}{o:HO}(h:H a=some o)(h':H b=none):a≠b:=by
 intro e;subst e;rw[h]at h';cases h'
noncomputable def zby(h:Heap)(a:Addr)(items:Array Value):Prop:=∃o,h.get? a=some o/\o.cls=.type "tuple"/\(∃n,o.data=.seq items n)/\o.dict=none
theorem zby.tup{h:Heap}{a:Addr}{items:Array Value}(x:zby h a items):IsTup h a items:=let⟨o,e,c,d,_⟩:=x;⟨o,e,c,d⟩
theorem zby.lt{h:Heap}{a:Addr}{items:Array Value}(x:zby h a items):a<h.objs.size:=x.tup.lt
theorem zby.new(h:Heap)(items:Array Value):zby (h.push {cls:=.type "tuple",data:=.seq items}) h.objs.size items:=⟨_,va0 _ rfl,rfl,⟨_,rfl⟩,rfl⟩
section
variable(P:Program)(w:World)
noncomputable def ObjOk(H:Hp)(h:Heap)(a:Addr):HO->Prop
 |.lst xs=>xs.length<=sizeLine/\∃(its:List Value) (n:Nat),Vals xs its/\h.get? a=some {cls:=.type "list",data:=.seq its.toArray n}
 |.tup xs=>xs.length<=sizeLine/\∃its:List Value,Vals xs its/\zby h a its.toArray
 |.dK kvs=>kvs.length<=sizeLine/\(a==sysModules)=false/\∃vs,KV kvs vs/\h.DictOf (za2 P w) a vs
 |.dT kvs=>kvs.length<=sizeLine/\(a==sysModules)=false/\∃xs:List (List Key×Addr×Value),
  Paired (λ(p:List Key×V)(q:List Key×Addr×Value)=>p.1=q.1/\H q.2.1=some (.tup (p.1.map kV))/\RelV p.2 q.2.2) kvs xs/\
  ∃o es ep,h.get? a=some o/\o.ExactDict/\o.data=.dict es ep/\es.toList=xs.map (entryOfKey (tupleKind (za2 P w)))/\(xs.map (·.1)).Nodup
 |.set S n=>h.SetOf (intKind P w) a S n
 |.ins C dx fs=>H dx=some (.own a)/\fs.length<=1000/\dx≠a/\h.get? a=some (PySem.W.instObj C dx)/\
  ∃mA,h.Ns1 dx mA/\(∀f,RelO (fs.lookup f) (mA f))/\PySem.Within mA (fs.map (·.1))
 |.own _=>∃o,h.get? a=some o
 |.xd fs=>∃mA,h.Ns1 a mA/\∀f,RelO (fs.lookup f) (mA f)
 |.rng lo hi=>∃t u v,h.get? a=some {cls:=.type "range",data:=.fields #[.int lo t,.int hi u,.int 1 v]}
 |.frz o u=>h.get? a=some o/\ObjOk H h a u
 |.tbl ps=>h.get? a=some {cls:=.none,data:=.fields ps}
 |.met f x=>h.get? a=some (PySem.W.methodObj (.ref f) (.ref x))
 |.ext φ=>φ h/\(∃o,h.get? a=some o)/\∀h1 h2:Heap,φ h1->(∀o,h1.get? a=some o->h2.get? a=some o)->φ h2
noncomputable def HOk(H:Hp)(h:Heap):Prop:=∀a o,H a=some o->ObjOk P w H h a o
end
section
variable{P:Program}{w:World}{H H':Hp}{h h':Heap}{a:Addr}{o:HO}
theorem ObjOk.lt(x:ObjOk P w H h a o):a<h.objs.size:=by
 cases o with
 |lst xs=>obtain⟨_,_,_,_,e⟩:=x;exact vaq e
 |tup xs=>obtain⟨_,_,_,p⟩:=x;exact p.lt
 |dK kvs=>obtain⟨_,_,_,_,o,_,_,e,_⟩:=x;exact vaq e
 |dT kvs=>obtain⟨_,_,_,_,o,_,_,e,_⟩:=x;exact vaq e
 |set S n=>obtain⟨o,_,_,_,e,_⟩:=x;exact vaq e
 |ins C dx fs=>obtain⟨_,_,_,e,_⟩:=x;exact vaq e
 |own y=>obtain⟨_,e⟩:=x;exact vaq e
 |xd fs=>obtain⟨_,⟨_,_,_,e,_⟩,_⟩:=x;exact vaq e
 |rng lo hi=>obtain⟨_,_,_,e⟩:=x;exact vaq e
 |frz ob u=>obtain⟨e,_⟩:=x;exact vaq e
 |tbl ps=>exact vaq (show h.get? a=some _ from x)
 |met f y=>exact vaq (show h.get? a=some _ from x)
 |ext φ=>obtain⟨_,⟨_,e⟩,_⟩:=x;exact vaq e
theorem Paired.mapP{α β:Type}{F G:α->β->Prop}:∀{l₁:List α} {l₂:List β},Paired F l₁ l₂->(∀a b,F a b->G a b)->Paired G l₁ l₂
 |_,_,.nil,_=>.nil
 |_,_,.cons r t,f=>.cons (f _ _ r) (Paired.mapP t f)
theorem ObjOk.stay(x:ObjOk P w H h a o)(k:∀b u,(b=a\/H b=some (.own a))->h.get? b=some u->h'.get? b=some u)
 (ho:∀b,H b=some (.own a)->H' b=some (.own a)) (ht:∀b xs,H b=some (.tup xs)->H' b=some (.tup xs)):ObjOk P w H' h' a o:=by
 induction o with
 |lst xs=>obtain⟨z,its,n,r,e⟩:=x;exact⟨z,its,n,r,k _ _ (.inl rfl) e⟩
 |tup xs=>obtain⟨z,its,r,ob,e,c⟩:=x;exact⟨z,its,r,ob,k _ _ (.inl rfl) e,c⟩
 |dK kvs=>obtain⟨z,y,vs,r,ob,es,ep,e,c⟩:=x;exact⟨z,y,vs,r,ob,es,ep,k _ _ (.inl rfl) e,c⟩
 |dT kvs=>
  obtain⟨z,y,xs,r,ob,es,ep,e,c⟩:=x
  exact⟨z,y,xs,Paired.mapP r λp q z=>⟨z.1,ht _ _ z.2.1,z.2.2⟩,ob,es,ep,k _ _ (.inl rfl) e,c⟩
 |set S n=>obtain⟨ob,es,ep,t,e,c⟩:=x;exact⟨ob,es,ep,t,k _ _ (.inl rfl) e,c⟩
 |ins C dx fs=>
  obtain⟨d,z,ne,e,mA,⟨od,es,ep,e2,c⟩,r⟩:=x
  exact⟨ho _ d,z,ne,k _ _ (.inl rfl) e,mA,⟨od,es,ep,k _ _ (.inr d) e2,c⟩,r⟩
 |own y=>obtain⟨ob,e⟩:=x;exact⟨ob,k _ _ (.inl rfl) e⟩
 |xd fs=>obtain⟨mA,⟨od,es,ep,e,c⟩,r⟩:=x;exact⟨mA,⟨od,es,ep,k _ _ (.inl rfl) e,c⟩,r⟩
 |rng lo hi=>obtain⟨t,u,v,e⟩:=x;exact⟨t,u,v,k _ _ (.inl rfl) e⟩
 |frz ob u ih=>obtain⟨e,q⟩:=x;exact⟨k _ _ (.inl rfl) e,ih q⟩
 |tbl ps=>
  have e:h.get? a=some {cls:=.none,data:=.fields ps}:=x
  show h'.get? a=some {cls:=.none,data:=.fields ps}
  exact k a _ (.inl rfl) e
 |met f y=>
  have e:h.get? a=some (PySem.W.methodObj (.ref f) (.ref y)):=x
  show h'.get? a=some (PySem.W.methodObj (.ref f) (.ref y))
  exact k a _ (.inl rfl) e
 |ext φ=>obtain⟨p,⟨o,e⟩,st⟩:=x;exact⟨st _ _ p λo q=>k _ _ (.inl rfl) q,⟨o,k _ _ (.inl rfl) e⟩,st⟩
theorem HOk.lt(x:HOk P w H h)(e:H a=some o):a<h.objs.size:=(x a o e).lt
theorem HOk.fresh(x:HOk P w H h)(e:h.objs.size<=a):H a=none:=by
 cases q:H a with
 |none=>rfl
 |some u=>exact absurd (vai (x.lt q) e) (Nat.lt_irrefl _)
theorem HOk.kept(x:HOk P w H h)(k:∀b u,h.get? b=some u->h'.get? b=some u):HOk P w H h':=λa o e=>
 (x a o e).stay (λb u _ q=>k b u q) (λ_ q=>q) λ_ _ q=>q
theorem HOk.laid(x:HOk P w H h)(k:∀b u,h.get? b=some u->h'.get? b=some u)(hp:h.objs.size<=a)(new:ObjOk P w (upd H a o) h' a o):HOk P w (upd H a o) h':=λb u e=>by
 have hn:=x.fresh hp
 by_cases hb:b=a
 .subst hb;rw[zak]at e;cases e;exact new
 .rw[zae hb]at e
  exact(x b u e).stay (λc v _ q=>k c v q) (λc q=>by rw[zae (zac q hn)];exact q) λc xs q=>by rw[zae (zac q hn)];exact q
end
noncomputable def Rd(H:Hp)(a:Addr)(u:HO):Prop:=H a=some u\/∃o,H a=some (.frz o u)
theorem Rd.ok{P:Program}{w:World}{H:Hp}{h:Heap}{a:Addr}{u:HO}(r:Rd H a u)(x:HOk P w H h):ObjOk P w H h a u:=by
 rcases r with r|⟨o,r⟩
 .exact x a u r
 .obtain⟨_,q⟩:=x a _ r
  exact q
noncomputable def Mut:Option HO->Prop
 |some (.lst _)=>True
 |some (.dK _)=>True
 |some (.dT _)=>True
 |some (.set _ _)=>True
 |some (.ins _ _ _)=>True
 |some (.ext _)=>True
 |_=>False
section
variable{P:Program}{w:World}{H:Hp}{h h':Heap}{x e:Addr}{o':HO}
theorem HOk.write(ok:HOk P w H h)(mu:Mut (H x))(he:e=x\/H e=some (.own x))(k:∀b u,b≠e->h.get? b=some u->h'.get? b=some u)(heo:∃u,h'.get? e=some u)
 (new:ObjOk P w (upd H x o') h' x o'):HOk P w (upd H x o') h':=λb u q=>by
 have nown:∀c y,H c=some (.own y)->c≠x:=λc y r z=>by subst z;rw[r]at mu;exact mu
 have ntup:∀c xs,H c=some (.tup xs)->c≠x:=λc xs r z=>by subst z;rw[r]at mu;exact mu
 by_cases hb:b=x
 .subst hb;rw[zak]at q;cases q;exact new
 .rw[zae hb]at q
  by_cases hbe:b=e
  .have q':H b=some (.own x):=by
    rcases he with z|z
    .exact absurd (hbe.trans z) hb
    .rw[hbe];exact z
   rw[q]at q';cases q'
   obtain⟨v,hv⟩:=heo
   exact⟨v,by rw[hbe];exact hv⟩
  .refine(ok b u q).stay (λc v hc r=>k c v ?_ r) (λc r=>by rw[zae (nown c b r)];exact r) λc xs r=>by rw[zae (ntup c xs r)];exact r
   rcases hc with rfl|hc
   .exact hbe
   .rintro rfl
    rcases he with z|z
    .exact nown c b hc z
    .rw[hc]at z;cases z;exact hb rfl
end
structure Un(fs ex:List Addr)(H H':Hp)(h h':Heap):Prop where
 keep:∀b o,h.get? b=some o->H b=none->b∉fs->b∉ex->h'.get? b=some o
 slot:∀b o,h.get? b=some o->H b=none->b∈fs->b∉ex->∃sl,h'.get? b=some {o with slots:=sl}
 free:∀b o,h.get? b=some o->H b=none->b∉ex->H' b=none
 there:∀b o,h.get? b=some o->b∉ex->∃o',h'.get? b=some o'
 tups:∀b xs,H b=some (.tup xs)->H' b=some (.tup xs)
 frzs:∀b o u,H b=some (.frz o u)->H' b=some (.frz o u)
 tbls:∀b ps,H b=some (.tbl ps)->∃more,H' b=some (.tbl (ps++more))
section
variable{fs fs' ex ex':List Addr}{H H1 H2:Hp}{h h1 h2 h':Heap}{a x e:Addr}{o:HO}
theorem Un.any(u:Un fs ex H H1 h h1){b:Addr}{ob:Obj}(q:h.get? b=some ob)(n:H b=none)(hx:b∉ex):∃sl,h1.get? b=some {ob with slots:=sl}:=by
 by_cases hb:b∈fs
 .exact u.slot b ob q n hb hx
 .exact⟨ob.slots,u.keep b ob q n hb hx⟩
theorem Un.kept(k:∀b u,h.get? b=some u->h'.get? b=some u):Un fs ex H H h h':=
 ⟨λb ob q _ _ _=>k b ob q,λb ob q _ _ _=>⟨ob.slots,k b ob q⟩,λ_ _ _ n _=>n,λb ob q _=>⟨ob,k b ob q⟩,λ_ _ q=>q,λ_ _ _ q=>q,λ_ ps q=>⟨#[],by rw[q];simp⟩⟩
theorem Un.refl:Un fs ex H H h h:=Un.kept λ_ _ q=>q
theorem Un.laid(k:∀b u,h.get? b=some u->h'.get? b=some u)(hp:h.objs.size<=a)(hn:H a=none):Un fs ex H (upd H a o) h h' where
 keep:=λb u q _ _ _=>k b u q
 slot:=λb u q _ _ _=>⟨u.slots,k b u q⟩
 free:=λb u q n _=>by rw[zae (va4 (vai (vaq q) hp))];exact n
 there:=λb u q _=>⟨u,k b u q⟩
 tups:=λb xs q=>by rw[zae (zac q hn)];exact q
 frzs:=λb u xs q=>by rw[zae (zac q hn)];exact q
 tbls:=λb ps q=>⟨#[],by rw[zae (zac q hn),q];simp⟩
theorem Un.write(mu:Mut (H x))(he:e=x\/H e=some (.own x))(k:∀b u,b≠e->h.get? b=some u->h'.get? b=some u)(heo:∃u,h'.get? e=some u):Un fs ex H (upd H x o) h h':=by
 have hx:∀b,H b=none->b≠x:=λb n z=>by subst z;rw[n]at mu;exact mu
 have hb:∀b,H b=none->b≠e:=λb n z=>by
  subst z
  rcases he with r|r
  .exact hx b n r
  .rw[n]at r;cases r
 have hm:∀b u,H b=some u->¬Mut (some u)->b≠x:=λb u q nm z=>by subst z;rw[q]at mu;exact nm mu
 refine⟨λb u q n _ _=>k b u (hb b n) q,λb u q n _ _=>⟨u.slots,k b u (hb b n) q⟩,λb u q n _=>by rw[zae (hx b n)];exact n,λb u q _=>?_,
  λb xs q=>by rw[zae (hm b _ q λz=>z)];exact q,λb u xs q=>by rw[zae (hm b _ q λz=>z)];exact q,λb ps q=>⟨#[],by rw[zae (hm b _ q λz=>z),q];simp⟩⟩
 by_cases hbe:b=e
 .subst hbe;exact heo
 .exact⟨u,k b u hbe q⟩
end
noncomputable def trk(h:Heap)(H:Hp):List Addr:=(List.range h.objs.size).filter λa=>(H a).isSome
noncomputable def hidT(h:Heap)(H:Hp):Heap:=PySem.W.hideAll h (trk h H)
theorem zlc(h:Heap)(H:Hp):(hidT h H).objs.size=h.objs.size:=PySem.W.hideAll_size _ _
theorem zns{h:Heap}{H:Hp}{b:Addr}{o:Obj}(e:h.get? b=some o)(n:H b=none):(hidT h H).get? b=some o:=
 PySem.W.hideAll_get _ e λhm=>by
  have q:(H b).isSome=true:=(List.mem_filter.mp hm).2
  rw[n]at q;simp at q
theorem zqn{h:Heap}{H:Hp}{b:Addr}{o:Obj}(e:(hidT h H).get? b=some o):h.get? b=some o/\H b=none:=by
 have e':h.get? b=some o:=PySem.W.of_hideAll (trk h H) e
 refine⟨e',?_⟩
 cases q:H b with
 |none=>rfl
 |some x=>
  have hm:b∈trk h H:=List.mem_filter.mpr ⟨List.mem_range.mpr (vaq e'),by simp[q]⟩
  have z:(hidT h H).get? b=none:=PySem.W.hideAll_none (trk h H) hm
  rw[z]at e;cases e
structure Mod(K:PySem.W.Frag)(mg:Str->Option Value)(base:Heap):Prop where
 kin:K.In base
 glob:base.Ns mainGlobals mg
 blt:∃mb,base.Ns builtinsNs mb/\∀x:Str,x≠"__name__"->mb x=bootBuiltins x
 nolimit:base.NoLimit
set_option genInjectivity false in
structure Cx where
 prog:Program
 w:World
 K:PySem.W.Frag
 mg:Str->Option Value
 base:Heap
 A:Around
 N:List Str
 s₀:Shared
 H₀:Hp
 env:Env
 outer:List Env
 stack:List Env
 ex:List Addr
 fn:Str->Bool
 calm:Bool
 pn:List (Addr×Obj)
 xe:Value->Shared->Prop
noncomputable def frs(l:List Env):List Addr:=l.filterMap (·.frame)
noncomputable abbrev Cx.fs(X:Cx):List Addr:=frs X.outer
noncomputable def Vis(sc:Scope)(x:Str):Prop:=sc.names.lookup x=some .local\/sc.names.lookup x=some .cell\/sc.names.lookup x=some .free
noncomputable def Loc(sc:Scope)(x:Str):Prop:=sc.names.lookup x=some .local\/sc.names.lookup x=some .cell
noncomputable def Look(env:Env)(h:Heap)(m:Str->Option Value)(x:Str)(u:Value):Prop:=
 (env.kindOf x=some .local/\m x=some u)\/((env.kindOf x=some .cell\/env.kindOf x=some .free)/\∃c,env.cells.lookup x=some c/\h.IsCell c (some u))
structure Cx.Ok(X:Cx):Prop where
 mod:Mod X.K X.mg X.base
 kind:X.env.scope.kind=.function
 glob:X.env.globals=mainGlobals
 blt:X.env.builtins=builtinsNs
 above:X.s₀.heap.objs.size<=X.env.locals
 inj:∀x y c,X.env.cells.lookup x=some c->X.env.cells.lookup y=some c->x=y
 has:∀x,(X.env.kindOf x=some .cell\/X.env.kindOf x=some .free)->∃c,X.env.cells.lookup x=some c
 cab:∀x c,X.fn x=true->X.env.cells.lookup x=some c->X.s₀.heap.objs.size<=c
 hd:X.calm=true->X.A.handled=none
 frames:X.A.frames=some X.stack
 stk:X.stack=X.outer\/(X.stack=X.env::X.outer/\X.env.frame=some X.env.locals)
 exf:∀b∈X.ex,b≠X.env.locals/\∀x c,X.env.cells.lookup x=some c->c≠b
 bs:∀b o,X.base.get? b=some o->X.s₀.heap.get? b=some o/\X.H₀ b=none
 bsz:X.base.objs.size<=X.s₀.heap.objs.size
 noex:∀b o,X.base.get? b=some o->b∉X.ex
 exfs:∀b∈X.ex,b∉X.fs
 funs:X.s₀.heap.FunFrames X.base X.outer
 frf:∀b∈X.fs,X.H₀ b=none
structure Inv(X:Cx)(pins:List (Addr×Obj))(σ:List (Option V))(H:Hp)(s:Shared):Prop where
 ok:X.Ok
 os:s.os=X.s₀.os
 bare:AllBare s.gens
 base:Un X.fs X.ex X.H₀ H X.s₀.heap s.heap
 loc:∃m,s.heap.Ns X.env.locals m/\∀(i:Nat)(x:Str)(v:V),X.N[i]?=some x->σ[i]?=some (some v)->Vis X.env.scope x->∃u,RelV v u/\Look X.env s.heap m x u
 cell:∀x c,X.env.cells.lookup x=some c->∃v,s.heap.IsCell c v
 free:H X.env.locals=none
 freeC:∀x c,X.env.cells.lookup x=some c->H c=none
 pin:∀p∈X.pn++pins,s.heap.get? p.1=some p.2/\H p.1=none/\p.1≠X.env.locals/\p.1∉X.fs/\∀v,p.2.data≠.cell v
 hok:HOk X.prog X.w H s.heap
 len:σ.length=X.N.length
section
variable{X:Cx}{pins:List (Addr×Obj)}{σ:List (Option V)}{H H':Hp}{s:Shared}{h':Heap}
theorem Cx.Ok.nofr(ok:X.Ok){b:Addr}{o:Obj}(e:X.base.get? b=some o):b∉X.fs:=λhb=>by
 have:=(ok.funs.mem hb).1
 rw[e]at this;cases this
theorem Inv.bs(I:Inv X pins σ H s):∀b o,X.base.get? b=some o->s.heap.get? b=some o/\H b=none:=λb o e=>
 ⟨I.base.keep b o (I.ok.bs b o e).1 (I.ok.bs b o e).2 (I.ok.nofr e) (I.ok.noex b o e),I.base.free b o (I.ok.bs b o e).1 (I.ok.bs b o e).2 (I.ok.noex b o e)⟩
theorem Inv.bk(I:Inv X pins σ H s):∀b o,X.base.get? b=some o->s.heap.get? b=some o:=λb o e=>(I.bs b o e).1
theorem Inv.mod(I:Inv X pins σ H s):Mod X.K X.mg X.base:=I.ok.mod
theorem Inv.kIn(I:Inv X pins σ H s):X.K.In s.heap:=I.ok.mod.kin.keeps I.bk
theorem Inv.lt(I:Inv X pins σ H s):X.env.locals<s.heap.objs.size:=let⟨_,hn,_⟩:=I.loc;hn.lt
theorem Inv.sz(I:Inv X pins σ H s):X.s₀.heap.objs.size<=s.heap.objs.size:=Nat.le_trans I.ok.above (Nat.le_of_lt I.lt)
theorem Inv.nofs(I:Inv X pins σ H s){a:Addr}(h:s.heap.objs.size<=a):a∉X.fs:=λhb=>by
 obtain⟨_,o,ho,_⟩:=I.ok.funs.mem hb
 exact absurd (vai (vaq ho) (Nat.le_trans I.sz h)) (Nat.lt_irrefl _)
theorem Inv.cne(I:Inv X pins σ H s):∀x c,X.env.cells.lookup x=some c->c≠X.env.locals:=λx c e z=>by
 obtain⟨v,o,ho,hd⟩:=I.cell x c e
 obtain⟨m,⟨o',es,ep,ho',hd',_⟩,_⟩:=I.loc
 rw[z,ho']at ho;cases ho;rw[hd']at hd;cases hd
theorem Inv.funs(I:Inv X pins σ H s):s.heap.FunFrames X.base X.outer:=by
 have all:∀(l:List Env),(∀b∈frs l,b∈X.fs)->X.s₀.heap.FunFrames X.base l->s.heap.FunFrames X.base l:=by
  intro l
  induction l with
  |nil=>intro _ _;trivial
  |cons env r ih=>
   intro hs hl
   obtain⟨hk,⟨L,o,hf,hn,ho,hd⟩,hr⟩:=hl
   have hL:L∈X.fs:=hs L (by unfold frs;rw[List.filterMap_cons,hf];exact vag)
   obtain⟨sl,e⟩:=I.base.slot L o ho (I.ok.frf L hL) hL λz=>I.ok.exfs L z hL
   exact⟨hk,⟨L,_,hf,hn,e,hd⟩,ih (λb hb=>hs b (by unfold frs;rw[List.filterMap_cons,hf];exact vad _ hb)) hr⟩
 exact all X.outer (λ_ hb=>hb) I.ok.funs
theorem Inv.stack(I:Inv X pins σ H s):s.heap.FunFrames X.base X.stack:=by
 rcases I.ok.stk with e|⟨e,hf⟩
 .rw[e];exact I.funs
 .rw[e]
  obtain⟨m,hn,_⟩:=I.loc
  refine .cons (by rw[I.ok.kind];decide) hf hn ?_ I.funs
  exact Heap.get?_none_of_le (Nat.le_trans I.ok.bsz I.ok.above)
theorem Inv.stkSub(I:Inv X pins σ H s):∀b∈frs X.stack,b∈X.env.locals::X.fs:=λb hb=>by
 rcases I.ok.stk with e|⟨e,hf⟩
 .rw[e]at hb;exact vad _ hb
 .rw[e]at hb
  unfold frs at hb
  rw[List.filterMap_cons,hf]at hb
  exact hb
theorem Inv.stkFree(I:Inv X pins σ H s):∀b∈frs X.stack,H b=none:=λb hb=>by
 rcases va2.mp (I.stkSub b hb)with e|hb
 .rw[e];exact I.free
 .obtain⟨_,o,ho,_⟩:=I.ok.funs.mem hb
  exact I.base.free b o ho (I.ok.frf b hb) λz=>I.ok.exfs b z hb
theorem Inv.step{g':Array GenState}{t':Nat}{d':Drawn}{ch:List Addr}(I:Inv X pins σ H s)
 (hch:∀b∈ch,(b∈X.ex\/X.s₀.heap.objs.size<=b)/\b≠X.env.locals/\(∀x c,X.env.cells.lookup x=some c->c≠b)/\∀p∈X.pn++pins,p.1≠b)
 (keep:∀b o,b≠X.env.locals->b∉X.fs->b∉ch->s.heap.get? b=some o->H b=none->h'.get? b=some o)
 (slot:∀b o,b≠X.env.locals->b∈X.fs->b∉ch->s.heap.get? b=some o->H b=none->∃sl,h'.get? b=some {o with slots:=sl}) (free:∀b o,b∉ch->s.heap.get? b=some o->H b=none->H' b=none)
 (there:∀b o,b∉ch->s.heap.get? b=some o->∃o',h'.get? b=some o')
 (tups:∀b xs,H b=some (.tup xs)->H' b=some (.tup xs)) (frzs:∀b o u,H b=some (.frz o u)->H' b=some (.frz o u)) (tbls:∀b ps,H b=some (.tbl ps)->∃more,H' b=some (.tbl (ps++more)))
 (ns:∀m,s.heap.Ns X.env.locals m->h'.Ns X.env.locals m) (hok:HOk X.prog X.w H' h') (hg:AllBare g') :
 Inv X pins σ H' {s with heap:=h',gens:=g',drawn:=d',toks:=t'}:=by
 have neL:∀b o,X.s₀.heap.get? b=some o->b≠X.env.locals:=λb o e=>va4 (vai (vaq e) I.ok.above)
 have neC:∀b o,X.s₀.heap.get? b=some o->b∉X.ex->b∉ch:=λb o e hx hb=>by
  rcases(hch b hb).1 with z|z
  .exact hx z
  .exact absurd (vai (vaq e) z) (Nat.lt_irrefl _)
 have cellK:∀x c,X.env.cells.lookup x=some c->∀v,s.heap.IsCell c v->h'.IsCell c v:=λx c e v hq0=>by
  obtain⟨o,ho,hd⟩:=hq0
  have nch:c∉ch:=λz=>(hch c z).2.2.1 x c e rfl
  by_cases hc:c∈X.fs
  .obtain⟨sl,q⟩:=slot c o (I.cne x c e) hc nch ho (I.freeC x c e)
   exact⟨_,q,hd⟩
  .exact⟨o,keep c o (I.cne x c e) hc nch ho (I.freeC x c e),hd⟩
 refine⟨I.ok,I.os,hg,⟨λb o e n hb hx=>?_,λb o e n hb hx=>?_,λb o e n hx=>?_,λb o e hx=>?_,λb xs e=>tups b xs (I.base.tups b xs e),λb o xs e=>frzs b o xs (I.base.frzs b o xs e),λb ps e=>?_⟩,?_,λx c e=>?_,?_,λx c e=>?_,λp hp=>?_,hok,I.len⟩
 .exact keep b o (neL b o e) hb (neC b o e hx) (I.base.keep b o e n hb hx) (I.base.free b o e n hx)
 .obtain⟨sl,e1⟩:=I.base.slot b o e n hb hx
  obtain⟨sl',e2⟩:=slot b _ (neL b o e) hb (neC b o e hx) e1 (I.base.free b o e n hx)
  exact⟨sl',e2⟩
 .obtain⟨o',e1⟩:=I.base.there b o e hx
  exact free b o' (neC b o e hx) e1 (I.base.free b o e n hx)
 .obtain⟨o',e1⟩:=I.base.there b o e hx
  exact there b o' (neC b o e hx) e1
 .obtain⟨m1,e1⟩:=I.base.tbls b ps e
  obtain⟨m2,e2⟩:=tbls b _ e1
  exact⟨m1++m2,by rw[e2,Array.append_assoc]⟩
 .obtain⟨m,hn,hl⟩:=I.loc
  refine⟨m,ns m hn,λi x v e1 e2 e3=>?_⟩
  obtain⟨u,r,l⟩:=hl i x v e1 e2 e3
  refine⟨u,r,?_⟩
  rcases l with l|⟨k,c,e,z⟩
  .exact .inl l
  .exact .inr ⟨k,c,e,cellK x c e _ z⟩
 .obtain⟨v,z⟩:=I.cell x c e
  exact⟨v,cellK x c e v z⟩
 .obtain⟨m,⟨o,_,_,ho,_⟩,_⟩:=I.loc
  exact free _ o (λz=>(hch _ z).2.1 rfl) ho I.free
 .obtain⟨v,o,ho,hd⟩:=I.cell x c e
  exact free c o (λz=>(hch c z).2.2.1 x c e rfl) ho (I.freeC x c e)
 .obtain⟨e,n,ne,nf,d⟩:=I.pin p hp
  have nch:p.1∉ch:=λz=>(hch p.1 z).2.2.2 p hp rfl
  exact⟨keep p.1 p.2 ne nf nch e n,free p.1 p.2 nch e n,ne,nf,d⟩
theorem Inv.un{t':Nat}(I:Inv X pins σ H s)(u:Un X.fs [] H H' s.heap h')(hok:HOk X.prog X.w H' h'):Inv X pins σ H' {s with heap:=h',toks:=t'}:=by
 obtain⟨m,⟨o,es,ep,ho,r⟩,_⟩:=id I.loc
 obtain⟨sl,hL⟩:=u.any ho I.free (by simp)
 exact I.step (g':=s.gens) (d':=s.drawn) (ch:=[]) (λ_ z=>nomatch z) (λb o _ hb _ e n=>u.keep b o e n hb (by simp)) (λb o _ hb _ e n=>u.slot b o e n hb (by simp)) (λb o _ e n=>u.free b o e n (by simp)) (λb o _ e=>u.there b o e (by simp)) u.tups u.frzs u.tbls (λm' hm=>by
  obtain⟨o',es',ep',ho',r'⟩:=hm
  rw[ho]at ho';cases ho'
  exact⟨_,es',ep',hL,r'⟩) hok I.bare
theorem Inv.call{g':Array GenState}{t':Nat}{d':Drawn}{ch:List Addr}(I:Inv X pins σ H s)(u:Un (frs X.stack) ch H H' s.heap h')(hok:HOk X.prog X.w H' h')(hg:AllBare g')
 (hch:∀b∈ch,(b∈X.ex\/X.s₀.heap.objs.size<=b)/\b≠X.env.locals/\(∀x c,X.env.cells.lookup x=some c->c≠b)/\∀p∈X.pn++pins,p.1≠b) :
 Inv X pins σ H' {s with heap:=h',gens:=g',drawn:=d',toks:=t'}:=by
 obtain⟨m,⟨o,es,ep,ho,r⟩,_⟩:=id I.loc
 obtain⟨sl,hL⟩:=u.any ho I.free λz=>(hch _ z).2.1 rfl
 exact I.step (ch:=ch) hch (λb o hL hb hc e n=>u.keep b o e n (λz=>(va2.mp (I.stkSub b z)).elim hL hb) hc) (λb o _ _ hc e n=>u.any e n hc) (λb o hc e n=>u.free b o e n hc) (λb o hc e=>u.there b o e hc) u.tups u.frzs u.tbls (λm' hm=>by
  obtain⟨o',es',ep',ho',r'⟩:=hm
  rw[ho]at ho';cases ho'
  exact⟨_,es',ep',hL,r'⟩) hok hg
theorem Inv.turned{t':Nat}{it:Addr}(I:Inv X pins σ H s)(k:∀b o,b≠it->s.heap.get? b=some o->h'.get? b=some o)(hn:H it=none)(hL:it≠X.env.locals)
 (h1:it∈X.ex\/X.s₀.heap.objs.size<=it) (h2:∀x c,X.env.cells.lookup x=some c->c≠it) (h3:∀p∈X.pn++pins,p.1≠it):Inv X pins σ H {s with heap:=h',toks:=t'}:=by
 have nit:∀b u,H b=some u->b≠it:=λb u e z=>by rw[z,hn]at e;cases e
 refine I.step (g':=s.gens) (d':=s.drawn) (ch:=[it]) (λb hb=>?_) (λb o _ _ hc e _=>k b o (λz=>hc (by simp[z])) e) (λb o _ _ hc e _=>⟨o.slots,k b o (λz=>hc (by simp[z])) e⟩) (λ_ _ _ _ n=>n)
  (λb o hc e=>⟨o,k b o (λz=>hc (by simp[z])) e⟩) (λ_ _ e=>e) (λ_ _ _ e=>e) (λb ps e=>⟨#[],by rw[e];simp⟩) (λm hm=>?_) (λb u e=>?_) I.bare
 .have e:b=it:=by simpa using hb
  subst e
  exact⟨h1,hL,h2,h3⟩
 .obtain⟨o,es,ep,ho,r⟩:=hm
  exact⟨o,es,ep,k _ o (Ne.symm hL) ho,r⟩
 .refine(I.hok b u e).stay (λc v hc q=>k c v ?_ q) (λ_ q=>q) λ_ _ q=>q
  rcases hc with z|z
  .rw[z];exact nit b u e
  .exact nit c _ z
theorem Inv.tok(I:Inv X pins σ H s)(t:Nat):Inv X pins σ H {s with toks:=t}:=I.un (h':=s.heap) (t':=t) Un.refl I.hok
theorem Inv.kept{t':Nat}(I:Inv X pins σ H s)(k:∀b u,s.heap.get? b=some u->h'.get? b=some u):Inv X pins σ H {s with heap:=h',toks:=t'}:=I.un (Un.kept k) (I.hok.kept k)
theorem Inv.laid{a:Addr}{o:HO}{t':Nat}(I:Inv X pins σ H s)(k:∀b u,s.heap.get? b=some u->h'.get? b=some u)(hp:s.heap.objs.size<=a)(new:ObjOk X.prog X.w (upd H a o) h' a o) :
 Inv X pins σ (upd H a o) {s with heap:=h',toks:=t'}:=I.un (Un.laid k hp (I.hok.fresh hp)) (I.hok.laid k hp new)
theorem Inv.write{x e:Addr}{o:HO}{t':Nat}(I:Inv X pins σ H s)(mu:Mut (H x))(he:e=x\/H e=some (.own x))(k:∀b u,b≠e->s.heap.get? b=some u->h'.get? b=some u)(heo:∃u,h'.get? e=some u)
 (new:ObjOk X.prog X.w (upd H x o) h' x o):Inv X pins σ (upd H x o) {s with heap:=h',toks:=t'}:=I.un (Un.write mu he k heo) (I.hok.write mu he k heo new)
theorem Inv.pins_of{pins':List (Addr×Obj)}(I:Inv X pins σ H s)(h:∀p∈pins',s.heap.get? p.1=some p.2/\H p.1=none/\p.1≠X.env.locals/\p.1∉X.fs/\∀v,p.2.data≠.cell v):Inv X pins' σ H s:=
 ⟨I.ok,I.os,I.bare,I.base,I.loc,I.cell,I.free,I.freeC,λp hp=>(List.mem_append.mp hp).elim (λz=>I.pin p (List.mem_append_left _ z)) (h p),I.hok,I.len⟩
theorem zi8{N:List Str}(hN:N.Nodup){i j:Nat}{x:Str}(a:N[i]?=some x)(b:N[j]?=some x):i=j:=by
 obtain⟨h1,e1⟩:=vav.mp a
 obtain⟨h2,e2⟩:=vav.mp b
 exact(List.getElem_inj hN).mp (e1.trans e2.symm)
theorem zg3{M:Model}{A:Around}{E:Value->Shared->Prop}{i:Nat}{x:Str}{v:V}{u:Value}{Q:Unit->Shared->Prop}(I:Inv X pins σ H s)(hN:X.N.Nodup)(hi:X.N[i]?=some x)(hx:Loc X.env.scope x)(r:RelV v u)
 (h:∀s',Inv X pins (σ.set i (some v)) H s'->(∃a,Heap.SameBut a s.heap s'.heap/\(a=X.env.locals\/X.env.cells.lookup x=some a))->Q () s') (hf:X.fn x=true\/X.env.scope.names.lookup x=some .local:=by first|exact .inl rfl|exact .inr rfl|assumption):wpAny M A (storeName X.env x u) Q E s:=by
 obtain⟨m,hn,hl⟩:=id I.loc
 have hcls:(X.env.scope.kind == .class|| (X.env.scope.kind == .module&&X.env.locals != X.env.globals))=false:=by rw[I.ok.kind];rfl
 have hiσ:i<σ.length:=by rw[I.len];exact(vav.mp hi).1
 have cne:=I.cne
 have tracked:∀{a:Addr}{h':Heap},(∃o,s.heap.get? a=some o/\H a=none)->Heap.SameBut a s.heap h'->HOk X.prog X.w H h':=λ{a h'} ha hs b ob e=>by
  obtain⟨_,_,hfree⟩:=ha
  refine(I.hok b ob e).stay (λc w' hc q=>(hs.2 c ?_).trans q) (λ_ q=>q) λ_ _ q=>q
  rintro rfl
  rcases hc with rfl|hc
  .rw[hfree]at e;cases e
  .rw[hfree]at hc;cases hc
 rcases hx with hk|hk
 .refine wpAny_storeName_local hk hn (λh' hn' hs=>?_) hcls
  obtain⟨oL,_,_,hoL,_⟩:=id hn
  refine h _ ⟨I.ok,I.os,I.bare,⟨λb o e n hb hx=>?_,λb o e n hb hx=>?_,I.base.free,λb o e hx=>?_,I.base.tups,I.base.frzs,I.base.tbls⟩,⟨_,hn',λj y v' e1 e2 e3=>?_⟩,λy c e=>?_,I.free,I.freeC,λp hp=>?_,tracked ⟨oL,hoL,I.free⟩ hs,by simpa using I.len⟩ ⟨_,hs,.inl rfl⟩
  .exact(hs.2 b (va4 (vai (vaq e) I.ok.above))).trans (I.base.keep b o e n hb hx)
  .obtain⟨sl,e1⟩:=I.base.slot b o e n hb hx
   exact⟨sl,(hs.2 b (va4 (vai (vaq e) I.ok.above))).trans e1⟩
  .obtain⟨o',e1⟩:=I.base.there b o e hx
   exact⟨o',(hs.2 b (va4 (vai (vaq e) I.ok.above))).trans e1⟩
  .by_cases hj:j=i
   .subst hj
    rw[hi]at e1;cases e1
    rw[List.getElem?_set_self hiσ]at e2
    cases e2
    exact⟨u,r,.inl ⟨hk,by simp⟩⟩
   .rw[List.getElem?_set_ne (Ne.symm hj)]at e2
    obtain⟨u',r',q⟩:=hl j y v' e1 e2 e3
    refine⟨u',r',?_⟩
    rcases q with⟨k,e⟩|⟨k,c,e,z⟩
    .refine .inl ⟨k,?_⟩
     have:y≠x:=λe=>hj (zi8 hN e1 (e▸hi))
     simp[this,e]
    .exact .inr ⟨k,c,e,z.sameBut hs (cne y c e)⟩
  .obtain⟨w',z⟩:=I.cell y c e
   exact⟨w',z.sameBut hs (cne y c e)⟩
  .obtain⟨e,n,ne,nf,d⟩:=I.pin p hp
   exact⟨(hs.2 p.1 ne).trans e,n,ne,nf,d⟩
 .have hfn:X.fn x=true:=by
   rcases hf with z|z
   .exact z
   .rw[z]at hk;cases hk
  obtain⟨c,hc⟩:=I.ok.has x (.inl hk)
  obtain⟨w',z⟩:=I.cell x c hc
  refine wpAny_storeName_cell I.ok.kind hk hc z (λh' hc' hs=>?_)
  obtain⟨oc,hoc,hocd⟩:=id z
  refine h {s with heap:=h'} ⟨I.ok,I.os,I.bare,⟨λb o e n hb hx=>?_,λb o e n hb hx=>?_,I.base.free,λb o e hx=>?_,I.base.tups,I.base.frzs,I.base.tbls⟩,⟨m,hn.sameBut hs (Ne.symm (cne x c hc)),λj y v' e1 e2 e3=>?_⟩,λy c' e=>?_,I.free,I.freeC,λp hp=>?_,tracked ⟨oc,hoc,I.freeC x c hc⟩ hs,by simpa using I.len⟩ ⟨c,hs,.inr hc⟩
  .exact(hs.2 b (va4 (vai (vaq e) (I.ok.cab x c hfn hc)))).trans (I.base.keep b o e n hb hx)
  .obtain⟨sl,e1⟩:=I.base.slot b o e n hb hx
   exact⟨sl,(hs.2 b (va4 (vai (vaq e) (I.ok.cab x c hfn hc)))).trans e1⟩
  .obtain⟨o',e1⟩:=I.base.there b o e hx
   exact⟨o',(hs.2 b (va4 (vai (vaq e) (I.ok.cab x c hfn hc)))).trans e1⟩
  .by_cases hj:j=i
   .subst hj
    rw[hi]at e1;cases e1
    rw[List.getElem?_set_self hiσ]at e2
    cases e2
    exact⟨u,r,.inr ⟨.inl hk,c,hc,hc'⟩⟩
   .rw[List.getElem?_set_ne (Ne.symm hj)]at e2
    obtain⟨u',r',q⟩:=hl j y v' e1 e2 e3
    refine⟨u',r',?_⟩
    rcases q with q|⟨k,c',e,z'⟩
    .exact .inl q
    .refine .inr ⟨k,c',e,z'.sameBut hs ?_⟩
     rintro rfl
     exact hj (zi8 hN e1 (I.ok.inj _ _ _ e hc▸hi))
  .by_cases hcc:c'=c
   .subst hcc;exact⟨_,hc'⟩
   .obtain⟨w2,z2⟩:=I.cell y c' e
    exact⟨w2,z2.sameBut hs hcc⟩
  .obtain⟨e,n,ne,nf,d⟩:=I.pin p hp
   refine⟨(hs.2 p.1 ?_).trans e,n,ne,nf,d⟩
   intro q
   rw[q,hoc]at e
   have q':oc=p.2:=Option.some.inj e
   exact d w' (by rw[<-q'];exact hocd)
theorem zf5{M:Model}{A:Around}{E:Value->Shared->Prop}{i:Nat}{x:Str}{v:V}{u:Value}{Q:Unit->Shared->Prop}(I:Inv X pins σ H s)(hN:X.N.Nodup)(hi:X.N[i]?=some x)(hx:Loc X.env.scope x)(r:RelV v u)
 (h:∀s',Inv X pins (σ.set i (some v)) H s'->Q () s') (hf:X.fn x=true\/X.env.scope.names.lookup x=some .local:=by first|exact .inl rfl|exact .inr rfl|assumption):wpAny M A (storeName X.env x u) Q E s:=
 zg3 I hN hi hx r (λs' I' _=>h s' I') hf
theorem Inv.call'{s':Shared}{ch:List Addr}(I:Inv X pins σ H s)(ho:s'.os=s.os)(u:Un (frs X.stack) ch H H' s.heap s'.heap)(hok:HOk X.prog X.w H' s'.heap)(hg:AllBare s'.gens)
 (hch:∀b∈ch,(b∈X.ex\/X.s₀.heap.objs.size<=b)/\b≠X.env.locals/\(∀x c,X.env.cells.lookup x=some c->c≠b)/\∀p∈X.pn++pins,p.1≠b):Inv X pins σ H' s':=by
 obtain⟨h',g',d',t',o'⟩:=s'
 have e:o'=s.os:=ho
 subst e
 exact I.call (g':=g') (t':=t') (d':=d') u hok hg hch
end
noncomputable abbrev XK:=Value->Option Addr->Hp->Prop
noncomputable abbrev St:=List (Option V)
noncomputable abbrev VK:=V->Hp->Prop
noncomputable abbrev TE:=St->Hp->VK->Prop
noncomputable abbrev TT:=St->Hp->(Bool->Hp->Prop)->Prop
noncomputable abbrev TA:=St->Hp->(List V->Hp->Prop)->Prop
set_option genInjectivity false in
structure Ends where
 nx:St->Hp->Prop
 rt:VK
 bk:St->Hp->Prop:=λ_ _=>False
 ct:St->Hp->Prop:=λ_ _=>False
noncomputable abbrev TS:=Ends->St->Hp->Prop
noncomputable def EP(X:Cx)(pins:List (Addr×Obj))(σ:St)(Q:VK)(u:Value)(s':Shared):Prop:=∃v H',Inv X pins σ H' s'/\RelV v u/\Q v H'
noncomputable def TP(X:Cx)(pins:List (Addr×Obj))(σ:St)(Q:Bool->Hp->Prop)(b:Bool)(s':Shared):Prop:=∃H',Inv X pins σ H' s'/\Q b H'
noncomputable def AP(X:Cx)(pins:List (Addr×Obj))(σ:St)(Q:List V->Hp->Prop)(us:List Value)(s':Shared):Prop:=∃vs H',Inv X pins σ H' s'/\Vals vs us/\Q vs H'
theorem EP.el{X:Cx}{pins:List (Addr×Obj)}{σ:St}{Q:VK}{u:Value}{s':Shared}{P:Prop}(q:EP X pins σ Q u s')(k:∀v H',Inv X pins σ H' s'->RelV v u->Q v H'->P):P:=by
 obtain⟨v,H',a,b,c⟩:=q
 exact k v H' a b c
theorem TP.el{X:Cx}{pins:List (Addr×Obj)}{σ:St}{Q:Bool->Hp->Prop}{b:Bool}{s':Shared}{P:Prop}(q:TP X pins σ Q b s')(k:∀H',Inv X pins σ H' s'->Q b H'->P):P:=by
 obtain⟨H',a,c⟩:=q
 exact k H' a c
theorem AP.el{X:Cx}{pins:List (Addr×Obj)}{σ:St}{Q:List V->Hp->Prop}{us:List Value}{s':Shared}{P:Prop}(q:AP X pins σ Q us s')(k:∀vs H',Inv X pins σ H' s'->Vals vs us->Q vs H'->P):P:=by
 obtain⟨v,H',a,b,c⟩:=q
 exact k v H' a b c
noncomputable def SP(X:Cx)(pins:List (Addr×Obj))(D:Ends)(f:Flow)(s':Shared):Prop:=
 match f with
 |.next=>∃σ' H',Inv X pins σ' H' s'/\D.nx σ' H'
 |.brk=>∃σ' H',Inv X pins σ' H' s'/\D.bk σ' H'
 |.cont=>∃σ' H',Inv X pins σ' H' s'/\D.ct σ' H'
 |.ret u=>∃v σ' H',Inv X pins σ' H' s'/\RelV v u/\D.rt v H'
noncomputable def PE(X:Cx)(e:Expr)(t:TE):Prop:=
 ∀(pins:List (Addr×Obj))(s:Shared)(σ:St)(H:Hp)(Q:VK),Inv X pins σ H s->t σ H Q->wpAny (model X.prog X.w) X.A (eval e X.env) (EP X pins σ Q) X.xe s
noncomputable def PT(X:Cx)(e:Expr)(t:TT):Prop:=
 ∀(pins:List (Addr×Obj))(s:Shared)(σ:St)(H:Hp)(Q:Bool->Hp->Prop),Inv X pins σ H s->t σ H Q->wpAny (model X.prog X.w) X.A (isTrue e X.env (eval e X.env)) (TP X pins σ Q) X.xe s
noncomputable def PW(X:Cx)(e:Expr)(t:TT):Prop:=
 ∀(whole:Sem Value)(pins:List (Addr×Obj))(s:Shared)(σ:St)(H:Hp)(Q:Bool->Hp->Prop),Inv X pins σ H s->t σ H Q->wpAny (model X.prog X.w) X.A (isTrue e X.env whole) (TP X pins σ Q) X.xe s
theorem PW.pt{X:Cx}{e:Expr}{t:TT}(h:PW X e t):PT X e t:=h _
noncomputable def PA(X:Cx)(es:List Expr)(t:TA):Prop:=
 ∀(pos:Pos)(pins:List (Addr×Obj))(s:Shared)(σ:St)(H:Hp)(Q:List V->Hp->Prop),Inv X pins σ H s->t σ H Q->wpAny (model X.prog X.w) X.A (spliced (backTo pos (starEach es X.env))) (AP X pins σ Q) X.xe s
noncomputable def PS(X:Cx)(st:Stmt)(t:TS):Prop:=
 ∀(pins:List (Addr×Obj))(s:Shared)(σ:St)(H:Hp)(D:Ends),Inv X pins σ H s->t D σ H->wpAny (model X.prog X.w) X.A (exec st X.env) (SP X pins D) X.xe s
noncomputable def PSs(X:Cx)(st:List Stmt)(t:TS):Prop:=
 ∀(pins:List (Addr×Obj))(s:Shared)(σ:St)(H:Hp)(D:Ends),Inv X pins σ H s->t D σ H->wpAny (model X.prog X.w) X.A (execs st X.env) (SP X pins D) X.xe s
theorem thn{α:Type}{t:Sem α}{Q Q':α->Shared->Prop}{M:Model}{A:Around}{E:Value->Shared->Prop}{s:Shared}(h:wpAny M A t Q E s)(hQ:∀a s,Q a s->Q' a s):wpAny M A t Q' E s:=wpAny_mono h hQ λ_ _ x=>x
section
variable{X:Cx}
noncomputable def tVar(i:Nat):TE:=λσ H Q=>∃v,σ[i]?=some (some v)/\Q v H
noncomputable def tC(v:V):TE:=λ_ H Q=>Q v H
theorem zth{i:Nat}{x:Str}{pos:Pos}(hN:X.N[i]?=some x)(hv:Vis X.env.scope x)(hd:(x==("__debug__" : Str))=false:=by decide)(hcd:(x==("__classdict__" : Str))=false:=by decide):PE X (.Name x pos) (tVar i):=by
 intro pins s σ H Q I h
 obtain⟨v,e,h⟩:=h
 obtain⟨m,hn,hl⟩:=I.loc
 obtain⟨u,r,l⟩:=hl i x v hN e hv
 have fin:EP X pins σ Q u s:=⟨v,H,I,r,h⟩
 rcases l with⟨hk,hm⟩|⟨hk,c,hc,hcell⟩
 .exact wpAny_Name (wpAny_loadName_local I.ok.kind hk hn hm fin) hd
 .rcases hk with hk|hk
  .exact wpAny_Name (wpAny_loadName_cell I.ok.kind hk hc hcell fin) hd
  .exact wpAny_Name (wpAny_loadName_free I.ok.kind hk hc hcell fin hcd) hd
theorem zti{i j pos}:PE X (.Constant (.int i) j pos) (tC (.int i)):=λ_ _ _ H _ I h=>wpAny_Constant_int ⟨.int i,H,I.tok _,⟨_,rfl⟩,h⟩
theorem pe_bl{b j pos}:PE X (.Constant (.bool b) j pos) (tC (.bl b)):=λ_ _ _ H _ I h=>Constant_bool ⟨.bl b,H,I,rfl,h⟩
theorem ztj{j pos}:PE X (.Constant .none j pos) (tC .non):=λ_ _ _ H _ I h=>Constant_none ⟨.non,H,I,rfl,h⟩
theorem ztk{x j pos}:PE X (.Constant (.str x) j pos) (tC (.str x)):=λ_ _ _ H _ I h=>Calls.Constant_str ⟨.str x,H,I.tok _,⟨_,rfl⟩,h⟩
noncomputable def Gl(X:Cx)(x:Str):Prop:=X.env.kindOf x=some .globalImplicit
theorem zf6{E:Value->Shared->Prop}{pins:List (Addr×Obj)}{s:Shared}{σ:St}{H:Hp}{x:Str}{u:Value}{pos:Pos}{Q:Value->Shared->Prop}(I:Inv X pins σ H s)(hg:Gl X x)(hm:X.mg x=some u)(h:Q u s)
 (hd:(x==("__debug__" : Str))=false:=by decide):wpAny (model X.prog X.w) X.A (eval (.Name x pos) X.env) Q E s:=
 Calls.Name_function_global I.ok.kind hg (Calls.loadGlobal_global (by rw[I.ok.glob];exact I.mod.glob.keeps I.bk) hm h) hd
theorem zcq{E:Value->Shared->Prop}{pins:List (Addr×Obj)}{s:Shared}{σ:St}{H:Hp}{x:Str}{u:Value}{pos:Pos}{Q:Value->Shared->Prop}(I:Inv X pins σ H s)(hg:Gl X x)(hm:X.mg x=none)(hv:bootBuiltins x=some u)(h:Q u s)
 (hn:x≠"__name__":=by decide) (hd:(x==("__debug__" : Str))=false:=by decide):wpAny (model X.prog X.w) X.A (eval (.Name x pos) X.env) Q E s:=by
 obtain⟨mb,h1,h2⟩:=I.mod.blt
 exact Calls.Name_function_global I.ok.kind hg (Calls.loadGlobal_builtin (by rw[I.ok.glob];exact I.mod.glob.keeps I.bk) hm (by rw[I.ok.blt];exact h1.keeps I.bk) ((h2 x hn).trans hv) h) hd
theorem zqo{x:Str}{v:V}{u:Value}{pos:Pos}(hg:Gl X x)(hm:X.mg x=some u)(r:RelV v u)(hd:(x==("__debug__" : Str))=false:=by decide):PE X (.Name x pos) (tC v):=
 λ_ _ _ H _ I h=>zf6 I hg hm ⟨v,H,I,r,h⟩ hd
theorem zqp{x:Str}{v:V}{u:Value}{pos:Pos}(hg:Gl X x)(hm:X.mg x=none)(hv:bootBuiltins x=some u)(r:RelV v u)(hn:x≠"__name__":=by decide)(hd:(x==("__debug__" : Str))=false:=by decide):PE X (.Name x pos) (tC v):=
 λ_ _ _ H _ I h=>zcq I hg hm hv ⟨v,H,I,r,h⟩ hn hd
variable{a b:Expr}{ta tb:TE}{pos:Pos}
variable{tA tB':TT}{rest:List Expr}
noncomputable def tAnd(t u:TT):TT:=λσ H Q=>t σ H λc H1=>if c=true then u σ H1 Q else Q false H1
noncomputable def tOr(t u:TT):TT:=λσ H Q=>t σ H λc H1=>if c=true then Q true H1 else u σ H1 Q
noncomputable def tNot(t:TT):TT:=λσ H Q=>t σ H λc H1=>Q (!c) H1
theorem zqq(ha:PT X a tA):PW X (.BoolOp .And [a] pos) tA:=by
 intro wh pins s σ H Q I h
 refine isTrue_and (thn (ha pins s σ H Q I h) λc s1 e=>?_)
 cases c with
 |true=>exact isTrue_and_nil e
 |false=>exact e
theorem ztl(ha:PT X a tA):PW X (.BoolOp .Or [a] pos) tA:=by
 intro wh pins s σ H Q I h
 refine isTrue_or (thn (ha pins s σ H Q I h) λc s1 e=>?_)
 cases c with
 |false=>exact isTrue_or_nil e
 |true=>exact e
theorem ztm(ha:PT X a tA)(hb:PW X (.BoolOp .And (b::rest) pos) tB'):PW X (.BoolOp .And (a::b::rest) pos) (tAnd tA tB'):=by
 intro wh pins s σ H Q I h
 refine isTrue_and (thn (ha pins s σ H _ I h) λc s1 z9=>z9.el λH1 I1 q1=>?_)
 cases c with
 |true=>exact hb wh pins s1 σ H1 Q I1 q1
 |false=>exact⟨H1,I1,q1⟩
theorem pw_or(ha:PT X a tA)(hb:PW X (.BoolOp .Or (b::rest) pos) tB'):PW X (.BoolOp .Or (a::b::rest) pos) (tOr tA tB'):=by
 intro wh pins s σ H Q I h
 refine isTrue_or (thn (ha pins s σ H _ I h) λc s1 z9=>z9.el λH1 I1 q1=>?_)
 cases c with
 |true=>exact⟨H1,I1,q1⟩
 |false=>exact hb wh pins s1 σ H1 Q I1 q1
theorem ztn(ha:PT X a tA):PT X (.UnaryOp .Not a pos) (tNot tA):=by
 intro pins s σ H Q I h
 exact isTrue_not (ha pins s σ H (λc H1=>Q (!c) H1) I h)
noncomputable def tAndV(ta tb:TE):TE:=λσ H Q=>ta σ H λx H1=>∃c,x=.bl c/\if c=true then tb σ H1 Q else Q (.bl false) H1
noncomputable def tOrV(ta tb:TE):TE:=λσ H Q=>ta σ H λx H1=>∃c,x=.bl c/\if c=true then Q (.bl true) H1 else tb σ H1 Q
noncomputable def tNotV(ta:TE):TE:=λσ H Q=>ta σ H λx H1=>∃c,x=.bl c/\Q (.bl (!c)) H1
theorem zto{op}{t:TE}(h:PE X a t):PE X (.BoolOp op [a] pos) t:=λpins s σ H Q I hw=>BoolOp_one (h pins s σ H Q I hw)
theorem ztp(ha:PE X a ta)(hb:PE X (.BoolOp .And (b::rest) pos) tb):PE X (.BoolOp .And (a::b::rest) pos) (tAndV ta tb):=by
 intro pins s σ H Q I h
 refine BoolOp_and (thn (ha pins s σ H _ I h) λv s1 z9=>z9.el λx H1 I1 r1 q1=>?_)
 obtain⟨c,rfl,q1⟩:=q1
 cases r1
 refine wpAny_truthy_bool ?_
 cases c with
 |true=>exact hb pins s1 σ H1 Q I1 q1
 |false=>exact⟨.bl false,H1,I1,rfl,q1⟩
theorem pe_or(ha:PE X a ta)(hb:PE X (.BoolOp .Or (b::rest) pos) tb):PE X (.BoolOp .Or (a::b::rest) pos) (tOrV ta tb):=by
 intro pins s σ H Q I h
 refine BoolOp_or (thn (ha pins s σ H _ I h) λv s1 z9=>z9.el λx H1 I1 r1 q1=>?_)
 obtain⟨c,rfl,q1⟩:=q1
 cases r1
 refine wpAny_truthy_bool ?_
 cases c with
 |false=>exact hb pins s1 σ H1 Q I1 q1
 |true=>exact⟨.bl true,H1,I1,rfl,q1⟩
theorem ztq(ha:PE X a ta):PE X (.UnaryOp .Not a pos) (tNotV ta):=by
 intro pins s σ H Q I h
 refine UnaryOp_ (thn (ha pins s σ H _ I h) λv s1 z9=>z9.el λx H1 I1 r1 q1=>?_)
 obtain⟨c,rfl,q1⟩:=q1
 cases r1
 exact not_of (wpAny_truthy_bool ⟨.bl (!c),H1,I1,rfl,q1⟩)
noncomputable def tIf(t:TT)(ta tb:TE):TE:=λσ H Q=>t σ H λc H1=>if c=true then ta σ H1 Q else tb σ H1 Q
theorem znt{c:Expr}(hc:PT X c tA)(ha:PE X a ta)(hb:PE X b tb):PE X (.IfExp c a b pos) (tIf tA ta tb):=by
 intro pins s σ H Q I h
 refine wpAny_IfExp (thn (hc pins s σ H _ I h) λd s1 z9=>z9.el λH1 I1 q1=>?_)
 cases d with
 |true=>exact ha pins s1 σ H1 Q I1 q1
 |false=>exact hb pins s1 σ H1 Q I1 q1
end
noncomputable def SqL(K:PySem.W.Frag)(H:Hp)(a:Addr)(xs:List V):Prop:=
 Rd H a (.lst xs)\/
  ∃(o:Obj) (its:Array Value) (n:Nat),K.lookup a=some o/\o.cls=.type "list"/\o.dict=none/\o.data=.seq its n/\its.size<=sizeLine/\Vals xs its.toList
noncomputable def SqT(K:PySem.W.Frag)(H:Hp)(a:Addr)(xs:List V):Prop:=
 Rd H a (.tup xs)\/
  ∃(o:Obj) (its:Array Value) (n:Nat),K.lookup a=some o/\o.cls=.type "tuple"/\o.dict=none/\o.data=.seq its n/\its.size<=sizeLine/\Vals xs its.toList
noncomputable def absV:Value->Option V
 |.none=>some .non
 |.bool b=>some (.bl b)
 |.int i _=>some (.int i)
 |.str x _=>some (.str x)
 |.bytes b _=>some (.byt b)
 |.float b _=>some (.flt b)
 |.ref a=>some (.ref a)
 |.type n=>some (.ty n)
 |_=>none
theorem RelV.abs{x:V}{u:Value}(r:RelV x u):absV u=some x:=by
 cases x with
 |non=>cases r;rfl
 |bl _=>cases r;rfl
 |int _=>obtain⟨t,rfl⟩:=r;rfl
 |str _=>obtain⟨t,rfl⟩:=r;rfl
 |byt _=>obtain⟨t,rfl⟩:=r;rfl
 |flt _=>obtain⟨t,rfl⟩:=r;rfl
 |ref _=>cases r;rfl
 |ty _=>cases r;rfl
theorem RelV.inj{x y:V}{u:Value}(r:RelV x u)(q:RelV y u):x=y:=Option.some.inj (r.abs.symm.trans q.abs)
theorem Vals.inj:∀{xs ys:List V} {us:List Value},Vals xs us->Vals ys us->xs=ys
 |_,_,_,.nil,.nil=>rfl
 |_,_,_,.cons r t,.cons r' t'=>by rw[r.inj r',Vals.inj t t']
section
variable{X:Cx}{pins:List (Addr×Obj)}{σ:St}{H:Hp}{s:Shared}{a:Addr}{xs ys:List V}
theorem SqL.of{K:PySem.W.Frag}(h:H a=some (.lst xs)):SqL K H a xs:=.inl (.inl h)
theorem SqT.of{K:PySem.W.Frag}(h:H a=some (.tup xs)):SqT K H a xs:=.inl (.inl h)
theorem Inv.list(I:Inv X pins σ H s)(h:SqL X.K H a xs):∃its:List Value,Vals xs its/\PlainL s.heap a its.toArray/\xs.length<=sizeLine:=by
 rcases h with h|⟨o,its,n,hk,hc,hd,hs,hz,r⟩
 .obtain⟨z,its,n,r,e⟩:=h.ok I.hok
  exact⟨its,r,⟨_,n,e,rfl,rfl,rfl⟩,z⟩
 .refine⟨its.toList,r,⟨o,n,I.kIn a o hk,hc,hd,by simpa using hs⟩,?_⟩
  have e:=r.length
  simp only[Array.length_toList]at e
  omega
theorem Inv.tupleD(I:Inv X pins σ H s)(h:SqT X.K H a xs):∃its:List Value,Vals xs its/\zby s.heap a its.toArray/\xs.length<=sizeLine:=by
 rcases h with h|⟨o,its,n,hk,hc,hd,hs,hz,r⟩
 .obtain⟨z,its,r,p⟩:=h.ok I.hok
  exact⟨its,r,p,z⟩
 .refine⟨its.toList,r,⟨o,I.kIn a o hk,hc,⟨n,by simpa using hs⟩,hd⟩,?_⟩
  have e:=r.length
  simp only[Array.length_toList]at e
  omega
theorem Inv.tuple(I:Inv X pins σ H s)(h:SqT X.K H a xs):∃its:List Value,Vals xs its/\IsTup s.heap a its.toArray/\xs.length<=sizeLine:=by
 obtain⟨its,r,p,z⟩:=I.tupleD h
 exact⟨its,r,p.tup,z⟩
theorem Inv.list_inj(I:Inv X pins σ H s)(h:SqL X.K H a xs)(h':SqL X.K H a ys):xs=ys:=by
 obtain⟨its,r,⟨o,n,e,_,_,d⟩,_⟩:=I.list h
 obtain⟨its',r',⟨o',n',e',_,_,d'⟩,_⟩:=I.list h'
 rw[e]at e';cases e'
 rw[d]at d'
 injection d' with d1 _
 have:its=its':=by simpa using congrArg Array.toList d1
 subst this
 exact r.inj r'
theorem Inv.tuple_inj(I:Inv X pins σ H s)(h:SqT X.K H a xs)(h':SqT X.K H a ys):xs=ys:=by
 obtain⟨its,r,⟨o,e,_,n,d⟩,_⟩:=I.tuple h
 obtain⟨its',r',⟨o',e',_,n',d'⟩,_⟩:=I.tuple h'
 rw[e]at e';cases e'
 rw[d]at d'
 injection d' with d1 _
 have:its=its':=by simpa using congrArg Array.toList d1
 subst this
 exact r.inj r'
end
noncomputable abbrev Cx.wish(X:Cx)(E:Value->Shared->Prop):Cx:={X with xe:=E}
noncomputable abbrev Cx.nox(X:Cx):Cx:=X.wish λ_ _=>False
theorem Cx.Ok.wish{X:Cx}(ok:X.Ok)(E:Value->Shared->Prop):(X.wish E).Ok:=
 ⟨ok.mod,ok.kind,ok.glob,ok.blt,ok.above,ok.inj,ok.has,ok.cab,ok.hd,ok.frames,ok.stk,ok.exf,ok.bs,ok.bsz,ok.noex,ok.exfs,ok.funs,ok.frf⟩
theorem Cx.Ok.unwish{X:Cx}{E:Value->Shared->Prop}(ok:(X.wish E).Ok):X.Ok:=
 ⟨ok.mod,ok.kind,ok.glob,ok.blt,ok.above,ok.inj,ok.has,ok.cab,ok.hd,ok.frames,ok.stk,ok.exf,ok.bs,ok.bsz,ok.noex,ok.exfs,ok.funs,ok.frf⟩
section
variable{X:Cx}{pins:List (Addr×Obj)}{σ:St}{H:Hp}{s:Shared}{E:Value->Shared->Prop}
theorem Inv.wish(I:Inv X pins σ H s)(E:Value->Shared->Prop):Inv (X.wish E) pins σ H s:=⟨I.ok.wish E,I.os,I.bare,I.base,I.loc,I.cell,I.free,I.freeC,I.pin,I.hok,I.len⟩
theorem Inv.unwish(I:Inv (X.wish E) pins σ H s):Inv X pins σ H s:=⟨I.ok.unwish,I.os,I.bare,I.base,I.loc,I.cell,I.free,I.freeC,I.pin,I.hok,I.len⟩
theorem SP.unwish{D:Ends}{f:Flow}{s':Shared}(h:SP (X.wish E) pins D f s'):SP X pins D f s':=by
 cases f with
 |next=>obtain⟨σ',H',I,q⟩:=h;exact⟨σ',H',I.unwish,q⟩
 |brk=>obtain⟨σ',H',I,q⟩:=h;exact⟨σ',H',I.unwish,q⟩
 |cont=>obtain⟨σ',H',I,q⟩:=h;exact⟨σ',H',I.unwish,q⟩
 |ret u=>obtain⟨v,σ',H',I,r,q⟩:=h;exact⟨v,σ',H',I.unwish,r,q⟩
theorem PSs.nox{st:List Stmt}{t:TS}(h:PSs X.nox st t):PSs X st t:=λpins s σ H D I hw=>
 wpAny_mono (h pins s σ H D (I.wish _) hw) (λ_ _ q=>q.unwish) λ_ _ z=>False.elim z
end
section
variable{X:Cx}{st:Stmt}{rest:List Stmt}{t u:TS}{e:Expr}{te:TE}{pos:Pos}
noncomputable def tNext:TS:=λD σ H=>D.nx σ H
noncomputable def tSeq(t u:TS):TS:=λD σ H=>t {D with nx:=u D} σ H
theorem zqr:PSs X [] tNext:=λ_ _ σ H _ I h=>wpAny_execs_nil ⟨σ,H,I,h⟩
theorem znu(h1:PS X st t)(h2:PSs X rest u):PSs X (st::rest) (tSeq t u):=by
 intro pins s σ H D I h
 refine wpAny_execs_cons (thn (h1 pins s σ H {D with nx:=u D} I h) λf s1 q=>?_)
 cases f with
 |next=>
  obtain⟨σ',H',I',q⟩:=q
  exact h2 pins s1 σ' H' D I' q
 |ret v=>exact q
 |brk=>exact q
 |cont=>exact q
noncomputable def ztr:TS:=λD σ H=>D.bk σ H
noncomputable def tCont:TS:=λD σ H=>D.ct σ H
theorem zqs:PS X (.Pass pos) tNext:=λ_ _ σ H _ I h=>wpAny_Pass ⟨σ,H,I,h⟩
theorem znv:PS X (.Break pos) ztr:=λ_ _ σ H _ I h=>wpAny_Break ⟨σ,H,I,h⟩
theorem zib:PS X (.Continue pos) tCont:=λ_ _ σ H _ I h=>wpAny_Continue ⟨σ,H,I,h⟩
theorem Inv.quiet{pins:List (Addr×Obj)}{σ:St}{H:Hp}{s:Shared}(I:Inv X pins σ H s):interactive X.env=false:=by simp[interactive,I.ok.kind]
noncomputable def tDrop(te:TE):TS:=λD σ H=>te σ H λ_ H1=>D.nx σ H1
theorem zqt(he:PE X e te)(hs:swapsWith e none pos.line X.env=pure false:=by rfl):PS X (.Expr e pos) (tDrop te):=by
 intro pins s σ H D I h
 exact wpAny_Expr_any (thn (he pins s σ H _ I h) λv s1 z9=>z9.el λx H1 I1 r1 q1=>⟨σ,H1,I1,q1⟩) I.quiet hs
noncomputable def tRet(te:TE):TS:=λD σ H=>te σ H D.rt
theorem zts(he:PE X e te):PS X (.Return (some e) pos) (tRet te):=by
 intro pins s σ H D I h
 exact wpAny_Return_some (thn (he pins s σ H _ I h) λv s1 z9=>z9.el λx H1 I1 r1 q1=>⟨x,σ,H1,I1,r1,q1⟩)
noncomputable def tRetN:TS:=λD _ H=>D.rt .non H
theorem zqu:PS X (.Return none pos) tRetN:=λ_ _ σ H _ I h=>wpAny_Return_none ⟨.non,σ,H,I,rfl,h⟩
noncomputable def tIfS(c:TT)(t u:TS):TS:=λD σ H=>c σ H λb H1=>if b=true then t D σ H1 else u D σ H1
theorem ps_if{c:Expr}{a b:List Stmt}{tc:TT}(hc:PT X c tc)(ha:PSs X a t)(hb:PSs X b u):PS X (.If c a b pos) (tIfS tc t u):=by
 intro pins s σ H D I h
 refine wpAny_If (thn (hc pins s σ H _ I h) λd s1 z9=>z9.el λH1 I1 q1=>?_)
 cases d with
 |true=>exact ha pins s1 σ H1 D I1 q1
 |false=>exact hb pins s1 σ H1 D I1 q1
noncomputable def ztt:TS:=λ_ _ _=>False
theorem znw:PS X st ztt:=λ_ _ _ _ _ _ h=>h.elim
end
noncomputable abbrev TG:=V->St->Hp->(St->Hp->Prop)->Prop
noncomputable abbrev TGs:=List V->St->Hp->(St->Hp->Prop)->Prop
noncomputable def PG(X:Cx)(target:Expr)(t:TG):Prop:=
 ∀(pins:List (Addr×Obj))(s:Shared)(σ:St)(H:Hp)(v:V)(u:Value)(Q:St->Hp->Prop),Inv X pins σ H s->RelV v u->t v σ H Q->
  wpAny (model X.prog X.w) X.A (assign target X.env u) (λ_ s'=>∃σ' H',Inv X pins σ' H' s'/\Q σ' H') X.xe s
noncomputable def PGs(X:Cx)(ts:List Expr)(t:TGs):Prop:=
 ∀(pins:List (Addr×Obj))(s:Shared)(σ:St)(H:Hp)(vs:List V)(us:List Value)(Q:St->Hp->Prop),Inv X pins σ H s->Vals vs us->t vs σ H Q->
  wpAny (model X.prog X.w) X.A (assignInOrder ((assignEach ts X.env).map (·.2)) us) (λ_ s'=>∃σ' H',Inv X pins σ' H' s'/\Q σ' H') X.xe s
noncomputable abbrev TSet:=V->V->V->Hp->(Hp->Prop)->Prop
noncomputable def PSet(X:Cx)(t:TSet):Prop:=
 ∀(pins:List (Addr×Obj))(s:Shared)(σ:St)(H:Hp)(o i v:V)(ov iv u:Value)(Q:Hp->Prop),Inv X pins σ H s->RelV o ov->RelV i iv->RelV v u->t o i v H Q->
  wpAny (model X.prog X.w) X.A (setItem ov iv u) (λ_ s'=>∃H',Inv X pins σ H' s'/\Q H') X.xe s
noncomputable abbrev TIp:=V->V->Hp->VK->Prop
noncomputable def PIp(X:Cx)(op:Operator)(t:TIp):Prop:=
 ∀(pins:List (Addr×Obj))(s:Shared)(σ:St)(H:Hp)(x y:V)(v u:Value)(Q:VK),Inv X pins σ H s->RelV x v->RelV y u->t x y H Q->
  wpAny (model X.prog X.w) X.A (inplaceOp op v u) (EP X pins σ Q) X.xe s
section
variable{X:Cx}{pos:Pos}
noncomputable def gName(i:Nat):TG:=λv σ H Q=>Q (σ.set i (some v)) H
theorem zld{i:Nat}{x:Str}(hN:X.N.Nodup)(hi:X.N[i]?=some x)(hx:Loc X.env.scope x)(hf:X.fn x=true\/X.env.scope.names.lookup x=some .local:=by first|exact .inl rfl|exact .inr rfl|assumption):PG X (.Name x pos) (gName i):=by
 intro pins s σ H v u Q I r h
 exact wpAny_assign_Name (zf5 I hN hi hx r (λs' I'=>⟨_,H,I',h⟩) hf)
noncomputable def gNil:TGs:=λvs σ H Q=>vs=[]/\Q σ H
noncomputable def gCons(t:TG)(u:TGs):TGs:=λvs σ H Q=>∃v r,vs=v::r/\t v σ H λσ' H'=>u r σ' H' Q
theorem zqv:PGs X [] gNil:=by
 intro pins s σ H vs us Q I r h
 obtain⟨e,h⟩:=h
 subst e
 cases r
 exact assignInOrder_nil ⟨σ,H,I,h⟩
theorem znx{e:Expr}{es:List Expr}{t:TG}{u:TGs}(h1:PG X e t)(h2:PGs X es u)
 (hs:(assignEach (e::es) X.env).map (·.2)=assign e X.env:: (assignEach es X.env).map (·.2):=by rfl):PGs X (e::es) (gCons t u):=by
 intro pins s σ H vs us Q I r h
 obtain⟨v,vr,e1,h⟩:=h
 subst e1
 cases r with
 |cons r rr=>
  rw[hs]
  refine assignInOrder_cons (thn (h1 pins s σ H _ _ _ I r h) λ_ s1 hq0=>?_)
  obtain⟨σ1,H1,I1,q1⟩:=hq0
  exact h2 pins s1 σ1 H1 _ _ Q I1 rr q1
noncomputable def gTup(K:PySem.W.Frag)(n:Nat)(t:TGs):TG:=λv σ H Q=>∃a xs,v=.ref a/\SqT K H a xs/\xs.length=n/\t xs σ H Q
theorem ztu{es:List Expr}{k:Nat}{t:TGs}{n:Nat}(hc:X.calm=true)(h:PGs X es t)
 (hn:(assignEach es X.env).length=n:=by rfl) (hst:(assignEach es X.env).findIdx? (·.1)=none:=by rfl):PG X (.Tuple es k pos) (gTup X.K n t):=by
 intro pins s σ H v u Q I r hw
 obtain⟨a,xs,e1,hq,hl,hw⟩:=hw
 subst e1
 cases r
 obtain⟨its,rv,ht,hz⟩:=I.tuple hq
 refine assign_Tuple_tuple (I.ok.hd hc) ht (by simp[hn,<-hl,rv.length]) hst λh' hx=>?_
 have I1:Inv X pins σ H {s with heap:=h'}:=I.kept (t':=s.toks) λb o e=>hx b o (va4 (vaq e)) e
 exact h pins _ σ H xs _ Q I1 (by simpa using rv) hw
noncomputable def gSub(to ti:TE)(t:TSet):TG:=λv σ H Q=>to σ H λo H1=>ti σ H1 λi H2=>t o i v H2 λH3=>Q σ H3
theorem ztv{o i:Expr}{to ti:TE}{t:TSet}(ho:PE X o to)(hi:PE X i ti)(hs:PSet X t)
 (ha:∀v,assign (.Subscript o i pos) X.env v=(do
   let ov <-holding [v] (eval o X.env)
   let iv <-holding [v,ov] (eval i X.env)
   standAt pos
   holding [v,ov,iv] (setItem ov iv v)
   release [v,ov,iv] []):=by intro _;rfl):PG X (.Subscript o i pos) (gSub to ti t):=by
 intro pins s σ H v u Q I r h
 rw[ha]
 refine vaa (wpAny_holding (thn (ho pins s σ H _ I h) λov s1 z9=>z9.el λx H1 I1 r1 q1=>?_))
 refine vaa (wpAny_holding (thn (hi pins s1 σ H1 _ I1 q1) λiv s2 z9=>z9.el λy H2 I2 r2 q2=>?_))
 refine vaa (wpAny_standAt (vaa (wpAny_holding (thn (hs pins s2 σ H2 x y v ov iv u _ I2 r1 r2 r q2) λ_ s3 hq0=>?_))))
 obtain⟨H3,I3,q3⟩:=hq0
 exact wpAny_release ⟨σ,H3,I3,q3⟩
noncomputable def tAsg(te:TE)(g:TG):TS:=λD σ H=>te σ H λx H1=>g x σ H1 D.nx
theorem zpn{tg e:Expr}{te:TE}{g:TG}(he:PE X e te)(hg:PG X tg g)(hs:swapsWithSole [tg] e pos.line X.env=pure false:=by rfl)(hw:swappedStores [tg] e X.env=pure none:=by rfl)
 (h1:(assignEach [tg] X.env).map (·.2)=[assign tg X.env]:=by rfl):PS X (.Assign [tg] e pos) (tAsg te g):=by
 intro pins s σ H D I h
 refine wpAny_Assign_stores (thn (he pins s σ H _ I h) λv s1 z9=>z9.el λx H1 I1 r1 q1=>?_) hs hw
 rw[h1]
 exact thn (hg pins s1 σ H1 x v _ I1 r1 q1) λ_ s2 q=>q
theorem ztw{i:Nat}{x:Str}{e:Expr}{te:TE}{pos':Pos}(hN:X.N.Nodup)(hi:X.N[i]?=some x)(hx:Loc X.env.scope x)(he:PE X e te)(hs:swapsWith e (some (.Name x pos')) pos.line X.env=pure false:=by rfl)(hf:X.fn x=true\/X.env.scope.names.lookup x=some .local:=by first|exact .inl rfl|exact .inr rfl|assumption) :
 PS X (.Assign [.Name x pos'] e pos) (tAsg te (gName i)):=by
 intro pins s σ H D I h
 refine wpAny_Assign_Name (thn (he pins s σ H _ I h) λv s1 z9=>z9.el λy H1 I1 r1 q1=>?_) hs
 exact zf5 I1 hN hi hx r1 (λs2 I2=>⟨_,H1,I2,q1⟩) hf
noncomputable def tAug(i:Nat)(te:TE)(ti:TIp):TS:=λD σ H=>∃x,σ[i]?=some (some x)/\te σ H λy H1=>ti x y H1 λz H2=>D.nx (σ.set i (some z)) H2
theorem ztx{i:Nat}{x:Str}{e:Expr}{te:TE}{op:Operator}{ti:TIp}{pos':Pos}(hN:X.N.Nodup)(hi:X.N[i]?=some x)(hx:Loc X.env.scope x)(he:PE X e te)(ho:PIp X op ti)(hf:X.fn x=true\/X.env.scope.names.lookup x=some .local:=by first|exact .inl rfl|exact .inr rfl|assumption) :
 PS X (.AugAssign (.Name x pos') op e pos) (tAug i te ti):=by
 intro pins s σ H D I h
 obtain⟨v,e1,h⟩:=h
 obtain⟨m,hn,hl⟩:=I.loc
 have vis:Vis X.env.scope x:=by rcases hx with k|k;exact .inl k;exact .inr (.inl k)
 obtain⟨u,r,l⟩:=hl i x v hi e1 vis
 refine wpAny_AugAssign_Name ?_
 have go:wpAny (model X.prog X.w) X.A (eval e X.env) (λw s₂=>wpAny (model X.prog X.w) X.A (inplaceOp op u w) (λr s₃=>wpAny (model X.prog X.w) X.A (storeName X.env x r) (λ_=>SP X pins D .next) X.xe s₃) X.xe s₂) X.xe s:=by
  refine thn (he pins s σ H _ I h) λw s1 z9=>z9.el λy H1 I1 r1 q1=>?_
  refine thn (ho pins s1 σ H1 v y u w _ I1 r r1 q1) λz s2 z9=>z9.el λzv H2 I2 r2 q2=>?_
  exact zf5 I2 hN hi hx r2 (λs3 I3=>⟨_,H2,I3,q2⟩) hf
 rcases l with⟨hk,hm⟩|⟨hk,c,hc,hcell⟩
 .exact wpAny_loadName_local I.ok.kind hk hn hm go
 .rcases hk with hk|hk
  .exact wpAny_loadName_cell I.ok.kind hk hc hcell go
  .rcases hx with k|k
   .have:X.env.scope.names.lookup x=some .free:=hk
    rw[k]at this;cases this
   .have:X.env.scope.names.lookup x=some .free:=hk
    rw[k]at this;cases this
noncomputable def ipI(f:Int->Int->Int):TIp:=λx y H Q=>∃i j,x=.int i/\y=.int j/\Q (.int (f i j)) H
theorem zty:PIp X .Add (ipI λi j=>i+j):=by
 intro pins s σ H x y v u Q I r1 r2 h
 obtain⟨i,j,e1,e2,q⟩:=h
 subst e1;subst e2
 obtain⟨t,rfl⟩:=r1
 obtain⟨t',rfl⟩:=r2
 exact iadd_int ⟨.int _,H,I.tok _,⟨_,rfl⟩,q⟩
theorem ztz:PIp X .Sub (ipI λi j=>i-j):=by
 intro pins s σ H x y v u Q I r1 r2 h
 obtain⟨i,j,e1,e2,q⟩:=h
 subst e1;subst e2
 obtain⟨t,rfl⟩:=r1
 obtain⟨t',rfl⟩:=r2
 exact isub_int ⟨.int _,H,I.tok _,⟨_,rfl⟩,q⟩
end
section
variable{X:Cx}{pos:Pos}
noncomputable def zt0(c:TT)(tb:TS):TS:=λD σ H=>∃W:Nat->St->Hp->Prop,(∃m,W m σ H)/\∀m σ H,W m σ H->
 c σ H λb H1=>if b=true then ∃N:St->Hp->Prop,(∀σ' H',N σ' H'->∃m',m'<m/\W m' σ' H')/\tb {D with nx:=N,ct:=N,bk:=D.nx} σ H1 else D.nx σ H1
theorem zny{c:Expr}{body:List Stmt}{tc:TT}{tb:TS}(hp:PassesOwn (model X.prog X.w) X.A X.env X.xe)(hc:PT X c tc)(hb:PSs X body tb):PS X (.While c body [] pos) (zt0 tc tb):=by
 intro pins s σ H D I h
 obtain⟨W,⟨m0,w0⟩,turn⟩:=h
 refine wpAny_While (codeAny_whileLoop (λn s'=>∃σ' H',Inv X pins σ' H' s'/\W n σ' H') ?_ m0 ⟨σ,H,I,w0⟩)
 rintro n s1 ⟨σ1,H1,I1,w1⟩
 refine wpAny_passesOwn hp (thn (hc pins s1 σ1 H1 _ I1 (turn n σ1 H1 w1)) λb s2 z9=>z9.el λH2 I2 q2=>?_)
 cases b with
 |true=>
  obtain⟨N,hN,q2⟩:=q2
  rw[if_pos rfl]
  refine wpAny_passesOwn hp (thn (hb pins s2 σ1 H2 _ I2 q2) λf s3 q3=>?_)
  cases f with
  |next=>
   obtain⟨σ3,H3,I3,n3⟩:=q3
   obtain⟨m',hm,w3⟩:=hN σ3 H3 n3
   exact⟨m',hm,σ3,H3,I3,w3⟩
  |cont=>
   obtain⟨σ3,H3,I3,n3⟩:=q3
   obtain⟨m',hm,w3⟩:=hN σ3 H3 n3
   exact⟨m',hm,σ3,H3,I3,w3⟩
  |brk=>exact q3
  |ret v=>exact q3
 |false=>
  rw[if_neg Bool.false_ne_true]
  exact wpAny_execs_nil ⟨σ1,H2,I2,q2⟩
end
set_option genInjectivity false in
structure It where
 go:Nat->Hp->Prop
 yld:Nat->Hp->V->Hp->Prop
 stop:Nat->Hp->Prop
noncomputable def FpOk(X:Cx)(pins:List (Addr×Obj))(H:Hp)(b:Addr):Prop:=
 H b=none/\b≠X.env.locals/\b∉X.fs/\(b∈X.ex\/X.s₀.heap.objs.size<=b)/\(∀x c,X.env.cells.lookup x=some c->c≠b)/\∀p∈X.pn++pins,p.1≠b
theorem Inv.fpOk{X:Cx}{pins:List (Addr×Obj)}{σ:St}{H H':Hp}{s:Shared}{b:Addr}(I:Inv X pins σ H s)(hb:s.heap.objs.size<=b)(hn:H' b=none):FpOk X pins H' b:=by
 refine⟨hn,Nat.ne_of_gt (vai I.lt hb),I.nofs hb,.inr (Nat.le_trans I.sz hb),λx c e z=>?_,λp hp z=>?_⟩
 .obtain⟨v,q⟩:=I.cell x c e
  exact absurd (vai q.lt (by rw[z];exact hb)) (Nat.lt_irrefl _)
 .exact absurd (vai (vaq (I.pin p hp).1) (by rw[z];exact hb)) (Nat.lt_irrefl _)
structure Turn(P:Program)(w:World)(K:PySem.W.Frag)(tg:Expr)(J:It)(fp:List Addr)(it:Addr)(tn:Nat->Heap->Prop):Prop where
 mem:it∈fp
 obj:∀i h,tn i h->∀b∈fp,∃o,h.get? b=some o/\∀v,o.data≠.cell v
 keep:∀i h h',tn i h->(∀b∈fp,∀o,h.get? b=some o->h'.get? b=some o)->tn i h'
 item:∀(X:Cx),X.prog=P->X.w=w->X.K=K->X.calm=true->∀(i:Nat)(pins:List (Addr×Obj))(s:Shared)(σ:St)(H:Hp)(E:Value->Shared->Prop),Inv X pins σ H s->(∀b∈fp,FpOk X pins H b)->tn i s.heap->J.go i H->
  wpAny (model P w) X.A (pyNext (.ref it)) (λr s1=>∃u,r=some u/\
   wpAny (model P w) X.A (letOwnedTupleGo tg (.ref it) u) (λ_ s2=>∃x H',Inv X pins σ H' s2/\RelV x u/\J.yld i H x H'/\tn (i+1) s2.heap/\∀b∈fp,H' b=none) E s1) E s
 done:∀(X:Cx),X.prog=P->X.w=w->X.K=K->X.calm=true->∀(i:Nat)(pins:List (Addr×Obj))(s:Shared)(σ:St)(H:Hp)(E:Value->Shared->Prop),Inv X pins σ H s->(∀b∈fp,FpOk X pins H b)->tn i s.heap->J.stop i H->
  wpAny (model P w) X.A (pyNext (.ref it)) (λr s1=>r=none/\Inv X pins σ H s1) E s
 self:∀(A:Around)(i:Nat)(s:Shared)(Q:Value->Shared->Prop)(E:Value->Shared->Prop),tn i s.heap->Q (.ref it) s->wpAny (model P w) A (pyIter (.ref it)) Q E s
noncomputable abbrev TI:=St->Hp->(It->Hp->Prop)->Prop
noncomputable def PIE(X:Cx)(pins:List (Addr×Obj))(σ:St)(tg:Expr)(R:It->Hp->Prop)(itv:Value)(s2:Shared):Prop:=
 ∃(it:Addr) (fp:List Addr) (tn:Nat->Heap->Prop) (J:It) (H':Hp),itv=.ref it/\Inv X pins σ H' s2/\Turn X.prog X.w X.K tg J fp it tn/\tn 0 s2.heap/\(∀b∈fp,FpOk X pins H' b)/\R J H'
noncomputable def PI(X:Cx)(tg iter:Expr)(wi:TI):Prop:=
 ∀(pins:List (Addr×Obj))(s:Shared)(σ:St)(H:Hp)(R:It->Hp->Prop),Inv X pins σ H s->wi σ H R->
  wpAny (model X.prog X.w) X.A (eval iter X.env) (λv s1=>wpAny (model X.prog X.w) X.A (pyIter v) (PIE X pins σ tg R) X.xe s1) X.xe s
theorem go_of{M:Model}{A:Around}{E:Value->Shared->Prop}{s:Shared}{tg:Expr}{it:Addr}{u:Value}{o:Obj}{n:String}{vs:Array Value}{Q:Unit->Shared->Prop}(ho:s.heap.get? it=some o)(hc:o.cls=.type n)(hd:o.data=.fields vs)
 (hn:["enumerate","zip","dict_itemiterator","dict_reverseitemiterator","odict_iterator","itertools.zip_longest","itertools.pairwise"].contains n=false) (hQ:Q () s):wpAny M A (letOwnedTupleGo tg (.ref it) u) Q E s:=by
 unfold letOwnedTupleGo
 cases tg<;>first
  |exact vaj hQ
  |(cases u<;>first
     |exact vaj hQ
     |(refine vaa (wpAny_load ho ?_)
       rw[hc,hd]
       show wpAny M A (if(["enumerate","zip","dict_itemiterator","dict_reverseitemiterator","odict_iterator","itertools.zip_longest","itertools.pairwise"].contains n&&vs[0]? == some (rawInt _))=true then _ else _) Q E s
       rw[if_neg (by intro h;rw[hn,Bool.false_and]at h;cases h)]
       exact vaj hQ))
noncomputable def Itl(K:PySem.W.Frag)(a:Addr):It:=
 ⟨λi H=>∃xs x,SqL K H a xs/\xs[i]?=some x,λi H x H'=>H'=H/\∀xs,SqL K H a xs->xs[i]?=some x,λi H=>∃xs,SqL K H a xs/\xs.length<=i⟩
noncomputable def Itt(K:PySem.W.Frag)(a:Addr):It:=
 ⟨λi H=>∃xs x,SqT K H a xs/\xs[i]?=some x,λi H x H'=>H'=H/\∀xs,SqT K H a xs->xs[i]?=some x,λi H=>∃xs,SqT K H a xs/\xs.length<=i⟩
noncomputable def Itr(lo:Int)(n:Nat):It:=⟨λi _=>i<n,λi H x H'=>H'=H/\x=.int (lo+i),λi _=>n<=i⟩
theorem zle{P:Program}{w:World}{K:PySem.W.Frag}{tg:Expr}(a it:Addr):Turn P w K tg (Itl K a) [it] it (λi h=>h.IsListIter it a i)where
 mem:=by simp
 obj:=λi h st b hb=>by
  have e:b=it:=by simpa using hb
  subst e
  obtain⟨o,e,c,d⟩:=st
  exact⟨o,e,λv z=>by rw[d]at z;cases z⟩
 keep:=λi h h' st k=>st.at λo e=>k it (by simp) o e
 item:=by
  intro X hP hw hK hc i pins s σ H E I hf st hg
  subst hP hw hK
  obtain⟨xs,x,hq,hx⟩:=hg
  obtain⟨its,rv,p,hz⟩:=I.list hq
  obtain⟨u,hu,ru⟩:=rv.get hx
  obtain⟨f0,f1,f2,f3,f4,f5⟩:=hf it (by simp)
  refine wpAny_pyNext_list_item st p.isList (x:=u) (by simpa using hu) λh' st' sb=>?_
  have I1:Inv X pins σ H {s with heap:=h'}:=I.turned (t':=s.toks) (λb o hb e=>(sb.2 b hb).trans e) f0 f1 f3 f4 f5
  obtain⟨o,e,c,d⟩:=id st'
  exact⟨u,rfl,go_of (s:={s with heap:=h'}) e c d (by decide) ⟨x,H,I1,ru,⟨rfl,λys hy=>by rw[I.list_inj hy hq];exact hx⟩,st',λb hb=>(hf b hb).1⟩⟩
 done:=by
  intro X hP hw hK hc i pins s σ H E I hf st hg
  subst hP hw hK
  obtain⟨xs,hq,hx⟩:=hg
  obtain⟨its,rv,p,hz⟩:=I.list hq
  obtain⟨f0,f1,f2,f3,f4,f5⟩:=hf it (by simp)
  have hl:=rv.length
  exact wpAny_pyNext_list_end (I.ok.hd hc) st p.isList (by simp;omega) λh' eb=>⟨rfl,I.turned (t':=s.toks) (λb o hb e=>eb b o hb e) f0 f1 f3 f4 f5⟩
 self:=λ_ _ _ _ _ st h=>wpAny_pyIter_listiter st h
theorem zkj{P:Program}{w:World}{K:PySem.W.Frag}{tg:Expr}(a it:Addr):Turn P w K tg (Itt K a) [it] it (λi h=>h.IsTupleIter it a i)where
 mem:=by simp
 obj:=λi h st b hb=>by
  have e:b=it:=by simpa using hb
  subst e
  obtain⟨o,e,c,d⟩:=st
  exact⟨o,e,λv z=>by rw[d]at z;cases z⟩
 keep:=λi h h' st k=>st.at λo e=>k it (by simp) o e
 item:=by
  intro X hP hw hK hc i pins s σ H E I hf st hg
  subst hP hw hK
  obtain⟨xs,x,hq,hx⟩:=hg
  obtain⟨its,rv,p,hz⟩:=I.tuple hq
  obtain⟨u,hu,ru⟩:=rv.get hx
  obtain⟨f0,f1,f2,f3,f4,f5⟩:=hf it (by simp)
  refine wpAny_pyNext_tuple_item st (show s.heap.IsTuple a its.toArray from p) (x:=u) (by simpa using hu) λh' st' sb=>?_
  have I1:Inv X pins σ H {s with heap:=h'}:=I.turned (t':=s.toks) (λb o hb e=>(sb.2 b hb).trans e) f0 f1 f3 f4 f5
  obtain⟨o,e,c,d⟩:=id st'
  exact⟨u,rfl,go_of (s:={s with heap:=h'}) e c d (by decide) ⟨x,H,I1,ru,⟨rfl,λys hy=>by rw[I.tuple_inj hy hq];exact hx⟩,st',λb hb=>(hf b hb).1⟩⟩
 done:=by
  intro X hP hw hK hc i pins s σ H E I hf st hg
  subst hP hw hK
  obtain⟨xs,hq,hx⟩:=hg
  obtain⟨its,rv,p,hz⟩:=I.tuple hq
  obtain⟨f0,f1,f2,f3,f4,f5⟩:=hf it (by simp)
  have hl:=rv.length
  exact wpAny_pyNext_tuple_end (I.ok.hd hc) st (show s.heap.IsTuple a its.toArray from p) (by simp;omega) λh' eb=>⟨rfl,I.turned (t':=s.toks) (λb o hb e=>eb b o hb e) f0 f1 f3 f4 f5⟩
 self:=λ_ _ _ _ _ st h=>wpAny_pyIter_tupleiter st h
theorem zkk{P:Program}{w:World}{K:PySem.W.Frag}{tg:Expr}(it:Addr)(lo:Int)(n:Nat):Turn P w K tg (Itr lo n) [it] it (λi h=>IsRangeIter h it (lo+ (i:Nat)*1) ((n:Int)- (i:Nat)) 1)where
 mem:=by simp
 obj:=λi h st b hb=>by
  have e:b=it:=by simpa using hb
  subst e
  exact⟨_,st,λv z=>by
   have z':Data.fields _=Data.cell v:=z
   cases z'⟩
 keep:=λi h h' st k=>k it (by simp) _ st
 item:=by
  intro X hP hw hK hc i pins s σ H E I hf st hg
  subst hP hw hK
  obtain⟨f0,f1,f2,f3,f4,f5⟩:=hf it (by simp)
  have W:=Walks.range (prog:=X.prog) (w:=X.w) (I.ok.hd hc) it lo 1 n
  refine W.item i s _ _ hg st λv h' tk hv st' kk=>?_
  obtain⟨t,rfl⟩:=hv
  have I1:Inv X pins σ H {s with heap:=h',toks:=tk}:=I.turned (λb o hb e=>kk b o (by simpa using hb) e) f0 f1 f3 f4 f5
  refine⟨_,rfl,go_of (s:={s with heap:=h',toks:=tk}) (n:="range_iterator") st' rfl rfl (by decide) ⟨.int (lo+i),H,I1,⟨t,?_⟩,⟨rfl,rfl⟩,st',λb hb=>(hf b hb).1⟩⟩
  rw[Int.mul_one]
 done:=by
  intro X hP hw hK hc i pins s σ H E I hf st hg
  subst hP hw hK
  obtain⟨f0,f1,f2,f3,f4,f5⟩:=hf it (by simp)
  exact wpAny_pyNext_range_end (I.ok.hd hc) st (by have:n<=i:=hg;omega) λh' eb=>⟨rfl,I.turned (t':=s.toks) (λb o hb e=>eb b o hb e) f0 f1 f3 f4 f5⟩
 self:=λ_ _ _ _ _ st h=>wpAny_pyIter_rangeiter st h
section
variable{X:Cx}{tg:Expr}
noncomputable def iList(K:PySem.W.Frag)(tl:TE):TI:=λσ H R=>tl σ H λx H1=>∃a,x=.ref a/\(∃xs,SqL K H1 a xs)/\R (Itl K a) H1
noncomputable def iTup(K:PySem.W.Frag)(tl:TE):TI:=λσ H R=>tl σ H λx H1=>∃a,x=.ref a/\(∃xs,SqT K H1 a xs)/\R (Itt K a) H1
theorem zlf{l:Expr}{tl:TE}(hl:PE X l tl):PI X tg l (iList X.K tl):=by
 intro pins s σ H R I h
 refine thn (hl pins s σ H _ I h) λv s1 z9=>z9.el λx H1 I1 r1 q1=>?_
 obtain⟨a,e,⟨xs,hq⟩,q⟩:=q1
 subst e
 cases r1
 obtain⟨its,rv,p,hz⟩:=I1.list hq
 refine wpAny_pyIter_list p.isList ?_
 refine⟨s1.heap.objs.size,[s1.heap.objs.size],_,_,H1,rfl,I1.kept (t':=s1.toks) λb o e=>vac _ e,zle a _,⟨_,va0 _ rfl,rfl,rfl⟩,λb hb=>?_,q⟩
 have e:b=s1.heap.objs.size:=by simpa using hb
 subst e
 exact I1.fpOk (vae _) (I1.hok.fresh (vae _))
theorem zt1{l:Expr}{tl:TE}(hl:PE X l tl):PI X tg l (iTup X.K tl):=by
 intro pins s σ H R I h
 refine thn (hl pins s σ H _ I h) λv s1 z9=>z9.el λx H1 I1 r1 q1=>?_
 obtain⟨a,e,⟨xs,hq⟩,q⟩:=q1
 subst e
 cases r1
 obtain⟨its,rv,p,hz⟩:=I1.tuple hq
 refine wpAny_pyIter_tuple (show s1.heap.IsTuple a its.toArray from p) ?_
 refine⟨s1.heap.objs.size,[s1.heap.objs.size],_,_,H1,rfl,I1.kept (t':=s1.toks) λb o e=>vac _ e,zkj a _,⟨_,va0 _ rfl,rfl,rfl⟩,λb hb=>?_,q⟩
 have e:b=s1.heap.objs.size:=by simpa using hb
 subst e
 exact I1.fpOk (vae _) (I1.hok.fresh (vae _))
theorem znz{pins:List (Addr×Obj)}{σ:St}{H:Hp}{s:Shared}{R:It->Hp->Prop}{E:Value->Shared->Prop}{lo hi:Int}{t u v:Tok}{tk:Nat}(I:Inv X pins σ H s)(h1:-(2 ^ 62)<=lo)(h2:lo<2 ^ 62)(h3:-(2 ^ 62)<=hi)(h4:hi<2 ^ 62)
 (q:R (Itr lo (hi-lo).toNat) H):wpAny (model X.prog X.w) X.A (pyIter (.ref s.heap.objs.size)) (PIE X pins σ tg R) E {s with heap:=s.heap.push {cls:=.type "range",data:=.fields #[.int lo t,.int hi u,.int 1 v]},toks:=tk}:=by
 refine wpAny_pyIter_range (IsRange.new ..) (small_one h1 h2 h3 h4) ?_
 have I1:Inv X pins σ H {s with heap:=s.heap.push {cls:=.type "range",data:=.fields #[.int lo t,.int hi u,.int 1 v]},toks:=tk}:=I.kept λb o e=>vac _ e
 refine⟨(s.heap.push {cls:=.type "range",data:=.fields #[.int lo t,.int hi u,.int 1 v]}).objs.size,[(s.heap.push {cls:=.type "range",data:=.fields #[.int lo t,.int hi u,.int 1 v]}).objs.size],_,_,H,rfl,
  I1.kept (t':=tk) λb o e=>vac _ e,zkk _ lo (hi-lo).toNat,?_,λb hb=>?_,q⟩
 .have e1:lo+ ((0:Nat):Int)*1=lo:=by simp
  have e2:(((hi-lo).toNat:Nat):Int)- ((0:Nat):Int)=Builtin.Range.rangeSize lo hi 1:=by rw[rangeSize_one];split<;>omega
  show IsRangeIter _ _ (lo+ ((0:Nat):Int)*1) ((((hi-lo).toNat:Nat):Int)- ((0:Nat):Int)) 1
  rw[e1,e2]
  exact va0 _ rfl
 .have e:b=(s.heap.push {cls:=.type "range",data:=.fields #[.int lo t,.int hi u,.int 1 v]}).objs.size:=by simpa using hb
  subst e
  exact I1.fpOk (vae _) (I1.hok.fresh (vae _))
noncomputable def iRng1(ta:TA):TI:=λσ H R=>ta σ H λvs H1=>∃j:Int,vs=[.int j]/\-(2 ^ 62)<=j/\j<2 ^ 62/\R (Itr 0 j.toNat) H1
theorem zlg{a:Expr}{ta:TA}{p pos:Pos}(hg:Gl X "range")(hm:X.mg "range" = none)(ha:PA X [a] ta)(hs:starEach [a] X.env=[(false,eval a X.env)]:=by rfl):PI X tg (.Call (.Name "range" p) [a] [] pos) (iRng1 ta):=by
 intro pins s σ H R I h
 refine Call_ (zcq I hg hm boot_range (PyProof.Rows.callWith_type1 (thn (ha pos pins s σ H _ I h) λus s1 z9=>z9.el λvs H1 I1 r1 q1=>?_) hs rfl))
 obtain⟨j,e,q1,q2,q⟩:=q1
 subst e
 cases r1 with
 |cons r rr=>
  cases rr
  obtain⟨t,rfl⟩:=r
  exact call_range_1 (znz I1 (by omega) (by omega) q1 q2 (by simpa using q))
noncomputable def tFor(wi:TI)(g:TG)(tb:TS):TS:=λD σ H=>wi σ H λJ H1=>∃W:Nat->Nat->St->Hp->Prop,(∃m,W 0 m σ H1)/\∀i m σ H,W i m σ H->
 (J.stop i H/\D.nx σ H)\/(J.go i H/\∃N:St->Hp->Prop,(∀σ' H',N σ' H'->∃m',m'<m/\W (i+1) m' σ' H')/\∀x H',J.yld i H x H'->g x σ H' λσ2 H2=>tb {D with nx:=N,ct:=N,bk:=D.nx} σ2 H2)
noncomputable def zg4(fp:List Addr)(h:Heap):List (Addr×Obj):=fp.filterMap λb=>(h.get? b).map λo=>(b,o)
theorem zca{fp:List Addr}{h:Heap}{b:Addr}{o:Obj}(hb:b∈fp)(e:h.get? b=some o):(b,o)∈zg4 fp h:=List.mem_filterMap.mpr ⟨b,hb,by rw[e];rfl⟩
theorem zlh{fp:List Addr}{h:Heap}{p:Addr×Obj}(hp:p∈zg4 fp h):p.1∈fp/\h.get? p.1=some p.2:=by
 obtain⟨b,hb,e⟩:=List.mem_filterMap.mp hp
 cases q:h.get? b with
 |none=>rw[q]at e;cases e
 |some o=>
  rw[q]at e
  have e':(b,o)=p:=Option.some.inj e
  subst e'
  exact⟨hb,q⟩
theorem Inv.pinned{pins:List (Addr×Obj)}{σ:St}{H:Hp}{s:Shared}{fp:List Addr}(I:Inv X pins σ H s)(hf:∀b∈fp,FpOk X pins H b)(ho:∀b∈fp,∃o,s.heap.get? b=some o/\∀v,o.data≠.cell v):Inv X (pins++zg4 fp s.heap) σ H s:=
 I.pins_of λp hp=>(List.mem_append.mp hp).elim (λz=>I.pin p (List.mem_append_right _ z)) λz=>by
  obtain⟨hb,e⟩:=zlh z
  obtain⟨f0,f1,f2,_⟩:=hf p.1 hb
  obtain⟨o,e',d⟩:=ho p.1 hb
  rw[e]at e';cases e'
  exact⟨e,f0,f1,f2,d⟩
theorem Inv.unpinned{pins pl:List (Addr×Obj)}{σ:St}{H:Hp}{s:Shared}(I:Inv X (pins++pl) σ H s):Inv X pins σ H s:=I.pins_of λp hp=>I.pin p (List.mem_append_right _ (List.mem_append_left _ hp))
theorem zt2{iter:Expr}{body:List Stmt}{wi:TI}{g:TG}{tb:TS}{pos:Pos}(hp:PassesOwn (model X.prog X.w) X.A X.env X.xe)(hc:X.calm=true)(hi:PI X tg iter wi)(hg:PG X tg g)(hb:PSs X body tb)
 (hs:∀x,foldedSetIterable iter X.env x=pure x:=by intro _;rfl):PS X (.For tg iter body [] pos) (tFor wi g tb):=by
 intro pins s σ H D I h
 refine wpAny_For (thn (hi pins s σ H _ I h) λv s1 h1=>thn h1 λitv s2 h2=>?_) hs
 obtain⟨it,fp,tn,J,H2,e,I2,T,st2,f2,W,⟨m0,w0⟩,turn⟩:=h2
 subst e
 have stat:∀{H':Hp},(∀b∈fp,H' b=none)->∀b∈fp,FpOk X pins H' b:=λhn b hb=>⟨hn b hb,(f2 b hb).2⟩
 refine codeAny_forLoop_any (λn s'=>∃i σ' H',Inv X pins σ' H' s'/\tn i s'.heap/\(∀b∈fp,H' b=none)/\W i n σ' H') ?_ m0 ⟨0,σ,H2,I2,st2,λb hb=>(f2 b hb).1,w0⟩
 rintro n s3 ⟨i,σ3,H3,I3,st3,fr3,w3⟩
 rcases turn i n σ3 H3 w3 with⟨stop,qn⟩|⟨go,N,hN,step⟩
 .refine wpAny_passesOwn hp (thn (T.done X rfl rfl rfl hc i pins s3 σ3 H3 X.xe I3 (stat fr3) st3 stop) λr s4 hq0=>?_)
  obtain⟨hr,I4⟩:=hq0
  subst hr
  exact wpAny_execs_nil ⟨σ3,H3,I4,qn⟩
 .refine wpAny_passesOwn hp (thn (T.item X rfl rfl rfl hc i pins s3 σ3 H3 X.xe I3 (stat fr3) st3 go) λr s4 hq0=>?_)
  obtain⟨u,hr,h4⟩:=hq0
  subst hr
  refine wpAny_passesOwn hp (thn h4 λ_ s5 hq0=>?_)
  obtain⟨x,H5,I5,r5,y5,st5,fr5⟩:=hq0
  have I5':=I5.pinned (stat fr5) (T.obj _ _ st5)
  refine wpAny_passesOwn hp (thn (hg _ s5 σ3 H5 x u _ I5' r5 (step x H5 y5)) λ_ s6 hq0=>?_)
  obtain⟨σ6,H6,I6,q6⟩:=hq0
  refine wpAny_passesOwn hp (thn (hb _ s6 σ6 H6 _ I6 q6) λf s7 q7=>?_)
  have again:∀{σ7:St}{H7:Hp},Inv X (pins++zg4 fp s5.heap) σ7 H7 s7->N σ7 H7->∃m,m<n/\∃i σ' H',Inv X pins σ' H' s7/\tn i s7.heap/\(∀b∈fp,H' b=none)/\W i m σ' H':=λ{σ7 H7} I7 n7=>by
   obtain⟨m',hm,w7⟩:=hN σ7 H7 n7
   refine⟨m',hm,i+1,σ7,H7,I7.unpinned,T.keep _ _ _ st5 λb hb o e=>(I7.pin (b,o) (List.mem_append_right _ (List.mem_append_right _ (zca hb e)))).1,λb hb=>?_,w7⟩
   obtain⟨o,e,d⟩:=T.obj _ _ st5 b hb
   exact(I7.pin (b,o) (List.mem_append_right _ (List.mem_append_right _ (zca hb e)))).2.1
  cases f with
  |next=>obtain⟨σ7,H7,I7,n7⟩:=q7;exact again I7 n7
  |cont=>obtain⟨σ7,H7,I7,n7⟩:=q7;exact again I7 n7
  |brk=>obtain⟨σ7,H7,I7,q7⟩:=q7;exact⟨σ7,H7,I7.unpinned,q7⟩
  |ret v=>obtain⟨x7,σ7,H7,I7,r7,q7⟩:=q7;exact⟨x7,σ7,H7,I7.unpinned,r7,q7⟩
end
noncomputable abbrev R2:=V->V->Hp->VK->Prop
noncomputable def OpR(X:Cx)(f:Value->Value->Sem Value)(r:R2):Prop:=
 ∀(pins:List (Addr×Obj))(s:Shared)(σ:St)(H:Hp)(x y:V)(v u:Value)(Q:VK),Inv X pins σ H s->RelV x v->RelV y u->r x y H Q->
  wpAny (model X.prog X.w) X.A (f v u) (EP X pins σ Q) X.xe s
noncomputable def UnR(X:Cx)(f:Value->Sem Value)(r:V->Hp->VK->Prop):Prop:=
 ∀(pins:List (Addr×Obj))(s:Shared)(σ:St)(H:Hp)(x:V)(v:Value)(Q:VK),Inv X pins σ H s->RelV x v->r x H Q->
  wpAny (model X.prog X.w) X.A (f v) (EP X pins σ Q) X.xe s
noncomputable def CallR(X:Cx)(f:Value)(r:List V->Hp->VK->Prop):Prop:=
 ∀(pins:List (Addr×Obj))(s:Shared)(σ:St)(H:Hp)(xs:List V)(us:List Value)(Q:VK),Inv X pins σ H s->Vals xs us->r xs H Q->
  wpAny (model X.prog X.w) X.A (call f us) (EP X pins σ Q) X.xe s
noncomputable def TruR(X:Cx)(r:V->Hp->(Bool->Hp->Prop)->Prop):Prop:=
 ∀(pins:List (Addr×Obj))(s:Shared)(σ:St)(H:Hp)(x:V)(v:Value)(Q:Bool->Hp->Prop),Inv X pins σ H s->RelV x v->r x H Q->
  wpAny (model X.prog X.w) X.A (truthy v) (TP X pins σ Q) X.xe s
noncomputable def tOp(r:R2)(ta tb:TE):TE:=λσ H Q=>ta σ H λx H1=>tb σ H1 λy H2=>r x y H2 Q
noncomputable def tUn(r:V->Hp->VK->Prop)(ta:TE):TE:=λσ H Q=>ta σ H λx H1=>r x H1 Q
noncomputable def rI(C:Int->Int->Prop)(g:Int->Int->V):R2:=λx y H Q=>∃i j,x=.int i/\y=.int j/\C i j/\Q (g i j) H
noncomputable def rI0(g:Int->Int->V):R2:=λx y H Q=>∃i j,x=.int i/\y=.int j/\Q (g i j) H
noncomputable def rU(g:Int->V):V->Hp->VK->Prop:=λx H Q=>∃i,x=.int i/\Q (g i) H
section
variable{X:Cx}{a b c:Expr}{ta tb tc:TE}{pos:Pos}
theorem binT(ha:PE X a ta)(hb:PE X b tb){pins:List (Addr×Obj)}{s:Shared}{σ:St}{H:Hp}{R:V->V->Hp->Prop}(I:Inv X pins σ H s)
 (h:ta σ H λx H1=>tb σ H1 λy H2=>R x y H2) {Q:Value->Shared->Prop} {f:Value->Value->Sem Value}
 (hf:∀v u s2 x y H2,Inv X pins σ H2 s2->RelV x v->RelV y u->R x y H2->wpAny (model X.prog X.w) X.A (f v u) Q X.xe s2) :
 wpAny (model X.prog X.w) X.A (eval a X.env) (λv s₁=>wpAny (model X.prog X.w) X.A (eval b X.env) (λu s₂=>wpAny (model X.prog X.w) X.A (f v u) Q X.xe s₂) X.xe s₁) X.xe s:=by
 refine thn (ha pins s σ H _ I h) λv s1 z9=>z9.el λx H1 I1 r1 q1=>?_
 refine thn (hb pins s1 σ H1 _ I1 q1) λu s2 z9=>z9.el λy H2 I2 r2 q2=>?_
 exact hf v u s2 x y H2 I2 r1 r2 q2
theorem pe_op{op:Operator}{r:R2}(ho:OpR X (binaryOp op) r)(ha:PE X a ta)(hb:PE X b tb):PE X (.BinOp a op b pos) (tOp r ta tb):=by
 intro pins s σ H Q I h
 exact wpAny_BinOp (binT ha hb I h λv u s2 x y H2 I2 rx ry q=>ho pins s2 σ H2 x y v u Q I2 rx ry q)
theorem pe_un{op:UnaryOp}{r:V->Hp->VK->Prop}(ho:UnR X (unaryOp op) r)(ha:PE X a ta):PE X (.UnaryOp op a pos) (tUn r ta):=by
 intro pins s σ H Q I h
 exact UnaryOp_ (thn (ha pins s σ H _ I h) λv s1 z9=>z9.el λx H1 I1 r1 q1=>ho pins s1 σ H1 x v Q I1 r1 q1)
theorem opI{f:Value->Value->Sem Value}{C:Int->Int->Prop}{g:Int->Int->Int}
 (rule:∀(i j:Int)(t u:Tok)(s:Shared)(Q:Value->Shared->Prop)(E:Value->Shared->Prop),C i j->Q (.int (g i j) s.toks) {s with toks:=s.toks+1}->wpAny (model X.prog X.w) X.A (f (.int i t) (.int j u)) Q E s) :
 OpR X f (rI C λi j=>.int (g i j)):=by
 intro pins s σ H x y v u Q I rx ry h
 obtain⟨i,j,rfl,rfl,hc,q⟩:=h
 obtain⟨t,rfl⟩:=rx
 obtain⟨t',rfl⟩:=ry
 exact rule i j t t' s _ _ hc ⟨.int (g i j),H,I.tok _,⟨_,rfl⟩,q⟩
theorem opI0{f:Value->Value->Sem Value}{g:Int->Int->Int}
 (rule:∀(i j:Int)(t u:Tok)(s:Shared)(Q:Value->Shared->Prop)(E:Value->Shared->Prop),Q (.int (g i j) s.toks) {s with toks:=s.toks+1}->wpAny (model X.prog X.w) X.A (f (.int i t) (.int j u)) Q E s) :
 OpR X f (rI0 λi j=>.int (g i j)):=by
 intro pins s σ H x y v u Q I rx ry h
 obtain⟨i,j,rfl,rfl,q⟩:=h
 obtain⟨t,rfl⟩:=rx
 obtain⟨t',rfl⟩:=ry
 exact rule i j t t' s _ _ ⟨.int (g i j),H,I.tok _,⟨_,rfl⟩,q⟩
theorem opB0{f:Value->Value->Sem Value}{g:Int->Int->Bool}
 (rule:∀(i j:Int)(t u:Tok)(s:Shared)(Q:Value->Shared->Prop)(E:Value->Shared->Prop),Q (.bool (g i j)) s->wpAny (model X.prog X.w) X.A (f (.int i t) (.int j u)) Q E s) :
 OpR X f (rI0 λi j=>.bl (g i j)):=by
 intro pins s σ H x y v u Q I rx ry h
 obtain⟨i,j,rfl,rfl,q⟩:=h
 obtain⟨t,rfl⟩:=rx
 obtain⟨t',rfl⟩:=ry
 exact rule i j t t' s _ _ ⟨.bl (g i j),H,I,rfl,q⟩
noncomputable def CDiv(i j:Int):Prop:=0<j/\j<1073741824
noncomputable def CPow(i j:Int):Prop:=0<=j/\j<=1000000/\i.natAbs<2 ^ 64
noncomputable def CMul(i j:Int):Prop:=(-(2 ^ 64)<i/\i<2 ^ 64)\/(-(2 ^ 64)<j/\j<2 ^ 64)
theorem CMul.ok{i j:Int}(h:CMul i j):IntMulOk i j:=by
 rcases h with⟨h1,h2⟩|⟨h1,h2⟩
 .exact .of_left (intBits_le_64 h1 h2)
 .exact .of_right (intBits_le_64 h1 h2)
theorem zt3:OpR X (binaryOp .Add) (rI0 λi j=>.int (i+j)):=opI0 λ_ _ _ _ _ _ _ q=>add_int q
theorem zt4:OpR X (binaryOp .Sub) (rI0 λi j=>.int (i-j)):=opI0 λ_ _ _ _ _ _ _ q=>sub_int q
theorem zt5:OpR X (binaryOp .Mult) (rI CMul λi j=>.int (i*j)):=opI λ_ _ _ _ _ _ _ hc q=>mul_int q hc.ok
theorem zqw:OpR X (binaryOp .FloorDiv) (rI CDiv λi j=>.int (i/j)):=opI λi j _ _ _ _ _ hc q=>by
 have h1:(0:Int)<j:=hc.1
 have h2:j<1073741824:=hc.2
 exact floordiv_int (by omega) (by rw[Int.fdiv_eq_ediv_of_nonneg i (by omega)];exact q) (.inl (PyProof.noPylong_small (by omega)))
theorem zt6:OpR X (binaryOp .Mod) (rI (λ_ j=>0<j) λi j=>.int (i % j)):=opI λi j _ _ _ _ _ hc q=>by
 have h1:(0:Int)<j:=hc
 exact mod_int' (by omega) (by rw[Int.fmod_eq_emod_of_nonneg i (by omega)];exact q)
theorem zt7:OpR X (binaryOp .Pow) (rI CPow λi j=>.int (i ^ j.toNat)):=opI λ_ _ _ _ _ _ _ hc q=>pow_int_small hc.1 hc.2.1 hc.2.2 q
theorem zqx:OpR X (inplaceOp .Mult) (rI CMul λi j=>.int (i*j)):=opI λ_ _ _ _ _ _ _ hc q=>imul_int q hc.ok
theorem zn0:OpR X (inplaceOp .FloorDiv) (rI CDiv λi j=>.int (i/j)):=opI λi j _ _ _ _ _ hc q=>by
 have h1:(0:Int)<j:=hc.1
 have h2:j<1073741824:=hc.2
 exact ifloordiv_int (by omega) (by rw[Int.fdiv_eq_ediv_of_nonneg i (by omega)];exact q) (.inl (PyProof.noPylong_small (by omega)))
theorem unI{f:Value->Sem Value}{g:Int->Int}
 (rule:∀(i:Int)(t:Tok)(s:Shared)(Q:Value->Shared->Prop)(E:Value->Shared->Prop),Q (.int (g i) s.toks) {s with toks:=s.toks+1}->wpAny (model X.prog X.w) X.A (f (.int i t)) Q E s) :
 UnR X f (rU λi=>.int (g i)):=by
 intro pins s σ H x v Q I rx h
 obtain⟨i,rfl,q⟩:=h
 obtain⟨t,rfl⟩:=rx
 exact rule i t s _ _ ⟨.int (g i),H,I.tok _,⟨_,rfl⟩,q⟩
theorem zt8:UnR X (unaryOp .USub) (rU λi=>.int (-i)):=unI λ_ _ _ _ _ q=>neg_int q
end
section
variable{X:Cx}{a b c:Expr}{ta tb tc:TE}{pos:Pos}
theorem ze3{pins:List (Addr×Obj)}{σ:St}{H:Hp}{s:Shared}{Q:VK}{k k':Bool}(I:Inv X pins σ H s)(q:Q (.bl k) H)(e:k=k'):EP X pins σ Q (.bool k') s:=by
 subst e
 exact⟨.bl k,H,I,rfl,q⟩
theorem op_lt:OpR X (compareOp .Lt) (rI0 λi j=>.bl (decide (i<j))):=opB0 λ_ _ _ _ _ _ _ q=>lt_int q
theorem op_le:OpR X (compareOp .LtE) (rI0 λi j=>.bl (decide (i<=j))):=opB0 λ_ _ _ _ _ _ _ q=>le_int q
theorem op_gt:OpR X (compareOp .Gt) (rI0 λi j=>.bl (decide (j<i))):=opB0 λ_ _ _ _ _ _ _ q=>gt_int q
theorem op_ge:OpR X (compareOp .GtE) (rI0 λi j=>.bl (decide (j<=i))):=opB0 λ_ _ _ _ _ _ _ q=>ge_int q
theorem zt9:OpR X (compareOp .Is) (λx y H Q=>y=.non/\Q (.bl (decide (x=.non))) H):=by
 intro pins s σ H x y v u Q I rx ry h
 obtain⟨rfl,q⟩:=h
 cases ry
 refine is_none_gen (ze3 I q ?_)
 cases x<;>first
  |(cases rx;rfl)
  |(obtain⟨t,rfl⟩:=rx;rfl)
theorem zqy:OpR X (compareOp .IsNot) (λx y H Q=>y=.non/\Q (.bl (!decide (x=.non))) H):=by
 intro pins s σ H x y v u Q I rx ry h
 obtain⟨rfl,q⟩:=h
 cases ry
 refine isnot_none_gen (ze3 I q ?_)
 cases x<;>first
  |(cases rx;rfl)
  |(obtain⟨t,rfl⟩:=rx;rfl)
theorem OpR.or{f:Value->Value->Sem Value}{r r':R2}(h:OpR X f r)(h':OpR X f r'):OpR X f (λx y H Q=>r x y H Q\/r' x y H Q):=by
 intro pins s σ H x y v u Q I rx ry q
 rcases q with q|q
 .exact h pins s σ H x y v u Q I rx ry q
 .exact h' pins s σ H x y v u Q I rx ry q
theorem zqz{op:CmpOp}{r:R2}(ho:OpR X (compareOp op) r)(ha:PE X a ta)(hb:PE X b tb)(hm:behindInMarks op b=false):PE X (.Compare a [op] [b] pos) (tOp r ta tb):=by
 intro pins s σ H Q I h
 exact wpAny_Compare1 (binT ha hb I h λv u s2 x y H2 I2 rx ry q=>ho pins s2 σ H2 x y v u Q I2 rx ry q) hm
noncomputable def tTest(t:TE):TT:=λσ H Q=>t σ H λx H'=>∃k,x=.bl k/\Q k H'
theorem zq0{op:CmpOp}{r:R2}(ho:OpR X (compareOp op) r)(ha:PE X a ta)(hb:PE X b tb)(hm:behindInMarks op b=false):PT X (.Compare a [op] [b] pos) (tTest (tOp r ta tb)):=by
 intro pins s σ H Q I h
 refine wpAny_isTrue_Compare1 (thn (ha pins s σ H _ I h) λv s1 z9=>z9.el λx H1 I1 r1 q1=>thn (hb pins s1 σ H1 _ I1 q1) λu s2 z9=>z9.el λy H2 I2 r2 q2=>
  thn (ho pins s2 σ H2 x y v u _ I2 r1 r2 q2) λc s3 z9=>z9.el λz H3 I3 r3 ⟨k,e,q3⟩=>?_) hm
 subst e
 cases r3
 exact wpAny_truthy_bool ⟨H3,I3,q3⟩
noncomputable def zli(r r':R2)(ta tb tc:TE):TE:=λσ H Q=>ta σ H λx H1=>tb σ H1 λy H2=>r x y H2 λz H3=>∃k,z=.bl k/\
 (if k=true then tc σ H3 λw' H4=>r' y w' H4 Q else Q (.bl false) H3)
theorem zn1{op op':CmpOp}{r r':R2}(ho:OpR X (compareOp op) r)(ho':OpR X (compareOp op') r')(ha:PE X a ta)(hb:PE X b tb)(hc:PE X c tc)
 (hm:lastMarks [op,op'] [b,c]=false:=by with_unfolding_all rfl):PE X (.Compare a [op,op'] [b,c] pos) (zli r r' ta tb tc):=by
 intro pins s σ H Q I h
 refine Compare_chain (thn (ha pins s σ H _ I h) λv s1 z9=>z9.el λx H1 I1 r1 q1=>chain_link (thn (hb pins s1 σ H1 _ I1 q1) λu s2 z9=>z9.el λy H2 I2 r2 q2=>
  thn (ho pins s2 σ H2 x y v u _ I2 r1 r2 q2) λd s3 z9=>z9.el λz H3 I3 r3 ⟨k,e,q3⟩=>?_)) hm
 subst e
 cases r3
 refine wpAny_truthy_bool ?_
 cases k with
 |false=>exact ite_ff ⟨.bl false,H3,I3,rfl,q3⟩
 |true=>exact ite_tt (chain_last (thn (hc pins s3 σ H3 _ I3 q3) λw' s4 z9=>z9.el λz' H4 I4 r4 q4=>ho' pins s4 σ H4 y z' u w' Q I4 r2 r4 q4))
theorem zn2{op op':CmpOp}{r r':R2}(ho:OpR X (compareOp op) r)(ho':OpR X (compareOp op') r')(ha:PE X a ta)(hb:PE X b tb)(hc:PE X c tc)
 (hm:lastMarks [op,op'] [b,c]=false:=by with_unfolding_all rfl):PT X (.Compare a [op,op'] [b,c] pos) (tTest (zli r r' ta tb tc)):=by
 intro pins s σ H Q I h
 refine isTrue_chain (thn (ha pins s σ H _ I h) λv s1 z9=>z9.el λx H1 I1 r1 q1=>test_link (thn (hb pins s1 σ H1 _ I1 q1) λu s2 z9=>z9.el λy H2 I2 r2 q2=>
  thn (ho pins s2 σ H2 x y v u _ I2 r1 r2 q2) λd s3 z9=>z9.el λz H3 I3 r3 ⟨k,e,q3⟩=>?_)) hm
 subst e
 cases r3
 refine wpAny_truthy_bool ?_
 cases k with
 |false=>
  obtain⟨k',e',q'⟩:=q3
  cases e'
  exact ite_ff ⟨H3,I3,q'⟩
 |true=>
  refine ite_tt (test_last (thn (hc pins s3 σ H3 _ I3 q3) λw' s4 z9=>z9.el λz' H4 I4 r4 q4=>thn (ho' pins s4 σ H4 y z' u w' _ I4 r2 r4 q4) λd' s5 z9=>z9.el λz2 H5 I5 r5 hq0=>?_))
  obtain⟨k2,e2,q5⟩:=hq0
  subst e2
  cases r5
  exact wpAny_truthy_bool ⟨H5,I5,q5⟩
noncomputable def TruV(K:PySem.W.Frag)(x:V)(H:Hp)(k:Bool):Prop:=
 match x with
 |.non=>k=false
 |.bl b=>k=b
 |.int i=>k=(i != 0)
 |.str y=>y.length<=sizeLine/\k=((y.length:Int) != 0)
 |.byt y=>y.size<=sizeLine/\k=((y.size:Int) != 0)
 |.ref p=>(∃xs,SqL K H p xs/\k=!xs.isEmpty)\/(∃xs,SqT K H p xs/\k=!xs.isEmpty)\/∃kvs,H p=some (.dK kvs)/\k=!kvs.isEmpty
 |_=>False
theorem zkl{κ:Type}{kvs:List (κ×V)}{vs:List (κ×Value)}(r:KV kvs vs):(!vs.isEmpty)=!kvs.isEmpty:=by
 cases r<;>rfl
theorem ze4{xs:List V}{its:List Value}(r:Vals xs its):(!its.toArray.isEmpty)=!xs.isEmpty:=by
 cases r<;>simp
theorem ze5:(sizeLine:Nat)<2 ^ 63:=by rw[sizeLine_eq];decide
theorem zua:TruR X (λx H Q=>∃k,TruV X.K x H k/\Q k H):=by
 intro pins s σ H x v Q I rx h
 obtain⟨k,e,q⟩:=h
 have hl:=ze5
 have hs:sizeLine=16777216:=sizeLine_eq
 cases x with
 |non=>
  cases rx
  have e':k=false:=e
  subst e'
  exact truthy_none ⟨H,I,q⟩
 |bl b=>
  cases rx
  have e':k=b:=e
  subst e'
  exact wpAny_truthy_bool ⟨H,I,q⟩
 |int i=>
  obtain⟨t,rfl⟩:=rx
  have e':k=(i != 0):=e
  subst e'
  exact PySem.P.truthy_int ⟨H,I,q⟩
 |str y=>
  obtain⟨t,rfl⟩:=rx
  obtain⟨hy,e'⟩:y.length<=sizeLine/\k=((y.length:Int) != 0):=e
  subst e'
  exact PySem.P.truthy_str (by omega) ⟨H,I.tok _,q⟩
 |byt y=>
  obtain⟨t,rfl⟩:=rx
  obtain⟨hy,e'⟩:y.size<=sizeLine/\k=((y.size:Int) != 0):=e
  subst e'
  exact PySem.W.truthy_bytes (by omega) ⟨H,I.tok _,q⟩
 |ref p=>
  cases rx
  have e':(∃xs,SqL X.K H p xs/\k=!xs.isEmpty)\/(∃xs,SqT X.K H p xs/\k=!xs.isEmpty)\/∃kvs,H p=some (.dK kvs)/\k=!kvs.isEmpty:=e
  rcases e' with⟨xs,hx,e'⟩|⟨xs,hx,e'⟩|⟨kvs,hx,e'⟩
  .subst e'
   obtain⟨its,r,pl,hz⟩:=I.list hx
   have hlen:=r.length
   exact wpAny_truthy_list pl.isList (by simp only[van];omega) ⟨H,I.tok _,by rw[ze4 r];exact q⟩
  .subst e'
   obtain⟨its,r,pl,hz⟩:=I.tuple hx
   have hlen:=r.length
   exact truthy_tuple pl (by simp only[van];omega) ⟨H,I.tok _,by rw[ze4 r];exact q⟩
  .subst e'
   obtain⟨hz,hS,vs,r,m⟩:kvs.length<=sizeLine/\(p==sysModules)=false/\∃vs,KV kvs vs/\s.heap.DictOf (za2 X.prog X.w) p vs:=I.hok p _ hx
   have hlen:kvs.length=vs.length:=Paired.length r
   exact wpAny_truthy_dict hS m (by omega) ⟨H,I.tok _,by rw[zkl r];exact q⟩
 |_=>exact(show False from e).elim
theorem zn3(ha:PE X a ta)(he:∀whole,isTrue a X.env whole=(do let v <-whole;standAt a.pos;holding [v] (truthy v))) :
 PT X a (λσ H Q=>ta σ H λx H'=>∃k,TruV X.K x H' k/\Q k H'):=by
 intro pins s σ H Q I h
 exact isTrue_plain (thn (ha pins s σ H _ I h) λv s1 z9=>z9.el λx H1 I1 r1 q1=>zua pins s1 σ H1 x v Q I1 r1 q1) (he _)
theorem vals1{x:V}{us:List Value}(r:Vals [x] us):∃u,us=[u]/\RelV x u:=by
 cases r with
 |cons r1 r2=>cases r2;exact⟨_,rfl,r1⟩
theorem vals2{x y:V}{us:List Value}(r:Vals [x,y] us):∃u w',us=[u,w']/\RelV x u/\RelV y w':=by
 cases r with
 |cons r1 r2=>
  cases r2 with
  |cons r3 r4=>cases r4;exact⟨_,_,rfl,r1,r3⟩
theorem zn4:CallR X (.builtin "abs") (λxs H Q=>∃i,xs=[.int i]/\Q (.int (if i<0 then -i else i)) H):=by
 intro pins s σ H xs us Q I r h
 obtain⟨i,rfl,q⟩:=h
 obtain⟨u,rfl,t,rfl⟩:=vals1 r
 exact call_abs_int λu tk=>⟨.int (if i<0 then -i else i),H,I.tok _,⟨_,rfl⟩,q⟩
theorem zlj(hc:X.calm=true):CallR X (.builtin "min") (λxs H Q=>∃i j,xs=[.int i,.int j]/\Q (.int (if j<i then j else i)) H):=by
 intro pins s σ H xs us Q I r h
 obtain⟨i,j,rfl,q⟩:=h
 obtain⟨u,w',rfl,⟨t,rfl⟩,⟨t',rfl⟩⟩:=vals2 r
 refine min_two_ints (I.ok.hd hc) λh' tk k=>⟨_,H,I.kept k,?_,q⟩
 by_cases hj:j<i
 .rw[if_pos hj,if_pos hj];exact⟨_,rfl⟩
 .rw[if_neg hj,if_neg hj];exact⟨_,rfl⟩
theorem zlk:CallR X (.type "int") (λxs H Q=>(∃i,xs=[.int i]/\Q (.int i) H)\/∃k,xs=[.bl k]/\Q (.int (if k then 1 else 0)) H):=by
 intro pins s σ H xs us Q I r h
 rcases h with⟨i,rfl,q⟩|⟨k,rfl,q⟩
 .obtain⟨u,rfl,t,rfl⟩:=vals1 r
  exact call_int_int ⟨.int i,H,I,⟨_,rfl⟩,q⟩
 .obtain⟨u,rfl,r1⟩:=vals1 r
  cases r1
  exact call_int_bool ⟨.int (if k then 1 else 0),H,I.tok _,⟨_,rfl⟩,q⟩
end
structure ObjM(h:Heap)(x dx C:Addr)(mA:Str->Option Value):Prop where
 obj:h.get? x=some (PySem.W.instObj C dx)
 ns:h.Ns1 dx mA
 ne:dx≠x
theorem zll{h:Heap}{dx:Addr}{mA:Str->Option Value}(n:h.Ns1 dx mA):∃od,h.get? dx=some od/\∀name,PySem.W.lookIn name od=some (mA name):=by
 obtain⟨o,es,ep,ho,hd,hk,_,hm⟩:=n
 refine⟨o,ho,λname=>?_⟩
 have e:=hm name
 unfold nsFind findBy at e
 rw[<-Array.find?_toList]at e
 unfold PySem.W.lookIn
 rw[hd]
 dsimp only
 split
 .rename_i y q
  rw[q]at e
  exact congrArg some e
 .rename_i q
  rw[q]at e
  have a:es.toList.any (·.refKey)=false:=by
   rw[List.any_eq_false]
   intro y hy
   obtain⟨z,t,hkey⟩:=hk y (Array.mem_toList_iff.mp hy)
   simp[DictEntry.refKey,hkey]
  have a':¬es.toList.any (·.refKey)=true:=by rw[a];exact Bool.false_ne_true
  rw[if_neg a']
  exact congrArg some e
theorem ObjM.look{h:Heap}{x dx C:Addr}{mA:Str->Option Value}(I:ObjM h x dx C mA):∃od,PySem.W.InstAt h x (PySem.W.instObj C dx) C (some od)/\∀name,PySem.W.lookIn name od=some (mA name):=
 let⟨od,ho,hl⟩:=zll I.ns
 ⟨od,⟨I.obj,rfl,rfl,ho⟩,hl⟩
section
variable{prog:Program}{w:World}{A:Around}{E:Value->Shared->Prop}{s:Shared}{K:PySem.W.Frag}{x dx C f:Addr}{mA:Str->Option Value}{name:Str}{v:Value}
theorem zq1{expr:Bool}{Q:Value->Shared->Prop}(X:K.In s.heap)(I:ObjM s.heap x dx C mA)(hg:PySem.W.plainGet K C name=true)(hh:PySem.W.hasDictIn K C=true)
 (ha:PySem.W.findIn K (.ref C) name=some none) (hv:mA name=some v) (hv':PySem.W.handedIn v=true) (h:Q v {s with toks:=s.toks+1}) :
 wpAny (model prog w) A (getAttr (.ref x) name expr) Q E s:=by
 obtain⟨od,J,hl⟩:=I.look
 exact PySem.W.get_value X J (PySem.W.plainGet_of hg).1 (PySem.W.findObj_own hh ha rfl (by rw[hl,hv])) hv' h
theorem zn5{pl:Sem Bool}{Q:Value×List Value->Shared->Prop}(X:K.In s.heap)(I:ObjM s.heap x dx C mA)(hg:PySem.W.plainGet K C name=true)
 (hf:PySem.W.findIn K (.ref C) name=some (some (.ref f))) (ht:PySem.W.isFn K (.ref f)=true) (hv:mA name=none) (h:Q (.ref f,[.ref x]) s) :
 wpAny (model prog w) A (getMethod (.ref x) name pl) Q E s:=by
 obtain⟨od,J,hl⟩:=I.look
 exact PySem.W.method_fn X J (PySem.W.plainGet_of hg).1 (PySem.W.plainGet_of hg).2 hf (beq_iff_eq.mp ht) (by show(PySem.W.lookIn name od).map (·.isSome)=some false;rw[hl,hv];rfl) h
theorem zq2{ns:List Str}{Q:Unit->Shared->Prop}(X:K.In s.heap)(I:ObjM s.heap x dx C mA)
 (hs:PySem.W.findIn K (.ref C) "__setattr__" = some (some (.builtin "object.__setattr__"))) (hp:PySem.W.plainOver K C=true) (ht:PySem.W.takerIn K C name=some none) (hh:PySem.W.hasDictIn K C=true)
 (hw:PySem.Within mA ns) (hsz:ns.length<=sizeLine)
 (h:∀h',ObjM h' x dx C (λy=>if y=name then some v else mA y)->Heap.SameBut dx s.heap h'->Q () {s with heap:=h',toks:=s.toks+2}) :
 wpAny (model prog w) A (setAttr (.ref x) name v) Q E s:=by
 obtain⟨od,J,hl⟩:=I.look
 refine PySem.W.set_plain X J hs (PySem.W.osa_open (s:={s with toks:=s.toks+1}) (r:=none) X J hp ht λb=>?_)
 obtain⟨cd,hc,hd'⟩:=PySem.W.any_some hh
 have hx:s.heap.get? x=some ⟨.ref C,some dx,.plain,#[]⟩:=I.obj
 refine vaa (vaj (vaa (vaa (wpAny_loadPart hx (vaa (PySem.W.Looks.here (s:={s with toks:=s.toks+1}) (PySem.W.looks_clsIn X hc) ?_))))))
 rw[hd']
 refine vaj (a:=some dx) (vaa (vaj (vaa ?_)))
 refine wpAny_nsSet1 (s:={s with toks:=s.toks+1}) I.ns λh' hn2 hs2=>?_
 obtain⟨oD,esD,epD,hoD,hdD,hcD⟩:=hn2.count (PySem.Within.cons name v hw)
 refine vaa (wpAny_lookBehind hoD (by rw[hdD];exact pastItsLine_dict (Nat.le_trans hcD (by rw[vah];omega))) ?_)
 exact vaj (h _ ⟨(hs2.2 _ (Ne.symm I.ne)).trans I.obj,hn2,I.ne⟩ hs2)
theorem zn6{R:Result->Shared->Prop}{vs:List Value}{kw:List (Str×Value)}(X:K.In s.heap)(hm:PySem.W.makesIn K C=true)
 (hi:PySem.W.findIn K (.ref C) "__init__" = some (some (.ref f))) (hf:PySem.W.typeIn K (.ref f)=some (.type "function"))
 (h:codeAny (model prog w) (A.under (.builtin "type.__call__" ⟨.ref C::vs,kw⟩)) (.call (.ref f) ⟨.ref (s.heap.objs.size+1)::vs,kw⟩) (PySem.W.InitBack (s.heap.objs.size+1) R)
   {s with heap:=(s.heap.push PySem.W.emptyDict).push (PySem.W.instObj C s.heap.objs.size)}) :
 codeAny (model prog w) A (.call (.ref C) ⟨vs,kw⟩) R s:=by
 obtain⟨hh,g,d,t,os⟩:=s
 exact PySem.W.make_core (PySem.W.makes_of X hm) (PySem.W.looks_findIn X hi) (λself=>PySem.W.bind_fn X self hf) (.inl rfl) h
end
noncomputable def putF(f:Str)(v:V):List (Str×V)->List (Str×V)
 |[]=>[(f,v)]
 |(g,x)::r=>if g=f then(g,v)::r else(g,x)::putF f v r
theorem zd5(f g:Str)(v:V):∀fs:List (Str×V),(putF f v fs).lookup g=if g=f then some v else fs.lookup g
 |[]=>by
  show List.lookup g [(f,v)]=_
  by_cases h:g=f
  .have hb:(g==f)=true:=beq_iff_eq.mpr h
   simp only[List.lookup,hb,if_pos h]
  .have hb:(g==f)=false:=beq_eq_false_iff_ne.mpr h
   simp only[List.lookup,hb,if_neg h]
 |(k,x)::r=>by
  have ih:=zd5 f g v r
  rw[show putF f v ((k,x)::r)=(if k=f then(k,v)::r else(k,x)::putF f v r)from rfl]
  by_cases hk:k=f
  .rw[if_pos hk]
   by_cases h:g=k
   .have hb:(g==k)=true:=beq_iff_eq.mpr h
    simp only[List.lookup,hb,if_pos (h.trans hk)]
   .have hb:(g==k)=false:=beq_eq_false_iff_ne.mpr h
    simp only[List.lookup,hb,if_neg (λe:g=f=>h (e.trans hk.symm))]
  .rw[if_neg hk]
   by_cases h:g=k
   .have hb:(g==k)=true:=beq_iff_eq.mpr h
    simp only[List.lookup,hb,if_neg (λe:g=f=>hk (h.symm.trans e))]
   .have hb:(g==k)=false:=beq_eq_false_iff_ne.mpr h
    simp only[List.lookup,hb]
    exact ih
theorem zd6(f:Str)(v:V):∀fs:List (Str×V),f∈(putF f v fs).map (·.1)/\∀g,g∈fs.map (·.1)->g∈(putF f v fs).map (·.1)
 |[]=>⟨by simp[putF],λg h=>by simp at h⟩
 |(k,x)::r=>by
  obtain⟨i1,i2⟩:=zd6 f v r
  rw[show putF f v ((k,x)::r)=(if k=f then(k,v)::r else(k,x)::putF f v r)from rfl]
  by_cases hk:k=f
  .rw[if_pos hk]
   subst hk
   exact⟨by simp,λg h=>by simpa using h⟩
  .rw[if_neg hk]
   refine⟨?_,λg h=>?_⟩
   .rw[vam]
    exact vad _ i1
   .rw[vam]at h ⊢
    rcases va2.mp h with e|e
    .exact va2.mpr (.inl e)
    .exact vad _ (i2 g e)
theorem zd7(f:Str)(v:V):∀fs:List (Str×V),(putF f v fs).length<=fs.length+1
 |[]=>by simp[putF]
 |(k,x)::r=>by
  have ih:=zd7 f v r
  rw[show putF f v ((k,x)::r)=(if k=f then(k,v)::r else(k,x)::putF f v r)from rfl]
  by_cases hk:k=f
  .rw[if_pos hk,vah,vah];omega
  .rw[if_neg hk,vah,vah];omega
theorem RelO.some_of{v:V}{o:Option Value}(r:RelO (some v) o):∃u,o=some u/\RelV v u:=by
 cases o with
 |none=>exact(show False from r).elim
 |some u=>exact⟨u,rfl,r⟩
theorem RelO.none_of{o:Option Value}(r:RelO none o):o=none:=by
 cases o with
 |none=>rfl
 |some u=>exact(show False from r).elim
theorem zlm{v:V}{u:Value}(r:RelV v u):PySem.W.handedIn u=true:=by
 cases v with
 |non=>cases(show u=Value.none from r);rfl
 |bl b=>cases(show u=Value.bool b from r);rfl
 |int i=>obtain⟨t,e⟩:=(show ∃t,u=Value.int i t from r);cases e;rfl
 |str x=>obtain⟨t,e⟩:=(show ∃t,u=Value.str x t from r);cases e;rfl
 |byt b=>obtain⟨t,e⟩:=(show ∃t,u=Value.bytes b t from r);cases e;rfl
 |flt b=>obtain⟨t,e⟩:=(show ∃t,u=Value.float b t from r);cases e;rfl
 |ref a=>cases(show u=Value.ref a from r);rfl
 |ty n=>cases(show u=Value.type n from r);rfl
section
variable{P:Program}{w:World}{H H':Hp}{h h':Heap}{a C dx:Addr}{fs fs':List (Str×V)}
theorem zf7(hok:HOk P w H h)(e:H a=some (.ins C dx fs)):∃mA,ObjM h a dx C mA/\(∀f,RelO (fs.lookup f) (mA f))/\PySem.Within mA (fs.map (·.1))/\fs.length<=1000/\H dx=some (.own a):=by
 obtain⟨d,z,ne,ob,mA,n,r,q⟩:=(show ObjOk P w H h a (.ins C dx fs)from hok a _ e)
 exact⟨mA,⟨ob,n,ne⟩,r,q,z,d⟩
end
structure Cls(K:PySem.W.Frag)(C:Addr):Prop where
 pg:PySem.W.plainGet K C Str.empty=true
 hd:PySem.W.hasDictIn K C=true
 po:PySem.W.plainOver K C=true
 sa:PySem.W.findIn K (.ref C) "__setattr__" = some (some (.builtin "object.__setattr__"))
theorem Cls.get{K:PySem.W.Frag}{C:Addr}(c:Cls K C)(f:Str):PySem.W.plainGet K C f=true:=c.pg
noncomputable def zcr(K:PySem.W.Frag)(C:Addr)(f:Str):Prop:=PySem.W.findIn K (.ref C) f=some none
theorem zcr.taker{K:PySem.W.Frag}{C:Addr}{f:Str}(n:zcr K C f):PySem.W.takerIn K C f=some none:=by
 unfold PySem.W.takerIn
 rw[show PySem.W.findIn K (.ref C) f=some none from n]
 rfl
structure Meth(K:PySem.W.Frag)(C:Addr)(m:Str)(f:Addr):Prop where
 at_:PySem.W.findIn K (.ref C) m=some (some (.ref f))
 fn:PySem.W.isFn K (.ref f)=true
 kp:PySem.W.keepIn K (.ref f)=true
section
variable{X:Cx}{pins:List (Addr×Obj)}{σ:St}{H:Hp}{s:Shared}{a C dx:Addr}{fs:List (Str×V)}{f:Str}{v:V}{A:Around}{E:Value->Shared->Prop}
theorem zkm{b:Bool}{Q:Value->Shared->Prop}(I:Inv X pins σ H s)(e:H a=some (.ins C dx fs))(c:Cls X.K C)(n:zcr X.K C f)(l:fs.lookup f=some v)
 (h:∀u s',Inv X pins σ H s'->RelV v u->Q u s'):wpAny (model X.prog X.w) A (getAttr (.ref a) f b) Q E s:=by
 obtain⟨mA,O,r,_,_,_⟩:=zf7 I.hok e
 obtain⟨u,hu,ru⟩:=RelO.some_of (v:=v) (o:=mA f) (by rw[<-l];exact r f)
 exact zq1 I.kIn O (c.get f) c.hd n hu (zlm ru) (h u _ (I.tok _) ru)
theorem ze6{m:Str}{g:Addr}{pl:Sem Bool}{Q:Value×List Value->Shared->Prop}(I:Inv X pins σ H s)(e:H a=some (.ins C dx fs))(c:Cls X.K C)(k:Meth X.K C m g)(l:fs.lookup m=none)
 (h:Q (.ref g,[.ref a]) s):wpAny (model X.prog X.w) A (getMethod (.ref a) m pl) Q E s:=by
 obtain⟨mA,O,r,_,_,_⟩:=zf7 I.hok e
 have hn:mA m=none:=RelO.none_of (by rw[<-l];exact r m)
 exact zn5 I.kIn O (c.get m) k.at_ k.fn hn h
theorem zkn{y:V}{u:Value}{Q:Unit->Shared->Prop}(I:Inv X pins σ H s)(e:H a=some (.ins C dx fs))(c:Cls X.K C)(n:zcr X.K C f)(hl:fs.length<1000)(ry:RelV y u)
 (h:∀s',Inv X pins σ (upd H a (.ins C dx (putF f y fs))) s'->Q () s'):wpAny (model X.prog X.w) A (setAttr (.ref a) f u) Q E s:=by
 obtain⟨mA,O,r,wi,_,ho⟩:=zf7 I.hok e
 have hz:(fs.map (·.1)).length<=sizeLine:=by rw[vaf,sizeLine_eq];omega
 refine zq2 I.kIn O c.sa c.po n.taker c.hd wi hz λh' O' sb=>h _ ?_
 have hd:∃o,h'.get? dx=some o:=let⟨o,_,_,e',_⟩:=O'.ns;⟨o,e'⟩
 refine I.write (x:=a) (e:=dx) (by rw[e];exact True.intro) (.inr ho) (λb q hb z=>(sb.2 b hb).trans z) hd ?_
 refine⟨by rw[zae O.ne];exact ho,?_,O.ne,O'.obj,_,O'.ns,λg=>?_,λg hg=>?_⟩
 .have:=zd7 f y fs;omega
 .show RelO ((putF f y fs).lookup g) (if g=f then some u else mA g)
  rw[zd5]
  by_cases q:g=f
  .rw[if_pos q,if_pos q];exact ry
  .rw[if_neg q,if_neg q];exact r g
 .by_cases q:g=f
  .rw[q];exact(zd6 f y fs).1
  .refine(zd6 f y fs).2 g (wi g λz=>hg ?_)
   show(if g=f then some u else mA g)=none
   rw[if_neg q];exact z
theorem Inv.made(I:Inv X pins σ H s):Inv X pins σ (upd (upd H s.heap.objs.size (.own (s.heap.objs.size+1))) (s.heap.objs.size+1) (.ins C s.heap.objs.size []))
 {s with heap:=(s.heap.push PySem.W.emptyDict).push (PySem.W.instObj C s.heap.objs.size)}:=by
 have e1:(s.heap.push PySem.W.emptyDict).get? s.heap.objs.size=some PySem.W.emptyDict:=va0 s.heap rfl
 have e2:((s.heap.push PySem.W.emptyDict).push (PySem.W.instObj C s.heap.objs.size)).get? (s.heap.objs.size+1)=some (PySem.W.instObj C s.heap.objs.size):=by
  have:=va0 (s.heap.push PySem.W.emptyDict) (o:=PySem.W.instObj C s.heap.objs.size) rfl
  rwa [Heap.size_push]at this
 have e3:(s.heap.push PySem.W.emptyDict).Ns s.heap.objs.size (λ_=>none):=⟨PySem.W.emptyDict,#[],_,e1,rfl,(λe he=>absurd he (by simp)),λ_=>rfl⟩
 have I1:=I.laid (a:=s.heap.objs.size) (o:=.own (s.heap.objs.size+1)) (h':=s.heap.push PySem.W.emptyDict) (t':=s.toks) (λb u q=>vac _ q) (vae _) ⟨_,e1⟩
 refine I1.laid (a:=s.heap.objs.size+1) (o:=.ins C s.heap.objs.size []) (t':=s.toks) (λb u q=>vac _ q) (Nat.le_of_eq (Heap.size_push _ _)) ?_
 have ne:s.heap.objs.size≠s.heap.objs.size+1:=va4 (Nat.lt_succ_self _)
 refine⟨by rw[zae ne,zak],Nat.zero_le _,ne,e2,λ_=>none,(Heap.Ns1.of_empty e3).at λo q=>vac _ q,λ_=>True.intro,λy hy=>absurd rfl hy⟩
theorem zq3{prog:Program}{w:World}{env:Env}{e:Expr}{f:Str}{pos:Pos}{s:Shared}{Q:Value->Shared->Prop}(hb:attributeBase e f env (eval e env)=eval e env)
 (h:wpAny (model prog w) A (eval e env) (λo s₁=>wpAny (model prog w) A (getAttr o f true) Q E s₁) E s):wpAny (model prog w) A (eval (.Attribute e f pos) env) Q E s:=
 Attribute_any_ h (by rw[arm_eval_Attribute,hb])
end
noncomputable def tFld(K:PySem.W.Frag)(ta:TE)(f:Str):TE:=λσ H Q=>ta σ H λx H1=>∃a C dx fs v,x=.ref a/\H1 a=some (.ins C dx fs)/\Cls K C/\zcr K C f/\fs.lookup f=some v/\Q v H1
noncomputable def sFld(K:PySem.W.Frag)(ta tv:TE)(f:Str):TS:=λD σ H=>tv σ H λy H1=>ta σ H1 λx H2=>∃a C dx fs,x=.ref a/\H2 a=some (.ins C dx fs)/\Cls K C/\zcr K C f/\fs.length<1000/\
 D.nx σ (upd H2 a (.ins C dx (putF f y fs)))
section
variable{X:Cx}{o e value:Expr}{f:Str}{pos pos' tpos:Pos}{ta tv:TE}
theorem zub(he:PE X e ta)(hb:attributeBase e f X.env (eval e X.env)=eval e X.env):PE X (.Attribute e f pos) (tFld X.K ta f):=by
 intro pins s σ H Q I h
 refine zq3 hb (thn (he pins s σ H _ I h) λu s1 z9=>z9.el λx H1 I1 rx hq0=>?_)
 obtain⟨a,C,dx,fs,v,ex,ea,c,n,l,q⟩:=hq0
 subst ex
 obtain rfl:u=Value.ref a:=rx
 exact zkm I1 ea c n l λu' s2 I2 ru=>⟨v,H1,I2,ru,q⟩
theorem zuc(ha:PE X o ta)(hv:PE X value tv)(hs:swapsWith value (some (.Attribute o f pos')) pos.line X.env=pure false):PS X (.Assign [.Attribute o f pos'] value pos) (sFld X.K ta tv f):=by
 intro pins s σ H D I h
 refine plainObj_wpAny_Assign_Attribute (thn (hv pins s σ H _ I h) λu s1 z9=>z9.el λy H1 I1 ry q=>thn (ha pins s1 σ H1 _ I1 q) λov s2 z9=>z9.el λx H2 I2 rx ⟨a,C,dx,fs,ex,ea,c,n,l,q2⟩=>?_) hs
 subst ex
 obtain rfl:ov=Value.ref a:=rx
 exact zkn I2 ea c n l ry λs3 I3=>⟨σ,_,I3,q2⟩
theorem zq4{pl:Sem Bool}{m:Str}{apos:Pos}{args:List Expr}{pins:List (Addr×Obj)}{s:Shared}{σ:St}{H:Hp}{Q:Value->Shared->Prop}{te:TE}(he:PE X e te)(I:Inv X pins σ H s)
 (h:te σ H λx H1=>∃a C dx fs g,x=.ref a/\H1 a=some (.ins C dx fs)/\Cls X.K C/\Meth X.K C m g/\fs.lookup m=none/\
   ∀s1,Inv X pins σ H1 s1->wpAny (model X.prog X.w) X.A (callWith pos (.ref g) [.ref a] (backTo pos (starEach args X.env)) (backToKw pos (keywordEach [] X.env))) Q X.xe s1)
 (ht:eval (.Call (.Attribute e m apos) args [] pos) X.env=(do
   let ov <-eval e X.env
   standAt apos.atName
   let (f,first) <-holding [ov] (getMethod ov m pl)
   callWith pos f first (backTo pos (starEach args X.env)) (backToKw pos (keywordEach [] X.env)))) :
 wpAny (model X.prog X.w) X.A (eval (.Call (.Attribute e m apos) args [] pos) X.env) Q X.xe s:=by
 refine PySem.W.methodCall_KW (pl:=pl) (thn (he pins s σ H _ I h) λu s1 z9=>z9.el λx H1 I1 rx ⟨a,C,dx,fs,g,ex,ea,c,k,l,q⟩=>?_) ht
 subst ex
 obtain rfl:u=Value.ref a:=rx
 exact ze6 I1 ea c k l (q s1 I1)
end
section
variable{X:Cx}{pins:List (Addr×Obj)}{σ:St}{H:Hp}{s:Shared}{A:Around}{E:Value->Shared->Prop}{Q:Value->Shared->Prop}{c:Value}{b:Bool}
inductive TyOf(K:PySem.W.Frag)(H:Hp):V->Value->Prop where
 |non:TyOf K H .non (.type "NoneType")
 |bl (x:Bool):TyOf K H (.bl x) (.type "bool")
 |int (i:Int):TyOf K H (.int i) (.type "int")
 |str (x:Str):TyOf K H (.str x) (.type "str")
 |flt (x:UInt64):TyOf K H (.flt x) (.type "float")
 |lst {a:Addr} {xs:List V} (e:H a=some (.lst xs)):TyOf K H (.ref a) (.type "list")
 |frz {a:Addr} {o:Obj} {xs:List V} (e:H a=some (.frz o (.lst xs))):TyOf K H (.ref a) (.type "list")
 |tup {a:Addr} {xs:List V} (e:H a=some (.tup xs)):TyOf K H (.ref a) (.type "tuple")
 |dK {a:Addr} {kvs:List (Key×V)} (e:H a=some (.dK kvs)):TyOf K H (.ref a) (.type "dict")
 |dT {a:Addr} {kvs:List (List Key×V)} (e:H a=some (.dT kvs)):TyOf K H (.ref a) (.type "dict")
 |ins {a C dx:Addr} {fs:List (Str×V)} (e:H a=some (.ins C dx fs)) (cl:Cls K C) (ha:PySem.W.findIn K (.ref C) "__class__" = some (some (.builtin "object.__class__")))
   (hn:PySem.W.specialIn K (.builtin "object.__class__") "__get__" = some (some (.builtin "getset_descriptor.__get__"))) (htk:PySem.W.takesIn K (.builtin "object.__class__")=some true)
   (hm:PySem.W.mroIn K C (.type "object")=some true):TyOf K H (.ref a) (.ref C)
theorem zln{x:V}{u t:Value}(I:Inv X pins σ H s)(rx:RelV x u)(ty:TyOf X.K H x t)(e:PySem.W.kitOne X.K t c=some b)(h:∀tk,Q (.bool b) {s with toks:=tk}) :
 wpAny (model X.prog X.w) A (call (.builtin "isinstance") [u,c]) Q E s:=by
 cases ty with
 |non=>cases(show u=Value.none from rx);exact PySem.W.kia_one PySem.W.kitx_none I.kIn True.intro e (λz=>nomatch z) h
 |bl y=>cases(show u=Value.bool y from rx);exact PySem.W.kia_one PySem.W.kitx_bool I.kIn True.intro e (λz=>nomatch z) h
 |int i=>obtain⟨t,q⟩:=(show ∃t,u=Value.int i t from rx);cases q;exact PySem.W.kia_one PySem.W.kitx_int I.kIn True.intro e (λz=>nomatch z) h
 |str y=>obtain⟨t,q⟩:=(show ∃t,u=Value.str y t from rx);cases q;exact PySem.W.kia_one PySem.W.kitx_str I.kIn True.intro e (λz=>nomatch z) h
 |flt y=>obtain⟨t,q⟩:=(show ∃t,u=Value.float y t from rx);cases q;exact PySem.W.kia_one PySem.W.kitx_float I.kIn True.intro e (λz=>nomatch z) h
 | @lst a xs ea=>
  cases(show u=Value.ref a from rx)
  obtain⟨_,_,n,_,h1⟩:=(show ObjOk X.prog X.w H s.heap a (.lst xs)from I.hok a _ ea)
  exact PySem.W.kia_one PySem.W.kitx_list I.kIn ⟨_,h1,rfl⟩ e (λz=>nomatch z) h
 | @frz a ob xs ea=>
  cases(show u=Value.ref a from rx)
  obtain⟨_,_,_,n,_,h1⟩:=(show ObjOk X.prog X.w H s.heap a (.frz ob (.lst xs))from I.hok a _ ea)
  exact PySem.W.kia_one PySem.W.kitx_list I.kIn ⟨_,h1,rfl⟩ e (λz=>nomatch z) h
 | @tup a xs ea=>
  cases(show u=Value.ref a from rx)
  obtain⟨_,_,_,p⟩:=(show ObjOk X.prog X.w H s.heap a (.tup xs)from I.hok a _ ea)
  obtain⟨o,h1,h2,_⟩:=p
  exact PySem.W.kia_one PySem.W.kitx_tuple I.kIn ⟨o,h1,h2⟩ e (λz=>nomatch z) h
 | @dK a kvs ea=>
  cases(show u=Value.ref a from rx)
  obtain⟨_,_,vs,_,p⟩:=(show ObjOk X.prog X.w H s.heap a (.dK kvs)from I.hok a _ ea)
  obtain⟨o,es,ep,h1,h2,_⟩:=p
  exact PySem.W.kia_one PySem.W.kitx_dict I.kIn ⟨o,h1,h2.1⟩ e (λz=>nomatch z) h
 | @dT a kvs ea=>
  cases(show u=Value.ref a from rx)
  obtain⟨_,_,xs,_,o,es,ep,h1,h2,_⟩:=(show ObjOk X.prog X.w H s.heap a (.dT kvs)from I.hok a _ ea)
  exact PySem.W.kia_one PySem.W.kitx_dict I.kIn ⟨o,h1,h2.1⟩ e (λz=>nomatch z) h
 | @ins a C dx fs ea cl ha hn htk hm=>
  cases(show u=Value.ref a from rx)
  obtain⟨mA,O,_⟩:=zf7 I.hok ea
  obtain⟨od,J,_⟩:=O.look
  exact PySem.W.kia_one (PySem.W.kitx_own (cl.get _) cl.hd ha hn htk hm) I.kIn J e (λz=>nomatch z) h
end
structure Room(k:Nat)(A:Around):Prop where
 hd:A.handled=none
 dp:A.depth+3*k+5<recursionLimit
 un:A.units+16*k+200<cLine
theorem Room.deeper{k:Nat}{A:Around}(r:Room (k+1) A)(env:Env):Room k (A.deeper env):=
 ⟨r.hd,by have:=r.dp;show A.depth+1+3*k+5<_;omega,by have:=r.un;show A.units+3+16*k+200<_;omega⟩
theorem zko{A:Around}{C:Addr}{us:List Value}{kw:List (Str×Value)}:(A.under (.builtin "type.__call__" ⟨.ref C::us,kw⟩)).depth=A.depth+1:=by
 first|rfl|simp[Around.under,Code.weight,Code.isCreation,Code.isGuard,Code.isCaller,Code.frames,Code.isFrame,guardIds]
theorem zkp{A:Around}{C:Addr}{us:List Value}{kw:List (Str×Value)}:(A.under (.builtin "type.__call__" ⟨.ref C::us,kw⟩)).units=A.units+1:=by
 first|rfl|simp[Around.under,Code.cUnits,Code.frames,Code.isFrame]
theorem Room.make{k:Nat}{A:Around}(r:Room (k+1) A)(C:Addr)(us:List Value)(kw:List (Str×Value)):Room k (A.under (.builtin "type.__call__" ⟨.ref C::us,kw⟩)):=
 ⟨r.hd,by have:=r.dp;rw[zko];omega,by have:=r.un;rw[zkp];omega⟩
theorem Room.depth{k:Nat}{A:Around}(r:Room k A):A.depth<recursionLimit:=by have:=r.dp;omega
theorem Room.units{k:Nat}{A:Around}(r:Room k A):A.units+64<cLine:=by have:=r.un;omega
noncomputable def tNil:TA:=λ_ H Q=>Q [] H
noncomputable def tCons(ta:TE)(tr:TA):TA:=λσ H Q=>ta σ H λx H1=>tr σ H1 λxs H2=>Q (x::xs) H2
section
variable{X:Cx}{e:Expr}{es:List Expr}{te:TE}{t:TA}{pos:Pos}
theorem zi9:PA X [] tNil:=λ_ _ _ _ H Q I h=>Calls.spliced_nil ⟨[],H,I,.nil,h⟩
theorem zd8(ha:PE X e te)(hr:PA X es t)(hs:starEach (e::es) X.env=(false,eval e X.env)::starEach es X.env:=by rfl):PA X (e::es) (tCons te t):=by
 intro pos pins s σ H Q I h
 rw[hs]
 show wpAny _ _ (spliced ((false,eval e X.env)::backTo pos (starEach es X.env))) _ _ s
 refine Calls.spliced_cons (thn (ha pins s σ H _ I h) λu s1 z9=>z9.el λx H1 I1 r1 q1=>?_)
 exact thn (hr pos pins s1 σ H1 _ I1 q1) λus s2 z9=>z9.el λxs H2 I2 r2 q2=>⟨x::xs,H2,I2,.cons r1 r2,q2⟩
noncomputable def tTup(t:TA):TE:=λσ H Q=>t σ H λxs H1=>xs.length<=sizeLine/\∀p,H1 p=none->Q (.ref p) (upd H1 p (.tup xs))
noncomputable def tLst(t:TA):TE:=λσ H Q=>t σ H λxs H1=>xs.length<=sizeLine/\∀p,H1 p=none->Q (.ref p) (upd H1 p (.lst xs))
theorem zud{x1}(h:PA X es t):PE X (.Tuple es x1 pos) (tTup t):=by
 intro pins s σ H Q I hq
 refine wpAny_Tuple_spliced (thn (h pos pins s σ H _ I hq) λus s1 z9=>z9.el λxs H1 I1 r ⟨z,q⟩=>⟨by rw[<-r.length];exact z,?_⟩)
 have hf:H1 s1.heap.objs.size=none:=I1.hok.fresh (vae _)
 refine⟨.ref s1.heap.objs.size,upd H1 s1.heap.objs.size (.tup xs),I1.laid (t':=s1.toks) (λb u e=>vac _ e) (vae _) ?_,rfl,q _ hf⟩
 exact⟨z,us,r,zby.new _ _⟩
theorem zue(h:PA X es t):PE X (.List es pos) (tLst t):=by
 intro pins s σ H Q I hq
 refine wpAny_List_spliced (thn (h pos pins s σ H _ I hq) λus s1 z9=>z9.el λxs H1 I1 r ⟨z,q⟩=>⟨by rw[<-r.length];exact z,?_⟩)
 have hf:H1 s1.heap.objs.size=none:=I1.hok.fresh (vae _)
 refine⟨.ref s1.heap.objs.size,upd H1 s1.heap.objs.size (.lst xs),I1.laid (t':=s1.toks) (λb u e=>vac _ e) (vae _) ?_,rfl,q _ hf⟩
 exact⟨z,us,0,r,va0 _ rfl⟩
end
noncomputable abbrev Sp:=List V->Hp->VK->XK->Prop
noncomputable abbrev CXT:=List Env->Hp->Shared->XK->Value->Shared->Prop
structure Env0(P:Program)(w:World)(K:PySem.W.Frag)(mg:Str->Option Value)(base:Heap)(A:Around)(outer:List Env)(s:Shared)(H:Hp):Prop where
 frames:A.frames=some outer
 mod:Mod K mg base
 bs:∀b o,base.get? b=some o->s.heap.get? b=some o/\H b=none
 bsz:base.objs.size<=s.heap.objs.size
 funs:s.heap.FunFrames base outer
 frf:∀b∈frs outer,H b=none
 hok:HOk P w H s.heap
 bare:AllBare s.gens
noncomputable def CE(outer:List Env)(P:Program)(w:World)(H:Hp)(s:Shared)(Q:VK)(u:Value)(s':Shared):Prop:=
 ∃v H',s'.os=s.os/\AllBare s'.gens/\Un (frs outer) [] H H' s.heap s'.heap/\HOk P w H' s'.heap/\RelV v u/\Q v H'
noncomputable def CR(CX:CXT)(outer:List Env)(P:Program)(w:World)(H:Hp)(s:Shared)(Q:VK)(E:XK)(r:Result)(s':Shared):Prop:=
 match r with
 |.ok (.ret u)=>CE outer P w H s Q u s'
 |.ok _=>False
 |.error e=>CX outer H s E e s'
structure FnOk(P:Program)(w:World)(K:PySem.W.Frag)(mg:Str->Option Value)(base:Heap)(CX:CXT)(k:Nat)(f:Addr)(fd:FuncData)(ps:List Str)(sp:Sp):Prop where
 len:∀vs H Q E,sp vs H Q E->vs.length=ps.length
 run:∀(A:Around)(outer:List Env)(s:Shared)(H:Hp)(args:Args)(us:List Value)(vs:List V)(Q:VK)(E:XK),Room k A->Env0 P w K mg base A outer s H->BindsTo s fd args (ps.zip us)->Vals vs us->sp vs H Q E->
  codeAny (model P w) A (.call (.ref f) args) (CR CX outer P w H s Q E) s
theorem Env0.make{P:Program}{w:World}{K:PySem.W.Frag}{mg:Str->Option Value}{base:Heap}{A:Around}{outer:List Env}{s:Shared}{H:Hp}(e:Env0 P w K mg base A outer s H)(C:Addr)(us:List Value)(kw:List (Str×Value)) :
 Env0 P w K mg base (A.under (.builtin "type.__call__" ⟨.ref C::us,kw⟩)) outer s H:=⟨by first|exact e.frames|(simpa[Around.under,Code.envs,Code.isFrame,pushEnvs]using e.frames),e.mod,e.bs,e.bsz,e.funs,e.frf,e.hok,e.bare⟩
section
variable{X:Cx}{pins:List (Addr×Obj)}{σ:St}{H:Hp}{s s':Shared}
theorem Inv.env0(I:Inv X pins σ H s):Env0 X.prog X.w X.K X.mg X.base X.A X.stack s H:=
 ⟨I.ok.frames,I.ok.mod,I.bs,Nat.le_trans I.ok.bsz I.sz,I.stack,I.stkFree,I.hok,I.bare⟩
theorem Inv.after{Q:VK}{u:Value}(I:Inv X pins σ H s)(h:CE X.stack X.prog X.w H s Q u s'):EP X pins σ Q u s':=by
 obtain⟨v,H',os,bare,un,hok,r,q⟩:=h
 obtain⟨hh,g,d,t,os'⟩:=s'
 obtain rfl:os'=s.os:=os
 exact⟨v,H',I.call (h':=hh) (g':=g) (d':=d) (t':=t) (ch:=[]) un hok bare (λb z=>absurd z (by simp)),r,q⟩
end
noncomputable def tCall(sp:Sp)(dvs:List V)(E:XK)(t:TA):TE:=λσ H Q=>t σ H λvs H1=>sp (vs++dvs) H1 Q E
noncomputable def tMeth(C:Addr)(m:Str)(sp:Sp)(dvs:List V)(E:XK)(ta:TE)(t:TA):TE:=λσ H Q=>ta σ H λx H1=>∃a dx fs,x=.ref a/\H1 a=some (.ins C dx fs)/\fs.lookup m=none/\
 t σ H1 λvs H2=>sp (x:: (vs++dvs)) H2 Q E
noncomputable def tMake(C:Addr)(sp:Sp)(dvs:List V)(E:XK)(t:TA):TE:=λσ H Q=>t σ H λvs H1=>∀x dx,H1 x=none->H1 dx=none->dx≠x->
 sp (.ref x:: (vs++dvs)) (upd (upd H1 dx (.own x)) x (.ins C dx [])) (λv H2=>v=.non/\Q (.ref x) H2) E
noncomputable def Binds(K:PySem.W.Frag)(fd:FuncData)(ps:List Str)(ds:List Value):Prop:=
 ∀(s:Shared)(us:List Value),K.In s.heap->(us++ds).length=ps.length->BindsTo s fd ⟨us,[]⟩ (ps.zip (us++ds))
theorem Binds.all{K:PySem.W.Frag}{fd:FuncData}{ps:List Str}(h:∀us:List Value,us.length=ps.length->bindArgs fd ⟨us,[]⟩=pure (ps.zip us)):Binds K fd ps []:=λs us _ hl=>by
 rw[List.append_nil]at hl ⊢
 exact .of_eq (h us hl)
noncomputable def zd9(CX:CXT)(X:Cx)(E:XK):Prop:=∀(pins:List (Addr×Obj)) (σ:St) (H:Hp) (s:Shared) (e:Value) (s':Shared),Inv X pins σ H s->CX X.stack H s E e s'->X.xe e s'
section
variable{X:Cx}{CX:CXT}{k:Nat}{f C:Addr}{fd:FuncData}{ps:List Str}{sp:Sp}{dvs:List V}{ds:List Value}{E:XK}{x m:Str}{p pos apos:Pos}{e o:Expr}{es:List Expr}{ta:TE}{t:TA}
theorem zlo{pins:List (Addr×Obj)}{σ:St}{H:Hp}{s:Shared}{Q:VK}{us:List Value}{vs:List V}(F:FnOk X.prog X.w X.K X.mg X.base CX k f fd ps sp)(hr:Room k X.A)(hb:Binds X.K fd ps ds)(hd:Vals dvs ds)(hx:zd9 CX X E)
 (I:Inv X pins σ H s) (r:Vals vs us) (h:sp (vs++dvs) H Q E):wpAny (model X.prog X.w) X.A (call (.ref f) us) (EP X pins σ Q) X.xe s:=by
 have r2:Vals (vs++dvs) (us++ds):=r.append hd
 have hl:(us++ds).length=ps.length:=by rw[<-r2.length];exact F.len _ _ _ _ h
 refine wpAny_call (codeAny_mono (F.run X.A X.stack s H ⟨us,[]⟩ (us++ds) (vs++dvs) Q E hr I.env0 (hb s us I.kIn hl) r2 h) λr s' hq=>?_)
 cases r with
 |error e=>exact hx pins σ H s e s' I hq
 |ok fl=>
  cases fl with
  |ret u=>exact I.after hq
  |next=>exact False.elim hq
  |brk=>exact False.elim hq
  |cont=>exact False.elim hq
theorem zlp(F:FnOk X.prog X.w X.K X.mg X.base CX k f fd ps sp)(hr:Room k X.A)(hg:Gl X x)(hm:X.mg x=some (.ref f))(hk:PySem.W.keepIn X.K (.ref f)=true)(hb:Binds X.K fd ps ds)(hd:Vals dvs ds)(hx:zd9 CX X E)
 (ha:PA X (e::es) t) (hdb:(x==("__debug__" : Str))=false:=by decide) (he:starEach (e::es) X.env=(false,eval e X.env)::starEach es X.env:=by rfl) (hpl:(backTo pos (starEach es X.env)).any (·.1)=false:=by rfl) :
 PE X (.Call (.Name x p) (e::es) [] pos) (tCall sp dvs E t):=by
 intro pins s σ H Q I h
 refine wpAny_Call_Name_kw (zf6 I hg hm ?_ hdb)
 refine PySem.W.callWith_K (h₀:=X.base) I.ok.mod.kin hk (thn (ha pos pins s σ H _ I h) λus s1 z9=>z9.el λvs H1 I1 r q=>⟨I1.kIn,?_⟩) he hpl
 exact zlo F hr hb hd hx I1 r q
theorem zn7(F:FnOk X.prog X.w X.K X.mg X.base CX k f fd ps sp)(hr:Room k X.A)(hg:Gl X x)(hm:X.mg x=some (.ref f))(hk:PySem.W.keepIn X.K (.ref f)=true)(hb:Binds X.K fd ps ds)(hd:Vals dvs ds)(hx:zd9 CX X E)
 (hdb:(x==("__debug__" : Str))=false:=by decide):PE X (.Call (.Name x p) [] [] pos) (tCall sp dvs E tNil):=by
 intro pins s σ H Q I h
 refine wpAny_Call_Name_kw (zf6 I hg hm ?_ hdb)
 exact PySem.W.callWith_K0 I.kIn hk (zlo (us:=[]) F hr hb hd hx I .nil h)
theorem zq5{pl:Sem Bool}(he:PE X o ta)(c:Cls X.K C)(hm:Meth X.K C m f)(F:FnOk X.prog X.w X.K X.mg X.base CX k f fd ps sp)(hr:Room k X.A)(hb:Binds X.K fd ps ds)(hd:Vals dvs ds)(hx:zd9 CX X E)(ha:PA X (e::es) t)
 (hst:starEach (e::es) X.env=(false,eval e X.env)::starEach es X.env:=by rfl) (hpl:(backTo pos (starEach es X.env)).any (·.1)=false:=by rfl)
 (ht:eval (.Call (.Attribute o m apos) (e::es) [] pos) X.env=(do
   let ov <-eval o X.env
   standAt apos.atName
   let (f,first) <-holding [ov] (getMethod ov m pl)
   callWith pos f first (backTo pos (starEach (e::es) X.env)) (backToKw pos (keywordEach [] X.env))):=by rfl) :
 PE X (.Call (.Attribute o m apos) (e::es) [] pos) (tMeth C m sp dvs E ta t):=by
 intro pins s σ H Q I h
 refine PySem.W.methodCall_KW (pl:=pl) (thn (he pins s σ H _ I h) λu s1 z9=>z9.el λx H1 I1 rx ⟨a,dx,fs,ex,ea,l,q⟩=>?_) ht
 subst ex
 obtain rfl:u=Value.ref a:=rx
 refine ze6 I1 ea c hm l ?_
 refine PySem.W.callWith_K (first:=[.ref a]) (h₀:=X.base) I.ok.mod.kin hm.kp (thn (ha pos pins s1 σ H1 _ I1 q) λus s2 z9=>z9.el λvs H2 I2 r q2=>⟨I2.kIn,?_⟩) hst hpl
 exact zlo (us:=.ref a::us) (vs:=.ref a::vs) F hr hb hd hx I2 (.cons rfl r) q2
structure Mk(K:PySem.W.Frag)(C f:Addr):Prop where
 makes:PySem.W.makesIn K C=true
 init:PySem.W.findIn K (.ref C) "__init__" = some (some (.ref f))
 fn:PySem.W.isFn K (.ref f)=true
 kp:PySem.W.keepIn K (.ref C)=true
theorem zn8{pins:List (Addr×Obj)}{σ:St}{H:Hp}{s:Shared}{Q:VK}{us:List Value}{vs:List V}(M:Mk X.K C f)(F:FnOk X.prog X.w X.K X.mg X.base CX k f fd ps sp)(hr:Room (k+1) X.A)(hb:Binds X.K fd ps ds)(hd:Vals dvs ds)
 (hx:zd9 CX X E) (I:Inv X pins σ H s) (r:Vals vs us)
 (h:∀x dx,H x=none->H dx=none->dx≠x->sp (.ref x:: (vs++dvs)) (upd (upd H dx (.own x)) x (.ins C dx [])) (λv H2=>v=.non/\Q (.ref x) H2) E) :
 wpAny (model X.prog X.w) X.A (call (.ref C) us) (EP X pins σ Q) X.xe s:=by
 have hq:=h (s.heap.objs.size+1) s.heap.objs.size (I.hok.fresh (Nat.le_succ _)) (I.hok.fresh (vae _)) (va4 (Nat.lt_succ_self _))
 have I2:=Inv.made (C:=C) I
 have r2:Vals (V.ref (s.heap.objs.size+1):: (vs++dvs)) (Value.ref (s.heap.objs.size+1):: (us++ds)):=.cons rfl (r.append hd)
 have hl:(Value.ref (s.heap.objs.size+1)::us++ds).length=ps.length:=by
  have e:=r2.length
  rw[F.len _ _ _ _ hq]at e
  exact e.symm
 refine wpAny_call (zn6 (f:=f) I.kIn M.makes M.init (beq_iff_eq.mp M.fn) (codeAny_mono (F.run _ X.stack _ _ ⟨Value.ref (s.heap.objs.size+1)::us,[]⟩ (Value.ref (s.heap.objs.size+1):: (us++ds)) _ _ E (hr.make C us [])
  (I2.env0.make C us []) (hb _ (Value.ref (s.heap.objs.size+1)::us) I2.kIn hl) r2 hq) λr s' hq'=>?_))
 cases r with
 |error e=>exact hx pins σ _ _ e s' I2 hq'
 |ok fl=>
  cases fl with
  |ret u=>
   obtain⟨v,H',I3,rv,ev,q3⟩:=I2.after hq'
   subst ev
   exact⟨rv,⟨V.ref (s.heap.objs.size+1),H',I3,rfl,q3⟩⟩
  |next=>exact False.elim hq'
  |brk=>exact False.elim hq'
  |cont=>exact False.elim hq'
theorem zlq(M:Mk X.K C f)(F:FnOk X.prog X.w X.K X.mg X.base CX k f fd ps sp)(hr:Room (k+1) X.A)(hg:Gl X x)(hm:X.mg x=some (.ref C))(hb:Binds X.K fd ps ds)(hd:Vals dvs ds)(hx:zd9 CX X E)
 (ha:PA X (e::es) t) (hdb:(x==("__debug__" : Str))=false:=by decide) (he:starEach (e::es) X.env=(false,eval e X.env)::starEach es X.env:=by rfl) (hpl:(backTo pos (starEach es X.env)).any (·.1)=false:=by rfl) :
 PE X (.Call (.Name x p) (e::es) [] pos) (tMake C sp dvs E t):=by
 intro pins s σ H Q I h
 refine wpAny_Call_Name_kw (zf6 I hg hm ?_ hdb)
 refine PySem.W.callWith_K (h₀:=X.base) I.ok.mod.kin M.kp (thn (ha pos pins s σ H _ I h) λus s1 z9=>z9.el λvs H1 I1 r q=>⟨I1.kIn,?_⟩) he hpl
 exact zn8 M F hr hb hd hx I1 r q
end
structure FnScope(N P:List Str)(sc:Scope):Prop where
 kind:sc.kind=.function
 co:sc.isCoroutine=false
 gen:sc.isGenerator=false
 nd:N.Nodup
 pre:N.take P.length=P
 par:∀x∈P,sc.names.lookup x=some .local\/sc.names.lookup x=some .cell
 nofree:∀y∈sc.names,y.2≠.free
theorem zg5{kindOf:Str->Option NameKind}{x:Str}:∀{binds:List (Str×Value)} {m:Str->Option Value},(∀v,(x,v)∉binds)->bindL kindOf binds m x=m x
 |[],_,_=>rfl
 |(n,v)::r,m,h=>by
  unfold bindL
  rw[zg5 λw hw=>h w (vad _ hw)]
  split
  .have:x≠n:=by rintro rfl;exact h v vag
   simp[this]
  .rfl
theorem zg6{kindOf:Str->Option NameKind}{x:Str}:∀{binds:List (Str×Value)} {m:Str->Option Value},(∀v,(x,v)∉binds)->bindC kindOf binds m x=m x
 |[],_,_=>rfl
 |(n,v)::r,m,h=>by
  unfold bindC
  rw[zg6 λw hw=>h w (vad _ hw)]
  split
  .rfl
  .have:x≠n:=by rintro rfl;exact h v vag
   simp[this]
theorem zg7{kindOf:Str->Option NameKind}{x:Str}{v:Value}:∀{P:List Str} {vs:List Value} {i:Nat} {m:Str->Option Value},P.Nodup->P[i]?=some x->vs[i]?=some v->kindOf x=some .local->
 bindL kindOf (P.zip vs) m x=some v
 |[],_,_,_,_,h,_,_=>by simp at h
 |_::_,[],_,_,_,_,h,_=>by simp at h
 |p::P,w::vs,0,m,nd,h1,h2,hk=>by
  simp at h1 h2;subst h1;subst h2
  show bindL kindOf ((p,w)::P.zip vs) m p=_
  unfold bindL
  rw[zg5 λv hv=>(List.nodup_cons.mp nd).1 (List.of_mem_zip hv).1,if_pos hk]
  simp
 |p::P,w::vs,i+1,m,nd,h1,h2,hk=>by
  show bindL kindOf ((p,w)::P.zip vs) m x=_
  unfold bindL
  exact zg7 (i:=i) (List.nodup_cons.mp nd).2 (by simpa using h1) (by simpa using h2) hk
theorem zg8{kindOf:Str->Option NameKind}{x:Str}{v:Value}:∀{P:List Str} {vs:List Value} {i:Nat} {m:Str->Option Value},P.Nodup->P[i]?=some x->vs[i]?=some v->kindOf x≠some .local->
 bindC kindOf (P.zip vs) m x=some v
 |[],_,_,_,_,h,_,_=>by simp at h
 |_::_,[],_,_,_,_,h,_=>by simp at h
 |p::P,w::vs,0,m,nd,h1,h2,hk=>by
  simp at h1 h2;subst h1;subst h2
  show bindC kindOf ((p,w)::P.zip vs) m p=_
  unfold bindC
  rw[zg6 λv hv=>(List.nodup_cons.mp nd).1 (List.of_mem_zip hv).1,if_neg hk]
  simp
 |p::P,w::vs,i+1,m,nd,h1,h2,hk=>by
  show bindC kindOf ((p,w)::P.zip vs) m x=_
  unfold bindC
  exact zg8 (i:=i) (List.nodup_cons.mp nd).2 (by simpa using h1) (by simpa using h2) hk
noncomputable def start(N:List Str)(vs:List V):St:=vs.map some++List.replicate (N.length-vs.length) none
noncomputable def cxOf(CX:CXT)(P:Program)(w:World)(K:PySem.W.Frag)(mg:Str->Option Value)(base:Heap)(N:List Str)(qual:Str)(scope:Scope)(f:Addr)(cd:Value)(A:Around)(outer:List Env)(s:Shared)(H:Hp)(E:XK):Cx where
 prog:=P
 w:=w
 K:=K
 mg:=mg
 base:=base
 A:=A.deeper (envOfC qual scope s.heap.objs.size f cd)
 N:=N
 s₀:=s
 H₀:=H
 env:=envOfC qual scope s.heap.objs.size f cd
 outer:=outer
 stack:=envOfC qual scope s.heap.objs.size f cd::outer
 ex:=[]
 calm:=true
 fn:=λ_=>true
 pn:=[]
 xe:=λe s'=>wpAny (model P w) (A.deeper (envOfC qual scope s.heap.objs.size f cd)) (leaving (envOfC qual scope s.heap.objs.size f cd) e) (λ_ s''=>CX outer H s E e s'') (λe' s''=>CX outer H s E e' s'') s'
theorem zja{sc:Scope}{n:Nat}{x:Str}(h:sc.names.lookup x=some .cell):∃c,(cellsFrom n sc.names []).lookup x=some c:=by
 have q:=PySem.W.cellsFrom_some sc.names n [] (.inl h)
 exact Option.isSome_iff_exists.mp q
theorem zlr{CX:CXT}{P:Program}{w:World}{K:PySem.W.Frag}{mg:Str->Option Value}{base:Heap}{N ps:List Str}{qual:Str}{scope:Scope}{f:Addr}{cd:Value}{A:Around}{outer:List Env}{s s1:Shared}{H:Hp}{E:XK}{us:List Value}{vs:List V}
 (S:FnScope N ps scope) (hd:A.handled=none) (e0:Env0 P w K mg base A outer s H) (hl:vs.length=ps.length) (r:Vals vs us)
 (x:InCallC s s.heap.objs.size (bindL (envOfC qual scope s.heap.objs.size f cd).kindOf (ps.zip us) λ_=>none) (cellsFrom (s.heap.objs.size+1) scope.names []) (bindC (envOfC qual scope s.heap.objs.size f cd).kindOf (ps.zip us) λ_=>none) s1) :
 Inv (cxOf CX P w K mg base N qual scope f cd A outer s H E) [] (start N vs) H s1:=by
 have hpl:ps.length<=N.length:=by have:=congrArg List.length S.pre;rw[List.length_take]at this;omega
 obtain⟨h1,tk,rfl,hk⟩:=x.done
 have noA:∀b:Addr,b∉(cxOf CX P w K mg base N qual scope f cd A outer s H E).ex:=λb z=>absurd (show b∈([]:List Addr)from z) (by simp)
 refine⟨⟨e0.mod,S.kind,rfl,rfl,vae _,λy z c h1 h2=>?_,λy hy=>?_,λy c _ h=>?_,λ_=>hd,Around.frames_deeper e0.frames,.inr ⟨rfl,rfl⟩,λb z=>absurd z (noA b),e0.bs,e0.bsz,λb _ _=>noA b,λb z=>absurd z (noA b),e0.funs,e0.frf⟩,
  rfl,e0.bare,Un.kept hk,⟨_,x.toInCall.ns,λi y v h1 h2 h3=>?_⟩,λy c h=>⟨_,x.cell y c h⟩,e0.hok.fresh (vae _),λy c h=>?_,λp hp=>absurd (show p∈([]:List (Addr×Obj))from hp) (by simp),e0.hok.kept hk,?_⟩
 .exact name_of_addr x.apart (PySem.mem_of_lookup h1) (PySem.mem_of_lookup h2)
 .have hy:scope.names.lookup y=some .cell\/scope.names.lookup y=some .free:=hy
  rcases hy with hy|hy
  .exact zja hy
  .exact absurd rfl (S.nofree _ (PySem.mem_of_lookup hy))
 .exact Nat.le_of_lt (x.above y c (PySem.mem_of_lookup h))
 .have hi:i<vs.length:=by
   unfold start at h2
   by_cases hi:i<vs.length
   .exact hi
   .rw[List.getElem?_append_right (by simpa using hi)]at h2
    rw[List.getElem?_replicate]at h2
    split at h2<;>cases h2
  have ha:vs[i]?=some v:=by
   unfold start at h2
   rw[List.getElem?_append_left (by simpa using hi),List.getElem?_map]at h2
   cases e:vs[i]? with
   |none=>rw[e]at h2;cases h2
   |some a=>rw[e]at h2;cases h2;rfl
  obtain⟨u,hu,rv⟩:=r.get ha
  have hp:ps[i]?=some y:=by
   rw[<-S.pre,List.getElem?_take_of_lt (by omega)];exact h1
  have ndP:ps.Nodup:=by rw[<-S.pre];exact S.nd.sublist (List.take_sublist _ _)
  refine⟨u,rv,?_⟩
  rcases S.par y (List.mem_of_getElem? hp)with k|k
  .exact .inl ⟨k,zg7 ndP hp hu k⟩
  .obtain⟨c,e⟩:=zja (n:=s.heap.objs.size+1) k
   refine .inr ⟨.inl k,c,e,?_⟩
   have q:=x.cell y c e
   rw[zg8 ndP hp hu (by show scope.names.lookup y≠_;rw[k];decide)]at q
   exact q
 .exact e0.hok.fresh (Nat.le_of_lt (x.above y c (PySem.mem_of_lookup h)))
 .unfold start
  show _=N.length
  rw[vao,vaf,List.length_replicate]
  omega
theorem fn_of{CX:CXT}{P:Program}{w:World}{K:PySem.W.Frag}{mg:Str->Option Value}{base:Heap}{k:Nat}{f:Addr}{name qual:Str}{params:Arguments}{body:List Stmt}{scope:Scope}{dV kV doc pm cdv ct oc:Value}{an od:Option Addr}
 {osl:Array (Option Value)} {N ps:List Str} {sp:Sp} (lk:K.lookup f=some ⟨oc,od,.func (PySem.W.fnOf name qual params body scope dV kV doc pm an cdv ct),osl⟩) (hcd:PySem.W.codeIn K cdv qual=true) (S:FnScope N ps scope)
 (len:∀vs H Q E,sp vs H Q E->vs.length=ps.length)
 (hbody:∀(A:Around)(outer:List Env)(s:Shared)(H:Hp)(vs:List V)(Q:VK)(E:XK),Room k (A.deeper (envOfC qual scope s.heap.objs.size f cdv))->sp vs H Q E->
   ∃t,PSs (cxOf CX P w K mg base N qual scope f cdv A outer s H E) body t/\t {nx:=λ_ H'=>Q .non H',rt:=Q} (start N vs) H) :
 FnOk P w K mg base CX (k+1) f (PySem.W.fnOf name qual params body scope dV kV doc pm an cdv ct) ps sp:=by
 refine⟨len,λA outer s H args us vs Q E hr e0 hb r hsp=>?_⟩
 have hl:=len _ _ _ _ hsp
 have KX:K.In s.heap:=e0.mod.kin.keeps λb o e=>(e0.bs b o e).1
 have lim:s.heap.NoLimit:=e0.mod.nolimit.keeps λb o e=>(e0.bs b o e).1
 have hkind:∀y∈ps.zip us,scope.names.lookup y.1=some .local\/(scope.names.lookup y.1=some .cell/\((cellsFrom (s.heap.objs.size+1) scope.names []).lookup y.1).isSome=true):=λhq0 hy=>by
  obtain⟨n,v⟩:=hq0
  rcases S.par n (List.of_mem_zip hy).1 with q|q
  .exact .inl q
  .exact .inr ⟨q,PySem.W.cellsFrom_some _ _ _ (.inl q)⟩
 refine codeAny_call_function hr.depth (KX _ _ lk) rfl S.co S.gen rfl (PySem.W.codeRec_of KX hcd) (hb _ _ _ _ ?_)
 refine wpAny_newFunctionEnv_cells S.kind hkind λenv he s1 x=>?_
 subst he
 refine⟨lim.keeps x.toInCall.keep,codeAny_func ?_⟩
 obtain⟨t,ht,hq⟩:=hbody A outer s H vs Q E (hr.deeper _) hsp
 have I:Inv (cxOf CX P w K mg base N qual scope f cdv A outer s H E) [] (start N vs) H s1:=zlr S hr.hd e0 hl r x
 refine wpAny_mono (ht [] s1 (start N vs) H _ I hq) (λfl s' hs=>?_) λe s' hs=>hs
 have fin:∀{σ':St}{H':Hp}{v:V}{u:Value},Inv (cxOf CX P w K mg base N qual scope f cdv A outer s H E) [] σ' H' s'->RelV v u->Q v H'->CE outer P w H s Q u s':=
  λ{σ' H' v u} J rv q=>⟨v,H',J.os,J.bare,J.base,J.hok,rv,q⟩
 cases fl with
 |ret u=>
  obtain⟨v,σ',H',J,rv,q⟩:=hs
  exact fin J rv q
 |next=>
  obtain⟨σ',H',J,q⟩:=hs
  exact fin (v:=V.non) (u:=Value.none) J rfl q
 |brk=>
  obtain⟨_,_,_,q⟩:=hs
  exact False.elim q
 |cont=>
  obtain⟨_,_,_,q⟩:=hs
  exact False.elim q
section
variable{X:Cx}{x:Str}{p pos:Pos}{e:Expr}{es:List Expr}{t:TA}{id T:String}{r:List V->Hp->VK->Prop}
noncomputable def tCB(r:List V->Hp->VK->Prop)(t:TA):TE:=λσ H Q=>t σ H λvs H1=>r vs H1 Q
theorem zjb(hc:CallR X (.builtin id) r)(hg:Gl X x)(hm:X.mg x=none)(hv:bootBuiltins x=some (.builtin id))(ha:PA X (e::es) t)(hn:x≠"__name__":=by decide)(hdb:(x==("__debug__" : Str))=false:=by decide)
 (he:starEach (e::es) X.env=(false,eval e X.env)::starEach es X.env:=by rfl) (hpl:(backTo pos (starEach es X.env)).any (·.1)=false:=by rfl):PE X (.Call (.Name x p) (e::es) [] pos) (tCB r t):=by
 intro pins s σ H Q I h
 refine wpAny_Call_Name_kw (zcq I hg hm hv ?_ hn hdb)
 exact PyProof.Rows.callWith_builtin1 (thn (ha pos pins s σ H _ I h) λus s1 z9=>z9.el λvs H1 I1 r1 q1=>hc pins s1 σ H1 vs us Q I1 r1 q1) he hpl
theorem zls(hc:CallR X (.type T) r)(hg:Gl X x)(hm:X.mg x=none)(hv:bootBuiltins x=some (.type T))(ha:PA X (e::es) t)(hn:x≠"__name__":=by decide)(hdb:(x==("__debug__" : Str))=false:=by decide)
 (he:starEach (e::es) X.env=(false,eval e X.env)::starEach es X.env:=by rfl) (hpl:(backTo pos (starEach es X.env)).any (·.1)=false:=by rfl):PE X (.Call (.Name x p) (e::es) [] pos) (tCB r t):=by
 intro pins s σ H Q I h
 refine wpAny_Call_Name_kw (zcq I hg hm hv ?_ hn hdb)
 exact PyProof.Rows.callWith_type1 (thn (ha pos pins s σ H _ I h) λus s1 z9=>z9.el λvs H1 I1 r1 q1=>hc pins s1 σ H1 vs us Q I1 r1 q1) he hpl
end
end L2
namespace HT
open PySem PyProof.Rows
section
variable{prog:Program}{w:World}{A:Around}{E:Value->Shared->Prop}{s:Shared}
theorem cat_tup{t b:Addr}{vs ws:List Value}{Q:Value->Shared->Prop}(ht:IsTup s.heap t vs.toArray)(hb:IsTup s.heap b ws.toArray)(hv:vs≠[])
 (h1:ws=[]->Q (.ref t) s) (h2:ws≠[]->Q (.ref s.heap.objs.size) {s with heap:=s.heap.push {cls:=.type "tuple",data:=.seq (vs++ws).toArray}})
 (hsz:vs.length+ws.length<=sizeLine):wpAny (model prog w) A (binaryOp .Add (.ref t) (.ref b)) Q E s:=by
 obtain⟨⟨cls,dd,data,sl⟩,ho,hc,n,hd⟩:=id ht
 obtain⟨⟨cls2,dd2,data2,sl2⟩,ho2,hc2,n2,hd2⟩:=id hb
 simp only at hc hd hc2 hd2
 subst hc hd hc2 hd2
 have e:vs.toArray++ws.toArray=(vs++ws).toArray:=by simp
 by_cases hw:ws=[]
 .exact concat_meets ⟨_,ho,rfl⟩ ⟨_,ho2,rfl⟩ noFill_tuple_add seq_tuple_add PySem.F.slot_tuple_add PySem.F.entry_tuple_add (PySem.F.args_tuple_add_2 _ _)
   (tuple_addW1 t b vs.toArray ws.toArray n n2 dd dd2 sl sl2 (by simpa using hv) (by simp[hw])) ⟨ho,ho2,h1 hw⟩
 .refine concat_meets ⟨_,ho,rfl⟩ ⟨_,ho2,rfl⟩ noFill_tuple_add seq_tuple_add PySem.F.slot_tuple_add PySem.F.entry_tuple_add (PySem.F.args_tuple_add_2 _ _)
   (tuple_addW2 t b vs.toArray ws.toArray n n2 dd dd2 sl sl2 (by simpa using hv) (by simpa using hw) (by rw[van,van];exact hsz)) ⟨ho,ho2,?_⟩
  rw[e]
  exact h2 hw
noncomputable def sIx(n d:Nat):Option Int->Nat
 |none=>d
 |some v=>if v<0 then(v+ (n:Int)).toNat else min v.toNat n
theorem sIx_nat(n d k:Nat):sIx n d (some (k:Int))=min k n:=by
 show(if(k:Int)<0 then((k:Int)+ (n:Int)).toNat else min (k:Int).toNat n)=min k n
 rw[if_neg (by omega),Int.toNat_natCast]
theorem zuf(n d:Nat)(hd:d<=n)(o:Option Int):sIx n d o<=n:=by
 cases o with
 |none=>exact hd
 |some v=>
  show(if v<0 then(v+ (n:Int)).toNat else min v.toNat n)<=n
  by_cases hv:v<0
  .rw[if_pos hv];omega
  .rw[if_neg hv];exact Nat.min_le_right _ _
theorem zlu(v:Int)(n d:Nat):(if v<0 then max (v+ (n:Int)) 0 else min v (n:Int))=((sIx n d (some v):Nat):Int):=by
 show(if v<0 then max (v+ (n:Int)) 0 else min v (n:Int))=(((if v<0 then(v+ (n:Int)).toNat else min v.toNat n):Nat):Int)
 by_cases hv:v<0
 .simp only[if_pos hv];omega
 .simp only[if_neg hv];omega
theorem zkq(lo hi:Option Int)(n:Nat):Builtin.Slice.sliceAdjust lo hi 1 (n:Int)=(((sIx n 0 lo:Nat):Int),((sIx n n hi:Nat):Int)):=by
 have h1:¬((1:Int)<0):=by omega
 unfold Builtin.Slice.sliceAdjust
 simp only[h1,if_false]
 refine Prod.ext ?_ ?_
 .cases lo with
  |none=>rfl
  |some v=>exact zlu v n 0
 .cases hi with
  |none=>rfl
  |some v=>exact zlu v n n
theorem zkr(i j:Nat):Builtin.Slice.slicePlaces (i:Int) (j:Int) 1=j-i:=by
 unfold Builtin.Slice.slicePlaces
 have h1:(1:Int)>0:=by omega
 simp only[h1,if_true,Int.ediv_one]
 split<;>omega
theorem ze7{v:Value}{o:Option Int}{Q:Option Int->Shared->Prop}(p:IsPart v o)(h:Q o s):wpAny (model prog w) A (Builtin.Slice.slicePartIndex v) Q E s:=by
 cases p with
 |none=>exact slicePart_none h
 |int i t=>exact slicePart_int h
theorem zbz{sl:Addr}{vl vu:Value}{lo hi:Option Int}{n:Nat}{Q:Int×Int×Nat->Shared->Prop}(hs:s.heap.IsSliceOf sl vl vu .none)(pl:IsPart vl lo)(pu:IsPart vu hi)
 (h:Q (((sIx n 0 lo:Nat):Int),1,sIx n n hi-sIx n 0 lo) s):wpAny (model prog w) A (Builtin.Slice.sliceApplied (.ref sl) (pure (n:Int))) Q E s:=by
 obtain⟨os,hos,hcs,hds⟩:=id hs
 unfold Builtin.Slice.sliceApplied Builtin.Slice.sliceFields
 refine vaa (vaa (wpAny_field hos hds (x:=vl) rfl (vaa (wpAny_field hos hds (x:=vu) rfl (vaa (wpAny_field hos hds (x:=.none) rfl (vaj ?_)))))))
 refine vaa (slicePart_none ?_)
 show wpAny _ _ (if((1:Int)==0)=true then _ else _) _ _ s
 rw[if_neg (by decide)]
 refine vaa (ze7 pl (vaa (ze7 pu (vaa (vaj ?_)))))
 show wpAny _ _ (match Builtin.Slice.sliceAdjust lo hi 1 (n:Int)with|(lo,hi)=>pure (lo,(1:Int),Builtin.Slice.slicePlaces lo hi 1)) _ _ s
 rw[zkq lo hi n]
 show wpAny _ _ (pure (((sIx n 0 lo:Nat):Int),(1:Int),Builtin.Slice.slicePlaces ((sIx n 0 lo:Nat):Int) ((sIx n n hi:Nat):Int) 1)) _ _ s
 rw[zkr]
 exact vaj h
theorem zn9(xs:Array Value)(i k:Nat):((List.range k).filterMap λ(m:Nat)=>xs[((i:Int)+ (m:Int)*1).toNat]?).toArray=((xs.toList.drop i).take k).toArray:=by
 have e:(λ(m:Nat)=>xs[((i:Int)+ (m:Int)*1).toNat]?)=λm=>xs[i+m]?:=by
  funext m
  have:((i:Int)+ (m:Int)*1).toNat=i+m:=by omega
  rw[this]
 rw[e]
 have:=pick_run xs i k
 rw[List.filterMap_map]at this
 have e2:((λx=>xs[x]?)∘λx=>i+x)=λm=>xs[i+m]?:=rfl
 rw[e2]at this
 rw[this]
theorem getItem_tuple_cut{t sl:Addr}{items:Array Value}{vl vu:Value}{lo hi:Option Int}{Q:Value->Shared->Prop}(ht:IsTup s.heap t items)(hs:s.heap.IsSliceOf sl vl vu .none)(pl:IsPart vl lo)(pu:IsPart vu hi)
 (hw:¬(sIx items.size 0 lo=0/\sIx items.size items.size hi=items.size))
 (h:Q (.ref s.heap.objs.size) {s with heap:=s.heap.push {cls:=.type "tuple",data:=.seq ((items.toList.drop (sIx items.size 0 lo)).take (sIx items.size items.size hi-sIx items.size 0 lo)).toArray}})
 (hsz:items.size<=sizeLine):wpAny (model prog w) A (getItem (.ref t) (.ref sl)) Q E s:=by
 have htake:sizeOk (.seq ((items.toList.drop (sIx items.size 0 lo)).take (sIx items.size items.size hi-sIx items.size 0 lo)).toArray):=by
  show((items.toList.drop (sIx items.size 0 lo)).take (sIx items.size items.size hi-sIx items.size 0 lo)).toArray.size<=sizeLine
  rw[van,List.length_take,List.length_drop,Array.length_toList]
  omega
 have hj:sIx items.size items.size hi<=items.size:=zuf _ _ (vae _) hi
 obtain⟨os,hos,hcs,hds⟩:=id hs
 have hTs:s.TypeIs (.ref sl) "slice":=⟨os,hos,hcs⟩
 unfold getItem
 try with_reducible refine wpAny_holding ?_
 first|refine vaa (vaj ?_)|skip
 refine vaa (wpAny_sequenceKey ht.typeIs (by decide) ?_)
 refine vaa (wpAny_callSpecial?_slot (name:=Str.ofString "__getitem__") ht.typeIs PyProof.Rows.slot_tuple_getitem
  (wpAny_call_entry PyProof.Rows.slot_tuple_getitem ht.typeIs entry_tuple_getitem ?_ (args_tuple_getitem _ _)))
 show wpAny _ _ (Builtin.Tuple.tupleItemsOf (.ref t) >>= _) _ _ s
 refine vaa (tupleItemsOf_ ht ?_)
 refine vaa (wpAny_typeOf hTs ?_)
 rw[if_pos (by decide)]
 refine vaa (zbz hs pl pu ?_)
 have hno:¬((((sIx items.size 0 lo:Nat):Int)==0&& (1:Int)==1&& (sIx items.size items.size hi-sIx items.size 0 lo)==items.size)=true):=by
  intro q
  rw[vab,vab]at q
  have q1:((sIx items.size 0 lo:Nat):Int)=0:=eq_of_beq q.1.1
  have q2:sIx items.size items.size hi-sIx items.size 0 lo=items.size:=eq_of_beq q.2
  exact hw ⟨by omega,by omega⟩
 show wpAny _ _ (if(((sIx items.size 0 lo:Nat):Int)==0&& (1:Int)==1&& (sIx items.size items.size hi-sIx items.size 0 lo)==items.size)=true then _ else _) _ _ s
 rw[if_neg hno,zn9]
 first
  |exact vaa (m:=Builtin.Tuple.tupleExact _) (wpAny_newObj_type (vaj ⟨_,rfl,vaj h⟩) htake)
  |exact vaa (m:=Builtin.Tuple.tupleExact _) (wpAny_newObj_type (vaa (vaj (vaj ⟨_,rfl,vaj h⟩))) htake)
  |exact vaa (vaa (m:=Builtin.Tuple.tupleExact _) (wpAny_newObj_type (vaj (vaj ⟨_,rfl,vaj h⟩)) htake))
  |exact vaa (vaa (m:=Builtin.Tuple.tupleExact _) (wpAny_newObj_type (vaj ⟨_,rfl,vaj h⟩) htake))
end
end HT
namespace L2
open PySem PySem.Spec PyProof.Rows
noncomputable abbrev TO:=St->Hp->(Option Int->Hp->Prop)->Prop
noncomputable def PO(X:Cx)(e:Option Expr)(t:TO):Prop:=
 ∀(pins:List (Addr×Obj))(s:Shared)(σ:St)(H:Hp)(Q:Option Int->Hp->Prop),Inv X pins σ H s->t σ H Q->
  wpAny (model X.prog X.w) X.A (evalPart e X.env) (λu s'=>∃o H',Inv X pins σ H' s'/\IsPart u o/\Q o H') X.xe s
noncomputable def zq6:TO:=λ_ H Q=>Q none H
noncomputable def tPart(t:TE):TO:=λσ H Q=>t σ H λx H1=>∃i,x=.int i/\Q (some i) H1
section
variable{X:Cx}{e:Expr}{te:TE}{lo hi:Option Expr}{tl th:TO}{pos p2:Pos}
theorem zq7:PO X none zq6:=by
 intro pins s σ H Q I h
 rw[evalPart_none]
 exact vaj ⟨none,H,I,.none,h⟩
theorem zq8(h:PE X e te):PO X (some e) (tPart te):=by
 intro pins s σ H Q I hw
 rw[evalPart_some]
 refine thn (h pins s σ H _ I hw) λu s1 z9=>z9.el λx H1 I1 r1 q1=>?_
 obtain⟨i,rfl,q⟩:=q1
 obtain⟨t,rfl⟩:=r1
 exact⟨some i,H1,I1,.int i t,q⟩
noncomputable def SlR(X:Cx)(r:V->Option Int->Option Int->Hp->VK->Prop):Prop:=
 ∀(pins:List (Addr×Obj))(s:Shared)(σ:St)(H:Hp)(x:V)(v vl vu:Value)(lo hi:Option Int)(sl:Addr)(Q:VK),Inv X pins σ H s->RelV x v->s.heap.IsSliceOf sl vl vu .none->IsPart vl lo->IsPart vu hi->r x lo hi H Q->
  ∃T id,typeLookup (.type T) "__getitem__" = pure (some (.builtin id))/\s.TypeIs v T/\wpAny (model X.prog X.w) X.A (getItem v (.ref sl)) (EP X pins σ Q) X.xe s
theorem SlR.or{r r':V->Option Int->Option Int->Hp->VK->Prop}(h:SlR X r)(h':SlR X r'):SlR X (λx lo hi H Q=>r x lo hi H Q\/r' x lo hi H Q):=by
 intro pins s σ H x v vl vu lo hi sl Q I rx hs pl pu q
 rcases q with q|q
 .exact h pins s σ H x v vl vu lo hi sl Q I rx hs pl pu q
 .exact h' pins s σ H x v vl vu lo hi sl Q I rx hs pl pu q
noncomputable def tSl(r:V->Option Int->Option Int->Hp->VK->Prop)(te:TE)(tl th:TO):TE:=λσ H Q=>te σ H λx H1=>tl σ H1 λl H2=>th σ H2 λu H3=>r x l u H3 Q
theorem zoa{r:V->Option Int->Option Int->Hp->VK->Prop}(hr:SlR X r)(he:PE X e te)(hl:PO X lo tl)(hu:PO X hi th):PE X (.Subscript e (.Slice lo hi none p2) pos) (tSl r te tl th):=by
 intro pins s σ H Q I h
 refine Subscript_ (thn (he pins s σ H _ I h) λv s1 z9=>z9.el λx H1 I1 r1 q1=>?_)
 refine wpAny_Slice (thn (hl pins s1 σ H1 _ I1 q1) λvl s2 ⟨l,H2,I2,pl,q2⟩=>thn (hu pins s2 σ H2 _ I2 q2) λvu s3 hq0=>?_)
 obtain⟨u,H3,I3,pu,q3⟩:=hq0
 rw[evalPart_none]
 refine vaj ?_
 have I4:Inv X pins σ H3 {s3 with heap:=s3.heap.push {cls:=.type "slice",data:=.fields #[vl,vu,.none]}}:=I3.kept (t':=s3.toks) λb ob q=>vac _ q
 obtain⟨T,id,hT,ht,hg⟩:=hr pins {s3 with heap:=s3.heap.push {cls:=.type "slice",data:=.fields #[vl,vu,.none]}} σ H3 x v vl vu l u s3.heap.objs.size Q I4 r1 (Heap.IsSliceOf.new ..) pl pu q3
 show wpAny (model X.prog X.w) X.A (subscriptTail e (.Slice lo hi none p2) v (.ref s3.heap.objs.size)) (EP X pins σ Q) X.xe {s3 with heap:=s3.heap.push {cls:=.type "slice",data:=.fields #[vl,vu,.none]}}
 exact tail_any (ops:=[.ref s3.heap.objs.size,v]) ht hT hg (by with_unfolding_all rfl)
noncomputable def cutV(xs:List V)(lo hi:Option Int):List V:=(xs.drop (HT.sIx xs.length 0 lo)).take (HT.sIx xs.length xs.length hi-HT.sIx xs.length 0 lo)
theorem zea(xs:List V)(lo hi:Option Int):(cutV xs lo hi).length<=xs.length:=by
 unfold cutV
 rw[List.length_take,List.length_drop]
 omega
noncomputable def rSlT(K:PySem.W.Frag):V->Option Int->Option Int->Hp->VK->Prop:=λx lo hi H Q=>∃a xs,x=.ref a/\SqT K H a xs/\
 ¬(HT.sIx xs.length 0 lo=0/\HT.sIx xs.length xs.length hi=xs.length)/\∀p,H p=none->Q (.ref p) (upd H p (.tup (cutV xs lo hi)))
theorem zug:SlR X (rSlT X.K):=by
 intro pins s σ H x v vl vu lo hi sl Q I rx hs pl pu h
 obtain⟨a,xs,rfl,hx,hw,q⟩:=h
 cases rx
 obtain⟨its,r,ht,hz⟩:=I.tuple hx
 have hlen:its.toArray.size=xs.length:=by rw[van];exact r.length.symm
 refine⟨"tuple",_,PyProof.Rows.slot_tuple_getitem.lookup,ht.typeIs,?_⟩
 refine HT.getItem_tuple_cut ht hs pl pu (by rw[hlen];exact hw) ?_ (by rw[hlen];exact hz)
 rw[hlen]
 refine⟨.ref s.heap.objs.size,_,I.laid (t':=s.toks) (o:=.tup (cutV xs lo hi)) (λb ob q=>vac _ q) (vae _) ?_,rfl,q _ (I.hok.fresh (vae _))⟩
 exact⟨Nat.le_trans (zea xs lo hi) hz,_,(r.drop (HT.sIx xs.length 0 lo)).take (HT.sIx xs.length xs.length hi-HT.sIx xs.length 0 lo),zby.new _ _⟩
noncomputable def rCatT(K:PySem.W.Frag):R2:=λx y H Q=>∃a b xs ys,x=.ref a/\y=.ref b/\SqT K H a xs/\SqT K H b ys/\xs≠[]/\xs.length+ys.length<=sizeLine/\
 (ys=[]->Q (.ref a) H)/\(ys≠[]->∀p,H p=none->Q (.ref p) (upd H p (.tup (xs++ys))))
theorem Vals.nil_iff{xs:List V}{us:List Value}(r:Vals xs us):us=[]↔xs=[]:=by
 cases r with
 |nil=>simp
 |cons _ _=>simp
theorem zq9:OpR X (binaryOp .Add) (rCatT X.K):=by
 intro pins s σ H x y v u Q I rx ry h
 obtain⟨a,b,xs,ys,rfl,rfl,ha,hb,hx,hz,q1,q2⟩:=h
 cases rx
 cases ry
 obtain⟨its,r1,p1,_⟩:=I.tuple ha
 obtain⟨its2,r2,p2,_⟩:=I.tuple hb
 refine HT.cat_tup p1 p2 (λz=>hx (r1.nil_iff.mp z)) (λz=>⟨.ref a,H,I,rfl,q1 (r2.nil_iff.mp z)⟩) (λz=>?_) (by rw[<-r1.length,<-r2.length];exact hz)
 refine⟨.ref s.heap.objs.size,_,I.laid (t':=s.toks) (o:=.tup (xs++ys)) (λb ob q=>vac _ q) (vae _) ?_,rfl,q2 (λw=>z (r2.nil_iff.mpr w)) _ (I.hok.fresh (vae _))⟩
 exact⟨by rw[vao];exact hz,_,r1.append r2,zby.new _ _⟩
end
noncomputable def ixN(n:Nat)(i:Int):Option Nat:=if 0<=i then(if i<n then some i.toNat else none)else if -(n:Int)<=i then some (i+n).toNat else none
noncomputable def atI{α:Type}(xs:List α)(i:Int):Option α:=(ixN xs.length i).bind λj=>xs[j]?
theorem zlv{n:Nat}{i:Int}{j:Nat}(h:ixN n i=some j):seqIndex? i n=some j/\j<n/\-(n:Int)<=i/\i<n:=by
 unfold ixN at h
 by_cases h0:0<=i
 .rw[if_pos h0]at h
  by_cases h1:i<n
  .rw[if_pos h1]at h
   have e:i.toNat=j:=Option.some.inj h
   exact⟨by rw[seqIndex_of h0 h1,e],by omega,by omega,h1⟩
  .rw[if_neg h1]at h;cases h
 .rw[if_neg h0]at h
  by_cases h1:-(n:Int)<=i
  .rw[if_pos h1]at h
   have e:(i+n).toNat=j:=Option.some.inj h
   exact⟨by rw[seqIndex_neg (by omega) h1,e],by omega,h1,by omega⟩
  .rw[if_neg h1]at h;cases h
theorem zlw{α:Type}{xs:List α}{i:Int}{v:α}(h:atI xs i=some v):∃j,seqIndex? i xs.length=some j/\xs[j]?=some v/\j<xs.length/\-(xs.length:Int)<=i/\i<xs.length:=by
 unfold atI at h
 cases e:ixN xs.length i with
 |none=>rw[e]at h;cases h
 |some j=>
  rw[e]at h
  obtain⟨h1,h2,h3,h4⟩:=zlv e
  exact⟨j,h1,h,h2,h3,h4⟩
theorem zbc{α:Type}{xs:List α}{j:Nat}{v:α}(h:xs[j]?=some v):atI xs (j:Int)=some v:=by
 have hj:j<xs.length:=(vav.mp h).1
 have e:ixN xs.length (j:Int)=some j:=by
  unfold ixN
  rw[if_pos (by omega),if_pos (by omega)];simp
 unfold atI;rw[e];exact h
noncomputable def zic(b:Expr):Prop:=∀o i,subscripted b false o i=operate [o,i] (getItem o i)
noncomputable def IxR(X:Cx)(r:R2):Prop:=
 ∀(value slice:Expr)(pins:List (Addr×Obj))(s:Shared)(σ:St)(H:Hp)(x y:V)(v u:Value)(Q:VK),Inv X pins σ H s->RelV x v->RelV y u->r x y H Q->
  subscripted slice false v u=operate [v,u] (getItem v u)->wpAny (model X.prog X.w) X.A (subscriptTail value slice v u) (EP X pins σ Q) X.xe s
noncomputable def MtR(X:Cx)(id:String)(r:V->List V->Hp->VK->Prop):Prop:=
 ∀(pins:List (Addr×Obj))(s:Shared)(σ:St)(H:Hp)(x:V)(xs:List V)(v:Value)(us:List Value)(Q:VK),Inv X pins σ H s->RelV x v->Vals xs us->r x xs H Q->
  wpAny (model X.prog X.w) X.A (call (.builtin id) (v::us)) (EP X pins σ Q) X.xe s
section
variable{X:Cx}{a b:Expr}{ta tb:TE}{pos:Pos}
theorem IxR.or{r r':R2}(h:IxR X r)(h':IxR X r'):IxR X (λx y H Q=>r x y H Q\/r' x y H Q):=by
 intro value slice pins s σ H x y v u Q I rx ry q hs
 rcases q with q|q
 .exact h value slice pins s σ H x y v u Q I rx ry q hs
 .exact h' value slice pins s σ H x y v u Q I rx ry q hs
theorem pe_ix{r:R2}(hr:IxR X r)(ha:PE X a ta)(hb:PE X b tb)(hs:zic b):PE X (.Subscript a b pos) (tOp r ta tb):=by
 intro pins s σ H Q I h
 exact Subscript_ (binT ha hb I h λv u s2 x y H2 I2 rx ry q=>hr a b pins s2 σ H2 x y v u Q I2 rx ry q (hs _ _))
noncomputable def rIxL(K:PySem.W.Frag):R2:=λx y H Q=>∃p xs i v,x=.ref p/\y=.int i/\SqL K H p xs/\atI xs i=some v/\Q v H
noncomputable def rIxT(K:PySem.W.Frag):R2:=λx y H Q=>∃p xs i v,x=.ref p/\y=.int i/\SqT K H p xs/\atI xs i=some v/\Q v H
theorem zra:IxR X (rIxL X.K):=by
 intro value slice pins s σ H x y v u Q I rx ry h hs
 obtain⟨p,xs,i,z,rfl,rfl,hq,he,q⟩:=h
 cases rx
 obtain⟨t,rfl⟩:=ry
 obtain⟨its,r,pl,hz⟩:=I.list hq
 obtain⟨j,h1,h2,h3,h4,h5⟩:=zlw he
 obtain⟨w,ew,rw'⟩:=r.get h2
 have hl:=r.length
 have hn:=ze5
 have fin:EP X pins σ Q w s:=⟨z,H,I,rw',q⟩
 by_cases h0:0<=i
 .have hj:i.toNat=j:=by
   rw[seqIndex_of h0 h5]at h1
   exact Option.some.inj h1
  exact item_listR pl.isList h0 (by omega) (by rw[hj];simpa using ew) fin hs
 .have hj:(i+ (its.toArray.size:Int)).toNat=j:=by
   rw[seqIndex_neg (by omega) h4]at h1
   rw[van,<-hl]
   exact Option.some.inj h1
  exact subscriptTail_builtinR (x:=w) pl.isList.typeIs slot_list_getitem.lookup
   (wpAny_getItem_list_neg (Q:=λr s'=>r=w/\EP X pins σ Q r s') pl.isList (by omega) (by rw[van]<;>omega) (by omega) (by rw[hj];simpa using ew) ⟨rfl,fin⟩) hs
theorem zuh:IxR X (rIxT X.K):=by
 intro value slice pins s σ H x y v u Q I rx ry h hs
 obtain⟨p,xs,i,z,rfl,rfl,hq,he,q⟩:=h
 cases rx
 obtain⟨t,rfl⟩:=ry
 obtain⟨its,r,pl,hz⟩:=I.tuple hq
 obtain⟨j,h1,h2,h3,h4,h5⟩:=zlw he
 obtain⟨w,ew,rw'⟩:=r.get h2
 have hl:=r.length
 have hn:=ze5
 have fin:EP X pins σ Q w s:=⟨z,H,I,rw',q⟩
 exact subscriptTail_builtinR (x:=w) pl.typeIs slot_tuple_getitem.lookup
  (getItem_tuple (j:=j) (Q:=λr s'=>r=w/\EP X pins σ Q r s') pl (by omega) (by omega) (by rw[van,<-hl];exact h1) (by simpa using ew) ⟨rfl,fin⟩) hs
theorem zks(its:List Value)(n j:Nat)(u:Value):Obj.mapSeq (·.setIfInBounds j u) {cls:=.type "list",data:=.seq its.toArray n} ={cls:=.type "list",data:=.seq (its.set j u).toArray n}:=by
 simp[Obj.mapSeq]
theorem Inv.lst{pins:List (Addr×Obj)}{σ:St}{H:Hp}{s:Shared}{p:Addr}{xs:List V}(I:Inv X pins σ H s)(h:H p=some (.lst xs)) :
 ∃(its:List Value) (n:Nat),Vals xs its/\s.heap.get? p=some {cls:=.type "list",data:=.seq its.toArray n}/\xs.length<=sizeLine:=by
 obtain⟨z,its,n,r,e⟩:=I.hok p _ h
 exact⟨its,n,r,e,z⟩
theorem Inv.lstUpd{pins:List (Addr×Obj)}{σ:St}{H:Hp}{s:Shared}{p:Addr}{xs ys:List V}{its its':List Value}{n n':Nat}{f:Obj->Obj}(I:Inv X pins σ H s)(h:H p=some (.lst xs))
 (ho:s.heap.get? p=some {cls:=.type "list",data:=.seq its.toArray n}) (hf:f {cls:=.type "list",data:=.seq its.toArray n} ={cls:=.type "list",data:=.seq its'.toArray n'}) (r:Vals ys its') (hz:ys.length<=sizeLine) (t:Nat) :
 Inv X pins σ (upd H p (.lst ys)) {s with heap:=s.heap.update p f,toks:=t}:=by
 have e:(s.heap.update p f).get? p=some {cls:=.type "list",data:=.seq its'.toArray n'}:=by
  rw[Heap.get?_update_self f ho (by rw[hf]<;>rfl),hf]
 refine I.write (x:=p) (e:=p) (by rw[h];trivial) (.inl rfl) (λb u hb q=>(Heap.get?_update_other _ _ (Ne.symm hb)).trans q) ⟨_,e⟩ ?_
 exact⟨hz,its',n',r,e⟩
noncomputable def rSetL:V->V->V->Hp->(Hp->Prop)->Prop:=λo i v H Q=>∃p xs k j,o=.ref p/\i=.int k/\H p=some (.lst xs)/\ixN xs.length k=some j/\Q (upd H p (.lst (xs.set j v)))
theorem zob:PSet X rSetL:=by
 intro pins s σ H o i v ov iv u Q I ro ri rv h
 obtain⟨p,xs,k,j,rfl,rfl,hp,hj,q⟩:=h
 cases ro
 obtain⟨t,rfl⟩:=ri
 obtain⟨its,n,r,ho,hz⟩:=I.lst hp
 obtain⟨h1,h2,h3,h4⟩:=zlv hj
 have hl:=r.length
 have hn:=ze5
 have I':Inv X pins σ (upd H p (.lst (xs.set j v))) {s with heap:=s.heap.update p (Obj.mapSeq (·.setIfInBounds j u))}:=
  I.lstUpd hp ho (zks its n j u) (r.set rv j) (by rw[List.length_set];exact hz) s.toks
 by_cases h0:0<=k
 .have hk:k.toNat=j:=by
   rw[seqIndex_of h0 h4]at h1
   exact Option.some.inj h1
  exact PySem.W.ki_setAt ho h0 (by omega) (by rw[van,<-hl];exact h4) (by rw[hk];exact⟨_,I',q⟩)
 .have hk:(k+ (its.toArray.size:Int)).toNat=j:=by
   rw[seqIndex_neg (by omega) h3]at h1
   rw[van,<-hl]
   exact Option.some.inj h1
  exact PySem.W.ki_setBack ho (by omega) (by rw[van,<-hl];exact h3) (by omega) (by rw[hk];exact⟨_,I',q⟩)
theorem zg9(lo hi:Option Int)(n:Nat):(sliceBounds lo hi none n).1=((HT.sIx n 0 lo:Nat):Int)/\(sliceBounds lo hi none n).2.1=((HT.sIx n n hi:Nat):Int)/\(sliceBounds lo hi none n).2.2=1:=by
 refine⟨?_,?_,rfl⟩
 .cases lo with
  |none=>simp[sliceBounds,HT.sIx]
  |some i=>
   simp only[sliceBounds,HT.sIx,Option.getD_none,show(1:Int)>0 by decide,if_true]
   by_cases h:i<0
   .simp only[h,if_true]<;>omega
   .simp only[h,if_false]<;>omega
 .cases hi with
  |none=>simp[sliceBounds,HT.sIx]
  |some i=>
   simp only[sliceBounds,HT.sIx,Option.getD_none,show(1:Int)>0 by decide,if_true]
   by_cases h:i<0
   .simp only[h,if_true]<;>omega
   .simp only[h,if_false]<;>omega
theorem zf8(its:List Value)(lo hi:Option Int):slicePick its.toArray lo hi none=((its.drop (HT.sIx its.length 0 lo)).take (HT.sIx its.length its.length hi-HT.sIx its.length 0 lo)).toArray:=by
 obtain⟨h1,h2,h3⟩:=zg9 lo hi its.toArray.size
 unfold slicePick
 rw[h1,h2,h3]
 simp only[sliceRange_one,pick_run,van]<;>rfl
noncomputable def rSlL(K:PySem.W.Frag):V->Option Int->Option Int->Hp->VK->Prop:=λx lo hi H Q=>∃a xs,x=.ref a/\SqL K H a xs/\∀p,H p=none->Q (.ref p) (upd H p (.lst (cutV xs lo hi)))
theorem zrb:SlR X (rSlL X.K):=by
 intro pins s σ H x v vl vu lo hi sl Q I rx hs pl pu h
 obtain⟨a,xs,rfl,hx,q⟩:=h
 cases rx
 obtain⟨its,r,ht,hz⟩:=I.list hx
 have hlen:=r.length
 refine⟨"list",_,slot_list_getitem.lookup,ht.isList.typeIs,?_⟩
 refine wpAny_getItem_list_slice ht.isList hs pl pu .none (by simp) ?_ (by rw[van]<;>omega)
 rw[zf8,<-hlen]
 refine⟨.ref s.heap.objs.size,_,I.laid (t':=s.toks) (o:=.lst (cutV xs lo hi)) (λb ob q=>vac _ q) (vae _) ?_,rfl,q _ (I.hok.fresh (vae _))⟩
 exact⟨Nat.le_trans (zea xs lo hi) hz,_,0,(r.drop (HT.sIx xs.length 0 lo)).take (HT.sIx xs.length xs.length hi-HT.sIx xs.length 0 lo),va0 _ rfl⟩
theorem zha:CallR X (.builtin "len") (λxs H Q=>∃p ys,xs=[.ref p]/\(SqL X.K H p ys\/SqT X.K H p ys)/\Q (.int ys.length) H):=by
 intro pins s σ H xs us Q I r h
 obtain⟨p,ys,rfl,hq,q⟩:=h
 obtain⟨u,rfl,rx⟩:=vals1 r
 cases rx
 have hn:=ze5
 rcases hq with hq|hq
 .obtain⟨its,r',pl,hz⟩:=I.list hq
  have hlen:=r'.length
  exact Calls.call_len_list pl.isList (by simp only[van]<;>omega) ⟨.int ys.length,H,I.tok _,⟨s.toks+1,by rw[van,hlen]⟩,q⟩
 .obtain⟨its,r',pl,hz⟩:=I.tuple hq
  have hlen:=r'.length
  exact len_tuple pl (by simp only[van]<;>omega) ⟨.int ys.length,H,I.tok _,⟨s.toks+1,by rw[van,hlen]⟩,q⟩
theorem zhb:CallR X (.type "list") (λxs H Q=>∃p ys,xs=[.ref p]/\(SqL X.K H p ys\/SqT X.K H p ys)/\∀l,H l=none->Q (.ref l) (upd H l (.lst ys))):=by
 intro pins s σ H xs us Q I r h
 obtain⟨p,ys,rfl,hq,q⟩:=h
 obtain⟨u,rfl,rx⟩:=vals1 r
 cases rx
 have fin:∀(its:List Value),Vals ys its->ys.length<=sizeLine->∀(h':Heap)(c':Nat),(∀b o',s.heap.get? b=some o'->h'.get? b=some o')->
  h'.get? s.heap.objs.size=some {cls:=.type "list",dict:=none,data:=.seq its.toArray c',slots:=#[]}->EP X pins σ Q (.ref s.heap.objs.size) {s with heap:=h'}:=λits r' hz h' c' kp e=>
  ⟨.ref s.heap.objs.size,_,I.laid (t':=s.toks) kp (vae _) (show ObjOk X.prog X.w _ h' _ (.lst ys)from⟨hz,its,c',r',e⟩),rfl,q _ (I.hok.fresh (vae _))⟩
 rcases hq with hq|hq
 .obtain⟨its,r',pl,hz⟩:=I.list hq
  have hlen:=r'.length
  obtain⟨o,ho,hc,n,hd⟩:=pl.isList
  exact call_list_seq p (.inl rfl) ho hc hd (λh' c' kp e=>fin its r' hz h' c' kp e) (by simp only[van]<;>omega)
 .obtain⟨its,r',pl,hz⟩:=I.tuple hq
  have hlen:=r'.length
  obtain⟨o,ho,hc,n,hd⟩:=pl
  exact call_list_seq p (.inr rfl) ho hc hd (λh' c' kp e=>fin its r' hz h' c' kp e) (by simp only[van]<;>omega)
theorem zf9:CallR X (.type "tuple") (λxs H Q=>∃p ys,xs=[.ref p]/\((SqL X.K H p ys/\∀l,H l=none->Q (.ref l) (upd H l (.tup ys)))\/(SqT X.K H p ys/\Q (.ref p) H))):=by
 intro pins s σ H xs us Q I r h
 obtain⟨p,ys,rfl,h⟩:=h
 obtain⟨u,rfl,rx⟩:=vals1 r
 cases rx
 rcases h with⟨hq,q⟩|⟨hq,q⟩
 .obtain⟨its,r',pl,hz⟩:=I.list hq
  have hlen:=r'.length
  refine call_tuple_list pl.isList (λh' kp=>?_) (by simp only[van]<;>omega)
  have I1:Inv X pins σ H {s with heap:=h'}:=I.kept (t':=s.toks) kp
  have I2:Inv X pins σ (upd H h'.objs.size (.tup ys)) {s with heap:=h'.push {cls:=.type "tuple",data:=.seq its.toArray}}:=
   I1.laid (t':=s.toks) (λb o e=>vac _ e) (vae _) (show ObjOk X.prog X.w _ _ _ (.tup ys)from⟨hz,its,r',zby.new _ _⟩)
  exact⟨.ref h'.objs.size,_,I2,rfl,q _ (I1.hok.fresh (vae _))⟩
 .obtain⟨its,r',pl,hz⟩:=I.tuple hq
  exact call_tuple_same pl ⟨.ref p,H,I,rfl,q⟩
noncomputable def tyV(K:PySem.W.Frag)(T:String)(x:V)(H:Hp):Prop:=match x with
 |.str _=>T = "str"
 |.int _=>T = "int"
 |.ref p=>(T = "list"/\∃xs,SqL K H p xs)\/(T = "tuple"/\∃xs,SqT K H p xs)\/
  (T = "dict"/\((∃kvs,H p=some (.dK kvs))\/∃kvs,H p=some (.dT kvs)))\/(T = "set"/\∃S n,H p=some (.set S n))
 |_=>False
theorem zui{pins:List (Addr×Obj)}{σ:St}{H:Hp}{s:Shared}{T:String}{x:V}{v:Value}(I:Inv X pins σ H s)(r:RelV x v)(ty:tyV X.K T x H) :
 s.TypeIs v T/\∀a,v=.ref a->∃ob,s.heap.get? a=some ob/\ob.dict=none:=by
 cases x with
 |str z=>
  obtain⟨t,rfl⟩:=r
  cases(show T = "str"from ty)
  exact⟨typeIs_str s z t,λ_ e=>nomatch e⟩
 |int i=>
  obtain⟨t,rfl⟩:=r
  cases(show T = "int"from ty)
  exact⟨typeIs_int s i t,λ_ e=>nomatch e⟩
 |ref p=>
  cases r
  rcases ty with⟨rfl,xs,hq⟩|⟨rfl,xs,hq⟩|⟨rfl,hk⟩|⟨rfl,S,n,hk⟩
  .obtain⟨its,_,pl,_⟩:=I.list hq
   refine⟨pl.isList.typeIs,λa e=>?_⟩
   cases e
   obtain⟨o,n,e,c,hd,_⟩:=pl
   exact⟨o,e,hd⟩
  .obtain⟨its,_,⟨o,h1,h2,_,h3⟩,_⟩:=I.tupleD hq
   refine⟨⟨o,h1,h2⟩,λa e=>?_⟩
   cases e
   exact⟨o,h1,h3⟩
  .have z:∃o,s.heap.get? p=some o/\o.ExactDict:=by
    rcases hk with⟨kvs,hk⟩|⟨kvs,hk⟩
    .obtain⟨_,_,_,_,o,_,_,e,ex,_⟩:=I.hok p _ hk
     exact⟨o,e,ex⟩
    .obtain⟨_,_,_,_,o,_,_,e,ex,_⟩:=I.hok p _ hk
     exact⟨o,e,ex⟩
   obtain⟨o,e,ex⟩:=z
   refine⟨⟨o,e,ex.1⟩,λa e2=>?_⟩
   cases e2
   exact⟨o,e,ex.2.1⟩
  .obtain⟨o,_,_,_,e,ex,_⟩:=I.hok p _ hk
   refine⟨⟨o,e,ex.1⟩,λa e2=>?_⟩
   cases e2
   exact⟨o,e,ex.2.1⟩
 |_=>exact False.elim ty
noncomputable def tBM(K:PySem.W.Frag)(T:String)(r:V->List V->Hp->VK->Prop)(to:TE)(t:TA):TE:=λσ H Q=>to σ H λx H1=>tyV K T x H1/\t σ H1 λxs H2=>r x xs H2 Q
variable{o e:Expr}{es:List Expr}{to:TE}{t:TA}{name:Str}{apos cpos:Pos}{T id:String}{r:V->List V->Hp->VK->Prop}
theorem pe_bm(pa:PlainAttrs T)(slot:Slot T name id)(hty:typeOf (.builtin id)=pure (.type "method_descriptor"))(hm:MtR X id r)(ho:PE X o to)(ha:PA X (e::es) t)
 (hbase:attributeBase o name X.env (eval o X.env)=eval o X.env:=by rfl)
 (hfew:((backTo cpos (starEach (e::es) X.env)).all (λx=>!x.1)&& (backToKw cpos (keywordEach [] X.env)).all (λx=>x.1.isSome)
   && decide ((e::es).length+ ([]:List Keyword).length+ (if([]:List Keyword).isEmpty then 0 else 1)<30))=true:=by rfl)
 (hline:(apos.endLine==cpos.line)=true:=by rfl) (hs:starEach (e::es) X.env=(false,eval e X.env)::starEach es X.env:=by rfl) (hplain:(backTo cpos (starEach es X.env)).any (·.1)=false:=by rfl) :
 PE X (.Call (.Attribute o name apos) (e::es) [] cpos) (tBM X.K T r to t):=by
 intro pins s σ H Q I h
 refine wpAny_Call_method_late hbase hfew hline rfl (thn (ho pins s σ H _ I h) λv s1 z9=>z9.el λx H1 I1 r1 hq0=>?_)
 obtain⟨ty,q1⟩:=hq0
 obtain⟨h1,h2⟩:=zui I1 r1 ty
 refine⟨T,id,pa,slot,hty,h1,h2,?_⟩
 have hA:=ha cpos pins s1 σ H1 _ I1 q1
 rw[hs]at hA ⊢
 refine Calls.callWith_builtin (by show(false|| (backTo cpos (starEach es X.env)).any (·.1))=false;rw[hplain]<;>rfl) (Calls.evalArgs_plain ?_)
 exact thn hA λus s2 z9=>z9.el λvs H2 I2 r2 q2=>hm pins s2 σ H2 x vs v us Q I2 r1 r2 q2
/- xs.append(e),list.index on a module's tuple .. are MtR facts of 06m -/
end
noncomputable def MtM(X:Cx)(id:String)(r:V->List V->Hp->VK->Prop):Prop:=
 ∀(pins:List (Addr×Obj))(s:Shared)(σ:St)(H:Hp)(x:V)(xs:List V)(v:Value)(us:List Value)(Q:VK),Inv X pins σ H s->RelV x v->Vals xs us->r x xs H Q->
  wpAny (model X.prog X.w) X.A (call (.builtin id) (v::us)) (EP X pins σ Q) X.xe s
theorem Vals.one:∀{x:V} {us:List Value},Vals [x] us->∃u,us=[u]/\RelV x u
 |_,_,.cons r .nil=>⟨_,rfl,r⟩
section
variable{X:Cx}{pins:List (Addr×Obj)}{σ:St}{H:Hp}{s:Shared}{l b:Addr}{xs ys zs:List V}
theorem Inv.lset{its its':List Value}{n:Nat}{f:Array Value->Array Value}{t':Nat}(I:Inv X pins σ H s)(hH:H l=some (.lst xs))
 (e:s.heap.get? l=some {cls:=.type "list",data:=.seq its.toArray n}) (hf:f its.toArray=its'.toArray) (hv:Vals ys its') (hz:ys.length<=sizeLine) :
 Inv X pins σ (upd H l (.lst ys)) {s with heap:=s.heap.update l (Obj.mapSeq f),toks:=t'}:=by
 have q:=PySem.IsL.update e f
 rw[hf]at q
 refine I.write (x:=l) (e:=l) (by rw[hH];exact trivial) (.inl rfl) (λb' u hb hu=>(Heap.get?_update_other s.heap (Obj.mapSeq f) (Ne.symm hb)).trans hu) ⟨_,q⟩ ?_
 exact⟨hz,its',_,hv,q⟩
theorem Inv.lnew{its:List Value}{t':Nat}(I:Inv X pins σ H s)(hv:Vals ys its)(hz:ys.length<=sizeLine) :
 Inv X pins σ (upd H s.heap.objs.size (.lst ys)) {s with heap:=s.heap.push {cls:=.type "list",data:=.seq its.toArray},toks:=t'}:=
 I.laid (λ_ _ q=>vac _ q) (vae _) ⟨hz,its,0,hv,va0 _ rfl⟩
theorem Inv.fresh(I:Inv X pins σ H s):H s.heap.objs.size=none:=I.hok.fresh (vae _)
theorem Inv.lstM(I:Inv X pins σ H s)(hH:H l=some (.lst xs)):xs.length<=sizeLine/\∃(its:List Value) (n:Nat),Vals xs its/\xs.length=its.length/\s.heap.get? l=some {cls:=.type "list",data:=.seq its.toArray n}:=by
 obtain⟨z,its,n,r,e⟩:=I.hok l _ hH
 exact⟨z,its,n,r,r.length,e⟩
theorem zjc{n:Nat}(h:n<=sizeLine):Builtin.List.listTooLong n=false:=by
 unfold Builtin.List.listTooLong
 exact va3 (by omega)
end
section
variable{X:Cx}
noncomputable def zrc:V->List V->Hp->VK->Prop:=λx vs H Q=>∃l xs y,x=.ref l/\vs=[y]/\H l=some (.lst xs)/\xs.length<sizeLine/\Q .non (upd H l (.lst (xs++[y])))
theorem zhc:MtM X "list.append" zrc:=by
 intro pins s σ H x vs v us Q I rx rv h
 obtain⟨l,xs,y,rfl,rfl,hH,hz,q⟩:=h
 cases rx
 obtain⟨u,rfl,ru⟩:=rv.one
 obtain⟨z,its,n,r,hl,e⟩:=I.lstM hH
 refine call_meets F.slot_list_append ⟨_,e,rfl⟩ F.entry_list_append (F.args_list_append_2 _ _) (PySem.list_append l its.toArray n u (by rw[van];omega)) ⟨e,?_⟩
 refine⟨.non,_,I.lset (its':=its++[u]) hH e (by simp) (r.append (.cons ru .nil)) ?_,rfl,q⟩
 rw[vao,va5]
 omega
noncomputable def zrd:V->List V->Hp->VK->Prop:=λx vs H Q=>∃l b xs zs,x=.ref l/\vs=[.ref b]/\H l=some (.lst xs)/\H b=some (.lst zs)/\xs.length+zs.length<=sizeLine/\Q .non (upd H l (.lst (xs++zs)))
theorem zuj:MtM X "list.extend" zrd:=by
 intro pins s σ H x vs v us Q I rx rv h
 obtain⟨l,b,xs,zs,rfl,rfl,hH,hB,hz,q⟩:=h
 cases rx
 obtain⟨u,rfl,ru⟩:=rv.one
 cases ru
 obtain⟨z,its,n,r,hl,e⟩:=I.lstM hH
 obtain⟨z2,its2,n2,r2,hl2,e2⟩:=I.lstM hB
 have hsz:its.toArray.size+its2.toArray.size<=sizeLine:=by rw[van,van];omega
 have hlong:¬(!its.toArray.isEmpty&&Builtin.List.listTooLong (its.toArray.size+its2.toArray.size))=true:=by
  rw[zjc hsz,Bool.and_false]
  exact Bool.false_ne_true
 refine call_meets F.slot_list_extend ⟨_,e,rfl⟩ F.entry_list_extend (F.args_list_extend_2 _ _)
  (AutoSeq1.list_extend_list_list_0 l its.toArray n b its2.toArray n2 hlong (by rw[van];omega) (by omega)) ⟨e,e2,?_⟩
 refine⟨.non,_,I.lset (its':=its++its2) hH e (by simp) (r.append r2) ?_,rfl,q⟩
 rw[vao]
 omega
noncomputable def rCat:R2:=λx y H Q=>∃l b xs zs,x=.ref l/\y=.ref b/\H l=some (.lst xs)/\H b=some (.lst zs)/\xs.length+zs.length<=sizeLine/\∀p,H p=none->Q (.ref p) (upd H p (.lst (xs++zs)))
theorem zuk:OpR X (binaryOp .Add) rCat:=by
 intro pins s σ H x y v u Q I rx ry h
 obtain⟨l,b,xs,zs,rfl,rfl,hH,hB,hz,q⟩:=h
 cases rx
 cases ry
 obtain⟨z,its,n,r,hl,e⟩:=I.lstM hH
 obtain⟨z2,its2,n2,r2,hl2,e2⟩:=I.lstM hB
 refine PySem.P.add_list e e2 ?_ (by rw[van,van];omega)
 have ea:its.toArray++its2.toArray=(its++its2).toArray:=by simp
 rw[ea]
 exact⟨.ref _,_,I.lnew (t':=s.toks) (r.append r2) (by rw[vao];omega),rfl,q _ I.fresh⟩
end
end L2
namespace Att
open PySem PySem.W PySem.Calls PyProof.Rows
theorem zeb{P:Params}{h:Heap}:∀(ns:List Int) (vs:List Value),WellAll P h vs (ns.map WData.int)->IntsAre vs ns:=by
 intro ns
 induction ns with
 |nil=>
  intro vs w
  rw[List.map_nil]at w
  cases w
  exact .nil
 |cons n ns ih=>
  intro vs w
  rw[vam]at w
  cases w with
  |cons a b=>
   cases a
   exact .cons _ _ (ih _ b)
theorem zlx{l:OpenLaw}{n:Nat}(hn:l.most=some n){P:Params}{h:Heap}{args:List WData}{vals:List Value}
 (hpre:l.row.toRowW.claim.pre args=true) (hwl:WellAll P h vals args) :
 ∃a vs ns,vals=[Value.ref a]/\args=[WData.list (ns.map WData.int)]/\h.get? a=some {cls:=.type "list",data:=.seq vs.toArray}/\IntsAre vs ns/\ns.length<=n:=by
 have hsh:WShape.hasAll [] args [.list .int]=true:=(pre_splitW hpre).1
 have hc:l.pre.holds [] {args:=args}=true:=(pre_splitW hpre).2
 obtain⟨d,r,rfl,h1,h2⟩:=hasAllW_cons hsh
 obtain rfl:=hasAllW_nil h2
 obtain⟨xs,rfl,h3⟩:=hasW_list h1
 obtain⟨ns,rfl⟩:=items_int h3
 have hlen:ns.length<=n:=by
  unfold OpenLaw.pre at hc
  have h4:(WTm.not (.lt (.lit (.int (n:Int))) (.len (.arg 0)))).holds [] {args:=[.list (ns.map .int)]}=true:=by
   have h4:=(holds_andW hc).1
   rw[hn]at h4
   exact h4
  have h5:=condW_of h4 (w_not (w_lt w_lit (w_len_list (w_arg rfl))))
  rw[vaf]at h5
  refine Nat.le_of_not_lt λq=>?_
  have q':(n:Int)< ((ns.length:Nat):Int):=by omega
  first
   |(rw[decide_eq_true q']at h5;exact absurd h5 (by decide))
   |(simp at h5;omega)
 cases hwl with
 |cons w1 w2=>
  cases w2
  cases w1 with
  |list ho hall=>exact⟨_,_,ns,rfl,rfl,ho,zeb ns _ hall,hlen⟩
theorem zly(l:OpenLaw)(args:List WData):l.row.toRowW.claim.post args (.bool true) args=true:=
 postW_of (r:=l.row.toRowW) (X:=(true==true))
  (show WShape.has [] (.bool true) .bool=true by first|rfl|decide|simp[WShape.has,WShape.arms,WShape.armsAll])
  (show(WTm.eq .res (.lit (.bool true))).value [] {args:=args,res:=some (.bool true),after:=args}=some (.bool (true==true))from w_eq_bool (w_res rfl) w_lit) rfl
theorem attach_call{l:OpenLaw}{n:Nat}{q:Program}{loose:List Str}{XP:(Str->Option Value)->Heap->Prop}{YP:World->Heap->Prop}{d:DefRec}
 (hn:l.most=some n) (hdf:d.params.defaults=[])
 (call:∀(w:World)(s₀ s₁:Shared)(mg mb:Str->Option Value)(fa:Addr)(o:Obj)(pm cd doc:Value)(a:Addr)(vs:List Value)(ns:List Int),
   Ground q loose [] XP w s₀ mg mb s₁.heap->YP w s₁.heap->
   s₁.heap.get? fa=some o->o.data=.func (docDef d.name d.params d.body d.scope pm cd doc)->s₁.heap.CodeRec cd d.name->mg d.name=some (.ref fa)->
   s₁.heap.get? a=some {cls:=.type "list",data:=.seq vs.toArray}->IntsAre vs ns->ns.length<=n->s₁.gens = #[]->
   codeAny (model l.prog w) callerA (.call (.ref fa) ⟨[.ref a],[]⟩) (λr s'=>r=.ok (.ret (.bool true))/\OldK s₁.heap s'.heap/\s'.os=s₁.os/\AllBare s'.gens) s₁) :
 WalkO q loose XP YP l.row.toRowW d [] (λf vs=>PySem.call f vs):=by
 intro w s₀ s₁ mg mb G Y fa o pm cd doc dV kV ho hd hcd hD hmg hg args vals as hpre hlay hrd hwl hlo
 obtain rfl:dV=.none:=Dflts.none hD hdf
 obtain rfl:kV=.none:=Dflts.noKw hD
 obtain⟨a,vs,ns,rfl,rfl,hobj,hints,hlen⟩:=zlx hn hpre hwl
 refine enter_call (codeAny_mono (call w s₀ s₁ mg mb fa o pm cd doc a vs ns G Y ho (fd_plain hd) hcd hmg hobj hints hlen hg) λr s' hq=>?_)
 obtain⟨rfl,h2,h3,h4⟩:=hq
 exact⟨.inl ⟨.bool true,.bool true,[],rfl,λ_=>rfl,.bool true,zly l _,λ_=>⟨List.Pairwise.nil,λ_ hm=>(nomatch hm)⟩⟩,h2,h3,h4⟩
end Att
namespace L2
open PySem PySem.Spec PyProof.Rows
theorem zhd:∀{vs:List Value} {ns:List Int},IntsAre vs ns->Vals (ns.map V.int) vs
 |_,_,.nil=>.nil
 |_,_,.cons n t h=>.cons ⟨t,rfl⟩ (zhd h)
noncomputable def Only(H:Hp):Prop:=∀b,H b=none\/∃o xs,H b=some (.frz o (.lst xs))
theorem zoc{P:Program}{w:World}{K:PySem.W.Frag}{mg mb:Str->Option Value}{CX:CXT}{k:Nat}{fa a:Addr}{fd:FuncData}{x:Str}{sp:Sp}{s₁:Shared}{vs:List Value}{ns:List Int}
 (KX:K.In s₁.heap) (hns:s₁.heap.Ns mainGlobals mg) (hb:s₁.heap.Ns builtinsNs mb) (hbb:∀x:Str,x≠"__name__"->mb x=bootBuiltins x) (hlim:s₁.heap.NoLimit) (hg:s₁.gens = #[])
 (ha:s₁.heap.get? a=some {cls:=.type "list",data:=.seq vs.toArray}) (hi:IntsAre vs ns) (hl:ns.length<=sizeLine) (hr:Room k callerA)
 (F:∀base:Heap,K.In base->base.Ns mainGlobals mg->FnOk P w K mg base CX k fa fd [x] sp) (hbind:∀(s:Shared)(u:Value),BindsTo s fd ⟨[u],[]⟩ [(x,u)])
 (hsp:∀H:Hp,Only H->SqL K H a (ns.map V.int)->sp [.ref a] H (λv _=>v=.bl true) λ_ _ _=>False)
 (hCX:∀H e s',CX [] H s₁ (λ_ _ _=>False) e s'->False) :
 codeAny (model P w) callerA (.call (.ref fa) ⟨[.ref a],[]⟩) (λr s'=>r=.ok (.ret (.bool true))/\OldK s₁.heap s'.heap/\s'.os=s₁.os/\AllBare s'.gens) s₁:=by
 have rv:=zhd hi
 have lenV:=hi.length
 have core:∀H:Hp,Only H->SqL K H a (ns.map V.int)->HOk P w H s₁.heap->(∀b,H b≠none->b=a)->(H a≠none->K.lookup a=none)->
  codeAny (model P w) callerA (.call (.ref fa) ⟨[.ref a],[]⟩) (λr s'=>r=.ok (.ret (.bool true))/\OldK s₁.heap s'.heap/\s'.os=s₁.os/\AllBare s'.gens) s₁:=by
  intro H hO hS hok hA hK
  have base_of:∀{b:Addr}{o:Obj},s₁.heap.get? b=some o->H b=none->(hidT s₁.heap H).get? b=some o:=λe n=>zns e n
  have noA:∀{b:Addr}{o:Obj}{es:Array DictEntry}{ep:Nat},s₁.heap.get? b=some o->o.data=.dict es ep->H b=none:=λ{b o es ep} e d=>by
   cases q:H b with
   |none=>rfl
   |some u=>
    have e':b=a:=hA b (by rw[q];simp)
    subst e'
    rw[ha]at e;cases e
    have d':Data.seq vs.toArray _=Data.dict es ep:=d
    cases d'
  have nsK:∀{b:Addr}{m:Str->Option Value},s₁.heap.Ns b m->(hidT s₁.heap H).Ns b m:=λ{b m}⟨o,es,ep,e,d,r⟩=>⟨o,es,ep,base_of e (noA e d),d,r⟩
  have hKb:K.In (hidT s₁.heap H):=λb o e=>base_of (KX b o e) (by
   cases q:H b with
   |none=>rfl
   |some u=>
    have e':b=a:=hA b (by rw[q];simp)
    subst e'
    rw[hK (by rw[q];simp)]at e;cases e)
  have hM:Mod K mg (hidT s₁.heap H):=⟨hKb,nsK hns,⟨mb,nsK hb,hbb⟩,let⟨mc,h1,h2⟩:=hlim;⟨mc,nsK h1,h2⟩⟩
  have e0:Env0 P w K mg (hidT s₁.heap H) callerA [] s₁ H:=⟨rfl,hM,λb o e=>zqn e,Nat.le_of_eq (zlc _ _),trivial,λb hb=>absurd (show b∈([]:List Addr)from hb) (by simp),hok,.of_eq hg⟩
  refine codeAny_mono ((F _ hKb (nsK hns)).run callerA [] s₁ H ⟨[.ref a],[]⟩ [.ref a] [.ref a] _ _ hr e0 (hbind s₁ (.ref a)) (.cons rfl .nil) (hsp H hO hS)) λr s' h=>?_
  cases r with
  |error e=>exact(hCX H e s' h).elim
  |ok fl=>
   cases fl with
   |next=>exact False.elim h
   |brk=>exact False.elim h
   |cont=>exact False.elim h
   |ret u=>
    obtain⟨v,H',os,bare,un,hok',r',q⟩:=h
    have q':v=.bl true:=q
    subst q'
    obtain rfl:u=Value.bool true:=r'
    refine⟨rfl,OldK.of_keep λb o e=>?_,os,bare⟩
    cases q:H b with
    |none=>exact un.keep b o e q (by intro z;exact absurd (show b∈([]:List Addr)from z) (by simp)) (by simp)
    |some u=>
     rcases hO b with z|⟨ob,xs,z⟩
     .rw[q]at z;cases z
     .have z2:=un.frzs b ob _ z
      obtain⟨e1,_⟩:=hok b _ z
      obtain⟨e2,_⟩:=hok' b _ z2
      rw[e]at e1;cases e1
      exact e2
 cases hk:K.lookup a with
 |some o=>
  have e:=KX a o hk
  rw[ha]at e
  cases e
  refine core (λ_=>none) (λ_=>.inl rfl) (.inr ⟨_,vs.toArray,_,hk,rfl,rfl,rfl,by rw[van,lenV];exact hl,by simpa using rv⟩) (λb u z=>by have z':(none:Option HO)=some u:=z;cases z') (λb z=>absurd rfl z) λz=>absurd rfl z
 |none=>
  refine core (λb=>if b=a then some (.frz {cls:=.type "list",data:=.seq vs.toArray} (.lst (ns.map V.int)))else none) (λb=>?_) (.inl (.inr ⟨{cls:=.type "list",data:=.seq vs.toArray},if_pos rfl⟩)) (λb u z=>?_) (λb z=>?_) λ_=>hk
  .by_cases hb:b=a
   .exact .inr ⟨_,_,if_pos hb⟩
   .exact .inl (if_neg hb)
  .by_cases hb:b=a
   .have z':=(if_pos hb).symm.trans z
    cases z'
    subst hb
    exact⟨ha,by rw[vaf];exact hl,vs,_,rv,ha⟩
   .have z':=(if_neg hb).symm.trans z
    cases z'
  .by_cases hb:b=a
   .exact hb
   .exact absurd (if_neg hb) z
theorem zre{l:PySem.W.OpenLaw}{n k:Nat}{q:Program}{loose:List Str}{XP:(Str->Option Value)->Heap->Prop}{YP:World->Heap->Prop}{d:DefRec}{K:Params->PySem.W.Frag}{CX:World->CXT}{sp:World->Sp}{x:Str}
 (hn:l.most=some n) (hn2:n<=sizeLine) (hdf:d.params.defaults=[]) (hr:Room k callerA)
 (hY:∀(w:World)(h:Heap),YP w h->(K w.params).In h)
 (F:∀(w:World)(mg:Str->Option Value)(fa:Addr)(h:Heap),(K w.params).In h->h.Ns mainGlobals mg->mg d.name=some (.ref fa)->
   ∃fd:FuncData,(∀(s:Shared)(u:Value),BindsTo s fd ⟨[u],[]⟩ [(x,u)])/\
    ∀base:Heap,(K w.params).In base->base.Ns mainGlobals mg->FnOk l.prog w (K w.params) mg base (CX w) k fa fd [x] (sp w))
 (hsp:∀(w:World)(H:Hp)(a:Addr)(ns:List Int),ns.length<=n->Only H->SqL (K w.params) H a (ns.map V.int)->sp w [.ref a] H (λv _=>v=.bl true) λ_ _ _=>False)
 (hCX:∀(w:World)(H:Hp)(s:Shared)(e:Value)(s':Shared),CX w [] H s (λ_ _ _=>False) e s'->False) :
 PySem.W.WalkO q loose XP YP l.row.toRowW d [] (λf vs=>PySem.call f vs):=by
 refine Att.attach_call hn hdf λw s₀ s₁ mg mb fa o pm cd doc a vs ns G Y ho hd hcd hmg hobj hints hlen hg=>?_
 have KX:=hY w _ Y
 obtain⟨fd,hb,hF⟩:=F w mg fa _ KX G.T.g hmg
 exact zoc KX G.T.g G.T.b G.T.builtins G.T.nolimit hg hobj hints (Nat.le_trans hlen hn2) hr hF hb (λH hO hS=>hsp w H a ns hlen hO hS) λH e s'=>hCX w H s₁ e s'
noncomputable def zrf(s:Stmt):Arguments:=match s with
 |.FunctionDef _ a _ _ _ _ _ _ _ _=>a
 |_=>{posonlyargs:=[],args:=[],vararg:=none,kwonlyargs:=[],kw_defaults:=[],kwarg:=none,defaults:=[]}
noncomputable def zga(s:Stmt):List Stmt:=match s with
 |.FunctionDef _ _ b _ _ _ _ _ _ _=>b
 |_=>[]
noncomputable def zat(s:Stmt):Scope:=match s with
 |.FunctionDef _ _ _ _ _ _ sc _ _ _=>sc
 |_=>{kind:=.function,names:=[],isGenerator:=false,isCoroutine:=false}
noncomputable abbrev CX0:CXT:=λ_ _ _ _ _ _=>False
noncomputable abbrev E0:XK:=λ_ _ _=>False
theorem pass0{X:Cx}:zd9 CX0 X E0:=λ_ _ _ _ _ _ _ h=>h.elim
theorem zhe{n:Nat}(h:n<=1000):n<sizeLine:=Nat.lt_of_le_of_lt h (by decide)
section
variable{κ:Type}[DecidableEq κ]
noncomputable def valV(kvs:List (κ×V))(k:κ):Option V:=(kvs.find? λkv=>decide (kv.1=k)).map (·.2)
noncomputable def putK(kvs:List (κ×V))(k:κ)(v:V):List (κ×V):=
 if(kvs.any λkv=>decide (kv.1=k))=true then kvs.map (λkv=>if kv.1=k then(kv.1,v)else kv)else kvs++[(k,v)]
theorem zgb{p:κ×V}{r:List (κ×V)}{k:κ}(e:p.1=k):valV (p::r) k=some p.2:=by simp[valV,List.find?_cons,e]
theorem zdu{p:κ×V}{r:List (κ×V)}{k:κ}(e:¬p.1=k):valV (p::r) k=valV r k:=by simp[valV,List.find?_cons,e]
theorem zid(kvs:List (κ×V))(k:κ)(v:V):(putK kvs k v).length<=kvs.length+1:=by
 unfold putK
 split
 .rw[vaf];omega
 .rw[vao,vah,List.length_nil];omega
theorem KV.val{kvs:List (κ×V)}{vs:List (κ×Value)}(r:KV kvs vs)(k:κ):RelO (valV kvs k) (valueAt vs k):=by
 unfold KV at r
 induction r with
 |nil=>exact True.intro
 | @cons p q ps qs h t ih=>
  obtain⟨h1,h2⟩:=h
  by_cases e:p.1=k
  .have e':q.1=k:=h1.symm.trans e
   have b:valueAt (q::qs) k=some q.2:=by simp[valueAt,List.find?_cons,e']
   rw[zgb e,b];exact h2
  .have e':¬q.1=k:=λz=>e (h1.trans z)
   have b:valueAt (q::qs) k=valueAt qs k:=by simp[valueAt,List.find?_cons,e']
   rw[zdu e,b];exact ih
theorem KV.any{kvs:List (κ×V)}{vs:List (κ×Value)}(r:KV kvs vs)(k:κ):(kvs.any λkv=>decide (kv.1=k))=vs.any λkv=>decide (kv.1=k):=by
 unfold KV at r
 induction r with
 |nil=>rfl
 |cons h t ih=>rw[List.any_cons,List.any_cons,ih,h.1]
theorem KV.repl{kvs:List (κ×V)}{vs:List (κ×Value)}(r:KV kvs vs)(k:κ){y:V}{u:Value}(ry:RelV y u) :
 KV (kvs.map λkv=>if kv.1=k then(kv.1,y)else kv) (vs.map λkv=>if kv.1=k then(kv.1,u)else kv):=by
 unfold KV at r ⊢
 induction r with
 |nil=>exact .nil
 | @cons p q ps qs h t ih=>
  rw[vam,vam]
  refine .cons ?_ ih
  obtain⟨h1,h2⟩:=h
  by_cases e:p.1=k
  .rw[if_pos e,if_pos (h1.symm.trans e)];exact⟨h1,ry⟩
  .rw[if_neg e,if_neg (λz=>e (h1.trans z))];exact⟨h1,h2⟩
theorem KV.put{kvs:List (κ×V)}{vs:List (κ×Value)}(r:KV kvs vs)(k:κ){y:V}{u:Value}(ry:RelV y u):KV (putK kvs k y) (stored vs k u):=by
 unfold putK stored
 rw[r.any k]
 by_cases e:(vs.any λkv=>decide (kv.1=k))=true
 .rw[if_pos e,if_pos e];exact r.repl k ry
 .rw[if_neg e,if_neg e];exact Paired.snoc r ⟨rfl,ry⟩
end
theorem kV_is{P:Program}{w:World}{k:Key}{u:Value}(r:RelV (kV k) u):(za2 P w).is k u=true:=by
 cases k with
 |inl i=>obtain⟨t,e⟩:=(show ∃t,u=Value.int i t from r);subst e;exact zh9 P w i t
 |inr x=>obtain⟨t,e⟩:=(show ∃t,u=Value.str x t from r);subst e;exact zia P w x t
theorem zhf{P:Program}{w:World}:∀{ks:List Key} {us:List Value},Vals (ks.map kV) us->ItemsAre (za2 P w) ks us
 |[],_,r=>by rw[List.map_nil]at r;cases r;exact .nil
 |k::ks,_,r=>by
  rw[vam]at r
  cases r with
  |cons h t=>exact .cons (kV_is h) (zhf t)
noncomputable abbrev KT(H:Hp):List (List Key×V)->List (List Key×Addr×Value)->Prop:=Paired λp q=>p.1=q.1/\H q.2.1=some (.tup (p.1.map kV))/\RelV p.2 q.2.2
theorem KT.val{H:Hp}{kvs:List (List Key×V)}{xs:List (List Key×Addr×Value)}(r:KT H kvs xs)(k:List Key):RelO (valV kvs k) ((atKey xs k).map (·.2)):=by
 induction r with
 |nil=>exact True.intro
 | @cons p q ps qs h t ih=>
  obtain⟨h1,_,h2⟩:=h
  by_cases e:p.1=k
  .have e':q.1=k:=h1.symm.trans e
   have b:atKey (q::qs) k=some q.2:=by simp[atKey,List.find?_cons,e']
   rw[zgb e,b];exact h2
  .have e':¬q.1=k:=λz=>e (h1.trans z)
   have b:atKey (q::qs) k=atKey qs k:=by simp[atKey,List.find?_cons,e']
   rw[zdu e,b];exact ih
section
variable{P:Program}{w:World}{H:Hp}{h:Heap}{a:Addr}
theorem rd_of{u:HO}(ok:HOk P w H h)(e:Rd H a u):ObjOk P w H h a u:=e.ok ok
theorem dk_rd{kvs:List (Key×V)}(ok:HOk P w H h)(e:Rd H a (.dK kvs)):kvs.length<=sizeLine/\(a==sysModules)=false/\∃vs,KV kvs vs/\h.DictOf (za2 P w) a vs:=
 show ObjOk P w H h a (.dK kvs)from rd_of ok e
theorem dk_of{kvs:List (Key×V)}(ok:HOk P w H h)(e:H a=some (.dK kvs)):kvs.length<=sizeLine/\(a==sysModules)=false/\∃vs,KV kvs vs/\h.DictOf (za2 P w) a vs:=dk_rd ok (.inl e)
theorem zpo{ks:List Key}(ok:HOk P w H h)(e:H a=some (.tup (ks.map kV))):(tupleKind (za2 P w)).is h ks a:=by
 obtain⟨_,its,r,o,h1,h2,⟨n,h3⟩,_⟩:=(show ObjOk P w H h a (.tup (ks.map kV))from ok a _ e)
 exact⟨o,its.toArray,n,h1,h2,h3,by simpa using zhf r⟩
theorem dt_rd{kvs:List (List Key×V)}(ok:HOk P w H h)(e:Rd H a (.dT kvs)):kvs.length<=sizeLine/\(a==sysModules)=false/\
 ∃xs,KT H kvs xs/\h.DictOfH (tupleKind (za2 P w)) a xs:=by
 obtain⟨z,y,xs,r,o,es,ep,h1,h2,h3,h4,h5⟩:=(show ObjOk P w H h a (.dT kvs)from rd_of ok e)
 refine⟨z,y,xs,r,o,es,ep,h1,h2,h3,h4,λx hx=>?_,h5⟩
 have all:∀{l:List (List Key×V)}{m:List (List Key×Addr×Value)},KT H l m->∀x∈m,(tupleKind (za2 P w)).is h x.1 x.2.1:=by
  intro l m q
  induction q with
  |nil=>intro x hx;exact nomatch hx
  | @cons p q ps qs hq t ih=>
   intro x hx
   rcases va2.mp hx with e|hx
   .subst e
    exact zpo ok (by rw[<-hq.1];exact hq.2.1)
   .exact ih x hx
 exact all r x hx
end
noncomputable def DGet(H:Hp)(a:Addr)(y:V)(r:Option V):Prop:=
 (∃kvs k,Rd H a (.dK kvs)/\y=kV k/\r=valV kvs k)\/∃kvs k b,Rd H a (.dT kvs)/\y=.ref b/\H b=some (.tup (k.map kV))/\r=valV kvs k
section
variable{X:Cx}{pins:List (Addr×Obj)}{σ:St}{H:Hp}{s:Shared}{a:Addr}{y v:V}{u r:Value}{o:Option V}{A:Around}{E:Value->Shared->Prop}
theorem Inv.big(I:Inv X pins σ H s):sysModules<s.heap.objs.size:=by
 have h:mainGlobals<s.heap.objs.size:=(I.mod.glob.keeps I.bk).lt
 exact Nat.lt_trans (by decide) h
theorem zlz{Q:Value->Shared->Prop}(hu:A.units+1<cLine)(I:Inv X pins σ H s)(g:DGet H a y (some v))(ry:RelV y u)(h:∀w' s',Inv X pins σ H s'->RelV v w'->Q w' s') :
 wpAny (model X.prog X.w) A (getItem (.ref a) u) Q E s:=by
 rcases g with⟨kvs,k,e,ey,l⟩|⟨kvs,k,b,e,ey,eb,l⟩
 .subst ey
  obtain⟨z,hd,vs,rel,dd⟩:=dk_rd I.hok e
  obtain⟨w',hw,rw'⟩:=RelO.some_of (v:=v) (o:=valueAt vs k) (by rw[l];exact rel.val k)
  exact wpAny_getItem_of (kV_is ry) dd.mapOf hw (h w' _ (I.tok _) rw')
 .subst ey
  cases(show u=Value.ref b from ry)
  obtain⟨z,hd,xs,rel,dd⟩:=dt_rd I.hok e
  obtain⟨w',hw,rw'⟩:=RelO.some_of (v:=v) (o:=(atKey xs k).map (·.2)) (by rw[l];exact rel.val k)
  obtain⟨p,hp,hp2⟩:=Option.map_eq_some_iff.mp hw
  refine wpAny_getItem_heap (tupleKind_room_in1 hu) (zpo I.hok eb) dd hp ?_
  rw[hp2]
  exact h w' _ (I.tok _) rw'
theorem zie{h':Heap}{t':Nat}{ob:HO}(I:Inv X pins σ H s)(mu:Mut (H a))(hs:Heap.SameBut a s.heap h')(he:∃q,h'.get? a=some q)(new:ObjOk X.prog X.w (upd H a ob) h' a ob) :
 Inv X pins σ (upd H a ob) {s with heap:=h',toks:=t'}:=
 I.write (x:=a) (e:=a) mu (.inl rfl) (λb q hb z=>(hs.2 b hb).trans z) he new
theorem zul{P:Program}{w:World}{H':Hp}{h':Heap}{kvs:List (Key×V)}{vs:List (Key×Value)}(z:kvs.length<=sizeLine)(hd:(a==sysModules)=false)(rel:KV kvs vs)(dd:h'.DictOf (za2 P w) a vs) :
 ObjOk P w H' h' a (.dK kvs):=⟨z,hd,vs,rel,dd⟩
end
theorem zif{X:Cx}{pins:List (Addr×Obj)}{σ:St}{H:Hp}{s:Shared}{a:Addr}{y:V}{o:Option V}(I:Inv X pins σ H s)(g:DGet H a y o):s.TypeIs (.ref a) "dict":=by
 rcases g with⟨kvs,k,e,_,_⟩|⟨kvs,k,b,e,_,_,_⟩
 .obtain⟨_,_,vs,_,dd⟩:=dk_rd I.hok e
  exact dd.typeIs
 .obtain⟨_,_,xs,_,dd⟩:=dt_rd I.hok e
  exact dd.typeIs
theorem zjd{P:Program}{w:World}{H:Hp}(h:Heap)(hb:sysModules<h.objs.size):ObjOk P w H (h.push {cls:=.type "dict",data:=.dict #[]}) h.objs.size (.dK []):=
 ⟨Nat.zero_le _,beq_eq_false_iff_ne.mpr (Ne.symm (va4 hb)),[],.nil,Heap.DictOf.new h⟩
noncomputable def zum:TE:=λ_ H Q=>∀p,H p=none->Q (.ref p) (upd H p (.dK []))
section
variable{X:Cx}{pos:Pos}
theorem zod:PE X (.Dict [] [] pos) zum:=λpins s σ H Q I h=>
 wpAny_Dict_empty ⟨.ref s.heap.objs.size,_,I.laid (a:=s.heap.objs.size) (o:=.dK []) (t':=s.toks) (λ_ _ q=>vac _ q) (vae _) (zjd s.heap I.big),rfl,h _ (I.hok.fresh (vae _))⟩
end
noncomputable def zje:List (TE×TE)->St->Hp->(List (V×V)->Hp->Prop)->Prop
 |[],_,H,Q=>Q [] H
 |(tk,tv)::r,σ,H,Q=>tk σ H λx H1=>tv σ H1 λy H2=>zje r σ H2 λps H3=>Q ((x,y)::ps) H3
noncomputable abbrev VV:List (V×V)->List (Value×Value)->Prop:=Paired λp q=>RelV p.1 q.1/\RelV p.2 q.2
noncomputable def PPs(X:Cx)(pos:Pos)(keys:List (Option Expr))(values:List Expr)(trs:List (TE×TE)):Prop:=
 ∀(pins:List (Addr×Obj))(s:Shared)(σ:St)(H:Hp)(Q:List (V×V)->Hp->Prop),Inv X pins σ H s->zje trs σ H Q->
  wpAny (model X.prog X.w) X.A (evalPairs (pairTrees keys values X.env pos)) (λvs s'=>∃ps H',Inv X pins σ H' s'/\VV ps vs/\Q ps H') X.xe s
theorem zrg{X:Cx}{pos:Pos}:PPs X pos [] [] []:=λpins s σ H Q I h=>pairTrees_nil_walk ⟨[],H,I,.nil,h⟩
theorem zoe{X:Cx}{pos:Pos}{k v:Expr}{ks:List (Option Expr)}{vs:List Expr}{tk tv:TE}{trs:List (TE×TE)}(hk:PE X k tk)(hv:PE X v tv)(hr:PPs X pos ks vs trs) :
 PPs X pos (some k::ks) (v::vs) ((tk,tv)::trs):=λpins s σ H Q I h=>
 pairTrees_cons_walk (thn (hk pins s σ H _ I h) λu s1 z9=>z9.el λx H1 I1 rx q1=>thn (hv pins s1 σ H1 _ I1 q1) λw2 s2 z9=>z9.el λy H2 I2 ry q2=>
  thn (hr pins s2 σ H2 _ I2 q2) λws s3 ⟨ps,H3,I3,rel,q3⟩=>⟨(x,y)::ps,H3,I3,.cons ⟨rx,ry⟩ rel,q3⟩)
noncomputable def zdl(kvs more:List (Key×V)):List (Key×V):=more.foldl (λacc kv=>putK acc kv.1 kv.2) kvs
theorem KV.merge:∀{more:List (Key×V)} {rs:List (Key×Value)} {kvs:List (Key×V)} {vs:List (Key×Value)},KV more rs->KV kvs vs->KV (zdl kvs more) (merged vs rs):=by
 intro more rs kvs vs r
 unfold KV at r
 induction r generalizing kvs vs with
 |nil=>intro q;exact q
 | @cons p q ps qs h t ih=>
  intro r0
  have e:KV (putK kvs p.1 p.2) (stored vs q.1 q.2):=by
   have:=r0.put p.1 h.2
   rw[<-h.1];exact this
  exact ih e
theorem zcs:∀(more kvs:List (Key×V)),(zdl kvs more).length<=kvs.length+more.length
 |[],kvs=>by show kvs.length<=kvs.length+0;omega
 |p::r,kvs=>by
  have h1:=zcs r (putK kvs p.1 p.2)
  have h2:=zid kvs p.1 p.2
  show(zdl (putK kvs p.1 p.2) r).length<=_
  rw[vah];omega
theorem ze8{P:Program}{w:World}:∀{kvs:List (Key×V)} {ws:List (Value×Value)},VV (kvs.map λkv=>(kV kv.1,kv.2)) ws->∃rs,Carries (za2 P w) ws rs/\KV kvs rs
 |[],_,r=>by rw[List.map_nil]at r;cases r;exact⟨[],True.intro,.nil⟩
 |p::kvs,_,r=>by
  rw[vam]at r
  cases r with
  | @cons a b as bs h t=>
   obtain⟨rs,c,q⟩:=ze8 (P:=P) (w:=w) t
   obtain⟨b1,b2⟩:=b
   exact⟨(p.1,b2)::rs,⟨kV_is h.1,rfl,c⟩,.cons ⟨rfl,h.2⟩ q⟩
noncomputable def zb1(cells:List (Str×Addr)):List (Str×NameKind)->List (Str×Addr)->List (Str×Addr)
 |[],cs=>cs
 |(n,k)::r,cs=>zb1 cells r (if k == .free then(match cells.lookup n with|some c=>(n,c)::cs|none=>cs)else cs)
theorem zct{scope:Scope}{env:Env}(hf:∀y∈scope.names,y.2=.free->∃c,env.cells.lookup y.1=some c):closureFor scope env=pure (zb1 env.cells scope.names []):=by
 have go:∀(l:List (Str×NameKind))(cs:List (Str×Addr)),(∀y∈l,y.2=.free->∃c,env.cells.lookup y.1=some c)->
  (forIn l cs λ(x:Str×NameKind)(r:List (Str×Addr))=>(match x with
    |(name,kind)=>if(kind==NameKind.free)=true then(do let a <-cellOf env name;pure (ForInStep.yield ((name,a)::r)))else pure (ForInStep.yield r):Sem (ForInStep (List (Str×Addr)))))=(pure (zb1 env.cells l cs):Sem (List (Str×Addr))):=by
  intro l
  induction l with
  |nil=>intro cs _;rfl
  |cons x r ih=>
   intro cs h
   obtain⟨n,k⟩:=x
   rw[List.forIn_cons]
   by_cases hk:(k==NameKind.free)=true
   .have hk':k=.free:=by simpa using hk
    obtain⟨c,hc⟩:=h (n,k) vag hk'
    have hc':env.cells.lookup n=some c:=hc
    simp only[hk,if_true,cellOf,hc',zb1]
    exact ih _ λy hy=>h y (vad _ hy)
   .have hk':(k==NameKind.free)=false:=by simpa using hk
    simp only[hk',vak,if_false,zb1]
    exact ih _ λy hy=>h y (vad _ hy)
 have e:=go scope.names [] hf
 unfold closureFor
 refine Eq.trans (congrArg (λt=>t >>= λcs=>pure cs) e) ?_
 rfl
theorem ze9{cells:List (Str×Addr)}:∀(l:List (Str×NameKind)) (cs:List (Str×Addr)),(∀x c,cs.lookup x=some c->cells.lookup x=some c)->∀x c,(zb1 cells l cs).lookup x=some c->cells.lookup x=some c
 |[],cs,h=>h
 |(n,k)::r,cs,h=>ze9 r _ λx c e=>by
  by_cases hk:(k==NameKind.free)=true
  .simp only[hk,if_true]at e
   cases hc:cells.lookup n with
   |none=>rw[hc]at e;exact h x c e
   |some d=>
    rw[hc]at e
    simp only[va6]at e
    by_cases hx:(x==n)=true
    .simp only[hx]at e
     cases e
     rw[show x=n by simpa using hx];exact hc
    .have hx':(x==n)=false:=by simpa using hx
     simp only[hx']at e
     exact h x c e
  .have hk':(k==NameKind.free)=false:=by simpa using hk
   simp only[hk',vak,if_false]at e
   exact h x c e
theorem zec{cells:List (Str×Addr)}{x:Str}{c:Addr}(hc:cells.lookup x=some c):∀(l:List (Str×NameKind)) (cs:List (Str×Addr)),cs.lookup x=some c->(zb1 cells l cs).lookup x=some c
 |[],cs,h=>h
 |(n,k)::r,cs,h=>zec hc r _ (by
  by_cases hk:(k==NameKind.free)=true
  .simp only[hk,if_true]
   cases hn:cells.lookup n with
   |none=>exact h
   |some d=>
    simp only[va6]
    by_cases hx:(x==n)=true
    .have:x=n:=by simpa using hx
     subst this
     rw[hc]at hn;cases hn
     simp
    .have hx':(x==n)=false:=by simpa using hx
     simp only[hx'];exact h
  .have hk':(k==NameKind.free)=false:=by simpa using hk
   simp only[hk',vak,if_false]
   exact h)
theorem zdb{cells:List (Str×Addr)}{x:Str}{c:Addr}(hc:cells.lookup x=some c):∀(l:List (Str×NameKind)) (cs:List (Str×Addr)),(x,NameKind.free)∈l->(zb1 cells l cs).lookup x=some c
 |[],cs,h=>by cases h
 |(n,k)::r,cs,h=>by
  rcases va2.mp h with e|e
  .cases e
   refine zec hc r _ ?_
   rw[hc]
   simp[va6]
  .exact zdb hc r _ e
noncomputable abbrev Cx.comp(X:Cx)(N:List Str)(scope:Scope)(C:Addr)(s₀:Shared)(H₀:Hp)(ex:List Addr):Cx:=
 {X with N:=N,s₀:=s₀,H₀:=H₀,env:=compEnvC scope (zb1 X.env.cells scope.names []) C X.env,outer:=X.stack,stack:=X.stack,ex:=ex,fn:=λ_=>false,pn:=[],xe:=λ_ _=>False}
structure CompScope(X:Cx)(ow fr:List Str)(ix:List Nat)(scope:Scope):Prop where
 kind:scope.kind=.function
 nocell:∀y∈scope.names,y.2≠.cell
 names:∀y∈scope.names,y.2=.local->scope.names.lookup y.1=some .local
 own:∀x∈ow,scope.names.lookup x=some .local
 free:∀y∈scope.names,y.2=.free->X.env.kindOf y.1=some .cell\/X.env.kindOf y.1=some .free
 at_:∀(k:Nat)(x:Str),fr[k]?=some x->∃j,ix[k]?=some j/\X.N[j]?=some x/\scope.names.lookup x=some .free
 len:ix.length=fr.length
noncomputable def cσ(ow fr:List Str)(ix:List Nat)(σ:St):St:=ow.map (λ_=>none)++ix.map λj=>(σ[j]?).join
theorem zfa{x:Str}{k:NameKind}:∀{l:List (Str×NameKind)},l.lookup x=some k->(x,k)∈l
 |[],h=>by cases h
 |(n,j)::r,h=>by
  simp only[va6]at h
  by_cases hx:(x==n)=true
  .simp only[hx]at h
   cases h
   rw[show x=n by simpa using hx];exact vag
  .have hx':(x==n)=false:=by simpa using hx
   simp only[hx']at h
   exact vad _ (zfa h)
theorem zb2{env:Env}:∀{l:List (Str×NameKind)} {x:Str} {k:NameKind},
 (l.map λ(n,k)=>if(k==NameKind.free&&env.scope.kind == .function&&env.kindOf n==some .cell)then(n,NameKind.cell)else(n,k)).lookup x=some k->k≠.local->(∀y∈l,y.2≠.cell)->k=.cell\/k=.free->(x,NameKind.free)∈l
 |[],x,k,h,_,_,_=>by cases h
 |(n,j)::r,x,k,h,hk,hc,hh=>by
  have ih:=@zb2 env r x k
  rw[vam]at h
  by_cases hc':(j==NameKind.free&&env.scope.kind == .function&&env.kindOf n==some .cell)=true
  .simp only[hc',if_true,va6]at h
   have hj:j=.free:=by
    simp only[vab,beq_iff_eq]at hc'
    exact hc'.1.1
   by_cases hx:(x==n)=true
   .rw[show x=n by simpa using hx,hj];exact vag
   .have hx':(x==n)=false:=by simpa using hx
    simp only[hx']at h
    exact vad _ (ih h hk (λy hy=>hc y (vad _ hy)) hh)
  .have hcf:(j==NameKind.free&&env.scope.kind == .function&&env.kindOf n==some .cell)=false:=by simpa using hc'
   simp only[hcf,vak,if_false,va6]at h
   by_cases hx:(x==n)=true
   .simp only[hx]at h
    cases h
    rcases hh with z|z
    .exact absurd z (hc _ vag)
    .rw[show x=n by simpa using hx,z];exact vag
   .have hx':(x==n)=false:=by simpa using hx
    simp only[hx']at h
    exact vad _ (ih h hk (λy hy=>hc y (vad _ hy)) hh)
theorem zbl{env:Env}(hkf:env.scope.kind=.function):∀{l:List (Str×NameKind)} {x:Str},l.lookup x=some .free->
 (l.map λ(n,k)=>if(k==NameKind.free&&env.scope.kind == .function&&env.kindOf n==some .cell)then(n,NameKind.cell)else(n,k)).lookup x=some (if env.kindOf x=some .cell then .cell else .free)
 |[],x,h=>by cases h
 |(n,j)::r,x,h=>by
  have ih:=@zbl env hkf r x
  rw[vam]
  simp only[va6]at h
  by_cases hx:(x==n)=true
  .simp only[hx]at h
   cases h
   have e:x=n:=by simpa using hx
   subst e
   by_cases hq:env.kindOf x=some .cell
   .simp[hkf,hq,va6]
   .simp[hq,va6]
  .have hx':(x==n)=false:=by simpa using hx
   simp only[hx']at h
   by_cases hc':(j==NameKind.free&&env.scope.kind == .function&&env.kindOf n==some .cell)=true
   .simp only[hc',if_true,va6,hx'];exact ih h
   .have hcf:(j==NameKind.free&&env.scope.kind == .function&&env.kindOf n==some .cell)=false:=by simpa using hc'
    simp only[hcf,vak,if_false,va6,hx'];exact ih h
section
variable{X:Cx}{pins:List (Addr×Obj)}{σ:St}{H:Hp}{s:Shared}{ow fr:List Str}{ix:List Nat}{scope:Scope}{fp:List Addr}
theorem zof(S:CompScope X ow fr ix scope)(I:Inv X pins σ H s)(hfp:∀b∈fp,FpOk X pins H b)(hlt:∀b∈fp,b<s.heap.objs.size){h':Heap}{tk:Nat}{m:Str->Option Value}(hn:h'.Ns s.heap.objs.size m)(hk:∀b o,s.heap.get? b=some o->h'.get? b=some o) :
 Inv (X.comp (ow++fr) scope s.heap.objs.size s H fp) [] (cσ ow fr ix σ) H {s with heap:=h',toks:=tk}:=by
 have sub:=ze9 (cells:=X.env.cells) scope.names [] (λx c e=>by cases e)
 have kf:=I.ok.kind
 have ncell:∀x c,X.env.cells.lookup x=some c->c≠s.heap.objs.size:=λx c e z=>by
  obtain⟨v,q⟩:=I.cell x c e
  exact absurd q.lt (by rw[z];exact Nat.lt_irrefl _)
 have hasC:∀x,(x,NameKind.free)∈scope.names->∃c,(zb1 X.env.cells scope.names []).lookup x=some c/\X.env.cells.lookup x=some c:=λx hx=>by
  obtain⟨c,hc⟩:=I.ok.has x (S.free _ hx rfl)
  exact⟨c,zdb hc _ _ hx,hc⟩
 refine⟨⟨I.ok.mod,?_,I.ok.glob,I.ok.blt,vae _,λx y c a b=>I.ok.inj x y c (sub x c a) (sub y c b),λx hx=>?_,λx c e=>?_,I.ok.hd,I.ok.frames,.inl rfl,λb hb=>?_,λb o e=>?_,?_,λb o e hb=>?_,λb hb hz=>?_,I.stack,λb hb=>I.stkFree b hb⟩,
  rfl,I.bare,Un.kept hk,⟨m,hn,λi x v e1 e2 e3=>?_⟩,λx c e=>?_,I.hok.fresh (vae _),λx c e=>I.freeC x c (sub x c e),λp hp=>?_,I.hok.kept hk,?_⟩
 .exact S.kind
 .have hx':(relabel scope X.env).names.lookup x=some .cell\/(relabel scope X.env).names.lookup x=some .free:=hx
  have hm:(x,NameKind.free)∈scope.names:=by
   rcases hx' with z|z
   .exact zb2 (env:=X.env) z (by decide) S.nocell (.inl rfl)
   .exact zb2 (env:=X.env) z (by decide) S.nocell (.inr rfl)
  obtain⟨c,hc,_⟩:=hasC x hm
  exact⟨c,hc⟩
 .cases e
 .obtain⟨f0,f1,f2,f3,f4,f5⟩:=hfp b hb
  refine⟨λz=>?_,λx c e=>f4 x c (sub x c e)⟩
  have q:=hlt b hb
  rw[z]at q
  exact absurd q (Nat.lt_irrefl _)
 .exact⟨(I.bs b o e).1,(I.bs b o e).2⟩
 .exact Nat.le_trans I.ok.bsz I.sz
 .obtain⟨f0,f1,f2,f3,f4,f5⟩:=hfp b hb
  rcases f3 with z|z
  .exact I.ok.noex b o e z
  .exact absurd (vai (vaq (I.ok.bs b o e).1) z) (Nat.lt_irrefl _)
 .obtain⟨f0,f1,f2,f3,f4,f5⟩:=hfp b hb
  rcases va2.mp (I.stkSub b hz)with z|z
  .exact f1 z
  .exact f2 z
 .have hlen:ow.length<=i:=by
   by_cases hi:i<ow.length
   .unfold cσ at e2
    rw[List.getElem?_append_left (by simpa using hi),List.getElem?_map]at e2
    cases q:ow[i]? with
    |none=>rw[q]at e2;cases e2
    |some y=>rw[q]at e2;cases e2
   .omega
  have e1':fr[i-ow.length]?=some x:=by
   have e1:(ow++fr)[i]?=some x:=e1
   rw[List.getElem?_append_right hlen]at e1
   exact e1
  have e2':(ix.map λj=>(σ[j]?).join)[i-ow.length]?=some (some v):=by
   unfold cσ at e2
   rw[List.getElem?_append_right (by simpa using hlen)]at e2
   simpa using e2
  obtain⟨j,hj,hN,hl⟩:=S.at_ _ _ e1'
  rw[List.getElem?_map,hj]at e2'
  have e2'':(σ[j]?).join=some v:=Option.some.inj e2'
  have hσ:σ[j]?=some (some v):=by
   cases q:σ[j]? with
   |none=>rw[q]at e2'';cases e2''
   |some o=>rw[q]at e2'';cases o with
    |none=>cases e2''
    |some w=>cases e2'';rfl
  obtain⟨m0,hm0,hl0⟩:=I.loc
  have hmem:=zfa hl
  have hkf:=S.free _ hmem rfl
  have hvis:Vis X.env.scope x:=hkf.elim (λz=>.inr (.inl z)) λz=>.inr (.inr z)
  obtain⟨u,ru,lk⟩:=hl0 j x v hN hσ hvis
  refine⟨u,ru,.inr ?_⟩
  have hcell:∃c,X.env.cells.lookup x=some c/\s.heap.IsCell c (some u):=by
   rcases lk with⟨z,_⟩|⟨_,c,e,z⟩
   .rcases hkf with q|q
    .rw[show X.env.kindOf x=some .local from z]at q;cases q
    .rw[show X.env.kindOf x=some .local from z]at q;cases q
   .exact⟨c,e,z⟩
  obtain⟨c,hc,o,ho,hd⟩:=hcell
  refine⟨?_,c,zdb hc _ _ hmem,o,hk _ _ ho,hd⟩
  show(relabel scope X.env).names.lookup x=some .cell\/(relabel scope X.env).names.lookup x=some .free
  have q:=zbl (env:=X.env) kf hl
  by_cases z:X.env.kindOf x=some .cell
  .rw[if_pos z]at q;exact .inl q
  .rw[if_neg z]at q;exact .inr q
 .obtain⟨v,q⟩:=I.cell x c (sub x c e)
  obtain⟨o,ho,hd⟩:=q
  exact⟨v,o,hk _ _ ho,hd⟩
 .cases(show p∈([]:List (Addr×Obj))from hp)
 .show(cσ ow fr ix σ).length=(ow++fr).length
  unfold cσ
  rw[vao,vaf,vaf,vao,S.len]
end
theorem zl0{α:Type}{M:Model}{A:Around}{t:Sem α}{Q:α->Shared->Prop}{E:Value->Shared->Prop}{s:Shared}(h:wpAny M A t Q (λ_ _=>False) s):wpAny M A t Q E s:=wpAny_mono h (λ_ _ q=>q) λ_ _ z=>z.elim
noncomputable abbrev noX:Value->Shared->Prop:=λ_ _=>False
noncomputable abbrev zl1(ifs:List Expr)(env:Env):Sem Bool:=forIn ifs true λc r=>if r=true then do let ok <-isTrue c env (eval c env);pure (ForInStep.yield ok)else pure (ForInStep.yield r)
theorem zcg{prog:Program}{w:World}{A:Around}{R:Result->Shared->Prop}{s:Shared}{elt target iter:Expr}{ifs:List Expr}{scope:Scope}{pos:Pos}{it acc:Value}{env:Env}(I:Nat->Shared->Prop)
 (turn:∀n s,I n s->wpAny (model prog w) A (pyNext it) (λr s₁=>match r with
   |none=>R (.ok .next) s₁
   |some v=>wpAny (model prog w) A (letOwnedTupleGo target it v) (λ_ s₀=>wpAny (model prog w) A (assign target env v) (λ_ s₂=>
    wpAny (model prog w) A (zl1 ifs env) (λok s₃=>
     if ok=true then wpAny (model prog w) A (eval elt env) (λx s₄=>
      wpAny (model prog w) A (call (.builtin "list.append") [acc,x]) (λ_ s₅=>∃m,m<n/\I m s₅) noX s₄) noX s₃
     else ∃m,m<n/\I m s₃) noX s₂) noX s₀) noX s₁) noX s)
 (n:Nat) (h:I n s) :
 codeAny (model prog w) A (.compLoop (.ListComp elt [⟨target,iter,ifs,0⟩] scope pos) 0 it acc env) R s:=by
 refine codeAny_loop rfl I (λn s hI=>?_) n h
 show wpAny _ A ((compTurn (.ListComp elt [⟨target,iter,ifs,0⟩] scope pos) 0 it acc env).onRaise (λx=>do noteFrame x env;theTreesLotGoes x)) _ _ s
 refine wpAny_noted (zl0 ?_)
 rw[compTurn_list]
 refine vaa (wpAny_standAt (vaa (wpAny_mono (turn n s hI) (λr s₁ h₁=>?_) λ_ _ h'=>h')))
 cases r with
 |none=>exact vaj h₁
 |some v=>
  refine vaa (wpAny_mono h₁ (λ_ s₀ h₀=>?_) λ_ _ h'=>h')
  refine vaa (wpAny_mono h₀ (λ_ s₂ h₂=>vaa (wpAny_mono h₂ (λok s₃ h₃=>?_) λ_ _ h'=>h')) λ_ _ h'=>h')
  cases ok with
  |true=>
   simp only[if_true]at h₃ ⊢
   exact vaa (vaa (wpAny_mono h₃ (λx s₄ h₄=>vaa (wpAny_mono h₄ (λ_ s₅ h₅=>vaj (vaj ⟨rfl,h₅⟩)) λ_ _ h'=>h')) λ_ _ h'=>h'))
  |false=>
   simp only[vak,if_false]at h₃ ⊢
   exact vaj ⟨rfl,h₃⟩
noncomputable def PTs(X:Cx)(ifs:List Expr)(t:TT):Prop:=
 ∀(pins:List (Addr×Obj))(s:Shared)(σ:St)(H:Hp)(Q:Bool->Hp->Prop),Inv X pins σ H s->t σ H Q->wpAny (model X.prog X.w) X.A (zl1 ifs X.env) (TP X pins σ Q) X.xe s
noncomputable def tYes:TT:=λ_ H Q=>Q true H
theorem zrh{X:Cx}:PTs X [] tYes:=λpins s σ H Q I h=>wpAny_tests_nil ⟨H,I,h⟩
theorem zri{X:Cx}{c:Expr}{t:TT}(h:PT X c t):PTs X [c] t:=λpins s σ H Q I q=>wpAny_tests_one (h pins s σ H Q I q)
noncomputable def tLC(K:PySem.W.Frag)(f:St->St)(wi:TI)(g:TG)(tc:TT)(te:TE):TE:=λσ H Q=>wi σ H λJ H1=>∀D,H1 D=none->K.lookup D=none->
 ∃W:Nat->Nat->St->Hp->List V->Prop,(∃m,W 0 m (f σ) (upd H1 D (.lst [])) [])/\∀i m σ' H' ys,W i m σ' H' ys->H' D=some (.lst ys)/\
  ((J.stop i H'/\Q (.ref D) H')\/(J.go i H'/\∀x H2,J.yld i H' x H2->g x σ' H2 λσ2 H3=>tc σ2 H3 λb H4=>
    if b=true then te σ2 H4 λy H5=>H5 D=some (.lst ys)/\ys.length<sizeLine/\∃m',m'<m/\W (i+1) m' σ2 (upd H5 D (.lst (ys++[y]))) (ys++[y])
    else ∃m',m'<m/\W (i+1) m' σ2 H4 ys))
section
variable{X:Cx}{ow fr:List Str}{ix:List Nat}{scope:Scope}{tg iter elt:Expr}{ifs:List Expr}{pos:Pos}{wi:TI}{g:TG}{tc:TT}{te:TE}
theorem zfb{pins:List (Addr×Obj)}{s:Shared}{σ:St}{Q:VK}{RR:Value->Addr->Result->Shared->Prop}(S:CompScope X ow fr ix scope)(hc:X.calm=true)
 (hg:∀C s₀ H₀ ex,PG (X.comp (ow++fr) scope C s₀ H₀ ex) tg g) (ht:∀C s₀ H₀ ex,PTs (X.comp (ow++fr) scope C s₀ H₀ ex) ifs tc) (he:∀C s₀ H₀ ex,PE (X.comp (ow++fr) scope C s₀ H₀ ex) elt te)
 {itv:Value} {E:Value->Shared->Prop}
 (h:PIE X pins σ tg (λJ H1=>∀D,H1 D=none->X.K.lookup D=none->
   ∃W:Nat->Nat->St->Hp->List V->Prop,(∃m,W 0 m (cσ ow fr ix σ) (upd H1 D (.lst [])) [])/\∀i m σ' H' ys,W i m σ' H' ys->H' D=some (.lst ys)/\
    ((J.stop i H'/\Q (.ref D) H')\/(J.go i H'/\∀x H2,J.yld i H' x H2->g x σ' H2 λσ2 H3=>tc σ2 H3 λb H4=>
      if b=true then te σ2 H4 λy H5=>H5 D=some (.lst ys)/\ys.length<sizeLine/\∃m',m'<m/\W (i+1) m' σ2 (upd H5 D (.lst (ys++[y]))) (ys++[y])
      else ∃m',m'<m/\W (i+1) m' σ2 H4 ys))) itv s)
 (fin:∀D C H' s' m,FpOk X pins H' C->s'.heap.Ns C m->(∀h'',Heap.SameBut C s'.heap h''->Inv X pins σ H' {s' with heap:=h''})->Q (.ref D) H'->RR (.ref D) C (.ok .next) s') :
 wpAny (model X.prog X.w) X.A (newList []) (λacc s₃=>wpAny (model X.prog X.w) X.A (newFunctionEnv scope X.env.globals (zb1 X.env.cells scope.names []) [] X.env.qual none .none (some X.env)) (λcenv s₄=>
  codeAny (model X.prog X.w) X.A (.compStart (.ListComp elt [⟨tg,iter,ifs,0⟩] scope pos) 0 itv acc {cenv with scope:=relabel scope X.env}) (RR acc cenv.locals) s₄) E s₃) E s:=by
 obtain⟨it,fp,tn,J,H1,e,I1,T,st1,f1,hq⟩:=h
 subst e
 have hD:H1 s.heap.objs.size=none:=I1.hok.fresh (vae _)
 have hKD:X.K.lookup s.heap.objs.size=none:=by
  cases e:X.K.lookup s.heap.objs.size with
  |none=>rfl
  |some o=>exact absurd (vaq (I1.kIn _ _ e)) (Nat.lt_irrefl _)
 obtain⟨W,⟨m0,w0⟩,turn⟩:=hq _ hD hKD
 have I3:Inv X pins σ (upd H1 s.heap.objs.size (.lst [])) {s with heap:=s.heap.push {cls:=.type "list",dict:=none,data:=.seq ([]:List Value).toArray}}:=
  I1.laid (t':=s.toks) (o:=.lst []) (λb u q=>vac _ q) (vae _) ⟨Nat.zero_le _,[],0,.nil,va0 _ rfl⟩
 have hlt1:∀b∈fp,b<s.heap.objs.size:=λb hb=>by
  obtain⟨o,ho,_⟩:=T.obj _ _ st1 b hb
  exact vaq ho
 have f3:∀b∈fp,FpOk X pins (upd H1 s.heap.objs.size (.lst [])) b:=λb hb=>⟨by rw[zae (va4 (hlt1 b hb))];exact(f1 b hb).1,(f1 b hb).2⟩
 refine wpAny_newObj_type (wpAny_newFunctionEnv S.nocell (by intro y hy;simp at hy) (λh₁ hns hsb=>?_) S.kind)
 dsimp only at hns hsb ⊢
 generalize hS3:({s with heap:=s.heap.push {cls:=.type "list",dict:=none,data:=.seq ([]:List Value).toArray}}:Shared)=s3 at I3
 have hh3:s3.heap=s.heap.push {cls:=.type "list",dict:=none,data:=.seq ([]:List Value).toArray}:=by rw[<-hS3]
 rw[<-hh3]at hns hsb ⊢
 have hk:∀b o,s3.heap.get? b=some o->h₁.get? b=some o:=λb o e=>hsb.extBut b o (va4 (vaq e)) (vac _ e)
 have hlt3:∀b∈fp,b<s3.heap.objs.size:=λb hb=>by rw[hh3,Heap.size_push];exact Nat.lt_succ_of_lt (hlt1 b hb)
 have J3:=zof S I3 f3 hlt3 (tk:=s.toks) hns hk
 have st3:tn 0 h₁:=T.keep _ _ _ st1 λb hb o e=>hk b o (by rw[hh3];exact vac _ e)
 have ex3:∀b∈fp,(X.comp (ow++fr) scope s3.heap.objs.size s3 (upd H1 s.heap.objs.size (.lst [])) fp).Ok->∀{H':Hp},H' b=none->FpOk (X.comp (ow++fr) scope s3.heap.objs.size s3 (upd H1 s.heap.objs.size (.lst [])) fp) [] H' b:=λb hb ok H' hn=>
  ⟨hn,(ok.exf b hb).1,ok.exfs b hb,.inl hb,(ok.exf b hb).2,λp hp=>by cases(show p∈([]:List (Addr×Obj))from hp)⟩
 have back:∀{σ':St}{H':Hp}{s':Shared},Inv (X.comp (ow++fr) scope s3.heap.objs.size s3 (upd H1 s.heap.objs.size (.lst [])) fp) [] σ' H' s'->∀h'',Heap.SameBut s3.heap.objs.size s'.heap h''->Inv X pins σ H' {s' with heap:=h''}:=λ{σ' H' s'} I' h'' hs=>by
  have neC:∀b o,s3.heap.get? b=some o->b≠s3.heap.objs.size:=λb o e=>va4 (vaq e)
  have un:Un (frs X.stack) fp (upd H1 s.heap.objs.size (.lst [])) H' s3.heap h'':=
   ⟨λb o e n hb hx=>(hs.2 b (neC b o e)).trans (I'.base.keep b o e n hb hx),λb o e n hb hx=>by
    obtain⟨sl,q⟩:=I'.base.slot b o e n hb hx
    exact⟨sl,(hs.2 b (neC b o e)).trans q⟩,I'.base.free,λb o e hx=>by
    obtain⟨o',q⟩:=I'.base.there b o e hx
    exact⟨o',(hs.2 b (neC b o e)).trans q⟩,I'.base.tups,I'.base.frzs,I'.base.tbls⟩
  have hok:HOk X.prog X.w H' h'':=λb ob e=>by
   refine(I'.hok b ob e).stay (λc w' hcc q=>(hs.2 c ?_).trans q) (λ_ q=>q) λ_ _ q=>q
   rintro rfl
   have hfree:=I'.free
   rcases hcc with rfl|hcc
   .rw[show H' s3.heap.objs.size=none from hfree]at e;cases e
   .rw[show H' s3.heap.objs.size=none from hfree]at hcc;cases hcc
  have hos:s'.os=s3.os:=I'.os
  exact I3.call' (s':={s' with heap:=h''}) (ch:=fp) hos un hok I'.bare λb hb=>by
   obtain⟨_,a1,a2,a3,a4,a5⟩:=f1 b hb
   exact⟨a3,a1,a4,a5⟩
 have loop:∀s4:Shared,Inv (X.comp (ow++fr) scope s3.heap.objs.size s3 (upd H1 s.heap.objs.size (.lst [])) fp) [] (cσ ow fr ix σ) (upd H1 s.heap.objs.size (.lst [])) s4->tn 0 s4.heap->
  codeAny (model X.prog X.w) X.A (.compLoop (.ListComp elt [⟨tg,iter,ifs,0⟩] scope pos) 0 (.ref it) (.ref s.heap.objs.size) (X.comp (ow++fr) scope s3.heap.objs.size s3 (upd H1 s.heap.objs.size (.lst [])) fp).env)
   (RR (.ref s.heap.objs.size) s3.heap.objs.size) s4:=by
  intro s4 I4 st4
  refine zcg (λn s'=>∃i σ' H' ys,Inv (X.comp (ow++fr) scope s3.heap.objs.size s3 (upd H1 s.heap.objs.size (.lst [])) fp) [] σ' H' s'/\tn i s'.heap/\(∀b∈fp,H' b=none)/\W i n σ' H' ys) ?_ m0 ⟨0,_,_,[],I4,st4,λb hb=>(f3 b hb).1,w0⟩
  rintro n s5 ⟨i,σ5,H5,ys,I5,st5,fr5,w5⟩
  obtain⟨hDl,alt⟩:=turn i n σ5 H5 ys w5
  rcases alt with⟨stop,q⟩|⟨go,step⟩
  .refine thn (T.done (X.comp (ow++fr) scope s3.heap.objs.size s3 (upd H1 s.heap.objs.size (.lst [])) fp) rfl rfl rfl hc i [] s5 σ5 H5 noX I5 (λb hb=>ex3 b hb I5.ok (fr5 b hb)) st5 stop) λr s6 hq0=>?_
   obtain⟨hr,I6⟩:=hq0
   subst hr
   obtain⟨m6,hn6,_⟩:=I6.loc
   exact fin _ _ H5 s6 m6 (I3.fpOk (vae _) I6.free) hn6 (back I6) q
  .refine thn (T.item (X.comp (ow++fr) scope s3.heap.objs.size s3 (upd H1 s.heap.objs.size (.lst [])) fp) rfl rfl rfl hc i [] s5 σ5 H5 noX I5 (λb hb=>ex3 b hb I5.ok (fr5 b hb)) st5 go) λr s6 hq0=>?_
   obtain⟨u,hr,h6⟩:=hq0
   subst hr
   refine thn h6 λ_ s7 hq0=>?_
   obtain⟨x,H7,I7,r7,y7,st7,fr7⟩:=hq0
   have I7':=I7.pinned (λb hb=>ex3 b hb I7.ok (fr7 b hb)) (T.obj _ _ st7)
   have again:∀{σ8:St}{H8:Hp}{s8:Shared}{zs:List V}{m':Nat},Inv (X.comp (ow++fr) scope s3.heap.objs.size s3 (upd H1 s.heap.objs.size (.lst [])) fp) ([]++zg4 fp s7.heap) σ8 H8 s8->m'<n->W (i+1) m' σ8 H8 zs->
    ∃m,m<n/\∃i σ' H' ys,Inv (X.comp (ow++fr) scope s3.heap.objs.size s3 (upd H1 s.heap.objs.size (.lst [])) fp) [] σ' H' s8/\tn i s8.heap/\(∀b∈fp,H' b=none)/\W i m σ' H' ys:=λ{σ8 H8 s8 zs m'} I8 hm w8=>by
    refine⟨m',hm,i+1,σ8,H8,zs,I8.unpinned,T.keep _ _ _ st7 λb hb o e=>(I8.pin (b,o) (List.mem_append_right _ (List.mem_append_right _ (zca hb e)))).1,λb hb=>?_,w8⟩
    obtain⟨o,e,d⟩:=T.obj _ _ st7 b hb
    exact(I8.pin (b,o) (List.mem_append_right _ (List.mem_append_right _ (zca hb e)))).2.1
   refine thn (hg _ _ _ _ _ s7 σ5 H7 x u _ I7' r7 (step x H7 y7)) λ_ s8 hq0=>?_
   obtain⟨σ8,H8,I8,q8⟩:=hq0
   refine thn (ht _ _ _ _ _ s8 σ8 H8 _ I8 q8) λok s9 z9=>z9.el λH9 I9 q9=>?_
   cases ok with
   |false=>
    simp only[vak,if_false]at q9 ⊢
    obtain⟨m',hm,w9⟩:=q9
    exact again I9 hm w9
   |true=>
    simp only[if_true]at q9 ⊢
    refine thn (he _ _ _ _ _ s9 σ8 H9 _ I9 q9) λy s10 hq0=>?_
    obtain⟨vy,H10,I10,ry,hD10,hz,m',hm,w10⟩:=hq0
    refine thn (zhc _ s10 σ8 H10 (.ref s.heap.objs.size) [vy] (.ref s.heap.objs.size) [y] (λv H'=>H'=upd H10 s.heap.objs.size (.lst (ys++[vy]))) I10 rfl (.cons ry .nil) ⟨_,ys,vy,rfl,rfl,hD10,hz,rfl⟩) λ_ s11 hq0=>?_
    obtain⟨v11,H11,I11,_,e11⟩:=hq0
    subst e11
    exact again I11 hm w10
 have J3':Inv (X.comp (ow++fr) scope s3.heap.objs.size s3 (upd H1 s.heap.objs.size (.lst [])) fp) [] (cσ ow fr ix σ) (upd H1 s.heap.objs.size (.lst [])) {s with heap:=h₁,toks:=s.toks}:=by
  rw[<-hS3]at J3 ⊢
  exact J3
 exact codeAny_compStart_list (loop _ J3' st3) (T.self _ 0 _ _ _ st3 (loop _ J3' st3))
theorem pe_lc(S:CompScope X ow fr ix scope)(hc:X.calm=true)(hi:PI X tg iter wi)
 (hg:∀C s₀ H₀ ex,PG (X.comp (ow++fr) scope C s₀ H₀ ex) tg g) (ht:∀C s₀ H₀ ex,PTs (X.comp (ow++fr) scope C s₀ H₀ ex) ifs tc) (he:∀C s₀ H₀ ex,PE (X.comp (ow++fr) scope C s₀ H₀ ex) elt te)
 (hs:∀x,foldedSetIterable iter X.env x=pure x:=by intro _;rfl):PE X (.ListComp elt [⟨tg,iter,ifs,0⟩] scope pos) (tLC X.K (cσ ow fr ix) wi g tc te):=by
 intro pins s σ H Q I h
 rw[eval_ListComp]
 refine wpAny_comprehension_free (use:=none) rfl hs (zct λy hy e=>I.ok.has _ (S.free y hy e)) S.kind S.names (thn (hi pins s σ H _ I h) λv s1 h1=>thn h1 λitv s2 h2=>?_)
 exact zfb (RR:=λacc C=>compPost (model X.prog X.w) X.A X.xe none (EP X pins σ Q) acc C) S hc hg ht he h2 λD C H' s' m _ hn hI q=>⟨m,hn,λh'' hs''=>⟨.ref D,H',hI h'' hs'',rfl,q⟩⟩
theorem zog{i:Nat}{y:Str}{py spos:Pos}(hN:X.N.Nodup)(hiy:X.N[i]?=some y)(hy:Loc X.env.scope y)(S:CompScope X ow fr ix scope)(hc:X.calm=true)(hi:PI X tg iter wi)
 (hg:∀C s₀ H₀ ex,PG (X.comp (ow++fr) scope C s₀ H₀ ex) tg g) (ht:∀C s₀ H₀ ex,PTs (X.comp (ow++fr) scope C s₀ H₀ ex) ifs tc) (he:∀C s₀ H₀ ex,PE (X.comp (ow++fr) scope C s₀ H₀ ex) elt te)
 (hsw:swapsWith (.ListComp elt [⟨tg,iter,ifs,0⟩] scope pos) (some (.Name y py)) spos.line X.env=pure true:=by rfl)
 (hf:X.fn y=true\/X.env.scope.names.lookup y=some .local:=by first|exact .inl rfl|exact .inr rfl|assumption)
 (hs:∀x,foldedSetIterable iter X.env x=pure x:=by intro _;rfl):PS X (.Assign [.Name y py] (.ListComp elt [⟨tg,iter,ifs,0⟩] scope pos) spos) (tAsg (tLC X.K (cσ ow fr ix) wi g tc te) (gName i)):=by
 intro pins s σ H D I h
 rw[exec_Assign_Name_used _ _ _ _ hsw]
 refine vaa (wpAny_standAt (vaa ?_))
 show wpAny _ X.A (do let _ <-comprehension (.ListComp elt [⟨tg,iter,ifs,0⟩] scope pos) scope X.env _ (newList []) false (eval iter X.env) (some (assign (.Name y py) X.env))) _ _ s
 refine vaa (wpAny_mono (wpAny_comprehension_free (use:=some (assign (.Name y py) X.env)) (Q:=λ_ s'=>SP X pins D .next s') rfl hs (zct λy hy e=>I.ok.has _ (S.free y hy e)) S.kind S.names
  (thn (hi pins s σ H _ I h) λv s1 h1=>thn h1 λitv s2 h2=>?_)) (λ_ s' hq=>vaj (vaj hq)) λ_ _ e=>e)
 refine zfb (Q:=λx H1=>gName i x σ H1 D.nx) (RR:=λacc C=>compPost (model X.prog X.w) X.A X.xe (some (assign (.Name y py) X.env)) (λ_ s'=>SP X pins D .next s') acc C) S hc hg ht he h2 λd C H' s' m hC hn hI q=>?_
 show wpAny _ X.A (assign (.Name y py) X.env (.ref d)) _ _ _
 have I':Inv X pins σ H' s':=by
  have z:=hI s'.heap (.refl ..)
  exact z
 refine wpAny_assign_Name (zg3 I' hN hiy hy (v:=.ref d) rfl (λs'' I'' ⟨a,hsb,ha⟩=>?_) hf)
 obtain⟨c0,c1,c2,c3,c4,c5⟩:=hC
 have hCa:C≠a:=by
  rcases ha with rfl|ha
  .exact c1
  .exact λz=>c4 _ _ ha z.symm
 refine⟨m,hn.sameBut hsb hCa,λh'' hs''=>⟨_,H',I''.turned (t':=s''.toks) (it:=C) (λb o hb e=>(hs''.2 b hb).trans e) c0 c1 c3 c4 c5,q⟩⟩
end
end L2
set_option maxHeartbeats 4000000
namespace XL
open PySem PySem.W PySem.Spec PyProof.Rows
end XL
namespace XL
open PySem PySem.W PySem.Spec PyProof.Rows
end XL
namespace XL
open PySem PySem.W PySem.Spec PyProof.Rows
end XL
namespace L2
open PySem PySem.Spec PyProof.Rows
mutual
inductive Rp(K:PySem.W.Frag)(M:Addr->Prop)(H:Hp):V->PyData->Prop
 |non:Rp K M H .non .none
 |bl (b:Bool):Rp K M H (.bl b) (.bool b)
 |int (i:Int):Rp K M H (.int i) (.int i)
 |str (x:Str):Rp K M H (.str x) (.str x)
 |tup {a:Addr} {xs:List V} {ds:List PyData}:SqT K H a xs->¬M a->Rps K M H xs ds->Rp K M H (.ref a) (.tuple ds)
 |lst {a:Addr} {xs:List V} {ds:List PyData}:SqL K H a xs->¬M a->Rps K M H xs ds->Rp K M H (.ref a) (.list ds)
inductive Rps(K:PySem.W.Frag)(M:Addr->Prop)(H:Hp):List V->List PyData->Prop
 |nil:Rps K M H [] []
 |cons {x:V} {d:PyData} {xs:List V} {ds:List PyData}:Rp K M H x d->Rps K M H xs ds->Rps K M H (x::xs) (d::ds)
end
section
variable{X:Cx}{pins:List (Addr×Obj)}{σ:St}{H:Hp}{s:Shared}{M:Addr->Prop}
mutual
theorem Rp.reads(I:Inv X pins σ H s):∀{x:V} {d:PyData} {u:Value},Rp X.K M H x d->RelV x u->∃as,Reads s.heap u d as
 |_,_,_,.non,r=>by cases r;exact⟨_,.none⟩
 |_,_,_,.bl b,r=>by cases r;exact⟨_,.bool b⟩
 |_,_,_,.int i,r=>by obtain⟨t,rfl⟩:=r;exact⟨_,.int i t⟩
 |_,_,_,.str x,r=>by obtain⟨t,rfl⟩:=r;exact⟨_,.str x t⟩
 |_,_,_,.tup h n rr,r=>by
  cases r
  obtain⟨its,rv,p,_⟩:=I.tuple h
  obtain⟨o,ho,hc,m,hd⟩:=p
  obtain⟨as,ra⟩:=Rps.reads I rr rv
  exact⟨_,.tuple ho hc hd (by simpa using ra)⟩
 |_,_,_,.lst h n rr,r=>by
  cases r
  obtain⟨its,rv,p,_⟩:=I.list h
  obtain⟨o,m,ho,hc,_,hd⟩:=p
  obtain⟨as,ra⟩:=Rps.reads I rr rv
  exact⟨_,.list ho hc hd (by simpa using ra)⟩
theorem Rps.reads(I:Inv X pins σ H s):∀{xs:List V} {ds:List PyData} {us:List Value},Rps X.K M H xs ds->Vals xs us->∃as,ReadsAll s.heap us ds as
 |_,_,_,.nil,.nil=>⟨_,.nil⟩
 |_,_,_,.cons r t,.cons q v=>by
  obtain⟨as,h1⟩:=Rp.reads I r q
  obtain⟨bs,h2⟩:=Rps.reads I t v
  exact⟨_,.cons h1 h2⟩
end
noncomputable def rEqD(K:PySem.W.Frag):R2:=λx y H Q=>∃d e,Rp K (λ_=>False) H x d/\Rp K (λ_=>False) H y e/\SeqAt.shaped d=true/\SeqAt.shaped e=true/\Q (.bl (PyData.eqv d e)) H
noncomputable def rNeD(K:PySem.W.Frag):R2:=λx y H Q=>∃d e,Rp K (λ_=>False) H x d/\Rp K (λ_=>False) H y e/\SeqAt.shaped d=true/\SeqAt.shaped e=true/\Q (.bl (!PyData.eqv d e)) H
theorem zun(hu:X.A.units+64<cLine):OpR X (compareOp .Eq) (rEqD X.K):=by
 intro pins s σ H x y v u Q I rx ry h
 obtain⟨d,e,r1,r2,s1,s2,q⟩:=h
 obtain⟨as,ra⟩:=r1.reads I rx
 obtain⟨bs,rb⟩:=r2.reads I ry
 exact PyProof.Rows.eq_dataH ra rb s1 s2 hu ⟨.bl _,H,I,rfl,q⟩
theorem zuo(hu:X.A.units+64<cLine):OpR X (compareOp .NotEq) (rNeD X.K):=by
 intro pins s σ H x y v u Q I rx ry h
 obtain⟨d,e,r1,r2,s1,s2,q⟩:=h
 obtain⟨as,ra⟩:=r1.reads I rx
 obtain⟨bs,rb⟩:=r2.reads I ry
 exact PyProof.Rows.ne_dataH ra rb s1 s2 hu ⟨.bl _,H,I,rfl,q⟩
end
noncomputable def IteL(K:PySem.W.Frag)(a:Addr):It:=
 ⟨λi H=>∃xs x,SqL K H a xs/\xs[i]?=some x,λi H x H'=>∃T v,x=.ref T/\H T=none/\H'=upd H T (.tup [.int i,v])/\∀xs,SqL K H a xs->xs[i]?=some v,λi H=>∃xs,SqL K H a xs/\xs.length<=i⟩
theorem zkt{P:Program}{w:World}{K:PySem.W.Frag}{elts:List Expr}{kx:Nat}{tp:Pos}(a e it:Addr)(hei:e≠it) :
 Turn P w K (.Tuple elts kx tp) (IteL K a) [e,it] e (λi h=>(∃old,IsEnum h e it i old)/\h.IsListIter it a i)where
 mem:=by simp
 obj:=λi h st b hb=>by
  obtain⟨⟨old,he⟩,o,ho,hc,hd⟩:=st
  rcases va2.mp hb with rfl|hb
  .exact⟨_,he,λv z=>by
    have z':Data.fields _=Data.cell v:=z
    cases z'⟩
  .have e':b=it:=by simpa using hb
   subst e'
   exact⟨o,ho,λv z=>by rw[hd]at z;cases z⟩
 keep:=λi h h' st k=>by
  obtain⟨⟨old,he⟩,st⟩:=st
  exact⟨⟨old,k e (by simp) _ he⟩,st.at λo q=>k it (by simp) o q⟩
 item:=by
  intro X hP hw hK hc i pins s σ H E I hf st hg
  subst hP hw hK
  obtain⟨xs,x,hq,hx⟩:=hg
  obtain⟨⟨old,he⟩,st⟩:=st
  obtain⟨its,rv,p,hz⟩:=I.list hq
  obtain⟨u,hu,ru⟩:=rv.get hx
  refine wpAny_pyNext_enum_item he st p.isList (x:=u) (by simpa using hu) hei λh1 ho hit hT hsz hk=>?_
  refine⟨_,rfl,wpAny_letOwnedTupleGo_enum ho λh2 he2 hs2=>?_⟩
  have hTn:H s.heap.objs.size=none:=I.hok.fresh (vae _)
  have hTe:s.heap.objs.size≠e:=Nat.ne_of_gt (vaq he)
  have hTi:s.heap.objs.size≠it:=by
   obtain⟨o,q,_⟩:=st
   exact Nat.ne_of_gt (vaq q)
  have hs2:Heap.SameBut e h1 h2:=hs2
  have kk:∀b o,b≠e->b≠it->s.heap.get? b=some o->h2.get? b=some o:=λb o h1 h2 q=>(hs2.2 b h1).trans (hk b o h1 h2 q)
  have f0:=λb hb=>(hf b hb).1
  have nE:∀b o,H b=some o->b≠e/\b≠it:=λb o q=>⟨λz=>(by rw[z,f0 e (by simp)]at q;cases q),λz=>(by rw[z,f0 it (by simp)]at q;cases q)⟩
  have hT2:h2.get? s.heap.objs.size=some {cls:=.type "tuple",data:=.seq #[.int i s.toks,u]}:=(hs2.2 _ hTe).trans hT
  have I2:Inv X pins σ (upd H s.heap.objs.size (.tup [.int i,x])) {s with heap:=h2,gens:=s.gens,drawn:=s.drawn,toks:=s.toks+1}:=by
   refine I.step (ch:=[e,it]) (λb hb=>?_) (λb o _ _ hc e1 _=>kk b o (λz=>hc (by simp[z])) (λz=>hc (by simp[z])) e1) (λb o _ _ hc e1 _=>⟨o.slots,kk b o (λz=>hc (by simp[z])) (λz=>hc (by simp[z])) e1⟩)
    (λb o hc e1 n=>by rw[zae (va4 (vaq e1))];exact n) (λb o hc e1=>⟨o,kk b o (λz=>hc (by simp[z])) (λz=>hc (by simp[z])) e1⟩)
    (λb ys q=>by rw[zae (zac q hTn)];exact q) (λb o u q=>by rw[zae (zac q hTn)];exact q) (λb ps q=>⟨#[],by rw[zae (zac q hTn),q];simp⟩) (λm hm=>?_) (λb ob q=>?_) I.bare
   .obtain⟨_,a1,a2,a3,a4,a5⟩:=hf b hb
    exact⟨a3,a1,a4,a5⟩
   .obtain⟨o,es,ep,ho',r⟩:=hm
    exact⟨o,es,ep,kk _ o (Ne.symm (hf e (by simp)).2.1) (Ne.symm (hf it (by simp)).2.1) ho',r⟩
   .by_cases hb:b=s.heap.objs.size
    .subst hb
     rw[zak]at q;cases q
     exact⟨by show 2<=sizeLine;decide,[.int i s.toks,u],.cons ⟨_,rfl⟩ (.cons ru .nil),⟨_,hT2,rfl,⟨_,rfl⟩,rfl⟩⟩
    .rw[zae hb]at q
     refine(I.hok b ob q).stay (λc v hc z=>kk c v ?_ ?_ z) (λc z=>by rw[zae (zac z hTn)];exact z) λc ys z=>by rw[zae (zac z hTn)];exact z
     .rcases hc with rfl|hc
      .exact(nE c ob q).1
      .exact(nE c _ hc).1
     .rcases hc with rfl|hc
      .exact(nE c ob q).2
      .exact(nE c _ hc).2
  refine⟨.ref s.heap.objs.size,_,I2,rfl,⟨_,x,rfl,hTn,rfl,λys hy=>by rw[I.list_inj hy hq];exact hx⟩,⟨⟨u,by simpa using he2⟩,hit.at λo q=>(hs2.2 it (Ne.symm hei)).trans q⟩,λb hb=>?_⟩
  rw[zae ?_]
  .exact f0 b hb
  .rcases va2.mp hb with rfl|hb
   .exact Ne.symm hTe
   .have e':b=it:=by simpa using hb
    subst e'
    exact Ne.symm hTi
 done:=by
  intro X hP hw hK hc i pins s σ H E I hf st hg
  subst hP hw hK
  obtain⟨xs,hq,hx⟩:=hg
  obtain⟨⟨old,he⟩,st⟩:=st
  obtain⟨its,rv,p,hz⟩:=I.list hq
  obtain⟨f0,f1,f2,f3,f4,f5⟩:=hf it (by simp)
  have hl:=rv.length
  exact wpAny_pyNext_enum_end (I.ok.hd hc) he st p.isList (by simp;omega) λh' eb=>⟨rfl,I.turned (t':=s.toks) (λb o hb q=>eb b o hb q) f0 f1 f3 f4 f5⟩
 self:=λ_ _ _ _ _ st h=>by
  obtain⟨⟨old,he⟩,_⟩:=st
  exact wpAny_pyIter_enum he h
noncomputable def zup(K:PySem.W.Frag)(ta:TA):TI:=λσ H R=>ta σ H λvs H1=>∃a,vs=[.ref a]/\(∃xs,SqL K H1 a xs)/\R (IteL K a) H1
theorem zjf{X:Cx}{elts:List Expr}{kx:Nat}{tp:Pos}{l:Expr}{ta:TA}{p pos:Pos}(hg:Gl X "enumerate")(hm:X.mg "enumerate" = none)(hv:bootBuiltins "enumerate" = some (.type "enumerate"))(ha:PA X [l] ta)(hs:starEach [l] X.env=[(false,eval l X.env)]:=by rfl) :
 PI X (.Tuple elts kx tp) (.Call (.Name "enumerate" p) [l] [] pos) (zup X.K ta):=by
 intro pins s σ H R I h
 refine Call_ (zcq I hg hm hv (PyProof.Rows.callWith_type1 (thn (ha pos pins s σ H _ I h) λus s1 z9=>z9.el λvs H1 I1 r1 q1=>?_) hs rfl))
 obtain⟨a,e,⟨xs,hq⟩,q⟩:=q1
 subst e
 obtain⟨u,rfl,ru⟩:=vals1 r1
 cases ru
 obtain⟨its,rv,pl,hz⟩:=I1.list hq
 refine call_enumerate_list pl.isList λh' he hit hsz kk=>wpAny_pyIter_enum he ?_
 have hf:∀b,s1.heap.objs.size<=b->FpOk X pins H1 b:=λb hb=>I1.fpOk hb (I1.hok.fresh hb)
 refine⟨s1.heap.objs.size+1,[s1.heap.objs.size+1,s1.heap.objs.size],_,_,H1,rfl,I1.kept (t':=s1.toks) kk,zkt a _ _ (Nat.ne_of_gt (Nat.lt_succ_self _)),⟨⟨_,he⟩,hit⟩,λb hb=>hf b ?_,q⟩
 rcases va2.mp hb with rfl|hb
 .exact Nat.le_succ _
 .have e':b=s1.heap.objs.size:=by simpa using hb
  rw[e'];exact vae _
section
variable{prog:Program}{w:World}{A:Around}{E:Value->Shared->Prop}{s:Shared}
theorem zfc{I t:Addr}{k:Nat}{its:Array Value}{y:Value}{Q:Value->Shared->Prop}(hi:s.heap.IsTupleIter I t k)(ht:s.heap.IsTuple t its)(hy:its[k]?=some y)
 (q:∀g,g.IsTupleIter I t (k+1)->Heap.SameBut I s.heap g->Q y {s with heap:=g}):wpAny (model prog w) A (Builtin.SmallTypes.nextOf (.ref I)) Q E s:=by
 obtain⟨oi,e1,e2,e3⟩:=id hi
 obtain⟨ot,e4,_,kt,e5⟩:=ht
 unfold Builtin.SmallTypes.nextOf
 refine vaa (wpAny_callSpecial?_slot (name:=Str.ofString "__next__") hi.typeIs F.slot_tuple_iterator_next (wpAny_call_entry F.slot_tuple_iterator_next hi.typeIs F.entry_tuple_iterator_next ?_ (F.args_tuple_iterator_next_1 _)))
 show wpAny _ _ (field (.ref I) 0 >>= _) _ _ s
 refine vaa (wpAny_field e1 e3 (x:=.ref t) rfl ?_)
 show wpAny _ _ (if(Value.ref t==Value.none)=true then _ else _) _ _ s
 rw[if_neg (show ¬((Value.ref t==Value.none)=true)from λz=>nomatch z)]
 show wpAny _ _ (field (.ref I) 1 >>= _) _ _ s
 refine vaa (wpAny_field e1 e3 (x:=.int k 0) rfl ?_)
 show wpAny _ _ (seqItems? (.ref t) >>= _) _ _ s
 refine vaa (wpAny_seqItems e4 e5 ?_)
 simp only[Int.toNat_natCast,hy]
 refine vaa (wpAny_setField e1 e3 (by simp) (vaj ⟨y,rfl,vaj (q _ ?_ (Heap.SameBut.update ..))⟩))
 refine⟨_,Heap.get?_update_self _ e1 (Obj.isFreed_of_fields (Obj.data_mapFields e3 _)),(Obj.cls_mapFields ..).trans e2,?_⟩
 rw[Obj.data_mapFields e3]
 simp[rawInt]
theorem zed{I t:Addr}{k:Nat}{its:Array Value}{Q:Value->Shared->Prop}(hA:A.handled=none)(hi:s.heap.IsTupleIter I t k)(ht:s.heap.IsTuple t its)(hy:its[k]?=none)
 (q:∀g e,Heap.ExtBut I s.heap g->(∃o,g.get? e=some o/\o.cls=.type "StopIteration")->E (.ref e) {s with heap:=g}):wpAny (model prog w) A (Builtin.SmallTypes.nextOf (.ref I)) Q E s:=by
 obtain⟨oi,e1,e2,e3⟩:=id hi
 obtain⟨ot,e4,_,kt,e5⟩:=ht
 unfold Builtin.SmallTypes.nextOf
 refine vaa (wpAny_callSpecial?_slot (name:=Str.ofString "__next__") hi.typeIs F.slot_tuple_iterator_next (wpAny_call_entry F.slot_tuple_iterator_next hi.typeIs F.entry_tuple_iterator_next ?_ (F.args_tuple_iterator_next_1 _)))
 show wpAny _ _ (field (.ref I) 0 >>= _) _ _ s
 refine vaa (wpAny_field e1 e3 (x:=.ref t) rfl ?_)
 show wpAny _ _ (if(Value.ref t==Value.none)=true then _ else _) _ _ s
 rw[if_neg (show ¬((Value.ref t==Value.none)=true)from λz=>nomatch z)]
 show wpAny _ _ (field (.ref I) 1 >>= _) _ _ s
 refine vaa (wpAny_field e1 e3 (x:=.int k 0) rfl ?_)
 show wpAny _ _ (seqItems? (.ref t) >>= _) _ _ s
 refine vaa (wpAny_seqItems e4 e5 ?_)
 simp only[Int.toNat_natCast,hy]
 refine vaa (wpAny_rule (vaa (wpAny_setField e1 e3 (by simp) ?_)))
 show wpAny _ _ (newExc (.type "StopIteration") [] >>= _) _ _ _
 refine vaa ?_
 simp only[newExc,newTuple]
 refine vaa (wpAny_newObj_type ?_ (by size_fits))
 refine vaa (m:=firstArgMember _ _) (wpAny_of_eq (a:=Value.none) (by first|rfl|(simp only[firstArgMember];rfl)) ?_)
 refine wpAny_newObj_type ?_ (by size_fits)
 simp only[raiseNew]
 refine vaa (wpAny_handled ?_)
 first|rw[show A.in1.handled=none from hA]|rw[hA]
 refine vaa (vaj (wpAny_throw ?_))
 exact q _ _ (((Heap.SameBut.update ..).extBut.push _).push _) ⟨_,va0 _ rfl,rfl⟩
end
theorem zjg{h h':Heap}{a:Addr}{its:Array Value}(x:h.IsTuple a its)(e:∀o,h.get? a=some o->h'.get? a=some o):h'.IsTuple a its:=let⟨o,ho,r⟩:=x;⟨o,e _ ho,r⟩
theorem zuq{prog:Program}{w:World}{A:Around}(hA:A.handled=none)(I t:Addr)(hne:t≠I)(its:Array Value) :
 Draws prog w A I [I,t] its.size (λi v=>its[i]?=some v) (λi h=>h.IsTupleIter I t i/\h.IsTuple t its)where
 live:=λ_ _ st=>let⟨o,ho,_⟩:=st.1;⟨o,ho⟩
 frame:=λ_ _ _ st hk=>⟨st.1.at λo e=>hk I (by simp) o e,zjg st.2 λo e=>hk t (by simp) o e⟩
 item:=λi s Q E hi st q=>zfc st.1 st.2 (y:=its[i]) (by simp[hi]) λg a b=>q _ g s.toks (by simp[hi]) ⟨a,st.2.extBut b.extBut hne⟩ b
 done:=λs Q E st q=>zed hA st.1 st.2 (by simp) q
theorem zig(l:Addr)(its:Array Value)(n:Nat)(dc:Option Addr)(sl:Array (Option Value)) :
 Meets (Builtin.«enumerate.__new__» ⟨[.type "enumerate",.ref l],[]⟩) (λ_ R s=>s.heap.get? l=some {cls:=.type "tuple",dict:=dc,data:=.seq its n,slots:=sl}/\
  R (.ok (.ret (.ref (s.heap.push {cls:=.type "tuple_iterator",data:=.fields #[.ref l,.int 0 0]}).objs.size)))
   {s with heap:=(s.heap.push {cls:=.type "tuple_iterator",data:=.fields #[.ref l,.int 0 0]}).push {cls:=.type "enumerate",data:=.fields #[.none,.bool false,.ref s.heap.objs.size,rawInt 0,.none,.none]}}):=
 .of_wp λprog w A R s h=>by
  obtain⟨hp,g,d,tk,os⟩:=s
  obtain⟨e,h⟩:=h
  have hsub:=sub_enumerate
  have hT:Heap.IsTuple (Shared.heap ⟨hp,g,d,tk,os⟩) l its:=⟨_,e,rfl,n,rfl⟩
  wp_walk using AutoSeq1.wpAny_loadPart' e
  refine wpAny_stack_any λst=>vaj ?_
  split
  .rename_i c _ _ _ _ _
   cases(c==Value.type "enumerate")<;> (wp_walk using AutoSeq1.wpAny_loadPart' e,wpAny_pyIter_tuple hT;exact⟨_,rfl,h⟩)
  .wp_walk using AutoSeq1.wpAny_loadPart' e,wpAny_pyIter_tuple hT
   exact⟨_,rfl,h⟩
theorem zku{prog:Program}{w:World}{A:Around}{E:Value->Shared->Prop}{s:Shared}{l:Addr}{its:Array Value}{Q:Value->Shared->Prop}(hL:s.heap.IsTuple l its)
 (h:∀g,IsEnum g (s.heap.objs.size+1) s.heap.objs.size 0 .none->g.IsTupleIter s.heap.objs.size l 0->g.objs.size=s.heap.objs.size+2->(∀b o,s.heap.get? b=some o->g.get? b=some o)->Q (.ref (s.heap.objs.size+1)) {s with heap:=g}) :
 wpAny (model prog w) A (call (.type "enumerate") [.ref l]) Q E s:=by
 obtain⟨⟨c,dc,dt,sl⟩,e1,e2,n,e3⟩:=hL
 replace e2:c=.type "tuple":=e2
 replace e3:dt=.seq its n:=e3
 subst e2 e3
 refine callType_new F.called_enumerate (by decide) (F.typeCall_enumerate_1 _) (F.newCall_enumerate_1 _) (λobj=>F.args_object_init_2 obj _) F.entry_enumerate_new (zig l its n dc sl) ⟨e1,?_⟩
 have hz:(s.heap.push {cls:=.type "tuple_iterator",data:=.fields #[.ref l,.int 0 0]}).objs.size=s.heap.objs.size+1:=Heap.size_push ..
 show _/\_
 rw[hz]
 have he:IsEnum ((s.heap.push {cls:=.type "tuple_iterator",data:=.fields #[.ref l,.int 0 0]}).push {cls:=.type "enumerate",data:=.fields #[.none,.bool false,.ref s.heap.objs.size,rawInt 0,.none,.none]}) (s.heap.objs.size+1) s.heap.objs.size 0 .none:=by
  rw[<-hz]
  exact va0 _ rfl
 exact⟨⟨_,he,rfl⟩,h _ he ⟨_,vac _ (va0 _ rfl),rfl,rfl⟩ (by rw[Heap.size_push,hz]) λb o x=>vac _ (vac _ x)⟩
noncomputable def IteT(K:PySem.W.Frag)(a:Addr):It:=
 ⟨λi H=>∃xs x,SqT K H a xs/\xs[i]?=some x,λi H x H'=>∃T v,x=.ref T/\H T=none/\H'=upd H T (.tup [.int i,v])/\∀xs,SqT K H a xs->xs[i]?=some v,λi H=>∃xs,SqT K H a xs/\xs.length<=i⟩
theorem zkv{P:Program}{w:World}{K:PySem.W.Frag}{elts:List Expr}{kx:Nat}{tp:Pos}(a e it:Addr)(hei:e≠it)(hae:a≠e)(hai:a≠it) :
 Turn P w K (.Tuple elts kx tp) (IteT K a) [e,it] e (λi h=>(∃old,IsEnum h e it i old)/\h.IsTupleIter it a i)where
 mem:=by simp
 obj:=λi h st b hb=>by
  obtain⟨⟨old,he⟩,o,ho,hc,hd⟩:=st
  rcases va2.mp hb with rfl|hb
  .exact⟨_,he,λv z=>by
    have z':Data.fields _=Data.cell v:=z
    cases z'⟩
  .have e':b=it:=by simpa using hb
   subst e'
   exact⟨o,ho,λv z=>by rw[hd]at z;cases z⟩
 keep:=λi h h' st k=>by
  obtain⟨⟨old,he⟩,st⟩:=st
  exact⟨⟨old,k e (by simp) _ he⟩,st.at λo q=>k it (by simp) o q⟩
 item:=by
  intro X hP hw hK hc i pins s σ H E I hf st hg
  subst hP hw hK
  obtain⟨xs,x,hq,hx⟩:=hg
  obtain⟨⟨old,he⟩,st⟩:=st
  obtain⟨its,rv,p,hz⟩:=I.tuple hq
  obtain⟨u,hu,ru⟩:=rv.get hx
  have hd:X.A.in1.handled=none:=I.ok.hd hc
  have p:s.heap.IsTuple a its.toArray:=p
  refine wpAny_pyNext_enum_itemD (zuq hd it a hai its.toArray) he ⟨st,p⟩ (by
   have:i<its.length:=by
    rw[<-rv.length]
    exact(vav.mp hx).1
   simpa using this) hei (by simp[hei,Ne.symm hae]) λx' h1 tk hx' ho hit hT hsz hk=>?_
  obtain rfl:u=x':=by
   have:its[i]?=some x':=by simpa using hx'
   rw[hu]at this
   cases this;rfl
  refine⟨_,rfl,wpAny_letOwnedTupleGo_enum ho λh2 he2 hs2=>?_⟩
  have hTn:H s.heap.objs.size=none:=I.hok.fresh (vae _)
  have hTe:s.heap.objs.size≠e:=Nat.ne_of_gt (vaq he)
  have hTi:s.heap.objs.size≠it:=by
   obtain⟨o,q,_⟩:=st
   exact Nat.ne_of_gt (vaq q)
  have hs2:Heap.SameBut e h1 h2:=hs2
  have kk:∀b o,b≠e->b≠it->s.heap.get? b=some o->h2.get? b=some o:=λb o h1 h2 q=>(hs2.2 b h1).trans (hk b o h1 h2 q)
  have f0:=λb hb=>(hf b hb).1
  have nE:∀b o,H b=some o->b≠e/\b≠it:=λb o q=>⟨λz=>(by rw[z,f0 e (by simp)]at q;cases q),λz=>(by rw[z,f0 it (by simp)]at q;cases q)⟩
  have hT2:h2.get? s.heap.objs.size=some {cls:=.type "tuple",data:=.seq #[.int i tk,u]}:=(hs2.2 _ hTe).trans hT
  have I2:Inv X pins σ (upd H s.heap.objs.size (.tup [.int i,x])) {s with heap:=h2,gens:=s.gens,drawn:=s.drawn,toks:=tk+1}:=by
   refine I.step (ch:=[e,it]) (λb hb=>?_) (λb o _ _ hc e1 _=>kk b o (λz=>hc (by simp[z])) (λz=>hc (by simp[z])) e1) (λb o _ _ hc e1 _=>⟨o.slots,kk b o (λz=>hc (by simp[z])) (λz=>hc (by simp[z])) e1⟩)
    (λb o hc e1 n=>by rw[zae (va4 (vaq e1))];exact n) (λb o hc e1=>⟨o,kk b o (λz=>hc (by simp[z])) (λz=>hc (by simp[z])) e1⟩)
    (λb ys q=>by rw[zae (zac q hTn)];exact q) (λb o u q=>by rw[zae (zac q hTn)];exact q) (λb ps q=>⟨#[],by rw[zae (zac q hTn),q];simp⟩) (λm hm=>?_) (λb ob q=>?_) I.bare
   .obtain⟨_,a1,a2,a3,a4,a5⟩:=hf b hb
    exact⟨a3,a1,a4,a5⟩
   .obtain⟨o,es,ep,ho',r⟩:=hm
    exact⟨o,es,ep,kk _ o (Ne.symm (hf e (by simp)).2.1) (Ne.symm (hf it (by simp)).2.1) ho',r⟩
   .by_cases hb:b=s.heap.objs.size
    .subst hb
     rw[zak]at q;cases q
     exact⟨by show 2<=sizeLine;decide,[.int i tk,u],.cons ⟨_,rfl⟩ (.cons ru .nil),⟨_,hT2,rfl,⟨_,rfl⟩,rfl⟩⟩
    .rw[zae hb]at q
     refine(I.hok b ob q).stay (λc v hc z=>kk c v ?_ ?_ z) (λc z=>by rw[zae (zac z hTn)];exact z) λc ys z=>by rw[zae (zac z hTn)];exact z
     .rcases hc with rfl|hc
      .exact(nE c ob q).1
      .exact(nE c _ hc).1
     .rcases hc with rfl|hc
      .exact(nE c ob q).2
      .exact(nE c _ hc).2
  refine⟨.ref s.heap.objs.size,_,I2,rfl,⟨_,x,rfl,hTn,rfl,λys hy=>by rw[I.tuple_inj hy hq];exact hx⟩,⟨⟨u,by simpa using he2⟩,hit.1.at λo q=>(hs2.2 it (Ne.symm hei)).trans q⟩,λb hb=>?_⟩
  rw[zae ?_]
  .exact f0 b hb
  .rcases va2.mp hb with rfl|hb
   .exact Ne.symm hTe
   .have e':b=it:=by simpa using hb
    subst e'
    exact Ne.symm hTi
 done:=by
  intro X hP hw hK hc i pins s σ H E I hf st hg
  subst hP hw hK
  obtain⟨xs,hq,hx⟩:=hg
  obtain⟨⟨old,he⟩,st⟩:=st
  obtain⟨its,rv,p,hz⟩:=I.tuple hq
  obtain⟨f0,f1,f2,f3,f4,f5⟩:=hf it (by simp)
  have hl:=rv.length
  have hd:X.A.in1.handled=none:=I.ok.hd hc
  have p:s.heap.IsTuple a its.toArray:=p
  refine PySem.wpAny_pyNext_enum_endD (n:=0) (P:=λ_ _=>True) (St:=λ_ h=>h.IsTupleIter it a i/\h.IsTuple a its.toArray) (fp:=[it,a]) ⟨?_,?_,?_,?_⟩ he ⟨st,p⟩ λh' eb=>⟨rfl,I.turned (t':=s.toks) (λb o hb q=>eb b o hb q) f0 f1 f3 f4 f5⟩
  .exact λ_ _ st=>let⟨o,ho,_⟩:=st.1;⟨o,ho⟩
  .exact λ_ _ _ st hk=>⟨st.1.at λo e=>hk it (by simp) o e,zjg st.2 λo e=>hk a (by simp) o e⟩
  .exact λj s' Q' E' hj=>absurd hj (Nat.not_lt_zero _)
  .exact λs' Q' E' st' q'=>zed hd st'.1 st'.2 (by simp;omega) q'
 self:=λ_ _ _ _ _ st h=>by
  obtain⟨⟨old,he⟩,_⟩:=st
  exact wpAny_pyIter_enum he h
section
variable{X:Cx}
noncomputable def zpp(K:PySem.W.Frag):R2:=λx y H Q=>∃a b ys,x=.ref a/\y=.ref b/\SqT K H a []/\SqT K H b ys/\Q (.ref b) H
theorem zoh:OpR X (binaryOp .Add) (zpp X.K):=by
 intro pins s σ H x y v u Q I rx ry h
 obtain⟨a,b,ys,rfl,rfl,ha,hb,q⟩:=h
 cases rx
 cases ry
 obtain⟨its,r1,p1,_⟩:=I.tuple ha
 obtain⟨its2,r2,p2,_⟩:=I.tuple hb
 cases r1
 obtain⟨⟨c,dd,dt,sl⟩,e1,e2,n,e3⟩:=p1
 obtain⟨⟨c2,dd2,dt2,sl2⟩,f1,f2,n2,f3⟩:=p2
 replace e2:c=.type "tuple":=e2
 replace e3:dt=.seq ([]:List Value).toArray n:=e3
 replace f2:c2=.type "tuple":=f2
 replace f3:dt2=.seq its2.toArray n2:=f3
 subst e2 e3 f2 f3
 exact concat_meets ⟨_,e1,rfl⟩ ⟨_,f1,rfl⟩ noFill_tuple_add seq_tuple_add PySem.F.slot_tuple_add PySem.F.entry_tuple_add (PySem.F.args_tuple_add_2 _ _) (tuple_addW0 a b ([]:List Value).toArray its2.toArray n n2 dd dd2 sl sl2 rfl) ⟨e1,f1,⟨.ref b,H,I,rfl,q⟩⟩
noncomputable def anyEq(ds:List PyData)(d:PyData):Bool:=ds.any λe=>PyData.eqv e d
noncomputable def rInD(K:PySem.W.Frag)(neg:Bool):R2:=λx y H Q=>∃p xs ds d,y=.ref p/\(SqL K H p xs\/SqT K H p xs)/\Rps K (λ_=>False) H xs ds/\Rp K (λ_=>False) H x d/\ds.all SeqAt.shaped=true/\SeqAt.shaped d=true/\Q (.bl (if neg then !anyEq ds d else anyEq ds d)) H
theorem zb3{h:Heap}:∀{us:List Value} {ds:List PyData} {as:List Addr} {i:Nat} {u:Value},ReadsAll h us ds as->us[i]?=some u->∃d bs,ds[i]?=some d/\Reads h u d bs
 |_,_,_,i,u,.nil,e=>by simp at e
 |_,_,_,0,u,.cons r _,e=>by simp at e;subst e;exact⟨_,_,rfl,r⟩
 |_,_,_,i+1,u,.cons _ rs,e=>by
  obtain⟨d,bs,h1,h2⟩:=zb3 rs (by simpa using e)
  exact⟨d,bs,by simpa using h1,h2⟩
open Classical in
noncomputable def eqOf(us:List Value)(ds:List PyData)(d:PyData)(u:Value):Bool:=decide (∃(i:Nat) (e:PyData),us[i]?=some u/\ds[i]?=some e/\PyData.eqv e d=true)
open Classical in
theorem zdv{us:List Value}{ds:List PyData}{d:PyData}{u:Value}:eqOf us ds d u=true↔∃(i:Nat) (e:PyData),us[i]?=some u/\ds[i]?=some e/\PyData.eqv e d=true:=by
 unfold eqOf
 exact decide_eq_true_iff
theorem zdw{us:List Value}{ds:List PyData}{d:PyData}(hl:us.length=ds.length):us.any (eqOf us ds d)=anyEq ds d:=by
 cases q:anyEq ds d with
 |true=>
  unfold anyEq at q
  rw[List.any_eq_true]at q
  obtain⟨e,h1,h2⟩:=q
  obtain⟨i,hi,h3⟩:=List.mem_iff_getElem.mp h1
  rw[List.any_eq_true]
  refine⟨us[i]'(by omega),List.getElem_mem _,?_⟩
  rw[zdv]
  exact⟨i,e,by simp,by rw[vay hi,h3],h2⟩
 |false=>
  unfold anyEq at q
  rw[List.any_eq_false]at q ⊢
  intro u hu z
  rw[zdv]at z
  obtain⟨i,e,h1,h2,h3⟩:=z
  exact q e (List.mem_of_getElem? h2) h3
theorem zb4{h:Heap}:∀{us:List Value} {ds:List PyData} {as:List Addr},ReadsAll h us ds as->us.length=ds.length
 |_,_,_,.nil=>rfl
 |_,_,_,.cons _ r=>by rw[vah,vah,zb4 r]
theorem zgc{A:Around}{s:Shared}{us:List Value}{ds:List PyData}{as bs:List Addr}{d:PyData}{v:Value}(hu:A.units+64<cLine)(ra:ReadsAll s.heap us ds as)(rb:Reads s.heap v d bs)(s1:ds.all SeqAt.shaped=true)(s2:SeqAt.shaped d=true) :
 ∀u∈us,SeqAt.EqAt A s u v (eqOf us ds d u):=by
 intro u hm
 have sh:∀(i:Nat)(e:PyData),ds[i]?=some e->SeqAt.shaped e=true:=λi e q=>List.all_eq_true.mp s1 e (List.mem_of_getElem? q)
 cases q:eqOf us ds d u with
 |true=>
  rw[zdv]at q
  obtain⟨i,e,h1,h2,h3⟩:=q
  obtain⟨e',cs,h4,h5⟩:=zb3 ra h1
  rw[h2]at h4;cases h4
  have:=SeqAt.eqAt_reads e d A s u v cs bs h5 rb (SeqAt.canLay_of_shaped (sh i e h2)) (SeqAt.canLay_of_shaped s2) (SeqAt.room_of_shaped (sh i e h2) hu)
  rw[h3]at this;exact this
 |false=>
  obtain⟨i,hi,h1⟩:=List.mem_iff_getElem.mp hm
  have h1:us[i]?=some u:=by rw[vay hi,h1]
  obtain⟨e,cs,h4,h5⟩:=zb3 ra h1
  have h3:PyData.eqv e d=false:=by
   cases z:PyData.eqv e d with
   |false=>rfl
   |true=>
    rw[zdv.mpr ⟨i,e,h1,h4,z⟩]at q
    cases q
  have:=SeqAt.eqAt_reads e d A s u v cs bs h5 rb (SeqAt.canLay_of_shaped (sh i e h4)) (SeqAt.canLay_of_shaped s2) (SeqAt.room_of_shaped (sh i e h4) hu)
  rw[h3]at this;exact this
theorem zur(hu:X.A.in1.units+64<cLine):OpR X (compareOp .In) (rInD X.K false):=by
 intro pins s σ H x y v u Q I rx ry h
 obtain⟨p,xs,ds,d,rfl,hq,r1,r2,s1,s2,q⟩:=h
 cases ry
 obtain⟨bs,rb⟩:=r2.reads I rx
 rcases hq with hq|hq
 .obtain⟨its,r,pl,hz⟩:=I.list hq
  obtain⟨as,ra⟩:=r1.reads I r
  refine SeqAt.in_listAt (eqOf its ds d) pl.isList (λw hw=>zgc hu ra rb s1 s2 w (by simpa using hw)) ⟨.bl _,H,I,rfl,?_⟩
  rw[show its.toArray.any (eqOf its ds d)=its.any (eqOf its ds d) by simp,zdw (zb4 ra)]
  exact q
 .obtain⟨its,r,pl,hz⟩:=I.tuple hq
  obtain⟨as,ra⟩:=r1.reads I r
  refine SeqAt.in_tupleAt (eqOf its ds d) pl (λw hw=>zgc hu ra rb s1 s2 w (by simpa using hw)) ⟨.bl _,H,I,rfl,?_⟩
  rw[show its.toArray.any (eqOf its ds d)=its.any (eqOf its ds d) by simp,zdw (zb4 ra)]
  exact q
theorem zl2(hu:X.A.in1.units+64<cLine):OpR X (compareOp .NotIn) (rInD X.K true):=by
 intro pins s σ H x y v u Q I rx ry h
 obtain⟨p,xs,ds,d,rfl,hq,r1,r2,s1,s2,q⟩:=h
 cases ry
 obtain⟨bs,rb⟩:=r2.reads I rx
 rcases hq with hq|hq
 .obtain⟨its,r,pl,hz⟩:=I.list hq
  obtain⟨as,ra⟩:=r1.reads I r
  refine SeqAt.notIn_listAt (eqOf its ds d) pl.isList (λw hw=>zgc hu ra rb s1 s2 w (by simpa using hw)) ⟨.bl _,H,I,rfl,?_⟩
  rw[show its.toArray.any (eqOf its ds d)=its.any (eqOf its ds d) by simp,zdw (zb4 ra)]
  exact q
 .obtain⟨its,r,pl,hz⟩:=I.tuple hq
  obtain⟨as,ra⟩:=r1.reads I r
  refine SeqAt.notIn_tupleAt (eqOf its ds d) pl (λw hw=>zgc hu ra rb s1 s2 w (by simpa using hw)) ⟨.bl _,H,I,rfl,?_⟩
  rw[show its.toArray.any (eqOf its ds d)=its.any (eqOf its ds d) by simp,zdw (zb4 ra)]
  exact q
end
end L2
namespace HT
open PySem PySem.Spec PyProof.Rows
section
variable{prog:Program}{w:World}{A:Around}{E:Value->Shared->Prop}{s:Shared}
theorem getItem_tuple_whole{t sl:Addr}{items:Array Value}{vl vu:Value}{lo hi:Option Int}{Q:Value->Shared->Prop}(ht:IsTup s.heap t items)(hs:s.heap.IsSliceOf sl vl vu .none)(pl:IsPart vl lo)(pu:IsPart vu hi)
 (hw:sIx items.size 0 lo=0/\sIx items.size items.size hi=items.size)
 (h:Q (.ref t) s):wpAny (model prog w) A (getItem (.ref t) (.ref sl)) Q E s:=by
 obtain⟨os,hos,hcs,hds⟩:=id hs
 have hTs:s.TypeIs (.ref sl) "slice":=⟨os,hos,hcs⟩
 unfold getItem
 try with_reducible refine wpAny_holding ?_
 first|refine vaa (vaj ?_)|skip
 refine vaa (wpAny_sequenceKey ht.typeIs (by decide) ?_)
 refine vaa (wpAny_callSpecial?_slot (name:=Str.ofString "__getitem__") ht.typeIs PyProof.Rows.slot_tuple_getitem
  (wpAny_call_entry PyProof.Rows.slot_tuple_getitem ht.typeIs entry_tuple_getitem ?_ (args_tuple_getitem _ _)))
 show wpAny _ _ (Builtin.Tuple.tupleItemsOf (.ref t) >>= _) _ _ s
 refine vaa (tupleItemsOf_ ht ?_)
 refine vaa (wpAny_typeOf hTs ?_)
 rw[if_pos (by decide)]
 refine vaa (zbz hs pl pu ?_)
 have hyes:((((sIx items.size 0 lo:Nat):Int)==0&& (1:Int)==1&& (sIx items.size items.size hi-sIx items.size 0 lo)==items.size)=true):=by
  rw[hw.1,hw.2];simp
 show wpAny _ _ (if(((sIx items.size 0 lo:Nat):Int)==0&& (1:Int)==1&& (sIx items.size items.size hi-sIx items.size 0 lo)==items.size)=true then _ else _) _ _ s
 rw[if_pos hyes]
 unfold Builtin.Tuple.tupleIsExact
 refine vaa (vaa (wpAny_typeOf ht.typeIs (vaj ?_)))
 rw[if_pos (by decide)]
 refine vaa (wpAny_rule ?_)
 exact vaj ⟨_,rfl,vaj h⟩
end
end HT
namespace L2
open PySem PySem.Spec PyProof.Rows
variable{X:Cx}
noncomputable def rSlW(K:PySem.W.Frag):V->Option Int->Option Int->Hp->VK->Prop:=λx lo hi H Q=>∃a xs,x=.ref a/\SqT K H a xs/\
 (HT.sIx xs.length 0 lo=0/\HT.sIx xs.length xs.length hi=xs.length)/\Q (.ref a) H
theorem zrj:SlR X (rSlW X.K):=by
 intro pins s σ H x v vl vu lo hi sl Q I rx hs pl pu h
 obtain⟨a,xs,rfl,hx,hw,q⟩:=h
 cases rx
 obtain⟨its,r,ht,hz⟩:=I.tuple hx
 have hlen:its.toArray.size=xs.length:=by rw[van];exact r.length.symm
 refine⟨"tuple",_,PyProof.Rows.slot_tuple_getitem.lookup,ht.typeIs,?_⟩
 refine HT.getItem_tuple_whole ht hs pl pu (by rw[hlen];exact hw) ?_
 exact⟨.ref a,_,I,rfl,q⟩
noncomputable def rSlA(K:PySem.W.Frag):V->Option Int->Option Int->Hp->VK->Prop:=λx lo hi H Q=>(rSlT K x lo hi H Q\/rSlW K x lo hi H Q)\/rSlL K x lo hi H Q
theorem zus:SlR X (rSlA X.K):=(zug.or zrj).or zrb
noncomputable def ZI(b:Bool)(h:Heap)(I l:Addr)(k:Nat):Prop:=match b with|true=>h.IsTupleIter I l k|false=>h.IsListIter I l k
noncomputable def ZS(b:Bool)(h:Heap)(l:Addr)(xs:Array Value):Prop:=match b with|true=>h.IsTuple l xs|false=>h.IsList l xs
noncomputable def zName(b:Bool):String:=match b with|true=>"tuple_iterator" |false=>"list_iterator"
noncomputable def zIt(b:Bool)(l:Addr):Obj:={cls:=.type (zName b),data:=.fields #[.ref l,.int 0 0]}
theorem ZI.ex{b:Bool}{h h':Heap}{I l c:Addr}{k:Nat}(x:ZI b h I l k)(s:Heap.ExtBut c h h')(n:I≠c):ZI b h' I l k:=by
 cases b
 .exact Heap.IsListIter.extBut x s n
 .exact Heap.IsTupleIter.extBut x s n
theorem ZS.ex{b:Bool}{h h':Heap}{l c:Addr}{xs:Array Value}(x:ZS b h l xs)(s:Heap.ExtBut c h h')(n:l≠c):ZS b h' l xs:=by
 cases b
 .exact Heap.IsList.extBut x s n
 .exact Heap.IsTuple.extBut x s n
theorem ZI.mv{b:Bool}{h h':Heap}{I l:Addr}{k:Nat}(x:ZI b h I l k)(e:∀o,h.get? I=some o->h'.get? I=some o):ZI b h' I l k:=by
 cases b
 .exact Heap.IsListIter.at x e
 .exact Heap.IsTupleIter.at x e
theorem ZI.ob{b:Bool}{h:Heap}{I l:Addr}{k:Nat}(x:ZI b h I l k):∃o,h.get? I=some o/\∀v,o.data≠.cell v:=by
 cases b
 .obtain⟨o,h1,h2,h3⟩:=x;exact⟨o,h1,λv z=>by rw[h3]at z;cases z⟩
 .obtain⟨o,h1,h2,h3⟩:=x;exact⟨o,h1,λv z=>by rw[h3]at z;cases z⟩
theorem ZS.lt{b:Bool}{h:Heap}{l:Addr}{xs:Array Value}(x:ZS b h l xs):l<h.objs.size:=by
 cases b<;> (obtain⟨o,h1,_⟩:=x;exact vaq h1)
theorem ZS.push{b:Bool}{h:Heap}{l:Addr}{xs:Array Value}(x:ZS b h l xs)(o:Obj):ZS b (h.push o) l xs:=by
 cases b
 .exact Heap.IsList.push x o
 .exact Heap.IsTuple.push x o
section
variable{prog:Program}{w:World}{A:Around}{E:Value->Shared->Prop}{s:Shared}
theorem zl3{b:Bool}{I l:Addr}{k:Nat}{xs:Array Value}{y:Value}{Q:Value->Shared->Prop}(hi:ZI b s.heap I l k)(hl:ZS b s.heap l xs)(hy:xs[k]?=some y)
 (q:∀g,ZI b g I l (k+1)->Heap.SameBut I s.heap g->Q y {s with heap:=g}):wpAny (model prog w) A (Builtin.SmallTypes.nextOf (.ref I)) Q E s:=by
 cases b
 .exact wpAny_nextOf_list_item hi hl hy q
 .exact zfc hi hl hy q
theorem z_end{b:Bool}{I l:Addr}{k:Nat}{xs:Array Value}{Q:Value->Shared->Prop}(hA:A.handled=none)(hi:ZI b s.heap I l k)(hl:ZS b s.heap l xs)(hy:xs[k]?=none)
 (q:∀g e,Heap.ExtBut I s.heap g->(∃o,g.get? e=some o/\o.cls=.type "StopIteration")->E (.ref e) {s with heap:=g}):wpAny (model prog w) A (Builtin.SmallTypes.nextOf (.ref I)) Q E s:=by
 cases b
 .exact wpAny_nextOf_list_end hA hi hl hy q
 .exact zed hA hi hl hy q
structure ZA(z TI TO i1 i2 l1 l2:Addr):Prop where
 a1:TI≠z/\TO≠z/\i1≠z/\i2≠z
 a2:TI≠TO/\TI≠i1/\TI≠i2/\TO≠i1/\TO≠i2/\i1≠i2
 a3:l1≠z/\l1≠TO/\l1≠i1/\l1≠i2
 a4:l2≠z/\l2≠TO/\l2≠i1/\l2≠i2
theorem zut{n l1 l2:Nat}(h1:l1<n)(h2:l2<n):ZA (n+4) (n+2) (n+3) n (n+1) l1 l2:=by
 have e:∀{a b:Nat},(a<b\/b<a)->a≠b:=λh=>h.elim va4 Nat.ne_of_gt
 refine⟨⟨?_,?_,?_,?_⟩,⟨?_,?_,?_,?_,?_,?_⟩,⟨?_,?_,?_,?_⟩,?_,?_,?_,?_⟩<;>exact e (by omega)
theorem zrk{b c:Bool}{z TI TO i1 i2 l1 l2:Addr}{k:Nat}{xs ys:Array Value}{x y p q:Value}{Q:Value->Shared->Prop}(D:ZA z TI TO i1 i2 l1 l2)
 (hz:IsZip s.heap z TI TO .none) (hTI:IsPair s.heap TI (.ref i1) (.ref i2)) (hTO:IsPair s.heap TO p q)
 (h1:ZI b s.heap i1 l1 k) (h2:ZI c s.heap i2 l2 k) (hl1:ZS b s.heap l1 xs) (hl2:ZS c s.heap l2 ys) (hx:xs[k]?=some x) (hy:ys[k]?=some y)
 (hQ:∀h',IsZip h' z TI TO (rawInt s.heap.objs.size)->IsPair h' TO x y->ZI b h' i1 l1 (k+1)->ZI c h' i2 l2 (k+1)->IsPair h' s.heap.objs.size x y->h'.objs.size=s.heap.objs.size+1->
   (∀c o,c≠z->c≠TO->c≠i1->c≠i2->s.heap.get? c=some o->h'.get? c=some o)->Q (.ref s.heap.objs.size) {s with heap:=h'}) :
 wpAny (model prog w) A (Builtin.«zip.__next__» ⟨[.ref z],[]⟩) (λfin s'=>∃v,fin=.done (.ret v)/\Q v s') E s:=by
 obtain⟨⟨d1,d2,d3,d4⟩,⟨d5,d6,d7,d8,d9,d10⟩,⟨d11,d12,d13,d14⟩,d15,d16,d17,d18⟩:=D
 show wpAny _ _ (field (.ref z) 2 >>= _) _ _ _;refine vaa (wpAny_field hz rfl (x:=.bool false) rfl ?_)
 show wpAny _ _ (field (.ref z) 3 >>= _) _ _ _;refine vaa (wpAny_field hz rfl (x:=.ref TI) rfl (vaa (wpAny_seqItems hTI rfl ?_)))
 show wpAny _ _ (Builtin.SmallTypes.ownedTupleIsFree (.ref z) >>= _) _ _ _;refine vaa ?_;unfold Builtin.SmallTypes.ownedTupleIsFree
 refine vaa (wpAny_field hz rfl (x:=.none) rfl (vaj ?_));simp only[if_true]
 refine vaa (wpAny_rule (vaa (wpAny_field hz rfl (x:=.ref TO) rfl (vaa (wpAny_setField_rec hz (by simp) λg1 z1 s1=>?_)))))
 replace z1:IsZip g1 z TI TO .ellipsis:=z1
 refine vaa ?_;simp only[List.zipIdx_cons,List.zipIdx_nil,List.forIn_cons,List.forIn_nil]
 refine vaa (vaa (wpAny_onRaise ?_));show wpAny _ _ (Builtin.SmallTypes.nextOf (.ref i1) >>= _) _ _ _
 refine vaa (zl3 (h1.ex s1.extBut d3) (hl1.ex s1.extBut d11) hx λg2 y1 s2=>vaj ?_)
 have t2:IsPair g2 TO p q:=s2.extBut _ _ d8 (s1.extBut _ _ d2 hTO)
 refine vaa (wpAny_seqItems t2 rfl (vaa (wpAny_updateSeq_pair t2 λg3 t3 s3=>?_)))
 replace t3:IsPair g3 TO x q:=t3
 refine vaa (wpAny_letGo (vaj (vaa (vaa (wpAny_onRaise ?_)))));show wpAny _ _ (Builtin.SmallTypes.nextOf (.ref i2) >>= _) _ _ _
 refine vaa (zl3 (((h2.ex s1.extBut d4).ex s2.extBut (Ne.symm d10)).ex s3.extBut (Ne.symm d9)) (((hl2.ex s1.extBut d15).ex s2.extBut d17).ex s3.extBut d16) hy λg4 y2 s4=>vaj ?_)
 have t4:IsPair g4 TO x q:=s4.extBut _ _ d9 t3
 refine vaa (wpAny_seqItems t4 rfl (vaa (wpAny_updateSeq_pair t4 λg5 t5 s5=>?_)))
 replace t5:IsPair g5 TO x y:=t5
 refine vaa (wpAny_letGo (vaj (vaj (vaa (wpAny_seqItems t5 rfl (vaa (wpAny_newTuple ?_)))))))
 have hsz:g5.objs.size=s.heap.objs.size:=by rw[s5.1,s4.1,s3.1,s2.1,s1.1]
 have z5:IsZip g5 z TI TO .ellipsis:=s5.extBut _ _ (Ne.symm d2) (s4.extBut _ _ (Ne.symm d4) (s3.extBut _ _ (Ne.symm d2) (s2.extBut _ _ (Ne.symm d3) z1)))
 have k5:∀c o,c≠z->c≠TO->c≠i1->c≠i2->s.heap.get? c=some o->g5.get? c=some o:=λc o c1 c2 c3 c4 e=>s5.extBut _ _ c2 (s4.extBut _ _ c4 (s3.extBut _ _ c2 (s2.extBut _ _ c3 (s1.extBut _ _ c1 e))))
 have i15:ZI b g5 i1 l1 (k+1):=((y1.ex s3.extBut (Ne.symm d8)).ex s4.extBut d10).ex s5.extBut (Ne.symm d8)
 have i25:ZI c g5 i2 l2 (k+1):=y2.ex s5.extBut (Ne.symm d9)
 have zlt:z<g5.objs.size:=vaq z5
 show wpAny _ _ (Builtin.SmallTypes.ownedTupleHandOut (.ref z) (.ref g5.objs.size) >>= _) _ _ _;refine vaa ?_;unfold Builtin.SmallTypes.ownedTupleHandOut
 have z6:IsZip (g5.push {cls:=.type "tuple",data:=.seq #[x,y]}) z TI TO .ellipsis:=vac _ z5
 refine vaa (wpAny_setField_rec z6 (by simp) λg7 z7 s7=>?_)
 replace z7:IsZip g7 z TI TO (rawInt g5.objs.size):=z7
 refine wpAny_setField_rec z7 (by simp) λg8 z8 s8=>?_
 replace z8:IsZip g8 z TI TO (rawInt g5.objs.size):=z8
 have up:∀c o,c≠z->g5.get? c=some o->g8.get? c=some o:=λc o c1 e=>s8.extBut _ _ c1 (s7.extBut _ _ c1 (vac _ e))
 have p8:IsPair g8 g5.objs.size x y:=s8.extBut _ _ (Nat.ne_of_gt zlt) (s7.extBut _ _ (Nat.ne_of_gt zlt) (va0 _ rfl))
 have n8:g8.objs.size=g5.objs.size+1:=by rw[s8.1,s7.1,Heap.size_push]
 rw[hsz]at z8 p8 n8
 refine vaj ⟨_,rfl,?_⟩;show Q (.ref g5.objs.size) _;rw[hsz]
 exact hQ g8 z8 (up _ _ d2 t5) (i15.mv λo e=>up _ o d3 e) (i25.mv λo e=>up _ o d4 e) p8 n8 λc o c1 c2 c3 c4 e=>up c o c1 (k5 c o c1 c2 c3 c4 e)
theorem zuu{b c:Bool}{z TI TO i1 i2 l1 l2:Addr}{k:Nat}{xs ys:Array Value}{p q:Value}{Q:Fin->Shared->Prop}(hA:A.handled=none)(D:ZA z TI TO i1 i2 l1 l2)
 (hz:IsZip s.heap z TI TO .none) (hTI:IsPair s.heap TI (.ref i1) (.ref i2)) (hTO:IsPair s.heap TO p q)
 (h1:ZI b s.heap i1 l1 k) (h2:ZI c s.heap i2 l2 k) (hl1:ZS b s.heap l1 xs) (hl2:ZS c s.heap l2 ys) (he:xs[k]?=none\/ys[k]?=none)
 (hE:∀h' e,(∀c o,c≠z->c≠TO->c≠i1->c≠i2->s.heap.get? c=some o->h'.get? c=some o)->(∃o,h'.get? e=some o/\o.cls=.type "StopIteration")->E (.ref e) {s with heap:=h'}) :
 wpAny (model prog w) A (Builtin.«zip.__next__» ⟨[.ref z],[]⟩) Q E s:=by
 obtain⟨⟨d1,d2,d3,d4⟩,⟨d5,d6,d7,d8,d9,d10⟩,⟨d11,d12,d13,d14⟩,d15,d16,d17,d18⟩:=D
 show wpAny _ _ (field (.ref z) 2 >>= _) _ _ _;refine vaa (wpAny_field hz rfl (x:=.bool false) rfl ?_)
 show wpAny _ _ (field (.ref z) 3 >>= _) _ _ _;refine vaa (wpAny_field hz rfl (x:=.ref TI) rfl (vaa (wpAny_seqItems hTI rfl ?_)))
 show wpAny _ _ (Builtin.SmallTypes.ownedTupleIsFree (.ref z) >>= _) _ _ _;refine vaa ?_;unfold Builtin.SmallTypes.ownedTupleIsFree
 refine vaa (wpAny_field hz rfl (x:=.none) rfl (vaj ?_));simp only[if_true]
 refine vaa (wpAny_rule (vaa (wpAny_field hz rfl (x:=.ref TO) rfl (vaa (wpAny_setField_rec hz (by simp) λg1 z1 s1=>?_)))))
 replace z1:IsZip g1 z TI TO .ellipsis:=z1
 refine vaa ?_;simp only[List.zipIdx_cons,List.zipIdx_nil,List.forIn_cons,List.forIn_nil]
 refine vaa (vaa (wpAny_onRaise ?_));show wpAny _ _ (Builtin.SmallTypes.nextOf (.ref i1) >>= _) _ _ _
 cases hx:xs[k]? with
 |none=>
  refine vaa (z_end hA (h1.ex s1.extBut d3) (hl1.ex s1.extBut d11) hx λg2 e s2 hs=>?_)
  obtain⟨oe,hoe,hce⟩:=hs
  have z2:IsZip g2 z TI TO .ellipsis:=s2 _ _ (Ne.symm d3) z1
  have nez:e≠z:=λx=>by subst x;rw[z2]at hoe;cases hoe;simp at hce
  exact wpAny_setField_rec z2 (by simp) λg3 _ s3=>hE g3 e (λc o c1 _ c3 _ x=>s3.extBut _ _ c1 (s2 _ _ c3 (s1.extBut _ _ c1 x))) ⟨oe,s3.extBut _ _ nez hoe,hce⟩
 |some x=>
  have hy:ys[k]?=none:=by rcases he with h|h;rw[hx]at h;cases h;exact h
  refine vaa (zl3 (h1.ex s1.extBut d3) (hl1.ex s1.extBut d11) hx λg2 y1 s2=>vaj ?_)
  have t2:IsPair g2 TO p q:=s2.extBut _ _ d8 (s1.extBut _ _ d2 hTO)
  refine vaa (wpAny_seqItems t2 rfl (vaa (wpAny_updateSeq_pair t2 λg3 t3 s3=>?_)))
  refine vaa (wpAny_letGo (vaj (vaa (vaa (wpAny_onRaise ?_)))));show wpAny _ _ (Builtin.SmallTypes.nextOf (.ref i2) >>= _) _ _ _
  refine vaa (z_end hA (((h2.ex s1.extBut d4).ex s2.extBut (Ne.symm d10)).ex s3.extBut (Ne.symm d9)) (((hl2.ex s1.extBut d15).ex s2.extBut d17).ex s3.extBut d16) hy λg4 e s4 hs=>?_)
  obtain⟨oe,hoe,hce⟩:=hs
  have z4:IsZip g4 z TI TO .ellipsis:=s4 _ _ (Ne.symm d4) (s3.extBut _ _ (Ne.symm d2) (s2.extBut _ _ (Ne.symm d3) z1))
  have nez:e≠z:=λx=>by subst x;rw[z4]at hoe;cases hoe;simp at hce
  exact wpAny_setField_rec z4 (by simp) λg5 _ s5=>hE g5 e (λc o c1 c2 c3 c4 x=>s5.extBut _ _ c1 (s4 _ _ c4 (s3.extBut _ _ c2 (s2.extBut _ _ c3 (s1.extBut _ _ c1 x))))) ⟨oe,s5.extBut _ _ nez hoe,hce⟩
theorem zrl{b c:Bool}{z TI TO i1 i2 l1 l2:Addr}{k:Nat}{xs ys:Array Value}{x y p q:Value}{Q:Option Value->Shared->Prop}(D:ZA z TI TO i1 i2 l1 l2)
 (hz:IsZip s.heap z TI TO .none) (hTI:IsPair s.heap TI (.ref i1) (.ref i2)) (hTO:IsPair s.heap TO p q)
 (h1:ZI b s.heap i1 l1 k) (h2:ZI c s.heap i2 l2 k) (hl1:ZS b s.heap l1 xs) (hl2:ZS c s.heap l2 ys) (hx:xs[k]?=some x) (hy:ys[k]?=some y)
 (hQ:∀h',IsZip h' z TI TO (rawInt s.heap.objs.size)->IsPair h' TO x y->ZI b h' i1 l1 (k+1)->ZI c h' i2 l2 (k+1)->IsPair h' s.heap.objs.size x y->h'.objs.size=s.heap.objs.size+1->
   (∀c o,c≠z->c≠TO->c≠i1->c≠i2->s.heap.get? c=some o->h'.get? c=some o)->Q (some (.ref s.heap.objs.size)) {s with heap:=h'}):wpAny (model prog w) A (pyNext (.ref z)) Q E s:=by
 have hT:s.TypeIs (.ref z) "zip":=⟨_,hz,rfl⟩
 unfold pyNext
 exact vaa (wpAny_attempt (wpAny_callSpecial?_slot (name:=Str.ofString "__next__") hT F.slot_zip_next (wpAny_call_entry F.slot_zip_next hT F.entry_zip_next (zrk D hz hTI hTO h1 h2 hl1 hl2 hx hy λh' a1 a2 a3 a4 a5 a6 a7=>vaj (hQ h' a1 a2 a3 a4 a5 a6 a7)) (F.args_zip_next_1 _))))
theorem zuv{b c:Bool}{z TI TO i1 i2 l1 l2:Addr}{k:Nat}{xs ys:Array Value}{p q:Value}{Q:Option Value->Shared->Prop}(hA:A.in1.handled=none)(D:ZA z TI TO i1 i2 l1 l2)
 (hz:IsZip s.heap z TI TO .none) (hTI:IsPair s.heap TI (.ref i1) (.ref i2)) (hTO:IsPair s.heap TO p q)
 (h1:ZI b s.heap i1 l1 k) (h2:ZI c s.heap i2 l2 k) (hl1:ZS b s.heap l1 xs) (hl2:ZS c s.heap l2 ys) (he:xs[k]?=none\/ys[k]?=none)
 (hQ:∀h',(∀c o,c≠z->c≠TO->c≠i1->c≠i2->s.heap.get? c=some o->h'.get? c=some o)->Q none {s with heap:=h'}):wpAny (model prog w) A (pyNext (.ref z)) Q E s:=by
 have hT:s.TypeIs (.ref z) "zip":=⟨_,hz,rfl⟩
 unfold pyNext
 refine vaa (wpAny_attempt (wpAny_callSpecial?_slot (name:=Str.ofString "__next__") hT F.slot_zip_next (wpAny_call_entry F.slot_zip_next hT F.entry_zip_next (zuu hA D hz hTI hTO h1 h2 hl1 hl2 he λh' e hk hs=>?_) (F.args_zip_next_1 _))))
 obtain⟨o,ho,hc⟩:=hs
 exact vaa (wpAny_isInstance (T:="StopIteration") (b:=true) ⟨o,ho,hc⟩ isSubtype_stop (vaj (hQ _ hk)))
noncomputable def zh1(h:Heap)(b:Bool)(l1:Addr):Heap:=h.push (zIt b l1)
noncomputable def zh2(h:Heap)(b c:Bool)(l1 l2:Addr):Heap:=(zh1 h b l1).push (zIt c l2)
noncomputable def zh3(h:Heap)(b c:Bool)(l1 l2:Addr):Heap:=(zh2 h b c l1 l2).push {cls:=.type "tuple",data:=.seq #[.ref h.objs.size,.ref (zh1 h b l1).objs.size]}
noncomputable def zh4(h:Heap)(b c:Bool)(l1 l2:Addr):Heap:=(zh3 h b c l1 l2).push {cls:=.type "tuple",data:=.seq #[.none,.none]}
noncomputable def zh5(h:Heap)(b c:Bool)(l1 l2:Addr):Heap:=(zh4 h b c l1 l2).push {cls:=.type "zip",data:=.fields #[.none,.bool false,.bool false,.ref (zh2 h b c l1 l2).objs.size,.ref (zh3 h b c l1 l2).objs.size]}
theorem zoi(b c:Bool)(l1 l2:Addr)(xs ys:Array Value):Meets (Builtin.«zip.__new__» ⟨[.type "zip",.ref l1,.ref l2],[]⟩) (λ_ R s=>ZS b s.heap l1 xs/\ZS c s.heap l2 ys/\
 R (.ok (.ret (.ref (zh4 s.heap b c l1 l2).objs.size))) {s with heap:=zh5 s.heap b c l1 l2}):=
 .of_wp λprog w A R s h=>by
  obtain⟨hp,g,d,tk,os⟩:=s;obtain⟨m1,m2,h⟩:=h
  have hsub:=sub_zip
  have e1:ZS b (Shared.heap ⟨hp,g,d,tk,os⟩) l1 xs:=m1
  have e2:ZS c (Shared.heap ⟨hp.push (zIt b l1),g,d,tk,os⟩) l2 ys:=m2.push _
  cases b<;>cases c
  .have q1:Heap.IsList (Shared.heap ⟨hp,g,d,tk,os⟩) l1 xs:=e1
   have q2:Heap.IsList (Shared.heap ⟨hp.push {cls:=.type "list_iterator",data:=.fields #[.ref l1,.int 0 0]},g,d,tk,os⟩) l2 ys:=e2
   wp_walk using wpAny_pyIter_list q1,wpAny_pyIter_list q2
   exact⟨_,rfl,h⟩
  .have q1:Heap.IsList (Shared.heap ⟨hp,g,d,tk,os⟩) l1 xs:=e1
   have q2:Heap.IsTuple (Shared.heap ⟨hp.push {cls:=.type "list_iterator",data:=.fields #[.ref l1,.int 0 0]},g,d,tk,os⟩) l2 ys:=e2
   wp_walk using wpAny_pyIter_list q1,wpAny_pyIter_tuple q2
   exact⟨_,rfl,h⟩
  .have q1:Heap.IsTuple (Shared.heap ⟨hp,g,d,tk,os⟩) l1 xs:=e1
   have q2:Heap.IsList (Shared.heap ⟨hp.push {cls:=.type "tuple_iterator",data:=.fields #[.ref l1,.int 0 0]},g,d,tk,os⟩) l2 ys:=e2
   wp_walk using wpAny_pyIter_tuple q1,wpAny_pyIter_list q2
   exact⟨_,rfl,h⟩
  .have q1:Heap.IsTuple (Shared.heap ⟨hp,g,d,tk,os⟩) l1 xs:=e1
   have q2:Heap.IsTuple (Shared.heap ⟨hp.push {cls:=.type "tuple_iterator",data:=.fields #[.ref l1,.int 0 0]},g,d,tk,os⟩) l2 ys:=e2
   wp_walk using wpAny_pyIter_tuple q1,wpAny_pyIter_tuple q2
   exact⟨_,rfl,h⟩
theorem zpq{b:Bool}{h:Heap}{l:Addr}{a:Addr}(e:h.get? a=some (zIt b l)):ZI b h a l 0:=by
 cases b<;>exact⟨_,e,rfl,rfl⟩
theorem zrm{b c:Bool}{l1 l2:Addr}{xs ys:Array Value}{Q:Value->Shared->Prop}(m1:ZS b s.heap l1 xs)(m2:ZS c s.heap l2 ys)
 (h:∀h',IsZip h' (s.heap.objs.size+4) (s.heap.objs.size+2) (s.heap.objs.size+3) .none->IsPair h' (s.heap.objs.size+2) (.ref s.heap.objs.size) (.ref (s.heap.objs.size+1))->
   IsPair h' (s.heap.objs.size+3) .none .none->ZI b h' s.heap.objs.size l1 0->ZI c h' (s.heap.objs.size+1) l2 0->h'.objs.size=s.heap.objs.size+5->
   (∀c o,s.heap.get? c=some o->h'.get? c=some o)->Q (.ref (s.heap.objs.size+4)) {s with heap:=h'}):wpAny (model prog w) A (call (.type "zip") [.ref l1,.ref l2]) Q E s:=by
 refine callType_new F.called_zip (by decide) (F.typeCall_zip_2 _ _) (F.newCall_zip_2 _ _) (λobj=>F.args_object_init_3 obj _ _) F.entry_zip_new (zoi b c l1 l2 xs ys) ⟨m1,m2,?_⟩
 have n1:(zh1 s.heap b l1).objs.size=s.heap.objs.size+1:=Heap.size_push ..
 have n2:(zh2 s.heap b c l1 l2).objs.size=s.heap.objs.size+2:=by unfold zh2;rw[Heap.size_push,n1]
 have n3:(zh3 s.heap b c l1 l2).objs.size=s.heap.objs.size+3:=by unfold zh3;rw[Heap.size_push,n2]
 have n4:(zh4 s.heap b c l1 l2).objs.size=s.heap.objs.size+4:=by unfold zh4;rw[Heap.size_push,n3]
 have n5:(zh5 s.heap b c l1 l2).objs.size=s.heap.objs.size+5:=by unfold zh5;rw[Heap.size_push,n4]
 have g5:(zh5 s.heap b c l1 l2).get? (zh4 s.heap b c l1 l2).objs.size=some _:=va0 _ rfl
 have g4:(zh5 s.heap b c l1 l2).get? (zh3 s.heap b c l1 l2).objs.size=some _:=vac _ (va0 _ rfl)
 have g3:(zh5 s.heap b c l1 l2).get? (zh2 s.heap b c l1 l2).objs.size=some _:=vac _ (vac _ (va0 _ rfl))
 have g2:(zh5 s.heap b c l1 l2).get? (zh1 s.heap b l1).objs.size=some _:=vac _ (vac _ (vac _ (va0 _ rfl)))
 have g1:(zh5 s.heap b c l1 l2).get? s.heap.objs.size=some _:=vac _ (vac _ (vac _ (vac _ (va0 _ rfl))))
 show _/\_
 rw[n2,n3,n4]at g5
 rw[n1,n2]at g3
 rw[n3]at g4
 rw[n1]at g2
 rw[n4]
 exact⟨⟨_,g5,rfl⟩,h _ g5 g3 g4 (zpq g1) (zpq g2) n5 λc o x=>vac _ (vac _ (vac _ (vac _ (vac _ x))))⟩
end
noncomputable def SqB(b:Bool)(K:PySem.W.Frag)(H:Hp)(a:Addr)(xs:List V):Prop:=match b with|true=>SqT K H a xs|false=>SqL K H a xs
theorem zfd{b:Bool}{X:Cx}{pins:List (Addr×Obj)}{σ:St}{H:Hp}{s:Shared}{a:Addr}{xs:List V}(I:Inv X pins σ H s)(h:SqB b X.K H a xs):∃its:List Value,Vals xs its/\ZS b s.heap a its.toArray/\xs.length<=sizeLine:=by
 cases b
 .obtain⟨its,r,p,z⟩:=I.list h
  exact⟨its,r,p.isList,z⟩
 .exact I.tuple h
theorem zl4{b:Bool}{X:Cx}{pins:List (Addr×Obj)}{σ:St}{H:Hp}{s:Shared}{a:Addr}{xs ys:List V}(I:Inv X pins σ H s)(h:SqB b X.K H a xs)(h':SqB b X.K H a ys):xs=ys:=by
 cases b
 .exact I.list_inj h h'
 .exact I.tuple_inj h h'
noncomputable def IteZ(K:PySem.W.Frag)(b c:Bool)(a1 a2:Addr):It:=
 ⟨λi H=>∃xs ys x y,SqB b K H a1 xs/\SqB c K H a2 ys/\xs[i]?=some x/\ys[i]?=some y,
  λi H v H'=>∃T x y,v=.ref T/\H T=none/\H'=upd H T (.tup [x,y])/\(∀xs,SqB b K H a1 xs->xs[i]?=some x)/\∀ys,SqB c K H a2 ys->ys[i]?=some y,
  λi H=>∃xs ys,SqB b K H a1 xs/\SqB c K H a2 ys/\(xs.length<=i\/ys.length<=i)⟩
theorem Inv.turnedZ{X:Cx}{pins:List (Addr×Obj)}{σ:St}{H:Hp}{s:Shared}{h2:Heap}{t':Nat}{fp:List Addr}(I:Inv X pins σ H s)(hf:∀b∈fp,FpOk X pins H b)(kk:∀b o,b∉fp->s.heap.get? b=some o->h2.get? b=some o) :
 Inv X pins σ H {s with heap:=h2,toks:=t'}:=by
 have f0:=λb hb=>(hf b hb).1
 have nE:∀b o,H b=some o->b∉fp:=λb o q z=>by rw[f0 b z]at q;cases q
 refine I.step (g':=s.gens) (d':=s.drawn) (ch:=fp) (λb hb=>?_) (λb o _ _ hc e1 _=>kk b o hc e1) (λb o _ _ hc e1 _=>⟨o.slots,kk b o hc e1⟩) (λ_ _ _ _ n=>n) (λb o hc e1=>⟨o,kk b o hc e1⟩)
  (λ_ _ q=>q) (λ_ _ _ q=>q) (λb ps q=>⟨#[],by rw[q];simp⟩) (λm hm=>?_) (λb ob q=>?_) I.bare
 .obtain⟨_,a1,a2,a3,a4,a5⟩:=hf b hb
  exact⟨a3,a1,a4,a5⟩
 .obtain⟨o,es,ep,ho',r⟩:=hm
  exact⟨o,es,ep,kk _ o (λz=>(hf _ z).2.1 rfl) ho',r⟩
 .refine(I.hok b ob q).stay (λc v hc z=>kk c v ?_ z) (λ_ z=>z) λ_ _ z=>z
  rcases hc with rfl|hc
  .exact nE c ob q
  .exact nE c _ hc
theorem Inv.turnedT{X:Cx}{pins:List (Addr×Obj)}{σ:St}{H:Hp}{s:Shared}{h2:Heap}{fp:List Addr}{xs:List V}{us:List Value}(I:Inv X pins σ H s)(hf:∀b∈fp,FpOk X pins H b)(kk:∀b o,b∉fp->s.heap.get? b=some o->h2.get? b=some o)
 (hT:h2.get? s.heap.objs.size=some {cls:=.type "tuple",data:=.seq us.toArray}) (hv:Vals xs us) (hz:xs.length<=sizeLine):Inv X pins σ (upd H s.heap.objs.size (.tup xs)) {s with heap:=h2}:=by
 have hTn:H s.heap.objs.size=none:=I.hok.fresh (vae _)
 have f0:=λb hb=>(hf b hb).1
 have nE:∀b o,H b=some o->b∉fp:=λb o q z=>by rw[f0 b z]at q;cases q
 refine I.step (g':=s.gens) (d':=s.drawn) (ch:=fp) (λb hb=>?_) (λb o _ _ hc e1 _=>kk b o hc e1) (λb o _ _ hc e1 _=>⟨o.slots,kk b o hc e1⟩) (λb o hc e1 n=>by rw[zae (va4 (vaq e1))];exact n) (λb o hc e1=>⟨o,kk b o hc e1⟩)
  (λb ys q=>by rw[zae (zac q hTn)];exact q) (λb o u q=>by rw[zae (zac q hTn)];exact q) (λb ps q=>⟨#[],by rw[zae (zac q hTn),q];simp⟩) (λm hm=>?_) (λb ob q=>?_) I.bare
 .obtain⟨_,a1,a2,a3,a4,a5⟩:=hf b hb
  exact⟨a3,a1,a4,a5⟩
 .obtain⟨o,es,ep,ho',r⟩:=hm
  exact⟨o,es,ep,kk _ o (λz=>(hf _ z).2.1 rfl) ho',r⟩
 .by_cases hb:b=s.heap.objs.size
  .subst hb
   rw[zak]at q;cases q
   exact⟨hz,us,hv,⟨_,hT,rfl,⟨_,rfl⟩,rfl⟩⟩
  .rw[zae hb]at q
   refine(I.hok b ob q).stay (λc v hc z=>kk c v ?_ z) (λc z=>by rw[zae (zac z hTn)];exact z) λc ys z=>by rw[zae (zac z hTn)];exact z
   rcases hc with rfl|hc
   .exact nE c ob q
   .exact nE c _ hc
theorem zoj{P:Program}{w:World}{K:PySem.W.Frag}{elts:List Expr}{kx:Nat}{tp:Pos}{b c:Bool}(a1 a2 z TI TO i1 i2:Addr)(D:ZA z TI TO i1 i2 a1 a2) :
 Turn P w K (.Tuple elts kx tp) (IteZ K b c a1 a2) [z,TI,TO,i1,i2] z (λi h=>IsZip h z TI TO .none/\IsPair h TI (.ref i1) (.ref i2)/\(∃p q,IsPair h TO p q)/\ZI b h i1 a1 i/\ZI c h i2 a2 i)where
 mem:=by simp
 obj:=λi h st d hd=>by
  obtain⟨hz,hTI,⟨p,q,hTO⟩,h1,h2⟩:=st
  simp only[va2,List.not_mem_nil,or_false]at hd
  rcases hd with rfl|rfl|rfl|rfl|rfl
  .exact⟨_,hz,λv z=>by
    have z':Data.fields _=Data.cell v:=z
    cases z'⟩
  .exact⟨_,hTI,λv z=>by
    have z':Data.seq _ _=Data.cell v:=z
    cases z'⟩
  .exact⟨_,hTO,λv z=>by
    have z':Data.seq _ _=Data.cell v:=z
    cases z'⟩
  .exact h1.ob
  .exact h2.ob
 keep:=λi h h' st k=>by
  obtain⟨hz,hTI,⟨p,q,hTO⟩,h1,h2⟩:=st
  exact⟨k z (by simp) _ hz,k TI (by simp) _ hTI,⟨p,q,k TO (by simp) _ hTO⟩,h1.mv λo e=>k i1 (by simp) o e,h2.mv λo e=>k i2 (by simp) o e⟩
 item:=by
  intro X hP hw hK hc i pins s σ H E I hf st hg
  subst hP hw hK
  obtain⟨xs,ys,x,y,q1,q2,hx,hy⟩:=hg
  obtain⟨hz,hTI,⟨p,q,hTO⟩,h1,h2⟩:=st
  obtain⟨its,rv,m1,_⟩:=zfd I q1
  obtain⟨jts,rw',m2,_⟩:=zfd I q2
  obtain⟨u,hu,ru⟩:=rv.get hx
  obtain⟨v,hv,rv'⟩:=rw'.get hy
  refine zrl D hz hTI hTO h1 h2 m1 m2 (x:=u) (y:=v) (by simpa using hu) (by simpa using hv) λg b1 b2 b3 b4 b5 b6 b7=>⟨_,rfl,wpAny_letOwnedTupleGo_zip b1 λg2 c1 c2=>?_⟩
  obtain⟨⟨d1,d2,d3,d4⟩,⟨d5,d6,d7,d8,d9,d10⟩,_,_⟩:=D
  have c2:Heap.SameBut z g g2:=c2
  have zlt:s.heap.objs.size≠z:=Nat.ne_of_gt (vaq hz)
  have kk:∀d o,d∉[z,TI,TO,i1,i2]->s.heap.get? d=some o->g2.get? d=some o:=λd o hd e=>(c2.2 d λx=>hd (by simp[x])).trans (b7 d o (λx=>hd (by simp[x])) (λx=>hd (by simp[x])) (λx=>hd (by simp[x])) (λx=>hd (by simp[x])) e)
  have hT:g2.get? s.heap.objs.size=some {cls:=.type "tuple",data:=.seq [u,v].toArray}:=(c2.2 _ zlt).trans b5
  have I2:=Inv.turnedT (xs:=[x,y]) I hf kk hT (.cons ru (.cons rv' .nil)) (by show 2<=sizeLine;decide)
  have hTn:H s.heap.objs.size=none:=I.hok.fresh (vae _)
  refine⟨.ref s.heap.objs.size,_,I2,rfl,⟨_,x,y,rfl,hTn,rfl,λzs hzs=>by rw[zl4 I hzs q1];exact hx,λzs hzs=>by rw[zl4 I hzs q2];exact hy⟩,
   ⟨c1,(c2.2 TI d1).trans (b7 TI _ d1 d5 d6 d7 hTI),⟨u,v,(c2.2 TO d2).trans b2⟩,b3.mv λo e=>(c2.2 i1 d3).trans e,b4.mv λo e=>(c2.2 i2 d4).trans e⟩,λd hd=>?_⟩
  rw[zae ?_]
  .exact(hf d hd).1
  .intro e
   obtain⟨o,ho⟩:∃o,s.heap.get? d=some o:=by
    simp only[va2,List.not_mem_nil,or_false]at hd
    rcases hd with rfl|rfl|rfl|rfl|rfl
    .exact⟨_,hz⟩
    .exact⟨_,hTI⟩
    .exact⟨_,hTO⟩
    .exact let⟨o,h,_⟩:=h1.ob;⟨o,h⟩
    .exact let⟨o,h,_⟩:=h2.ob;⟨o,h⟩
   exact va4 (vaq ho) e
 done:=by
  intro X hP hw hK hc i pins s σ H E I hf st hg
  subst hP hw hK
  obtain⟨xs,ys,q1,q2,hl⟩:=hg
  obtain⟨hz,hTI,⟨p,q,hTO⟩,h1,h2⟩:=st
  obtain⟨its,rv,m1,_⟩:=zfd I q1
  obtain⟨jts,rw',m2,_⟩:=zfd I q2
  have l1:=rv.length
  have l2:=rw'.length
  exact zuv (I.ok.hd hc) D hz hTI hTO h1 h2 m1 m2 (hl.imp (λh=>by simp;omega) λh=>by simp;omega) λg hk=>⟨rfl,Inv.turnedZ (t':=s.toks) I hf λd o hd e=>hk d o (λx=>hd (by simp[x])) (λx=>hd (by simp[x])) (λx=>hd (by simp[x])) (λx=>hd (by simp[x])) e⟩
 self:=λ_ _ _ _ _ st h=>wpAny_pyIter_zip st.1 h
theorem zok{bs:List Bool}{its:List Value}(r:Vals (bs.map .bl) its)(i:Nat){v:Value}(h:its[i]?=some v):∃b,bs[i]?=some b/\v=.bool b:=by
 have hl:=r.length
 rw[vaf]at hl
 obtain⟨hi,_⟩:=vav.mp h
 have hb:bs[i]?=some bs[i]:=vay (by omega)
 obtain⟨u,hu,ru⟩:=r.get (i:=i) (x:=.bl bs[i]) (by rw[List.getElem?_map,hb];rfl)
 rw[h]at hu;cases hu
 exact⟨_,hb,ru⟩
theorem zl5(bs:List Bool):((List.range bs.length).all λi=>(bs[i]?).getD true)=bs.all id:=by
 rw[Bool.eq_iff_iff,List.all_eq_true,List.all_eq_true]
 refine⟨λh b hb=>?_,λh i hi=>?_⟩
 .obtain⟨i,hi,rfl⟩:=List.getElem_of_mem hb
  have:=h i (List.mem_range.mpr hi)
  rw[vay hi]at this
  exact this
 .have hi':=List.mem_range.mp hi
  rw[vay hi']
  exact h _ (List.getElem_mem hi')
section
variable{X:Cx}
theorem zol(hc:X.calm=true):CallR X (.builtin "all") (λxs H Q=>∃(p:Addr) (bs:List Bool),xs=[.ref p]/\SqL X.K H p (bs.map .bl)/\Q (.bl (bs.all id)) H):=by
 intro pins s σ H xs us Q I r h
 obtain⟨p,bs,rfl,hq,q⟩:=h
 obtain⟨u,rfl,ru⟩:=vals1 r
 cases ru
 obtain⟨its,rv,pl,hz⟩:=I.list hq
 have hL:s.heap.IsList p its.toArray:=pl.isList
 have hlt:p<s.heap.objs.size:=by obtain⟨_,e,_⟩:=hL;exact vaq e
 have hd:X.A.in1.handled=none:=I.ok.hd hc
 have hlen:its.toArray.size=bs.length:=by rw[van,<-rv.length,vaf]
 refine call_all_walk (wpAny_pyIter_list hL ⟨s.heap.objs.size,[s.heap.objs.size,p],[s.heap.objs.size],its.toArray.size,_,_,λi=>(bs[i]?).getD true,rfl,Walks.list (A:=X.A.in1) hd _ p (va4 hlt) its.toArray,?_,?_,?_⟩)
 .exact⟨⟨_,va0 _ rfl,rfl,rfl⟩,hL.push _⟩
 .intro i v s' Q' E' hP hQ
  obtain⟨b,e,rfl⟩:=zok rv i (by simpa using hP)
  simp only[e,Option.getD_some]at hQ
  exact wpAny_truthy_bool hQ
 .intro h' tk hk
  rw[hlen,zl5]
  refine⟨.bl (bs.all id),H,I.kept (t':=tk) λb o e=>hk b o (λhm=>?_) (vac _ e),rfl,q⟩
  rw[List.mem_singleton.mp hm]at e
  exact Nat.lt_irrefl _ (vaq e)
end
noncomputable def oIs:Option Int->Value->Bool
 |none,.none=>true
 |some i,v=>Value.isInt i v
 |none,_=>false
noncomputable def oHash:Option Int->Int
 |none=>0xFCA86420
 |some i=>hashInt i
theorem za6:∀{k:Option Int} {v:Value},oIs k v=true->(k=none/\v=.none)\/∃i t,k=some i/\v=.int i t
 |none,v,h=>by cases v<;>first|exact .inl ⟨rfl,rfl⟩|cases h
 |some i,v,h=>by
  obtain⟨t,e⟩:=Value.isInt_shape (k:=i) (v:=v) h
  exact .inr ⟨i,t,rfl,e⟩
theorem zl6{prog:Program}{w:World}{A:Around}{E:Value->Shared->Prop}{s:Shared}{Q:Int->Shared->Prop}(h:Q 0xFCA86420 {s with toks:=s.toks+1}):wpAny (model prog w) A (PySem.pyHash .none) Q E s:=by
 have hT:s.TypeIs .none "NoneType":=rfl
 unfold pyHash
 refine vaa (wpAny_cRoomFor_or (.inl rfl) ?_)
 refine vaa (wpAny_specialOf hT F.slot_NoneType_hash.lookup ?_)
 show wpAny _ _ (if(some (Value.builtin "NoneType.__hash__")==some Value.none)=true then _ else _) Q E s
 rw[if_neg (by rw[beq_builtin_none];exact Bool.false_ne_true)]
 refine vaa (wpAny_specialOf hT F.slot_NoneType_hash.lookup ?_)
 show wpAny _ _ (callSpecialIfBoundUnlessNone? .none "__hash__" _ >>= _) Q E s
 refine vaa (wpAny_callSpecialIfBoundUnlessNone?_slot hT F.slot_NoneType_hash
  (wpAny_call_entry F.slot_NoneType_hash hT F.entry_NoneType_hash
    (show wpAny _ _ (do ret (<-mkInt 0xFCA86420)) _ _ s from wpAny_ret_mkInt ?_) (F.args_NoneType_hash_1 _)))
 show wpAny _ _ (if(decide (-(2:Int) ^ 63<=0xFCA86420)&&decide ((0xFCA86420:Int)<2 ^ 63))=true then _ else _) Q E _
 rw[if_pos (by decide)]
 exact vaj h
noncomputable def oKind(prog:Program)(w:World):KeyKind prog w (Option Int)where
 is:=oIs
 hash:=oHash
 inj:=λv a b ha hb=>by
  rcases za6 ha with⟨rfl,rfl⟩|⟨i,t,rfl,rfl⟩
  .rcases za6 hb with⟨rfl,_⟩|⟨j,u,rfl,e⟩
   .rfl
   .cases e
  .rcases za6 hb with⟨rfl,e⟩|⟨j,u,rfl,e⟩
   .cases e
   .cases e;rfl
 byValue:=λk v h=>by
  rcases za6 h with⟨rfl,rfl⟩|⟨i,t,rfl,rfl⟩<;>rfl
 pyHash:=λhv h=>by
  rcases za6 hv with⟨rfl,rfl⟩|⟨i,t,rfl,rfl⟩
  .exact zl6 h
  .exact wpAny_pyHash_int h
 eqBool:=λ{A E s a b u v Q} hu hv h=>by
  rcases za6 hu with⟨rfl,rfl⟩|⟨i,t,rfl,rfl⟩
  .rcases za6 hv with⟨rfl,rfl⟩|⟨j,u,rfl,rfl⟩
   .exact SeqAt.EqAt.same (A:=A) (s:=s) .none prog w E Q (by simpa using h)
   .exact SeqAt.EqAt.none_int (A:=A) (s:=s) j u prog w E Q (by simpa using h)
  .rcases za6 hv with⟨rfl,rfl⟩|⟨j,u,rfl,rfl⟩
   .exact SeqAt.EqAt.int_none (A:=A) (s:=s) i t prog w E Q (by simpa using h)
   .refine wpAny_eqBool_int ?_
    by_cases e:i=j
    .subst e;simpa using h
    .have e':(i==j)=false:=by simpa using e
     rw[e'];simpa[e]using h
 «strs»:=λk x t v h=>by
  rcases za6 h with⟨_,e⟩|⟨i,t,_,e⟩<;>cases e
noncomputable abbrev DK:=List Int×Option Int
section
variable(prog:Program)(w:World)
noncomputable def IsDK(h:Heap)(k:DK)(a:Addr):Prop:=∃o n b v,h.get? a=some o/\o.cls=.type "tuple"/\o.data=.seq #[.ref b,v] n/\IsTupleKey (intKind prog w) h k.1 b/\oIs k.2 v=true
noncomputable def zl7(k:DK):Int:=reduceHash (Builtin.Tuple.tupleHashOf [tupleKeyHash (intKind prog w) k.1,oHash k.2])
variable{prog w}
theorem IsDK.typeIs{s:Shared}{k:DK}{a:Addr}(x:IsDK prog w s.heap k a):s.TypeIs (.ref a) "tuple":=let⟨o,_,_,_,ho,hc,_⟩:=x;⟨o,ho,hc⟩
theorem IsDK.inj{h:Heap}{a:Addr}{x y:DK}(hx:IsDK prog w h x a)(hy:IsDK prog w h y a):x=y:=by
 obtain⟨o,n,b,v,ho,_,hd,hi,hv⟩:=hx
 obtain⟨o',n',b',v',ho',_,hd',hi',hv'⟩:=hy
 obtain rfl:o=o':=Option.some.inj (ho.symm.trans ho')
 rw[hd]at hd'
 injection hd' with h1 _
 have h2:=congrArg Array.toList h1
 simp only[List.cons.injEq,and_true,Value.ref.injEq]at h2
 obtain⟨rfl,rfl⟩:=h2
 exact Prod.ext (hi.inj hi') ((oKind prog w).inj _ _ _ hv hv')
theorem IsDK.keeps{h h':Heap}{k:DK}{a d:Addr}{o:Obj}{es ep}(x:IsDK prog w h k a)(ho:h.get? d=some o)(hd:o.data=.dict es ep)(hs:Heap.SameBut d h h'):IsDK prog w h' k a:=by
 obtain⟨o',n,b,v,ho',hc,hd',hi,hv⟩:=x
 have hne:a≠d:=by
  rintro rfl
  obtain rfl:o'=o:=Option.some.inj (ho'.symm.trans ho)
  rw[hd]at hd';exact nomatch hd'
 exact⟨o',n,b,v,(hs.2 a hne).trans ho',hc,hd',hi.keeps ho hd hs,hv⟩
variable{A:Around}{E:Value->Shared->Prop}{s:Shared}
theorem zl8{k:DK}{a:Addr}{Q:Int->Shared->Prop}(hu:A.units+1<cLine)(hk:IsDK prog w s.heap k a)(h:Q (zl7 prog w k) {s with toks:=s.toks+ (k.1.length+3)}) :
 wpAny (model prog w) A (pyHash (.ref a)) Q E s:=by
 have hT:=hk.typeIs
 obtain⟨o,n,b,v,ho,_,hd,hi,hv⟩:=hk
 unfold pyHash
 refine vaa (wpAny_cRoomFor_or (.inr (by omega)) ?_)
 refine vaa (wpAny_specialOf hT F.slot_tuple_hash.lookup ?_)
 show wpAny _ _ (if(some (Value.builtin "tuple.__hash__")==some Value.none)=true then _ else _) Q E s
 rw[if_neg (by rw[beq_builtin_none];exact Bool.false_ne_true)]
 refine vaa (wpAny_specialOf hT F.slot_tuple_hash.lookup ?_)
 show wpAny _ _ (callSpecialIfBoundUnlessNone? (.ref a) "__hash__" _ >>= _) Q E s
 refine vaa (wpAny_callSpecialIfBoundUnlessNone?_slot hT F.slot_tuple_hash (wpAny_call_entry F.slot_tuple_hash hT F.entry_tuple_hash ?_ (F.args_tuple_hash_1 _)))
 show wpAny _ _ (Builtin.Tuple.tupleItemsOf (.ref a) >>= _) _ _ s
 refine vaa (wpAny_tupleItemsOf ho hd ?_)
 refine vaa ?_
 rw[<-Array.forIn_toList]
 refine wpAny_forIn_list _
  (λrest (acc:Array Int) s'=>(rest=[.ref b,v]/\acc.toList=[]/\s'=s)\/(rest=[v]/\acc.toList=[tupleKeyHash (intKind prog w) k.1]/\s' ={s with toks:=s.toks+ (k.1.length+1)})\/(rest=[]/\acc.toList=[tupleKeyHash (intKind prog w) k.1,oHash k.2]/\s' ={s with toks:=s.toks+ (k.1.length+1)+1}))
  _ ?_ ?_ _ _ (.inl ⟨rfl,rfl,rfl⟩)
 .rintro x rest acc s' (⟨e,ha,rfl⟩|⟨e,ha,rfl⟩|⟨e,_⟩)
  .cases e
   refine vaa (wpAny_pyHash_tuple hu hi ?_)
   first
    |exact vaj (.inr (.inl ⟨rfl,by simp[ha],rfl⟩))
    |exact vaa (vaj (vaj (.inr (.inl ⟨rfl,by simp[ha],rfl⟩))))
  .cases e
   refine vaa ((oKind prog w).pyHash (k:=k.2) hv ?_)
   first
    |exact vaj (.inr (.inr ⟨rfl,by simp[ha];rfl,rfl⟩))
    |exact vaa (vaj (vaj (.inr (.inr ⟨rfl,by simp[ha];rfl,rfl⟩))))
  .cases e
 .rintro acc s' (⟨e,_⟩|⟨e,_⟩|⟨_,ha,rfl⟩)
  .cases e
  .cases e
  .show wpAny _ _ (retInt (Builtin.Tuple.tupleHashOf acc.toList)) _ _ _
   rw[ha]
   refine wpAny_ret_mkInt ?_
   show wpAny _ _ (if(decide (-(2:Int) ^ 63<=Builtin.Tuple.tupleHashOf [tupleKeyHash (intKind prog w) k.1,oHash k.2])&&decide (Builtin.Tuple.tupleHashOf [tupleKeyHash (intKind prog w) k.1,oHash k.2]<2 ^ 63))=true then _ else _) Q E _
   unfold zl7 reduceHash at h
   by_cases hr:(decide (-(2:Int) ^ 63<=Builtin.Tuple.tupleHashOf [tupleKeyHash (intKind prog w) k.1,oHash k.2])&&decide (Builtin.Tuple.tupleHashOf [tupleKeyHash (intKind prog w) k.1,oHash k.2]<2 ^ 63))=true
   .rw[if_pos hr]
    rw[if_pos hr]at h
    exact vaj (by simpa[Nat.add_assoc]using h)
   .rw[if_neg hr]
    rw[if_neg hr]at h
    exact vaa (wpAny_rule (vaj (by simpa[Nat.add_assoc]using h)))
theorem zkw{x y:DK}{a b:Addr}{P:Fin->Shared->Prop}(hu:A.units<cLine)(hx:IsDK prog w s.heap x a)(hy:IsDK prog w s.heap y b)(h:P (.done (.ret (.bool (decide (x=y))))) s) :
 wpAny (model prog w) A (Builtin.«tuple.__eq__» ⟨[.ref a,.ref b],[]⟩) P E s:=by
 have hTb:=hy.typeIs
 obtain⟨oa,na,a1,v1,hoa,_,hda,hia,hva⟩:=hx
 obtain⟨ob,nb,b1,v2,hob,_,hdb,hib,hvb⟩:=hy
 show wpAny _ _ (isInstance (.ref b) (.type "tuple") >>= _) _ _ s
 refine vaa (wpAny_isInstance hTb isSubtype_tuple_tuple ?_)
 simp only[Bool.not_true,vak,if_false]
 refine vaa (wpAny_tupleItemsOf hoa hda ?_)
 refine vaa (wpAny_tupleItemsOf hob hdb ?_)
 refine vaa ?_
 refine wpAny_forIn_list _
  (λrest r s'=>r.1=none/\s'=s/\((rest=[(Value.ref a1,Value.ref b1),(v1,v2)])\/(rest=[(v1,v2)]/\x.1=y.1)\/(rest=[]/\x=y)))
  _ ?_ ?_ _ _ ⟨rfl,rfl,.inl rfl⟩
 .rintro⟨u,v⟩ rest r s' ⟨hr,rfl,e|⟨e,hxy⟩|⟨e,_⟩⟩
  .cases e
   refine vaa (wpAny_eqBool_tuple hu hia hib ?_)
   by_cases hk:x.1=y.1
   .rw[decide_eq_true hk]
    simp only[Bool.not_true,vak,if_false]
    exact vaj ⟨rfl,rfl,.inr (.inl ⟨(by first|rfl|trivial),hk⟩)⟩
   .rw[va3 hk]
    simp only[Bool.not_false,if_true]
    have hf:decide (x=y)=false:=va3 λz=>hk (by rw[z])
    rw[hf]at h
    exact vaa (vaj (vaj (vaj h)))
  .cases e
   refine vaa ((oKind prog w).eqBool (a:=x.2) (b:=y.2) hva hvb ?_)
   by_cases hk:x.2=y.2
   .rw[decide_eq_true hk]
    simp only[Bool.not_true,vak,if_false]
    exact vaj ⟨rfl,rfl,.inr (.inr ⟨(by first|rfl|trivial),Prod.ext hxy hk⟩)⟩
   .rw[va3 hk]
    simp only[Bool.not_false,if_true]
    have hf:decide (x=y)=false:=va3 λz=>hk (by rw[z])
    rw[hf]at h
    exact vaa (vaj (vaj (vaj h)))
  .cases e
 .rintro⟨r1,r2⟩ s' ⟨hr,rfl,e|⟨e,_⟩|⟨_,e⟩⟩
  .cases e
  .cases e
  .simp only at hr
   subst hr
   refine vaj ?_
   rw[decide_eq_true e]at h
   exact h
theorem zl9{x y:DK}{a b:Addr}{Q:Bool->Shared->Prop}(hu:A.units+1<cLine)(hx:IsDK prog w s.heap x a)(hy:IsDK prog w s.heap y b)(h:Q (decide (x=y)) s) :
 wpAny (model prog w) A (eqBool (.ref a) (.ref b)) Q E s:=by
 unfold eqBool
 try with_reducible refine wpAny_holding ?_
 show wpAny _ _ (if(Value.ref a==Value.ref b)=true then _ else _) Q E s
 by_cases hab:(Value.ref a==Value.ref b)=true
 .rw[if_pos hab]
  have e:a=b:=by have:=eq_of_beq hab;injection this
  subst e
  obtain rfl:=hx.inj hy
  exact vaa (wpAny_rule (vaj (by simpa using h)))
 .rw[if_neg hab]
  exact vaa (wpAny_richCompare_same_room (op:=.Eq) hx.typeIs hy.typeIs F.slot_tuple_eq
   (wpAny_call_entry F.slot_tuple_eq hx.typeIs F.entry_tuple_eq (zkw hu hx hy ⟨_,rfl,(λe=>nomatch e),wpAny_truthy_bool h⟩) (F.args_tuple_eq_2 _ _)) (by omega))
theorem zih{n:Nat}{ks:List Int}{a:Addr}{Q:Bool->Shared->Prop}(hk:IsTupleKey (intKind prog w) s.heap ks a)(h:Q true s):wpAny (model prog w) A (eqIsQuiet (n+1) (.ref a)) Q E s:=by
 have hT:=hk.typeIs
 obtain⟨o,items,m,ho,_,hd,hi⟩:=hk
 unfold eqIsQuiet
 refine vaa (wpAny_specialOf hT F.slot_tuple_eq.lookup ?_)
 show wpAny _ _ (isInstance (.ref a) (.type "tuple") >>= _) _ _ s
 refine vaa (wpAny_isInstance hT isSubtype_tuple_tuple ?_)
 simp only[Bool.not_true,vak,if_false]
 refine vaa (wpAny_seqItems ho hd ?_)
 refine vaa ?_
 show wpAny _ _ (forIn items _ _) _ _ s
 rw[<-Array.forIn_toList]
 refine wpAny_forIn_list _ (λrest r s'=>r.1=none/\s'=s/\∀v∈rest,carriedByValue v=true) _ ?_ ?_ _ _ ⟨rfl,rfl,hi.byValue⟩
 .rintro v rest r s' ⟨hr,rfl,hall⟩
  rw[eqIsQuiet_byValue _ (hall v vag)]
  refine vaa (vaj ?_)
  simp only[Bool.not_true,vak,if_false]
  exact vaj ⟨rfl,rfl,λu hu'=>hall u (vad _ hu')⟩
 .rintro⟨r1,r2⟩ s' ⟨hr,rfl,_⟩
  simp only at hr
  subst hr
  exact vaj h
theorem zom{k:DK}{a:Addr}{Q:Bool->Shared->Prop}(hk:IsDK prog w s.heap k a)(h:Q true s):wpAny (model prog w) A (eqIsQuiet 8 (.ref a)) Q E s:=by
 have hT:=hk.typeIs
 obtain⟨o,n,b,v,ho,_,hd,hi,hv⟩:=hk
 unfold eqIsQuiet
 refine vaa (wpAny_specialOf hT F.slot_tuple_eq.lookup ?_)
 show wpAny _ _ (isInstance (.ref a) (.type "tuple") >>= _) _ _ s
 refine vaa (wpAny_isInstance hT isSubtype_tuple_tuple ?_)
 simp only[Bool.not_true,vak,if_false]
 refine vaa (wpAny_seqItems ho hd ?_)
 refine vaa ?_
 show wpAny _ _ (forIn #[.ref b,v] _ _) _ _ s
 rw[<-Array.forIn_toList]
 refine wpAny_forIn_list _ (λrest r s'=>r.1=none/\s'=s/\(rest=[.ref b,v]\/rest=[v]\/rest=[])) _ ?_ ?_ _ _ ⟨rfl,rfl,.inl rfl⟩
 .rintro u rest r s' ⟨hr,rfl,e|e|e⟩
  .cases e
   refine vaa (zih hi ?_)
   simp only[Bool.not_true,vak,if_false]
   exact vaj ⟨rfl,rfl,.inr (.inl (by first|rfl|trivial))⟩
  .cases e
   rw[eqIsQuiet_byValue _ ((oKind prog w).byValue _ _ hv)]
   refine vaa (vaj ?_)
   simp only[Bool.not_true,vak,if_false]
   exact vaj ⟨rfl,rfl,.inr (.inr (by first|rfl|trivial))⟩
  .cases e
 .rintro⟨r1,r2⟩ s' ⟨hr,rfl,_⟩
  simp only at hr
  subst hr
  exact vaj h
end
noncomputable def dKind(prog:Program)(w:World):HeapKind prog w DK where
 is:=IsDK prog w
 hash:=zl7 prog w
 draws:=λk=>k.1.length+3
 room:=λA=>A.units+1<cLine
 inj:=λhx hy=>hx.inj hy
 keeps:=λx ho hd hs=>x.keeps ho hd hs
 pyHash:=λhu hk h=>zl8 hu hk h
 eqBool:=λhu hx hy h=>zl9 hu hx hy h
 quiet:=λhk h=>zom hk h
noncomputable def dkh(k:DK):Int:=reduceHash (Builtin.Tuple.tupleHashOf [reduceHash (Builtin.Tuple.tupleHashOf (k.1.map hashInt)),oHash k.2])
noncomputable def ovV:Option Int->V
 |none=>.non
 |some i=>.int i
noncomputable abbrev DX:=List (DK×Addr×V)
noncomputable abbrev dtP(xs:DX)(us:List (DK×Addr×Value)):Prop:=Paired (λ(p:DK×Addr×V) (q:DK×Addr×Value)=>p.1=q.1/\p.2.1=q.2.1/\RelV p.2.2 q.2.2) xs us
noncomputable def dtF(xs:DX)(a:Addr)(h:Heap):Prop:=xs.length<=sizeLine/\(a==sysModules)=false/\(xs.map (·.1)).Nodup/\∃us,dtP xs us/\∃o es ep,h.get? a=some o/\o.ExactDict/\o.data=.dict es ep/\es.toList=us.map λx=>⟨dkh x.1,.ref x.2.1,x.2.2⟩
noncomputable def dtH(xs:DX)(a:Addr):HO:=.ext (dtF xs a)
theorem zpr{P:Program}{w:World}{H:Hp}{h:Heap}{a:Addr}{xs:DX}(e:dtF xs a h):ObjOk P w H h a (dtH xs a):=by
 refine⟨e,?_,?_⟩
 .obtain⟨_,_,_,us,_,o,_,_,h1,_⟩:=e
  exact⟨o,h1⟩
 .rintro h1 h2 ⟨a1,a2,a3,us,a4,o,es,ep,b1,b2⟩ k
  exact⟨a1,a2,a3,us,a4,o,es,ep,k o b1,b2⟩
theorem zuw{P:Program}{w:World}{H:Hp}{h:Heap}{a:Addr}{xs:DX}(ok:HOk P w H h)(e:H a=some (dtH xs a)):dtF xs a h:=(ok a _ e).1
noncomputable def KeyAt(K:PySem.W.Frag)(H:Hp)(k:DK)(b:Addr):Prop:=∃c,SqT K H b [.ref c,ovV k.2]/\SqT K H c (k.1.map .int)
noncomputable def DT(K:PySem.W.Frag)(H:Hp)(a:Addr)(xs:DX):Prop:=(H a=some (dtH xs a)/\∀p∈xs,KeyAt K H p.1 p.2.1)\/(xs=[]/\Rd H a (.dK []))
noncomputable def findX(xs:DX)(k:DK):Option (Addr×V):=(xs.find? λx=>decide (x.1=k)).map (·.2)
noncomputable def putX(xs:DX)(k:DK)(b:Addr)(v:V):DX:=if(findX xs k).isSome then xs.map (λx=>if x.1=k then(x.1,x.2.1,v)else x)else xs++[(k,b,v)]
theorem zdx{xs:DX}{us:List (DK×Addr×Value)}(r:dtP xs us)(k:DK):(findX xs k=none/\atKey us k=none)\/∃p q,findX xs k=some p/\atKey us k=some q/\RelV p.2 q.2:=by
 induction r with
 |nil=>exact .inl ⟨rfl,rfl⟩
 | @cons p q ps qs h t ih=>
  obtain⟨h1,h2,h3⟩:=h
  by_cases e:p.1=k
  .refine .inr ⟨p.2,q.2,?_,?_,h3⟩
   .simp[findX,List.find?_cons,e]
   .simp[atKey,List.find?_cons,h1.symm.trans e]
  .have e':¬q.1=k:=λz=>e (h1.trans z)
   have b1:findX (p::ps) k=findX ps k:=by simp[findX,List.find?_cons,e]
   have b2:atKey (q::qs) k=atKey qs k:=by simp[atKey,List.find?_cons,e']
   rw[b1,b2];exact ih
theorem zrn{xs:DX}{us:List (DK×Addr×Value)}(r:dtP xs us)(k:DK)(b:Addr){v:V}{u:Value}(rv:RelV v u):dtP (putX xs k b v) (storedH us k b u):=by
 unfold putX storedH
 have e:(findX xs k).isSome=(atKey us k).isSome:=by
  rcases zdx r k with⟨h1,h2⟩|⟨p,q,h1,h2,_⟩<;> (rw[h1,h2];rfl)
 rw[e]
 by_cases z:(atKey us k).isSome=true
 .rw[if_pos z,if_pos z]
  clear e z
  induction r with
  |nil=>exact .nil
  | @cons p q ps qs h t ih=>
   rw[vam,vam]
   refine .cons ?_ ih
   obtain⟨h1,h2,h3⟩:=h
   unfold putAt
   by_cases e:p.1=k
   .rw[if_pos e,if_pos (h1.symm.trans e)];exact⟨h1,h2,rv⟩
   .rw[if_neg e,if_neg (λz=>e (h1.trans z))];exact⟨h1,h2,h3⟩
 .rw[if_neg z,if_neg z]
  exact Paired.snoc r ⟨rfl,rfl,rv⟩
theorem zro(xs:DX)(k:DK)(b:Addr)(v:V):(putX xs k b v).length<=xs.length+1:=by
 unfold putX
 split
 .rw[vaf];omega
 .rw[vao];exact vae _
section
variable{X:Cx}{pins:List (Addr×Obj)}{σ:St}{H:Hp}{s:Shared}{a b:Addr}{k:DK}{xs:DX}{v:V}{r:Value}{A:Around}{E:Value->Shared->Prop}
theorem zjh:∀{ls:List Int} {us:List Value},Vals (ls.map .int) us->ItemsAre (intKind X.prog X.w) ls us
 |[],_,.nil=>.nil
 |x::ls,_,.cons h t=>by
  obtain⟨t',rfl⟩:=h
  exact .cons (by show Value.isInt x (.int x t')=true;simp[Value.isInt]) (zjh t)
theorem KeyAt.is(I:Inv X pins σ H s)(h:KeyAt X.K H k b):IsDK X.prog X.w s.heap k b:=by
 obtain⟨c,h1,h2⟩:=h
 obtain⟨its,r1,⟨o,e1,e2,n,e3⟩,_⟩:=I.tuple h1
 obtain⟨its2,r2,⟨o2,f1,f2,n2,f3⟩,_⟩:=I.tuple h2
 cases r1 with
 | @cons _ u0 _ us0 q1 q2=>
  cases q2 with
  | @cons _ u1 _ us1 q3 q4=>
   cases q4
   have q1:u0=.ref c:=q1
   subst q1
   refine⟨o,n,c,u1,e1,e2,e3,⟨o2,its2.toArray,n2,f1,f2,f3,zjh r2⟩,?_⟩
   cases z:k.2 with
   |none=>rw[z]at q3;cases q3;rfl
   |some i=>rw[z]at q3;obtain⟨t,rfl⟩:=q3;show Value.isInt i (.int i t)=true;simp[Value.isInt]
theorem DT.dict(I:Inv X pins σ H s)(h:DT X.K H a xs):xs.length<=sizeLine/\(a==sysModules)=false/\∃us,dtP xs us/\s.heap.DictOfH (dKind X.prog X.w) a us:=by
 rcases h with⟨e,hk⟩|⟨rfl,e⟩
 .obtain⟨a1,a2,a3,us,a4,o,es,ep,b1,b2,b3,b4⟩:=zuw I.hok e
  refine⟨a1,a2,us,a4,o,es,ep,b1,b2,b3,b4,?_,?_⟩
  .intro x hx
   have:∃p∈xs,p.1=x.1/\p.2.1=x.2.1:=by
    clear a1 a3 b4 hk e
    induction a4 with
    |nil=>cases hx
    | @cons p q ps qs h t ih=>
     rcases va2.mp hx with rfl|hx
     .exact⟨p,vag,h.1,h.2.1⟩
     .obtain⟨p',h1,h2⟩:=ih hx
      exact⟨p',vad _ h1,h2⟩
   obtain⟨p,hp,h1,h2⟩:=this
   have:=KeyAt.is I (hk p hp)
   rw[h1,h2]at this
   exact this
  .have:us.map (·.1)=xs.map (·.1):=by
    clear a1 a3 b4 hk e
    induction a4 with
    |nil=>rfl
    | @cons p q ps qs h t ih=>rw[vam,vam,ih,h.1]
   rw[this];exact a3
 .obtain⟨z,y,vs,r,o,es,ep,b1,b2,b3,b4,b5,b6⟩:=dk_rd I.hok e
  cases r
  refine⟨Nat.zero_le _,y,[],.nil,o,es,ep,b1,b2,b3,?_,(λx hx=>nomatch hx),List.nodup_nil⟩
  generalize es.toList=l at b5 ⊢
  cases b5
  rfl
theorem zux{Q:Value->Shared->Prop}{p:Addr×V}(hu:A.units+2<cLine)(I:Inv X pins σ H s)(d:DT X.K H a xs)(kk:KeyAt X.K H k b)(g:findX xs k=some p)(h:∀w' s',Inv X pins σ H s'->RelV p.2 w'->Q w' s') :
 wpAny (model X.prog X.w) A (getItem (.ref a) (.ref b)) Q E s:=by
 obtain⟨_,_,us,r,dd⟩:=d.dict I
 rcases zdx r k with⟨h1,_⟩|⟨p',q,h1,h2,h3⟩
 .rw[g]at h1;cases h1
 .rw[g]at h1;cases h1
  exact wpAny_getItem_heap (knd:=dKind X.prog X.w) (by show A.in1.units+1<cLine;exact hu) (kk.is I) dd h2 (h _ _ (I.tok _) h3)
theorem dt_in{Q:Value->Shared->Prop}(hu:A.units+2<cLine)(I:Inv X pins σ H s)(d:DT X.K H a xs)(kk:KeyAt X.K H k b)(h:∀s',Inv X pins σ H s'->Q (.bool (findX xs k).isSome) s') :
 wpAny (model X.prog X.w) A (compareOp .In (.ref b) (.ref a)) Q E s:=by
 obtain⟨_,y,us,r,dd⟩:=d.dict I
 have e:(findX xs k).isSome=(atKey us k).isSome:=by
  rcases zdx r k with⟨h1,h2⟩|⟨p,q,h1,h2,_⟩<;> (rw[h1,h2];rfl)
 refine wpAny_in_heap (knd:=dKind X.prog X.w) (by show A.in1.units+1<cLine;exact hu) (kk.is I) y dd ?_
 rw[<-e]
 exact h _ (I.tok _)
theorem zon{Q:Value->Shared->Prop}(hu:A.units+2<cLine)(I:Inv X pins σ H s)(d:DT X.K H a xs)(kk:KeyAt X.K H k b)(h:∀s',Inv X pins σ H s'->Q (.bool (!(findX xs k).isSome)) s') :
 wpAny (model X.prog X.w) A (compareOp .NotIn (.ref b) (.ref a)) Q E s:=by
 obtain⟨_,y,us,r,dd⟩:=d.dict I
 have e:(findX xs k).isSome=(atKey us k).isSome:=by
  rcases zdx r k with⟨h1,h2⟩|⟨p,q,h1,h2,_⟩<;> (rw[h1,h2];rfl)
 refine wpAny_notIn_heap (knd:=dKind X.prog X.w) (by show A.in1.units+1<cLine;exact hu) (kk.is I) y dd ?_
 rw[<-e]
 exact h _ (I.tok _)
theorem zuy{Q:Unit->Shared->Prop}(hu:A.units+2<cLine)(I:Inv X pins σ H s)(d:DT X.K H a xs)(mu:Mut (H a))(kk:KeyAt X.K H k b)(hz:xs.length<sizeLine)(rv:RelV v r)(h:∀s',Inv X pins σ (upd H a (dtH (putX xs k b v) a)) s'->Q () s') :
 wpAny (model X.prog X.w) A (setItem (.ref a) (.ref b) r) Q E s:=by
 obtain⟨_,y,us,rl,dd⟩:=d.dict I
 refine wpAny_setItem_heap (knd:=dKind X.prog X.w) (hsz:=by rw[<-Paired.length rl];omega) (by show A.in1.units+1<cLine;exact hu) (kk.is I) dd λh' dd' hs=>h _ ?_
 obtain⟨q,es,ep,hq,h2,h3,h4,_,h5⟩:=dd'
 have pr:=zrn rl k b rv
 refine zie I mu hs ⟨q,hq⟩ (zpr ⟨?_,y,?_,_,pr,q,es,ep,hq,h2,h3,h4⟩)
 .have:=zro xs k b v;omega
 .have:(putX xs k b v).map (·.1)=(storedH us k b r).map (·.1):=by
   generalize putX xs k b v=ys at pr
   generalize storedH us k b r=zs at pr
   clear h4 h5
   induction pr with
   |nil=>rfl
   | @cons p q ps qs h t ih=>rw[vam,vam,ih,h.1]
  rw[this];exact h5
end
end L2
namespace L2
open PySem PySem.Spec PyProof.Rows PySem.W
open AutoSeq1 (wpAny_loadPart')
noncomputable def DE(h:Heap)(d:Addr)(es:Array DictEntry)(ep:Nat):Prop:=∃o,h.get? d=some o/\o.ExactDict/\o.data=.dict es ep
theorem DE.ty{s:Shared}{d:Addr}{es:Array DictEntry}{ep:Nat}(x:DE s.heap d es ep):s.TypeIs (.ref d) "dict":=let⟨o,a,b,_⟩:=x;⟨o,a,b.1⟩
end L2
namespace L2
open PySem PySem.Spec PyProof.Rows PySem.W
section
variable{X:Cx}{pins:List (Addr×Obj)}{σ:St}{H:Hp}{s:Shared}{a b:Addr}{k:DK}{xs:DX}
theorem DT.de(I:Inv X pins σ H s)(h:DT X.K H a xs):∃(es:Array DictEntry) (ep:Nat),DE s.heap a es ep/\es.size=xs.length/\∀(i:Nat) (p:DK×Addr×V),xs[i]?=some p->∃e:DictEntry,es[i]?=some e/\e.key=Value.ref p.2.1:=by
 obtain⟨g1,_,us,r,o,es,ep,b1,b2,b3,b4,g2⟩:=h.dict I
 clear h g1 g2
 refine⟨es,ep,⟨o,b1,b2,b3⟩,?_,λi p hp=>?_⟩
 .rw[<-Array.length_toList,b4,vaf,Paired.length r]
 .have:∃q,us[i]?=some q/\p.2.1=q.2.1:=by
   clear b4
   revert i
   induction r with
   |nil=>intro i hp;simp at hp
   | @cons p0 q0 ps qs h t ih=>
    intro i hp
    cases i with
    |zero=>simp at hp;subst hp;exact⟨q0,rfl,h.2.1⟩
    |succ i=>exact ih i (by simpa using hp)
  obtain⟨q,h1,h2⟩:=this
  refine⟨⟨dkh q.1,.ref q.2.1,q.2.2⟩,?_,by rw[h2]⟩
  rw[<-Array.getElem?_toList,b4,List.getElem?_map,h1];rfl
noncomputable def rInX(K:PySem.W.Frag)(neg:Bool):R2:=λx y H Q=>∃a b xs k,y=.ref a/\x=.ref b/\DT K H a xs/\KeyAt K H k b/\Q (.bl (if neg then !(findX xs k).isSome else(findX xs k).isSome)) H
theorem zuz(hu:X.A.units+2<cLine):OpR X (compareOp .In) (rInX X.K false):=by
 intro pins s σ H x y v u Q I rx ry h
 obtain⟨a,b,xs,k,rfl,rfl,d,kk,q⟩:=h
 cases rx;cases ry
 exact dt_in hu I d kk λs' I'=>⟨.bl _,H,I',rfl,q⟩
theorem zma(hu:X.A.units+2<cLine):OpR X (compareOp .NotIn) (rInX X.K true):=by
 intro pins s σ H x y v u Q I rx ry h
 obtain⟨a,b,xs,k,rfl,rfl,d,kk,q⟩:=h
 cases rx;cases ry
 exact zon hu I d kk λs' I'=>⟨.bl _,H,I',rfl,q⟩
theorem DT.typeIs(I:Inv X pins σ H s)(h:DT X.K H a xs):s.TypeIs (.ref a) "dict":=let⟨_,_,d,_⟩:=h.de I;d.ty
noncomputable def rIxX(K:PySem.W.Frag):R2:=λx y H Q=>∃a b xs k p,x=.ref a/\y=.ref b/\DT K H a xs/\KeyAt K H k b/\findX xs k=some p/\Q p.2 H
theorem ix_dt(hu:X.A.units+2<cLine):IxR X (rIxX X.K):=by
 intro value slice pins s σ H x y v u Q I rx ry q hs
 obtain⟨a,b,xs,k,p,rfl,rfl,d,kk,g,q⟩:=q
 cases rx;cases ry
 exact tail_any (d.typeIs I) PySem.F.slot_dict_getitem.lookup (zux hu I d kk g λw' s3 I3 rw'=>⟨p.2,H,I3,rw',q⟩) hs
noncomputable def rSetX(K:PySem.W.Frag):V->V->V->Hp->(Hp->Prop)->Prop:=λo i v H Q=>∃a b xs k,o=.ref a/\i=.ref b/\DT K H a xs/\Mut (H a)/\KeyAt K H k b/\xs.length<sizeLine/\Q (upd H a (dtH (putX xs k b v) a))
theorem zu0(hu:X.A.units+2<cLine):PSet X (rSetX X.K):=by
 intro pins s σ H o i v ov iv u Q I ro ri rv h
 obtain⟨a,b,xs,k,rfl,rfl,d,mu,kk,hz,q⟩:=h
 cases ro;cases ri
 exact zuy hu I d mu kk hz rv λs' I'=>⟨_,I',q⟩
theorem PSet.or{t t':V->V->V->Hp->(Hp->Prop)->Prop}(h:PSet X t)(h':PSet X t'):PSet X (λo i v H Q=>t o i v H Q\/t' o i v H Q):=by
 intro pins s σ H o i v ov iv u Q I ro ri rv q
 rcases q with q|q
 .exact h pins s σ H o i v ov iv u Q I ro ri rv q
 .exact h' pins s σ H o i v ov iv u Q I ro ri rv q
noncomputable def zu1(K:PySem.W.Frag)(trs:List (TE×TE)):TE:=λσ H Q=>∀p,H p=none->zje trs σ (upd H p (.dK [])) λps H2=>H2 p=some (.dK [])/\((∃kvs:List (Key×V),ps=kvs.map (λkv=>(kV kv.1,kv.2))/\kvs.length<=15/\Q (.ref p) (upd H2 p (.dK (zdl [] kvs))))\/
 ∃b k v,ps=[(.ref b,v)]/\KeyAt K H2 k b/\Q (.ref p) (upd H2 p (dtH [(k,b,v)] p)))
theorem zoo{pos:Pos}{keys:List (Option Expr)}{values:List Expr}{trs:List (TE×TE)}(hu:X.A.units+2<cLine)(h:PPs X pos keys values trs)(hall:keys.all (·.isSome)=true)(hl:keys.length=values.length)(h0:keys≠[])
 (h15:keys.length<=15):PE X (.Dict keys values pos) (zu1 X.K trs):=by
 intro pins s σ H Q I q
 have hn:=I.hok.fresh (vae s.heap.objs.size)
 have I1:=I.laid (a:=s.heap.objs.size) (o:=.dK []) (h':=s.heap.push {cls:=.type "dict",data:=.dict #[]}) (t':=s.toks) (λ_ _ q=>vac _ q) (vae _) (zjd s.heap I.big)
 refine wpAny_Dict_any hall hl h0 h15 (thn (h pins _ σ _ _ I1 (q _ hn)) λws s2 hq0=>?_)
 obtain⟨ps,H2,I2,rel,e,q2⟩:=hq0
 unfold storeAll
 rcases q2 with⟨kvs,ep,lk,q2⟩|⟨b,k,v,ep,kk,q2⟩
 .subst ep
  obtain⟨rs,c,rk⟩:=ze8 (P:=X.prog) (w:=X.w) rel
  obtain⟨z,hd,vs0,r0,dd⟩:=dk_of I2.hok e
  cases r0
  have hr:rs.length=kvs.length:=(Paired.length rk).symm
  refine wpAny_storeAll (knd:=za2 X.prog X.w) ws rs [] s2 _ c dd (by rw[List.length_nil,sizeLine_eq];omega) λh' dd' hs=>⟨.ref s.heap.objs.size,_,?_,rfl,q2⟩
  have hz:(zdl [] kvs).length<=sizeLine:=by
   have h1:=zcs kvs []
   rw[List.length_nil]at h1
   rw[sizeLine_eq];omega
  have he:∃q,h'.get? s.heap.objs.size=some q:=let⟨q,_,_,hq,_⟩:=dd';⟨q,hq⟩
  exact zie I2 (by rw[e];exact True.intro) hs he (zul hz hd (rk.merge .nil) dd')
 .subst ep
  cases rel with
  | @cons p0 w0 ps0 ws0 rp rr=>
   cases rr
   obtain⟨w1,w2⟩:=w0
   obtain⟨r1,r2⟩:=rp
   cases r1
   have d:DT X.K H2 s.heap.objs.size []:=.inr ⟨rfl,.inl e⟩
   obtain⟨_,y,us,rl,dd⟩:=d.dict I2
   cases rl
   rw[List.forIn_cons]
   refine vaa (vaa (wpAny_dictSet_heap (knd:=dKind X.prog X.w) (hsz:=by simp) (by show X.A.units+1<cLine;omega) (kk.is I2) dd λh' dd' hs=>vaj ?_))
   show wpAny _ _ (pure _) _ _ _
   refine vaj ⟨.ref s.heap.objs.size,_,?_,rfl,q2⟩
   obtain⟨q,es,ep,hq,h2,h3,h4,_,h5⟩:=dd'
   refine zie I2 (by rw[e];exact True.intro) hs ⟨q,hq⟩ (zpr ⟨by rw[sizeLine_eq];exact Nat.le_add_left 1 16777215,y,by simp,[(k,b,w2)],.cons ⟨rfl,rfl,r2⟩ .nil,q,es,ep,hq,h2,h3,h4⟩)
end
end L2
namespace RF
open PySem
inductive W where
 |non|bl (b:Bool)|int (i:Int)|str (x:Str)|tup (ws:List W)|fz (ws:List W)|ref (i:Nat)
mutual
noncomputable def W.lt(n:Nat):W->Bool
 |.tup ws=>W.lts n ws
 |.fz ws=>W.lts n ws
 |.ref i=>Nat.blt i n
 |_=>true
noncomputable def W.lts(n:Nat):List W->Bool
 |[]=>true
 |w::ws=>W.lt n w&&W.lts n ws
end
inductive VO where
 |lst (ws:List W)|dk (kvs:List (L2.Key×W))|dt (ks ws:List W)|ins (C:Addr) (xs:List Str) (ws:List W)
structure VH where
 n:Nat
 lo:Nat
 os:List VO
noncomputable def VH.get(h:VH)(i:Nat):Option VO:=if Nat.blt i h.n then h.os[h.n-1-i]? else none
noncomputable def VH.set(h:VH)(i:Nat)(o:VO):VH:=⟨h.n,if Nat.blt i h.lo then i else h.lo,h.os.set (h.n-1-i) o⟩
noncomputable def VH.new(h:VH)(o:VO):VH:=⟨h.n+1,h.lo,o::h.os⟩
inductive Res(α:Type)where
 |ok (a:α) (h:VH)|ex (x:W) (h:VH)|no
noncomputable def Res.bind{α β:Type}(r:Res α)(f:α->VH->Res β):Res β:=match r with
 |.ok a h=>f a h
 |.ex x h=>.ex x h
 |.no=>.no
noncomputable def Res.of{α:Type}(o:Option α)(h:VH):Res α:=match o with
 |some a=>.ok a h
 |none=>.no
inductive Op where
 |add|sub|mul|fdiv|mod|shl|pow
 deriving DecidableEq
inductive Cp where
 |eq|ne|lt|le|gt|ge|isn|notn|inn|nin
 deriving DecidableEq
inductive Ty where
 |int|bool|tuple|list|str|dict
 deriving DecidableEq
inductive Bi where
 |len|list|tuple|int|abs|max|min|all|lrng
 deriving DecidableEq
inductive Mt where
 |append|get|count
 deriving DecidableEq
inductive Kd where
 |seq|rng1|rng2|enm|zip|keys
 deriving DecidableEq
inductive Tg where
 |one (i:Nat)|many (is:List Nat)
 deriving DecidableEq
inductive E where
 |var (i:Nat)|cst (w:W)
 |nil|cons (a r:E)
 |tup (a:E)|lst (a:E)|dsp (a:E)
 |op (o:Op) (a b:E)|neg (a:E)
 |cmp (c:Cp) (a b:E)|chn (c d:Cp) (a b e:E)
 |not (a:E)|and (a b:E)|or (a b:E)|tru (a:E)|ite (c a b:E)
 |idx (a b:E)|slc (a:E) (bl:Bool) (lo:E) (bh:Bool) (hi:E)
 |call (f:Nat) (a:E)|bi (b:Bi) (a:E)|isi (t:Ty) (a:E)|mt (m:Mt) (o a:E)
 |lc (k:Kd) (a:E) (t:Tg) (ow:Nat) (ix:List Nat) (c e:E)
 |lc2 (k:Kd) (a:E) (t:Tg) (ow:Nat) (ix:List Nat) (c:E) (k2:Kd) (a2:E) (t2:Tg) (c2 e:E)
 |att (C:Addr) (x:Str) (a:E)
 |mk (C:Addr) (f:Nat) (a:E)|mcall (C:Addr) (mt:Str) (f:Nat) (o a:E)
 |dc (k:Kd) (a:E) (t:Tg) (ow:Nat) (ix:List Nat) (c e v:E)
inductive S where
 |skip|seq (a b:S)|set (i:Nat) (e:E)|unp (is:List Nat) (e:E)|aug (i:Nat) (o:Op) (e:E)
 |sat (C:Addr) (x:Str) (o v:E)|put (o i v:E)|pts (o:E) (bl:Bool) (lo:E) (bh:Bool) (hi v:E)|ite (c:E) (a b:S)|ret (e:E)|expr (e:E)|brk|cnt
 |for (k:Kd) (a:E) (t:Tg) (b:S)|whl (c:E) (b:S)|no
noncomputable abbrev En:=List (Option W)
inductive Fl where
 |nx (ρ:En)|rt (w:W)|bk (ρ:En)|ct (ρ:En)
noncomputable def mapO{α β:Type}(f:α->Option β):List α->Option (List β)
 |[]=>some []
 |a::r=>match f a with
  |some b=>(match mapO f r with
   |some bs=>some (b::bs)
   |none=>none)
  |none=>none
noncomputable def toD(h:VH):Nat->W->Option PyData
 |0,_=>none
 |n+1,w=>match w with
  |.non=>some .none
  |.bl b=>some (.bool b)
  |.int i=>some (.int i)
  |.str x=>some (.str x)
  |.tup ws=>(mapO (toD h n) ws).map .tuple
  |.fz ws=>(mapO (toD h n) ws).map .list
  |.ref i=>match h.get i with
   |some (.lst ws)=>(mapO (toD h n) ws).map .list
   |_=>none
noncomputable def eqW(h:VH)(x y:W):Option Bool:=
 match toD h 24 x,toD h 24 y with
 |some d,some e=>if SeqAt.shaped d&&SeqAt.shaped e then some (PyData.eqv d e)else none
 |_,_=>none
noncomputable def big:Nat:=16777216
noncomputable def zbo(i:Int):Bool:=decide (-(2 ^ 64)<i)&&decide (i<2 ^ 64)
noncomputable def opI:Op->Int->Int->Option Int
 |.add,i,j=>some (i+j)
 |.sub,i,j=>some (i-j)
 |.mul,i,j=>if zbo i||zbo j then some (i*j)else none
 |.fdiv,i,j=>if decide (0<j)&&decide (j<1073741824)then some (i/j)else none
 |.mod,i,j=>if decide (0<j)then some (i % j)else none
 |.shl,i,j=>if decide (0<=j)&&decide (j<=1000000)&&decide (i.natAbs<2 ^ 64)then some (i*2 ^ j.toNat)else none
 |.pow,i,j=>if decide (0<=j)&&decide (j<=1000000)&&decide (i.natAbs<2 ^ 64)then some (i ^ j.toNat)else none
noncomputable def opT:Op->List W->List W->Option (List W)
 |.add,xs,ys=>if Nat.ble (xs.length+ys.length) big then some (xs++ys)else none
 |_,_,_=>none
noncomputable def opL:Op->List W->List W->Option (List W)
 |.add,xs,ys=>if Nat.ble (xs.length+ys.length) big then some (xs++ys)else none
 |_,_,_=>none
noncomputable def fits(i:Int):Bool:=decide (-(2 ^ 62)<=i)&&decide (i<2 ^ 62)
noncomputable def repW(o:Op)(xs:List W)(k:Int):Option (List W):=match o with
 |.mul=>if fits k&&Nat.ble (xs.length*k.toNat) big then some (List.replicate k.toNat xs).flatten else none
 |_=>none
noncomputable def opW(o:Op)(x y:W)(h:VH):Res W:=match x,y with
 |.int i,.int j=>.of ((opI o i j).map .int) h
 |.tup xs,.tup ys=>.of ((opT o xs ys).map .tup) h
 |.ref i,.ref j=>match h.get i,h.get j with
  |some (.lst xs),some (.lst ys)=>(match opL o xs ys with
   |some zs=>.ok (.ref h.n) (h.new (.lst zs))
   |none=>.no)
  |_,_=>.no
 |_,_=>.no
noncomputable def ipW(o:Op)(x y:W)(h:VH):Res W:=match x,y with
 |.int i,.int j=>(match o with
  |.add=>.ok (.int (i+j)) h
  |.sub=>.ok (.int (i-j)) h
  |.mul=>.of ((opI .mul i j).map .int) h
  |.fdiv=>.of ((opI .fdiv i j).map .int) h
  |_=>.no)
 |.ref i,.ref j=>match o,h.get i,h.get j with
  |.add,some (.lst xs),some (.lst ys)=>if Nat.ble (xs.length+ys.length) big then .ok (.ref i) (h.set i (.lst (xs++ys)))else .no
  |_,_,_=>.no
 |_,_=>.no
noncomputable def cmpI:Cp->Int->Int->Option Bool
 |.lt,i,j=>some (decide (i<j))
 |.le,i,j=>some (decide (i<=j))
 |.gt,i,j=>some (decide (j<i))
 |.ge,i,j=>some (decide (j<=i))
 |_,_,_=>none
noncomputable def isNon:W->Bool
 |.non=>true
 |_=>false
noncomputable def seqW(h:VH):W->Option (List W)
 |.tup ws=>some ws
 |.fz ws=>some ws
 |.ref i=>match h.get i with
  |some (.lst ws)=>some ws
  |_=>none
 |_=>none
noncomputable def intD:W->Option Int
 |.int i=>some i
 |_=>none
noncomputable def keyD:W->Option L2.DK
 |.tup [.tup ws,.non]=>(mapO intD ws).map λis=>(is,none)
 |.tup [.tup ws,.int i]=>(mapO intD ws).map λis=>(is,some i)
 |_=>none
noncomputable def lookD:List W->List W->L2.DK->Option W
 |k::ks,w::ws,d=>if keyD k=some d then some w else lookD ks ws d
 |_,_,_=>none
noncomputable def inD(h:VH)(x y:W):Option Bool:=match y with
 |.ref a=>(match h.get a,keyD x with
  |some (.dt ks ws),some k=>some (lookD ks ws k).isSome
  |_,_=>none)
 |_=>none
noncomputable def idxD(h:VH)(a:Nat)(y:W):Option W:=match h.get a,keyD y with
 |some (.dt ks ws),some k=>lookD ks ws k
 |_,_=>none
noncomputable def inW(h:VH)(x y:W):Option Bool:=match seqW h y,toD h 24 x with
 |some ws,some d=>(match mapO (toD h 24) ws with
  |some ds=>if ds.all SeqAt.shaped&&SeqAt.shaped d then some (L2.anyEq ds d)else none
  |none=>none)
 |_,_=>inD h x y
noncomputable def isB:W->W->Option Bool
 |.bl c,.bl b=>some (c==b)
 |_,_=>none
noncomputable def cmpW(c:Cp)(h:VH)(x y:W):Option Bool:=match c with
 |.inn=>inW h x y
 |.nin=>(inW h x y).map (!·)
 |.eq=>eqW h x y
 |.ne=>(eqW h x y).map (!·)
 |.isn=>if isNon y then some (isNon x)else isB x y
 |.notn=>if isNon y then some (!isNon x)else(isB x y).map (!·)
 |c=>match x,y with
  |.int i,.int j=>cmpI c i j
  |_,_=>none
noncomputable def truW(h:VH):W->Option Bool
 |.bl b=>some b
 |.int i=>some (i != 0)
 |.non=>some false
 |.tup ws=>some (!ws.isEmpty)
 |.ref i=>match h.get i with
  |some (.lst ws)=>some (!ws.isEmpty)
  |_=>none
 |_=>none
noncomputable def keyW:W->Option L2.Key
 |.int i=>some (.inl i)
 |.str x=>some (.inr x)
 |_=>none
noncomputable def lookK(kvs:List (L2.Key×W))(k:L2.Key):Option W:=(kvs.find? λkv=>decide (kv.1=k)).map (·.2)
noncomputable def putKW(kvs:List (L2.Key×W))(k:L2.Key)(w:W):List (L2.Key×W):=
 if(kvs.any λkv=>decide (kv.1=k))=true then kvs.map (λkv=>if kv.1=k then(kv.1,w)else kv)else kvs++[(k,w)]
noncomputable def idxW(h:VH)(x y:W):Option W:=match x,y with
 |.tup ws,.int i=>L2.atI ws i
 |.fz ws,.int i=>L2.atI ws i
 |.ref a,.int i=>(match h.get a with
  |some (.lst ws)=>L2.atI ws i
  |some (.dk kvs)=>lookK kvs (.inl i)
  |_=>none)
 |.ref a,.str x=>(match h.get a with
  |some (.dk kvs)=>lookK kvs (.inr x)
  |_=>none)
 |.ref a,y=>idxD h a y
 |_,_=>none
noncomputable def partW(b:Bool)(w:W):Option (Option Int):=match b,w with
 |false,_=>some none
 |true,.int i=>some (some i)
 |_,_=>none
noncomputable def cutW(ws:List W)(lo hi:Option Int):List W:=(ws.drop (HT.sIx ws.length 0 lo)).take (HT.sIx ws.length ws.length hi-HT.sIx ws.length 0 lo)
noncomputable def slcW(x:W)(l u:Option Int)(h:VH):Res W:=match x with
 |.tup ws=>.ok (.tup (cutW ws l u)) h
 |.ref i=>(match h.get i with
  |some (.lst ws)=>.ok (.ref h.n) (h.new (.lst (cutW ws l u)))
  |_=>.no)
 |_=>.no
@[simp] theorem slcW_tup {ws:List W} {l u:Option Int} {h:VH}:slcW (.tup ws) l u h=.ok (.tup (cutW ws l u)) h:=rfl
noncomputable def tyIs:Ty->VH->W->Option Bool
 |t,_,.non=>some false
 |t,_,.bl _=>some (t == .int||t == .bool)
 |t,_,.int _=>some (t == .int)
 |t,_,.str _=>some (t == .str)
 |t,_,.tup _=>some (t == .tuple)
 |_,_,.fz _=>none
 |t,h,.ref i=>match h.get i with
  |some (.lst _)=>some (t == .list)
  |some (.dk _)=>some (t == .dict)
  |_=>none
noncomputable def lenW(xs:List W)(h:VH):Res W:=match xs with
 |[x]=>.of (match seqW h x with
  |some ws=>some (.int ws.length)
  |none=>none) h
 |_=>.no
noncomputable def listW(xs:List W)(h:VH):Res W:=match xs with
 |[x]=>(match seqW h x with
  |some ws=>.ok (.ref h.n) (h.new (.lst ws))
  |none=>.no)
 |_=>.no
noncomputable def zee(xs:List W)(h:VH):Res W:=match xs with
 |[x]=>.of (match seqW h x with
  |some ws=>some (.tup ws)
  |none=>none) h
 |_=>.no
noncomputable def intW(xs:List W)(h:VH):Res W:=match xs with
 |[.int i]=>.ok (.int i) h
 |[.bl b]=>.ok (.int (if b then 1 else 0)) h
 |_=>.no
noncomputable def absW(xs:List W)(h:VH):Res W:=match xs with
 |[.int i]=>.ok (.int (if i<0 then -i else i)) h
 |_=>.no
noncomputable def maxW(xs:List W)(h:VH):Res W:=match xs with
 |[.int i,.int j]=>.ok (.int (if j>i then j else i)) h
 |_=>.no
noncomputable def minW(xs:List W)(h:VH):Res W:=match xs with
 |[.int i,.int j]=>.ok (.int (if j<i then j else i)) h
 |_=>.no
noncomputable def ptsW(x w:W)(l u:Option Int)(h:VH):Res W:=match x,w with
 |.ref a,.ref b=>(match h.get a,h.get b with
  |some (.lst ws),some (.lst zs)=>if Nat.beq a b then .no else if Nat.ble (HT.sIx ws.length 0 l) (HT.sIx ws.length ws.length u)&&Nat.ble (ws.length+zs.length) big then
   .ok .non (h.set a (.lst (ws.take (HT.sIx ws.length 0 l)++zs++ws.drop (HT.sIx ws.length ws.length u))))else .no
  |_,_=>.no)
 |_,_=>.no
noncomputable def blW:W->Option Bool
 |.bl b=>some b
 |_=>none
noncomputable def allW(xs:List W)(h:VH):Res W:=match xs with
 |[.ref i]=>(match h.get i with
  |some (.lst ws)=>.of ((mapO blW ws).map λbs=>.bl (bs.all id)) h
  |_=>.no)
 |_=>.no
noncomputable def ints0(j:Nat):List W:=(List.range' 0 j).map λ(i:Nat)=>W.int (0+ (i:Int))
noncomputable def lrngW(xs:List W)(h:VH):Res W:=match xs with
 |[.int i]=>if decide (0<=i)&&Nat.ble i.toNat big then .ok (.ref h.n) (h.new (.lst (ints0 i.toNat)))else .no
 |_=>.no
noncomputable def biW(b:Bi)(xs:List W)(h:VH):Res W:=match b with
 |.abs=>absW xs h
 |.max=>maxW xs h
 |.min=>minW xs h
 |.all=>allW xs h
 |.lrng=>lrngW xs h
 |.len=>lenW xs h
 |.list=>listW xs h
 |.tuple=>zee xs h
 |.int=>intW xs h
noncomputable def zu2(h:VH)(x y:W):Option W:=match seqW h y,toD h 24 x with
 |some ws,some d=>(match mapO (toD h 24) ws with
  |some ds=>if ds.all SeqAt.shaped&&SeqAt.shaped d then some (.int (ds.countP λe=>PyData.eqv e d:Nat))else none
  |none=>none)
 |_,_=>none
noncomputable def mtW(m:Mt)(o:W)(xs:List W)(h:VH):Res W:=match m,o,xs with
 |.append,.ref i,[x]=>(match h.get i with
  |some (.lst ws)=>if Nat.blt ws.length big then .ok .non (h.set i (.lst (ws++[x])))else .no
  |_=>.no)
 |.get,.ref i,[k,d]=>(match h.get i,keyW k with
  |some (.dk kvs),some k=>.ok ((lookK kvs k).getD d) h
  |_,_=>.no)
 |.count,o,[x]=>.of (zu2 h x o) h
 |_,_,_=>.no
noncomputable def zhg(m:Mt)(h:VH)(o:W):Bool:=match m,o with
 |.append,.ref i=>(match h.get i with
  |some (.lst _)=>true
  |_=>false)
 |.get,.ref i=>(match h.get i with
  |some (.dk _)=>true
  |_=>false)
 |.count,.tup _=>true
 |.count,.ref i=>(match h.get i with
  |some (.lst _)=>true
  |_=>false)
 |_,_=>false
noncomputable def keyV:L2.Key->W
 |.inl i=>.int i
 |.inr x=>.str x
noncomputable def nxt(k:Kd)(x:W)(i:Nat)(h:VH):Option (Option W):=match k with
 |.seq=>(seqW h x).map λws=>ws[i]?
 |.enm=>(seqW h x).map λws=>(ws[i]?).map λw=>.tup [.int i,w]
 |.keys=>(match x with
  |.ref a=>(match h.get a with
   |some (.dk kvs)=>(match kvs[i]? with
    |some kv=>some (some (keyV kv.1))
    |none=>if Nat.beq i kvs.length then some none else none)
   |_=>none)
  |_=>none)
 |.zip=>(match x with
  |.tup [u,v]=>(match seqW h u,seqW h v with
   |some ws,some zs=>some (match ws[i]?,zs[i]? with
    |some a,some b=>some (.tup [a,b])
    |_,_=>none)
   |_,_=>none)
  |_=>none)
 |.rng1=>(match x with
  |.tup [.int j]=>if fits j then some (if decide ((i:Int)<j)then some (.int (0+i))else none)else none
  |_=>none)
 |.rng2=>(match x with
  |.tup [.int a,.int b]=>if fits a&&fits b then some (if decide ((i:Int)<b-a)then some (.int (a+i))else none)else none
  |_=>none)
noncomputable def za5:List Nat->List W->En->Option En
 |[],[],ρ=>some ρ
 |i::is,w::ws,ρ=>za5 is ws (ρ.set i (some w))
 |_,_,_=>none
noncomputable def tgW(t:Tg)(w:W)(h:VH)(ρ:En):Option En:=match t with
 |.one i=>some (ρ.set i (some w))
 |.many is=>match seqW h w with
  |some ws=>za5 is ws ρ
  |none=>none
noncomputable def fuel:Nat:=1000000
noncomputable def inner(ow:Nat)(ix:List Nat)(ρ:En):En:=List.replicate ow none++ix.map λj=>(ρ[j]?).join
noncomputable def lcG(nx:Nat->VH->Option (Option W))(tg:W->VH->En->Option En)(c:En->VH->Res W)(e:En->VH->Res W):Nat->Nat->En->VH->List W->Res (List W)
 |0,_,_,_,_=>.no
 |f+1,i,ρ,h,acc=>match nx i h with
  |none=>.no
  |some none=>.ok acc.reverse h
  |some (some w)=>match tg w h ρ with
   |none=>.no
   |some ρ=>(c ρ h).bind λb h=>match b with
    |.bl true=>(e ρ h).bind λy h=>lcG nx tg c e f (i+1) ρ h (y::acc)
    |.bl false=>lcG nx tg c e f (i+1) ρ h acc
    |_=>.no
noncomputable def lcI(nx:Nat->VH->Option (Option W))(tg:W->VH->En->Option En)(c:En->VH->Res W)(e:En->VH->Res W):Nat->Nat->En->VH->List W->Res (En×List W)
 |0,_,_,_,_=>.no
 |f+1,i,ρ,h,acc=>match nx i h with
  |none=>.no
  |some none=>.ok (ρ,acc) h
  |some (some w)=>match tg w h ρ with
   |none=>.no
   |some ρ=>(c ρ h).bind λb h=>match b with
    |.bl true=>(e ρ h).bind λy h=>lcI nx tg c e f (i+1) ρ h (y::acc)
    |.bl false=>lcI nx tg c e f (i+1) ρ h acc
    |_=>.no
noncomputable def lcO(nx:Nat->VH->Option (Option W))(tg:W->VH->En->Option En)(c:En->VH->Res W)(inn:En->VH->List W->Res (En×List W)):Nat->Nat->En->VH->List W->Res (List W)
 |0,_,_,_,_=>.no
 |f+1,i,ρ,h,acc=>match nx i h with
  |none=>.no
  |some none=>.ok acc.reverse h
  |some (some w)=>match tg w h ρ with
   |none=>.no
   |some ρ=>(c ρ h).bind λb h=>match b with
    |.bl true=>(inn ρ h acc).bind λp h=>lcO nx tg c inn f (i+1) p.1 h p.2
    |.bl false=>lcO nx tg c inn f (i+1) ρ h acc
    |_=>.no
noncomputable def dcG(nx:Nat->VH->Option (Option W))(tg:W->VH->En->Option En)(c:En->VH->Res W)(e v:En->VH->Res W):Nat->Nat->En->VH->List (L2.Key×W)->Res (List (L2.Key×W))
 |0,_,_,_,_=>.no
 |f+1,i,ρ,h,acc=>match nx i h with
  |none=>.no
  |some none=>.ok acc h
  |some (some w)=>match tg w h ρ with
   |none=>.no
   |some ρ=>(c ρ h).bind λb h=>match b with
    |.bl true=>(e ρ h).bind λx h=>(v ρ h).bind λy h=>(match keyW x with
     |some k=>if Nat.blt acc.length big then dcG nx tg c e v f (i+1) ρ h (putKW acc k y)else .no
     |none=>.no)
    |.bl false=>dcG nx tg c e v f (i+1) ρ h acc
    |_=>.no
noncomputable def forG(nx:Nat->VH->Option (Option W))(tg:W->VH->En->Option En)(b:En->VH->Res Fl):Nat->Nat->En->VH->Res Fl
 |0,_,_,_=>.no
 |f+1,i,ρ,h=>match nx i h with
  |none=>.no
  |some none=>.ok (.nx ρ) h
  |some (some w)=>match tg w h ρ with
   |none=>.no
   |some ρ=>(b ρ h).bind λfl h=>match fl with
    |.nx ρ=>forG nx tg b f (i+1) ρ h
    |.ct ρ=>forG nx tg b f (i+1) ρ h
    |.bk ρ=>.ok (.nx ρ) h
    |.rt w=>.ok (.rt w) h
noncomputable def whlG(c:En->VH->Res W)(b:En->VH->Res Fl):Nat->En->VH->Res Fl
 |0,_,_=>.no
 |f+1,ρ,h=>(c ρ h).bind λt h=>match t with
  |.bl false=>.ok (.nx ρ) h
  |.bl true=>(b ρ h).bind λfl h=>match fl with
   |.nx ρ=>whlG c b f ρ h
   |.ct ρ=>whlG c b f ρ h
   |.bk ρ=>.ok (.nx ρ) h
   |.rt w=>.ok (.rt w) h
  |_=>.no
noncomputable def zdm:List W->Option (List (L2.Key×W))
 |[]=>some []
 |k::v::r=>match keyW k with
  |some k=>(match zdm r with
   |some kvs=>some ((k,v)::kvs)
   |none=>none)
  |none=>none
 |_=>none
noncomputable def zji(kvs more:List (L2.Key×W)):List (L2.Key×W):=more.foldl (λacc kv=>putKW acc kv.1 kv.2) kvs
noncomputable def dkO:List (L2.Key×W)->VO
 |[]=>.dt [] []
 |kvs=>.dk (zji [] kvs)
noncomputable def dspD(ys:List W)(h:VH):Res W:=match ys with
 |[k,w]=>(match keyD k with
  |some _=>.ok (.ref h.n) (h.new (.dt [k] [w]))
  |none=>.no)
 |_=>.no
noncomputable def putD(ρ:En)(a:Nat)(y w:W)(h:VH):Res Fl:=match h.get a,keyD y with
 |some (.dt ks ws),some k=>if(lookD ks ws k).isNone&&Nat.blt ks.length big then .ok (.nx ρ) (h.set a (.dt (ks++[y]) (ws++[w])))else .no
 |_,_=>.no
noncomputable def lookF(x:Str):List Str->List W->Option W
 |y::ys,w::ws=>if y=x then some w else lookF x ys ws
 |_,_=>none
noncomputable def putN(x:Str):List Str->List Str
 |[]=>[x]
 |y::ys=>if y=x then y::ys else y::putN x ys
noncomputable def putV(x:Str)(w:W):List Str->List W->List W
 |y::ys,v::vs=>if y=x then w::vs else v::putV x w ys vs
 |_,_=>[w]
noncomputable def attW(C:Addr)(x:Str)(o:W)(h:VH):Option W:=match o with
 |.ref i=>(match h.get i with
  |some (.ins D xs ws)=>if D=C then lookF x xs ws else none
  |_=>none)
 |_=>none
noncomputable def satW(ρ:En)(C:Addr)(x:Str)(o w:W)(h:VH):Res Fl:=match o with
 |.ref i=>(match h.get i with
  |some (.ins D xs ws)=>if D=C&&Nat.blt xs.length 1000 then .ok (.nx ρ) (h.set i (.ins D (putN x xs) (putV x w xs ws)))else .no
  |_=>.no)
 |_=>.no
noncomputable def isIns(C:Addr)(m:Str)(h:VH)(x:W):Bool:=match x with
 |.ref i=>(match h.get i with
  |some (.ins D xs ws)=>decide (D=C)&& (lookF m xs ws).isNone
  |_=>false)
 |_=>false
noncomputable abbrev Call:=Nat->List W->VH->Res W
noncomputable abbrev mkR(C:Addr)(g:List W->VH->Res W):List W->VH->Res W:=λys h=>(g (.ref h.n::ys) (h.new (.ins C [] []))).bind λv h'=>if isNon v then .ok (.ref h.n) h' else .no
noncomputable def ev(cl:Call):E->En->VH->Res W
 |.var i,ρ,h=>.of (ρ[i]?).join h
 |.cst w,_,h=>.ok w h
 |.nil,_,h=>.ok (.tup []) h
 |.cons a r,ρ,h=>(ev cl a ρ h).bind λx h=>(ev cl r ρ h).bind λy h=>match y with
  |.tup ys=>.ok (.tup (x::ys)) h
  |_=>.no
 |.tup a,ρ,h=>(ev cl a ρ h).bind λy h=>match y with
  |.tup ys=>if Nat.ble ys.length 1000 then .ok (.tup ys) h else .no
  |_=>.no
 |.lst a,ρ,h=>(ev cl a ρ h).bind λy h=>match y with
  |.tup ys=>if Nat.ble ys.length 1000 then .ok (.ref h.n) (h.new (.lst ys))else .no
  |_=>.no
 |.dsp a,ρ,h=>(ev cl a ρ h).bind λy h=>match y with
  |.tup ys=>(match zdm ys with
   |some kvs=>if Nat.ble kvs.length 15 then .ok (.ref h.n) (h.new (dkO kvs))else .no
   |none=>dspD ys h)
  |_=>.no
 |.op o a b,ρ,h=>(ev cl a ρ h).bind λx h=>(ev cl b ρ h).bind λy h=>opW o x y h
 |.neg a,ρ,h=>(ev cl a ρ h).bind λx h=>match x with
  |.int i=>.ok (.int (-i)) h
  |_=>.no
 |.cmp c a b,ρ,h=>(ev cl a ρ h).bind λx h=>(ev cl b ρ h).bind λy h=>.of ((cmpW c h x y).map .bl) h
 |.chn c d a b e,ρ,h=>(ev cl a ρ h).bind λx h=>(ev cl b ρ h).bind λy h=>match cmpW c h x y with
  |some true=>(ev cl e ρ h).bind λz h=>.of ((cmpW d h y z).map .bl) h
  |some false=>.ok (.bl false) h
  |none=>.no
 |.not a,ρ,h=>(ev cl a ρ h).bind λx h=>match x with
  |.bl b=>.ok (.bl (!b)) h
  |_=>.no
 |.and a b,ρ,h=>(ev cl a ρ h).bind λx h=>match x with
  |.bl true=>ev cl b ρ h
  |.bl false=>.ok (.bl false) h
  |_=>.no
 |.or a b,ρ,h=>(ev cl a ρ h).bind λx h=>match x with
  |.bl true=>.ok (.bl true) h
  |.bl false=>ev cl b ρ h
  |_=>.no
 |.tru a,ρ,h=>(ev cl a ρ h).bind λx h=>.of ((truW h x).map .bl) h
 |.ite c a b,ρ,h=>(ev cl c ρ h).bind λx h=>match x with
  |.bl true=>ev cl a ρ h
  |.bl false=>ev cl b ρ h
  |_=>.no
 |.idx a b,ρ,h=>(ev cl a ρ h).bind λx h=>(ev cl b ρ h).bind λy h=>.of (idxW h x y) h
 |.slc a bl lo bh hi,ρ,h=>(ev cl a ρ h).bind λx h=>(ev cl lo ρ h).bind λl h=>(ev cl hi ρ h).bind λu h=>match partW bl l,partW bh u with
  |some l,some u=>slcW x l u h
  |_,_=>.no
 |.call f a,ρ,h=>(ev cl a ρ h).bind λy h=>match y with
  |.tup ys=>cl f ys h
  |_=>.no
 |.bi b a,ρ,h=>(ev cl a ρ h).bind λy h=>match y with
  |.tup ys=>biW b ys h
  |_=>.no
 |.isi t a,ρ,h=>(ev cl a ρ h).bind λx h=>.of ((tyIs t h x).map .bl) h
 |.mt m o a,ρ,h=>(ev cl o ρ h).bind λx h=>if zhg m h x then(ev cl a ρ h).bind λy h=>match y with
  |.tup ys=>mtW m x ys h
  |_=>.no
  else .no
 |.lc k a t ow ix c e,ρ,h=>(ev cl a ρ h).bind λx h=>(lcG (nxt k x) (tgW t) (ev cl c) (ev cl e) fuel 0 (inner ow ix ρ) h []).bind λys h=>if Nat.ble ys.length big then .ok (.ref h.n) (h.new (.lst ys))else .no
 |.lc2 k a t ow ix c k2 a2 t2 c2 e,ρ,h=>(ev cl a ρ h).bind λx h=>(lcO (nxt k x) (tgW t) (ev cl c) (λρ h acc=>(ev cl a2 ρ h).bind λy h=>lcI (nxt k2 y) (tgW t2) (ev cl c2) (ev cl e) fuel 0 ρ h acc) fuel 0 (inner ow ix ρ) h []).bind λys h=>if Nat.ble ys.length big then .ok (.ref h.n) (h.new (.lst ys))else .no
 |.mk C f a,ρ,h=>(ev cl a ρ h).bind λy h=>match y with
  |.tup ys=>mkR C (cl f) ys h
  |_=>.no
 |.mcall C mt f o a,ρ,h=>(ev cl o ρ h).bind λx h=>if isIns C mt h x then(ev cl a ρ h).bind λy h=>match y with
  |.tup ys=>cl f (x::ys) h
  |_=>.no
  else .no
 |.att C x a,ρ,h=>(ev cl a ρ h).bind λo h=>.of (attW C x o h) h
 |.dc k a t ow ix c e v,ρ,h=>(ev cl a ρ h).bind λx h=>(dcG (nxt k x) (tgW t) (ev cl c) (ev cl e) (ev cl v) fuel 0 (inner ow ix ρ) h []).bind λkvs h=>.ok (.ref h.n) (h.new (.dk kvs))
noncomputable def exs(cl:Call):S->En->VH->Res Fl
 |.skip,ρ,h=>.ok (.nx ρ) h
 |.seq a b,ρ,h=>(exs cl a ρ h).bind λfl h=>match fl with
  |.nx ρ=>exs cl b ρ h
  |fl=>.ok fl h
 |.set i e,ρ,h=>(ev cl e ρ h).bind λw h=>.ok (.nx (ρ.set i (some w))) h
 |.unp is e,ρ,h=>(ev cl e ρ h).bind λw h=>.of ((tgW (.many is) w h ρ).map .nx) h
 |.aug i o e,ρ,h=>match(ρ[i]?).join with
  |some x=>(ev cl e ρ h).bind λy h=>(ipW o x y h).bind λz h=>.ok (.nx (ρ.set i (some z))) h
  |none=>.no
 |.sat C x o v,ρ,h=>(ev cl v ρ h).bind λw h=>(ev cl o ρ h).bind λo h=>satW ρ C x o w h
 |.put o i v,ρ,h=>(ev cl v ρ h).bind λw h=>(ev cl o ρ h).bind λx h=>(ev cl i ρ h).bind λy h=>match x,y with
  |.ref a,.int j=>(match h.get a with
   |some (.lst ws)=>(match L2.ixN ws.length j with
    |some k=>.ok (.nx ρ) (h.set a (.lst (ws.set k w)))
    |none=>.no)
   |_=>.no)
  |.ref a,y=>putD ρ a y w h
  |_,_=>.no
 |.pts o bl lo bh hi v,ρ,h=>(ev cl v ρ h).bind λw h=>(ev cl o ρ h).bind λx h=>(ev cl lo ρ h).bind λl h=>(ev cl hi ρ h).bind λu h=>(match partW bl l,partW bh u with
  |some l,some u=>(ptsW x w l u h).bind λ_ h=>.ok (.nx ρ) h
  |_,_=>.no)
 |.ite c a b,ρ,h=>(ev cl c ρ h).bind λx h=>match x with
  |.bl true=>exs cl a ρ h
  |.bl false=>exs cl b ρ h
  |_=>.no
 |.ret e,ρ,h=>(ev cl e ρ h).bind λw h=>.ok (.rt w) h
 |.expr e,ρ,h=>(ev cl e ρ h).bind λ_ h=>.ok (.nx ρ) h
 |.brk,ρ,h=>.ok (.bk ρ) h
 |.cnt,ρ,h=>.ok (.ct ρ) h
 |.for k a t b,ρ,h=>(ev cl a ρ h).bind λx h=>forG (nxt k x) (tgW t) (exs cl b) fuel 0 ρ h
 |.whl c b,ρ,h=>whlG (ev cl c) (exs cl b) fuel ρ h
 |.no,_,_=>.no
structure Fn where
 ps:Nat
 n:Nat
 body:S
noncomputable def leave(h:VH)(w:W)(h':VH):Res W:=
 if Nat.ble h.n h'.lo&&W.lt h.n w then .ok w h else .ok w ⟨h'.n,if Nat.ble h.lo h'.lo then h.lo else h'.lo,h'.os⟩
noncomputable def run(F:Nat->Option Fn):Nat->Call
 |0,_,_,_=>.no
 |k+1,f,ws,h=>match F f with
  |some fn=>if Nat.beq ws.length fn.ps then
   (exs (run F k) fn.body (ws.map some++List.replicate (fn.n-fn.ps) none) ⟨h.n,h.n,h.os⟩).bind λfl h'=>match fl with
     |.nx _=>leave h .non h'
     |.rt w=>leave h w h'
     |_=>.no
   else .no
  |none=>.no
open L2 PyProof.Rows PySem.Spec
noncomputable def Fz(K:PySem.W.Frag)(H:Hp)(a:Addr)(xs:List V):Prop:=
 (∃o,H a=some (.frz o (.lst xs)))\/∃(o:Obj) (its:Array Value) (n:Nat),K.lookup a=some o/\o.cls=.type "list"/\o.dict=none/\o.data=.seq its n/\its.size<=sizeLine/\Vals xs its.toList
theorem Fz.sq{K:PySem.W.Frag}{H:Hp}{a:Addr}{xs:List V}(h:Fz K H a xs):SqL K H a xs:=h.elim (λ⟨o,q⟩=>.inl (.inr ⟨o,q⟩)) .inr
mutual
inductive VRep(K:PySem.W.Frag)(m:Nat->Addr)(n:Nat)(H:Hp):V->W->Prop
 |non:VRep K m n H .non .non
 |bl (b:Bool):VRep K m n H (.bl b) (.bl b)
 |int (i:Int):VRep K m n H (.int i) (.int i)
 |str (x:Str):VRep K m n H (.str x) (.str x)
 |tup {a:Addr} {vs:List V} {ws:List W}:SqT K H a vs->VReps K m n H vs ws->VRep K m n H (.ref a) (.tup ws)
 |fz {a:Addr} {vs:List V} {ws:List W}:Fz K H a vs->VReps K m n H vs ws->VRep K m n H (.ref a) (.fz ws)
 |ref {i:Nat}:i<n->VRep K m n H (.ref (m i)) (.ref i)
inductive VReps(K:PySem.W.Frag)(m:Nat->Addr)(n:Nat)(H:Hp):List V->List W->Prop
 |nil:VReps K m n H [] []
 |cons {v:V} {w:W} {vs:List V} {ws:List W}:VRep K m n H v w->VReps K m n H vs ws->VReps K m n H (v::vs) (w::ws)
end
inductive KReps(K:PySem.W.Frag)(m:Nat->Addr)(n:Nat)(H:Hp):List (Key×V)->List (Key×W)->Prop
 |nil:KReps K m n H [] []
 |cons {k:Key} {v:V} {w:W} {vs:List (Key×V)} {ws:List (Key×W)}:VRep K m n H v w->KReps K m n H vs ws->KReps K m n H ((k,v)::vs) ((k,w)::ws)
noncomputable def ORep(K:PySem.W.Frag)(m:Nat->Addr)(n:Nat)(H:Hp)(a:Addr):VO->Prop
 |.lst ws=>∃vs,H a=some (.lst vs)/\VReps K m n H vs ws
 |.dk kvs=>∃kv,Rd H a (.dK kv)/\KReps K m n H kv kvs
 |.dt ks ws=>∃xs:DX,(H a=some (dtH xs a)\/(xs=[]/\H a=some (.dK [])))/\mapO keyD ks=some (xs.map (·.1))/\VReps K m n H (xs.map λx=>.ref x.2.1) ks/\VReps K m n H (xs.map λx=>x.2.2) ws
 |.ins C xs ws=>∃dx vs,H a=some (.ins C dx vs)/\vs.map (·.1)=xs/\VReps K m n H (vs.map (·.2)) ws
structure Rel(K:PySem.W.Frag)(m:Nat->Addr)(h:VH)(H:Hp):Prop where
 obj:∀i,i<h.n->∃o,h.get i=some o/\ORep K m h.n H (m i) o
 inj:∀i j,i<h.n->j<h.n->m i=m j->i=j
 len:h.os.length=h.n
structure Stp(m:Nat->Addr)(n:Nat)(H:Hp)(m':Nat->Addr)(n':Nat)(H':Hp):Prop where
 le:n<=n'
 same:∀i,i<n->m' i=m i
 new:∀i,n<=i->i<n'->H (m' i)=none
 apart:∀i j,n<=i->i<n'->j<n->m' i≠m' j
 tup:∀b vs,H b=some (.tup vs)->H' b=some (.tup vs)
 frz:∀b o u,H b=some (.frz o u)->H' b=some (.frz o u)
 keep:∀b o,(∀i,i<n->m i≠b)->H b=some o->H' b=some o
section
variable{K:PySem.W.Frag}{m m' m1 m2:Nat->Addr}{n n' n1 n2:Nat}{h h':VH}{H H' H1 H2:Hp}
theorem Stp.refl:Stp m n H m n H:=⟨vae _,λ_ _=>rfl,λi a b=>absurd b (Nat.not_lt.mpr a),λi j a b=>absurd b (Nat.not_lt.mpr a),λ_ _ q=>q,λ_ _ _ q=>q,λ_ _ _ q=>q⟩
theorem Stp.trans(a:Stp m n H m1 n1 H1)(b:Stp m1 n1 H1 m2 n2 H2):Stp m n H m2 n2 H2 where
 le:=Nat.le_trans a.le b.le
 same:=λi hi=>(b.same i (vai hi a.le)).trans (a.same i hi)
 new:=λi hi hi2=>by
  by_cases hc:i<n1
  .rw[b.same i hc];exact a.new i hi hc
  .have hc:=Nat.not_lt.mp hc
   cases q:H (m2 i)with
   |none=>rfl
   |some o=>
    have q1:H1 (m2 i)=none:=b.new i hc hi2
    rw[a.keep _ o (λj hj z=>b.apart i j hc hi2 (vai hj a.le) ((b.same j (vai hj a.le)).trans ((a.same j hj).trans z)).symm) q]at q1
    cases q1
 apart:=λi j hi hi2 hj=>by
  by_cases hc:i<n1
  .rw[b.same i hc,b.same j (vai hj a.le)];exact a.apart i j hi hc hj
  .exact b.apart i j (Nat.not_lt.mp hc) hi2 (vai hj a.le)
 tup:=λc vs q=>b.tup c vs (a.tup c vs q)
 frz:=λc o u q=>b.frz c o u (a.frz c o u q)
 keep:=λc o hc q=>b.keep c o (λi hi=>by
  by_cases hl:i<n
  .rw[a.same i hl];exact hc i hl
  .intro z
   have:=a.new i (Nat.not_lt.mp hl) hi
   rw[z,q]at this;cases this) (a.keep c o hc q)
theorem Stp.sqT{a:Addr}{vs:List V}(s:Stp m n H m' n' H')(q:SqT K H a vs):SqT K H' a vs:=by
 rcases q with(q|⟨o,q⟩)|q
 .exact .inl (.inl (s.tup _ _ q))
 .exact .inl (.inr ⟨o,s.frz _ _ _ q⟩)
 .exact .inr q
theorem Stp.fz{a:Addr}{vs:List V}(s:Stp m n H m' n' H')(q:Fz K H a vs):Fz K H' a vs:=by
 rcases q with⟨o,q⟩|q
 .exact .inl ⟨o,s.frz _ _ _ q⟩
 .exact .inr q
mutual
theorem VRep.stp(s:Stp m n H m' n' H'):∀{v:V} {w:W},VRep K m n H v w->VRep K m' n' H' v w
 |_,_,.non=>.non
 |_,_,.bl b=>.bl b
 |_,_,.int b=>.int b
 |_,_,.str b=>.str b
 |_,_,.tup q r=>.tup (s.sqT q) (VReps.stp s r)
 |_,_,.fz q r=>.fz (s.fz q) (VReps.stp s r)
 |_,_,.ref (i:=i) q=>by rw[<-s.same i q];exact .ref (vai q s.le)
theorem VReps.stp(s:Stp m n H m' n' H'):∀{vs:List V} {ws:List W},VReps K m n H vs ws->VReps K m' n' H' vs ws
 |_,_,.nil=>.nil
 |_,_,.cons q r=>.cons (VRep.stp s q) (VReps.stp s r)
end
theorem KReps.stp(s:Stp m n H m' n' H'):∀{vs:List (Key×V)} {ws:List (Key×W)},KReps K m n H vs ws->KReps K m' n' H' vs ws
 |_,_,.nil=>.nil
 |_,_,.cons q r=>.cons (q.stp s) (KReps.stp s r)
theorem VReps.length:∀{vs:List V} {ws:List W},VReps K m n H vs ws->vs.length=ws.length
 |_,_,.nil=>rfl
 |_,_,.cons _ r=>by rw[vah,vah,VReps.length r]
theorem VReps.get:∀{vs:List V} {ws:List W} {i:Nat} {w:W},VReps K m n H vs ws->ws[i]?=some w->∃v,vs[i]?=some v/\VRep K m n H v w
 |_,_,_,_,.nil,e=>by simp at e
 |_,_,0,_,.cons q _,e=>by simp at e;subst e;exact⟨_,rfl,q⟩
 |_,_,i+1,w,.cons _ r,e=>by
  obtain⟨v,h1,h2⟩:=VReps.get (i:=i) (w:=w) r (by simpa using e)
  exact⟨v,by simpa using h1,h2⟩
theorem VReps.append:∀{vs us:List V} {ws zs:List W},VReps K m n H vs ws->VReps K m n H us zs->VReps K m n H (vs++us) (ws++zs)
 |_,_,_,_,.nil,r=>r
 |_,_,_,_,.cons q r,t=>.cons q (VReps.append r t)
theorem VReps.drop:∀(k:Nat) {vs:List V} {ws:List W},VReps K m n H vs ws->VReps K m n H (vs.drop k) (ws.drop k)
 |0,_,_,r=>r
 |_+1,_,_,.nil=>.nil
 |k+1,_,_,.cons _ r=>VReps.drop k r
theorem VReps.take:∀(k:Nat) {vs:List V} {ws:List W},VReps K m n H vs ws->VReps K m n H (vs.take k) (ws.take k)
 |0,_,_,r=>.nil
 |_+1,_,_,.nil=>.nil
 |k+1,_,_,.cons q r=>.cons q (VReps.take k r)
theorem VReps.set{v:V}{w:W}(q:VRep K m n H v w):∀(k:Nat) {vs:List V} {ws:List W},VReps K m n H vs ws->VReps K m n H (vs.set k v) (ws.set k w)
 |_,_,_,.nil=>.nil
 |0,_,_,.cons _ r=>.cons q r
 |k+1,_,_,.cons p r=>.cons p (VReps.set q k r)
theorem ORep.stp{a:Addr}{o:VO}(s:Stp m n H m' n' H')(e:H' a=H a)(q:ORep K m n H a o):ORep K m' n' H' a o:=by
 cases o with
 |lst ws=>obtain⟨vs,h1,h2⟩:=q;exact⟨vs,e.trans h1,h2.stp s⟩
 |dk ws=>obtain⟨vs,h1,h2⟩:=q;exact⟨vs,h1.imp (λz=>e.trans z) λ⟨o,z⟩=>⟨o,e.trans z⟩,h2.stp s⟩
 |dt ks ws=>obtain⟨xs,h1,h0,h2,h3⟩:=q;exact⟨xs,h1.imp (λz=>e.trans z) λ⟨o,z⟩=>⟨o,e.trans z⟩,h0,h2.stp s,h3.stp s⟩
 |ins C xs ws=>obtain⟨dx,vs,h1,h0,h2⟩:=q;exact⟨dx,vs,e.trans h1,h0,h2.stp s⟩
theorem ORep.some{a:Addr}{o:VO}(q:ORep K m n H a o):∃u,H a=some u:=by
 cases o with
 |lst ws=>obtain⟨vs,h1,h2⟩:=q;exact⟨_,h1⟩
 |dk ws=>
  obtain⟨vs,h1,h2⟩:=q
  rcases h1 with h1|⟨o,h1⟩<;>exact⟨_,h1⟩
 |dt ks ws=>
  obtain⟨xs,h1,_⟩:=q
  rcases h1 with h1|⟨_,h1⟩<;>exact⟨_,h1⟩
 |ins C xs ws=>obtain⟨dx,vs,h1,_⟩:=q;exact⟨_,h1⟩
theorem zal{i j:Nat}:Nat.blt i j=true↔i<j:=by
 unfold Nat.blt;rw[Nat.ble_eq];exact Iff.rfl
theorem zaj{i:Nat}{o:VO}(q:h.get i=some o):i<h.n:=by
 unfold VH.get at q
 split at q
 .rename_i z;exact zal.mp z
 .cases q
theorem Rel.at_(r:Rel K m h H){i:Nat}{o:VO}(q:h.get i=some o):ORep K m h.n H (m i) o:=by
 obtain⟨o',h1,h2⟩:=r.obj i (zaj q)
 rw[q]at h1;cases h1;exact h2
theorem Rel.lst(r:Rel K m h H){i:Nat}{ws:List W}(q:h.get i=some (.lst ws)):∃vs,H (m i)=some (.lst vs)/\VReps K m h.n H vs ws:=r.at_ q
theorem Rel.dk(r:Rel K m h H){i:Nat}{ws:List (Key×W)}(q:h.get i=some (.dk ws)):∃vs,Rd H (m i) (.dK vs)/\KReps K m h.n H vs ws:=r.at_ q
theorem Rel.dt(r:Rel K m h H){i:Nat}{ks ws:List W}(q:h.get i=some (.dt ks ws)):∃xs:DX,(H (m i)=some (dtH xs (m i))\/(xs=[]/\H (m i)=some (.dK [])))/\mapO keyD ks=some (xs.map (·.1))/\VReps K m h.n H (xs.map λx=>.ref x.2.1) ks/\VReps K m h.n H (xs.map λx=>x.2.2) ws:=r.at_ q
theorem Rel.ins(r:Rel K m h H){i:Nat}{C:Addr}{xs:List Str}{ws:List W}(q:h.get i=some (.ins C xs ws)):∃dx vs,H (m i)=some (.ins C dx vs)/\vs.map (·.1)=xs/\VReps K m h.n H (vs.map (·.2)) ws:=r.at_ q
theorem zad{i:Nat}{o:VO}(hi:i<h.n):(h.new o).get i=h.get i:=by
 unfold VH.get VH.new
 have h1:Nat.blt i (h.n+1)=true:=zal.mpr (Nat.lt_succ_of_lt hi)
 have h2:Nat.blt i h.n=true:=zal.mpr hi
 simp only[h1,h2,if_true]
 have:h.n+1-1-i=(h.n-1-i)+1:=by omega
 rw[this];rfl
theorem zao{o:VO}:(h.new o).get h.n=some o:=by
 unfold VH.get VH.new
 have h1:Nat.blt h.n (h.n+1)=true:=zal.mpr (Nat.lt_succ_self _)
 simp only[h1,if_true]
 have:h.n+1-1-h.n=0:=by omega
 rw[this];rfl
theorem Rel.alloc(r:Rel K m h H){p:Addr}{o:VO}{u:HO}(hp:H p=none)(hu:∀t,u≠.tup t)
 (ho:Stp m h.n H (λi=>if i=h.n then p else m i) (h.n+1) (upd H p u)->ORep K (λi=>if i=h.n then p else m i) (h.n+1) (upd H p u) p o) :
 Stp m h.n H (λi=>if i=h.n then p else m i) (h.n+1) (upd H p u)/\Rel K (λi=>if i=h.n then p else m i) (h.new o) (upd H p u):=by
 have tr:∀i,i<h.n->m i≠p:=λi hi z=>by
  obtain⟨o',_,h2⟩:=r.obj i hi
  obtain⟨u',h3⟩:=h2.some
  rw[z,hp]at h3;cases h3
 have st:Stp m h.n H (λi=>if i=h.n then p else m i) (h.n+1) (upd H p u):=by
  refine⟨Nat.le_succ _,λi hi=>by simp only[if_neg (va4 hi)],λi hi hi2=>?_,λi j hi hi2 hj=>?_,λb vs q=>?_,λb o u q=>?_,λb o _ q=>?_⟩
  .have:i=h.n:=by omega
   subst this;simp only[if_true];exact hp
  .have:i=h.n:=by omega
   subst this;simp only[if_true,if_neg (va4 hj)];exact(tr j hj).symm
  .rw[zae (zac q hp)];exact q
  .rw[zae (zac q hp)];exact q
  .rw[zae (zac q hp)];exact q
 refine⟨st,⟨λi hi=>?_,λi j hi hj z=>?_,?_⟩⟩
 .have hi:i<h.n+1:=hi
  by_cases e:i=h.n
  .subst e;exact⟨o,zao,by simp only[if_true];exact ho st⟩
  .have hl:i<h.n:=by omega
   obtain⟨o',h1,h2⟩:=r.obj i hl
   refine⟨o',(zad hl).trans h1,?_⟩
   simp only[if_neg e]
   exact ORep.stp st (zae (tr i hl)) h2
 .have hi:i<h.n+1:=hi
  have hj:j<h.n+1:=hj
  by_cases e:i=h.n
  .by_cases e2:j=h.n
   .omega
   .simp only[if_pos e,if_neg e2]at z
    exact absurd z.symm (tr j (by omega))
  .by_cases e2:j=h.n
   .simp only[if_neg e,if_pos e2]at z
    exact absurd z (tr i (by omega))
   .simp only[if_neg e,if_neg e2]at z
    exact r.inj i j (by omega) (by omega) z
 .show(o::h.os).length=h.n+1
  rw[vah,r.len]
theorem zhh(r:Rel K m h H){i:Nat}{o:VO}(hi:i<h.n):(h.set i o).get i=some o:=by
 unfold VH.get VH.set
 have h1:Nat.blt i h.n=true:=zal.mpr hi
 simp only[h1,if_true]
 rw[List.getElem?_set_self]
 rw[r.len];omega
theorem zdc{i j:Nat}{o:VO}(hi:i<h.n)(hj:j≠i):(h.set i o).get j=h.get j:=by
 unfold VH.get VH.set
 by_cases h1:j<h.n
 .have h2:Nat.blt j h.n=true:=zal.mpr h1
  simp only[h2,if_true]
  rw[List.getElem?_set_ne]
  omega
 .have h2:Nat.blt j h.n=false:=by
   cases q:Nat.blt j h.n with
   |false=>rfl
   |true=>exact absurd (zal.mp q) h1
  simp only[h2,vak,if_false]
theorem Rel.write(r:Rel K m h H){i:Nat}{o:VO}{u u0:HO}(hi:i<h.n)(h0:H (m i)=some u0)(hn:∀t,u0≠.tup t)(hf:∀o t,u0≠.frz o t)
 (ho:Stp m h.n H m h.n (upd H (m i) u)->ORep K m h.n (upd H (m i) u) (m i) o) :
 Stp m h.n H m h.n (upd H (m i) u)/\Rel K m (h.set i o) (upd H (m i) u):=by
 have st:Stp m h.n H m h.n (upd H (m i) u):=by
  refine⟨vae _,λ_ _=>rfl,λj a b=>absurd b (Nat.not_lt.mpr a),λj k a b=>absurd b (Nat.not_lt.mpr a),λb vs q=>?_,λb o t q=>?_,λb o nb q=>?_⟩
  .rw[zae (ne_of q h0 (λz=>hn vs z.symm))];exact q
  .rw[zae (ne_of q h0 (λz=>hf o t z.symm))];exact q
  .rw[zae (nb i hi).symm];exact q
 refine⟨st,⟨λj hj=>?_,λa b ha hb=>r.inj a b ha hb,?_⟩⟩
 .have hj:j<h.n:=hj
  by_cases e:j=i
  .subst e;exact⟨o,zhh r hj,ho st⟩
  .obtain⟨o',h1,h2⟩:=r.obj j hj
   exact⟨o',(zdc hi e).trans h1,ORep.stp st (zae λz=>e (r.inj j i hj hi z)) h2⟩
 .show(h.os.set _ o).length=h.n
  rw[List.length_set,r.len]
theorem Rel.more(r:Rel K m h H){p:Addr}{u:HO}(hp:H p=none):Stp m h.n H m h.n (upd H p u)/\Rel K m h (upd H p u):=by
 have st:Stp m h.n H m h.n (upd H p u):=by
  refine⟨vae _,λ_ _=>rfl,λj a b=>absurd b (Nat.not_lt.mpr a),λj k a b=>absurd b (Nat.not_lt.mpr a),λb vs q=>?_,λb o t q=>?_,λb o nb q=>?_⟩
  .rw[zae (zac q hp)];exact q
  .rw[zae (zac q hp)];exact q
  .rw[zae (zac q hp)];exact q
 refine⟨st,⟨λj hj=>?_,r.inj,r.len⟩⟩
 obtain⟨o',h1,h2⟩:=r.obj j hj
 obtain⟨u',h3⟩:=h2.some
 exact⟨o',h1,ORep.stp st (zae (zac h3 hp)) h2⟩
end
noncomputable def Grow(h h':VH):Prop:=h.n<=h'.n/\h'.lo<=h.lo/\∀i,i<h.n->i<h'.lo->h'.get i=h.get i
theorem Grow.refl{h:VH}:Grow h h:=⟨vae _,vae _,λ_ _ _=>rfl⟩
theorem Grow.trans{h h1 h2:VH}(a:Grow h h1)(b:Grow h1 h2):Grow h h2:=⟨Nat.le_trans a.1 b.1,Nat.le_trans b.2.1 a.2.1,λi hi hl=>(b.2.2 i (vai hi a.1) hl).trans (a.2.2 i hi (vai hl b.2.1))⟩
theorem Grow.new{h:VH}{o:VO}:Grow h (h.new o):=⟨Nat.le_succ _,vae _,λi hi _=>zad hi⟩
theorem Grow.set{h:VH}{i:Nat}{o:VO}(hi:i<h.n):Grow h (h.set i o):=by
 refine⟨vae _,?_,λj hj hl=>zdc hi ?_⟩
 .show(if Nat.blt i h.lo then i else h.lo)<=h.lo
  split
  .rename_i q;exact Nat.le_of_lt (zal.mp q)
  .exact vae _
 .have hl:j< (if Nat.blt i h.lo then i else h.lo):=hl
  split at hl
  .omega
  .rename_i q
   intro z
   rw[z]at hl
   exact q (zal.mpr hl)
noncomputable def Gr{α:Type}(r:Res α)(h:VH):Prop:=∀a h',r=.ok a h'->Grow h h'
section
variable{α β:Type}{h:VH}
theorem Gr.ok{a:α}:Gr (Res.ok a h) h:=λ_ _ e=>by cases e;exact .refl
theorem Gr.no:Gr (Res.no:Res α) h:=λ_ _ e=>by cases e
theorem Gr.of{o:Option α}:Gr (Res.of o h) h:=λ_ _ e=>by cases o with|none=>cases e|some a=>cases e;exact .refl
theorem Gr.new{a:α}{o:VO}:Gr (Res.ok a (h.new o)) h:=λ_ _ e=>by cases e;exact .new
theorem Gr.set{a:α}{o o':VO}{i:Nat}(g:h.get i=some o'):Gr (Res.ok a (h.set i o)) h:=λ_ _ e=>by cases e;exact .set (zaj g)
theorem Gr.bind{r:Res α}{f:α->VH->Res β}(a:Gr r h)(b:∀x h1,Gr (f x h1) h1):Gr (r.bind f) h:=λy h' e=>by
 cases r with
 |ok x h1=>exact(a x h1 rfl).trans (b x h1 y h' e)
 |ex _ _=>cases e
 |no=>cases e
end
theorem gr_op{o:Op}{x y:W}{h:VH}:Gr (opW o x y h) h:=by
 unfold opW
 split
 .exact .of
 .exact .of
 .split
  .split
   .exact .new
   .exact .no
  .exact .no
 .exact .no
theorem gr_ip{o:Op}{x y:W}{h:VH}:Gr (ipW o x y h) h:=by
 unfold ipW
 split
 .split
  .exact .ok
  .exact .ok
  .exact .of
  .exact .of
  .exact .no
 .split
  .split
   .rename_i g _ _;exact .set g
   .exact .no
  .exact .no
 .exact .no
theorem zu3{x:W}{l u:Option Int}{h:VH}:Gr (slcW x l u h) h:=by
 unfold slcW
 split
 .exact .ok
 .split
  .exact .new
  .exact .no
 .exact .no
theorem gr_bi{b:Bi}{xs:List W}{h:VH}:Gr (biW b xs h) h:=by
 cases b<;>simp only[biW]
 .unfold lenW;split<;>first|exact .of|exact .no
 .unfold listW
  split
  .split
   .exact .new
   .exact .no
  .exact .no
 .unfold zee;split<;>first|exact .of|exact .no
 .unfold intW;split<;>first|exact .ok|exact .no
 .unfold absW;split<;>first|exact .ok|exact .no
 .unfold maxW;split<;>first|exact .ok|exact .no
 .unfold minW;split<;>first|exact .ok|exact .no
 .unfold allW
  split
  .split
   .exact .of
   .exact .no
  .exact .no
 .unfold lrngW
  split
  .split
   .exact .new
   .exact .no
  .exact .no
theorem zu4{x w:W}{l u:Option Int}{h:VH}:Gr (ptsW x w l u h) h:=by
 unfold ptsW
 split
 .split
  .split
   .exact .no
   .split
    .rename_i g _ _ _;exact .set g
    .exact .no
  .exact .no
 .exact .no
theorem gr_mt{m:Mt}{o:W}{xs:List W}{h:VH}:Gr (mtW m o xs h) h:=by
 unfold mtW
 split
 .split
  .split
   .rename_i g _;exact .set g
   .exact .no
  .exact .no
 .split
  .exact .ok
  .exact .no
 .exact .of
 .exact .no
theorem zmb{nx:Nat->VH->Option (Option W)}{tg:W->VH->En->Option En}{c e:En->VH->Res W}(hc:∀ρ h,Gr (c ρ h) h)(he:∀ρ h,Gr (e ρ h) h):∀(f i:Nat) (ρ:En) (h:VH) (acc:List W),Gr (lcI nx tg c e f i ρ h acc) h
 |0,_,_,_,_=>.no
 |f+1,i,ρ,h,acc=>by
  simp only[lcI]
  split
  .exact .no
  .exact .ok
  .split
   .exact .no
   .refine .bind (hc _ _) λb h1=>?_
    split
    .exact .bind (he _ _) λy h2=>zmb hc he f _ _ _ _
    .exact zmb hc he f _ _ _ _
    .exact .no
theorem zmc{nx:Nat->VH->Option (Option W)}{tg:W->VH->En->Option En}{c:En->VH->Res W}{e:En->VH->List W->Res (En×List W)}(hc:∀ρ h,Gr (c ρ h) h)(he:∀ρ h acc,Gr (e ρ h acc) h):∀(f i:Nat) (ρ:En) (h:VH) (acc:List W),Gr (lcO nx tg c e f i ρ h acc) h
 |0,_,_,_,_=>.no
 |f+1,i,ρ,h,acc=>by
  simp only[lcO]
  split
  .exact .no
  .exact .ok
  .split
   .exact .no
   .refine .bind (hc _ _) λb h1=>?_
    split
    .exact .bind (he _ _ _) λy h2=>zmc hc he f _ _ _ _
    .exact zmc hc he f _ _ _ _
    .exact .no
theorem gr_lc{nx:Nat->VH->Option (Option W)}{tg:W->VH->En->Option En}{c e:En->VH->Res W}(hc:∀ρ h,Gr (c ρ h) h)(he:∀ρ h,Gr (e ρ h) h):∀(f i:Nat) (ρ:En) (h:VH) (acc:List W),Gr (lcG nx tg c e f i ρ h acc) h
 |0,_,_,_,_=>.no
 |f+1,i,ρ,h,acc=>by
  simp only[lcG]
  split
  .exact .no
  .exact .ok
  .split
   .exact .no
   .refine .bind (hc _ _) λb h1=>?_
    split
    .exact .bind (he _ _) λy h2=>gr_lc hc he f _ _ _ _
    .exact gr_lc hc he f _ _ _ _
    .exact .no
theorem gr_dc{nx:Nat->VH->Option (Option W)}{tg:W->VH->En->Option En}{c e v:En->VH->Res W}(hc:∀ρ h,Gr (c ρ h) h)(he:∀ρ h,Gr (e ρ h) h)(hv:∀ρ h,Gr (v ρ h) h):∀(f i:Nat) (ρ:En) (h:VH) (acc:List (L2.Key×W)),Gr (dcG nx tg c e v f i ρ h acc) h
 |0,_,_,_,_=>.no
 |f+1,i,ρ,h,acc=>by
  simp only[dcG]
  split
  .exact .no
  .exact .ok
  .split
   .exact .no
   .refine .bind (hc _ _) λb h1=>?_
    split
    .refine .bind (he _ _) λy h2=>.bind (hv _ _) λz h3=>?_
     split
     .split
      .exact gr_dc hc he hv f _ _ _ _
      .exact .no
     .exact .no
    .exact gr_dc hc he hv f _ _ _ _
    .exact .no
theorem zmd{nx:Nat->VH->Option (Option W)}{tg:W->VH->En->Option En}{b:En->VH->Res Fl}(hb:∀ρ h,Gr (b ρ h) h):∀(f i:Nat) (ρ:En) (h:VH),Gr (forG nx tg b f i ρ h) h
 |0,_,_,_=>.no
 |f+1,i,ρ,h=>by
  simp only[forG]
  split
  .exact .no
  .exact .ok
  .split
   .exact .no
   .refine .bind (hb _ _) λfl h1=>?_
    split
    .exact zmd hb f _ _ _
    .exact zmd hb f _ _ _
    .exact .ok
    .exact .ok
theorem zme{c:En->VH->Res W}{b:En->VH->Res Fl}(hc:∀ρ h,Gr (c ρ h) h)(hb:∀ρ h,Gr (b ρ h) h):∀(f:Nat) (ρ:En) (h:VH),Gr (whlG c b f ρ h) h
 |0,_,_=>.no
 |f+1,ρ,h=>by
  simp only[whlG]
  refine .bind (hc _ _) λt h1=>?_
  split
  .exact .ok
  .refine .bind (hb _ _) λfl h2=>?_
   split
   .exact zme hc hb f _ _
   .exact zme hc hb f _ _
   .exact .ok
   .exact .ok
  .exact .no
section
variable{cl:Call}
theorem gr_ev(hcl:∀f ws h,Gr (cl f ws h) h):∀(e:E) (ρ:En) (h:VH),Gr (ev cl e ρ h) h:=by
 intro e
 induction e with
 |var i=>intro ρ h;exact .of
 |cst w=>intro ρ h;exact .ok
 |nil=>intro ρ h;exact .ok
 |cons a r i1 i2=>intro ρ h;simp only[ev];refine .bind (i1 _ _) λx h1=>.bind (i2 _ _) λy h2=>?_;split<;>first|exact .ok|exact .no
 |tup a i1=>intro ρ h;simp only[ev];refine .bind (i1 _ _) λx h1=>?_;split<;>first|(split<;>first|exact .ok|exact .no)|exact .no
 |lst a i1=>intro ρ h;simp only[ev];refine .bind (i1 _ _) λx h1=>?_;split<;>first|(split<;>first|exact .new|exact .no)|exact .no
 |dsp a i1=>
  intro ρ h;simp only[ev];refine .bind (i1 _ _) λx h1=>?_
  split
  .split
   .split
    .exact .new
    .exact .no
   .unfold dspD
    split
    .split
     .exact .new
     .exact .no
    .exact .no
  .exact .no
 |op o a b i1 i2=>intro ρ h;simp only[ev];exact .bind (i1 _ _) λx h1=>.bind (i2 _ _) λy h2=>gr_op
 |neg a i1=>intro ρ h;simp only[ev];refine .bind (i1 _ _) λx h1=>?_;split<;>first|exact .ok|exact .no
 |cmp c a b i1 i2=>intro ρ h;simp only[ev];exact .bind (i1 _ _) λx h1=>.bind (i2 _ _) λy h2=>.of
 |chn c d a b e i1 i2 i3=>
  intro ρ h;simp only[ev];refine .bind (i1 _ _) λx h1=>.bind (i2 _ _) λy h2=>?_
  split
  .exact .bind (i3 _ _) λz h3=>.of
  .exact .ok
  .exact .no
 |not a i1=>intro ρ h;simp only[ev];refine .bind (i1 _ _) λx h1=>?_;split<;>first|exact .ok|exact .no
 |and a b i1 i2=>intro ρ h;simp only[ev];refine .bind (i1 _ _) λx h1=>?_;split<;>first|exact i2 _ _|exact .ok|exact .no
 |or a b i1 i2=>intro ρ h;simp only[ev];refine .bind (i1 _ _) λx h1=>?_;split<;>first|exact i2 _ _|exact .ok|exact .no
 |tru a i1=>intro ρ h;simp only[ev];exact .bind (i1 _ _) λx h1=>.of
 |ite c a b i1 i2 i3=>
  intro ρ h;simp only[ev];refine .bind (i1 _ _) λx h1=>?_
  split
  .exact i2 _ _
  .exact i3 _ _
  .exact .no
 |idx a b i1 i2=>intro ρ h;simp only[ev];exact .bind (i1 _ _) λx h1=>.bind (i2 _ _) λy h2=>.of
 |slc a bl lo bh hi i1 i2 i3=>
  intro ρ h;simp only[ev];refine .bind (i1 _ _) λx h1=>.bind (i2 _ _) λy h2=>.bind (i3 _ _) λz h3=>?_
  split
  .exact zu3
  .exact .no
 |call f a i1=>intro ρ h;simp only[ev];refine .bind (i1 _ _) λx h1=>?_;split<;>first|exact hcl _ _ _|exact .no
 |bi b a i1=>intro ρ h;simp only[ev];refine .bind (i1 _ _) λx h1=>?_;split<;>first|exact gr_bi|exact .no
 |isi t a i1=>intro ρ h;simp only[ev];exact .bind (i1 _ _) λx h1=>.of
 |mt m o a i1 i2=>
  intro ρ h;simp only[ev];refine .bind (i1 _ _) λx h1=>?_
  split
  .refine .bind (i2 _ _) λy h2=>?_
   split<;>first|exact gr_mt|exact .no
  .exact .no
 |lc k a t ow ix c e i1 i2 i3=>
  intro ρ h;simp only[ev]
  refine .bind (i1 _ _) λx h1=>.bind (gr_lc i2 i3 _ _ _ _ _) λys h2=>?_
  split
  .exact .new
  .exact .no
 |lc2 k a t ow ix c k2 a2 t2 c2 e i1 i2 i3 i4 i5=>
  intro ρ h;simp only[ev]
  refine .bind (i1 _ _) λx h1=>.bind (zmc i2 (λρ h acc=>.bind (i3 _ _) λy h2=>zmb i4 i5 _ _ _ _ _) _ _ _ _ _) λys h2=>?_
  split
  .exact .new
  .exact .no
 |mk C f a i1=>
  intro ρ h;simp only[ev];refine .bind (i1 _ _) λy h1=>?_
  split
  .intro b h' e
   refine Grow.new.trans (Gr.bind (hcl _ _ _) (λv h2=>?_) b h' e)
   split
   .exact .ok
   .exact .no
  .exact .no
 |mcall C mt f o a i1 i2=>
  intro ρ h;simp only[ev];refine .bind (i1 _ _) λx h1=>?_
  split
  .refine .bind (i2 _ _) λy h2=>?_
   split
   .exact hcl _ _ _
   .exact .no
  .exact .no
 |att C x a i1=>intro ρ h;simp only[ev];exact .bind (i1 _ _) λx h1=>.of
 |dc k a t ow ix c e v i1 i2 i3 i4=>
  intro ρ h;simp only[ev]
  exact .bind (i1 _ _) λx h1=>.bind (gr_dc i2 i3 i4 _ _ _ _ _) λys h2=>.new
theorem zfe(hcl:∀f ws h,Gr (cl f ws h) h):∀(s:S) (ρ:En) (h:VH),Gr (exs cl s ρ h) h:=by
 have ge:=gr_ev hcl
 intro s
 induction s with
 |skip=>intro ρ h;exact .ok
 |seq a b i1 i2=>intro ρ h;simp only[exs];refine .bind (i1 _ _) λfl h1=>?_;split<;>first|exact i2 _ _|exact .ok
 |set i e=>intro ρ h;simp only[exs];exact .bind (ge _ _ _) λw h1=>.ok
 |unp is e=>intro ρ h;simp only[exs];exact .bind (ge _ _ _) λw h1=>.of
 |aug i o e=>
  intro ρ h;simp only[exs]
  split
  .exact .bind (ge _ _ _) λy h1=>.bind gr_ip λz h2=>.ok
  .exact .no
 |sat C x o v=>
  intro ρ h;simp only[exs]
  refine .bind (ge _ _ _) λw h1=>.bind (ge _ _ _) λo h2=>?_
  unfold satW
  split
  .split
   .split
    .rename_i g _;exact .set g
    .exact .no
   .exact .no
  .exact .no
 |put o i v=>
  intro ρ h;simp only[exs]
  refine .bind (ge _ _ _) λw h1=>.bind (ge _ _ _) λx h2=>.bind (ge _ _ _) λy h3=>?_
  split
  .split
   .split
    .rename_i g _ _ _;exact .set g
    .exact .no
   .exact .no
  .unfold putD
   split
   .split
    .rename_i g _ _;exact .set g
    .exact .no
   .exact .no
  .exact .no
 |pts o bl lo bh hi v=>
  intro ρ h;simp only[exs]
  refine .bind (ge _ _ _) λw h1=>.bind (ge _ _ _) λx h2=>.bind (ge _ _ _) λl h3=>.bind (ge _ _ _) λu h4=>?_
  split
  .exact .bind zu4 λ_ h5=>.ok
  .exact .no
 |ite c a b i1 i2=>
  intro ρ h;simp only[exs];refine .bind (ge _ _ _) λx h1=>?_
  split
  .exact i1 _ _
  .exact i2 _ _
  .exact .no
 |ret e=>intro ρ h;simp only[exs];exact .bind (ge _ _ _) λw h1=>.ok
 |expr e=>intro ρ h;simp only[exs];exact .bind (ge _ _ _) λw h1=>.ok
 |brk=>intro ρ h;exact .ok
 |cnt=>intro ρ h;exact .ok
 | «for» k a t b i1=>intro ρ h;simp only[exs];exact .bind (ge _ _ _) λx h1=>zmd i1 _ _ _ _
 |whl c b i1=>intro ρ h;simp only[exs];exact zme (ge c) i1 _ _ _
 |no=>intro ρ h;exact .no
end
theorem zff(F:Nat->Option Fn):∀(k f:Nat) (ws:List W) (h:VH),Gr (run F k f ws h) h
 |0,_,_,_=>.no
 |k+1,f,ws,h=>by
  intro a h' e
  simp only[run]at e
  split at e
  .rename_i fn hf
   split at e
   .rename_i hl
    generalize hr:exs (run F k) fn.body (ws.map some++List.replicate (fn.n-fn.ps) none) ⟨h.n,h.n,h.os⟩=r at e
    have g:=zfe (zff F k) fn.body (ws.map some++List.replicate (fn.n-fn.ps) none) ⟨h.n,h.n,h.os⟩
    rw[hr]at g
    have lv:∀w h1,Grow ⟨h.n,h.n,h.os⟩ h1->leave h w h1=.ok a h'->Grow h h':=by
     intro w h1 g1 e1
     unfold leave at e1
     split at e1
     .cases e1;exact .refl
     .cases e1
      refine⟨g1.1,?_,λi hi hlo=>?_⟩
      .show(if Nat.ble h.lo h1.lo then h.lo else h1.lo)<=h.lo
       split
       .exact vae _
       .rename_i q
        exact Nat.le_of_not_le λz=>q (Nat.ble_eq.mpr z)
      .have hlo:i< (if Nat.ble h.lo h1.lo then h.lo else h1.lo):=hlo
       have hh:i<h1.lo:=by
        split at hlo
        .rename_i q;exact vai hlo (va1 q)
        .exact hlo
       exact g1.2.2 i hi hh
    cases r with
    |no=>cases e
    |ex _ _=>cases e
    |ok fl h1=>
     have g1:=g fl h1 rfl
     simp only[Res.bind]at e
     split at e
     .exact lv _ _ g1 e
     .exact lv _ _ g1 e
     .cases e
   .cases e
  .cases e
theorem zrp{α β:Type}{r:Res α}{f:α->VH->Res β}{b:β}{h':VH}(q:r.bind f=.ok b h'):∃a h1,r=.ok a h1/\f a h1=.ok b h':=by
 cases r with
 |ok a h=>exact⟨a,h,rfl,q⟩
 |ex x h=>cases q
 |no=>cases q
theorem zab{α β:Type}{r:Res α}{f:α->VH->Res β}{w:β}{h':VH}{P:Prop}(e:r.bind f=.ok w h')(k:∀x h1,r=.ok x h1->f x h1=.ok w h'->P):P:=by
 obtain⟨x,h1,a,b⟩:=zrp e
 exact k x h1 a b
theorem of_ok{α:Type}{o:Option α}{h h':VH}{a:α}(q:Res.of o h=.ok a h'):o=some a/\h'=h:=by
 cases o with
 |none=>cases q
 |some b=>cases q;exact⟨rfl,rfl⟩
structure Fr(K:PySem.W.Frag)(m:Nat->Addr)(n:Nat)(H:Hp)(σ:L2.St)(ρ:En):Prop where
 len:σ.length=ρ.length
 val:∀(i:Nat)(w:W),ρ[i]?=some (some w)->∃v,σ[i]?=some (some v)/\VRep K m n H v w
noncomputable abbrev FE:=En->VH->Res W
noncomputable abbrev FS:=En->VH->Res Fl
noncomputable def lft(K:PySem.W.Frag)(f:FE):TE:=λσ H Q=>∃ρ h m w h',Fr K m h.n H σ ρ/\Rel K m h H/\f ρ h=.ok w h'/\
 ∀v H' m',Stp m h.n H m' h'.n H'->Rel K m' h' H'->VRep K m' h'.n H' v w->Q v H'
noncomputable def lftT(K:PySem.W.Frag)(f:FE):TT:=λσ H Q=>∃ρ h m b h',Fr K m h.n H σ ρ/\Rel K m h H/\f ρ h=.ok (.bl b) h'/\
 ∀H' m',Stp m h.n H m' h'.n H'->Rel K m' h' H'->Q b H'
noncomputable def lftA(K:PySem.W.Frag)(f:FE):TA:=λσ H Q=>∃ρ h m ws h',Fr K m h.n H σ ρ/\Rel K m h H/\f ρ h=.ok (.tup ws) h'/\
 ∀vs H' m',Stp m h.n H m' h'.n H'->Rel K m' h' H'->VReps K m' h'.n H' vs ws->Q vs H'
section
variable{K:PySem.W.Frag}{m:Nat->Addr}{σ:L2.St}{H:Hp}{P:Prop}{fa:FE}{ρ:En}{h h':VH}
theorem lft.el{Q:VK}(q:lft K fa σ H Q)(k:∀ρ h m w h',Fr K m h.n H σ ρ->Rel K m h H->fa ρ h=.ok w h'->(∀v H' m',Stp m h.n H m' h'.n H'->Rel K m' h' H'->VRep K m' h'.n H' v w->Q v H')->P):P:=by
 obtain⟨ρ,h,m,w,h',f,r,e,k'⟩:=q
 exact k ρ h m w h' f r e k'
theorem lft.mk{Q:VK}{w:W}(f:Fr K m h.n H σ ρ)(r:Rel K m h H)(e:fa ρ h=.ok w h')(k:∀v H' m',Stp m h.n H m' h'.n H'->Rel K m' h' H'->VRep K m' h'.n H' v w->Q v H'):lft K fa σ H Q:=⟨ρ,h,m,w,h',f,r,e,k⟩
theorem lftT.el{Q:Bool->Hp->Prop}(q:lftT K fa σ H Q)(k:∀ρ h m b h',Fr K m h.n H σ ρ->Rel K m h H->fa ρ h=.ok (.bl b) h'->(∀H' m',Stp m h.n H m' h'.n H'->Rel K m' h' H'->Q b H')->P):P:=by
 obtain⟨ρ,h,m,w,h',f,r,e,k'⟩:=q
 exact k ρ h m w h' f r e k'
theorem lftT.mk{Q:Bool->Hp->Prop}{b:Bool}(f:Fr K m h.n H σ ρ)(r:Rel K m h H)(e:fa ρ h=.ok (.bl b) h')(k:∀H' m',Stp m h.n H m' h'.n H'->Rel K m' h' H'->Q b H'):lftT K fa σ H Q:=⟨ρ,h,m,b,h',f,r,e,k⟩
theorem lftA.el{Q:List V->Hp->Prop}(q:lftA K fa σ H Q)(k:∀ρ h m ws h',Fr K m h.n H σ ρ->Rel K m h H->fa ρ h=.ok (.tup ws) h'->(∀vs H' m',Stp m h.n H m' h'.n H'->Rel K m' h' H'->VReps K m' h'.n H' vs ws->Q vs H')->P):P:=by
 obtain⟨ρ,h,m,w,h',f,r,e,k'⟩:=q
 exact k ρ h m w h' f r e k'
theorem lftA.mk{Q:List V->Hp->Prop}{ws:List W}(f:Fr K m h.n H σ ρ)(r:Rel K m h H)(e:fa ρ h=.ok (.tup ws) h')(k:∀vs H' m',Stp m h.n H m' h'.n H'->Rel K m' h' H'->VReps K m' h'.n H' vs ws->Q vs H'):lftA K fa σ H Q:=⟨ρ,h,m,ws,h',f,r,e,k⟩
end
noncomputable abbrev SE(X:Cx)(e:Expr)(f:FE):Prop:=PE X e (lft X.K f)
noncomputable abbrev ST(X:Cx)(e:Expr)(f:FE):Prop:=PT X e (lftT X.K f)
noncomputable abbrev SW(X:Cx)(e:Expr)(f:FE):Prop:=PW X e (lftT X.K f)
noncomputable abbrev SA(X:Cx)(es:List Expr)(f:FE):Prop:=PA X es (lftA X.K f)
theorem _root_.L2.PE.imp{X:Cx}{e:Expr}{t t':TE}(h:PE X e t)(k:∀σ H Q,t' σ H Q->t σ H Q):PE X e t':=λpins s σ H Q I q=>h pins s σ H Q I (k σ H Q q)
theorem _root_.L2.PT.imp{X:Cx}{e:Expr}{t t':TT}(h:PT X e t)(k:∀σ H Q,t' σ H Q->t σ H Q):PT X e t':=λpins s σ H Q I q=>h pins s σ H Q I (k σ H Q q)
theorem _root_.L2.PW.imp{X:Cx}{e:Expr}{t t':TT}(h:PW X e t)(k:∀σ H Q,t' σ H Q->t σ H Q):PW X e t':=λwh pins s σ H Q I q=>h wh pins s σ H Q I (k σ H Q q)
theorem _root_.L2.PA.imp{X:Cx}{es:List Expr}{t t':TA}(h:PA X es t)(k:∀σ H Q,t' σ H Q->t σ H Q):PA X es t':=λp pins s σ H Q I q=>h p pins s σ H Q I (k σ H Q q)
theorem _root_.L2.PS.imp{X:Cx}{st:Stmt}{t t':TS}(h:PS X st t)(k:∀D σ H,t' D σ H->t D σ H):PS X st t':=λpins s σ H D I q=>h pins s σ H D I (k D σ H q)
theorem _root_.L2.PSs.imp{X:Cx}{st:List Stmt}{t t':TS}(h:PSs X st t)(k:∀D σ H,t' D σ H->t D σ H):PSs X st t':=λpins s σ H D I q=>h pins s σ H D I (k D σ H q)
section
variable{K:PySem.W.Frag}{m m':Nat->Addr}{n n':Nat}{h h':VH}{H H':Hp}{σ:L2.St}{ρ:En}
theorem Fr.stp(f:Fr K m n H σ ρ)(s:Stp m n H m' n' H'):Fr K m' n' H' σ ρ:=⟨f.len,λi w e=>let⟨v,h1,h2⟩:=f.val i w e;⟨v,h1,h2.stp s⟩⟩
theorem Fr.set(f:Fr K m n H σ ρ){v:V}{w:W}(q:VRep K m n H v w)(i:Nat):Fr K m n H (σ.set i (some v)) (ρ.set i (some w)):=by
 refine⟨by rw[List.length_set,List.length_set];exact f.len,λj w' e=>?_⟩
 by_cases hj:i=j
 .subst hj
  by_cases hl:i<ρ.length
  .rw[List.getElem?_set_self hl]at e
   cases e
   exact⟨v,by rw[List.getElem?_set_self (by rw[f.len];exact hl)],q⟩
  .rw[List.getElem?_eq_none (by rw[List.length_set];omega)]at e;cases e
 .rw[List.getElem?_set_ne hj]at e
  obtain⟨v',h1,h2⟩:=f.val j w' e
  exact⟨v',by rw[List.getElem?_set_ne hj];exact h1,h2⟩
noncomputable def Wants(K:PySem.W.Frag)(m:Nat->Addr)(n:Nat)(H:Hp)(w:W)(h':VH)(Q:VK):Prop:=∀v H' m',Stp m n H m' h'.n H'->Rel K m' h' H'->VRep K m' h'.n H' v w->Q v H'
theorem Wants.here{w:W}{Q:VK}(k:Wants K m h.n H w h Q)(r:Rel K m h H){v:V}(q:VRep K m h.n H v w):Q v H:=k v H m .refl r q
theorem Wants.list{ws:List W}{vs:List V}{Q:VK}(k:Wants K m h.n H (.ref h.n) (h.new (.lst ws)) Q)(r:Rel K m h H)(q:VReps K m h.n H vs ws){p:Addr}(hp:H p=none):Q (.ref p) (upd H p (.lst vs)):=by
 obtain⟨st,r'⟩:=r.alloc (o:=.lst ws) (u:=.lst vs) hp (λ_ z=>nomatch z) (λst=>⟨vs,zak,q.stp st⟩)
 refine k _ _ _ st r' ?_
 have:VRep K (λi=>if i=h.n then p else m i) (h.n+1) (upd H p (.lst vs)) (.ref ((λi=>if i=h.n then p else m i) h.n)) (.ref h.n):=.ref (Nat.lt_succ_self _)
 simp only[if_true]at this
 exact this
theorem Wants.dictD{ks ws:List W}{xs:DX}{u:HO}{Q:VK}(k:Wants K m h.n H (.ref h.n) (h.new (.dt ks ws)) Q)(r:Rel K m h H){p:Addr}(hp:H p=none)(hu:u=dtH xs p\/(xs=[]/\u=.dK []))(q0:mapO keyD ks=some (xs.map (·.1)))(q1:VReps K m h.n H (xs.map λx=>.ref x.2.1) ks)(q2:VReps K m h.n H (xs.map λx=>x.2.2) ws):Q (.ref p) (upd H p u):=by
 obtain⟨st,r'⟩:=r.alloc (o:=.dt ks ws) (u:=u) hp (λt z=>by rcases hu with e|⟨_,e⟩<;> (rw[e]at z;exact nomatch z)) (λst=>⟨xs,hu.imp (λe=>by rw[zak,e]) λ⟨a,e⟩=>⟨a,by rw[zak,e]⟩,q0,q1.stp st,q2.stp st⟩)
 refine k _ _ _ st r' ?_
 have:VRep K (λi=>if i=h.n then p else m i) (h.n+1) (upd H p u) (.ref ((λi=>if i=h.n then p else m i) h.n)) (.ref h.n):=.ref (Nat.lt_succ_self _)
 simp only[if_true]at this
 exact this
theorem Wants.tuple{ws:List W}{vs:List V}{Q:VK}(k:Wants K m h.n H (.tup ws) h Q)(r:Rel K m h H)(q:VReps K m h.n H vs ws){p:Addr}(hp:H p=none):Q (.ref p) (upd H p (.tup vs)):=by
 obtain⟨st,r'⟩:=r.more (u:=.tup vs) hp
 exact k _ _ _ st r' (.tup (SqT.of zak) (q.stp st))
theorem zps{fa:FE}{g:W->VH->Res W}{G:V->Hp->VK->Prop}
 (hG:∀(m:Nat->Addr)(h:VH)(H:Hp)(v:V)(x w:W)(h':VH)(Q:VK),Rel K m h H->VRep K m h.n H v x->g x h=.ok w h'->Wants K m h.n H w h' Q->G v H Q) {Q:VK}
 (q:lft K (λρ h=>(fa ρ h).bind λx h=>g x h) σ H Q):lft K fa σ H λv H1=>G v H1 Q:=by
 refine q.el λρ h m w h' f r e k=>?_
 refine zab e λx h1 e1 e2=>?_
 exact(.mk f r e1 λv H1 m1 s1 r1 q1=>hG m1 h1 H1 v x w h' Q r1 q1 e2 λv' H' m' s' r' q'=>k v' H' m' (s1.trans s') r' q')
theorem zgd{fa fb:FE}{g:W->W->VH->Res W}{G:V->V->Hp->VK->Prop}
 (hG:∀(m:Nat->Addr)(h:VH)(H:Hp)(v u:V)(x y w:W)(h':VH)(Q:VK),Rel K m h H->VRep K m h.n H v x->VRep K m h.n H u y->g x y h=.ok w h'->Wants K m h.n H w h' Q->G v u H Q) {Q:VK}
 (q:lft K (λρ h=>(fa ρ h).bind λx h=>(fb ρ h).bind λy h=>g x y h) σ H Q):lft K fa σ H λv H1=>lft K fb σ H1 λu H2=>G v u H2 Q:=by
 refine q.el λρ h m w h' f r e k=>?_
 refine zab e λx h1 e1 e2=>?_
 refine zab e2 λy h2 e3 e4=>?_
 refine(.mk f r e1 λv H1 m1 s1 r1 q1=>(.mk (f.stp s1) r1 e3 λu H2 m2 s2 r2 q2=>?_))
 exact hG m2 h2 H2 v u x y w h' Q r2 (q1.stp s2) q2 e4 λv' H' m' s' r' q'=>k v' H' m' ((s1.trans s2).trans s') r' q'
theorem zbs{fa:FE}{g:List W->VH->Res W}{G:List V->Hp->VK->Prop}
 (hG:∀(m:Nat->Addr)(h:VH)(H:Hp)(vs:List V)(xs:List W)(w:W)(h':VH)(Q:VK),Rel K m h H->VReps K m h.n H vs xs->g xs h=.ok w h'->Wants K m h.n H w h' Q->G vs H Q) {Q:VK}
 (q:lft K (λρ h=>(fa ρ h).bind λy h=>match y with|.tup ys=>g ys h|_=>.no) σ H Q):lftA K fa σ H λvs H1=>G vs H1 Q:=by
 refine q.el λρ h m w h' f r e k=>?_
 refine zab e λx h1 e1 e2=>?_
 cases x with
 |tup ys=>exact(.mk f r e1 λvs H1 m1 s1 r1 q1=>hG m1 h1 H1 vs ys w h' Q r1 q1 e2 λv' H' m' s' r' q'=>k v' H' m' (s1.trans s') r' q')
 |_=>cases e2
theorem zjj{f:FE}{Q:Bool->Hp->Prop}(q:lftT K f σ H Q):lft K f σ H λx H'=>∃k,x=.bl k/\Q k H':=by
 refine q.el λρ h m b h' f r e k=>?_
 exact(.mk f r e λv H' m' s' r' q'=>by cases q';exact⟨b,rfl,k H' m' s' r'⟩)
end
section
variable{X:Cx}{a b c e:Expr}{es:List Expr}{fa fb fc:FE}{pos:Pos}
theorem zu5{i:Nat}{x:Str}{pos:Pos}(hN:X.N[i]?=some x)(hv:Vis X.env.scope x)(hd:(x==("__debug__" : Str))=false)(hcd:(x==("__classdict__" : Str))=false):SE X (.Name x pos) (λρ h=>.of (ρ[i]?).join h):=
 (zth hN hv hd hcd).imp λσ H Q z9=>z9.el λρ h m w h' f r e k=>by
   obtain⟨e1,e2⟩:=of_ok e
   subst e2
   have e3:ρ[i]?=some (some w):=by
    cases q:ρ[i]? with
    |none=>rw[q]at e1;cases e1
    |some o=>rw[q]at e1;rw[<-e1];rfl
   obtain⟨v,h1,h2⟩:=f.val i w e3
   exact⟨v,h1,k v H m .refl r h2⟩
theorem zhi{w:W}{v:V}(h:PE X e (tC v))(hv:∀m n H,VRep X.K m n H v w):SE X e (λ_ h=>.ok w h):=
 h.imp λσ H Q z9=>z9.el λρ h m w h' f r e k=>by cases e;exact k v H m .refl r (hv m h.n H)
theorem zu6{i j pos}:SE X (.Constant (.int i) j pos) (λ_ h=>.ok (.int i) h):=zhi zti λ_ _ _=>.int i
theorem se_bl{i j pos}:SE X (.Constant (.bool i) j pos) (λ_ h=>.ok (.bl i) h):=zhi pe_bl λ_ _ _=>.bl i
theorem zu7{j pos}:SE X (.Constant .none j pos) (λ_ h=>.ok .non h):=zhi ztj λ_ _ _=>.non
theorem zu8{i j pos}:SE X (.Constant (.str i) j pos) (λ_ h=>.ok (.str i) h):=zhi ztk λ_ _ _=>.str i
theorem zjk:SA X [] (λ_ h=>.ok (.tup []) h):=zi9.imp λσ H Q z9=>z9.el λρ h m ws h' f r e k=>by cases e;exact k [] H m .refl r .nil
theorem zef(ha:SE X e fa)(hr:SA X es fb)(hs:starEach (e::es) X.env=(false,eval e X.env)::starEach es X.env) :
 SA X (e::es) (λρ h=>(fa ρ h).bind λx h=>(fb ρ h).bind λy h=>match y with|.tup ys=>.ok (.tup (x::ys)) h|_=>.no):=
 (zd8 ha hr hs).imp λσ H Q z9=>z9.el λρ h m ws h' f r e k=>by
   refine zab e λx h1 e1 e2=>?_
   refine zab e2 λy h2 e3 e4=>?_
   cases y with
   |tup ys=>
    cases e4
    exact(.mk f r e1 λv H1 m1 s1 r1 q1=>(.mk (f.stp s1) r1 e3 λvs H2 m2 s2 r2 q2=>k _ H2 m2 (s1.trans s2) r2 (.cons (q1.stp s2) q2)))
   |_=>cases e4
theorem zpt{k:Nat}(h:Nat.ble k 1000=true):k<=sizeLine:=Nat.le_of_lt (zhe (va1 h))
theorem zu9{x1:Nat}(ha:SA X es fa):SE X (.Tuple es x1 pos) (λρ h=>(fa ρ h).bind λy h=>match y with|.tup ys=>(if Nat.ble ys.length 1000 then .ok (.tup ys) h else .no)|_=>.no):=
 (zud ha).imp λσ H Q q=>zbs (g:=λys h=>if Nat.ble ys.length 1000 then .ok (.tup ys) h else .no) (G:=λxs H1 Q=>xs.length<=sizeLine/\∀p,H1 p=none->Q (.ref p) (upd H1 p (.tup xs)))
   (λm h H vs xs w h' Q r q e k=>by
     split at e
     .rename_i hl
      cases e
      exact⟨by rw[q.length];exact zpt hl,λp hp=>Wants.tuple k r q hp⟩
     .cases e) q
theorem zva(ha:SA X es fa):SE X (.List es pos) (λρ h=>(fa ρ h).bind λy h=>match y with|.tup ys=>(if Nat.ble ys.length 1000 then .ok (.ref h.n) (h.new (.lst ys))else .no)|_=>.no):=
 (zue ha).imp λσ H Q q=>zbs (g:=λys h=>if Nat.ble ys.length 1000 then .ok (.ref h.n) (h.new (.lst ys))else .no) (G:=λxs H1 Q=>xs.length<=sizeLine/\∀p,H1 p=none->Q (.ref p) (upd H1 p (.lst xs)))
   (λm h H vs xs w h' Q r q e k=>by
     split at e
     .rename_i hl
      cases e
      exact⟨by rw[q.length];exact zpt hl,λp hp=>Wants.list k r q hp⟩
     .cases e) q
noncomputable def OpV(K:PySem.W.Frag)(r:R2)(g:W->W->VH->Res W):Prop:=∀(m:Nat->Addr) (h:VH) (H:Hp) (v u:V) (x y w:W) (h':VH) (Q:VK),Rel K m h H->VRep K m h.n H v x->VRep K m h.n H u y->g x y h=.ok w h'->Wants K m h.n H w h' Q->r v u H Q
theorem se_op{O:Operator}{r:R2}{g:W->W->VH->Res W}(ho:OpR X (binaryOp O) r)(hg:OpV X.K r g)(ha:SE X a fa)(hb:SE X b fb):SE X (.BinOp a O b pos) (λρ h=>(fa ρ h).bind λx h=>(fb ρ h).bind λy h=>g x y h):=
 (pe_op ho ha hb).imp λσ H Q q=>zgd (G:=r) hg q
noncomputable def opOf:Operator->Option Op
 |.Add=>some .add|.Sub=>some .sub|.Mult=>some .mul|.FloorDiv=>some .fdiv|.Mod=>some .mod|.Pow=>some .pow
 |_=>none
noncomputable def cI:Op->Int->Int->Prop
 |.mul=>CMul|.fdiv=>CDiv|.mod=>λ_ j=>0<j|.shl=>CPow|.pow=>CPow
 |_=>λ_ _=>True
noncomputable def gI:Op->Int->Int->Int
 |.add=>(· + ·)|.sub=>(· - ·)|.mul=>(· * ·)|.fdiv=>(· / ·)|.mod=>(· % ·)|.shl=>λi j=>i*2 ^ j.toNat|.pow=>λi j=>i ^ j.toNat
noncomputable def rX(K:PySem.W.Frag):Op->R2
 |.add=>λx y H Q=>rCatT K x y H Q\/zpp K x y H Q\/rCat x y H Q
 |_=>λ_ _ _ _=>False
noncomputable def rB(K:PySem.W.Frag)(o:Op):R2:=λx y H Q=>rI (cI o) (λi j=>.int (gI o i j)) x y H Q\/rX K o x y H Q
theorem zdd{f:Value->Value->Sem Value}{r r':R2}(h:OpR X f r)(k:∀x y H Q,r' x y H Q->r x y H Q):OpR X f r':=λpins s σ H x y v u Q I rx ry q=>h pins s σ H x y v u Q I rx ry (k _ _ _ _ q)
theorem op_ok{O:Operator}{o:Op}(e:opOf O=some o):OpR X (binaryOp O) (rB X.K o):=by
 have tr:∀{g:Int->Int->V}{x y H Q},rI (λ_ _=>True) g x y H Q->rI0 g x y H Q:=λ⟨i,j,h1,h2,_,h3⟩=>⟨i,j,h1,h2,h3⟩
 cases O<;>cases e
 .exact zdd (zt3.or (zq9.or (zoh.or zuk))) λx y H Q q=>q.elim (λz=>.inl (tr z)) .inr
 .exact zdd zt4 λx y H Q q=>q.elim (λz=>tr z) λz=>z.elim
 .exact zdd zt5 λx y H Q q=>q.elim id λz=>z.elim
 .exact zdd zt6 λx y H Q q=>q.elim id λz=>z.elim
 .exact zdd zt7 λx y H Q q=>q.elim id λz=>z.elim
 .exact zdd zqw λx y H Q q=>q.elim id λz=>z.elim
theorem zeg{i:Int}(h:zbo i=true):-(2 ^ 64)<i/\i<2 ^ 64:=by
 unfold zbo at h
 rw[vab]at h
 exact⟨of_decide_eq_true h.1,of_decide_eq_true h.2⟩
theorem zmf{o:Op}{i j z:Int}(e:opI o i j=some z):cI o i j/\z=gI o i j:=by
 cases o<;>simp only[opI]at e
 .cases e;exact⟨trivial,rfl⟩
 .cases e;exact⟨trivial,rfl⟩
 .split at e
  .rename_i hc
   cases e
   rw[Bool.or_eq_true]at hc
   exact⟨hc.elim (λq=>.inl (zeg q)) (λq=>.inr (zeg q)),rfl⟩
  .cases e
 .split at e
  .rename_i hc
   cases e
   rw[vab]at hc
   exact⟨⟨of_decide_eq_true hc.1,of_decide_eq_true hc.2⟩,rfl⟩
  .cases e
 .split at e
  .rename_i hc
   cases e
   exact⟨(of_decide_eq_true hc:0<j),rfl⟩
  .cases e
 .split at e
  .rename_i hc
   cases e
   rw[vab,vab]at hc
   exact⟨⟨of_decide_eq_true hc.1.1,of_decide_eq_true hc.1.2,of_decide_eq_true hc.2⟩,rfl⟩
  .cases e
 .split at e
  .rename_i hc
   cases e
   rw[vab,vab]at hc
   exact⟨⟨of_decide_eq_true hc.1.1,of_decide_eq_true hc.1.2,of_decide_eq_true hc.2⟩,rfl⟩
  .cases e
theorem zmg{i:Int}(h:fits i=true):-(2 ^ 62)<=i/\i<2 ^ 62:=by
 unfold fits at h
 rw[vab]at h
 exact⟨of_decide_eq_true h.1,of_decide_eq_true h.2⟩
theorem zvb{K:PySem.W.Frag}(o:Op):OpV K (rB K o) (opW o):=by
 intro m h H v u x y w h' Q r qv qu e k
 unfold opW at e
 split at e
 .rename_i i j
  obtain⟨e,rfl⟩:=of_ok e
  cases qv;cases qu
  cases q:opI o i j with
  |none=>rw[q]at e;cases e
  |some z=>
   rw[q]at e;cases e
   obtain⟨h1,rfl⟩:=zmf q
   exact .inl ⟨i,j,rfl,rfl,h1,Wants.here k r (.int _)⟩
 .rename_i xs ys
  obtain⟨e,rfl⟩:=of_ok e
  cases q:opT o xs ys with
  |none=>rw[q]at e;cases e
  |some zs=>
   rw[q]at e;cases e
   cases o<;>simp only[opT]at q
   split at q
   .rename_i hc
    cases q
    cases qv with
    |tup qa ra=>
     cases qu with
     |tup qb rb=>
      rename_i a va b vb
      have hl:=va1 hc
      cases xs with
      |nil=>
       cases ra
       exact .inr (.inr (.inl ⟨a,b,vb,rfl,rfl,qa,qb,Wants.here k r (.tup qb rb)⟩))
      |cons x0 xs0=>
       refine .inr (.inl ⟨a,b,va,vb,rfl,rfl,qa,qb,λz=>?_,by rw[ra.length,rb.length];exact hl,λz=>?_,λ_ p hp=>Wants.tuple k r (ra.append rb) hp⟩)
       .subst z;cases ra
       .subst z;cases rb
        rw[List.append_nil]at k
        exact Wants.here k r (.tup qa ra)
   .cases q
   all_goals cases q
 .rename_i i j
  split at e
  .rename_i xs ys hx hy
   split at e
   .rename_i zs q
    cases e
    cases o<;>simp only[opL]at q
    split at q
    .rename_i hc
     cases q
     obtain⟨va,pa,ra⟩:=r.lst hx
     obtain⟨vb,pb,rb⟩:=r.lst hy
     cases qv;cases qu
     exact .inr (.inr (.inr ⟨m i,m j,va,vb,rfl,rfl,pa,pb,by rw[ra.length,rb.length];exact va1 hc,λp hp=>Wants.list k r (ra.append rb) hp⟩))
    .cases q
    all_goals cases q
   .cases e
  .cases e
 .cases e
end
section
variable{K:PySem.W.Frag}{m:Nat->Addr}{h:VH}{H:Hp}
theorem zhj{f:W->Option PyData}(ih:∀(w:W) (d:PyData) (v:V),f w=some d->VRep K m h.n H v w->Rp K (λ_=>False) H v d):∀{ws:List W} {ds:List PyData} {vs:List V},mapO f ws=some ds->VReps K m h.n H vs ws->Rps K (λ_=>False) H vs ds
 |[],ds,_,e,.nil=>by cases e;exact .nil
 |w::ws,ds,_,e,.cons q r=>by
  unfold mapO at e
  split at e
  .rename_i d hd
   split at e
   .rename_i bs hb
    cases e
    exact .cons (ih w d _ hd q) (zhj ih hb r)
   .cases e
  .cases e
theorem rp_of(r:Rel K m h H):∀(n:Nat) (w:W) (d:PyData) (v:V),toD h n w=some d->VRep K m h.n H v w->Rp K (λ_=>False) H v d
 |0,_,_,_,e,_=>by cases e
 |n+1,w,d,v,e,q=>by
  cases q with
  |non=>cases e;exact .non
  |bl b=>cases e;exact .bl b
  |int b=>cases e;exact .int b
  |str b=>cases e;exact .str b
  | @tup a vs ws sq rs=>
   simp only[toD]at e
   cases z:mapO (toD h n) ws with
   |none=>rw[z]at e;cases e
   |some ds=>rw[z]at e;cases e;exact .tup sq (λz=>z) (zhj (rp_of r n) z rs)
  | @fz a vs ws sq rs=>
   simp only[toD]at e
   cases z:mapO (toD h n) ws with
   |none=>rw[z]at e;cases e
   |some ds=>rw[z]at e;cases e;exact .lst sq.sq (λz=>z) (zhj (rp_of r n) z rs)
  | @ref i hi=>
   simp only[toD]at e
   cases g:h.get i with
   |none=>rw[g]at e;cases e
   |some o=>
    rw[g]at e
    cases o with
    |dk _=>cases e
    |dt _ _=>cases e
    |ins _ _ _=>cases e
    |lst ws=>
     obtain⟨vs,h1,h2⟩:=r.lst g
     simp only at e
     cases z:mapO (toD h n) ws with
     |none=>rw[z]at e;cases e
     |some ds=>rw[z]at e;cases e;exact .lst (SqL.of h1) (λz=>z) (zhj (rp_of r n) z h2)
theorem zpu(r:Rel K m h H){x y:W}{v u:V}{b:Bool}(e:eqW h x y=some b)(qv:VRep K m h.n H v x)(qu:VRep K m h.n H u y) :
 ∃d e',Rp K (λ_=>False) H v d/\Rp K (λ_=>False) H u e'/\SeqAt.shaped d=true/\SeqAt.shaped e'=true/\b=PyData.eqv d e':=by
 unfold eqW at e
 split at e
 .rename_i d e' h1 h2
  split at e
  .rename_i hc
   cases e
   rw[vab]at hc
   exact⟨d,e',rp_of r _ _ _ _ h1 qv,rp_of r _ _ _ _ h2 qu,hc.1,hc.2,rfl⟩
  .cases e
 .cases e
end
theorem zde{K:PySem.W.Frag}{m:Nat->Addr}{h:VH}{H:Hp}{v:V}{w:W}{ws:List W}(r:Rel K m h H)(q:VRep K m h.n H v w)(e:seqW h w=some ws):∃p vs,v=.ref p/\(SqL K H p vs\/SqT K H p vs)/\VReps K m h.n H vs ws:=by
 cases q<;>try cases e
 .exact⟨_,_,rfl,.inr ‹_›,‹_›⟩
 .rename_i q _;exact⟨_,_,rfl,.inl q.sq,‹_›⟩
 .rename_i i hi
  simp only[seqW]at e
  cases g:h.get i with
  |none=>rw[g]at e;cases e
  |some o=>
   rw[g]at e
   cases o with
   |dk _=>cases e
   |dt _ _=>cases e
   |ins _ _ _=>cases e
   |lst ws=>
    cases e
    obtain⟨vs,h1,h2⟩:=r.lst g
    exact⟨_,vs,rfl,.inl (SqL.of h1),h2⟩
theorem zii{K:PySem.W.Frag}{m:Nat->Addr}{n:Nat}{H:Hp}:∀{vs:List V} {ws:List W} {is:List Int},VReps K m n H vs ws->mapO intD ws=some is->vs=is.map .int
 |_,_,_,.nil,e=>by cases e;rfl
 |_,_,_,.cons (w:=w) q r,e=>by
  simp only[mapO]at e
  cases q<;>try cases e
  rename_i i _ ws _
  simp only[intD]at e
  cases z:mapO intD ws with
  |none=>rw[z]at e;cases e
  |some js=>rw[z]at e;cases e;rw[vam,zii r z]
theorem zeh{K:PySem.W.Frag}{m:Nat->Addr}{n:Nat}{H:Hp}{v:V}{w:W}{k:DK}(q:VRep K m n H v w)(e:keyD w=some k):∃b,v=.ref b/\KeyAt K H k b:=by
 unfold keyD at e
 split at e
 .rename_i ws
  cases z:mapO intD ws with
  |none=>rw[z]at e;cases e
  |some is=>
   rw[z]at e;cases e
   cases q with
   | @tup b vs _ sq rs=>
    cases rs with
    |cons q1 rs=>
     cases rs with
     |cons q2 rs=>
      cases rs;cases q2
      cases q1 with
      | @tup c us _ sq1 rs1=>
       refine⟨b,rfl,c,sq,?_⟩
       rw[<-zii rs1 z];exact sq1
 .rename_i ws i
  cases z:mapO intD ws with
  |none=>rw[z]at e;cases e
  |some is=>
   rw[z]at e;cases e
   cases q with
   | @tup b vs _ sq rs=>
    cases rs with
    |cons q1 rs=>
     cases rs with
     |cons q2 rs=>
      cases rs;cases q2
      cases q1 with
      | @tup c us _ sq1 rs1=>
       refine⟨b,rfl,c,sq,?_⟩
       rw[<-zii rs1 z];exact sq1
 .cases e
theorem dt_ok{K:PySem.W.Frag}{m:Nat->Addr}{n:Nat}{H:Hp}:∀{xs:DX} {ks:List W},mapO keyD ks=some (xs.map (·.1))->VReps K m n H (xs.map λx=>.ref x.2.1) ks->∀p∈xs,KeyAt K H p.1 p.2.1
 |[],_,_,_,p,hp=>nomatch hp
 |x::xs,ks,e,r,p,hp=>by
  rw[vam]at r
  obtain⟨w,ks,rfl,q,r⟩:∃w ks',ks=w::ks'/\VRep K m n H (.ref x.2.1) w/\VReps K m n H (xs.map λx=>.ref x.2.1) ks':=by cases r with|cons q r=>exact⟨_,_,rfl,q,r⟩
  simp only[mapO]at e
  cases z:keyD w with
  |none=>rw[z]at e;cases e
  |some k=>
   rw[z]at e
   simp only at e
   cases z2:mapO keyD ks with
   |none=>rw[z2]at e;cases e
   |some js=>
    rw[z2]at e
    simp only[vam,Option.some.injEq,List.cons.injEq]at e
    rcases va2.mp hp with rfl|hp
    .obtain⟨b,e1,e2⟩:=zeh q z
     cases e1
     rw[<-e.1];exact e2
    .exact dt_ok (by rw[z2,e.2]) r p hp
theorem dt_DT{K:PySem.W.Frag}{m:Nat->Addr}{n:Nat}{H:Hp}{a:Addr}{xs:DX}{ks:List W}(h:H a=some (dtH xs a)\/(xs=[]/\H a=some (.dK [])))(e:mapO keyD ks=some (xs.map (·.1)))(q:VReps K m n H (xs.map λx=>.ref x.2.1) ks):DT K H a xs:=
 h.imp (λz=>⟨z,dt_ok e q⟩) λ⟨z,y⟩=>⟨z,.inl y⟩
theorem zge{K:PySem.W.Frag}{m:Nat->Addr}{n:Nat}{H:Hp}:∀{xs:DX} {ks ws:List W} (k:DK),mapO keyD ks=some (xs.map (·.1))->VReps K m n H (xs.map λx=>x.2.2) ws->(findX xs k=none/\lookD ks ws k=none)\/∃p w,findX xs k=some p/\lookD ks ws k=some w/\VRep K m n H p.2 w
 |[],ks,ws,k,e,r=>by
  cases ks with
  |nil=>exact .inl ⟨rfl,by unfold lookD;rfl⟩
  |cons c ks=>
   simp only[mapO]at e
   split at e
   .split at e<;>cases e
   .cases e
 |x::xs,ks,ws,k,e,r=>by
  rw[vam]at r
  obtain⟨w,ws,rfl,q,r⟩:∃w ws',ws=w::ws'/\VRep K m n H x.2.2 w/\VReps K m n H (xs.map λx=>x.2.2) ws':=by cases r with|cons q r=>exact⟨_,_,rfl,q,r⟩
  cases ks with
  |nil=>cases e
  |cons c ks=>
   simp only[mapO]at e
   cases z:keyD c with
   |none=>rw[z]at e;cases e
   |some k'=>
    rw[z]at e
    simp only at e
    cases z2:mapO keyD ks with
    |none=>rw[z2]at e;cases e
    |some js=>
     rw[z2]at e
     simp only[vam,Option.some.injEq,List.cons.injEq]at e
     unfold lookD
     rw[z,e.1]
     by_cases y:x.1=k
     .rw[if_pos (by rw[y])]
      exact .inr ⟨x.2,w,by simp[findX,List.find?_cons,y],rfl,q⟩
     .rw[if_neg (λz=>y (Option.some.inj z))]
      have:findX (x::xs) k=findX xs k:=by simp[findX,List.find?_cons,y]
      rw[this]
      exact zge k (by rw[z2,e.2]) r
theorem zpv{K:PySem.W.Frag}{m:Nat->Addr}{h:VH}{H:Hp}(r:Rel K m h H){x y:W}{v u:V}{b:Bool}(e:inD h x y=some b)(qv:VRep K m h.n H v x)(qu:VRep K m h.n H u y) :
 ∃a c xs k,u=.ref a/\v=.ref c/\DT K H a xs/\KeyAt K H k c/\b=(findX xs k).isSome:=by
 unfold inD at e
 split at e
 .rename_i i
  split at e
  .rename_i ks ws k g hk
   cases e
   cases qu
   obtain⟨xs,p1,p2,p3,p4⟩:=r.dt g
   obtain⟨c,rfl,kk⟩:=zeh qv hk
   refine⟨m i,c,xs,k,rfl,rfl,dt_DT p1 p2 p3,kk,?_⟩
   rcases zge k p2 p4 with⟨z1,z2⟩|⟨p,w,z1,z2,_⟩<;> (rw[z1,z2];rfl)
  .cases e
 .cases e
theorem zpw{K:PySem.W.Frag}{m:Nat->Addr}{h:VH}{H:Hp}(r:Rel K m h H){x y:W}{v u:V}{b:Bool}(e:inW h x y=some b)(qv:VRep K m h.n H v x)(qu:VRep K m h.n H u y) :
 (∃p vs ds d,u=.ref p/\(SqL K H p vs\/SqT K H p vs)/\Rps K (λ_=>False) H vs ds/\Rp K (λ_=>False) H v d/\ds.all SeqAt.shaped=true/\SeqAt.shaped d=true/\b=anyEq ds d)\/inD h x y=some b:=by
 unfold inW at e
 split at e
 .rename_i ws d h1 h2
  split at e
  .rename_i ds h3
   split at e
   .rename_i hc
    cases e
    rw[vab]at hc
    obtain⟨p,vs,rfl,h4,h5⟩:=zde r qu h1
    exact .inl ⟨p,vs,ds,d,rfl,h4,zhj (rp_of r 24) h3 h5,rp_of r _ _ _ _ h2 qv,hc.1,hc.2,rfl⟩
   .cases e
  .cases e
 .exact .inr e
noncomputable def cpOf:CmpOp->Option Cp
 |.Eq=>some .eq|.NotEq=>some .ne|.Lt=>some .lt|.LtE=>some .le|.Gt=>some .gt|.GtE=>some .ge|.Is=>some .isn|.IsNot=>some .notn|.In=>some .inn|.NotIn=>some .nin
noncomputable def rC(K:PySem.W.Frag):Cp->R2
 |.eq=>rEqD K
 |.ne=>rNeD K
 |.lt=>rI0 λi j=>.bl (decide (i<j))
 |.le=>rI0 λi j=>.bl (decide (i<=j))
 |.gt=>rI0 λi j=>.bl (decide (j<i))
 |.ge=>rI0 λi j=>.bl (decide (j<=i))
 |.isn=>λx y H Q=>(y=.non/\Q (.bl (decide (x=.non))) H)\/∃c b,x=.bl c/\y=.bl b/\Q (.bl (c==b)) H
 |.notn=>λx y H Q=>(y=.non/\Q (.bl (!decide (x=.non))) H)\/∃c b,x=.bl c/\y=.bl b/\Q (.bl (!(c==b))) H
 |.inn=>λx y H Q=>rInD K false x y H Q\/rInX K false x y H Q
 |.nin=>λx y H Q=>rInD K true x y H Q\/rInX K true x y H Q
noncomputable def zch:Expr->Bool
 |.Set ..=>false
 |_=>true
theorem zij{op:CmpOp}{b:Expr}(h:zch b=true):behindInMarks op b=false:=by
 cases b<;>first|rfl|cases h
section
variable{X:Cx}{a b c e:Expr}{es:List Expr}{fa fb fc:FE}{pos:Pos}
theorem zvc:OpR X (compareOp .Is) (λx y H Q=>∃c b,x=.bl c/\y=.bl b/\Q (.bl (c==b)) H):=by
 intro pins s σ H x y v u Q I rx ry h
 obtain⟨c,b,rfl,rfl,q⟩:=h
 cases rx;cases ry
 exact wpAny_is_plain rfl (ze3 I q (by cases c<;>cases b<;>rfl))
theorem zmh:OpR X (compareOp .IsNot) (λx y H Q=>∃c b,x=.bl c/\y=.bl b/\Q (.bl (!(c==b))) H):=by
 intro pins s σ H x y v u Q I rx ry h
 obtain⟨c,b,rfl,rfl,q⟩:=h
 cases rx;cases ry
 exact wpAny_isNot_plain rfl (ze3 I q (by cases c<;>cases b<;>rfl))
theorem zfg(hu:X.A.units+65<cLine){O:CmpOp}{c:Cp}(e:cpOf O=some c):OpR X (compareOp O) (rC X.K c):=by
 cases O<;>cases e
 .exact zun (by omega)
 .exact zuo (by omega)
 .exact op_lt
 .exact op_le
 .exact op_gt
 .exact op_ge
 .exact zt9.or zvc
 .exact zqy.or zmh
 .exact(zur (by show X.A.units+1+64<cLine;omega)).or (zuz (by omega))
 .exact(zl2 (by show X.A.units+1+64<cLine;omega)).or (zma (by omega))
theorem zdy{K:PySem.W.Frag}{m:Nat->Addr}{n:Nat}{H:Hp}{v:V}{w:W}(q:VRep K m n H v w):isNon w=decide (v=.non):=by
 cases q<;>simp[isNon]
theorem zgf{K:PySem.W.Frag}(c:Cp):OpV K (rC K c) (λx y h=>.of ((cmpW c h x y).map .bl) h):=by
 intro m h H v u x y w h' Q r qv qu e k
 obtain⟨e,rfl⟩:=of_ok e
 cases z:cmpW c h' x y with
 |none=>rw[z]at e;cases e
 |some b=>
  rw[z]at e;cases e
  have fin:Q (.bl b) H:=Wants.here k r (.bl b)
  unfold cmpW at z
  split at z
  .rcases zpw r z qv qu with⟨p,vs,ds,d,h1,h2,h3,h4,h5,h6,rfl⟩|z3
   .exact .inl ⟨p,vs,ds,d,h1,h2,h3,h4,h5,h6,fin⟩
   .obtain⟨a,c,xs,dk,h1,h2,h3,h4,rfl⟩:=zpv r z3 qv qu
    exact .inr ⟨a,c,xs,dk,h1,h2,h3,h4,fin⟩
  .cases z2:inW h' x y with
   |none=>rw[z2]at z;cases z
   |some b2=>
    rw[z2]at z;cases z
    rcases zpw r z2 qv qu with⟨p,vs,ds,d,h1,h2,h3,h4,h5,h6,rfl⟩|z3
    .exact .inl ⟨p,vs,ds,d,h1,h2,h3,h4,h5,h6,fin⟩
    .obtain⟨a,c,xs,dk,h1,h2,h3,h4,rfl⟩:=zpv r z3 qv qu
     exact .inr ⟨a,c,xs,dk,h1,h2,h3,h4,fin⟩
  .obtain⟨d,e',h1,h2,h3,h4,rfl⟩:=zpu r z qv qu
   exact⟨d,e',h1,h2,h3,h4,fin⟩
  .cases z2:eqW h' x y with
   |none=>rw[z2]at z;cases z
   |some b2=>
    rw[z2]at z;cases z
    obtain⟨d,e',h1,h2,h3,h4,rfl⟩:=zpu r z2 qv qu
    exact⟨d,e',h1,h2,h3,h4,fin⟩
  .split at z
   .rename_i hn
    cases z
    have:=zdy qu
    rw[hn]at this
    refine .inl ⟨of_decide_eq_true this.symm,?_⟩
    rw[<-zdy qv];exact fin
   .unfold isB at z
    split at z
    .rename_i c b
     cases z
     cases qv;cases qu
     exact .inr ⟨_,_,rfl,rfl,fin⟩
    .cases z
  .split at z
   .rename_i hn
    cases z
    have:=zdy qu
    rw[hn]at this
    refine .inl ⟨of_decide_eq_true this.symm,?_⟩
    rw[<-zdy qv];exact fin
   .cases z2:isB x y with
    |none=>rw[z2]at z;cases z
    |some b2=>
     rw[z2]at z;cases z
     unfold isB at z2
     split at z2
     .rename_i c b
      cases z2
      cases qv;cases qu
      exact .inr ⟨_,_,rfl,rfl,fin⟩
     .cases z2
  .split at z
   .rename_i i j
    cases qv;cases qu
    cases c<;>simp only[cmpI]at z<;>cases z<;>exact⟨i,j,rfl,rfl,fin⟩
   .cases z
theorem zvd(hu:X.A.units+65<cLine){O:CmpOp}{c:Cp}(e:cpOf O=some c)(hs:zch b=true)(ha:SE X a fa)(hb:SE X b fb) :
 SE X (.Compare a [O] [b] pos) (λρ h=>(fa ρ h).bind λx h=>(fb ρ h).bind λy h=>.of ((cmpW c h x y).map .bl) h):=
 (zqz (zfg hu e) ha hb (zij hs)).imp λσ H Q q=>zgd (G:=rC X.K c) (zgf c) q
theorem zve(hu:X.A.units+65<cLine){O:CmpOp}{c:Cp}(e:cpOf O=some c)(hs:zch b=true)(ha:SE X a fa)(hb:SE X b fb) :
 ST X (.Compare a [O] [b] pos) (λρ h=>(fa ρ h).bind λx h=>(fb ρ h).bind λy h=>.of ((cmpW c h x y).map .bl) h):=
 (zq0 (zfg hu e) ha hb (zij hs)).imp λσ H Q q=>zgd (G:=rC X.K c) (zgf c) (zjj q)
theorem lm2{O O':CmpOp}{a b:Expr}(h:zch b=true):lastMarks [O,O'] [a,b]=false:=zij h
theorem zhk{K:PySem.W.Frag}{c1 c2:Cp}{σ:L2.St}{H:Hp}{Q:VK}
 (q:lft K (λρ h=>(fa ρ h).bind λx h=>(fb ρ h).bind λy h=>match cmpW c1 h x y with
   |some true=>(fc ρ h).bind λz h=>.of ((cmpW c2 h y z).map .bl) h
   |some false=>.ok (.bl false) h
   |none=>.no) σ H Q):zli (rC K c1) (rC K c2) (lft K fa) (lft K fb) (lft K fc) σ H Q:=by
 refine q.el λρ h m w h' f r e k=>?_
 refine zab e λx h1 e1 e2=>?_
 refine zab e2 λy h2 e3 e4=>?_
 refine(.mk f r e1 λv H1 m1 s1 r1 q1=>(.mk (f.stp s1) r1 e3 λu H2 m2 s2 r2 q2=>?_))
 have f2:=(f.stp s1).stp s2
 have k2:Wants K m2 h2.n H2 w h' Q:=λv' H' m' s' r' q'=>k v' H' m' ((s1.trans s2).trans s') r' q'
 cases z:cmpW c1 h2 x y with
 |none=>rw[z]at e4;cases e4
 |some b=>
  rw[z]at e4
  refine zgf c1 m2 h2 H2 v u x y (.bl b) h2 _ r2 (q1.stp s2) q2 (by show Res.of ((cmpW c1 h2 x y).map W.bl) h2=_;rw[z];rfl) λv3 H3 m3 s3 r3 q3=>?_
  cases q3
  refine⟨b,rfl,?_⟩
  cases b with
  |true=>
   refine zab e4 λz' h4 e5 e6=>?_
   rw[if_pos rfl]
   refine⟨ρ,h2,m3,z',h4,f2.stp s3,r3,e5,λv4 H4 m4 s4 r4 q4=>?_⟩
   exact zgf c2 m4 h4 H4 u v4 y z' w h' Q r4 ((q2.stp s3).stp s4) q4 e6 λv' H' m' s' r' q'=>k2 v' H' m' ((s3.trans s4).trans s') r' q'
  |false=>
   cases e4
   simp only[vak,if_false]
   exact k2 _ H3 m3 s3 r3 (.bl false)
theorem zvf(hu:X.A.units+65<cLine){O O':CmpOp}{c1 c2:Cp}(e:cpOf O=some c1)(e':cpOf O'=some c2)(hs:zch c=true)(ha:SE X a fa)(hb:SE X b fb)(hc:SE X c fc) :
 SE X (.Compare a [O,O'] [b,c] pos) (λρ h=>(fa ρ h).bind λx h=>(fb ρ h).bind λy h=>match cmpW c1 h x y with
  |some true=>(fc ρ h).bind λz h=>.of ((cmpW c2 h y z).map .bl) h
  |some false=>.ok (.bl false) h
  |none=>.no):=(zn1 (zfg hu e) (zfg hu e') ha hb hc (lm2 hs)).imp λσ H Q q=>zhk q
theorem zvg(hu:X.A.units+65<cLine){O O':CmpOp}{c1 c2:Cp}(e:cpOf O=some c1)(e':cpOf O'=some c2)(hs:zch c=true)(ha:SE X a fa)(hb:SE X b fb)(hc:SE X c fc) :
 ST X (.Compare a [O,O'] [b,c] pos) (λρ h=>(fa ρ h).bind λx h=>(fb ρ h).bind λy h=>match cmpW c1 h x y with
  |some true=>(fc ρ h).bind λz h=>.of ((cmpW c2 h y z).map .bl) h
  |some false=>.ok (.bl false) h
  |none=>.no):=(zn2 (zfg hu e) (zfg hu e') ha hb hc (lm2 hs)).imp λσ H Q q=>zhk (zjj q)
noncomputable abbrev gNot(fa:FE):FE:=λρ h=>(fa ρ h).bind λx h=>match x with|.bl b=>.ok (.bl (!b)) h|_=>.no
noncomputable abbrev gAnd(fa fb:FE):FE:=λρ h=>(fa ρ h).bind λx h=>match x with|.bl true=>fb ρ h|.bl false=>.ok (.bl false) h|_=>.no
noncomputable abbrev gOr(fa fb:FE):FE:=λρ h=>(fa ρ h).bind λx h=>match x with|.bl true=>.ok (.bl true) h|.bl false=>fb ρ h|_=>.no
noncomputable abbrev gIte(fa fb fc:FE):FE:=λρ h=>(fa ρ h).bind λx h=>match x with|.bl true=>fb ρ h|.bl false=>fc ρ h|_=>.no
variable{rest:List Expr}
theorem zvh(ha:ST X a fa):ST X (.UnaryOp .Not a pos) (gNot fa):=(ztn ha).imp λσ H Q z9=>z9.el λρ h m b h' f r e k=>by
 refine zab e λx h1 e1 e2=>?_
 cases x<;>try cases e2
 rename_i b
 exact(.mk f r e1 λH' m' s' r'=>k H' m' s' r')
theorem zvi(ha:SE X a fa):SE X (.UnaryOp .Not a pos) (gNot fa):=(ztq ha).imp λσ H Q z9=>z9.el λρ h m b h' f r e k=>by
 refine zab e λx h1 e1 e2=>?_
 cases x<;>try cases e2
 rename_i b
 exact(.mk f r e1 λv H' m' s' r' q=>by cases q;exact⟨b,rfl,k _ H' m' s' r' (.bl _)⟩)
theorem zpx{op:BoolOp}(ha:ST X a fa):SW X (.BoolOp op [a] pos) fa:=by
 cases op
 .exact zqq ha
 .exact ztl ha
theorem zvj(ha:ST X a fa)(hb:SW X (.BoolOp .And (b::rest) pos) fb):SW X (.BoolOp .And (a::b::rest) pos) (gAnd fa fb):=(ztm ha hb).imp λσ H Q z9=>z9.el λρ h m b h' f r e k=>by
 refine zab e λx h1 e1 e2=>?_
 cases x<;>try cases e2
 rename_i c
 refine(.mk f r e1 λH1 m1 s1 r1=>?_)
 cases c with
 |true=>rw[if_pos rfl];exact(.mk (f.stp s1) r1 e2 λH' m' s' r'=>k H' m' (s1.trans s') r')
 |false=>cases e2;simp only[vak,if_false];exact k H1 m1 s1 r1
theorem sw_or(ha:ST X a fa)(hb:SW X (.BoolOp .Or (b::rest) pos) fb):SW X (.BoolOp .Or (a::b::rest) pos) (gOr fa fb):=(pw_or ha hb).imp λσ H Q z9=>z9.el λρ h m b h' f r e k=>by
 refine zab e λx h1 e1 e2=>?_
 cases x<;>try cases e2
 rename_i c
 refine(.mk f r e1 λH1 m1 s1 r1=>?_)
 cases c with
 |true=>cases e2;rw[if_pos rfl];exact k H1 m1 s1 r1
 |false=>simp only[vak,if_false];exact(.mk (f.stp s1) r1 e2 λH' m' s' r'=>k H' m' (s1.trans s') r')
theorem zpy{op:BoolOp}(ha:SE X a fa):SE X (.BoolOp op [a] pos) fa:=zto ha
theorem zvk(ha:SE X a fa)(hb:SE X (.BoolOp .And (b::rest) pos) fb):SE X (.BoolOp .And (a::b::rest) pos) (gAnd fa fb):=(ztp ha hb).imp λσ H Q z9=>z9.el λρ h m w h' f r e k=>by
 refine zab e λx h1 e1 e2=>?_
 cases x<;>try cases e2
 rename_i c
 refine(.mk f r e1 λv H1 m1 s1 r1 q1=>?_)
 cases q1
 refine⟨c,rfl,?_⟩
 cases c with
 |true=>rw[if_pos rfl];exact(.mk (f.stp s1) r1 e2 λv H' m' s' r' q'=>k v H' m' (s1.trans s') r' q')
 |false=>cases e2;simp only[vak,if_false];exact k _ H1 m1 s1 r1 (.bl false)
theorem se_or(ha:SE X a fa)(hb:SE X (.BoolOp .Or (b::rest) pos) fb):SE X (.BoolOp .Or (a::b::rest) pos) (gOr fa fb):=(pe_or ha hb).imp λσ H Q z9=>z9.el λρ h m w h' f r e k=>by
 refine zab e λx h1 e1 e2=>?_
 cases x<;>try cases e2
 rename_i c
 refine(.mk f r e1 λv H1 m1 s1 r1 q1=>?_)
 cases q1
 refine⟨c,rfl,?_⟩
 cases c with
 |true=>cases e2;rw[if_pos rfl];exact k _ H1 m1 s1 r1 (.bl true)
 |false=>simp only[vak,if_false];exact(.mk (f.stp s1) r1 e2 λv H' m' s' r' q'=>k v H' m' (s1.trans s') r' q')
theorem zvl(hc:ST X c fc)(ha:SE X a fa)(hb:SE X b fb):SE X (.IfExp c a b pos) (gIte fc fa fb):=(znt hc ha hb).imp λσ H Q z9=>z9.el λρ h m w h' f r e k=>by
 refine zab e λx h1 e1 e2=>?_
 cases x<;>try cases e2
 rename_i c
 refine(.mk f r e1 λH1 m1 s1 r1=>?_)
 cases c with
 |true=>rw[if_pos rfl];exact(.mk (f.stp s1) r1 e2 λv H' m' s' r' q'=>k v H' m' (s1.trans s') r' q')
 |false=>simp only[vak,if_false];exact(.mk (f.stp s1) r1 e2 λv H' m' s' r' q'=>k v H' m' (s1.trans s') r' q')
theorem zdn{K:PySem.W.Frag}{m:Nat->Addr}{n:Nat}{H:Hp}{vs:List V}{ws:List W}(q:VReps K m n H vs ws):vs.isEmpty=ws.isEmpty:=by cases q<;>rfl
theorem zrq{K:PySem.W.Frag}{m:Nat->Addr}{h:VH}{H:Hp}{v:V}{w:W}{b:Bool}(r:Rel K m h H)(q:VRep K m h.n H v w)(e:truW h w=some b):TruV K v H b:=by
 cases q with
 |non=>cases e;rfl
 |bl x=>cases e;rfl
 |int i=>cases e;rfl
 |str x=>cases e
 |fz _ _=>cases e
 |tup sq rs=>cases e;exact .inr (.inl ⟨_,sq,by rw[zdn rs]⟩)
 | @ref i hi=>
  simp only[truW]at e
  cases g:h.get i with
  |none=>rw[g]at e;cases e
  |some o=>
   rw[g]at e
   cases o with
   |dk _=>cases e
   |dt _ _=>cases e
   |ins _ _ _=>cases e
   |lst ws=>
    cases e
    obtain⟨vs,h1,h2⟩:=r.lst g
    exact .inl ⟨vs,SqL.of h1,by rw[zdn h2]⟩
theorem zmi(ha:SE X a fa)(he:∀whole,isTrue a X.env whole=(do let v <-whole;standAt a.pos;holding [v] (truthy v))) :
 ST X a (λρ h=>(fa ρ h).bind λx h=>.of ((truW h x).map .bl) h):=(zn3 ha he).imp λσ H Q z9=>z9.el λρ h m b h' f r e k=>by
 refine zab e λx h1 e1 e2=>?_
 obtain⟨e2,rfl⟩:=of_ok e2
 cases z:truW h' x with
 |none=>rw[z]at e2;cases e2
 |some c=>
  rw[z]at e2;cases e2
  exact(.mk f r e1 λv H' m' s' r' q=>⟨b,zrq r' q z,k H' m' s' r'⟩)
theorem zvm(ha:SE X a fa):SE X (.UnaryOp .USub a pos) (λρ h=>(fa ρ h).bind λx h=>match x with|.int i=>.ok (.int (-i)) h|_=>.no):=
 (pe_un zt8 ha).imp λσ H Q q=>zps (g:=λx h=>match x with|.int i=>.ok (.int (-i)) h|_=>.no) (G:=rU λi=>.int (-i)) (λm h H v x w h' Q r q e k=>by
   cases q<;>try cases e
   rename_i i
   exact⟨i,rfl,Wants.here k r (.int _)⟩) q
end
section
variable{K:PySem.W.Frag}{m m0:Nat->Addr}{n n0:Nat}{h:VH}{H H0:Hp}
theorem Rel.adopt(r:Rel K m h H){p:Addr}{o:VO}{u u0:HO}(hp:∀i,i<h.n->m i≠p)(hu:H p=some u0)(ht:∀t,u0≠.tup t)(hf:∀o t,u0≠.frz o t)(s:Stp m0 n0 H0 m h.n H)(h0:H0 p=none)
 (ho:Stp m h.n H (λi=>if i=h.n then p else m i) (h.n+1) (upd H p u)\/True->(∀{v:V}{w:W},VRep K m h.n H v w->VRep K (λi=>if i=h.n then p else m i) (h.n+1) (upd H p u) v w)->ORep K (λi=>if i=h.n then p else m i) (h.n+1) (upd H p u) p o) :
 Stp m0 n0 H0 (λi=>if i=h.n then p else m i) (h.n+1) (upd H p u)/\Rel K (λi=>if i=h.n then p else m i) (h.new o) (upd H p u):=by
 have kt:∀b vs,H b=some (.tup vs)->upd H p u b=some (.tup vs):=λb vs q=>by rw[zae (ne_of q hu λz=>ht vs z.symm)];exact q
 have kf:∀b o t,H b=some (.frz o t)->upd H p u b=some (.frz o t):=λb o t q=>by rw[zae (ne_of q hu λz=>hf o t z.symm)];exact q
 have mv:∀{v:V}{w:W},VRep K m h.n H v w->VRep K (λi=>if i=h.n then p else m i) (h.n+1) (upd H p u) v w:=by
  intro v w q
  have st:Stp m h.n (λb=>if b=p then none else H b) (λi=>if i=h.n then p else m i) (h.n+1) (upd H p u):=by
   refine⟨Nat.le_succ _,λi hi=>by simp only[if_neg (va4 hi)],λi hi hi2=>?_,λi j hi hi2 hj=>?_,λb vs q=>?_,λb o t q=>?_,λb o _ q=>?_⟩
   .have:i=h.n:=by omega
    subst this;simp only[if_true]
   .have:i=h.n:=by omega
    subst this;simp only[if_true,if_neg (va4 hj)];exact(hp j hj).symm
   .split at q
    .cases q
    .exact kt b vs q
   .split at q
    .cases q
    .exact kf b o t q
   .split at q
    .cases q
    .rename_i z;rw[zae z];exact q
  refine VRep.stp st ?_
  have back:∀{a vs},SqT K H a vs->SqT K (λb=>if b=p then none else H b) a vs:=by
   intro a vs q
   rcases q with(q|⟨o,q⟩)|q
   .exact .inl (.inl (by simp only[if_neg (ne_of q hu λz=>ht vs z.symm)];exact q))
   .exact .inl (.inr ⟨o,by simp only[if_neg (ne_of q hu λz=>hf o _ z.symm)];exact q⟩)
   .exact .inr q
  have backf:∀{a vs},Fz K H a vs->Fz K (λb=>if b=p then none else H b) a vs:=by
   intro a vs q
   rcases q with⟨o,q⟩|q
   .exact .inl ⟨o,by simp only[if_neg (ne_of q hu λz=>hf o _ z.symm)];exact q⟩
   .exact .inr q
  exact(VRep.rec (K:=K) (m:=m) (n:=h.n) (H:=H) (motive_1:=λv w _=>VRep K m h.n (λb=>if b=p then none else H b) v w) (motive_2:=λvs ws _=>VReps K m h.n (λb=>if b=p then none else H b) vs ws)
   .non .bl .int .str (λsq _ ih=>.tup (back sq) ih) (λsq _ ih=>.fz (backf sq) ih) (λhi=>.ref hi) .nil (λ_ _ i1 i2=>.cons i1 i2) q)
 refine⟨⟨Nat.le_succ_of_le s.le,λi hi=>?_,λi hi hi2=>?_,λi j hi hi2 hj=>?_,λb vs q=>kt b vs (s.tup b vs q),λb o t q=>kf b o t (s.frz b o t q),λb o nb q=>?_⟩,⟨λi hi=>?_,λi j hi hj z=>?_,?_⟩⟩
 .have:=s.le
  simp only[if_neg (show i≠h.n by omega)];exact s.same i hi
 .by_cases e:i=h.n
  .subst e;simp only[if_true];exact h0
  .simp only[if_neg e];exact s.new i hi (by omega)
 .have:=s.le
  simp only[if_neg (show j≠h.n by omega)]
  by_cases e:i=h.n
  .subst e;simp only[if_true];exact(hp j (by omega)).symm
  .simp only[if_neg e];exact s.apart i j hi (by omega) hj
 .rw[zae (zac q h0)];exact s.keep b o nb q
 .have hi:i<h.n+1:=hi
  by_cases e:i=h.n
  .subst e;exact⟨o,zao,by simp only[if_true];exact ho (.inr trivial) mv⟩
  .have hl:i<h.n:=by omega
   obtain⟨o',h1,h2⟩:=r.obj i hl
   refine⟨o',(zad hl).trans h1,?_⟩
   simp only[if_neg e]
   have eq:upd H p u (m i)=H (m i):=zae (hp i hl)
   cases o' with
   |lst ws=>
    obtain⟨vs,q1,q2⟩:=h2
    exact⟨vs,eq.trans q1,VReps.rec (K:=K) (m:=m) (n:=h.n) (H:=H) (motive_1:=λv w _=>VRep K m h.n H v w) (motive_2:=λvs ws _=>VReps K (λi=>if i=h.n then p else m i) (h.n+1) (upd H p u) vs ws)
     .non .bl .int .str (λsq q _=>.tup sq q) (λsq q _=>.fz sq q) (λhi=>.ref hi) .nil (λq _ _ i2=>.cons (mv q) i2) q2⟩
   |dk ws=>
    obtain⟨vs,q1,q2⟩:=h2
    have go:∀{vs:List (Key×V)}{ws:List (Key×W)},KReps K m h.n H vs ws->KReps K (λi=>if i=h.n then p else m i) (h.n+1) (upd H p u) vs ws:=by
     intro vs ws q2
     induction q2 with
     |nil=>exact .nil
     |cons q _ ih=>exact .cons (mv q) ih
    exact⟨vs,q1.imp (λz=>eq.trans z) λ⟨o,z⟩=>⟨o,eq.trans z⟩,go q2⟩
   |dt ks ws=>
    obtain⟨xs,q1,q0,q2,q3⟩:=h2
    have go:∀{vs:List V}{ws:List W},VReps K m h.n H vs ws->VReps K (λi=>if i=h.n then p else m i) (h.n+1) (upd H p u) vs ws:=λq2=>
     VReps.rec (K:=K) (m:=m) (n:=h.n) (H:=H) (motive_1:=λv w _=>VRep K m h.n H v w) (motive_2:=λvs ws _=>VReps K (λi=>if i=h.n then p else m i) (h.n+1) (upd H p u) vs ws)
      .non .bl .int .str (λsq q _=>.tup sq q) (λsq q _=>.fz sq q) (λhi=>.ref hi) .nil (λq _ _ i2=>.cons (mv q) i2) q2
    exact⟨xs,q1.imp (λz=>eq.trans z) λ⟨o,z⟩=>⟨o,eq.trans z⟩,q0,go q2,go q3⟩
   |ins C xs ws=>
    obtain⟨dx,vs,q1,q0,q2⟩:=h2
    have go:∀{vs:List V}{ws:List W},VReps K m h.n H vs ws->VReps K (λi=>if i=h.n then p else m i) (h.n+1) (upd H p u) vs ws:=λq2=>
     VReps.rec (K:=K) (m:=m) (n:=h.n) (H:=H) (motive_1:=λv w _=>VRep K m h.n H v w) (motive_2:=λvs ws _=>VReps K (λi=>if i=h.n then p else m i) (h.n+1) (upd H p u) vs ws)
      .non .bl .int .str (λsq q _=>.tup sq q) (λsq q _=>.fz sq q) (λhi=>.ref hi) .nil (λq _ _ i2=>.cons (mv q) i2) q2
    exact⟨dx,vs,eq.trans q1,q0,go q2⟩
 .have hi:i<h.n+1:=hi
  have hj:j<h.n+1:=hj
  by_cases e:i=h.n
  .by_cases e2:j=h.n
   .omega
   .simp only[if_pos e,if_neg e2]at z
    exact absurd z.symm (hp j (by omega))
  .by_cases e2:j=h.n
   .simp only[if_neg e,if_pos e2]at z
    exact absurd z (hp i (by omega))
   .simp only[if_neg e,if_neg e2]at z
    exact r.inj i j (by omega) (by omega) z
 .show(o::h.os).length=h.n+1
  rw[vah,r.len]
theorem VReps.map{m':Nat->Addr}{n':Nat}{H':Hp}(mv:∀{v:V} {w:W},VRep K m n H v w->VRep K m' n' H' v w):∀{vs:List V} {ws:List W},VReps K m n H vs ws->VReps K m' n' H' vs ws
 |_,_,.nil=>.nil
 |_,_,.cons q r=>.cons (mv q) (VReps.map mv r)
theorem KReps.map{m':Nat->Addr}{n':Nat}{H':Hp}(mv:∀{v:V} {w:W},VRep K m n H v w->VRep K m' n' H' v w):∀{vs:List (Key×V)} {ws:List (Key×W)},KReps K m n H vs ws->KReps K m' n' H' vs ws
 |_,_,.nil=>.nil
 |_,_,.cons q r=>.cons (mv q) (KReps.map mv r)
theorem KReps.look(k:Key):∀{vs:List (Key×V)} {ws:List (Key×W)},KReps K m n H vs ws->(valV vs k=none/\lookK ws k=none)\/∃v w,valV vs k=some v/\lookK ws k=some w/\VRep K m n H v w
 |_,_,.nil=>.inl ⟨rfl,rfl⟩
 |_,_,.cons (k:=k') (v:=v) (w:=w) q r=>by
  by_cases e:k'=k
  .refine .inr ⟨v,w,zgb (p:=(k',v)) e,?_,q⟩
   unfold lookK;rw[List.find?_cons];simp[e]
  .rcases KReps.look k r with⟨a,b⟩|⟨v',w',a,b,c⟩
   .refine .inl ⟨(zdu (p:=(k',v)) e).trans a,?_⟩
    unfold lookK at b ⊢;rw[List.find?_cons];simp only[va3 e];exact b
   .refine .inr ⟨v',w',(zdu (p:=(k',v)) e).trans a,?_,c⟩
    unfold lookK at b ⊢;rw[List.find?_cons];simp only[va3 e];exact b
theorem KReps.any(k:Key):∀{vs:List (Key×V)} {ws:List (Key×W)},KReps K m n H vs ws->(vs.any λkv=>decide (kv.1=k))=(ws.any λkv=>decide (kv.1=k))
 |_,_,.nil=>rfl
 |_,_,.cons q r=>by rw[List.any_cons,List.any_cons,KReps.any k r]
theorem KReps.repl{v:V}{w:W}(q:VRep K m n H v w)(k:Key):∀{vs:List (Key×V)} {ws:List (Key×W)},KReps K m n H vs ws->KReps K m n H (vs.map λkv=>if kv.1=k then(kv.1,v)else kv) (ws.map λkv=>if kv.1=k then(kv.1,w)else kv)
 |_,_,.nil=>.nil
 |_,_,.cons (k:=k') p r=>by
  rw[vam,vam]
  by_cases e:k'=k
  .simp only[if_pos e];exact .cons q (KReps.repl q k r)
  .simp only[if_neg e];exact .cons p (KReps.repl q k r)
theorem KReps.snoc{v:V}{w:W}(q:VRep K m n H v w)(k:Key):∀{vs:List (Key×V)} {ws:List (Key×W)},KReps K m n H vs ws->KReps K m n H (vs++[(k,v)]) (ws++[(k,w)])
 |_,_,.nil=>.cons q .nil
 |_,_,.cons p r=>.cons p (KReps.snoc q k r)
theorem KReps.put{v:V}{w:W}(q:VRep K m n H v w)(k:Key){vs:List (Key×V)}{ws:List (Key×W)}(r:KReps K m n H vs ws):KReps K m n H (putK vs k v) (putKW ws k w):=by
 unfold putK putKW
 rw[r.any k]
 split
 .exact r.repl q k
 .exact r.snoc q k
theorem KReps.merge{vs:List (Key×V)}{ws:List (Key×W)}(q:KReps K m n H vs ws):∀{va:List (Key×V)} {wa:List (Key×W)},KReps K m n H va wa->KReps K m n H (zdl va vs) (zji wa ws):=by
 induction q with
 |nil=>exact λa=>a
 |cons q r ih=>exact λa=>ih (a.put q _)
theorem KReps.length:∀{vs:List (Key×V)} {ws:List (Key×W)},KReps K m n H vs ws->vs.length=ws.length
 |_,_,.nil=>rfl
 |_,_,.cons _ r=>by rw[vah,vah,KReps.length r]
theorem zrr{v:V}{w:W}{k:Key}(q:VRep K m n H v w)(e:keyW w=some k):v=kV k:=by
 cases q<;>cases e<;>rfl
theorem zgg{vs:List V}{ws:List W}{i:Int}{w:W}(q:VReps K m n H vs ws)(e:atI ws i=some w):∃v,atI vs i=some v/\VRep K m n H v w:=by
 unfold atI at e ⊢
 rw[q.length]
 cases z:ixN ws.length i with
 |none=>rw[z]at e;cases e
 |some j=>
  rw[z]at e
  exact q.get e
end
noncomputable def rIdx(K:PySem.W.Frag):R2:=λx y H Q=>rIxL K x y H Q\/rIxT K x y H Q\/(∃a v,x=.ref a/\DGet H a y (some v)/\Q v H)\/rIxX K x y H Q
section
variable{X:Cx}{a b c e o:Expr}{es:List Expr}{fa fb fc fo:FE}{pos:Pos}
theorem zrs(hu:X.A.units+1<cLine):IxR X (λx y H Q=>∃a v,x=.ref a/\DGet H a y (some v)/\Q v H):=by
 intro value slice pins s σ H x y v u Q I rx ry q hs
 obtain⟨a,v',rfl,g,q⟩:=q
 obtain rfl:v=Value.ref a:=rx
 exact tail_any (zif I g) PySem.F.slot_dict_getitem.lookup (zlz hu I g ry λw' s3 I3 rw'=>⟨v',H,I3,rw',q⟩) hs
theorem ix_ok(hu:X.A.units+2<cLine):IxR X (rIdx X.K):=zra.or (zuh.or ((zrs (by omega)).or (ix_dt hu)))
theorem zrt{K:PySem.W.Frag}:OpV K (rIdx K) (λx y h=>.of (idxW h x y) h):=by
 intro m h H v u x y w h' Q r qv qu e0 k
 obtain⟨e,e1⟩:=of_ok e0
 clear e0
 subst e1
 unfold idxW at e
 split at e
 .cases qv with
  |tup sq rs=>
   cases qu
   obtain⟨v',h1,h2⟩:=zgg rs e
   exact .inr (.inl ⟨_,_,_,v',rfl,rfl,sq,h1,Wants.here k r h2⟩)
 .cases qv with
  |fz sq rs=>
   cases qu
   obtain⟨v',h1,h2⟩:=zgg rs e
   exact .inl ⟨_,_,_,v',rfl,rfl,sq.sq,h1,Wants.here k r h2⟩
 .rename_i i j
  cases qv;cases qu
  cases g:h'.get i with
  |none=>rw[g]at e;cases e
  |some ob=>
   rw[g]at e
   cases ob with
   |lst ws=>
    obtain⟨vs,p1,p2⟩:=r.lst g
    obtain⟨v',h1,h2⟩:=zgg p2 e
    exact .inl ⟨_,_,_,v',rfl,rfl,SqL.of p1,h1,Wants.here k r h2⟩
   |dk ws=>
    have e:lookK ws (.inl j)=some w:=e
    obtain⟨vs,p1,p2⟩:=r.dk g
    rcases p2.look (.inl j)with⟨_,z⟩|⟨v',w',z1,z2,z3⟩
    .rw[z]at e;cases e
    .rw[z2]at e;cases e
     exact .inr (.inr (.inl ⟨_,v',rfl,by rw[<-z1];exact .inl ⟨vs,.inl j,p1,rfl,rfl⟩,Wants.here k r z3⟩))
   |dt _ _=>cases e
   |ins _ _ _=>cases e
 .rename_i i j
  cases qv;cases qu
  cases g:h'.get i with
  |none=>rw[g]at e;cases e
  |some ob=>
   rw[g]at e
   cases ob with
   |lst ws=>cases e
   |dk ws=>
    have e:lookK ws (.inr j)=some w:=e
    obtain⟨vs,p1,p2⟩:=r.dk g
    rcases p2.look (.inr j)with⟨_,z⟩|⟨v',w',z1,z2,z3⟩
    .rw[z]at e;cases e
    .rw[z2]at e;cases e
     exact .inr (.inr (.inl ⟨_,v',rfl,by rw[<-z1];exact .inl ⟨vs,.inr j,p1,rfl,rfl⟩,Wants.here k r z3⟩))
   |dt _ _=>cases e
   |ins _ _ _=>cases e
 .rename_i i _ _
  cases qv
  unfold idxD at e
  split at e
  .rename_i ks ws dk g hk
   obtain⟨xs,p1,p2,p3,p4⟩:=r.dt g
   obtain⟨c,rfl,kk⟩:=zeh qu hk
   rcases zge dk p2 p4 with⟨_,z2⟩|⟨p,w',z1,z2,z3⟩
   .rw[z2]at e;cases e
   .rw[z2]at e;cases e
    exact .inr (.inr (.inr ⟨_,c,xs,dk,p,rfl,rfl,dt_DT p1 p2 p3,kk,z1,Wants.here k r z3⟩))
  .cases e
 .cases e
theorem zvn(hu:X.A.units+2<cLine)(ha:SE X a fa)(hb:SE X b fb)(hs:zic b):SE X (.Subscript a b pos) (λρ h=>(fa ρ h).bind λx h=>(fb ρ h).bind λy h=>.of (idxW h x y) h):=
 (pe_ix (ix_ok hu) ha hb hs).imp λσ H Q q=>zgd (G:=rIdx X.K) zrt q
noncomputable def lftO(K:PySem.W.Frag)(b:Bool)(f:FE):TO:=λσ H Q=>∃ρ h m w o h',Fr K m h.n H σ ρ/\Rel K m h H/\f ρ h=.ok w h'/\partW b w=some o/\∀H' m',Stp m h.n H m' h'.n H'->Rel K m' h' H'->Q o H'
theorem lftO.el{K:PySem.W.Frag}{σ:L2.St}{H:Hp}{P:Prop}{b:Bool}{fa:FE}{Q:Option Int->Hp->Prop}(q:lftO K b fa σ H Q)(k:∀ρ h m w o h',Fr K m h.n H σ ρ->Rel K m h H->fa ρ h=.ok w h'->partW b w=some o->(∀H' m',Stp m h.n H m' h'.n H'->Rel K m' h' H'->Q o H')->P):P:=by
 obtain⟨ρ,h,m,w,o,h',f,r,e,ep,k'⟩:=q
 exact k ρ h m w o h' f r e ep k'
theorem lftO.mk{K:PySem.W.Frag}{σ:L2.St}{H:Hp}{m:Nat->Addr}{ρ:En}{h h':VH}{w:W}{o:Option Int}{b:Bool}{fa:FE}{Q:Option Int->Hp->Prop}(f:Fr K m h.n H σ ρ)(r:Rel K m h H)(e:fa ρ h=.ok w h')(ep:partW b w=some o)(k:∀H' m',Stp m h.n H m' h'.n H'->Rel K m' h' H'->Q o H'):lftO K b fa σ H Q:=⟨ρ,h,m,w,o,h',f,r,e,ep,k⟩
theorem zru{w:W}:PO X none (lftO X.K false (λ_ h=>.ok w h)):=λpins s σ H Q I z9=>z9.el λρ h m w o h' f r e ep k=>by
 cases e
 have:o=none:=by
  unfold partW at ep
  cases ep;rfl
 subst this
 exact zq7 pins s σ H Q I (k H m .refl r)
theorem zrv(ha:SE X e fa):PO X (some e) (lftO X.K true fa):=λpins s σ H Q I z9=>z9.el λρ h m w o h' f r e ep k=>by
 refine zq8 ha pins s σ H Q I (.mk f r e λv H' m' s' r' q=>?_)
 cases q<;>cases ep
 exact⟨_,rfl,k H' m' s' r'⟩
theorem zjl{K:PySem.W.Frag}{m:Nat->Addr}{n:Nat}{H:Hp}{vs:List V}{ws:List W}(q:VReps K m n H vs ws)(lo hi:Option Int):VReps K m n H (cutV vs lo hi) (cutW ws lo hi):=by
 unfold cutV cutW
 rw[q.length]
 exact(q.drop _).take _
theorem zkx{ws:List W}{lo hi:Option Int}(h:HT.sIx ws.length 0 lo=0/\HT.sIx ws.length ws.length hi=ws.length):cutW ws lo hi=ws:=by
 unfold cutW
 rw[h.1,h.2]
 simp
theorem zvo{lo hi:Option Expr}{fl fh:FE}{p2:Pos}{bl bh:Bool}(ha:SE X a fa)(hl:PO X lo (lftO X.K bl fl))(hh:PO X hi (lftO X.K bh fh)) :
 SE X (.Subscript a (.Slice lo hi none p2) pos) (λρ h=>(fa ρ h).bind λx h=>(fl ρ h).bind λl h=>(fh ρ h).bind λu h=>match partW bl l,partW bh u with
 |some l,some u=>slcW x l u h
 |_,_=>.no):=
 (zoa zus ha hl hh).imp λσ H Q z9=>z9.el λρ h m w h' f r e k=>by
   refine zab e λx h1 e1 e2=>?_
   refine zab e2 λl h2 e3 e4=>?_
   refine zab e4 λu h3 e5 e6=>?_
   split at e6
   .rename_i l' u' pl pu
    refine(.mk f r e1 λv H1 m1 s1 r1 q1=>(.mk (f.stp s1) r1 e3 pl λH2 m2 s2 r2=>(.mk ((f.stp s1).stp s2) r2 e5 pu λH3 m3 s3 r3=>?_)))
    have q3:=(q1.stp s2).stp s3
    have kk:Wants X.K m3 h3.n H3 w h' Q:=λv' H' m' s' r' q'=>k v' H' m' (((s1.trans s2).trans s3).trans s') r' q'
    unfold slcW at e6
    split at e6
    .rename_i ws
     cases e6
     cases q3 with
     | @tup a vs _ sq rs=>
      by_cases hw:HT.sIx vs.length 0 l'=0/\HT.sIx vs.length vs.length u'=vs.length
      .refine .inl (.inr ⟨_,_,rfl,sq,hw,?_⟩)
       have hw':=hw
       rw[rs.length]at hw'
       rw[zkx hw']at kk
       exact Wants.here kk r3 (.tup sq rs)
      .exact .inl (.inl ⟨_,_,rfl,sq,hw,λp hp=>Wants.tuple kk r3 (zjl rs l' u') hp⟩)
    .rename_i i
     cases q3
     cases g:h3.get i with
     |none=>rw[g]at e6;cases e6
     |some ob=>
      rw[g]at e6
      cases ob with
      |lst ws=>
       cases e6
       obtain⟨vs,p1,p2⟩:=r3.lst g
       exact .inr ⟨_,_,rfl,SqL.of p1,λp hp=>Wants.list kk r3 (zjl p2 l' u') hp⟩
      |dk ws=>cases e6
      |dt _ _=>cases e6
      |ins _ _ _=>cases e6
    .cases e6
   .cases e6
end
noncomputable def zaw:Expr->Bool
 |.Starred ..=>false
 |_=>true
theorem zah{e:Expr}{es:List Expr}{env:Env}(h:zaw e=true):starEach (e::es) env=(false,eval e env)::starEach es env:=by
 cases e<;>first|rfl|cases h
theorem zbf{pos:Pos}{env:Env}:∀{es:List Expr},es.all zaw=true->(backTo pos (starEach es env)).any (·.1)=false
 |[],_=>rfl
 |e::es,h=>by
  rw[List.all_cons,vab]at h
  rw[zah h.1]
  show(false|| (backTo pos (starEach es env)).any (·.1))=false
  rw[zbf h.2];rfl
noncomputable abbrev aNil:FE:=λ_ h=>.ok (.tup []) h
noncomputable abbrev aCons(fa fb:FE):FE:=λρ h=>(fa ρ h).bind λx h=>(fb ρ h).bind λy h=>match y with|.tup ys=>.ok (.tup (x::ys)) h|_=>.no
section
variable{X:Cx}{a b c e o:Expr}{es:List Expr}{fa fb fc fo:FE}{pos p:Pos}{x:Str}
noncomputable abbrev gArg(fa:FE)(g:List W->VH->Res W):FE:=λρ h=>(fa ρ h).bind λy h=>match y with|.tup ys=>g ys h|_=>.no
noncomputable def CallV(K:PySem.W.Frag)(r:List V->Hp->VK->Prop)(g:List W->VH->Res W):Prop:=∀(m:Nat->Addr) (h:VH) (H:Hp) (vs:List V) (xs:List W) (w:W) (h':VH) (Q:VK),Rel K m h H->VReps K m h.n H vs xs->g xs h=.ok w h'->Wants K m h.n H w h' Q->r vs H Q
theorem zdz{id:String}{r:List V->Hp->VK->Prop}{g:List W->VH->Res W}(hc:CallR X (.builtin id) r)(hv:CallV X.K r g)(hg:Gl X x)(hm:X.mg x=none)(hb:bootBuiltins x=some (.builtin id))(ha:SA X (e::es) fa)(hs:(e::es).all zaw=true)
 (hn:x≠"__name__") (hdb:(x==("__debug__" : Str))=false):SE X (.Call (.Name x p) (e::es) [] pos) (gArg fa g):=by
 rw[List.all_cons,vab]at hs
 exact(zjb hc hg hm hb ha hn hdb (zah hs.1) (zbf hs.2)).imp λσ H Q q=>zbs hv q
theorem zei{T:String}{r:List V->Hp->VK->Prop}{g:List W->VH->Res W}(hc:CallR X (.type T) r)(hv:CallV X.K r g)(hg:Gl X x)(hm:X.mg x=none)(hb:bootBuiltins x=some (.type T))(ha:SA X (e::es) fa)(hs:(e::es).all zaw=true)
 (hn:x≠"__name__") (hdb:(x==("__debug__" : Str))=false):SE X (.Call (.Name x p) (e::es) [] pos) (gArg fa g):=by
 rw[List.all_cons,vab]at hs
 exact(zls hc hg hm hb ha hn hdb (zah hs.1) (zbf hs.2)).imp λσ H Q q=>zbs hv q
theorem reps1{K:PySem.W.Frag}{m:Nat->Addr}{n:Nat}{H:Hp}{vs:List V}{w:W}(q:VReps K m n H vs [w]):∃v,vs=[v]/\VRep K m n H v w:=by
 cases q with|cons q r=>cases r;exact⟨_,rfl,q⟩
theorem zvp{K:PySem.W.Frag}:CallV K (λxs H Q=>∃p ys,xs=[.ref p]/\(SqL K H p ys\/SqT K H p ys)/\Q (.int ys.length) H) lenW:=by
 intro m h H vs xs w h' Q r q e k
 unfold lenW at e
 split at e<;>try cases e
 rename_i x
 obtain⟨v,rfl,q1⟩:=reps1 q
 obtain⟨e,rfl⟩:=of_ok e
 cases z:seqW h' x with
 |none=>rw[z]at e;cases e
 |some ws=>
  rw[z]at e;cases e
  obtain⟨p,us,rfl,h1,h2⟩:=zde r q1 z
  exact⟨p,us,rfl,h1,by rw[h2.length];exact Wants.here k r (.int _)⟩
theorem zrw{K:PySem.W.Frag}:CallV K (λxs H Q=>∃p ys,xs=[.ref p]/\(SqL K H p ys\/SqT K H p ys)/\∀l,H l=none->Q (.ref l) (upd H l (.lst ys))) listW:=by
 intro m h H vs xs w h' Q r q e k
 unfold listW at e
 split at e<;>try cases e
 rename_i x
 obtain⟨v,rfl,q1⟩:=reps1 q
 cases z:seqW h x with
 |none=>rw[z]at e;cases e
 |some ws=>
  rw[z]at e;cases e
  obtain⟨p,us,rfl,h1,h2⟩:=zde r q1 z
  exact⟨p,us,rfl,h1,λl hl=>Wants.list k r h2 hl⟩
theorem zop{K:PySem.W.Frag}:CallV K (λxs H Q=>∃p ys,xs=[.ref p]/\((SqL K H p ys/\∀l,H l=none->Q (.ref l) (upd H l (.tup ys)))\/(SqT K H p ys/\Q (.ref p) H))) zee:=by
 intro m h H vs xs w h' Q r q e k
 unfold zee at e
 split at e<;>try cases e
 rename_i x
 obtain⟨v,rfl,q1⟩:=reps1 q
 obtain⟨e,rfl⟩:=of_ok e
 cases z:seqW h' x with
 |none=>rw[z]at e;cases e
 |some ws=>
  rw[z]at e;cases e
  obtain⟨p,us,rfl,h1,h2⟩:=zde r q1 z
  rcases h1 with h1|h1
  .exact⟨p,us,rfl,.inl ⟨h1,λl hl=>Wants.tuple k r h2 hl⟩⟩
  .exact⟨p,us,rfl,.inr ⟨h1,Wants.here k r (.tup h1 h2)⟩⟩
theorem zvq{K:PySem.W.Frag}:CallV K (λxs H Q=>(∃i,xs=[.int i]/\Q (.int i) H)\/∃k,xs=[.bl k]/\Q (.int (if k then 1 else 0)) H) intW:=by
 intro m h H vs xs w h' Q r q e k
 unfold intW at e
 split at e<;>try cases e
 .obtain⟨v,rfl,q1⟩:=reps1 q
  cases q1
  exact .inl ⟨_,rfl,Wants.here k r (.int _)⟩
 .obtain⟨v,rfl,q1⟩:=reps1 q
  cases q1
  exact .inr ⟨_,rfl,Wants.here k r (.int _)⟩
theorem zvr{K:PySem.W.Frag}:CallV K (λxs H Q=>∃i,xs=[.int i]/\Q (.int (if i<0 then -i else i)) H) absW:=by
 intro m h H vs xs w h' Q r q e k
 unfold absW at e
 split at e<;>try cases e
 obtain⟨v,rfl,q1⟩:=reps1 q
 cases q1
 exact⟨_,rfl,Wants.here k r (.int _)⟩
theorem reps2{K:PySem.W.Frag}{m:Nat->Addr}{n:Nat}{H:Hp}{vs:List V}{w z:W}(q:VReps K m n H vs [w,z]):∃v u,vs=[v,u]/\VRep K m n H v w/\VRep K m n H u z:=by
 cases q with|cons q r=>obtain⟨u,rfl,h⟩:=reps1 r;exact⟨_,_,rfl,q,h⟩
theorem zvs{K:PySem.W.Frag}:CallV K (λxs H Q=>∃i j,xs=[.int i,.int j]/\Q (.int (if j<i then j else i)) H) minW:=by
 intro m h H vs xs w h' Q r q e k
 unfold minW at e
 split at e<;>try cases e
 obtain⟨v,u,rfl,q1,q2⟩:=reps2 q
 cases q1;cases q2
 exact⟨_,_,rfl,Wants.here k r (.int _)⟩
theorem zjm{K:PySem.W.Frag}{m:Nat->Addr}{n:Nat}{H:Hp}:∀{vs:List V} {ws:List W} {bs:List Bool},VReps K m n H vs ws->mapO blW ws=some bs->vs=bs.map .bl
 |_,_,bs,.nil,e=>by cases e;rfl
 |_,_,bs,.cons (w:=w) (ws:=ws) q r,e=>by
  unfold mapO at e
  cases z:blW w with
  |none=>rw[z]at e;cases e
  |some b=>
   rw[z]at e
   cases z2:mapO blW ws with
   |none=>rw[z2]at e;cases e
   |some cs=>
    rw[z2]at e;cases e
    unfold blW at z
    split at z<;>cases z
    cases q
    rw[zjm r z2];rfl
theorem zvt{K:PySem.W.Frag}:CallV K (λxs H Q=>∃(p:Addr) (bs:List Bool),xs=[.ref p]/\SqL K H p (bs.map .bl)/\Q (.bl (bs.all id)) H) allW:=by
 intro m h H vs xs w h' Q r q e k
 unfold allW at e
 split at e<;>try cases e
 rename_i i
 split at e<;>try cases e
 rename_i ws g
 obtain⟨v,rfl,q1⟩:=reps1 q
 obtain⟨e,rfl⟩:=of_ok e
 cases z:mapO blW ws with
 |none=>rw[z]at e;cases e
 |some bs=>
  rw[z]at e;cases e
  cases q1
  obtain⟨us,p1,p2⟩:=r.lst g
  refine⟨_,bs,rfl,?_,Wants.here k r (.bl _)⟩
  rw[<-zjm p2 z]
  exact .inl (.inl p1)
noncomputable def tyN:Ty->String
 |.int=>"int" |.bool=>"bool" |.tuple=>"tuple" |.list=>"list" |.str=>"str" |.dict=>"dict"
noncomputable def rIsi(K:PySem.W.Frag)(n:String):List V->Hp->VK->Prop:=λxs H Q=>∃x b,xs=[x,.ty n]/\((∃t,TyOf K H x t/\PySem.W.kitOne K t (.type n)=some b)\/(∃a vs,x=.ref a/\SqT K H a vs/\PySem.W.kitOne K (.type "tuple") (.type n)=some b)\/∃a kvs,x=.ref a/\Rd H a (.dK kvs)/\PySem.W.kitOne K (.type "dict") (.type n)=some b)/\Q (.bl b) H
theorem zoq(n:String):CallR X (.builtin "isinstance") (rIsi X.K n):=by
 intro pins s σ H xs us Q I r h
 obtain⟨x,b,rfl,hi,q⟩:=h
 obtain⟨u,u2,rfl,rx,rc⟩:=vals2 r
 obtain rfl:u2=Value.type n:=rc
 rcases hi with⟨t,ty,e⟩|⟨a,vs,rfl,sq,e⟩|⟨a,kvs,rfl,rd,e⟩
 .exact zln I rx ty e λtk=>⟨.bl b,H,I.tok _,rfl,q⟩
 .obtain rfl:u=Value.ref a:=rx
  obtain⟨its,_,p,_⟩:=I.tuple sq
  obtain⟨o,h1,h2,_⟩:=p
  exact PySem.W.kia_one PySem.W.kitx_tuple I.kIn ⟨o,h1,h2⟩ e (λz=>nomatch z) λtk=>⟨.bl b,H,I.tok _,rfl,q⟩
 .obtain rfl:u=Value.ref a:=rx
  obtain⟨_,_,_,_,o,_,_,h1,h2,_⟩:=dk_rd I.hok rd
  exact PySem.W.kia_one PySem.W.kitx_dict I.kIn ⟨o,h1,h2.1⟩ e (λz=>nomatch z) λtk=>⟨.bl b,H,I.tok _,rfl,q⟩
theorem zvu{K:PySem.W.Frag}(t:Ty){m:Nat->Addr}{h:VH}{H:Hp}{v:V}{x:W}{b:Bool}(r:Rel K m h H)(q:VRep K m h.n H v x)(e:tyIs t h x=some b) :
 (∃t',TyOf K H v t'/\PySem.W.kitOne K t' (.type (tyN t))=some b)\/(∃a vs,v=.ref a/\SqT K H a vs/\PySem.W.kitOne K (.type "tuple") (.type (tyN t))=some b)\/∃a kvs,v=.ref a/\Rd H a (.dK kvs)/\PySem.W.kitOne K (.type "dict") (.type (tyN t))=some b:=by
 cases q with
 |non=>cases e;refine .inl ⟨_,.non,?_⟩;cases t<;>rfl
 |bl x=>cases e;refine .inl ⟨_,.bl x,?_⟩;cases t<;>rfl
 |int x=>cases e;refine .inl ⟨_,.int x,?_⟩;cases t<;>rfl
 |str x=>cases e;refine .inl ⟨_,.str x,?_⟩;cases t<;>rfl
 |tup sq rs=>cases e;refine .inr (.inl ⟨_,_,rfl,sq,?_⟩);cases t<;>rfl
 |fz _ _=>cases e
 | @ref i hi=>
  simp only[tyIs]at e
  cases g:h.get i with
  |none=>rw[g]at e;cases e
  |some o=>
   rw[g]at e
   cases o with
   |lst ws=>
    cases e
    obtain⟨vs,h1,h2⟩:=r.lst g
    refine .inl ⟨_,.lst h1,?_⟩;cases t<;>rfl
   |dk ws=>
    cases e
    obtain⟨vs,h1,h2⟩:=r.dk g
    refine .inr (.inr ⟨_,_,rfl,h1,?_⟩);cases t<;>rfl
   |dt _ _=>cases e
   |ins _ _ _=>cases e
theorem zvv(t:Ty){T:Str}{p2:Pos}(ha:SE X e fa)(hs:zaw e=true)(hg:Gl X "isinstance")(hm:X.mg "isinstance" = none)(hgT:Gl X T)(hmT:X.mg T=none)(hbT:bootBuiltins T=some (.type (tyN t)))(hn:T≠"__name__")(hd:(T==("__debug__" : Str))=false) :
 SE X (.Call (.Name "isinstance" p) [e,.Name T p2] [] pos) (λρ h=>(fa ρ h).bind λx h=>.of ((tyIs t h x).map .bl) h):=by
 have hT:PE X (.Name T p2) (tC (.ty (tyN t))):=zqp hgT hmT hbT rfl hn hd
 refine(zjb (zoq (tyN t)) hg hm PyProof.Rows.boot_isinstance (zd8 ha (zd8 hT zi9) (zah hs)) (by decide) (by decide) (zah hs) rfl).imp λσ H Q q=>?_
 refine zps (g:=λx h=>.of ((tyIs t h x).map .bl) h) (G:=λv H1 Q=>rIsi X.K (tyN t) [v,.ty (tyN t)] H1 Q) (λm h H v x w h' Q r q e k=>?_) q
 obtain⟨e,rfl⟩:=of_ok e
 cases z:tyIs t h' x with
 |none=>rw[z]at e;cases e
 |some b=>
  rw[z]at e;cases e
  exact⟨v,b,rfl,zvu t r q z,Wants.here k r (.bl b)⟩
noncomputable def zej:Expr->Bool
 |.Name .. |.Subscript ..=>true
 |_=>false
theorem zik{o:Expr}{m:Str}{env:Env}(h:zej o=true):attributeBase o m env (eval o env)=eval o env:=by
 cases o<;>first|rfl|cases h
noncomputable abbrev gMt(m:Mt)(fo fa:FE):FE:=λρ h=>(fo ρ h).bind λx h=>if zhg m h x then(fa ρ h).bind λy h=>match y with|.tup ys=>mtW m x ys h|_=>.no else .no
theorem zmj{apos:Pos}(ho:SE X o fo)(he:SE X e fa)(hb:zej o=true)(hs:zaw e=true)(hl:(apos.endLine==pos.line)=true) :
 SE X (.Call (.Attribute o "append" apos) [e] [] pos) (gMt .append fo (aCons fa aNil)):=by
 refine(pe_bm (X:=X) PySem.F.plainAttrs_list PySem.F.slot_list_append PySem.F.type_list_append zhc ho (zd8 he zi9 (zah hs)) (zik hb) ?_ hl (zah hs) rfl).imp λσ H Q z9=>z9.el λρ h m w h' f r e k=>?_
 .rw[zah hs];rfl
 .refine zab e λx h1 e1 e2=>?_
  split at e2
  .rename_i hk
   refine zab e2 λy h2 e3 e4=>?_
   refine zab e3 λz h3 e5 e6=>?_
   cases e6
   refine(.mk f r e1 λv H1 m1 s1 r1 q1=>?_)
   cases x<;>try cases hk
   rename_i i
   simp only[zhg]at hk
   cases g:h1.get i with
   |none=>rw[g]at hk;cases hk
   |some ob=>
    rw[g]at hk
    cases ob with
    |dk _=>cases hk
    |dt _ _=>cases hk
    |ins _ _ _=>cases hk
    |lst ws0=>
     cases q1
     obtain⟨vs0,p1,_⟩:=r1.lst g
     refine⟨.inl ⟨rfl,vs0,SqL.of p1⟩,ρ,h1,m1,z,h2,f.stp s1,r1,e5,λv2 H2 m2 s2 r2 q2=>?_⟩
     simp only[mtW]at e4
     cases g2:h2.get i with
     |none=>rw[g2]at e4;cases e4
     |some ob=>
      rw[g2]at e4
      cases ob with
      |dk _=>cases e4
      |dt _ _=>cases e4
      |ins _ _ _=>cases e4
      |lst ws=>
       simp only at e4
       split at e4
       .rename_i hz
        cases e4
        obtain⟨vs,p2,p3⟩:=r2.lst g2
        have hmi:m1 i=m2 i:=(s2.same i (zaj g)).symm
        refine⟨m1 i,vs,v2,rfl,rfl,by rw[hmi];exact p2,by rw[p3.length];exact zal.mp hz,?_⟩
        obtain⟨st,r'⟩:=r2.write (i:=i) (o:=.lst (ws++[z])) (u:=.lst (vs++[v2])) (zaj g2) p2 (λ_ z=>nomatch z) (λ_ _ z=>nomatch z) λst=>⟨vs++[v2],zak,(p3.stp st).append (.cons (q2.stp st) .nil)⟩
        rw[hmi]
        exact k .non _ m2 ((s1.trans s2).trans st) r' .non
       .cases e4
  .cases e2
end
section
variable{K:PySem.W.Frag}{m m' m1:Nat->Addr}{n n' n1:Nat}{h h':VH}{H H' H1:Hp}
mutual
theorem VRep.mono(hn:n<=n')(hm:∀i,i<n->m' i=m i)(kt:∀b vs,H b=some (.tup vs)->H' b=some (.tup vs))(kf:∀b o u,H b=some (.frz o u)->H' b=some (.frz o u)):∀{v:V} {w:W},VRep K m n H v w->VRep K m' n' H' v w
 |_,_,.non=>.non
 |_,_,.bl b=>.bl b
 |_,_,.int b=>.int b
 |_,_,.str b=>.str b
 |_,_,.tup q r=>.tup (by
  rcases q with(q|⟨o,q⟩)|q
  .exact .inl (.inl (kt _ _ q))
  .exact .inl (.inr ⟨o,kf _ _ _ q⟩)
  .exact .inr q) (VReps.mono hn hm kt kf r)
 |_,_,.fz q r=>.fz (by
  rcases q with⟨o,q⟩|q
  .exact .inl ⟨o,kf _ _ _ q⟩
  .exact .inr q) (VReps.mono hn hm kt kf r)
 |_,_,.ref (i:=i) q=>by rw[<-hm i q];exact .ref (vai q hn)
theorem VReps.mono(hn:n<=n')(hm:∀i,i<n->m' i=m i)(kt:∀b vs,H b=some (.tup vs)->H' b=some (.tup vs))(kf:∀b o u,H b=some (.frz o u)->H' b=some (.frz o u)):∀{vs:List V} {ws:List W},VReps K m n H vs ws->VReps K m' n' H' vs ws
 |_,_,.nil=>.nil
 |_,_,.cons q r=>.cons (VRep.mono hn hm kt kf q) (VReps.mono hn hm kt kf r)
end
theorem Rel.side(r:Rel K m h H){D:Addr}{u u0:HO}(hu:H D=some u0)(ht:∀t,u0≠.tup t)(hf:∀o t,u0≠.frz o t)(ho:∀i,i<h.n->m i≠D)(s:Stp m1 n1 H1 m h.n H)(h0:H1 D=none) :
 Stp m1 n1 H1 m h.n (upd H D u)/\Rel K m h (upd H D u)/\∀{v:V}{w:W},VRep K m h.n H v w->VRep K m h.n (upd H D u) v w:=by
 have kt:∀b vs,H b=some (.tup vs)->upd H D u b=some (.tup vs):=λb vs q=>by rw[zae (ne_of q hu λz=>ht vs z.symm)];exact q
 have kf:∀b o t,H b=some (.frz o t)->upd H D u b=some (.frz o t):=λb o t q=>by rw[zae (ne_of q hu λz=>hf o t z.symm)];exact q
 have mv:∀{v:V}{w:W},VRep K m h.n H v w->VRep K m h.n (upd H D u) v w:=λq=>q.mono (vae _) (λ_ _=>rfl) kt kf
 refine⟨⟨s.le,s.same,s.new,s.apart,λb vs q=>kt b vs (s.tup b vs q),λb o t q=>kf b o t (s.frz b o t q),λb o nb q=>by rw[zae (zac q h0)];exact s.keep b o nb q⟩,⟨λi hi=>?_,r.inj,r.len⟩,mv⟩
 obtain⟨o,h1,h2⟩:=r.obj i hi
 have eq:upd H D u (m i)=H (m i):=zae (ho i hi)
 refine⟨o,h1,?_⟩
 cases o with
 |lst ws=>obtain⟨vs,q1,q2⟩:=h2;exact⟨vs,eq.trans q1,q2.map mv⟩
 |dk ws=>obtain⟨vs,q1,q2⟩:=h2;exact⟨vs,q1.imp (λz=>eq.trans z) λ⟨o,z⟩=>⟨o,eq.trans z⟩,q2.map mv⟩
 |dt ks ws=>obtain⟨xs,q1,q0,q2,q3⟩:=h2;exact⟨xs,q1.imp (λz=>eq.trans z) λ⟨o,z⟩=>⟨o,eq.trans z⟩,q0,q2.map mv,q3.map mv⟩
 |ins C xs ws=>obtain⟨dx,vs,q1,q0,q2⟩:=h2;exact⟨dx,vs,eq.trans q1,q0,q2.map mv⟩
theorem Rel.out(r:Rel K m h H){p:Addr}(hp:H p=none):∀i,i<h.n->m i≠p:=λi hi z=>by
 obtain⟨o',_,h2⟩:=r.obj i hi
 obtain⟨u',h3⟩:=h2.some
 rw[z,hp]at h3;cases h3
theorem Stp.out(s:Stp m n H m' n' H'){p:Addr}{u:HO}(hp:∀i,i<n->m i≠p)(hu:H p=some u):∀i,i<n'->m' i≠p:=λi hi z=>by
 by_cases hl:i<n
 .exact hp i hl ((s.same i hl).symm.trans z)
 .have:=s.new i (Nat.not_lt.mp hl) hi
  rw[z,hu]at this;cases this
end
inductive PReps(K:PySem.W.Frag)(m:Nat->Addr)(n:Nat)(H:Hp):List (V×V)->List W->Prop
 |nil:PReps K m n H [] []
 |cons {k v:V} {a b:W} {ps:List (V×V)} {ws:List W}:VRep K m n H k a->VRep K m n H v b->PReps K m n H ps ws->PReps K m n H ((k,v)::ps) (a::b::ws)
noncomputable def lftP(K:PySem.W.Frag)(f:FE)(σ:L2.St)(H:Hp)(Q:List (V×V)->Hp->Prop):Prop:=∃ρ h m ws h',Fr K m h.n H σ ρ/\Rel K m h H/\f ρ h=.ok (.tup ws) h'/\
 ∀ps H' m',Stp m h.n H m' h'.n H'->Rel K m' h' H'->PReps K m' h'.n H' ps ws->Q ps H'
theorem lftP.el{K:PySem.W.Frag}{σ:L2.St}{H:Hp}{P:Prop}{fa:FE}{Q:List (V×V)->Hp->Prop}(q:lftP K fa σ H Q)(k:∀ρ h m ws h',Fr K m h.n H σ ρ->Rel K m h H->fa ρ h=.ok (.tup ws) h'->(∀ps H' m',Stp m h.n H m' h'.n H'->Rel K m' h' H'->PReps K m' h'.n H' ps ws->Q ps H')->P):P:=by
 obtain⟨ρ,h,m,w,h',f,r,e,k'⟩:=q
 exact k ρ h m w h' f r e k'
theorem lftP.mk{K:PySem.W.Frag}{σ:L2.St}{H:Hp}{m:Nat->Addr}{ρ:En}{h h':VH}{ws:List W}{fa:FE}{Q:List (V×V)->Hp->Prop}(f:Fr K m h.n H σ ρ)(r:Rel K m h H)(e:fa ρ h=.ok (.tup ws) h')(k:∀ps H' m',Stp m h.n H m' h'.n H'->Rel K m' h' H'->PReps K m' h'.n H' ps ws->Q ps H'):lftP K fa σ H Q:=⟨ρ,h,m,ws,h',f,r,e,k⟩
noncomputable def SPs(X:Cx)(pos:Pos)(keys:List (Option Expr))(values:List Expr)(f:FE):Prop:=∃trs,PPs X pos keys values trs/\∀σ H Q,lftP X.K f σ H Q->zje trs σ H Q
section
variable{X:Cx}{a b c e o:Expr}{es:List Expr}{fa fb fc fo fr:FE}{pos p:Pos}{x:Str}
theorem zrx:SPs X pos [] [] aNil:=⟨[],zrg,λσ H Q z9=>z9.el λρ h m ws h' f r e k=>by cases e;exact k [] H m .refl r .nil⟩
theorem zor{ks:List (Option Expr)}{vs:List Expr}(ha:SE X a fa)(hb:SE X b fb)(hr:SPs X pos ks vs fr):SPs X pos (some a::ks) (b::vs) (aCons fa (aCons fb fr)):=by
 obtain⟨trs,h1,h2⟩:=hr
 refine⟨_,zoe ha hb h1,λσ H Q z9=>z9.el λρ h m ws h' f r e k=>?_⟩
 refine zab e λx h3 e1 e2=>?_
 refine zab e2 λy h4 e3 e4=>?_
 refine zab e3 λx2 h5 e5 e6=>?_
 refine zab e6 λy2 h6 e7 e8=>?_
 cases y2<;>try cases e8
 cases e4
 rename_i ys
 exact(.mk f r e1 λv H1 m1 s1 r1 q1=>(.mk (f.stp s1) r1 e5 λv2 H2 m2 s2 r2 q2=>h2 σ H2 _ (.mk ((f.stp s1).stp s2) r2 e7 λps H3 m3 s3 r3 q3=>
  k _ H3 m3 ((s1.trans s2).trans s3) r3 (.cons ((q1.stp s2).stp s3) (q2.stp s3) q3))))
theorem zjn{K:PySem.W.Frag}{m:Nat->Addr}{n:Nat}{H:Hp}:∀{ps:List (V×V)} {ws:List W} {kws:List (Key×W)},PReps K m n H ps ws->zdm ws=some kws->∃kvs:List (Key×V),ps=kvs.map (λkv=>(kV kv.1,kv.2))/\KReps K m n H kvs kws
 |_,_,_,.nil,e=>by cases e;exact⟨[],rfl,.nil⟩
 |_,_,_,.cons (a:=a) (v:=v) q1 q2 r,e=>by
  simp only[zdm]at e
  split at e
  .rename_i k hk
   split at e
   .rename_i kvs hp
    cases e
    obtain⟨kv,rfl,r'⟩:=zjn r hp
    refine⟨(k,v)::kv,?_,.cons q2 r'⟩
    rw[vam,zrr q1 hk]
   .cases e
  .cases e
noncomputable abbrev gDsp(f:FE):FE:=λρ h=>(f ρ h).bind λy h=>match y with
 |.tup ys=>(match zdm ys with
  |some kvs=>if Nat.ble kvs.length 15 then .ok (.ref h.n) (h.new (dkO kvs))else .no
  |none=>dspD ys h)
 |_=>.no
theorem zvw{K:PySem.W.Frag}{m:Nat->Addr}{n:Nat}{H:Hp}{ps:List (V×V)}{a b:W}(q:PReps K m n H ps [a,b]):∃k v,ps=[(k,v)]/\VRep K m n H k a/\VRep K m n H v b:=by
 cases q with|cons q1 q2 r=>cases r;exact⟨_,_,rfl,q1,q2⟩
theorem zvx(hu:X.A.units+2<cLine){keys:List (Option Expr)}{values:List Expr}(hp:SPs X pos keys values fa)(hall:keys.all (·.isSome)=true)(hl:keys.length=values.length)(h0:keys≠[])(h15:keys.length<=15):SE X (.Dict keys values pos) (gDsp fa):=by
 obtain⟨trs,h1,h2⟩:=hp
 refine(zoo hu h1 hall hl h0 h15).imp λσ H Q z9 p hp=>z9.el λρ h m w h' f r e k=>?_
 refine zab e λy h3 e1 e2=>?_
 cases y<;>try cases e2
 rename_i ys
 obtain⟨st0,r0⟩:=r.more (u:=.dK []) hp
 refine h2 σ _ _ (.mk (f.stp st0) r0 e1 λps H2 m2 s2 r2 q2=>?_)
 have hout:=s2.out (r.out hp) zak
 have hD:H2 p=some (.dK []):=s2.keep p _ (r.out hp) zak
 refine⟨hD,?_⟩
 have e2:(match zdm ys with
  |some kvs=>if Nat.ble kvs.length 15 then Res.ok (W.ref h3.n) (h3.new (dkO kvs))else .no
  |none=>dspD ys h3)=.ok w h':=e2
 cases hk:zdm ys with
 |none=>
  rw[hk]at e2
  have e5:dspD ys h3=.ok w h':=e2
  clear e2
  try(rename_i e00;clear e00)
  unfold dspD at e5
  split at e5
  .rename_i kw vw
   split at e5
   .rename_i dk hd
    cases e5
    obtain⟨kv,vv,rfl,q3,q4⟩:=zvw q2
    obtain⟨b,rfl,kk⟩:=zeh q3 hd
    refine .inr ⟨b,dk,vv,rfl,kk,?_⟩
    obtain⟨st,r'⟩:=r2.adopt (o:=.dt [kw] [vw]) (u:=dtH [(dk,b,vv)] p) hout hD (λ_ z=>nomatch z) (λ_ _ z=>nomatch z) (st0.trans s2) hp λ_ mv=>⟨[(dk,b,vv)],.inl zak,by simp[mapO,hd],.cons (mv q3) .nil,.cons (mv q4) .nil⟩
    refine k _ _ _ st r' ?_
    have:VRep X.K (λi=>if i=h3.n then p else m2 i) (h3.n+1) (upd H2 p (dtH [(dk,b,vv)] p)) (.ref ((λi=>if i=h3.n then p else m2 i) h3.n)) (.ref h3.n):=.ref (Nat.lt_succ_self _)
    simp only[if_true]at this
    exact this
   .cases e5
  .cases e5
 |some kws=>
  rw[hk]at e2
  have e2:(if Nat.ble kws.length 15 then Res.ok (W.ref h3.n) (h3.new (dkO kws))else .no)=.ok w h':=e2
  by_cases hz:Nat.ble kws.length 15=true
  .rw[if_pos hz]at e2
   cases e2
   obtain⟨kvs,e3,q3⟩:=zjn q2 hk
   refine .inl ⟨kvs,e3,by rw[q3.length];exact va1 hz,?_⟩
   obtain⟨st,r'⟩:=r2.adopt (o:=dkO kws) (u:=.dK (zdl [] kvs)) hout hD (λ_ z=>nomatch z) (λ_ _ z=>nomatch z) (st0.trans s2) hp λ_ mv=>by
    cases kws with
    |nil=>cases q3;exact⟨[],.inr ⟨rfl,zak⟩,rfl,.nil,.nil⟩
    |cons k1 kws=>exact⟨_,.inl zak,(q3.merge .nil).map mv⟩
   refine k _ _ _ st r' ?_
   have:VRep X.K (λi=>if i=h3.n then p else m2 i) (h3.n+1) (upd H2 p (.dK (zdl [] kvs))) (.ref ((λi=>if i=h3.n then p else m2 i) h3.n)) (.ref h3.n):=.ref (Nat.lt_succ_self _)
   simp only[if_true]at this
   exact this
  .rw[if_neg hz]at e2;cases e2
theorem zry:SE X (.Dict [] [] pos) (gDsp aNil):=zod.imp λσ H Q z9 p hp=>z9.el λρ h m w h' f r e k=>by
 cases e
 exact Wants.dictD (ks:=[]) (ws:=[]) (xs:=[]) k r hp (.inr ⟨rfl,rfl⟩) rfl .nil .nil
noncomputable def spV(K:PySem.W.Frag)(np:Nat)(g:List W->VH->Res W):Sp:=λvs H Q _=>vs.length=np/\∃h m ws w h',Rel K m h H/\VReps K m h.n H vs ws/\g ws h=.ok w h'/\Wants K m h.n H w h' Q
theorem zrz{k:Nat}{f:Addr}{fd:FuncData}{ps:List Str}{g:List W->VH->Res W}(F:FnOk X.prog X.w X.K X.mg X.base CX0 k f fd ps (spV X.K ps.length g))(hr:Room k X.A)(hg:Gl X x)(hm:X.mg x=some (.ref f))(hk:PySem.W.keepIn X.K (.ref f)=true)
 (hb:Binds X.K fd ps []) (ha:SA X (e::es) fa) (hs:(e::es).all zaw=true) (hdb:(x==("__debug__" : Str))=false) (hn:∀ws h w h',g ws h=.ok w h'->ws.length=ps.length):SE X (.Call (.Name x p) (e::es) [] pos) (gArg fa g):=by
 rw[List.all_cons,vab]at hs
 refine(zlp F hr hg hm hk hb .nil pass0 ha hdb (zah hs.1) (zbf hs.2)).imp λσ H Q q=>zbs (G:=λvs H1 Q=>spV X.K ps.length g (vs++[]) H1 Q E0) (λm h H vs xs w h' Q r q e k=>?_) q
 rw[List.append_nil]
 exact⟨by rw[q.length];exact hn _ _ _ _ e,h,m,xs,w,h',r,q,e,k⟩
theorem zos{k:Nat}{f:Addr}{fd:FuncData}{ps:List Str}{g:List W->VH->Res W}(F:FnOk X.prog X.w X.K X.mg X.base CX0 k f fd ps (spV X.K ps.length g))(hr:Room k X.A)(hg:Gl X x)(hm:X.mg x=some (.ref f))(hk:PySem.W.keepIn X.K (.ref f)=true)
 (hb:Binds X.K fd ps []) (hdb:(x==("__debug__" : Str))=false) (hn:∀ws h w h',g ws h=.ok w h'->ws.length=ps.length):SE X (.Call (.Name x p) [] [] pos) (gArg aNil g):=by
 refine(zn7 F hr hg hm hk hb .nil pass0 hdb).imp λσ H Q z9=>z9.el λρ h m w h' f r e k=>?_
 exact⟨hn _ _ _ _ e,h,m,[],w,h',r,.nil,e,k⟩
theorem zot{k:Nat}{f:Addr}{fd:FuncData}{ps:List Str}{g:List W->VH->Res W}(F:FnOk X.prog X.w X.K X.mg X.base CX0 k f fd ps (spV X.K ps.length g))(hr:Room k X.A)(hg:Gl X x)(hm:X.mg x=some (.ref f))(hk:PySem.W.keepIn X.K (.ref f)=true)
 (hb:Binds X.K fd ps [.none]) (ha:SA X (e::es) fa) (hs:(e::es).all zaw=true) (hdb:(x==("__debug__" : Str))=false) (hn:∀ws h w h',g ws h=.ok w h'->ws.length=ps.length):SE X (.Call (.Name x p) (e::es) [] pos) (gArg fa λws h=>g (ws++[.non]) h):=by
 rw[List.all_cons,vab]at hs
 refine(zlp F hr hg hm hk hb (dvs:=[V.non]) (.cons rfl .nil) pass0 ha hdb (zah hs.1) (zbf hs.2)).imp λσ H Q q=>zbs (G:=λvs H1 Q=>spV X.K ps.length g (vs++[V.non]) H1 Q E0) (λm h H vs xs w h' Q r q e k=>?_) q
 have q':VReps X.K m h.n H (vs++[V.non]) (xs++[W.non]):=q.append (.cons .non .nil)
 exact⟨by rw[q'.length];exact hn _ _ _ _ e,h,m,xs++[W.non],w,h',r,q',e,k⟩
noncomputable def ItOk(K:PySem.W.Frag)(nx:Nat->VH->Option (Option W))(J:It)(P:(Nat->Addr)->Nat->Hp->Prop):Prop:=
 (∀m n H m' n' H',n<=n'->(∀i,i<n->m' i=m i)->(∀b vs,H b=some (.tup vs)->H' b=some (.tup vs))->(∀b o u,H b=some (.frz o u)->H' b=some (.frz o u))->P m n H->P m' n' H')/\
 ∀m h H,Rel K m h H->P m h.n H->∀i,(∀w,nx i h=some (some w)->J.go i H/\∀y H3,J.yld i H y H3->Stp m h.n H m h.n H3/\Rel K m h H3/\VRep K m h.n H3 y w)/\(nx i h=some none->J.stop i H)
noncomputable def lftI(K:PySem.W.Frag)(kd:Kd)(f:FE):TI:=λσ H R=>∃ρ h m x h',Fr K m h.n H σ ρ/\Rel K m h H/\f ρ h=.ok x h'/\(∃o,nxt kd x 0 h'=some o)/\
 ∀J P H' m',Stp m h.n H m' h'.n H'->Rel K m' h' H'->ItOk K (nxt kd x) J P->P m' h'.n H'->R J H'
theorem lftI.el{K:PySem.W.Frag}{σ:L2.St}{H:Hp}{P:Prop}{kd:Kd}{fa:FE}{R}(q:lftI K kd fa σ H R)(k:∀ρ h m x h',Fr K m h.n H σ ρ->Rel K m h H->fa ρ h=.ok x h'->∀o,nxt kd x 0 h'=some o->(∀J P H' m',Stp m h.n H m' h'.n H'->Rel K m' h' H'->ItOk K (nxt kd x) J P->P m' h'.n H'->R J H')->P):P:=by
 obtain⟨ρ,h,m,w,h',f,r,e,⟨o,eo⟩,k'⟩:=q
 exact k ρ h m w h' f r e o eo k'
theorem lftI.mk{K:PySem.W.Frag}{σ:L2.St}{H:Hp}{m:Nat->Addr}{ρ:En}{h h':VH}{x:W}{kd:Kd}{fa:FE}{R}(f:Fr K m h.n H σ ρ)(r:Rel K m h H)(e:fa ρ h=.ok x h')(eo:∃o,nxt kd x 0 h'=some o)(k:∀J P H' m',Stp m h.n H m' h'.n H'->Rel K m' h' H'->ItOk K (nxt kd x) J P->P m' h'.n H'->R J H'):lftI K kd fa σ H R:=⟨ρ,h,m,x,h',f,r,e,eo,k⟩
theorem zgh{K:PySem.W.Frag}{H H':Hp}{a:Addr}{vs:List V}(kt:∀b vs,H b=some (.tup vs)->H' b=some (.tup vs))(kf:∀b o u,H b=some (.frz o u)->H' b=some (.frz o u))(q:SqT K H a vs):SqT K H' a vs:=by
 rcases q with(q|⟨o,q⟩)|q
 .exact .inl (.inl (kt _ _ q))
 .exact .inl (.inr ⟨o,kf _ _ _ q⟩)
 .exact .inr q
theorem zil{K:PySem.W.Frag}{H H':Hp}{a:Addr}{vs:List V}(kf:∀b o u,H b=some (.frz o u)->H' b=some (.frz o u))(q:Fz K H a vs):Fz K H' a vs:=by
 rcases q with⟨o,q⟩|q
 .exact .inl ⟨o,kf _ _ _ q⟩
 .exact .inr q
theorem zfh{ws:List W}{h:VH}{x:W}{i:Nat}{o:Option W}(e:seqW h x=some ws)(q:nxt .seq x i h=some o):ws[i]?=o:=by
 simp only[nxt,e]at q
 cases q;rfl
theorem zvy{K:PySem.W.Frag}{a:Addr}{vs:List V}{ws:List W}:ItOk K (nxt .seq (.tup ws)) (Itt K a) (λm n H=>SqT K H a vs/\VReps K m n H vs ws):=by
 refine⟨λm n H m' n' H' hn hm kt kf ⟨q1,q2⟩=>⟨zgh kt kf q1,q2.mono hn hm kt kf⟩,λm h H r ⟨q1,q2⟩ i=>⟨λw e=>?_,λe=>?_⟩⟩
 .have e:=zfh (ws:=ws) rfl e
  obtain⟨v,h1,h2⟩:=q2.get e
  refine⟨⟨vs,v,q1,h1⟩,λy H3 ⟨e3,y3⟩=>?_⟩
  subst e3
  have:=y3 vs q1
  rw[h1]at this;cases this
  exact⟨.refl,r,h2⟩
 .have e:=zfh (ws:=ws) rfl e
  exact⟨vs,q1,by rw[q2.length];exact vaz.mp e⟩
theorem it_fz{K:PySem.W.Frag}{a:Addr}{vs:List V}{ws:List W}:ItOk K (nxt .seq (.fz ws)) (Itl K a) (λm n H=>Fz K H a vs/\VReps K m n H vs ws):=by
 refine⟨λm n H m' n' H' hn hm kt kf ⟨q1,q2⟩=>⟨zil kf q1,q2.mono hn hm kt kf⟩,λm h H r ⟨q1,q2⟩ i=>⟨λw e=>?_,λe=>?_⟩⟩
 .have e:=zfh (ws:=ws) rfl e
  obtain⟨v,h1,h2⟩:=q2.get e
  refine⟨⟨vs,v,q1.sq,h1⟩,λy H3 ⟨e3,y3⟩=>?_⟩
  subst e3
  have:=y3 vs q1.sq
  rw[h1]at this;cases this
  exact⟨.refl,r,h2⟩
 .have e:=zfh (ws:=ws) rfl e
  exact⟨vs,q1.sq,by rw[q2.length];exact vaz.mp e⟩
theorem zvz{K:PySem.W.Frag}{a:Addr}{l:Nat}:ItOk K (nxt .seq (.ref l)) (Itl K a) (λm n H=>l<n/\a=m l):=by
 refine⟨λm n H m' n' H' hn hm kt kf ⟨q1,q2⟩=>⟨vai q1 hn,by rw[hm l q1];exact q2⟩,λm h H r ⟨q1,q2⟩ i=>?_⟩
 subst q2
 cases g:h.get l with
 |none=>exact⟨λw e=>by simp[nxt,seqW,g]at e,λe=>by simp[nxt,seqW,g]at e⟩
 |some o=>
  cases o with
  |dk _=>exact⟨λw e=>by simp[nxt,seqW,g]at e,λe=>by simp[nxt,seqW,g]at e⟩
  |dt _ _=>exact⟨λw e=>by simp[nxt,seqW,g]at e,λe=>by simp[nxt,seqW,g]at e⟩
  |ins _ _ _=>exact⟨λw e=>by simp[nxt,seqW,g]at e,λe=>by simp[nxt,seqW,g]at e⟩
  |lst ws=>
   have hs:seqW h (.ref l)=some ws:=by simp[seqW,g]
   obtain⟨vs,p1,p2⟩:=r.lst g
   refine⟨λw e=>?_,λe=>?_⟩
   .have e:=zfh hs e
    obtain⟨v,h1,h2⟩:=p2.get e
    refine⟨⟨vs,v,SqL.of p1,h1⟩,λy H3 ⟨e3,y3⟩=>?_⟩
    subst e3
    have:=y3 vs (SqL.of p1)
    rw[h1]at this;cases this
    exact⟨.refl,r,h2⟩
   .have e:=zfh hs e
    exact⟨vs,SqL.of p1,by rw[p2.length];exact vaz.mp e⟩
theorem zv0{K:PySem.W.Frag}{kd:Kd}{x:W}{lo:Int}{k:Nat}(hx:∀i h,nxt kd x i h=some (if i<k then some (.int (lo+i))else none)):ItOk K (nxt kd x) (Itr lo k) (λ_ _ _=>True):=by
 refine⟨λ_ _ _ _ _ _ _ _ _ _ _=>trivial,λm h H r _ i=>⟨λw e=>?_,λe=>?_⟩⟩
 .rw[hx]at e
  split at e
  .rename_i hi
   cases e
   refine⟨hi,λy H3 ⟨e3,y3⟩=>?_⟩
   subst e3 y3
   exact⟨.refl,r,.int _⟩
  .cases e
 .rw[hx]at e
  split at e
  .cases e
  .rename_i hi
   exact Nat.not_lt.mp hi
theorem zpz{tg:Expr}(ha:SE X e fa):PI X tg e (lftI X.K .seq fa):=λpins s σ H R I z9=>z9.el λρ h m x h' f r ee o en k=>by
 have hs:∃ws,seqW h' x=some ws:=by
  cases z:seqW h' x with
  |none=>simp[nxt,z]at en
  |some ws=>exact⟨ws,rfl⟩
 obtain⟨ws,hs⟩:=hs
 cases x<;>try cases hs
 .exact zt1 ha pins s σ H R I (.mk f r ee λv H' m' s' r' q=>by
   cases q with
   |tup sq rs=>exact⟨_,rfl,⟨_,sq⟩,k _ _ H' m' s' r' zvy ⟨sq,rs⟩⟩)
 .exact zlf ha pins s σ H R I (.mk f r ee λv H' m' s' r' q=>by
   cases q with
   |fz sq rs=>exact⟨_,rfl,⟨_,sq.sq⟩,k _ _ H' m' s' r' it_fz ⟨sq,rs⟩⟩)
 .rename_i l
  exact zlf ha pins s σ H R I (.mk f r ee λv H' m' s' r' q=>by
   obtain⟨p,vs,e1,e2,e3⟩:=zde r' q hs
   cases q with
   |ref hi=>
    cases g:h'.get l with
    |none=>simp[seqW,g]at hs
    |some ob=>
     cases ob with
     |dk _=>simp[seqW,g]at hs
     |dt _ _=>simp[seqW,g]at hs
     |ins _ _ _=>simp[seqW,g]at hs
     |lst ws'=>
      obtain⟨vs',p1,_⟩:=r'.lst g
      exact⟨_,rfl,⟨_,SqL.of p1⟩,k _ _ H' m' s' r' zvz ⟨hi,rfl⟩⟩)
theorem zr0{tg:Expr}(ha:SA X [e] fa)(hs:zaw e=true)(hg:Gl X "range")(hm:X.mg "range" = none):PI X tg (.Call (.Name "range" p) [e] [] pos) (lftI X.K .rng1 fa):=λpins s σ H R I z9=>z9.el λρ h m x h' f r ee o en k=>by
 simp only[nxt]at en
 split at en
 .rename_i j
  split at en
  .rename_i hf
   refine zlg hg hm ha (zah hs) pins s σ H R I (.mk f r ee λvs H' m' s' r' q=>?_)
   obtain⟨v,rfl,q1⟩:=reps1 q
   cases q1
   refine⟨_,rfl,(zmg hf).1,(zmg hf).2,k _ _ H' m' s' r' (zv0 λi h=>?_) trivial⟩
   simp only[nxt,hf,if_true]
   split<;>split<;>first|rfl|(exfalso;simp at *;omega)
  .cases en
 .cases en
theorem zou{elts:List Expr}{kx:Nat}{tp:Pos}{l:Expr}{ta:TA}(hg:Gl X "enumerate")(hm:X.mg "enumerate" = none)(hv:bootBuiltins "enumerate" = some (.type "enumerate"))(ha:PA X [l] ta)(hs:starEach [l] X.env=[(false,eval l X.env)]) :
 PI X (.Tuple elts kx tp) (.Call (.Name "enumerate" p) [l] [] pos) (λσ H R=>ta σ H λvs H1=>∃a,vs=[.ref a]/\(∃xs,SqT X.K H1 a xs)/\R (IteT X.K a) H1):=by
 intro pins s σ H R I h
 refine Call_ (zcq I hg hm hv (PyProof.Rows.callWith_type1 (thn (ha pos pins s σ H _ I h) λus s1 ⟨vs,H1,I1,r1,q1⟩=>?_) hs rfl))
 obtain⟨a,e,⟨xs,hq⟩,q⟩:=q1
 subst e
 obtain⟨u,rfl,ru⟩:=vals1 r1
 cases ru
 obtain⟨its,rv,pl,hz⟩:=I1.tuple hq
 have pl:s1.heap.IsTuple a its.toArray:=pl
 have hlt:a<s1.heap.objs.size:=by obtain⟨o,q,_⟩:=pl;exact vaq q
 refine zku pl λh' he hit hsz kk=>wpAny_pyIter_enum he ?_
 have hf:∀b,s1.heap.objs.size<=b->FpOk X pins H1 b:=λb hb=>I1.fpOk hb (I1.hok.fresh hb)
 refine⟨s1.heap.objs.size+1,[s1.heap.objs.size+1,s1.heap.objs.size],_,_,H1,rfl,I1.kept (t':=s1.toks) kk,zkv a _ _ (Nat.ne_of_gt (Nat.lt_succ_self _)) (va4 (Nat.lt_succ_of_lt hlt)) (va4 hlt),⟨⟨_,he⟩,hit⟩,λb hb=>hf b ?_,q⟩
 rcases va2.mp hb with rfl|hb
 .exact Nat.le_succ _
 .have e':b=s1.heap.objs.size:=by simpa using hb
  rw[e'];exact vae _
theorem zfi{ws:List W}{h:VH}{x:W}{i:Nat}{o:Option W}(e:seqW h x=some ws)(q:nxt .enm x i h=some o):o=(ws[i]?).map λw=>.tup [.int i,w]:=by
 simp only[nxt,e]at q
 cases q;rfl
theorem zr1{K:PySem.W.Frag}{a:Addr}{vs:List V}{ws:List W}:ItOk K (nxt .enm (.tup ws)) (IteT K a) (λm n H=>SqT K H a vs/\VReps K m n H vs ws):=by
 refine⟨λm n H m' n' H' hn hm kt kf ⟨q1,q2⟩=>⟨zgh kt kf q1,q2.mono hn hm kt kf⟩,λm h H r ⟨q1,q2⟩ i=>⟨λw e=>?_,λe=>?_⟩⟩
 .have e:=zfi (ws:=ws) rfl e
  cases z:ws[i]? with
  |none=>rw[z]at e;cases e
  |some w0=>
   rw[z]at e;cases e
   obtain⟨v,h1,h2⟩:=q2.get z
   refine⟨⟨vs,v,q1,h1⟩,λy H3 ⟨T,v3,e1,e2,e3,y3⟩=>?_⟩
   subst e1 e3
   have:=y3 vs q1
   rw[h1]at this;cases this
   obtain⟨st,r'⟩:=r.more (u:=.tup [.int i,v]) e2
   exact⟨st,r',.tup (SqT.of zak) (.cons (.int _) (.cons (h2.stp st) .nil))⟩
 .have e:=zfi (ws:=ws) rfl e
  cases z:ws[i]? with
  |some w0=>rw[z]at e;cases e
  |none=>exact⟨vs,q1,by rw[q2.length];exact vaz.mp z⟩
theorem zv1{K:PySem.W.Frag}{a:Addr}{vs:List V}{ws:List W}:ItOk K (nxt .enm (.fz ws)) (IteL K a) (λm n H=>Fz K H a vs/\VReps K m n H vs ws):=by
 refine⟨λm n H m' n' H' hn hm kt kf ⟨q1,q2⟩=>⟨zil kf q1,q2.mono hn hm kt kf⟩,λm h H r ⟨q1,q2⟩ i=>⟨λw e=>?_,λe=>?_⟩⟩
 .have e:=zfi (ws:=ws) rfl e
  cases z:ws[i]? with
  |none=>rw[z]at e;cases e
  |some w0=>
   rw[z]at e;cases e
   obtain⟨v,h1,h2⟩:=q2.get z
   refine⟨⟨vs,v,q1.sq,h1⟩,λy H3 ⟨T,v3,e1,e2,e3,y3⟩=>?_⟩
   subst e1 e3
   have:=y3 vs q1.sq
   rw[h1]at this;cases this
   obtain⟨st,r'⟩:=r.more (u:=.tup [.int i,v]) e2
   exact⟨st,r',.tup (SqT.of zak) (.cons (.int _) (.cons (h2.stp st) .nil))⟩
 .have e:=zfi (ws:=ws) rfl e
  cases z:ws[i]? with
  |some w0=>rw[z]at e;cases e
  |none=>exact⟨vs,q1.sq,by rw[q2.length];exact vaz.mp z⟩
theorem zr2{K:PySem.W.Frag}{a:Addr}{l:Nat}:ItOk K (nxt .enm (.ref l)) (IteL K a) (λm n H=>l<n/\a=m l):=by
 refine⟨λm n H m' n' H' hn hm kt kf ⟨q1,q2⟩=>⟨vai q1 hn,by rw[hm l q1];exact q2⟩,λm h H r ⟨q1,q2⟩ i=>?_⟩
 subst q2
 cases g:h.get l with
 |none=>exact⟨λw e=>by simp[nxt,seqW,g]at e,λe=>by simp[nxt,seqW,g]at e⟩
 |some o=>
  cases o with
  |dk _=>exact⟨λw e=>by simp[nxt,seqW,g]at e,λe=>by simp[nxt,seqW,g]at e⟩
  |dt _ _=>exact⟨λw e=>by simp[nxt,seqW,g]at e,λe=>by simp[nxt,seqW,g]at e⟩
  |ins _ _ _=>exact⟨λw e=>by simp[nxt,seqW,g]at e,λe=>by simp[nxt,seqW,g]at e⟩
  |lst ws=>
   have hs:seqW h (.ref l)=some ws:=by simp[seqW,g]
   obtain⟨vs,p1,p2⟩:=r.lst g
   refine⟨λw e=>?_,λe=>?_⟩
   .have e:=zfi hs e
    cases z:ws[i]? with
    |none=>rw[z]at e;cases e
    |some w0=>
     rw[z]at e;cases e
     obtain⟨v,h1,h2⟩:=p2.get z
     refine⟨⟨vs,v,SqL.of p1,h1⟩,λy H3 ⟨T,v3,e1,e2,e3,y3⟩=>?_⟩
     subst e1 e3
     have:=y3 vs (SqL.of p1)
     rw[h1]at this;cases this
     obtain⟨st,r'⟩:=r.more (u:=.tup [.int i,v]) e2
     exact⟨st,r',.tup (SqT.of zak) (.cons (.int _) (.cons (h2.stp st) .nil))⟩
   .have e:=zfi hs e
    cases z:ws[i]? with
    |some w0=>rw[z]at e;cases e
    |none=>exact⟨vs,SqL.of p1,by rw[p2.length];exact vaz.mp z⟩
theorem zek:bootBuiltins "enumerate" = some (.type "enumerate"):=by decide +kernel
theorem zmk(ha:SE X e fa)(hs:zaw e=true):PA X [e] (λσ H Q=>lft X.K fa σ H λv H1=>Q [v] H1):=λp pins s σ H Q I q=>by
 refine zd8 ha zi9 (zah hs) p pins s σ H Q I ?_
 refine q.el λρ h m w h' f r ee k=>?_
 exact(.mk f r ee λv H' m' s' r' q'=>k v H' m' s' r' q')
theorem zv2{elts:List Expr}{kx:Nat}{tp:Pos}(ha:SE X e fa)(hs0:zaw e=true)(hg:Gl X "enumerate")(hm:X.mg "enumerate" = none):PI X (.Tuple elts kx tp) (.Call (.Name "enumerate" p) [e] [] pos) (lftI X.K .enm fa):=λpins s σ H R I z9=>z9.el λρ h m x h' f r ee o en k=>by
 have hs:∃ws,seqW h' x=some ws:=by
  cases z:seqW h' x with
  |none=>simp[nxt,z]at en
  |some ws=>exact⟨ws,rfl⟩
 obtain⟨ws,hs⟩:=hs
 cases x<;>try cases hs
 .exact zou hg hm zek (zmk ha hs0) (zah hs0) pins s σ H R I (.mk f r ee λv H' m' s' r' q=>by
   cases q with
   |tup sq rs=>exact⟨_,rfl,⟨_,sq⟩,k _ _ H' m' s' r' zr1 ⟨sq,rs⟩⟩)
 .exact zjf hg hm zek (zmk ha hs0) (zah hs0) pins s σ H R I (.mk f r ee λv H' m' s' r' q=>by
   cases q with
   |fz sq rs=>exact⟨_,rfl,⟨_,sq.sq⟩,k _ _ H' m' s' r' zv1 ⟨sq,rs⟩⟩)
 .rename_i l
  exact zjf hg hm zek (zmk ha hs0) (zah hs0) pins s σ H R I (.mk f r ee λv H' m' s' r' q=>by
   cases q with
   |ref hi=>
    cases g:h'.get l with
    |none=>simp[seqW,g]at hs
    |some ob=>
     cases ob with
     |dk _=>simp[seqW,g]at hs
     |dt _ _=>simp[seqW,g]at hs
     |ins _ _ _=>simp[seqW,g]at hs
     |lst ws'=>
      obtain⟨vs',p1,_⟩:=r'.lst g
      exact⟨_,rfl,⟨_,SqL.of p1⟩,k _ _ H' m' s' r' zr2 ⟨hi,rfl⟩⟩)
theorem zv3{elts:List Expr}{kx:Nat}{tp:Pos}{l l2:Expr}{ta:TA}(hg:Gl X "zip")(hm:X.mg "zip" = none)(ha:PA X [l,l2] ta)(hs:starEach [l,l2] X.env=[(false,eval l X.env),(false,eval l2 X.env)])(hs2:starEach [l2] X.env=[(false,eval l2 X.env)]) :
 PI X (.Tuple elts kx tp) (.Call (.Name "zip" p) [l,l2] [] pos) (λσ H R=>ta σ H λvs H1=>∃b c a1 a2,vs=[.ref a1,.ref a2]/\(∃xs,SqB b X.K H1 a1 xs)/\(∃ys,SqB c X.K H1 a2 ys)/\R (IteZ X.K b c a1 a2) H1):=by
 intro pins s σ H R I h
 refine Call_ (zcq I hg hm PyProof.Rows.boot_zip (PyProof.Rows.callWith_type1 (thn (ha pos pins s σ H _ I h) λus s1 ⟨vs,H1,I1,r1,q1⟩=>?_) (by rw[hs,hs2]) (by rw[hs2];rfl)))
 obtain⟨b,c,a1,a2,e,⟨xs,hq⟩,⟨ys,hr⟩,q⟩:=q1
 subst e
 cases r1 with
 |cons r rr=>
  cases rr with
  |cons r' rr=>
   cases rr
   cases r
   cases r'
   obtain⟨its,_,pl,_⟩:=zfd I1 hq
   obtain⟨jts,_,pl2,_⟩:=zfd I1 hr
   refine zrm pl pl2 λh' e1 e2 e3 e4 e5 hsz kk=>wpAny_pyIter_zip e1 ?_
   have hf:∀b,s1.heap.objs.size<=b->FpOk X pins H1 b:=λb hb=>I1.fpOk hb (I1.hok.fresh hb)
   refine⟨s1.heap.objs.size+4,_,_,_,H1,rfl,I1.kept (t':=s1.toks) kk,zoj a1 a2 _ _ _ _ _ (zut pl.lt pl2.lt),⟨e1,e2,⟨_,_,e3⟩,e4,e5⟩,λb hb=>hf b ?_,q⟩
   simp only[va2,List.not_mem_nil,or_false]at hb
   rcases hb with rfl|rfl|rfl|rfl|rfl
   .exact Nat.le_add_right _ _
   .exact Nat.le_add_right _ _
   .exact Nat.le_add_right _ _
   .exact vae _
   .exact Nat.le_add_right _ _
noncomputable def Src(K:PySem.W.Frag)(b:Bool)(a:Addr)(u:W)(P:(Nat->Addr)->Nat->Hp->Prop):Prop:=
 (∀m n H m' n' H',n<=n'->(∀i,i<n->m' i=m i)->(∀b vs,H b=some (.tup vs)->H' b=some (.tup vs))->(∀b o u,H b=some (.frz o u)->H' b=some (.frz o u))->P m n H->P m' n' H')/\
 ∀m h H ws,Rel K m h H->P m h.n H->seqW h u=some ws->∃vs,SqB b K H a vs/\VReps K m h.n H vs ws
theorem zp0{K:PySem.W.Frag}{m:Nat->Addr}{h:VH}{H:Hp}{v:V}{u:W}{ws:List W}(r:Rel K m h H)(q:VRep K m h.n H v u)(e:seqW h u=some ws):∃b a P,v=.ref a/\Src K b a u P/\P m h.n H/\∃xs,SqB b K H a xs:=by
 cases q with
 |non=>cases e
 |bl b=>cases e
 |int b=>cases e
 |str b=>cases e
 |tup sq rs=>exact⟨true,_,λm n H=>SqT K H _ _/\VReps K m n H _ _,rfl,⟨λm n H m' n' H' hn hm kt kf ⟨q1,q2⟩=>⟨zgh kt kf q1,q2.mono hn hm kt kf⟩,λm h H ws _ ⟨q1,q2⟩ z=>by cases z;exact⟨_,q1,q2⟩⟩,⟨sq,rs⟩,_,sq⟩
 |fz sq rs=>exact⟨false,_,λm n H=>Fz K H _ _/\VReps K m n H _ _,rfl,⟨λm n H m' n' H' hn hm kt kf ⟨q1,q2⟩=>⟨zil kf q1,q2.mono hn hm kt kf⟩,λm h H ws _ ⟨q1,q2⟩ z=>by cases z;exact⟨_,q1.sq,q2⟩⟩,⟨sq,rs⟩,_,sq.sq⟩
 |ref hi=>
  rename_i l
  have key:∀m (h:VH) H ws,Rel K m h H->seqW h (.ref l)=some ws->∃vs,H (m l)=some (.lst vs)/\VReps K m h.n H vs ws:=λm h H ws r z=>by
   cases g:h.get l with
   |none=>simp[seqW,g]at z
   |some o=>
    cases o with
    |dk _=>simp[seqW,g]at z
    |dt _ _=>simp[seqW,g]at z
    |ins _ _ _=>simp[seqW,g]at z
    |lst ws'=>
     have:ws'=ws:=by simpa[seqW,g]using z
     subst this
     exact r.lst g
  obtain⟨vs,p1,_⟩:=key m h H ws r e
  refine⟨false,_,λm' n _=>l<n/\m l=m' l,rfl,⟨λm1 n H m' n' H' hn hm kt kf ⟨q1,q2⟩=>⟨vai q1 hn,by rw[hm l q1];exact q2⟩,λm1 h H ws r' ⟨q1,q2⟩ z=>?_⟩,⟨hi,rfl⟩,vs,SqL.of p1⟩
  obtain⟨vs,g1,g2⟩:=key m1 h H ws r' z
  rw[q2]
  exact⟨vs,SqL.of g1,g2⟩
theorem zml{u v:W}{h:VH}{i:Nat}{o:Option W}(q:nxt .zip (.tup [u,v]) i h=some o):∃ws zs,seqW h u=some ws/\seqW h v=some zs/\o=(match ws[i]?,zs[i]? with|some a,some b=>some (.tup [a,b])|_,_=>none):=by
 simp only[nxt]at q
 split at q
 .rename_i ws zs h1 h2
  cases q
  exact⟨ws,zs,h1,h2,rfl⟩
 .cases q
theorem zv4{K:PySem.W.Frag}{b c:Bool}{a1 a2:Addr}{u v:W}{P1 P2:(Nat->Addr)->Nat->Hp->Prop}(s1:Src K b a1 u P1)(s2:Src K c a2 v P2):ItOk K (nxt .zip (.tup [u,v])) (IteZ K b c a1 a2) (λm n H=>P1 m n H/\P2 m n H):=by
 refine⟨λm n H m' n' H' hn hm kt kf ⟨q1,q2⟩=>⟨s1.1 m n H m' n' H' hn hm kt kf q1,s2.1 m n H m' n' H' hn hm kt kf q2⟩,λm h H r ⟨q1,q2⟩ i=>⟨λw e=>?_,λe=>?_⟩⟩
 .obtain⟨ws,zs,e1,e2,e3⟩:=zml e
  obtain⟨xs,g1,g2⟩:=s1.2 m h H ws r q1 e1
  obtain⟨ys,g3,g4⟩:=s2.2 m h H zs r q2 e2
  cases z1:ws[i]? with
  |none=>rw[z1]at e3;cases e3
  |some w1=>
   cases z2:zs[i]? with
   |none=>rw[z1,z2]at e3;cases e3
   |some w2=>
    rw[z1,z2]at e3;cases e3
    obtain⟨v1,k1,k2⟩:=g2.get z1
    obtain⟨v2,k3,k4⟩:=g4.get z2
    refine⟨⟨xs,ys,v1,v2,g1,g3,k1,k3⟩,λy H3 ⟨T,x3,y3,f1,f2,f3,f4,f5⟩=>?_⟩
    subst f1 f3
    have t1:=f4 xs g1
    have t2:=f5 ys g3
    rw[k1]at t1;cases t1
    rw[k3]at t2;cases t2
    obtain⟨st,r'⟩:=r.more (u:=.tup [v1,v2]) f2
    exact⟨st,r',.tup (SqT.of zak) (.cons (k2.stp st) (.cons (k4.stp st) .nil))⟩
 .obtain⟨ws,zs,e1,e2,e3⟩:=zml e
  obtain⟨xs,g1,g2⟩:=s1.2 m h H ws r q1 e1
  obtain⟨ys,g3,g4⟩:=s2.2 m h H zs r q2 e2
  refine⟨xs,ys,g1,g3,?_⟩
  cases z1:ws[i]? with
  |none=>exact .inl (by rw[g2.length];exact vaz.mp z1)
  |some w1=>
   cases z2:zs[i]? with
   |none=>exact .inr (by rw[g4.length];exact vaz.mp z2)
   |some w2=>rw[z1,z2]at e3;cases e3
theorem zv5{elts:List Expr}{kx:Nat}{tp:Pos}(ha:SA X [a,b] fa)(hs:zaw a=true)(hs2:zaw b=true)(hg:Gl X "zip")(hm:X.mg "zip" = none):PI X (.Tuple elts kx tp) (.Call (.Name "zip" p) [a,b] [] pos) (lftI X.K .zip fa):=λpins s σ H R I z9=>z9.el λρ h m x h' f r ee o en k=>by
 have hx:∃u v,x=.tup [u,v]:=by
  simp only[nxt]at en
  split at en
  .exact⟨_,_,rfl⟩
  .cases en
 obtain⟨u,v,rfl⟩:=hx
 obtain⟨ws,zs,e1,e2,_⟩:=zml en
 refine zv3 hg hm ha (by rw[zah hs,zah hs2];rfl) (zah hs2) pins s σ H R I (.mk f r ee λvs H' m' s' r' q=>?_)
 obtain⟨v1,v2,rfl,q1,q2⟩:=reps2 q
 obtain⟨b1,a1,P1,rfl,o1,p1,x1⟩:=zp0 r' q1 e1
 obtain⟨b2,a2,P2,rfl,o2,p2,x2⟩:=zp0 r' q2 e2
 exact⟨b1,b2,a1,a2,rfl,x1,x2,k _ _ H' m' s' r' (zv4 o1 o2) ⟨p1,p2⟩⟩
end
section
variable{X:Cx}{a b c e o:Expr}{es:List Expr}{fa fb fc fo fr:FE}{pos p:Pos}{x:Str}
noncomputable def lftG(K:PySem.W.Frag)(t:Tg):TG:=λv σ H Q=>∃ρ h m w ρ',Fr K m h.n H σ ρ/\Rel K m h H/\VRep K m h.n H v w/\tgW t w h ρ=some ρ'/\∀σ',Fr K m h.n H σ' ρ'->Q σ' H
theorem lftG.el{K:PySem.W.Frag}{v:V}{σ:L2.St}{H:Hp}{P:Prop}{tg:Tg}{Q}(q:lftG K tg v σ H Q)(k:∀ρ h m w ρ',Fr K m h.n H σ ρ->Rel K m h H->VRep K m h.n H v w->tgW tg w h ρ=some ρ'->(∀σ',Fr K m h.n H σ' ρ'->Q σ' H)->P):P:=by
 obtain⟨ρ,h,m,w,h',f,r,e,eo,k'⟩:=q
 exact k ρ h m w h' f r e eo k'
theorem lftG.mk{K:PySem.W.Frag}{v:V}{σ:L2.St}{H:Hp}{m:Nat->Addr}{ρ ρ':En}{h:VH}{w:W}{tg:Tg}{Q}(f:Fr K m h.n H σ ρ)(r:Rel K m h H)(e:VRep K m h.n H v w)(eo:tgW tg w h ρ=some ρ')(k:∀σ',Fr K m h.n H σ' ρ'->Q σ' H):lftG K tg v σ H Q:=⟨ρ,h,m,w,ρ',f,r,e,eo,k⟩
theorem zv6{i:Nat}(hN:X.N.Nodup)(hi:X.N[i]?=some x)(hx:Loc X.env.scope x)(hf:X.fn x=true\/X.env.scope.names.lookup x=some .local):PG X (.Name x pos) (lftG X.K (.one i)):=λpins s σ H v u Q I ru z9=>z9.el λρ h m w ρ' f r q e k=>by
 cases e
 exact zld hN hi hx hf pins s σ H v u Q I ru (k _ (f.set q i))
noncomputable def NmOk(X:Cx)(e:Expr)(i:Nat):Prop:=∃x p,e=.Name x p/\X.N[i]?=some x/\Loc X.env.scope x/\(X.fn x=true\/X.env.scope.names.lookup x=some .local)
noncomputable def lftGs(K:PySem.W.Frag)(is:List Nat):TGs:=λvs σ H Q=>∃ρ m n ws ρ',Fr K m n H σ ρ/\VReps K m n H vs ws/\za5 is ws ρ=some ρ'/\∀σ',Fr K m n H σ' ρ'->Q σ' H
theorem zp1(hN:X.N.Nodup):∀{es:List Expr} {is:List Nat},Paired (NmOk X) es is->PGs X es (lftGs X.K is)/\(assignEach es X.env).length=es.length/\(assignEach es X.env).findIdx? (·.1)=none
 |_,_,.nil=>by
  refine⟨λpins s σ H vs us Q I ru ⟨ρ,m,n,ws,ρ',f,q,e,k⟩=>?_,rfl,rfl⟩
  cases ws with
  |nil=>cases e;cases q;exact zqv pins s σ H [] us Q I ru ⟨rfl,k _ f⟩
  |cons _ _=>cases e
 |e::es,i::is,.cons ⟨x,p,he,hi,hx,hf⟩ t=>by
  subst he
  obtain⟨h1,h2,h3⟩:=zp1 hN t
  refine⟨λpins s σ H vs us Q I ru ⟨ρ,m,n,ws,ρ',f,q,e,k⟩=>?_,?_,?_⟩
  .cases q with
   |nil=>cases e
   |cons q qs=>
    exact znx (zld hN hi hx hf) h1 rfl pins s σ H _ us Q I ru ⟨_,_,rfl,ρ.set i (some _),m,n,_,ρ',f.set q i,qs,e,k⟩
  .show(assignEach es X.env).length+1=es.length+1
   rw[h2]
  .show List.findIdx? _ ((false,_)::assignEach es X.env)=none
   rw[List.findIdx?_cons,h3];rfl
theorem zfj:∀{is:List Nat} {ws:List W} {ρ ρ':En},za5 is ws ρ=some ρ'->ws.length=is.length
 |[],[],_,_,_=>rfl
 |[],_::_,_,_,e=>by cases e
 |_::_,[],_,_,e=>by cases e
 |_::_,_::_,_,_,e=>by
  rw[vah,vah,zfj (by simpa only[za5]using e)]
theorem zv7{t:TGs}{n k:Nat}(hc:X.calm=true)(h:PGs X es t)(hn:(assignEach es X.env).length=n)(hst:(assignEach es X.env).findIdx? (·.1)=none) :
 PG X (.Tuple es k pos) (λv σ H Q=>∃a xs,v=.ref a/\SqL X.K H a xs/\xs.length=n/\t xs σ H Q):=by
 intro pins s σ H v u Q I r hw
 obtain⟨a,xs,rfl,hq,hl,hw⟩:=hw
 cases r
 obtain⟨its,rv,ht,hz⟩:=I.list hq
 rw[assign_Tuple]
 refine vaa (wpAny_standAt ?_)
 unfold unpack
 have hsz:(assignEach es X.env).length=its.toArray.size:=by rw[hn,<-hl,rv.length,van]
 rw[hst,hsz]
 refine vaa (wpAny_holding (PySem.W.kun_itemsOf (I.ok.hd hc) ht.isList λh' hx=>?_))
 have I1:Inv X pins σ H {s with heap:=h'}:=I.kept (t':=s.toks) λb o e=>hx b o (va4 (vaq e)) e
 exact h pins _ σ H xs _ Q I1 (by simpa using rv) hw
theorem zmm{is:List Nat}{k:Nat}(hc:X.calm=true)(hN:X.N.Nodup)(hs:Paired (NmOk X) es is):PG X (.Tuple es k pos) (lftG X.K (.many is)):=λpins s σ H v u Q I ru z9=>z9.el λρ h m w ρ' f r q e k=>by
 obtain⟨h1,h2,h3⟩:=zp1 hN hs
 simp only[tgW]at e
 cases z:seqW h w with
 |none=>rw[z]at e;cases e
 |some ws=>
  rw[z]at e
  have e:za5 is ws ρ=some ρ':=e
  obtain⟨p,vs,rfl,hq,qs⟩:=zde r q z
  have hl:vs.length=es.length:=by rw[qs.length,zfj e,hs.length]
  rcases hq with hq|hq
  .exact zv7 hc h1 h2 h3 pins s σ H _ u Q I ru ⟨p,vs,rfl,hq,hl,ρ,m,h.n,ws,ρ',f,qs,e,k⟩
  .exact ztu hc h1 h2 h3 pins s σ H _ u Q I ru ⟨p,vs,rfl,hq,hl,ρ,m,h.n,ws,ρ',f,qs,e,k⟩
theorem zov{K:PySem.W.Frag}{m:Nat->Addr}{n:Nat}{H:Hp}{σ:L2.St}{ρ:En}{ow fr:List Str}{ix:List Nat}(f:Fr K m n H σ ρ):Fr K m n H (cσ ow fr ix σ) (inner ow.length ix ρ):=by
 unfold cσ inner
 refine⟨by simp,λi w e=>?_⟩
 by_cases hi:i<ow.length
 .rw[List.getElem?_append_left (by simpa using hi)]at e
  rw[List.getElem?_replicate]at e
  split at e<;>cases e
 .rw[List.getElem?_append_right (by simpa using Nat.not_lt.mp hi)]at e
  rw[List.getElem?_append_right (by simpa using Nat.not_lt.mp hi)]
  simp only[List.length_replicate,vaf]at e ⊢
  rw[List.getElem?_map]at e ⊢
  cases z:ix[i-ow.length]? with
  |none=>rw[z]at e;cases e
  |some j=>
   rw[z]at e
   simp only[vat,Option.some.injEq]at e ⊢
   have e3:ρ[j]?=some (some w):=by
    cases q:ρ[j]? with
    |none=>rw[q]at e;cases e
    |some o=>rw[q]at e;rw[<-e];rfl
   obtain⟨v,h1,h2⟩:=f.val j w e3
   exact⟨v,by rw[h1];rfl,h2⟩
theorem zim{nx:Nat->VH->Option (Option W)}{tg:W->VH->En->Option En}{c e:FE}:∀{f i:Nat} {ρ:En} {h:VH} {acc ys:List W} {h':VH},lcG nx tg c e f i ρ h acc=.ok ys h'->acc.length<=ys.length
 |0,_,_,_,_,_,_,q=>by cases q
 |f+1,i,ρ,h,acc,ys,h',q=>by
  simp only[lcG]at q
  split at q
  .cases q
  .cases q;simp
  .split at q
   .cases q
   .refine zab q λb h1 e1 e2=>?_
    split at e2
    .refine zab e2 λy h2 e3 e4=>?_
     have:=zim e4
     rw[vah]at this
     omega
    .exact zim e2
    .cases e2
theorem zv8{nx:Nat->VH->Option (Option W)}{tg:W->VH->En->Option En}{c e:FE}{f i:Nat}{ρ:En}{h:VH}{acc ys:List W}{h':VH}(q:lcG nx tg c e (f+1) i ρ h acc=.ok ys h'):∃o,nx i h=some o:=by
 simp only[lcG]at q
 split at q
 .cases q
 .exact⟨_,by assumption⟩
 .exact⟨_,by assumption⟩
theorem zow{H:Hp}{a:Addr}{o:HO}(h:H a=some o):upd H a o=H:=by
 funext b
 unfold upd
 split
 .rename_i e;rw[e,h]
 .rfl
noncomputable abbrev gLc(kd:Kd)(fa:FE)(t:Tg)(ow:Nat)(ix:List Nat)(fc fe:FE):FE:=λρ h=>(fa ρ h).bind λx h=>(lcG (nxt kd x) (tgW t) fc fe fuel 0 (inner ow ix ρ) h []).bind λys h=>if Nat.ble ys.length big then .ok (.ref h.n) (h.new (.lst ys))else .no
theorem lc_ok{K:PySem.W.Frag}{kd:Kd}{t:Tg}{ow fr:List Str}{ix:List Nat}{fe:FE}{σ:L2.St}{H:Hp}{Q:VK}(q:lft K (gLc kd fa t ow.length ix fc fe) σ H Q):tLC K (cσ ow fr ix) (lftI K kd fa) (lftG K t) (lftT K fc) (lft K fe) σ H Q:=by
 refine q.el λρ h m w h' f r e k=>?_
 refine zab e λx h1 e1 e2=>?_
 refine zab e2 λys h2 e3 e4=>?_
 split at e4
 case isFalse=>cases e4
 rename_i hz
 cases e4
 have hz:=va1 hz
 refine(.mk f r e1 ?_ λJ P H1 m1 s1 r1 J1 p1 D hD hK=>?_)
 .exact zv8 (f:=999999) e3
 obtain⟨st0,r0⟩:=r1.more (u:=.lst []) hD
 have p0:=J1.1 m1 h1.n H1 m1 h1.n (upd H1 D (.lst [])) (vae _) (λ_ _=>rfl) (λb vs q=>st0.tup b vs q) (λb o u q=>st0.frz b o u q) p1
 refine⟨λi fl σ' H' vs=>∃ρ' h3 m3 acc,lcG (nxt kd x) (tgW t) fc fe fl i ρ' h3 acc=.ok ys h2/\Fr K m3 h3.n H' σ' ρ'/\Rel K m3 h3 H'/\H' D=some (.lst vs)/\VReps K m3 h3.n H' vs acc.reverse/\(∀i,i<h3.n->m3 i≠D)/\Stp m1 h1.n H1 m3 h3.n H'/\P m3 h3.n H',
  ⟨fuel,inner ow.length ix ρ,h1,m1,[],e3,zov ((f.stp s1).stp st0),r0,zak,.nil,r1.out hD,st0,p0⟩,?_⟩
 rintro i fl σ' H' vs ⟨ρ',h3,m3,acc,e5,f3,r3,d3,q3,o3,s3,p3⟩
 refine⟨d3,?_⟩
 cases fl with
 |zero=>cases e5
 |succ fl=>
  simp only[lcG]at e5
  obtain⟨j1,j2⟩:=J1.2 m3 h3 H' r3 p3 i
  split at e5
  .cases e5
  .rename_i hn
   cases e5
   refine .inl ⟨j2 hn,?_⟩
   obtain⟨st,r'⟩:=r3.adopt (o:=.lst acc.reverse) (u:=.lst vs) o3 d3 (λ_ z=>nomatch z) (λ_ _ z=>nomatch z) (s1.trans s3) (by
    cases z:H D with
    |none=>rfl
    |some o=>
     have:=s1.keep D o (λi hi z2=>(r1.out hD) i (vai hi s1.le) ((s1.same i hi).trans z2)) z
     rw[hD]at this;cases this) λ_ mv=>⟨_,zak,q3.map mv⟩
   rw[zow d3]at st r'
   refine k _ _ _ st r' ?_
   have:VRep K (λi=>if i=h2.n then D else m3 i) (h2.n+1) H' (.ref ((λi=>if i=h2.n then D else m3 i) h2.n)) (.ref h2.n):=.ref (Nat.lt_succ_self _)
   simp only[if_true]at this
   exact this
  .rename_i w hn
   obtain⟨j3,j4⟩:=j1 w hn
   refine .inr ⟨j3,λy H4 hy=>?_⟩
   obtain⟨s4,r4,q4⟩:=j4 y H4 hy
   split at e5
   .cases e5
   .rename_i ρ5 ht
    refine⟨ρ',h3,m3,w,ρ5,f3.stp s4,r4,q4,ht,λσ5 f5=>?_⟩
    refine zab e5 λbv h6 e6 e7=>?_
    have d4:H4 D=some (.lst vs):=s4.keep D _ o3 d3
    have s14:=s3.trans s4
    have p4:=J1.1 m3 h3.n H' m3 h3.n H4 (vae _) (λ_ _=>rfl) (λb vs q=>s4.tup b vs q) (λb o u q=>s4.frz b o u q) p3
    cases bv<;>try cases e7
    rename_i bb
    refine⟨ρ5,h3,m3,bb,h6,f5,r4,e6,λH6 m6 s6 r6=>?_⟩
    have o6:=s6.out o3 d4
    have d6:H6 D=some (.lst vs):=s6.keep D _ o3 d4
    have p6:=J1.1 m3 h3.n H4 m6 h6.n H6 s6.le s6.same (λb vs q=>s6.tup b vs q) (λb o u q=>s6.frz b o u q) p4
    cases bb with
    |false=>
     simp only[vak,if_false]
     exact⟨fl,Nat.lt_succ_self _,ρ5,h6,m6,acc,e7,f5.stp s6,r6,d6,(q3.stp s4).stp s6,o6,s14.trans s6,p6⟩
    |true=>
     simp only[if_true]
     refine zab e7 λy7 h7 e8 e9=>?_
     refine⟨ρ5,h6,m6,y7,h7,f5.stp s6,r6,e8,λv7 H7 m7 s7 r7 q7=>?_⟩
     have o7:=s7.out o6 d6
     have d7:H7 D=some (.lst vs):=s7.keep D _ o6 d6
     have p7:=J1.1 m6 h6.n H6 m7 h7.n H7 s7.le s7.same (λb vs q=>s7.tup b vs q) (λb o u q=>s7.frz b o u q) p6
     have q37:=((q3.stp s4).stp s6).stp s7
     have hlen:=zim e9
     rw[vah]at hlen
     refine⟨d7,?_,fl,Nat.lt_succ_self _,ρ5,h7,m7,y7::acc,e9,?_⟩
     .rw[q37.length,List.length_reverse]
      have:big=sizeLine:=rfl
      omega
     .obtain⟨st8,r8,mv⟩:=r7.side (u:=.lst (vs++[v7])) d7 (λ_ z=>nomatch z) (λ_ _ z=>nomatch z) o7 ((s14.trans s6).trans s7) hD
      have kt:∀b us,H7 b=some (.tup us)->upd H7 D (.lst (vs++[v7])) b=some (.tup us):=λb us q=>by rw[zae (ne_of q d7 λz=>nomatch z)];exact q
      have kf:∀b o u,H7 b=some (.frz o u)->upd H7 D (.lst (vs++[v7])) b=some (.frz o u):=λb o u q=>by rw[zae (ne_of q d7 λz=>nomatch z)];exact q
      refine⟨⟨(f5.stp s6).len,λi w e=>let⟨v,h1,h2⟩:=((f5.stp s6).stp s7).val i w e;⟨v,h1,mv h2⟩⟩,r8,zak,?_,o7,st8,J1.1 m7 h7.n H7 m7 h7.n _ (vae _) (λ_ _=>rfl) kt kf p7⟩
      rw[List.reverse_cons]
      exact(q37.map mv).append (.cons (mv q7) .nil)
end
noncomputable def FlOk(K:PySem.W.Frag)(m:Nat->Addr)(n:Nat)(H:Hp)(D:Ends):Fl->Prop
 |.nx ρ=>∀σ,Fr K m n H σ ρ->D.nx σ H
 |.bk ρ=>∀σ,Fr K m n H σ ρ->D.bk σ H
 |.ct ρ=>∀σ,Fr K m n H σ ρ->D.ct σ H
 |.rt w=>∀v,VRep K m n H v w->D.rt v H
noncomputable def lftS(K:PySem.W.Frag)(f:FS):TS:=λD σ H=>∃ρ h m fl h',Fr K m h.n H σ ρ/\Rel K m h H/\f ρ h=.ok fl h'/\∀H' m',Stp m h.n H m' h'.n H'->Rel K m' h' H'->FlOk K m' h'.n H' D fl
theorem lftS.el{K:PySem.W.Frag}{D:Ends}{σ:L2.St}{H:Hp}{P:Prop}{fa:FS}(q:lftS K fa D σ H)(k:∀ρ h m fl h',Fr K m h.n H σ ρ->Rel K m h H->fa ρ h=.ok fl h'->(∀H' m',Stp m h.n H m' h'.n H'->Rel K m' h' H'->FlOk K m' h'.n H' D fl)->P):P:=by
 obtain⟨ρ,h,m,w,h',f,r,e,k'⟩:=q
 exact k ρ h m w h' f r e k'
theorem lftS.mk{K:PySem.W.Frag}{D:Ends}{σ:L2.St}{H:Hp}{m:Nat->Addr}{ρ:En}{h h':VH}{fl:Fl}{fa:FS}(f:Fr K m h.n H σ ρ)(r:Rel K m h H)(e:fa ρ h=.ok fl h')(k:∀H' m',Stp m h.n H m' h'.n H'->Rel K m' h' H'->FlOk K m' h'.n H' D fl):lftS K fa D σ H:=⟨ρ,h,m,fl,h',f,r,e,k⟩
noncomputable abbrev SS(X:Cx)(st:Stmt)(f:FS):Prop:=PS X st (lftS X.K f)
noncomputable abbrev SSs(X:Cx)(st:List Stmt)(f:FS):Prop:=PSs X st (lftS X.K f)
section
variable{X:Cx}{a b c e o:Expr}{es:List Expr}{fa fb fc fo fr:FE}{pos p:Pos}{x:Str}{st:Stmt}{sts:List Stmt}{ga gb:FS}
noncomputable abbrev gSkip:FS:=λρ h=>.ok (.nx ρ) h
noncomputable abbrev gSeq(ga gb:FS):FS:=λρ h=>(ga ρ h).bind λfl h=>match fl with|.nx ρ=>gb ρ h|fl=>.ok fl h
theorem zr3:SSs X [] gSkip:=zqr.imp λD σ H z9=>z9.el λρ h m fl h' f r e k=>by cases e;exact k H m .refl r σ f
theorem zr4:SS X (.Pass pos) gSkip:=zqs.imp λD σ H z9=>z9.el λρ h m fl h' f r e k=>by cases e;exact k H m .refl r σ f
theorem zv9:SS X (.Break pos) (λρ h=>.ok (.bk ρ) h):=znv.imp λD σ H z9=>z9.el λρ h m fl h' f r e k=>by cases e;exact k H m .refl r σ f
theorem zwa:SS X (.Continue pos) (λρ h=>.ok (.ct ρ) h):=zib.imp λD σ H z9=>z9.el λρ h m fl h' f r e k=>by cases e;exact k H m .refl r σ f
theorem zox(h1:SS X st ga)(h2:SSs X sts gb):SSs X (st::sts) (gSeq ga gb):=(znu h1 h2).imp λD σ H z9=>z9.el λρ h m fl h' f r e k=>by
 refine zab e λfl1 h1 e1 e2=>?_
 refine(.mk f r e1 λH1 m1 s1 r1=>?_)
 cases fl1 with
 |nx ρ1=>exact λσ1 f1=>⟨ρ1,h1,m1,fl,h',f1,r1,e2,λH' m' s' r'=>k H' m' (s1.trans s') r'⟩
 |bk ρ1=>cases e2;exact k H1 m1 s1 r1
 |ct ρ1=>cases e2;exact k H1 m1 s1 r1
 |rt w=>cases e2;exact k H1 m1 s1 r1
theorem ss_no:SS X st (λ_ _=>.no):=znw.imp λD σ H z9=>z9.el λρ h m fl h' f r e k=>by cases e
noncomputable def zhl:Expr->Bool
 |.ListComp .. |.SetComp .. |.DictComp ..=>false
 |_=>true
theorem zgi{e:Expr}{t:Option Expr}{l:Nat}{env:Env}(h:zhl e=true):swapsWith e t l env=pure false:=by
 cases e<;>first|rfl|cases h
theorem zr5(he:SE X e fa)(hs:zhl e=true):SS X (.Expr e pos) (λρ h=>(fa ρ h).bind λ_ h=>.ok (.nx ρ) h):=(zqt he (zgi hs)).imp λD σ H z9=>z9.el λρ h m fl h' f r e k=>by
 refine zab e λw h1 e1 e2=>?_
 cases e2
 exact(.mk f r e1 λv H1 m1 s1 r1 q1=>k H1 m1 s1 r1 σ (f.stp s1))
theorem zwb(he:SE X e fa):SS X (.Return (some e) pos) (λρ h=>(fa ρ h).bind λw h=>.ok (.rt w) h):=(zts he).imp λD σ H z9=>z9.el λρ h m fl h' f r e k=>by
 refine zab e λw h1 e1 e2=>?_
 cases e2
 exact(.mk f r e1 λv H1 m1 s1 r1 q1=>k H1 m1 s1 r1 v q1)
theorem zr6:SS X (.Return none pos) (λρ h=>(Res.ok W.non h).bind λw h=>.ok (.rt w) h):=zqu.imp λD σ H z9=>z9.el λρ h m fl h' f r e k=>by
 cases e
 exact k H m .refl r .non .non
noncomputable abbrev gSet(i:Nat)(fa:FE):FS:=λρ h=>(fa ρ h).bind λw h=>.ok (.nx (ρ.set i (some w))) h
theorem zp2{K:PySem.W.Frag}{i:Nat}{D:Ends}{σ:L2.St}{H:Hp}(q:lftS K (gSet i fa) D σ H):lft K fa σ H λv H1=>gName i v σ H1 D.nx:=by
 refine q.el λρ h m fl h' f r e k=>?_
 refine zab e λw h1 e1 e2=>?_
 cases e2
 exact(.mk f r e1 λv H1 m1 s1 r1 q1=>k H1 m1 s1 r1 _ ((f.stp s1).set q1 i))
theorem zp3{i:Nat}{pos':Pos}(hN:X.N.Nodup)(hi:X.N[i]?=some x)(hx:Loc X.env.scope x)(hf:X.fn x=true\/X.env.scope.names.lookup x=some .local)(he:SE X e fa)
 (hs:swapsWith e (some (.Name x pos')) pos.line X.env=pure false):SS X (.Assign [.Name x pos'] e pos) (gSet i fa):=(ztw hN hi hx he hs hf).imp λD σ H q=>zp2 q
theorem zoy{i:Nat}{pos' lp:Pos}{ow fr:List Str}{ix:List Nat}{scope:Scope}{tg iter elt:Expr}{ifs:List Expr}{kd:Kd}{t:Tg}{fe:FE}(hN:X.N.Nodup)(hi:X.N[i]?=some x)(hx:Loc X.env.scope x)(hf:X.fn x=true\/X.env.scope.names.lookup x=some .local)
 (S:CompScope X ow fr ix scope) (hc:X.calm=true) (hI:PI X tg iter (lftI X.K kd fa)) (hg:∀C s₀ H₀ ex,PG (X.comp (ow++fr) scope C s₀ H₀ ex) tg (lftG X.K t)) (ht:∀C s₀ H₀ ex,PTs (X.comp (ow++fr) scope C s₀ H₀ ex) ifs (lftT X.K fc))
 (he:∀C s₀ H₀ ex,PE (X.comp (ow++fr) scope C s₀ H₀ ex) elt (lft X.K fe)) (hsw:swapsWith (.ListComp elt [⟨tg,iter,ifs,0⟩] scope lp) (some (.Name x pos')) pos.line X.env=pure true) (hs:∀x,foldedSetIterable iter X.env x=pure x) :
 SS X (.Assign [.Name x pos'] (.ListComp elt [⟨tg,iter,ifs,0⟩] scope lp) pos) (gSet i (gLc kd fa t ow.length ix fc fe)):=
 (zog hN hi hx S hc hI hg ht he hsw hf hs).imp λD σ H q=>lc_ok (zp2 q)
theorem se_lc{lp:Pos}{ow fr:List Str}{ix:List Nat}{scope:Scope}{tg iter elt:Expr}{ifs:List Expr}{kd:Kd}{t:Tg}{fe:FE}
 (S:CompScope X ow fr ix scope) (hc:X.calm=true) (hI:PI X tg iter (lftI X.K kd fa)) (hg:∀C s₀ H₀ ex,PG (X.comp (ow++fr) scope C s₀ H₀ ex) tg (lftG X.K t)) (ht:∀C s₀ H₀ ex,PTs (X.comp (ow++fr) scope C s₀ H₀ ex) ifs (lftT X.K fc))
 (he:∀C s₀ H₀ ex,PE (X.comp (ow++fr) scope C s₀ H₀ ex) elt (lft X.K fe)) (hs:∀x,foldedSetIterable iter X.env x=pure x) :
 SE X (.ListComp elt [⟨tg,iter,ifs,0⟩] scope lp) (gLc kd fa t ow.length ix fc fe):=(pe_lc S hc hI hg ht he hs).imp λσ H Q q=>lc_ok q
noncomputable def noTup:Expr->Bool
 |.Tuple ..=>false
 |_=>true
theorem zmn{es:List Expr}{k:Nat}{e:Expr}{l:Nat}{p:Pos}{env:Env}:swapsWithSole [.Tuple es k p] e l env=pure false:=by
 cases e<;>rfl
theorem zky{t:Expr}{e:Expr}{env:Env}(h:noTup e=true):swappedStores [t] e env=pure none:=by
 cases e<;>first|(cases t<;>rfl)|cases h
theorem zwc{is:List Nat}{k:Nat}(hc:X.calm=true)(hN:X.N.Nodup)(hs:Paired (NmOk X) es is)(he:SE X e fa)(ht:noTup e=true) :
 SS X (.Assign [.Tuple es k p] e pos) (λρ h=>(fa ρ h).bind λw h=>.of ((tgW (.many is) w h ρ).map .nx) h):=(zpn he (zmm hc hN hs) zmn (zky ht) rfl).imp λD σ H z9=>z9.el λρ h m fl h' f r e k=>by
 refine zab e λw h1 e1 e2=>?_
 obtain⟨e2,e3⟩:=of_ok e2
 subst e3
 cases z:tgW (.many is) w h' ρ with
 |none=>rw[z]at e2;cases e2
 |some ρ'=>
  rw[z]at e2;cases e2
  exact(.mk f r e1 λv H1 m1 s1 r1 q1=>(.mk (f.stp s1) r1 q1 z λσ' f'=>k H1 m1 s1 r1 σ' f'))
noncomputable def zel:Expr->Bool
 |.Slice ..=>false
 |_=>true
theorem zkz{o i:Expr}{p:Pos}{env:Env}(h:zel i=true)(v:Value):assign (.Subscript o i p) env v=(do
 let ov <-holding [v] (eval o env)
 let iv <-holding [v,ov] (eval i env)
 standAt p
 holding [v,ov,iv] (setItem ov iv v)
 release [v,ov,iv] []):=by
 cases i<;>first|rfl|cases h
noncomputable abbrev gPut(fo fi fv:FE):FS:=λρ h=>(fv ρ h).bind λw h=>(fo ρ h).bind λx h=>(fi ρ h).bind λy h=>match x,y with
 |.ref a,.int j=>(match h.get a with
  |some (.lst ws)=>(match L2.ixN ws.length j with
   |some k=>.ok (.nx ρ) (h.set a (.lst (ws.set k w)))
   |none=>.no)
  |_=>.no)
 |.ref a,y=>putD ρ a y w h
 |_,_=>.no
theorem zmo{o i e:Expr}{l:Nat}{p:Pos}{env:Env}:swapsWithSole [.Subscript o i p] e l env=pure false:=by
 cases e<;>rfl
theorem zin{o i e:Expr}{p:Pos}{env:Env}:swappedStores [.Subscript o i p] e env=pure none:=by
 cases e<;>rfl
theorem zjo{K:PySem.W.Frag}{m:Nat->Addr}{n:Nat}{H:Hp}{x:Str}{w:W}:∀{vs:List (Str×V)} {ws:List W},VReps K m n H (vs.map (·.2)) ws->lookF x (vs.map (·.1)) ws=some w->∃v,vs.lookup x=some v/\VRep K m n H v w
 |[],_,_,e=>by unfold lookF at e;cases e
 |(y,v)::vs,ws,q,e=>by
  rw[vam]at q e
  obtain⟨w0,ws,rfl,q1,q2⟩:∃w' ws',ws=w'::ws'/\VRep K m n H v w'/\VReps K m n H (vs.map (·.2)) ws':=by cases q with|cons a b=>exact⟨_,_,rfl,a,b⟩
  unfold lookF at e
  by_cases z:y=x
  .rw[if_pos z]at e
   cases e
   exact⟨v,by rw[va6,z,beq_self_eq_true],q1⟩
  .rw[if_neg z]at e
   obtain⟨v',h1,h2⟩:=zjo q2 e
   exact⟨v',by rw[va6,beq_eq_false_iff_ne.mpr (Ne.symm z)];exact h1,h2⟩
theorem zfk{x:Str}{v:V}:∀(vs:List (Str×V)),(putF x v vs).map (·.1)=putN x (vs.map (·.1))
 |[]=>rfl
 |(y,u)::vs=>by
  unfold putF
  rw[vam]
  unfold putN
  by_cases z:y=x
  .rw[if_pos z,if_pos z];rfl
  .rw[if_neg z,if_neg z,vam,zfk vs]
theorem zhm{K:PySem.W.Frag}{m:Nat->Addr}{n:Nat}{H:Hp}{x:Str}{v:V}{w:W}(q:VRep K m n H v w):∀{vs:List (Str×V)} {ws:List W},VReps K m n H (vs.map (·.2)) ws->VReps K m n H ((putF x v vs).map (·.2)) (putV x w (vs.map (·.1)) ws)
 |[],_,r=>by cases r;exact .cons q .nil
 |(y,u)::vs,ws,r=>by
  rw[vam]at r
  obtain⟨w0,ws,rfl,q1,q2⟩:∃w' ws',ws=w'::ws'/\VRep K m n H u w'/\VReps K m n H (vs.map (·.2)) ws':=by cases r with|cons a b=>exact⟨_,_,rfl,a,b⟩
  unfold putF
  rw[vam]
  unfold putV
  by_cases z:y=x
  .rw[if_pos z,if_pos z];exact .cons q q2
  .rw[if_neg z,if_neg z];exact .cons q1 (zhm q q2)
theorem zwd{C:Addr}{x:Str}(c:Cls X.K C)(na:zcr X.K C x)(he:SE X e fa)(hb:attributeBase e x X.env (eval e X.env)=eval e X.env):SE X (.Attribute e x pos) (λρ h=>(fa ρ h).bind λo h=>.of (attW C x o h) h):=
 (zub he hb).imp λσ H Q z9=>z9.el λρ h m w h' f r e k=>by
   refine zab e λo h1 e1 e2=>?_
   obtain⟨e2,e3⟩:=of_ok e2
   subst e3
   refine(.mk f r e1 λv H1 m1 s1 r1 q1=>?_)
   unfold attW at e2
   split at e2
   .rename_i i
    split at e2
    .rename_i D xs ws g
     split at e2
     .rename_i hD
      subst hD
      cases q1
      obtain⟨dx,vs,p1,p0,p2⟩:=r1.ins g
      rw[<-p0]at e2
      obtain⟨v',h2,h3⟩:=zjo p2 e2
      exact⟨_,_,dx,vs,v',rfl,p1,c,na,h2,k v' H1 m1 s1 r1 h3⟩
     .cases e2
    .cases e2
   .cases e2
theorem zwe{C:Addr}{x:Str}{pos':Pos}(c:Cls X.K C)(na:zcr X.K C x)(ho:SE X o fo)(hv:SE X e fb)(hs:swapsWith e (some (.Attribute o x pos')) pos.line X.env=pure false):SS X (.Assign [.Attribute o x pos'] e pos) (λρ h=>(fb ρ h).bind λw h=>(fo ρ h).bind λo h=>satW ρ C x o w h):=
 (zuc ho hv hs).imp λD σ H z9=>z9.el λρ h m fl h' f r e k=>by
   refine zab e λw h1 e1 e2=>?_
   refine zab e2 λow h2 e3 e4=>?_
   refine(.mk f r e1 λv H1 m1 s1 r1 q1=>(.mk (f.stp s1) r1 e3 λvo H2 m2 s2 r2 q2=>?_))
   unfold satW at e4
   split at e4
   .rename_i i
    split at e4
    .rename_i D' xs ws g
     split at e4
     .rename_i hc
      cases e4
      rw[vab,vaw]at hc
      obtain⟨hD,hl⟩:=hc
      subst hD
      cases q2
      obtain⟨dx,vs,p1,p0,p2⟩:=r2.ins g
      have hl':vs.length<1000:=by
       have:=zal.mp hl
       rw[<-p0,vaf]at this;exact this
      refine⟨m2 i,_,dx,vs,rfl,p1,c,na,hl',?_⟩
      have qv:=q1.stp s2
      obtain⟨st,r'⟩:=r2.write (i:=i) (o:=.ins D' (putN x xs) (putV x w xs ws)) (u:=.ins D' dx (putF x v vs)) (zaj g) p1 (λ_ z=>nomatch z) (λ_ _ z=>nomatch z) λst=>⟨dx,putF x v vs,zak,by rw[zfk,p0],by rw[<-p0];exact zhm (qv.stp st) (p2.stp st)⟩
      exact k _ m2 ((s1.trans s2).trans st) r' σ (((f.stp s1).stp s2).stp st)
     .cases e4
    .cases e4
   .cases e4
theorem zhn{α β:Type}{f:α->Option β}:∀{as:List α} {bs:List β} {a:α} {b:β},mapO f as=some bs->f a=some b->mapO f (as++[a])=some (bs++[b])
 |[],_,_,_,e,h=>by cases e;simp[mapO,h]
 |x::as,bs,a,b,e,h=>by
  simp only[mapO]at e
  cases z:f x with
  |none=>rw[z]at e;cases e
  |some y=>
   rw[z]at e
   simp only at e
   cases z2:mapO f as with
   |none=>rw[z2]at e;cases e
   |some ys=>
    rw[z2]at e;cases e
    rw[List.cons_append]
    simp only[mapO,z,zhn z2 h,List.cons_append]
theorem zwf(hu:X.A.units+2<cLine)(ho:SE X o fo)(hi:SE X a fa)(hv:SE X e fb)(hs:zel a=true):SS X (.Assign [.Subscript o a p] e pos) (gPut fo fa fb):=
 (zpn hv (ztv ho hi (zob.or (zu0 hu)) (zkz hs)) zmo zin rfl).imp λD σ H z9=>z9.el λρ h m fl h' f r e k=>by
   refine zab e λw h1 e1 e2=>?_
   refine zab e2 λx h2 e3 e4=>?_
   refine zab e4 λy h3 e5 e6=>?_
   refine(.mk f r e1 λv H1 m1 s1 r1 q1=>(.mk (f.stp s1) r1 e3 λvo H2 m2 s2 r2 q2=>(.mk ((f.stp s1).stp s2) r2 e5 λvi H3 m3 s3 r3 q3=>?_)))
   split at e6
   .rename_i l j
    split at e6
    .rename_i ws g
     split at e6
     .rename_i kk hk
      cases e6
      cases q3
      have q2':=q2.stp s3
      cases q2'
      obtain⟨vs,p1,p2⟩:=r3.lst g
      refine .inl ⟨m3 l,vs,j,kk,rfl,rfl,p1,by rw[p2.length];exact hk,?_⟩
      have qv:=((q1.stp s2).stp s3)
      obtain⟨st,r'⟩:=r3.write (i:=l) (o:=.lst (ws.set kk w)) (u:=.lst (vs.set kk v)) (zaj g) p1 (λ_ z=>nomatch z) (λ_ _ z=>nomatch z) λst=>⟨_,zak,VReps.set (qv.stp st) kk (p2.stp st)⟩
      exact k _ m3 (((s1.trans s2).trans s3).trans st) r' σ ((((f.stp s1).stp s2).stp s3).stp st)
     .cases e6
    .cases e6
   .rename_i l _
    unfold putD at e6
    split at e6
    .rename_i ks ws dk g hd
     split at e6
     .rename_i hc
      cases e6
      rw[vab]at hc
      have q2':=q2.stp s3
      cases q2'
      obtain⟨xs,p1,p2,p3,p4⟩:=r3.dt g
      obtain⟨b,rfl,kk⟩:=zeh q3 hd
      have hl:=p3.length
      rw[vaf]at hl
      have hlt:xs.length<sizeLine:=by rw[hl,sizeLine_eq];exact zal.mp hc.2
      have qv:=((q1.stp s2).stp s3)
      have hf:findX xs dk=none:=by
       rcases zge dk p2 p4 with⟨z,_⟩|⟨p,w',z,z2,_⟩
       .exact z
       .rw[z2]at hc;exact absurd hc.1 (by simp)
      have hp:putX xs dk b v=xs++[(dk,b,v)]:=by unfold putX;rw[hf];rfl
      obtain⟨u0,hu0,hn,hff,hmu⟩:∃u0:HO,H3 (m3 l)=some u0/\(∀t,u0≠HO.tup t)/\(∀o t,u0≠HO.frz o t)/\Mut (some u0):=by
       rcases p1 with p1|⟨_,p1⟩
       .exact⟨_,p1,(λ_ z=>nomatch z),(λ_ _ z=>nomatch z),True.intro⟩
       .exact⟨_,p1,(λ_ z=>nomatch z),(λ_ _ z=>nomatch z),True.intro⟩
      refine .inr ⟨m3 l,b,xs,dk,rfl,rfl,dt_DT p1 p2 p3,by rw[hu0];exact hmu,kk,hlt,?_⟩
      obtain⟨st,r'⟩:=r3.write (i:=l) (o:=.dt (ks++[y]) (ws++[w])) (u:=dtH (putX xs dk b v) (m3 l)) (zaj g) hu0 hn hff λst=>by
       rw[hp]at st ⊢
       refine⟨xs++[(dk,b,v)],.inl zak,?_,?_,?_⟩
       .rw[List.map_append,zhn p2 hd];rfl
       .rw[List.map_append];exact(p3.stp st).append (.cons (q3.stp st) .nil)
       .rw[List.map_append];exact(p4.stp st).append (.cons (qv.stp st) .nil)
      exact k _ m3 (((s1.trans s2).trans s3).trans st) r' σ ((((f.stp s1).stp s2).stp s3).stp st)
     .cases e6
    .cases e6
   .cases e6
theorem zio{M:Model}{A:Around}{E:Value->Shared->Prop}{s:Shared}{a b:Value}{T id:String}{Q:Value->Shared->Prop}(ha:s.TypeIs a T)(hb:s.TypeIs b T)
 (hI:typeLookup (.type T) (dunderI "add")=pure (some (.builtin id))) (hq:isSeqSlot (some (.builtin id))=true) (hfill:fillsNumberSlot (.type T) "add" = pure false) (hc:wpAny M A (call (.builtin id) [a,b]) Q E s):wpAny M A (inplaceOp .Add a b) Q E s:=by
 unfold inplaceOp
 refine wpAny_holding ?_
 have h1:fillsInplaceSlot (.type T) "add" (Operator.Add == .Add)=pure false:=by
  unfold fillsInplaceSlot
  show(typeLookup (.type T) (dunderI "add") >>= λfi=>pure (fi.isSome && !isSeqSlot fi))=_
  rw[hI,pure_bind,hq];rfl
 have h2:seqSlot? (.type T) (dunderI "add")=pure (some (.builtin id)):=by
  unfold seqSlot?
  rw[hI,pure_bind,hq];rfl
 refine vaa (wpAny_typeOf ha (vaa (wpAny_of_eq h1 ?_)))
 show wpAny M A (if false=true then _ else _) Q E s
 rw[if_neg Bool.false_ne_true]
 refine vaa (binaryOp1_none (nm:="add") ha hb hfill ?_)
 refine vaa (wpAny_of_eq h2 ?_)
 exact vaa (wpAny_rule hc)
noncomputable def rIcat:R2:=λx y H Q=>∃l b xs zs,x=.ref l/\y=.ref b/\H l=some (.lst xs)/\H b=some (.lst zs)/\xs.length+zs.length<=sizeLine/\Q (.ref l) (upd H l (.lst (xs++zs)))
theorem zwg:PIp X .Add rIcat:=by
 intro pins s σ H x y v u Q I rx ry h
 obtain⟨l,b,xs,zs,rfl,rfl,hH,hB,hz,q⟩:=h
 cases rx
 cases ry
 obtain⟨z,its,n,r,hl,e⟩:=I.lstM hH
 obtain⟨z2,its2,n2,r2,hl2,e2⟩:=I.lstM hB
 have hsz:its.toArray.size+its2.toArray.size<=sizeLine:=by rw[van,van];omega
 have hlong:¬(!its.toArray.isEmpty&&Builtin.List.listTooLong (its.toArray.size+its2.toArray.size))=true:=by
  rw[zjc hsz,Bool.and_false]
  exact Bool.false_ne_true
 refine zio (T:="list") (id:="list.__iadd__") ⟨_,e,rfl⟩ ⟨_,e2,rfl⟩ PySem.F.slot_list_iadd.lookup (by decide +kernel) noFill_list_add ?_
 refine call_meets PySem.F.slot_list_iadd ⟨_,e,rfl⟩ PySem.F.entry_list_iadd (PySem.F.args_list_iadd_2 _ _)
  (AutoSeq1.list___iadd___list_list_0 l its.toArray n b its2.toArray n2 hlong (by rw[van];omega) (by omega)) ⟨e,e2,?_⟩
 refine⟨.ref l,_,I.lset (its':=its++its2) hH e (by simp) (r.append r2) ?_,rfl,q⟩
 rw[vao]
 omega
noncomputable def ipOf:Operator->Option Op
 |.Add=>some .add|.Sub=>some .sub|.Mult=>some .mul|.FloorDiv=>some .fdiv
 |_=>none
noncomputable def rIp:Op->R2
 |.mul=>rI CMul λi j=>.int (i*j)
 |.fdiv=>rI CDiv λi j=>.int (i/j)
 |.add=>λx y H Q=>ipI (λi j=>i+j) x y H Q\/rIcat x y H Q
 |.sub=>ipI λi j=>i-j
 |_=>λ_ _ _ _=>False
theorem ip_ok{O:Operator}{o:Op}(e:ipOf O=some o):PIp X O (rIp o):=by
 cases O<;>cases e
 .intro pins s σ H x y v u Q I rx ry q
  rcases q with q|q
  .exact zty pins s σ H x y v u Q I rx ry q
  .exact zwg pins s σ H x y v u Q I rx ry q
 .exact ztz
 .exact zqx
 .exact zn0
theorem zwh{K:PySem.W.Frag}{O:Operator}{o:Op}(e:ipOf O=some o):OpV K (rIp o) (ipW o):=by
 intro m h H v u x y w h' Q r qv qu e2 k
 unfold ipW at e2
 split at e2
 .rename_i i j
  cases qv;cases qu
  split at e2
  .cases e2;exact .inl ⟨i,j,rfl,rfl,Wants.here k r (.int _)⟩
  .cases e2;exact⟨i,j,rfl,rfl,Wants.here k r (.int _)⟩
  .obtain⟨e2,rfl⟩:=of_ok e2
   cases z:opI .mul i j with
   |none=>rw[z]at e2;cases e2
   |some t=>
    rw[z]at e2;cases e2
    obtain⟨c1,rfl⟩:=zmf z
    exact⟨i,j,rfl,rfl,c1,Wants.here k r (.int _)⟩
  .obtain⟨e2,rfl⟩:=of_ok e2
   cases z:opI .fdiv i j with
   |none=>rw[z]at e2;cases e2
   |some t=>
    rw[z]at e2;cases e2
    obtain⟨c1,rfl⟩:=zmf z
    exact⟨i,j,rfl,rfl,c1,Wants.here k r (.int _)⟩
  .cases e2
 .rename_i i j
  split at e2
  .rename_i xs ys g1 g2
   split at e2
   .rename_i hz
    cases e2
    cases qv;cases qu
    obtain⟨vs,p1,p2⟩:=r.lst g1
    obtain⟨us,p3,p4⟩:=r.lst g2
    refine .inr ⟨m i,m j,vs,us,rfl,rfl,p1,p3,by rw[p2.length,p4.length];exact va1 hz,?_⟩
    obtain⟨st,r'⟩:=r.write (i:=i) (o:=.lst (xs++ys)) (u:=.lst (vs++us)) (zaj g1) p1 (λ_ z=>nomatch z) (λ_ _ z=>nomatch z) λst=>⟨_,zak,(p2.stp st).append (p4.stp st)⟩
    exact k _ _ m st r' (.ref (show i<h.n from zaj g1))
   .cases e2
  .cases e2
 .cases e2
noncomputable abbrev gAug(i:Nat)(o:Op)(fa:FE):FS:=λρ h=>match(ρ[i]?).join with
 |some x=>(fa ρ h).bind λy h=>(ipW o x y h).bind λz h=>.ok (.nx (ρ.set i (some z))) h
 |none=>.no
theorem zwi{i:Nat}{pos':Pos}{O:Operator}{o:Op}(eo:ipOf O=some o)(hN:X.N.Nodup)(hi:X.N[i]?=some x)(hx:Loc X.env.scope x)(hf:X.fn x=true\/X.env.scope.names.lookup x=some .local)(he:SE X e fa) :
 SS X (.AugAssign (.Name x pos') O e pos) (gAug i o fa):=(ztx hN hi hx he (ip_ok eo) hf).imp λD σ H z9=>z9.el λρ h m fl h' f r e k=>by
 have e:gAug i o fa ρ h=.ok fl h':=e
 simp only[gAug]at e
 cases z:(ρ[i]?).join with
 |none=>rw[z]at e;cases e
 |some x=>
  rw[z]at e
  simp only at e
  refine zab e λy h1 e1 e2=>?_
  refine zab e2 λw h2 e3 e4=>?_
  cases e4
  have e5:ρ[i]?=some (some x):=by
   cases q:ρ[i]? with
   |none=>rw[q]at z;cases z
   |some o=>rw[q]at z;rw[<-z];rfl
  obtain⟨v,p1,p2⟩:=f.val i x e5
  refine⟨v,p1,ρ,h,m,y,h1,f,r,e1,λu H1 m1 s1 r1 q1=>zwh eo m1 h1 H1 v u x y w h' _ r1 (p2.stp s1) q1 e3 λv' H' m' s' r' q'=>?_⟩
  exact k H' m' (s1.trans s') r' _ (((f.stp s1).stp s').set q' i)
noncomputable abbrev gIf(fc:FE)(ga gb:FS):FS:=λρ h=>(fc ρ h).bind λx h=>match x with|.bl true=>ga ρ h|.bl false=>gb ρ h|_=>.no
variable{sa sb:List Stmt}
theorem zwj(hc:ST X c fc)(ha:SSs X sa ga)(hb:SSs X sb gb):SS X (.If c sa sb pos) (gIf fc ga gb):=(ps_if hc ha hb).imp λD σ H z9=>z9.el λρ h m fl h' f r e k=>by
 refine zab e λx h1 e1 e2=>?_
 cases x<;>try cases e2
 rename_i c
 refine(.mk f r e1 λH1 m1 s1 r1=>?_)
 cases c with
 |true=>rw[if_pos rfl];exact(.mk (f.stp s1) r1 e2 λH' m' s' r'=>k H' m' (s1.trans s') r')
 |false=>simp only[vak,if_false];exact(.mk (f.stp s1) r1 e2 λH' m' s' r'=>k H' m' (s1.trans s') r')
theorem zr7{nx:Nat->VH->Option (Option W)}{tg:W->VH->En->Option En}{g:FS}{f i:Nat}{ρ:En}{h:VH}{fl:Fl}{h':VH}(q:forG nx tg g (f+1) i ρ h=.ok fl h'):∃o,nx i h=some o:=by
 simp only[forG]at q
 split at q
 .cases q
 .exact⟨_,by assumption⟩
 .exact⟨_,by assumption⟩
noncomputable abbrev gFor(kd:Kd)(fa:FE)(t:Tg)(g:FS):FS:=λρ h=>(fa ρ h).bind λx h=>forG (nxt kd x) (tgW t) g fuel 0 ρ h
theorem zwk{K:PySem.W.Frag}{kd:Kd}{t:Tg}{D:Ends}{σ:L2.St}{H:Hp}(q:lftS K (gFor kd fa t ga) D σ H):tFor (lftI K kd fa) (lftG K t) (lftS K ga) D σ H:=by
 refine q.el λρ h m fl h' f r e k=>?_
 refine zab e λx h1 e1 e2=>?_
 refine(.mk f r e1 (zr7 (f:=999999) e2) λJ P H1 m1 s1 r1 J1 p1=>?_)
 refine⟨λi fu σ' H'=>∃ρ' h3 m3,forG (nxt kd x) (tgW t) ga fu i ρ' h3=.ok fl h'/\Fr K m3 h3.n H' σ' ρ'/\Rel K m3 h3 H'/\Stp m1 h1.n H1 m3 h3.n H'/\P m3 h3.n H',⟨fuel,ρ,h1,m1,e2,f.stp s1,r1,.refl,p1⟩,?_⟩
 rintro i fu σ' H' ⟨ρ',h3,m3,e3,f3,r3,s3,p3⟩
 cases fu with
 |zero=>cases e3
 |succ fu=>
  simp only[forG]at e3
  obtain⟨j1,j2⟩:=J1.2 m3 h3 H' r3 p3 i
  split at e3
  .cases e3
  .rename_i hn
   cases e3
   exact .inl ⟨j2 hn,k H' m3 (s1.trans s3) r3 σ' f3⟩
  .rename_i w hn
   obtain⟨j3,j4⟩:=j1 w hn
   split at e3
   .cases e3
   .rename_i ρ4 ht
    refine zab e3 λfl5 h5 e5 e6=>?_
    refine .inr ⟨j3,λσ6 H6=>∃ρ6 m6,forG (nxt kd x) (tgW t) ga fu (i+1) ρ6 h5=.ok fl h'/\Fr K m6 h5.n H6 σ6 ρ6/\Rel K m6 h5 H6/\Stp m1 h1.n H1 m6 h5.n H6/\P m6 h5.n H6,λσ6 H6 ⟨ρ6,m6,a1,a2,a3,a4,a5⟩=>⟨fu,Nat.lt_succ_self _,ρ6,h5,m6,a1,a2,a3,a4,a5⟩,λy H4 hy=>?_⟩
    obtain⟨s4,r4,q4⟩:=j4 y H4 hy
    refine⟨ρ',h3,m3,w,ρ4,f3.stp s4,r4,q4,ht,λσ5 f5=>⟨ρ4,h3,m3,fl5,h5,f5,r4,e5,λH6 m6 s6 r6=>?_⟩⟩
    have p4:=J1.1 m3 h3.n H' m3 h3.n H4 (vae _) (λ_ _=>rfl) (λb vs q=>s4.tup b vs q) (λb o u q=>s4.frz b o u q) p3
    have p6:=J1.1 m3 h3.n H4 m6 h5.n H6 s6.le s6.same (λb vs q=>s6.tup b vs q) (λb o u q=>s6.frz b o u q) p4
    have s16:=(s3.trans s4).trans s6
    cases fl5 with
    |nx ρ6=>exact λσ6 f6=>⟨ρ6,m6,e6,f6,r6,s16,p6⟩
    |ct ρ6=>exact λσ6 f6=>⟨ρ6,m6,e6,f6,r6,s16,p6⟩
    |bk ρ6=>cases e6;exact λσ6 f6=>k H6 m6 (s1.trans s16) r6 σ6 f6
    |rt w6=>cases e6;exact λv6 q6=>k H6 m6 (s1.trans s16) r6 v6 q6
theorem zwl{kd:Kd}{t:Tg}{tg iter:Expr}(hp:PassesOwn (model X.prog X.w) X.A X.env X.xe)(hc:X.calm=true)(hI:PI X tg iter (lftI X.K kd fa))(hg:PG X tg (lftG X.K t))(hb:SSs X sa ga)(hs:∀x,foldedSetIterable iter X.env x=pure x) :
 SS X (.For tg iter sa [] pos) (gFor kd fa t ga):=(zt2 hp hc hI hg hb hs).imp λD σ H q=>zwk q
theorem zwm(hp:PassesOwn (model X.prog X.w) X.A X.env X.xe)(hc:ST X c fc)(hb:SSs X sa ga):SS X (.While c sa [] pos) (λρ h=>whlG fc ga fuel ρ h):=(zny hp hc hb).imp λD σ H z9=>z9.el λρ h m fl h' f r e k=>by
 refine⟨λfu σ' H'=>∃ρ' h3 m3,whlG fc ga fu ρ' h3=.ok fl h'/\Fr X.K m3 h3.n H' σ' ρ'/\Rel X.K m3 h3 H'/\Stp m h.n H m3 h3.n H',⟨fuel,ρ,h,m,e,f,r,.refl⟩,?_⟩
 rintro fu σ' H' ⟨ρ',h3,m3,e3,f3,r3,s3⟩
 cases fu with
 |zero=>cases e3
 |succ fu=>
  simp only[whlG]at e3
  refine zab e3 λx h4 e4 e5=>?_
  cases x<;>try cases e5
  rename_i b
  refine⟨ρ',h3,m3,b,h4,f3,r3,e4,λH4 m4 s4 r4=>?_⟩
  cases b with
  |false=>cases e5;simp only[vak,if_false];exact k H4 m4 (s3.trans s4) r4 σ' (f3.stp s4)
  |true=>
   simp only[if_true]
   refine zab e5 λfl5 h5 e6 e7=>?_
   refine⟨λσ6 H6=>∃ρ6 m6,whlG fc ga fu ρ6 h5=.ok fl h'/\Fr X.K m6 h5.n H6 σ6 ρ6/\Rel X.K m6 h5 H6/\Stp m h.n H m6 h5.n H6,λσ6 H6 ⟨ρ6,m6,a1,a2,a3,a4⟩=>⟨fu,Nat.lt_succ_self _,ρ6,h5,m6,a1,a2,a3,a4⟩,?_⟩
   refine⟨ρ',h4,m4,fl5,h5,f3.stp s4,r4,e6,λH6 m6 s6 r6=>?_⟩
   have s16:=(s3.trans s4).trans s6
   cases fl5 with
   |nx ρ6=>exact λσ6 f6=>⟨ρ6,m6,e7,f6,r6,s16⟩
   |ct ρ6=>exact λσ6 f6=>⟨ρ6,m6,e7,f6,r6,s16⟩
   |bk ρ6=>cases e7;exact λσ6 f6=>k H6 m6 s16 r6 σ6 f6
   |rt w6=>cases e7;exact λv6 q6=>k H6 m6 s16 r6 v6 q6
end
theorem zcu{n:Str}:∀{ps:List Str} {us:List Value},us.length=ps.length->n∈ps->((ps.zip us).lookup n).isSome=true
 |[],_,_,h=>by cases h
 |p::ps,[],hl,_=>by cases hl
 |p::ps,u::us,hl,h=>by
  rw[List.zip_cons_cons,va6]
  by_cases e:(n==p)=true
  .rw[e];rfl
  .have e':(n==p)=false:=by simpa using e
   rw[e']
   refine zcu (by simpa using hl) ?_
   rcases va2.mp h with z|z
   .rw[z]at e';simp at e'
   .exact z
theorem zoz{n:Str}{u:Value}{p:Str}{ps:List Str}{us:List Value}(h:n≠p):((p,u)::ps.zip us).lookup n=(ps.zip us).lookup n:=by
 rw[va6]
 have e':(n==p)=false:=by simpa using h
 rw[e']
theorem zjp{α β:Type}{f g:α->Option β}:∀{l:List α},(∀a∈l,f a=g a)->l.filterMap f=l.filterMap g
 |[],_=>rfl
 |a::r,h=>by
  rw[List.filterMap_cons,List.filterMap_cons,h a vag,zjp λb hb=>h b (vad _ hb)]
theorem zgj:∀{ps:List Str} {us:List Value},us.length=ps.length->ps.Nodup->ps.filterMap (λn=>((ps.zip us).lookup n).map (n,·))=ps.zip us
 |[],_,_,_=>rfl
 |p::ps,[],hl,_=>by cases hl
 |p::ps,u::us,hl,hn=>by
  obtain⟨h1,h2⟩:=List.nodup_cons.mp hn
  rw[List.zip_cons_cons,List.filterMap_cons]
  have e:((p,u)::ps.zip us).lookup p=some u:=by rw[va6];simp
  rw[e]
  simp only[vat]
  congr 1
  have ih:=zgj (ps:=ps) (us:=us) (by simpa using hl) h2
  refine Eq.trans ?_ ih
  exact zjp λn hn'=>by
   have hne:n≠p:=λz=>h1 (by rw[<-z];exact hn')
   rw[zoz hne]
theorem zfl{x qual:Str}{args:List Arg}{body:List Stmt}{sc:Scope}{kV doc pm:Value}{an:Option Addr}{cdv ct:Value}{us:List Value}{df:List Expr}(hl:us.length=(args.map (·.arg)).length)(hn:(args.map (·.arg)).Nodup) :
 bindArgs (PySem.W.fnOf x qual ⟨[],args,none,[],[],none,df⟩ body sc .none kV doc pm an cdv ct) ⟨us,[]⟩=pure ((args.map (·.arg)).zip us):=by
 have hs:seqItems? Value.none=pure none:=rfl
 have hm:((args.map (·.arg)).filter λn=>(((args.map (·.arg)).zip us).lookup n).isNone)=[]:=by
  rw[List.filter_eq_nil_iff]
  intro n hn'
  have:=zcu hl hn'
  cases q:((args.map (·.arg)).zip us).lookup n with
  |none=>rw[q]at this;cases this
  |some v=>simp
 unfold bindArgs
 simp only[PySem.W.fnOf,List.map_nil,List.nil_append,List.append_nil,hs,pure_bind]
 have hg:¬(us.length> (args.map (·.arg)).length):=by omega
 have h0:(#[]:Array Value).toList=[]:=rfl
 simp only[Option.getD_none,h0,List.forIn_nil,pure_bind,List.drop_nil,List.length_nil,Nat.sub_zero,List.take_length,hm,List.isEmpty_nil,Bool.not_true,List.drop_length,List.zip_nil_right,List.zip_nil_left,va3 hg,Bool.false_and,vak,if_false,zgj hl hn]
theorem zho{z:Str}:∀{qs:List Str} {us:List Value},us.length=qs.length->(qs++[z]).zip us=qs.zip us
 |[],[],_=>rfl
 |[],_::_,h=>by cases h
 |_::_,[],h=>by cases h
 |q::qs,u::us,h=>by
  rw[List.cons_append,List.zip_cons_cons,List.zip_cons_cons,zho (by simpa using h)]
theorem zgk{z:Str}{v:Value}:∀{qs:List Str} {us:List Value},us.length=qs.length->(qs++[z]).zip (us++[v])=qs.zip us++[(z,v)]
 |[],[],_=>rfl
 |[],_::_,h=>by cases h
 |_::_,[],h=>by cases h
 |q::qs,u::us,h=>by
  rw[List.cons_append,List.cons_append,List.zip_cons_cons,List.zip_cons_cons,zgk (by simpa using h),List.cons_append]
theorem zmp{z:Str}:∀{qs:List Str} {us:List Value},z∉qs->(qs.zip us).lookup z=none
 |[],_,_=>rfl
 |_::_,[],_=>rfl
 |q::qs,u::us,h=>by
  rw[List.zip_cons_cons,va6]
  have e':(z==q)=false:=by simpa using(λe=>h (by rw[e];exact vag))
  rw[e']
  exact zmp λe=>h (vad _ e)
section
variable{x qual:Str}{args:List Arg}{df:List Expr}{body:List Stmt}{sc:Scope}{kV doc pm:Value}{an:Option Addr}{cdv ct:Value}{t:Addr}{o:Obj}{n:Nat}{s:Shared}{us:List Value}{qs:List Str}{z:Str}
theorem zp4(qs:List Str)(z:Str):List.drop ([Value.none].length- (qs++[z]).length) [Value.none]=[Value.none]:=by
 rw[vao,va5,va5,show 1- (qs.length+1)=0 by omega];rfl
theorem len_d(qs:List Str)(z:Str):(qs++[z]).length - [Value.none].length=qs.length:=by simp
theorem zk0(ha:args.map (·.arg)=qs++[z])(hn:(qs++[z]).Nodup)(ho:s.heap.get? t=some o)(hd:o.data=.seq #[.none] n)(hl:us.length=(qs++[z]).length) :
 BindsTo s (PySem.W.fnOf x qual ⟨[],args,none,[],[],none,df⟩ body sc (.ref t) kV doc pm an cdv ct) ⟨us,[]⟩ ((qs++[z]).zip us):=by
 apply BindsTo.of_defaults (items:=#[.none]) (n:=n) rfl ho hd
 .unfold bindArgs
  simp only[PySem.W.fnOf,List.map_nil,List.nil_append,List.append_nil,List.forIn_nil,pure_bind,ha]
  rfl
 .have hm:(qs.filter λn=>(((qs++[z]).zip us).lookup n).isNone)=[]:=by
   rw[List.filter_eq_nil_iff]
   intro n hn'
   have:=zcu (n:=n) hl (List.mem_append_left _ hn')
   cases q:((qs++[z]).zip us).lookup n with
   |none=>rw[q]at this;cases this
   |some v=>simp
  have hz:(((qs++[z]).zip us).lookup z).isNone=false:=by
   have:=zcu (n:=z) hl (List.mem_append_right _ (List.mem_singleton.mpr rfl))
   cases q:((qs++[z]).zip us).lookup z with
   |none=>rw[q]at this;cases this
   |some v=>rfl
  have hg:¬(us.length> (qs++[z]).length):=by omega
  simp only[Option.getD_some,zp4,len_d,List.take_left',List.take_left,List.drop_left,List.drop_left',hm,va3 hg,Bool.false_and,vak,if_false,List.isEmpty_nil,Bool.not_true,List.zip_cons_cons,List.zip_nil_right,List.forIn_cons,List.forIn_nil,hz,pure_bind,zgj hl hn]
theorem zk1(ha:args.map (·.arg)=qs++[z])(hn:(qs++[z]).Nodup)(ho:s.heap.get? t=some o)(hd:o.data=.seq #[.none] n)(hl:us.length=qs.length) :
 BindsTo s (PySem.W.fnOf x qual ⟨[],args,none,[],[],none,df⟩ body sc (.ref t) kV doc pm an cdv ct) ⟨us,[]⟩ ((qs++[z]).zip (us++[.none])):=by
 apply BindsTo.of_defaults (items:=#[.none]) (n:=n) rfl ho hd
 .unfold bindArgs
  simp only[PySem.W.fnOf,List.map_nil,List.nil_append,List.append_nil,List.forIn_nil,pure_bind,ha]
  rfl
 .have hm:(qs.filter λn=>((qs.zip us).lookup n).isNone)=[]:=by
   rw[List.filter_eq_nil_iff]
   intro n hn'
   have:=zcu (n:=n) hl hn'
   cases q:(qs.zip us).lookup n with
   |none=>rw[q]at this;cases this
   |some v=>simp
  have hzq:z∉qs:=λh=>(List.nodup_append.mp hn).2.2 z h z (List.mem_singleton.mpr rfl) rfl
  have hz:((qs.zip us).lookup z).isNone=true:=by rw[zmp hzq];rfl
  have hg:¬(us.length> (qs++[z]).length):=by rw[vao];omega
  have hl2:(us++[Value.none]).length=(qs++[z]).length:=by rw[vao,vao,hl];rfl
  have ha2:=zgj hl2 hn
  rw[zgk hl]at ha2
  simp only[Option.getD_some,zp4,len_d,zho hl,zgk hl,List.take_left',List.take_left,List.drop_left,List.drop_left',hm,va3 hg,Bool.false_and,vak,if_false,List.isEmpty_nil,Bool.not_true,List.zip_cons_cons,List.zip_nil_right,List.forIn_cons,List.forIn_nil,hz,if_true,pure_bind,ha2]
end
structure FunD(K:PySem.W.Frag)(x qual:Str)(st:Stmt)(f:Addr)(fd:FuncData):Prop where
 ex:∃(oc:Value) (od:Option Addr) (dV kV doc pm:Value) (an:Option Addr) (cdv ct:Value) (osl:Array (Option Value)),fd=PySem.W.fnOf x qual (zrf st) (zga st) (zat st) dV kV doc pm an cdv ct/\K.lookup f=some ⟨oc,od,.func fd,osl⟩/\PySem.W.codeIn K cdv qual=true
 kp:PySem.W.keepIn K (.ref f)=true
theorem FunD.ok{P:Program}{w:World}{K:PySem.W.Frag}{mg:Str->Option Value}{base:Heap}{x qual:Str}{st:Stmt}{f:Addr}{fd:FuncData}{N ps:List Str}{k:Nat}{sp:Sp}(F:FunD K x qual st f fd)(S:FnScope N ps (zat st))(len:∀vs H Q E,sp vs H Q E->vs.length=ps.length)
 (hbody:∀(cdv:Value)(A:Around)(outer:List Env)(s:Shared)(H:Hp)(vs:List V)(Q:VK)(E:XK),Room k (A.deeper (envOfC qual (zat st) s.heap.objs.size f cdv))->sp vs H Q E->∃t,PSs (cxOf CX0 P w K mg base N qual (zat st) f cdv A outer s H E).nox (zga st) t/\t {nx:=λ_ H'=>Q .non H',rt:=Q} (start N vs) H):FnOk P w K mg base CX0 (k+1) f fd ps sp:=
 let⟨_,_,_,_,_,_,_,cdv,_,_,e,lk,hcd⟩:=F.ex
 by subst e;exact fn_of lk hcd S len λA outer s H vs Q E hr hsp=>let⟨t,h,q⟩:=hbody cdv A outer s H vs Q E hr hsp;⟨t,h.nox,q⟩
section
variable{K:PySem.W.Frag}{m m':Nat->Addr}{n n':Nat}{h h':VH}{H H':Hp}
mutual
theorem VRep.refsLt:∀{v:V} {w:W},VRep K m n H v w->W.lt n w=true
 |_,_,.non=>rfl
 |_,_,.bl _=>rfl
 |_,_,.int _=>rfl
 |_,_,.str _=>rfl
 |_,_,.tup _ r=>VReps.refsLt r
 |_,_,.fz _ r=>VReps.refsLt r
 |_,_,.ref q=>zal.mpr q
theorem VReps.refsLt:∀{vs:List V} {ws:List W},VReps K m n H vs ws->W.lts n ws=true
 |_,_,.nil=>rfl
 |_,_,.cons q r=>by
  show(W.lt n _&&W.lts n _)=true
  rw[VRep.refsLt q,VReps.refsLt r];rfl
end
mutual
theorem VRep.cut:∀{v:V} {w:W},VRep K m n' H v w->W.lt n w=true->VRep K m n H v w
 |_,_,.non,_=>.non
 |_,_,.bl b,_=>.bl b
 |_,_,.int b,_=>.int b
 |_,_,.str b,_=>.str b
 |_,_,.tup q r,e=>.tup q (VReps.cut r e)
 |_,_,.fz q r,e=>.fz q (VReps.cut r e)
 |_,_,.ref q,e=>.ref (zal.mp e)
theorem VReps.cut:∀{vs:List V} {ws:List W},VReps K m n' H vs ws->W.lts n ws=true->VReps K m n H vs ws
 |_,_,.nil,_=>.nil
 |_,_,.cons q r,e=>by
  have e:(W.lt n _&&W.lts n _)=true:=e
  rw[vab]at e
  exact .cons (VRep.cut q e.1) (VReps.cut r e.2)
end
theorem KReps.cut{m':Nat->Addr}{n1:Nat}{H':Hp}:∀{vs us:List (Key×V)} {ws:List (Key×W)},KReps K m n' H vs ws->KReps K m' n H' us ws->KReps K m n H vs ws
 |_,_,_,.nil,_=>.nil
 |_,_,_,.cons q r,.cons q2 r2=>.cons (q.cut q2.refsLt) (KReps.cut (n1:=n1) r r2)
theorem zjq{lo:Nat}(r:Rel K m h H):Rel K m ⟨h.n,lo,h.os⟩ H:=⟨r.obj,r.inj,r.len⟩
theorem zjr{w w2:W}{h1 h2:VH}{v:V}{Q:VK}(r:Rel K m h H)(s:Stp m h.n H m' h1.n H')(r1:Rel K m' h1 H')(q:VRep K m' h1.n H' v w)(g:Grow ⟨h.n,h.n,h.os⟩ h1)(e:leave h w h1=.ok w2 h2)(k:Wants K m h.n H w2 h2 Q):Q v H':=by
 unfold leave at e
 split at e
 .rename_i hc
  cases e
  rw[vab]at hc
  have hlo:=va1 hc.1
  refine k v H' m' ⟨vae _,s.same,λi a b=>absurd b (Nat.not_lt.mpr a),λi j a b=>absurd b (Nat.not_lt.mpr a),s.tup,s.frz,s.keep⟩ ⟨λi hi=>?_,λi j hi hj=>r1.inj i j (vai hi s.le) (vai hj s.le),r.len⟩ (q.cut hc.2)
  have hg:h1.get i=h.get i:=g.2.2 i hi (vai hi hlo)
  obtain⟨o,p1,p2⟩:=r1.obj i (vai hi s.le)
  rw[hg]at p1
  refine⟨o,p1,?_⟩
  have p3:=r.at_ p1
  cases o with
  |lst ws=>
   obtain⟨vs,a1,a2⟩:=p2
   obtain⟨us,b1,b2⟩:=p3
   exact⟨vs,a1,a2.cut b2.refsLt⟩
  |dk ws=>
   obtain⟨vs,a1,a2⟩:=p2
   obtain⟨us,b1,b2⟩:=p3
   exact⟨vs,a1,KReps.cut (n1:=0) a2 b2⟩
  |dt ks ws=>
   obtain⟨xs,a1,a0,a2,a3⟩:=p2
   obtain⟨us,b1,b0,b2,b3⟩:=p3
   exact⟨xs,a1,a0,a2.cut b2.refsLt,a3.cut b3.refsLt⟩
  |ins C xs ws=>
   obtain⟨dx,vs,a1,a0,a2⟩:=p2
   obtain⟨dx',us,b1,b0,b2⟩:=p3
   exact⟨dx,vs,a1,a0,a2.cut b2.refsLt⟩
 .cases e
  exact k v H' m' s (zjq r1) q
theorem zo0{N:List Str}{vs:List V}{ws:List W}(q:VReps K m n H vs ws):Fr K m n H (L2.start N vs) (ws.map some++List.replicate (N.length-ws.length) none):=by
 unfold L2.start
 refine⟨by simp[q.length],λi w e=>?_⟩
 by_cases hi:i<ws.length
 .rw[List.getElem?_append_left (by simpa using hi)]at e
  rw[List.getElem?_append_left (by simpa[q.length]using hi)]
  rw[List.getElem?_map]at e ⊢
  cases z:ws[i]? with
  |none=>rw[z]at e;cases e
  |some w'=>
   rw[z]at e
   cases e
   obtain⟨v,h1,h2⟩:=q.get z
   exact⟨v,by rw[h1];rfl,h2⟩
 .rw[List.getElem?_append_right (by simpa using Nat.not_lt.mp hi)]at e
  rw[List.getElem?_replicate]at e
  split at e<;>cases e
end
theorem zdf{F:Nat->Option Fn}{k idx:Nat}{ws:List W}{h h':VH}{w:W}{fn:Fn}(hF:F idx=some fn)(e:run F k idx ws h=.ok w h'):ws.length=fn.ps:=by
 cases k with
 |zero=>cases e
 |succ k=>
  simp only[run,hF]at e
  split at e
  .rename_i hl;exact Nat.eq_of_beq_eq_true hl
  .cases e
theorem zp5{P:Program}{w:World}{K:PySem.W.Frag}{mg:Str->Option Value}{base:Heap}{F:Nat->Option Fn}{k idx:Nat}{fn:Fn}{x qual:Str}{st:Stmt}{f:Addr}{fd:FuncData}{N ps:List Str}(hF:F idx=some fn)(Fu:FunD K x qual st f fd)(S:FnScope N ps (zat st))
 (hn:fn.n=N.length) (hp:fn.ps=ps.length)
 (hbody:∀(cdv:Value)(A:Around)(outer:List Env)(s:Shared)(H:Hp)(E:XK),Room k (A.deeper (envOfC qual (zat st) s.heap.objs.size f cdv))->SSs (cxOf CX0 P w K mg base N qual (zat st) f cdv A outer s H E).nox (zga st) (exs (run F k) fn.body)) :
 FnOk P w K mg base CX0 (k+1) f fd ps (spV K ps.length (run F (k+1) idx)):=by
 refine Fu.ok S (λvs H Q E h=>h.1) λcdv A outer s H vs Q E hr hsp=>?_
 refine⟨_,hbody cdv A outer s H E hr,?_⟩
 obtain⟨hl,h,m,ws,w2,h2,r,q,e,k2⟩:=hsp
 have hws:=zdf hF e
 simp only[run,hF]at e
 split at e
 .refine zab e λfl h1 e1 e2=>?_
  have g:=zfe (zff F k) _ _ _ _ _ e1
  have hN:fn.n-fn.ps=N.length-ws.length:=by rw[hn,hws]
  rw[hN]at e1
  refine⟨_,⟨h.n,h.n,h.os⟩,m,fl,h1,zo0 q,zjq r,e1,λH' m' s' r'=>?_⟩
  cases fl with
  |nx ρ=>exact λσ' f'=>zjr r s' r' .non g e2 k2
  |rt w3=>exact λv q3=>zjr r s' r' q3 g e2 k2
  |bk _=>cases e2
  |ct _=>cases e2
 .cases e
theorem zmq{P:Program}{w:World}{K:PySem.W.Frag}{mg:Str->Option Value}{base:Heap}{F:Nat->Option Fn}{idx:Nat}{f:Addr}{fd:FuncData}{ps:List Str}:FnOk P w K mg base CX0 0 f fd ps (spV K ps.length (run F 0 idx)):=
 ⟨λvs H Q E h=>h.1,λA outer s H args us vs Q E hr he hb hv hs=>by obtain⟨_,h,m,ws,w2,h2,r,q,e,k2⟩:=hs;cases e⟩
theorem zfm{x:Str}:∀{vs:List (Str×V)} {ws:List W},vs.length=ws.length->lookF x (vs.map (·.1)) ws=none->vs.lookup x=none
 |[],_,_,_=>rfl
 |(y,v)::vs,[],hl,_=>by cases hl
 |(y,v)::vs,w::ws,hl,e=>by
  rw[vam]at e
  unfold lookF at e
  by_cases z:y=x
  .rw[if_pos z]at e;cases e
  .rw[if_neg z]at e
   rw[va6,beq_eq_false_iff_ne.mpr (Ne.symm z)]
   exact zfm (by simpa using hl) e
theorem zo1{K:PySem.W.Frag}{m:Nat->Addr}{h:VH}{H:Hp}{C:Addr}{x:Str}{v:V}{o:W}(r:Rel K m h H)(q:VRep K m h.n H v o)(e:isIns C x h o=true):∃a dx fs,v=.ref a/\H a=some (.ins C dx fs)/\fs.lookup x=none:=by
 unfold isIns at e
 split at e
 .rename_i i
  split at e
  .rename_i D xs ws g
   rw[vab,vaw]at e
   obtain⟨rfl,e⟩:=e
   cases q
   obtain⟨dx,vs,p1,p0,p2⟩:=r.ins g
   have hl:=p2.length
   rw[vaf]at hl
   refine⟨_,dx,vs,rfl,p1,zfm hl ?_⟩
   rw[p0]
   simpa using e
  .cases e
 .cases e
noncomputable abbrev gMc(C:Addr)(mt:Str)(fo fa:FE)(g:List W->VH->Res W):FE:=λρ h=>(fo ρ h).bind λx h=>if isIns C mt h x then(fa ρ h).bind λy h=>match y with|.tup ys=>g (x::ys) h|_=>.no else .no
section
variable{X:Cx}{a b c e o:Expr}{es:List Expr}{fa fb fc fo:FE}{pos p:Pos}{x:Str}
theorem zo2{k:Nat}{C f:Addr}{fd:FuncData}{ps:List Str}{mt:Str}{apos:Pos}{pl:Sem Bool}{g:List W->VH->Res W}(c:Cls X.K C)(hm:Meth X.K C mt f)(F:FnOk X.prog X.w X.K X.mg X.base CX0 k f fd ps (spV X.K ps.length g))(hr:Room k X.A)(hb:Binds X.K fd ps [])
 (ho:SE X o fo) (ha:SA X (e::es) fa) (hs:(e::es).all zaw=true) (hn:∀ws h w h',g ws h=.ok w h'->ws.length=ps.length)
 (ht:eval (.Call (.Attribute o mt apos) (e::es) [] pos) X.env=(do
   let ov <-eval o X.env
   standAt apos.atName
   let (f,first) <-holding [ov] (getMethod ov mt pl)
   callWith pos f first (backTo pos (starEach (e::es) X.env)) (backToKw pos (keywordEach [] X.env)))) :
 SE X (.Call (.Attribute o mt apos) (e::es) [] pos) (gMc C mt fo fa g):=by
 rw[List.all_cons,vab]at hs
 refine(zq5 (pl:=pl) ho c hm F hr hb .nil pass0 ha (zah hs.1) (zbf hs.2) ht).imp λσ H Q z9=>z9.el λρ h m w h' f r e k=>?_
 refine zab e λx h1 e1 e2=>?_
 refine(.mk f r e1 λv H1 m1 s1 r1 q1=>?_)
 split at e2
 .rename_i hi
  refine zab e2 λy h2 e3 e4=>?_
  cases y with
  |tup ys=>
   obtain⟨a,dx,fs,hv,ea,hl⟩:=zo1 r1 q1 hi
   refine⟨a,dx,fs,hv,ea,hl,ρ,h1,m1,ys,h2,f.stp s1,r1,e3,λvs H2 m2 s2 r2 q2=>?_⟩
   show spV X.K ps.length g (v:: (vs++[])) H2 Q E0
   rw[List.append_nil]
   have q3:VReps X.K m2 h2.n H2 (v::vs) (x::ys):=.cons (q1.stp s2) q2
   exact⟨by rw[q3.length];exact hn _ _ _ _ e4,h2,m2,x::ys,w,h',r2,q3,e4,λv' H' m' s' r' q'=>k v' H' m' ((s1.trans s2).trans s') r' q'⟩
  |_=>cases e4
 .cases e2
theorem zr8{K:PySem.W.Frag}{np:Nat}{C:Addr}{g:List W->VH->Res W}{dw:List W}{dv:List V}(hd:∀m n H,VReps K m n H dv dw)(hn:∀ws h w h',g ws h=.ok w h'->ws.length=np){m:Nat->Addr}{h:VH}{H:Hp}{vs:List V}{xs:List W}{w:W}{h':VH}{Q:VK}
 (r:Rel K m h H) (q:VReps K m h.n H vs xs) (e:mkR C g (xs++dw) h=.ok w h') (k:Wants K m h.n H w h' Q) :
 ∀x dx,H x=none->H dx=none->dx≠x->spV K np g (.ref x:: (vs++dv)) (upd (upd H dx (.own x)) x (.ins C dx [])) (λv H2=>v=.non/\Q (.ref x) H2) E0:=by
 intro px dx hpx hdx hne
 refine zab e λv h2 e1 e2=>?_
 split at e2
 .rename_i hv
  cases e2
  have hv:v=.non:=by cases v<;>first|rfl|cases hv
  subst hv
  obtain⟨st0,r0⟩:=r.more (u:=.own px) hdx
  have hpx':upd H dx (.own px) px=none:=by rw[zae (Ne.symm hne)];exact hpx
  obtain⟨st1,r1⟩:=r0.alloc (o:=.ins C [] []) (u:=.ins C dx []) hpx' (λ_ z=>nomatch z) (λst=>⟨dx,[],zak,rfl,.nil⟩)
  have st:=st0.trans st1
  have q1:VReps K (λi=>if i=h.n then px else m i) (h.n+1) (upd (upd H dx (.own px)) px (.ins C dx [])) (.ref px:: (vs++dv)) (.ref h.n:: (xs++dw)):=by
   have:VRep K (λi=>if i=h.n then px else m i) (h.n+1) (upd (upd H dx (.own px)) px (.ins C dx [])) (.ref ((λi=>if i=h.n then px else m i) h.n)) (.ref h.n):=.ref (Nat.lt_succ_self _)
   simp only[if_true]at this
   exact .cons this ((q.stp st).append (hd _ _ _))
  refine⟨by rw[q1.length];exact hn _ _ _ _ e1,h.new (.ins C [] []),_,_,.non,h',r1,q1,e1,λv' H' m' s' r' q'=>?_⟩
  cases q'
  refine⟨rfl,?_⟩
  have hm:m' h.n=px:=by
   have:=s'.same h.n (show h.n<h.n+1 by omega)
   simp only[if_true]at this
   exact this
  have q2:VRep K m' h'.n H' (.ref (m' h.n)) (.ref h.n):=.ref (vai (show h.n<h.n+1 by omega) s'.le)
  rw[hm]at q2
  exact k _ H' m' (st.trans s') r' q2
 .cases e2
end
noncomputable def varsE(i:Nat):Nat->E
 |0=>.nil
 |n+1=>.cons (.var i) (varsE (i+1) n)
noncomputable def clsFn(C:Addr)(ii np:Nat):Fn:=⟨np,np,.seq (.ret (.mk C ii (varsE 0 np))) .skip⟩
theorem zmr{cl:Call}{h:VH}:∀(ys zs:List W),ev cl (varsE zs.length ys.length) ((zs++ys).map some) h=.ok (.tup ys) h
 |[],_=>rfl
 |y::ys,zs=>by
  have ih:=zmr (cl:=cl) (h:=h) ys (zs++[y])
  rw[vao,va5,List.append_assoc,List.singleton_append]at ih
  have hv:ev cl (.var zs.length) ((zs++y::ys).map some) h=.ok y h:=by
   rw[ev]
   have:((zs++y::ys).map some)[zs.length]?=some (some y):=by simp
   rw[this];rfl
  rw[vah,varsE,ev,hv]
  show(ev cl (varsE (zs.length+1) ys.length) ((zs++y::ys).map some) h).bind _=_
  rw[ih];rfl
theorem zr9{F:Nat->Option Fn}{C:Addr}{ci ii np k:Nat}{ys:List W}{h h':VH}{w:W}(hF:F ci=some (clsFn C ii np))(e:run F (k+1) ci ys h=.ok w h') :
 ∃h2 lo,mkR C (run F k ii) ys ⟨h.n,h.n,h.os⟩=.ok (.ref h.n) h2/\w=.ref h.n/\h'=⟨h2.n,lo,h2.os⟩:=by
 have hl:ys.length=np:=zdf hF e
 have hv:=zmr (cl:=run F k) (h:=⟨h.n,h.n,h.os⟩) ys []
 rw[List.nil_append,List.length_nil,hl]at hv
 rw[run,hF]at e
 simp only at e
 rw[if_pos (by show Nat.beq ys.length np=true;rw[hl];exact Nat.beq_refl np)]at e
 have hz:(clsFn C ii np).n- (clsFn C ii np).ps=0:=Nat.sub_self np
 rw[hz,List.replicate_zero,List.append_nil]at e
 refine zab e λfl h1 e1 e2=>?_
 have e1:exs (run F k) (.seq (.ret (.mk C ii (varsE 0 np))) .skip) (ys.map some) ⟨h.n,h.n,h.os⟩=.ok fl h1:=e1
 have hm:ev (run F k) (.mk C ii (varsE 0 np)) (ys.map some) ⟨h.n,h.n,h.os⟩=mkR C (run F k ii) ys ⟨h.n,h.n,h.os⟩:=by
  rw[ev,hv];rfl
 rw[exs,exs,hm]at e1
 refine zab e1 λf2 h3 e3 e4=>?_
 refine zab e3 λw2 h4 e5 e6=>?_
 cases e6
 cases e4
 have hw:w2=.ref h.n:=by
  refine zab e5 λv h5 _ e7=>?_
  split at e7
  .cases e7;rfl
  .cases e7
 subst hw
 have e2:leave h (.ref h.n) h1=.ok w h':=e2
 have hlt:W.lt h.n (.ref h.n)=false:=by
  show Nat.blt h.n h.n=false
  cases z:Nat.blt h.n h.n with
  |false=>rfl
  |true=>exact absurd (zal.mp z) (Nat.lt_irrefl _)
 unfold leave at e2
 rw[hlt,Bool.and_false]at e2
 cases e2
 exact⟨h1,_,e5,rfl,rfl⟩
section
variable{X:Cx}{e:Expr}{es:List Expr}{fa:FE}{pos p:Pos}{x:Str}
theorem zp6{K:PySem.W.Frag}{F:Nat->Option Fn}{np k ci ii na:Nat}{C:Addr}{dw:List W}{dv:List V}(hF:F ci=some (clsFn C ii na))(hd:∀m n H,VReps K m n H dv dw)(hn:∀ws h w h',run F k ii ws h=.ok w h'->ws.length=np){m:Nat->Addr}{h:VH}{H:Hp}{vs:List V}{xs:List W}{w:W}{h':VH}{Q:VK}
 (r:Rel K m h H) (q:VReps K m h.n H vs xs) (e:run F (k+1) ci (xs++dw) h=.ok w h') (kk:Wants K m h.n H w h' Q) :
 ∀x dx,H x=none->H dx=none->dx≠x->spV K np (run F k ii) (.ref x:: (vs++dv)) (upd (upd H dx (.own x)) x (.ins C dx [])) (λv H2=>v=.non/\Q (.ref x) H2) E0:=by
 obtain⟨h2,lo,e1,rfl,rfl⟩:=zr9 hF e
 exact zr8 (h:=⟨h.n,h.n,h.os⟩) hd hn (zjq r) q e1 λv H' m' s' r' q'=>kk v H' m' s' (zjq r') q'
theorem zwn{k ci ii na:Nat}{F:Nat->Option Fn}{C f:Addr}{fd:FuncData}{ps:List Str}(hF:F ci=some (clsFn C ii na))(M:Mk X.K C f)(FO:FnOk X.prog X.w X.K X.mg X.base CX0 k f fd ps (spV X.K ps.length (run F k ii)))(hr:Room (k+1) X.A)(hg:Gl X x)(hm:X.mg x=some (.ref C))(hb:Binds X.K fd ps [])
 (ha:SA X (e::es) fa) (hs:(e::es).all zaw=true) (hdb:(x==("__debug__" : Str))=false) (hn:∀ws h w h',run F k ii ws h=.ok w h'->ws.length=ps.length):SE X (.Call (.Name x p) (e::es) [] pos) (gArg fa (run F (k+1) ci)):=by
 rw[List.all_cons,vab]at hs
 refine(zlq M FO hr hg hm hb .nil pass0 ha hdb (zah hs.1) (zbf hs.2)).imp λσ H Q q=>zbs (G:=λvs H1 Q=>∀x dx,H1 x=none->H1 dx=none->dx≠x->spV X.K ps.length (run F k ii) (.ref x:: (vs++[])) (upd (upd H1 dx (.own x)) x (.ins C dx [])) (λv H2=>v=.non/\Q (.ref x) H2) E0) (λm h H vs xs w h' Q r q e kk=>?_) q
 exact zp6 (dw:=[]) (dv:=[]) hF (λ_ _ _=>.nil) hn r q (by rw[List.append_nil];exact e) kk
theorem zsa{k ci ii na:Nat}{F:Nat->Option Fn}{C f:Addr}{fd:FuncData}{ps:List Str}(hF:F ci=some (clsFn C ii na))(M:Mk X.K C f)(FO:FnOk X.prog X.w X.K X.mg X.base CX0 k f fd ps (spV X.K ps.length (run F k ii)))(hr:Room (k+1) X.A)(hg:Gl X x)(hm:X.mg x=some (.ref C))(hb:Binds X.K fd ps [.none])
 (ha:SA X (e::es) fa) (hs:(e::es).all zaw=true) (hdb:(x==("__debug__" : Str))=false) (hn:∀ws h w h',run F k ii ws h=.ok w h'->ws.length=ps.length):SE X (.Call (.Name x p) (e::es) [] pos) (gArg fa λws h=>run F (k+1) ci (ws++[.non]) h):=by
 rw[List.all_cons,vab]at hs
 refine(zlq M FO hr hg hm hb (dvs:=[V.non]) (.cons rfl .nil) pass0 ha hdb (zah hs.1) (zbf hs.2)).imp λσ H Q q=>zbs (G:=λvs H1 Q=>∀x dx,H1 x=none->H1 dx=none->dx≠x->spV X.K ps.length (run F k ii) (.ref x:: (vs++[V.non])) (upd (upd H1 dx (.own x)) x (.ins C dx [])) (λv H2=>v=.non/\Q (.ref x) H2) E0) (λm h H vs xs w h' Q r q e kk=>?_) q
 exact zp6 (dw:=[.non]) (dv:=[V.non]) hF (λ_ _ _=>.cons .non .nil) hn r q e kk
end
noncomputable def clsB(K:PySem.W.Frag)(C:Addr):Bool:=PySem.W.plainGet K C Str.empty&&PySem.W.hasDictIn K C&&PySem.W.plainOver K C&& (match PySem.W.findIn K (.ref C) "__setattr__"with
 |some (some (.builtin s))=>s == "object.__setattr__"
 |_=>false)
theorem zsb{K:PySem.W.Frag}{C:Addr}(h:clsB K C=true):Cls K C:=by
 unfold clsB at h
 simp only[vab]at h
 obtain⟨⟨⟨h1,h2⟩,h3⟩,h4⟩:=h
 refine⟨h1,h2,h3,?_⟩
 split at h4
 .rename_i s e
  rw[e,show s = "object.__setattr__" by simpa using h4]
 .cases h4
noncomputable def zgl(K:PySem.W.Frag)(C:Addr)(f:Str):Bool:=match PySem.W.findIn K (.ref C) f with
 |some none=>true
 |_=>false
theorem zfn{K:PySem.W.Frag}{C:Addr}{f:Str}(h:zgl K C f=true):zcr K C f:=by
 unfold zgl at h
 split at h
 .rename_i e;exact e
 .cases h
noncomputable def zms(K:PySem.W.Frag)(C:Addr)(m:Str):Option Addr:=match PySem.W.findIn K (.ref C) m with
 |some (some (.ref f))=>if PySem.W.isFn K (.ref f)&&PySem.W.keepIn K (.ref f)then some f else none
 |_=>none
theorem zmt{K:PySem.W.Frag}{C f:Addr}{m:Str}(h:zms K C m=some f):Meth K C m f:=by
 unfold zms at h
 split at h
 .rename_i g e
  split at h
  .rename_i hc
   rw[vab]at hc
   cases h
   exact⟨e,hc.1,hc.2⟩
  .cases h
 .cases h
noncomputable def mkB(K:PySem.W.Frag)(C f:Addr):Bool:=PySem.W.makesIn K C&&PySem.W.keepIn K (.ref C)&&PySem.W.isFn K (.ref f)&& (match PySem.W.findIn K (.ref C) "__init__"with
 |some (some (.ref g))=>Nat.beq g f
 |_=>false)
theorem zwo{K:PySem.W.Frag}{C f:Addr}(h:mkB K C f=true):Mk K C f:=by
 unfold mkB at h
 simp only[vab]at h
 obtain⟨⟨⟨h1,h2⟩,h3⟩,h4⟩:=h
 split at h4
 .rename_i g e
  have:g=f:=Nat.eq_of_beq_eq_true h4
  subst this
  exact⟨h1,e,h3,h2⟩
 .cases h4
theorem zwp{es:List Expr}{env:Env}{pos:Pos}(hs:es.all zaw=true)(hn:Nat.blt es.length 30=true):methodCallForm (es.length+ ([]:List Keyword).length) (backTo pos (starEach es env)) (backToKw pos (keywordEach [] env))=true:=by
 have h:=zbf (env:=env) (pos:=pos) hs
 unfold methodCallForm
 have h1:((backTo pos (starEach es env)).all (!·.1))=true:=by
  rw[List.all_eq_true]
  intro x hx
  cases q:x.1 with
  |false=>rfl
  |true=>
   have:(backTo pos (starEach es env)).any (·.1)=true:=List.any_eq_true.mpr ⟨x,hx,q⟩
   rw[h]at this;cases this
 rw[h1]
 show(true&&true&&decide (es.length+0+0<30))=true
 rw[decide_eq_true (by have:=zal.mp hn;omega)]
 rfl
theorem zsc{o e:Expr}{es:List Expr}{mt:Str}{apos pos:Pos}{env:Env}(hb:zej o=true)(hl:(apos.endLine==pos.line)=true)(hs:(e::es).all zaw=true)(hn:Nat.blt (e::es).length 30=true) :
 eval (.Call (.Attribute o mt apos) (e::es) [] pos) env=(do
  let ov <-eval o env
  standAt apos.atName
  let (f,first) <-holding [ov] (getMethod ov mt (do return (<-importBound o env).getD true))
  callWith pos f first (backTo pos (starEach (e::es) env)) (backToKw pos (keywordEach [] env))):=by
 rw[arm_eval_Call,zik hb]
 unfold methodCall calleeOf methodCallPos
 rw[zwp hs hn]
 simp only[if_true,Bool.not_true,Bool.false_or,hl]
 rfl
noncomputable def zbe(x:Str):Bool:=x==("Balls" : Str)
noncomputable def metOf(x:Str):Option Str:=if x==("Balls.fall" : Str)then some "fall"else if x==("Balls.__init__" : Str)then some "__init__"else none
noncomputable def metIx(m:Str):Option Str:=if m==("fall" : Str)then some "Balls.fall"else none
theorem zo3{m x:Str}(h:metIx m=some x):metOf x=some m/\x≠""/\zbe x=false:=by
 unfold metIx at h
 split at h
 .rename_i z
  cases h
  have z:m = "fall":=by simpa using z
  subst z
  exact⟨by decide +kernel,by decide +kernel,by decide +kernel⟩
 .cases h
noncomputable def clsAt(K:PySem.W.Frag):Option Addr:=match PySem.W.nsIn K mainGlobals "Balls"with
 |some (some (.ref C))=>if clsB K C then some C else none
 |_=>none
theorem zd0{K:PySem.W.Frag}{C:Addr}(h:clsAt K=some C):PySem.W.nsIn K mainGlobals "Balls" = some (some (.ref C))/\Cls K C:=by
 unfold clsAt at h
 split at h
 .rename_i C' e
  split at h
  .rename_i hc
   cases h
   exact⟨e,zsb hc⟩
  .cases h
 .cases h
noncomputable def refAt(K:PySem.W.Frag)(x:Str):Option Addr:=match metOf x with
 |some m=>(match clsAt K with
  |some C=>zms K C m
  |none=>none)
 |none=>(match PySem.W.nsIn K mainGlobals x with
  |some (some (.ref f))=>some f
  |_=>none)
theorem zjs{K:PySem.W.Frag}{x:Str}{f:Addr}(h:refAt K x=some f)(hm:metOf x=none):PySem.W.nsIn K mainGlobals x=some (some (.ref f)):=by
 unfold refAt at h
 rw[hm]at h
 simp only at h
 split at h
 .rename_i g e;cases h;exact e
 .cases h
theorem zk2{K:PySem.W.Frag}{x m:Str}{f C:Addr}(h:refAt K x=some f)(hm:metOf x=some m)(hc:clsAt K=some C):Meth K C m f:=by
 unfold refAt at h
 rw[hm]at h
 simp only[hc]at h
 exact zmt h
end RF
namespace L2
open PySem PySem.Spec PyProof.Rows
theorem zfo{a:Int}:∀(acc:List Value) (k:Nat),(∀(j:Nat) v,acc[j]?=some v->∃t,v=.int (a+ ((k+j:Nat):Int)) t)->Vals ((List.range' k acc.length).map λ(i:Nat)=>V.int (a+ (i:Int))) acc
 |[],k,_=>.nil
 |u::r,k,h=>by
  rw[vah,List.range'_succ,vam]
  refine .cons ?_ (zfo r (k+1) λj v e=>?_)
  .obtain⟨t,e⟩:=h 0 u rfl
   exact⟨t,e⟩
  .obtain⟨t,e2⟩:=h (j+1) v (by rw[vax];exact e)
   exact⟨t,by rw[e2,show k+1+j=k+ (j+1) by omega]⟩
section
variable{X:Cx}
theorem zsd{a:Expr}{ta:TA}{p p2 pos pos2:Pos}(hc:X.calm=true)(hg:Gl X "list")(hm:X.mg "list" = none)(hg2:Gl X "range")(hm2:X.mg "range" = none)(ha:PA X [a] ta)(hs:starEach [a] X.env=[(false,eval a X.env)]:=by rfl) :
 PE X (.Call (.Name "list" p) [.Call (.Name "range" p2) [a] [] pos2] [] pos) (λσ H Q=>ta σ H λvs H1=>∃j:Nat,vs=[.int j]/\j<=sizeLine/\∀l,H1 l=none->Q (.ref l) (upd H1 l (.lst ((List.range' 0 j).map λ(i:Nat)=>V.int (0+ (i:Int)))))):=by
 intro pins s σ H Q I h
 refine Call_ (zcq I hg hm PyProof.Rows.boot_list (PyProof.Rows.callWith_type1 (Calls.spliced_cons ?_) rfl rfl))
 refine Call_ (zcq I hg2 hm2 boot_range (PyProof.Rows.callWith_type1 (thn (ha pos2 pins s σ H _ I h) λus s1 z9=>z9.el λvs H1 I1 r1 q1=>?_) hs rfl))
 obtain⟨j,e,hj,q⟩:=q1
 subst e
 cases r1 with
 |cons r rr=>
  cases rr
  obtain⟨t,rfl⟩:=r
  refine call_range_1 (Calls.spliced_nil ?_)
  have hz:=ze5
  have h24:sizeLine<=2 ^ 24:=by decide
  refine call_list_range (n:=j) (I.ok.hd hc) (IsRange.new ..) (small_one (by omega) (by omega) (by omega) (by omega)) (by rw[rangeSize_one];split<;>omega) (by omega) λh' tk acc c hk hD hI=>?_
  have I2:Inv X pins σ H1 {s1 with heap:=s1.heap.push {cls:=.type "range",data:=.fields #[.int 0 s1.toks,.int (j:Int) t,.int 1 (s1.toks+1)]},toks:=s1.toks+1+1}:=I1.kept λb o e=>vac _ e
  have v:=zfo (a:=0) acc.toList 0 λi v e=>by
   obtain⟨t,e2⟩:=hI.2 i v (by rw[<-e,Array.getElem?_toList])
   exact⟨t,by rw[e2];congr 1⟩
  have hlen:acc.toList.length=j:=by rw[Array.length_toList];exact hI.1
  rw[hlen]at v
  refine⟨.ref _,_,I2.laid (t':=tk) hk (vae _) (show ObjOk X.prog X.w _ h' _ (.lst ((List.range' 0 j).map λ(i:Nat)=>V.int (0+ (i:Int))))from⟨by rw[vaf,List.length_range'];exact hj,acc.toList,c,v,?_⟩),rfl,q _ (I2.hok.fresh (vae _))⟩
  exact hD
end
end L2
namespace RF
open PySem PySem.Spec PyProof.Rows L2
section
variable{X:Cx}{e:Expr}{fa:FE}{p p2 pos pos2:Pos}
theorem zhp{K:PySem.W.Frag}{m:Nat->Addr}{n:Nat}{H:Hp}:∀is:List Nat,VReps K m n H (is.map λ(i:Nat)=>V.int (0+ (i:Int))) (is.map λ(i:Nat)=>W.int (0+ (i:Int)))
 |[]=>.nil
 |_::r=>.cons (.int _) (zhp r)
theorem zse(hc:X.calm=true)(hg:Gl X "list")(hm:X.mg "list" = none)(hg2:Gl X "range")(hm2:X.mg "range" = none)(ha:SA X [e] fa)(hs:zaw e=true) :
 SE X (.Call (.Name "list" p) [.Call (.Name "range" p2) [e] [] pos2] [] pos) (gArg fa lrngW):=by
 refine(zsd hc hg hm hg2 hm2 ha (zah hs)).imp λσ H Q q=>zbs (g:=lrngW) (G:=λvs H1 Q=>∃j:Nat,vs=[.int j]/\j<=sizeLine/\∀l,H1 l=none->Q (.ref l) (upd H1 l (.lst ((List.range' 0 j).map λ(i:Nat)=>V.int (0+ (i:Int)))))) (λm h H vs xs w h' Q r q e k=>?_) q
 unfold lrngW at e
 split at e
 .rename_i i
  split at e
  .rename_i hz
   cases e
   rw[vab,vaw]at hz
   obtain⟨v,rfl,q1⟩:=reps1 q
   cases q1
   refine⟨i.toNat,by rw[Int.toNat_of_nonneg hz.1],va1 hz.2,λl hl=>?_⟩
   exact Wants.list k r (zhp _) hl
  .cases e
 .cases e
end
set_option genInjectivity false in
structure CC where
 N:List Str
 names:List (Str×NameKind)
 fnAll:Bool
noncomputable def zb0:List Str->Str->Nat->Option Nat
 |[],_,_=>none
 |y::r,x,i=>if y==x then some i else zb0 r x (i+1)
theorem zhq:∀{N:List Str} {x:Str} {k i:Nat},zb0 N x k=some i->∃j,i=k+j/\N[j]?=some x
 |[],_,_,_,e=>by cases e
 |y::r,x,k,i,e=>by
  unfold zb0 at e
  split at e
  .rename_i h
   cases e
   exact⟨0,rfl,by simpa using h⟩
  .obtain⟨j,h1,h2⟩:=zhq e
   exact⟨j+1,by omega,by simpa using h2⟩
theorem zfp{N:List Str}{x:Str}{i:Nat}(e:zb0 N x 0=some i):N[i]?=some x:=by
 obtain⟨j,h1,h2⟩:=zhq e
 rw[show i=j by omega];exact h2
noncomputable def visK:Option NameKind->Bool
 |some .local|some .cell|some .free=>true
 |_=>false
noncomputable def locK(all:Bool):Option NameKind->Bool
 |some .local=>true
 |some .cell=>all
 |_=>false
noncomputable def okN(x:Str):Bool:=!(x==("__debug__" : Str)) && !(x==("__classdict__" : Str)) && !(x==("__name__" : Str)) && !(x==("" : Str))
theorem zwq{x:Str}(h:okN x=true):x≠"":=by
 unfold okN at h
 simp only[vab,Bool.not_eq_true']at h
 exact λz=>by rw[z]at h;simp at h
theorem zdo{x:Str}(h:okN x=true):(x==("__debug__" : Str))=false/\(x==("__classdict__" : Str))=false/\x≠"__name__":=by
 unfold okN at h
 simp only[vab,Bool.not_eq_true']at h
 exact⟨h.1.1.1,h.1.1.2,λz=>by rw[z]at h;simp at h⟩
noncomputable def cstW(K:PySem.W.Frag):Nat->Value->Option W
 |0,_=>none
 |n+1,v=>match v with
  |.none=>some .non
  |.bool b=>some (.bl b)
  |.int i _=>some (.int i)
  |.str x _=>some (.str x)
  |.ref a=>(match K.lookup a with
   |some o=>(match o.cls,o.dict,o.data with
    |.type t,none,.seq its _=>if t == "tuple" && Nat.ble its.size 1000 then(mapO (cstW K n) its.toList).map .tup else none
    |_,_,_=>none)
   |none=>none)
  |_=>none
theorem zmu{K:PySem.W.Frag}{f:Value->Option W}(ih:∀v w,f v=some w->∃x,RelV x v/\∀m n H,VRep K m n H x w):∀{us:List Value} {ws:List W},mapO f us=some ws->∃xs,Vals xs us/\∀m n H,VReps K m n H xs ws
 |[],_,e=>by cases e;exact⟨[],.nil,λ_ _ _=>.nil⟩
 |u::us,ws,e=>by
  unfold mapO at e
  split at e
  .rename_i b hb
   split at e
   .rename_i bs hbs
    cases e
    obtain⟨x,h1,h2⟩:=ih u b hb
    obtain⟨xs,h3,h4⟩:=zmu ih hbs
    exact⟨x::xs,.cons h1 h3,λm n H=>.cons (h2 m n H) (h4 m n H)⟩
   .cases e
  .cases e
theorem zp7{K:PySem.W.Frag}:∀(n:Nat) (v:Value) (w:W),cstW K n v=some w->∃x,RelV x v/\∀m n H,VRep K m n H x w
 |0,_,_,e=>by cases e
 |n+1,v,w,e=>by
  unfold cstW at e
  split at e
  .cases e;exact⟨.non,rfl,λ_ _ _=>.non⟩
  .cases e;exact⟨.bl _,rfl,λ_ _ _=>.bl _⟩
  .cases e;exact⟨.int _,⟨_,rfl⟩,λ_ _ _=>.int _⟩
  .cases e;exact⟨.str _,⟨_,rfl⟩,λ_ _ _=>.str _⟩
  .rename_i a
   split at e
   .rename_i o ho
    split at e
    .rename_i t its nn hc hdd hd
     split at e
     .rename_i hz
      rw[vab]at hz
      have ht:t = "tuple":=by simpa using hz.1
      subst ht
      cases z:mapO (cstW K n) its.toList with
      |none=>rw[z]at e;cases e
      |some ws=>
       rw[z]at e
       cases e
       obtain⟨xs,h3,h4⟩:=zmu (zp7 n) z
       exact⟨.ref a,rfl,λm n H=>.tup (.inr ⟨o,its,nn,ho,hc,hdd,hd,Nat.le_of_lt (zhe (va1 hz.2)),h3⟩) (h4 m n H)⟩
     .cases e
    .cases e
   .cases e
  .cases e
noncomputable def cL(f:Expr->Option E):List Expr->Option E
 |[]=>some .nil
 |e::es=>match f e,cL f es with
  |some a,some r=>some (.cons a r)
  |_,_=>none
noncomputable def fnAt(K:PySem.W.Frag)(x:Str):Option (Addr×Obj×FuncData):=match refAt K x with
 |some f=>(match K.lookup f with
  |some o=>(match o.data with
   |.func fd=>some (f,o,fd)
   |_=>none)
  |none=>none)
 |none=>none
noncomputable def zcv:Arguments->Option (List Arg)
 |⟨[],args,none,[],[],none,_⟩=>some args
 |_=>none
noncomputable def isNone:Value->Bool
 |.none=>true
 |_=>false
noncomputable def zgm:Data->Bool
 |.seq xs _=>(match xs.toList with
  |[v]=>isNone v
  |_=>false)
 |_=>false
noncomputable def noneD(K:PySem.W.Frag):Value->Bool
 |.ref t=>(match K.lookup t with
  |some o=>zgm o.data
  |none=>false)
 |_=>false
noncomputable def zb5(K:PySem.W.Frag)(x:Str)(n:Nat):Bool:=match fnAt K x with
 |some (_,_,fd)=>noneD K fd.defaults&&Nat.beq (n+1) fd.params.args.length
 |none=>false
noncomputable def hasD(K:PySem.W.Frag)(x:Str):Bool:=match fnAt K x with
 |some (_,_,fd)=>noneD K fd.defaults
 |none=>false
theorem zfq{K:PySem.W.Frag}{x:Str}{n:Nat}(h:zb5 K x n=true):hasD K x=true:=by
 unfold zb5 at h
 unfold hasD
 split at h
 .rw[vab]at h;exact h.1
 .cases h
noncomputable def padE:E->E
 |.nil=>.cons (.cst .non) .nil
 |.cons a r=>.cons a (padE r)
 |e=>e
noncomputable def argsE:E->Bool
 |.nil=>true
 |.cons _ r=>argsE r
 |_=>false
theorem zp8{cl:Call}:∀{a:E},argsE a=true->∀(ρ:En) (h:VH),ev cl (padE a) ρ h=(ev cl a ρ h).bind λy h=>match y with|.tup ys=>.ok (.tup (ys++[.non])) h|_=>.no:=by
 intro a
 induction a with
 |nil=>intro _ ρ h;rfl
 |cons x r _ ih=>
  intro ha ρ h
  have ih:=ih ha
  simp only[padE,ev]
  cases ev cl x ρ h with
  |no=>rfl
  |ex _ _=>rfl
  |ok w h1=>
   show Res.bind (ev cl (padE r) ρ h1) _=Res.bind (Res.bind (ev cl r ρ h1) _) _
   rw[ih]
   cases ev cl r ρ h1 with
   |no=>rfl
   |ex _ _=>rfl
   |ok y h2=>cases y<;>rfl
 |_=>intro ha;cases ha
theorem ziq{f:Expr->Option E}:∀{es:List Expr} {a:E},cL f es=some a->argsE a=true
 |[],_,h=>by cases h;rfl
 |e::es,a,h=>by
  unfold cL at h
  split at h
  .rename_i x r h1 h2
   cases h
   show argsE r=true
   exact ziq h2
  .cases h
noncomputable def cPs(f:Expr->Option E):List (Option Expr)->List Expr->Option E
 |[],[]=>some .nil
 |some k::ks,v::vs=>match f k,f v,cPs f ks vs with
  |some a,some b,some r=>some (.cons a (.cons b r))
  |_,_,_=>none
 |_,_=>none
noncomputable def cB(and:Bool)(f:Expr->Option E):List Expr->Option E
 |[]=>none
 |[a]=>f a
 |a::b::r=>match f a,cB and f (b::r)with
  |some x,some y=>some (if and then .and x y else .or x y)
  |_,_=>none
noncomputable def cO(f:Expr->Option E):Option Expr->Option (Bool×E)
 |none=>some (false,.cst .non)
 |some e=>(f e).map λc=>(true,c)
noncomputable def zem(K:PySem.W.Frag)(C:CC)(x:Str):Bool:=C.names.lookup x==some .globalImplicit&& (match PySem.W.nsIn K mainGlobals x with|some none=>true|_=>false)
noncomputable def tyOf(x:Str):Option Ty:=
 if x==("int" : Str)then some .int else if x==("bool" : Str)then some .bool else if x==("tuple" : Str)then some .tuple else if x==("list" : Str)then some .list else if x==("str" : Str)then some .str else if x==("dict" : Str)then some .dict else none
noncomputable def lrOf(f:Str)(args:List Expr):Option Expr:=if f==("list" : Str)then(match args with
 |[.Call (.Name g _) [a] [] _]=>if g==("range" : Str)then some a else none
 |_=>none)else none
noncomputable def biOf(x:Str):Option Bi:=
 if x==("len" : Str)then some .len else if x==("list" : Str)then some .list else if x==("tuple" : Str)then some .tuple else if x==("int" : Str)then some .int else if x==("abs" : Str)then some .abs else if x==("min" : Str)then some .min else if x==("all" : Str)then some .all else none
noncomputable def zp9:Expr->Bool
 |.Tuple ..=>true
 |_=>false
noncomputable def okW:Kd->Expr->Bool
 |.enm,t=>zp9 t
 |.zip,t=>zp9 t
 |_,_=>true
noncomputable def nmIx(C:CC):Expr->Option Nat
 |.Name x _=>if okN x&&locK C.fnAll (C.names.lookup x)then zb0 C.N x 0 else none
 |_=>none
noncomputable def cTg(C:CC):Expr->Option Tg
 |.Name x p=>(nmIx C (.Name x p)).map .one
 |.Tuple es _ _=>(mapO (nmIx C) es).map .many
 |_=>none
noncomputable def ownOf(sc:Scope):List Str:=(sc.names.filter λy=>y.2 == .local && !(y.1==(".0" : Str))).map (·.1)
noncomputable def za9(sc:Scope):List Str:=(sc.names.filter λy=>y.2 == .free).map (·.1)
noncomputable def zen(C:CC)(sc:Scope)(ix:List Nat):Bool:=
 decide (sc.kind=.function)&&sc.names.all (λy=>decide (y.2≠.cell))&&sc.names.all (λy=>decide (y.2=.local->sc.names.lookup y.1=some .local)) &&
 (ownOf sc).all (λx=>decide (sc.names.lookup x=some .local))&&sc.names.all (λy=>decide (y.2=.free->C.names.lookup y.1=some .cell\/C.names.lookup y.1=some .free))&&decide (ix.length=(za9 sc).length) &&
 ((List.range (za9 sc).length).all λk=>match(za9 sc)[k]?,ix[k]? with
   |some x,some j=>decide (C.N[j]?=some x)&&decide (sc.names.lookup x=some .free)
   |_,_=>false)&&decide (ownOf sc++za9 sc).Nodup
noncomputable def inC(sc:Scope):CC:=⟨ownOf sc++za9 sc,sc.names,false⟩
mutual
noncomputable def cE(K:PySem.W.Frag)(T:List Str):Nat->CC->Expr->Option E
 |0,_,_=>none
 |n+1,C,e=>match e with
  |.Name x _=>if okN x then(if visK (C.names.lookup x)then(zb0 C.N x 0).map .var
   else if C.names.lookup x==some .globalImplicit then(match PySem.W.nsIn K mainGlobals x with
    |some (some v)=>(cstW K 8 v).map .cst
    |_=>none)else none)else none
  |.Constant c _ _=>(match c with
   |.int i=>some (.cst (.int i))
   |.bool b=>some (.cst (.bl b))
   |.none=>some (.cst .non)
   |.str x=>some (.cst (.str x))
   |_=>none)
  |.Tuple es _ _=>(cL (cE K T n C) es).map .tup
  |.List es _=>(cL (cE K T n C) es).map .lst
  |.Dict ks vs _=>if Nat.ble ks.length 15&&Nat.beq ks.length vs.length&&ks.all (·.isSome)then(cPs (cE K T n C) ks vs).map .dsp else none
  |.BinOp a O b _=>(match opOf O,cE K T n C a,cE K T n C b with
   |some o,some x,some y=>some (.op o x y)
   |_,_,_=>none)
  |.UnaryOp .Not a _=>(cE K T n C a).map .not
  |.UnaryOp .USub a _=>(cE K T n C a).map .neg
  |.BoolOp .And es _=>cB true (cE K T n C) es
  |.BoolOp .Or es _=>cB false (cE K T n C) es
  |.Compare a [O] [b] _=>if zch b then(match cpOf O,cE K T n C a,cE K T n C b with
   |some c,some x,some y=>some (.cmp c x y)
   |_,_,_=>none)else none
  |.Compare a [O,O'] [b,c] _=>if zch c then(match cpOf O,cpOf O',cE K T n C a,cE K T n C b,cE K T n C c with
   |some o,some o',some x,some y,some z=>some (.chn o o' x y z)
   |_,_,_,_,_=>none)else none
  |.IfExp c a b _=>(match cT K T n C c,cE K T n C a,cE K T n C b with
   |some z,some x,some y=>some (.ite z x y)
   |_,_,_=>none)
  |.Subscript a (.Slice lo hi none _) _=>(match cE K T n C a,cO (cE K T n C) lo,cO (cE K T n C) hi with
   |some x,some (bl,l),some (bh,u)=>some (.slc x bl l bh u)
   |_,_,_=>none)
  |.Subscript a b _=>if zel b then(match cE K T n C a,cE K T n C b with
   |some x,some y=>some (.idx x y)
   |_,_=>none)else none
  |.Call (.Name f _) args [] _=>if okN f&&C.names.lookup f==some .globalImplicit then(match PySem.W.nsIn K mainGlobals f with
   |some none=>if f==("isinstance" : Str)then(match args with
    |[a,.Name t _]=>(match tyOf t,cE K T n C a with
     |some ty,some x=>if okN t&&zem K C t then some (.isi ty x)else none
     |_,_=>none)
    |_=>none)
    else(match lrOf f args with
     |some a=>if okN "range" && zem K C "range"then(cE K T n C a).map λx=>.bi .lrng (.cons x .nil)else none
     |none=>match biOf f,args with
     |some b,_::_=>(cL (cE K T n C) args).map (.bi b)
     |_,_=>none)
   |some (some _)=>if zbe f then(match zb0 T f 0,args with
    |some i,_::_=>if zb5 K "Balls.__init__" (args.length+1)then(cL (cE K T n C) args).map (λa=>.call i (padE a))else(cL (cE K T n C) args).map (.call i)
    |_,_=>none)else if(metOf f).isSome then none else(match zb0 T f 0 with
    |some i=>if zb5 K f args.length && !args.isEmpty then(cL (cE K T n C) args).map (λa=>.call i (padE a))else(cL (cE K T n C) args).map (.call i)
    |none=>none)
   |none=>none)else none
  |.Call (.Attribute o mth ap) args [] pos=>if zej o&& (ap.endLine==pos.line)then(match metIx mth with
   |some y=>(match clsAt K,zb0 T y 0,cE K T n C o,args with
    |some D,some i,some x,_::_=>if Nat.blt args.length 30 then(cL (cE K T n C) args).map (λz=>.mcall D mth i x z)else none
    |_,_,_,_=>none)
   |none=>match cE K T n C o,args with
    |some x,[a]=>if mth==("append" : Str)then(cE K T n C a).map λy=>.mt .append x (.cons y .nil)else none
    |_,_=>none)else none
  |.Attribute o x _=>if zej o then(match clsAt K,cE K T n C o with
   |some D,some a=>if zgl K D x then some (.att D x a)else none
   |_,_=>none)else none
  |.ListComp elt [⟨tg,iter,ifs,0⟩] sc _=>(match mapO (λx=>zb0 C.N x 0) (za9 sc)with
   |some ix=>if zen C sc ix then(match cW K T n C iter,cTg (inC sc) tg,(match ifs with|[]=>some (.cst (.bl true))|[c]=>cT K T n (inC sc) c|_=>none),cE K T n (inC sc) elt with
    |some (kd,a),some t,some c,some e=>if okW kd tg then some (.lc kd a t (ownOf sc).length ix c e)else none
    |_,_,_,_=>none)else none
   |none=>none)
  |_=>none
noncomputable def cT(K:PySem.W.Frag)(T:List Str):Nat->CC->Expr->Option E
 |0,_,_=>none
 |n+1,C,e=>match e with
  |.Compare a [O] [b] _=>if zch b then(match cpOf O,cE K T n C a,cE K T n C b with
   |some c,some x,some y=>some (.cmp c x y)
   |_,_,_=>none)else none
  |.Compare a [O,O'] [b,c] _=>if zch c then(match cpOf O,cpOf O',cE K T n C a,cE K T n C b,cE K T n C c with
   |some o,some o',some x,some y,some z=>some (.chn o o' x y z)
   |_,_,_,_,_=>none)else none
  |.UnaryOp .Not a _=>(cT K T n C a).map .not
  |.BoolOp .And es _=>cB true (cT K T n C) es
  |.BoolOp .Or es _=>cB false (cT K T n C) es
  |.Name x p=>(cE K T n C (.Name x p)).map .tru
  |.Call f as ks p=>(cE K T n C (.Call f as ks p)).map .tru
  |.Subscript a b p=>(cE K T n C (.Subscript a b p)).map .tru
  |_=>none
noncomputable def cW(K:PySem.W.Frag)(T:List Str):Nat->CC->Expr->Option (Kd×E)
 |0,_,_=>none
 |n+1,C,e=>match e with
  |.Call (.Name f p) args [] pos=>if f==("range" : Str)then(if zem K C f then(match args with
   |[a]=>(cE K T n C a).map λx=>(.rng1,.cons x .nil)
   |_=>none)else none)
   else if f==("enumerate" : Str)then(if zem K C f then(match args with
    |[a]=>(cE K T n C a).map λx=>(.enm,x)
    |_=>none)else none)
   else if f==("zip" : Str)then(if zem K C f then(match args with
    |[a,b]=>(match cE K T n C a,cE K T n C b with
     |some x,some y=>some (.zip,.cons x (.cons y .nil))
     |_,_=>none)
    |_=>none)else none)
   else(cE K T n C (.Call (.Name f p) args [] pos)).map λx=>(.seq,x)
  |.Set ..=>none
  |e=>(cE K T n C e).map λx=>(.seq,x)
end
noncomputable def cSs(f:Stmt->Option S):List Stmt->Option S
 |[]=>some .skip
 |s::r=>match f s,cSs f r with
  |some a,some b=>some (.seq a b)
  |_,_=>none
noncomputable def cS(K:PySem.W.Frag)(T:List Str)(d:Nat):Nat->CC->Stmt->Option S
 |0,_,_=>none
 |n+1,C,s=>match s with
  |.Pass _=>some .skip
  |.Break _=>some .brk
  |.Continue _=>some .cnt
  |.Raise ..=>some .no
  |.Return none _=>some (.ret (.cst .non))
  |.Return (some e) _=>(cE K T d C e).map .ret
  |.Expr e _=>if zhl e then(cE K T d C e).map .expr else none
  |.Assign [.Name x p] e _=>(match nmIx C (.Name x p),cE K T d C e with
   |some i,some c=>some (.set i c)
   |_,_=>none)
  |.Assign [.Tuple ts _ _] e _=>if noTup e then(match mapO (nmIx C) ts,cE K T d C e with
   |some is,some c=>some (.unp is c)
   |_,_=>none)else none
  |.Assign [.Subscript o i _] e _=>if zel i then(match cE K T d C o,cE K T d C i,cE K T d C e with
   |some x,some y,some z=>some (.put x y z)
   |_,_,_=>none)else none
  |.Assign [.Attribute o x _] e _=>if zhl e then(match clsAt K,cE K T d C o,cE K T d C e with
   |some D,some a,some b=>if zgl K D x then some (.sat D x a b)else none
   |_,_,_=>none)else none
  |.AugAssign (.Name x p) O e _=>(match nmIx C (.Name x p),ipOf O,cE K T d C e with
   |some i,some o,some c=>some (.aug i o c)
   |_,_,_=>none)
  |.If c a b _=>(match cT K T d C c,cSs (cS K T d n C) a,cSs (cS K T d n C) b with
   |some z,some x,some y=>some (.ite z x y)
   |_,_,_=>none)
  |.For tg it b [] _=>(match cW K T d C it,cTg C tg,cSs (cS K T d n C) b with
   |some (kd,a),some t,some x=>if okW kd tg then some (.for kd a t x)else none
   |_,_,_=>none)
  |.While c b [] _=>(match cT K T d C c,cSs (cS K T d n C) b with
   |some z,some x=>some (.whl z x)
   |_,_=>none)
  |_=>none
structure XOk(X:Cx)(C:CC)(T:List Str)(F:Nat->Option Fn)(k:Nat):Prop where
 hN:X.N=C.N
 nd:C.N.Nodup
 vis:∀x,visK (C.names.lookup x)=true->Vis X.env.scope x
 loc:∀x,locK C.fnAll (C.names.lookup x)=true->Loc X.env.scope x/\(X.fn x=true\/X.env.scope.names.lookup x=some .local)
 gl:∀x,C.names.lookup x=some .globalImplicit->Gl X x
 cf:∀x,(C.names.lookup x=some .cell\/C.names.lookup x=some .free)->X.env.kindOf x=some .cell\/X.env.kindOf x=some .free
 calm:X.calm=true
 room:Room k X.A
 xe:X.xe=λ_ _=>False
 kfn:X.env.scope.kind=.function
 mgs:∀x v,PySem.W.nsIn X.K mainGlobals x=some (some v)->X.mg x=some v
 mgn:∀x,PySem.W.nsIn X.K mainGlobals x=some none->X.mg x=none
 fns:∀(i:Nat)(x:Str),T[i]?=some x->x≠""->zbe x=false->∃f fd ps fn,refAt X.K x=some f/\FnOk X.prog X.w X.K X.mg X.base CX0 k f fd ps (spV X.K ps.length (run F k i))/\PySem.W.keepIn X.K (.ref f)=true/\Binds X.K fd ps []/\F i=some fn/\fn.ps=ps.length/\(hasD X.K x=true->Binds X.K fd ps [.none])
 cls:∀(ci:Nat)(x:Str),T[ci]?=some x->zbe x=true->∀k',k=k'+1->∃D f fd ps ii na,clsAt X.K=some D/\F ci=some (clsFn D ii na)/\Mk X.K D f/\FnOk X.prog X.w X.K X.mg X.base CX0 k' f fd ps (spV X.K ps.length (run F k' ii))/\Binds X.K fd ps []/\(hasD X.K "Balls.__init__" = true->Binds X.K fd ps [.none])/\∀ws h w h',run F k' ii ws h=.ok w h'->ws.length=ps.length
section
variable{X:Cx}{C:CC}{T:List Str}{F:Nat->Option Fn}{k:Nat}
theorem XOk.u65(O:XOk X C T F k):X.A.units+65<cLine:=by have:=O.room.un;omega
theorem XOk.u2(O:XOk X C T F k):X.A.units+2<cLine:=Nat.lt_of_le_of_lt (Nat.add_le_add_left (by decide:2<=64) _) O.room.units
theorem zb6(O:XOk X C T F k){x:Str}(h:zem X.K C x=true):Gl X x/\X.mg x=none:=by
 unfold zem at h
 rw[vab]at h
 refine⟨O.gl x (by simpa using h.1),O.mgn x ?_⟩
 have h2:=h.2
 split at h2
 .assumption
 .cases h2
theorem nm_ok(O:XOk X C T F k){e:Expr}{i:Nat}(h:nmIx C e=some i):NmOk X e i:=by
 unfold nmIx at h
 split at h
 .split at h
  .rename_i hc
   rw[vab]at hc
   obtain⟨h1,h2⟩:=O.loc _ hc.2
   exact⟨_,_,rfl,by rw[O.hN];exact zfp h,h1,h2⟩
  .cases h
 .cases h
theorem zmv(O:XOk X C T F k):∀{es:List Expr} {is:List Nat},mapO (nmIx C) es=some is->Paired (NmOk X) es is
 |[],_,h=>by cases h;exact .nil
 |e::es,is,h=>by
  unfold mapO at h
  split at h
  .rename_i b hb
   split at h
   .rename_i bs hbs
    cases h
    exact .cons (nm_ok O hb) (zmv O hbs)
   .cases h
  .cases h
theorem tg_ok(O:XOk X C T F k){e:Expr}{t:Tg}(h:cTg C e=some t):PG X e (lftG X.K t):=by
 unfold cTg at h
 split at h
 .rename_i x p
  cases z:nmIx C (.Name x p)with
  |none=>rw[z]at h;cases h
  |some i=>
   rw[z]at h;cases h
   obtain⟨x',p',e,h1,h2,h3⟩:=nm_ok O z
   cases e
   exact zv6 (O.hN▸O.nd) h1 h2 h3
 .rename_i es kx p
  cases z:mapO (nmIx C) es with
  |none=>rw[z]at h;cases h
  |some is=>rw[z]at h;cases h;exact zmm O.calm (O.hN▸O.nd) (zmv O z)
 .cases h
theorem cL_ok{f:Expr->Option E}{cl:Call}(ih:∀e c,f e=some c->SE X e (ev cl c)/\zaw e=true):∀{es:List Expr} {c:E},cL f es=some c->SA X es (ev cl c)/\es.all zaw=true
 |[],_,h=>by cases h;exact⟨zjk,rfl⟩
 |e::es,c,h=>by
  unfold cL at h
  split at h
  .rename_i a r ha hr
   cases h
   obtain⟨h1,h2⟩:=ih e a ha
   obtain⟨h3,h4⟩:=cL_ok ih hr
   exact⟨zef h1 h3 (zah h2),by rw[List.all_cons,h2,h4];rfl⟩
  .cases h
theorem zqa{f:Expr->Option E}{cl:Call}{pos:Pos}(ih:∀e c,f e=some c->SE X e (ev cl c)/\zaw e=true):∀{ks:List (Option Expr)} {vs:List Expr} {c:E},cPs f ks vs=some c->SPs X pos ks vs (ev cl c)
 |[],[],_,h=>by cases h;exact zrx
 |[],_::_,_,h=>by cases h
 |none::_,_,_,h=>by cases h
 |some _::_,[],_,h=>by cases h
 |some a::ks,v::vs,c,h=>by
  unfold cPs at h
  split at h
  .rename_i x y r hx hy hr
   cases h
   exact zor (ih _ _ hx).1 (ih _ _ hy).1 (zqa ih hr)
  .cases h
theorem cB_ok{f:Expr->Option E}{cl:Call}{pos:Pos}(ih:∀e c,f e=some c->SE X e (ev cl c)/\zaw e=true):∀{es:List Expr} {c:E},(cB true f es=some c->SE X (.BoolOp .And es pos) (ev cl c))/\(cB false f es=some c->SE X (.BoolOp .Or es pos) (ev cl c))
 |[],_=>⟨(λh=>nomatch h),(λh=>nomatch h)⟩
 |[a],c=>⟨λh=>zpy (ih a c h).1,λh=>zpy (ih a c h).1⟩
 |a::b::r,c=>by
  refine⟨λh=>?_,λh=>?_⟩
  .unfold cB at h
   split at h
   .rename_i x y hx hy
    cases h
    exact zvk (ih a x hx).1 ((cB_ok ih).1 hy)
   .cases h
  .unfold cB at h
   split at h
   .rename_i x y hx hy
    cases h
    exact se_or (ih a x hx).1 ((cB_ok ih).2 hy)
   .cases h
theorem zjt{f:Expr->Option E}{cl:Call}{pos:Pos}(ih:∀e c,f e=some c->ST X e (ev cl c)):∀{es:List Expr} {c:E},(cB true f es=some c->SW X (.BoolOp .And es pos) (ev cl c))/\(cB false f es=some c->SW X (.BoolOp .Or es pos) (ev cl c))
 |[],_=>⟨(λh=>nomatch h),(λh=>nomatch h)⟩
 |[a],c=>⟨λh=>zpx (ih a c h),λh=>zpx (ih a c h)⟩
 |a::b::r,c=>by
  refine⟨λh=>?_,λh=>?_⟩
  .unfold cB at h
   split at h
   .rename_i x y hx hy
    cases h
    exact zvj (ih a x hx) ((zjt ih).1 hy)
   .cases h
  .unfold cB at h
   split at h
   .rename_i x y hx hy
    cases h
    exact sw_or (ih a x hx) ((zjt ih).2 hy)
   .cases h
theorem cO_ok{f:Expr->Option E}{cl:Call}(ih:∀e c,f e=some c->SE X e (ev cl c)/\zaw e=true){o:Option Expr}{b:Bool}{c:E}(h:cO f o=some (b,c)):PO X o (lftO X.K b (ev cl c)):=by
 unfold cO at h
 split at h
 .cases h;exact zru
 .rename_i e
  cases z:f e with
  |none=>rw[z]at h;cases h
  |some c'=>rw[z]at h;cases h;exact zrv (ih _ _ z).1
theorem zsf{x:Str}{t:Ty}(h:tyOf x=some t):bootBuiltins x=some (.type (tyN t)):=by
 unfold tyOf at h
 split at h
 .rename_i e;cases h;rw[show x = "int" by simpa using e];exact PyProof.Rows.boot_int
 split at h
 .rename_i e;cases h;rw[show x = "bool" by simpa using e];decide +kernel
 split at h
 .rename_i e;cases h;rw[show x = "tuple" by simpa using e];exact PyProof.Rows.boot_tuple
 split at h
 .rename_i e;cases h;rw[show x = "list" by simpa using e];exact PyProof.Rows.boot_list
 split at h
 .rename_i e;cases h;rw[show x = "str" by simpa using e];decide +kernel
 split at h
 .rename_i e;cases h;rw[show x = "dict" by simpa using e];decide +kernel
 .cases h
theorem bi_ok{x:Str}{b:Bi}{e:Expr}{es:List Expr}{fa:FE}{p pos:Pos}(h:biOf x=some b)(hg:Gl X x)(hm:X.mg x=none)(hn:okN x=true)(hc:X.calm=true)(ha:SA X (e::es) fa)(hs:(e::es).all zaw=true):SE X (.Call (.Name x p) (e::es) [] pos) (gArg fa (biW b)):=by
 obtain⟨n1,_,n2⟩:=zdo hn
 unfold biOf at h
 split at h
 .rename_i z
  cases h
  have z:x = "len":=by simpa using z
  subst z
  exact zdz zha zvp hg hm PySem.boot_len ha hs n2 n1
 split at h
 .rename_i z
  cases h
  have z:x = "list":=by simpa using z
  subst z
  exact zei zhb zrw hg hm PyProof.Rows.boot_list ha hs n2 n1
 split at h
 .rename_i z
  cases h
  have z:x = "tuple":=by simpa using z
  subst z
  exact zei zf9 zop hg hm PyProof.Rows.boot_tuple ha hs n2 n1
 split at h
 .rename_i z
  cases h
  have z:x = "int":=by simpa using z
  subst z
  exact zei zlk zvq hg hm PyProof.Rows.boot_int ha hs n2 n1
 split at h
 .rename_i z
  cases h
  have z:x = "abs":=by simpa using z
  subst z
  exact zdz zn4 zvr hg hm (by decide +kernel) ha hs n2 n1
 split at h
 .rename_i z
  cases h
  have z:x = "min":=by simpa using z
  subst z
  exact zdz (zlj hc) zvs hg hm (by decide +kernel) ha hs n2 n1
 split at h
 .rename_i z
  cases h
  have z:x = "all":=by simpa using z
  subst z
  exact zdz (zol hc) zvt hg hm (by decide +kernel) ha hs n2 n1
 .cases h
theorem zk3{b:Expr}(h:zel b=true):zic b:=λo i=>by cases b<;>first|rfl|cases h
end
section
variable{X:Cx}{C:CC}{T:List Str}{F:Nat->Option Fn}{k:Nat}
theorem za3{env:Env}{kd:NameKind}(hk:kd≠.free):∀{l:List (Str×NameKind)} {x:Str},l.lookup x=some kd->
 (l.map λ(n,k)=>if(k==NameKind.free&&env.scope.kind == .function&&env.kindOf n==some .cell)then(n,NameKind.cell)else(n,k)).lookup x=some kd
 |[],_,h=>by cases h
 |(n,j)::r,x,h=>by
  rw[vam]
  simp only[va6]at h
  by_cases hx:(x==n)=true
  .simp only[hx]at h
   cases h
   have:(kd==NameKind.free)=false:=by simpa using hk
   simp only[this,Bool.false_and,vak,if_false,va6,hx]
  .have hx':(x==n)=false:=by simpa using hx
   simp only[hx']at h
   have ih:=za3 (env:=env) hk (l:=r) (x:=x) h
   by_cases hc':(j==NameKind.free&&env.scope.kind == .function&&env.kindOf n==some .cell)=true
   .simp only[hc',if_true,va6,hx'];exact ih
   .have hcf:(j==NameKind.free&&env.scope.kind == .function&&env.kindOf n==some .cell)=false:=by simpa using hc'
    simp only[hcf,vak,if_false,va6,hx'];exact ih
theorem zfr(O:XOk X C T F k){sc:Scope}{ix:List Nat}(h:zen C sc ix=true):CompScope X (ownOf sc) (za9 sc) ix sc/\(ownOf sc++za9 sc).Nodup:=by
 unfold zen at h
 simp only[vab,vaw,List.all_eq_true]at h
 obtain⟨⟨⟨⟨⟨⟨⟨h1,h2⟩,h3⟩,h4⟩,h5⟩,h6⟩,h7⟩,h8⟩:=h
 refine⟨⟨h1,h2,h3,h4,λy hy e=>O.cf _ (h5 y hy e),λq x e=>?_,h6⟩,h8⟩
 have hk:q< (za9 sc).length:=(vav.mp e).1
 have:=h7 q (List.mem_range.mpr hk)
 rw[e]at this
 cases z:ix[q]? with
 |none=>rw[z]at this;cases this
 |some j=>
  rw[z]at this
  simp only[vab,vaw]at this
  exact⟨j,rfl,by rw[O.hN];exact this.1,this.2⟩
theorem zir(O:XOk X C T F k){sc:Scope}{ix:List Nat}(h:zen C sc ix=true)(D:Addr)(s₀:Shared)(H₀:Hp)(ex:List Addr):XOk (X.comp (ownOf sc++za9 sc) sc D s₀ H₀ ex) (inC sc) T F k:=by
 obtain⟨S,nd⟩:=zfr O h
 refine⟨rfl,nd,λx hx=>?_,λx hx=>?_,λx hx=>?_,λx hx=>?_,O.calm,O.room,rfl,S.kind,O.mgs,O.mgn,O.fns,O.cls⟩
 .have hx:visK (sc.names.lookup x)=true:=hx
  cases z:sc.names.lookup x with
  |none=>rw[z]at hx;cases hx
  |some kd=>
   cases kd with
   | «local»=>exact .inl (za3 (by decide) z)
   |cell=>exact .inr (.inl (za3 (by decide) z))
   |free=>
    have:=zbl (env:=X.env) O.kfn z
    by_cases hc:X.env.kindOf x=some .cell
    .rw[if_pos hc]at this;exact .inr (.inl this)
    .rw[if_neg hc]at this;exact .inr (.inr this)
   |globalExplicit=>rw[z]at hx;cases hx
   |globalImplicit=>rw[z]at hx;cases hx
 .have hx:locK false (sc.names.lookup x)=true:=hx
  cases z:sc.names.lookup x with
  |none=>rw[z]at hx;cases hx
  |some kd=>
   cases kd with
   | «local»=>exact⟨.inl (za3 (by decide) z),.inr (za3 (by decide) z)⟩
   |cell=>rw[z]at hx;cases hx
   |free=>rw[z]at hx;cases hx
   |globalExplicit=>rw[z]at hx;cases hx
   |globalImplicit=>rw[z]at hx;cases hx
 .exact za3 (by decide) hx
 .have hx:sc.names.lookup x=some .cell\/sc.names.lookup x=some .free:=hx
  rcases hx with z|z
  .exact .inl (za3 (by decide) z)
  .have:=zbl (env:=X.env) O.kfn z
   by_cases hc:X.env.kindOf x=some .cell
   .rw[if_pos hc]at this;exact .inl this
   .rw[if_neg hc]at this;exact .inr this
end
theorem map_some{α β:Type}{o:Option α}{f:α->β}{b:β}(h:o.map f=some b):∃a,o=some a/\b=f a:=by
 cases o with
 |none=>cases h
 |some a=>cases h;exact⟨a,rfl,rfl⟩
structure Snd(X:Cx)(C:CC)(T:List Str)(F:Nat->Option Fn)(k n:Nat):Prop where
 e:∀e c,cE X.K T n C e=some c->SE X e (ev (run F k) c)/\zaw e=true
 t:∀e c,cT X.K T n C e=some c->ST X e (ev (run F k) c)
 w:∀e kd c tg,cW X.K T n C e=some (kd,c)->okW kd tg=true->PI X tg e (lftI X.K kd (ev (run F k) c))/\∀x,foldedSetIterable e X.env x=pure x
section
variable{X:Cx}{C:CC}{T:List Str}{F:Nat->Option Fn}{k n:Nat}
theorem snd_t(O:XOk X C T F k)(ih:Snd X C T F k n)(e:Expr)(c:E)(h:cT X.K T (n+1) C e=some c):ST X e (ev (run F k) c):=by
 unfold cT at h
 split at h
 .split at h
  .rename_i hs
   split at h
   .rename_i h1 h2 h3
    cases h
    exact zve O.u65 h1 hs (ih.e _ _ h2).1 (ih.e _ _ h3).1
   .cases h
  .cases h
 .split at h
  .rename_i hs
   split at h
   .rename_i h1 h2 h3 h4 h5
    cases h
    exact zvg O.u65 h1 h2 hs (ih.e _ _ h3).1 (ih.e _ _ h4).1 (ih.e _ _ h5).1
   .cases h
  .cases h
 .obtain⟨a,h1,rfl⟩:=map_some h
  exact zvh (ih.t _ _ h1)
 .exact((zjt ih.t).1 h).pt
 .exact((zjt ih.t).2 h).pt
 .obtain⟨a,h1,rfl⟩:=map_some h
  exact zmi (ih.e _ _ h1).1 λ_=>rfl
 .obtain⟨a,h1,rfl⟩:=map_some h
  exact zmi (ih.e _ _ h1).1 λ_=>rfl
 .obtain⟨a,h1,rfl⟩:=map_some h
  exact zmi (ih.e _ _ h1).1 λ_=>rfl
 .cases h
theorem noSet{e:Expr}(h:∀a b c,e≠.Set a b c){env:Env}:∀x,foldedSetIterable e env x=pure x:=by
 intro x
 cases e<;>first|rfl|exact absurd rfl (h _ _ _)
theorem snd_w(O:XOk X C T F k)(ih:Snd X C T F k n)(e:Expr)(kd:Kd)(c:E)(tg:Expr)(h:cW X.K T (n+1) C e=some (kd,c))(hw:okW kd tg=true):PI X tg e (lftI X.K kd (ev (run F k) c))/\∀x,foldedSetIterable e X.env x=pure x:=by
 unfold cW at h
 split at h
 .rename_i f p args pos
  refine⟨?_,λx=>rfl⟩
  split at h
  .rename_i hf
   have hf:f = "range":=by simpa using hf
   subst hf
   split at h
   .rename_i ha
    obtain⟨g1,g2⟩:=zb6 O ha
    split at h
    .rename_i a
     obtain⟨x,h1,h2⟩:=map_some h
     cases h2
     obtain⟨h3,h4⟩:=ih.e _ _ h1
     exact zr0 (zef h3 zjk (zah h4)) h4 g1 g2
    .cases h
   .cases h
  .split at h
   .rename_i hf
    have hf:f = "enumerate":=by simpa using hf
    subst hf
    split at h
    .rename_i ha
     obtain⟨g1,g2⟩:=zb6 O ha
     split at h
     .rename_i a
      obtain⟨x,h1,h2⟩:=map_some h
      cases h2
      obtain⟨h3,h4⟩:=ih.e _ _ h1
      cases tg<;>first|exact zv2 h3 h4 g1 g2|cases hw
     .cases h
    .cases h
   .split at h
    .rename_i hf
     have hf:f = "zip":=by simpa using hf
     subst hf
     split at h
     .rename_i ha
      obtain⟨g1,g2⟩:=zb6 O ha
      split at h
      .rename_i a b
       split at h
       .rename_i x y h1 h2
        cases h
        obtain⟨h3,h4⟩:=ih.e _ _ h1
        obtain⟨h5,h6⟩:=ih.e _ _ h2
        cases tg<;>first|exact zv5 (zef h3 (zef h5 zjk (zah h6)) (zah h4)) h4 h6 g1 g2|cases hw
       .cases h
      .cases h
     .cases h
    .obtain⟨x,h1,h2⟩:=map_some h
     cases h2
     exact zpz (ih.e _ _ h1).1
 .cases h
 .rename_i hns
  obtain⟨x,h1,h2⟩:=map_some h
  cases h2
  exact⟨zpz (ih.e _ _ h1).1,noSet (by first|exact hns|(intro a b c z;exact hns a b c z))⟩
end
section
variable{X:Cx}{C:CC}{T:List Str}{F:Nat->Option Fn}{k n:Nat}
theorem zo4(O:XOk X C T F k){x:Str}{p:Pos}{c:E}(h:cE X.K T (n+1) C (.Name x p)=some c):SE X (.Name x p) (ev (run F k) c):=by
 simp only[cE]at h
 split at h
 .rename_i hn
  obtain⟨n1,n2,n3⟩:=zdo hn
  split at h
  .rename_i hv
   obtain⟨i,h1,rfl⟩:=map_some h
   exact zu5 (by rw[O.hN];exact zfp h1) (O.vis x hv) n1 n2
  .split at h
   .rename_i hg
    split at h
    .rename_i v hv
     obtain⟨w,h1,rfl⟩:=map_some h
     obtain⟨y,h2,h3⟩:=zp7 8 v w h1
     exact zhi (zqo (O.gl x (by simpa using hg)) (O.mgs x v hv) h2 n1) h3
    .cases h
   .cases h
 .cases h
theorem zsg{cl:Call}{i:Nat}{a:E}(h:argsE a=true):ev cl (.call i (padE a))=gArg (ev cl a) (λws h=>cl i (ws++[.non]) h):=by
 funext ρ h1
 simp only[ev,zp8 h]
 show Res.bind (Res.bind (ev cl a ρ h1) _) _=Res.bind (ev cl a ρ h1) _
 cases ev cl a ρ h1 with
 |no=>rfl
 |ex _ _=>rfl
 |ok y h2=>cases y<;>rfl
theorem zsh(O:XOk X C T F k)(ih:Snd X C T F k n){f:Str}{p pos:Pos}{args:List Expr}{c:E}(hcl:zbe f=true)(hn:okN f=true)(hg:Gl X f)
 (h:(match zb0 T f 0,args with
      |some i,_::_=>if zb5 X.K "Balls.__init__" (args.length+1)=true then(cL (cE X.K T n C) args).map (λa=>.call i (padE a))else(cL (cE X.K T n C) args).map (.call i)
      |_,_=>none)=some c):SE X (.Call (.Name f p) args [] pos) (ev (run F k) c):=by
 split at h
 .rename_i i e es hi
  have hx:f = "Balls":=by unfold zbe at hcl;simpa using hcl
  cases k with
  |zero=>
   have nev:∀(a:E)(ρ:En)(h1:VH)(w:W)(h':VH),ev (run F 0) (.call i a) ρ h1≠.ok w h':=λa ρ h1 w h' q=>by
    simp only[ev]at q
    refine zab q λy h2 _ e2=>?_
    cases y<;>cases e2
   intro pins s σ H Q I ⟨ρ,h1,m,w,h',_,_,q,_⟩
   split at h
   .obtain⟨a,_,rfl⟩:=map_some h
    exact absurd q (nev _ _ _ _ _)
   .obtain⟨a,_,rfl⟩:=map_some h
    exact absurd q (nev _ _ _ _ _)
  |succ k=>
   obtain⟨D,g,fd,ps,ii,na,a1,a2,a3,a4,a5,a6,a7⟩:=O.cls i f (zfp hi) hcl k rfl
   have hm:X.mg f=some (.ref D):=by rw[hx];exact O.mgs _ _ (zd0 a1).1
   split at h
   .rename_i hlv
    obtain⟨a,h1,rfl⟩:=map_some h
    obtain⟨h2,h3⟩:=cL_ok ih.e h1
    rw[zsg (ziq h1)]
    exact zsa a2 a3 a4 O.room hg hm (a6 (zfq hlv)) h2 h3 (zdo hn).1 a7
   .obtain⟨a,h1,rfl⟩:=map_some h
    obtain⟨h2,h3⟩:=cL_ok ih.e h1
    exact zwn a2 a3 a4 O.room hg hm a5 h2 h3 (zdo hn).1 a7
 .cases h
theorem zsi{f:Str}{args:List Expr}{a:Expr}(h:lrOf f args=some a):∃p pos,f = "list"/\args=[.Call (.Name "range" p) [a] [] pos]:=by
 unfold lrOf at h
 split at h
 .rename_i hf
  split at h
  .split at h
   .rename_i hg
    cases h
    simp only[beq_iff_eq]at hg
    subst hg
    exact⟨_,_,by simpa using hf,rfl⟩
   .cases h
  .cases h
 .cases h
theorem zo5(O:XOk X C T F k)(ih:Snd X C T F k n){f:Str}{p pos:Pos}{args:List Expr}{c:E}(h:cE X.K T (n+1) C (.Call (.Name f p) args [] pos)=some c):SE X (.Call (.Name f p) args [] pos) (ev (run F k) c):=by
 simp only[cE]at h
 split at h
 .rename_i hn
  rw[vab]at hn
  have hg:=O.gl f (by simpa using hn.2)
  split at h
  .rename_i hm
   have hm:=O.mgn f hm
   split at h
   .rename_i hf
    have hf:f = "isinstance":=by simpa using hf
    subst hf
    split at h
    .rename_i a t pt
     split at h
     .rename_i ty x h1 h2
      split at h
      .rename_i hc
       cases h
       rw[vab]at hc
       obtain⟨g1,g2⟩:=zb6 O hc.2
       obtain⟨h3,h4⟩:=ih.e _ _ h2
       obtain⟨n1,n2,n3⟩:=zdo hc.1
       exact zvv ty h3 h4 hg hm g1 g2 (zsf h1) n3 n1
      .cases h
     .cases h
    .cases h
   .split at h
    .rename_i a hl
     split at h
     .rename_i hc
      rw[vab]at hc
      obtain⟨x,h1,rfl⟩:=map_some h
      obtain⟨h2,h3⟩:=ih.e _ _ h1
      obtain⟨g1,g2⟩:=zb6 O hc.2
      obtain⟨p2,pos2,rfl,rfl⟩:=zsi hl
      exact zse O.calm hg hm g1 g2 (zef h2 zjk (zah h3)) h3
     .cases h
    .split at h
     .rename_i b e es hb _
      obtain⟨a,h1,rfl⟩:=map_some h
      obtain⟨h2,h3⟩:=cL_ok ih.e h1
      exact bi_ok hb hg hm hn.1 O.calm h2 h3
     .cases h
  .rename_i v hv
   split at h
   .rename_i hcl
    exact zsh O ih (hcl:=hcl) hn.1 hg h
   rename_i hncl
   split at h
   .cases h
   rename_i hnm
   have hnm:metOf f=none:=by simpa using hnm
   split at h
   .rename_i i hi
    obtain⟨fa,fd,ps,fn,q1,q2,q3,q4,q5,q6,q7⟩:=O.fns i f (zfp hi) (zwq hn.1) (by simpa using hncl)
    have q1:=zjs q1 hnm
    split at h
    .rename_i hlv
     rw[vab]at hlv
     obtain⟨a,h1,rfl⟩:=map_some h
     obtain⟨h2,h3⟩:=cL_ok ih.e h1
     have hl:∀ws h w h',run F k i ws h=.ok w h'->ws.length=ps.length:=λws h w h' e=>by rw[zdf q5 e,q6]
     have hev:ev (run F k) (.call i (padE a))=gArg (ev (run F k) a) (λws h=>run F k i (ws++[.non]) h):=by
      funext ρ h
      simp only[ev,zp8 (ziq h1)]
      show Res.bind (Res.bind (ev (run F k) a ρ h) _) _=Res.bind (ev (run F k) a ρ h) _
      cases ev (run F k) a ρ h with
      |no=>rfl
      |ex _ _=>rfl
      |ok y h2=>cases y<;>rfl
     rw[hev]
     cases args with
     |nil=>cases hlv.2
     |cons e es=>exact zot q2 O.room hg (O.mgs f _ q1) q3 (q7 (zfq hlv.1)) h2 h3 (zdo hn.1).1 hl
    obtain⟨a,h1,rfl⟩:=map_some h
    obtain⟨h2,h3⟩:=cL_ok ih.e h1
    have hl:∀ws h w h',run F k i ws h=.ok w h'->ws.length=ps.length:=λws h w h' e=>by rw[zdf q5 e,q6]
    cases args with
    |nil=>
     simp only[cL]at h1
     cases h1
     exact zos q2 O.room hg (O.mgs f _ q1) q3 q4 (zdo hn.1).1 hl
    |cons e es=>exact zrz q2 O.room hg (O.mgs f _ q1) q3 q4 h2 h3 (zdo hn.1).1 hl
   .cases h
  .cases h
 .cases h
theorem zo6(O:XOk X C T F k)(ih:Snd X C T F k n){o:Expr}{m:Str}{ap pos:Pos}{args:List Expr}{c:E}(h:cE X.K T (n+1) C (.Call (.Attribute o m ap) args [] pos)=some c):SE X (.Call (.Attribute o m ap) args [] pos) (ev (run F k) c):=by
 simp only[cE]at h
 split at h
 .rename_i hn
  rw[vab]at hn
  split at h
  .rename_i y hy
   obtain⟨y1,y2,y3⟩:=zo3 hy
   split at h
   .rename_i D i x e es hD hi hx
    split at h
    .rename_i hlt
     obtain⟨z,h1,rfl⟩:=map_some h
     obtain⟨h2,h3⟩:=cL_ok ih.e h1
     obtain⟨fa,fd,ps,fn,q1,q2,q3,q4,q5,q6,q7⟩:=O.fns i y (zfp hi) y2 y3
     have hl:∀ws h w h',run F k i ws h=.ok w h'->ws.length=ps.length:=λws h w h' e=>by rw[zdf q5 e,q6]
     exact zo2 (zd0 hD).2 (zk2 q1 y1 hD) q2 O.room q4 (ih.e _ _ hx).1 h2 h3 hl (zsc hn.1 hn.2 h3 hlt)
    .cases h
   .cases h
  split at h
  .rename_i x a hx
   split at h
   .rename_i hm
    have hm:m = "append":=by simpa using hm
    subst hm
    obtain⟨y,h1,rfl⟩:=map_some h
    obtain⟨h2,h3⟩:=ih.e _ _ h1
    exact zmj (ih.e _ _ hx).1 h2 hn.1 h3 hn.2
   .cases h
  .cases h
 .cases h
theorem zwr{ow fr:List Str}{sc:Scope}{ifs:List Expr}{c:E}(O:∀D s₀ H₀ ex,Snd (X.comp (ow++fr) sc D s₀ H₀ ex) (inC sc) T F k n)
 (h:(match ifs with|[]=>some (E.cst (.bl true))|[c]=>cT X.K T n (inC sc) c|_=>none)=some c) (D:Addr) (s₀:Shared) (H₀:Hp) (ex:List Addr):PTs (X.comp (ow++fr) sc D s₀ H₀ ex) ifs (lftT X.K (ev (run F k) c)):=by
 split at h
 .cases h
  exact λpins s σ H Q I z9=>z9.el λρ h m b h' f r e q=>by
   cases e
   exact zrh pins s σ H Q I (q H m .refl r)
 .exact zri ((O D s₀ H₀ ex).t _ _ h)
 .cases h
theorem zqb(O:XOk X C T F k)(ih:Snd X C T F k n)(ihc:∀{sc:Scope} {ix:List Nat},zen C sc ix=true->∀D s₀ H₀ ex,Snd (X.comp (ownOf sc++za9 sc) sc D s₀ H₀ ex) (inC sc) T F k n)
 {elt tg iter:Expr} {ifs:List Expr} {sc:Scope} {pos:Pos} {c:E} (h:cE X.K T (n+1) C (.ListComp elt [⟨tg,iter,ifs,0⟩] sc pos)=some c) :
 ∃kd a t ix cc ce,c=.lc kd a t (ownOf sc).length ix cc ce/\CompScope X (ownOf sc) (za9 sc) ix sc/\PI X tg iter (lftI X.K kd (ev (run F k) a))/\(∀D s₀ H₀ ex,PG (X.comp (ownOf sc++za9 sc) sc D s₀ H₀ ex) tg (lftG X.K t))/\
  (∀D s₀ H₀ ex,PTs (X.comp (ownOf sc++za9 sc) sc D s₀ H₀ ex) ifs (lftT X.K (ev (run F k) cc)))/\(∀D s₀ H₀ ex,PE (X.comp (ownOf sc++za9 sc) sc D s₀ H₀ ex) elt (lft X.K (ev (run F k) ce)))/\∀x,foldedSetIterable iter X.env x=pure x:=by
 simp only[cE]at h
 split at h
 .rename_i ix hix
  split at h
  .rename_i hc
   split at h
   .rename_i kd a t cc ce h1 h2 h3 h4
    split at h
    case isFalse=>cases h
    rename_i hw
    cases h
    obtain⟨w1,w2⟩:=ih.w _ _ _ tg h1 hw
    exact⟨kd,a,t,ix,cc,ce,rfl,(zfr O hc).1,w1,λD s₀ H₀ ex=>tg_ok (zir O hc D s₀ H₀ ex) h2,zwr (ihc hc) h3,λD s₀ H₀ ex=>((ihc hc D s₀ H₀ ex).e _ _ h4).1,w2⟩
   .cases h
  .cases h
 .cases h
theorem snd_e(O:XOk X C T F k)(ih:Snd X C T F k n)(ihc:∀{sc:Scope} {ix:List Nat},zen C sc ix=true->∀D s₀ H₀ ex,Snd (X.comp (ownOf sc++za9 sc) sc D s₀ H₀ ex) (inC sc) T F k n)
 (e:Expr) (c:E) (h:cE X.K T (n+1) C e=some c):SE X e (ev (run F k) c)/\zaw e=true:=by
 have h0:=h
 unfold cE at h
 split at h
 .exact⟨zo4 O h0,rfl⟩
 .refine⟨?_,rfl⟩
  split at h
  .cases h;exact zu6
  .cases h;exact se_bl
  .cases h;exact zu7
  .cases h;exact zu8
  .cases h
 .obtain⟨a,h1,rfl⟩:=map_some h
  exact⟨zu9 (cL_ok ih.e h1).1,rfl⟩
 .obtain⟨a,h1,rfl⟩:=map_some h
  exact⟨zva (cL_ok ih.e h1).1,rfl⟩
 .refine⟨?_,rfl⟩
  rename_i ks vs pos
  split at h
  .rename_i hc
   simp only[vab]at hc
   obtain⟨a,h1,rfl⟩:=map_some h
   cases ks with
   |nil=>
    cases vs with
    |nil=>simp only[cPs]at h1;cases h1;exact zry
    |cons _ _=>cases h1
   |cons q ks=>exact zvx O.u2 (zqa ih.e h1) hc.2 (Nat.eq_of_beq_eq_true hc.1.2) (by simp) (va1 hc.1.1)
  .cases h
 .refine⟨?_,rfl⟩
  split at h
  .rename_i h1 h2 h3
   cases h
   exact se_op (op_ok h1) (zvb _) (ih.e _ _ h2).1 (ih.e _ _ h3).1
  .cases h
 .obtain⟨a,h1,rfl⟩:=map_some h
  exact⟨zvi (ih.e _ _ h1).1,rfl⟩
 .obtain⟨a,h1,rfl⟩:=map_some h
  exact⟨zvm (ih.e _ _ h1).1,rfl⟩
 .exact⟨(cB_ok ih.e).1 h,rfl⟩
 .exact⟨(cB_ok ih.e).2 h,rfl⟩
 .refine⟨?_,rfl⟩
  split at h
  .rename_i hs
   split at h
   .rename_i h1 h2 h3
    cases h
    exact zvd O.u65 h1 hs (ih.e _ _ h2).1 (ih.e _ _ h3).1
   .cases h
  .cases h
 .refine⟨?_,rfl⟩
  split at h
  .rename_i hs
   split at h
   .rename_i h1 h2 h3 h4 h5
    cases h
    exact zvf O.u65 h1 h2 hs (ih.e _ _ h3).1 (ih.e _ _ h4).1 (ih.e _ _ h5).1
   .cases h
  .cases h
 .refine⟨?_,rfl⟩
  split at h
  .rename_i h1 h2 h3
   cases h
   exact zvl (ih.t _ _ h1) (ih.e _ _ h2).1 (ih.e _ _ h3).1
  .cases h
 .refine⟨?_,rfl⟩
  split at h
  .rename_i h1 h2 h3
   cases h
   exact zvo (ih.e _ _ h1).1 (cO_ok ih.e h2) (cO_ok ih.e h3)
  .cases h
 .refine⟨?_,rfl⟩
  split at h
  .rename_i hs
   split at h
   .rename_i h1 h2
    cases h
    exact zvn O.u2 (ih.e _ _ h1).1 (ih.e _ _ h2).1 (zk3 hs)
   .cases h
  .cases h
 .exact⟨zo5 O ih h0,rfl⟩
 .exact⟨zo6 O ih h0,rfl⟩
 .refine⟨?_,rfl⟩
  split at h
  .rename_i hpl
   split at h
   .rename_i D a hD ha
    split at h
    .rename_i hna
     cases h
     exact zwd (zd0 hD).2 (zfn hna) (ih.e _ _ ha).1 (zik hpl)
    .cases h
   .cases h
  .cases h
 .refine⟨?_,rfl⟩
  obtain⟨kd,a,t,ix,cc,ce,rfl,S,w1,w2,w3,w4,w5⟩:=zqb O ih ihc h0
  exact se_lc S O.calm w1 w2 w3 w4 w5
 .cases h
end
theorem zfs{T:List Str}{F:Nat->Option Fn}{k:Nat}:∀(n:Nat) {X:Cx} {C:CC},XOk X C T F k->Snd X C T F k n
 |0,_,_,_=>⟨(λe c h=>nomatch h),(λe c h=>nomatch h),(λe kd c tg h _=>nomatch h)⟩
 |n+1,X,C,O=>by
  have ih:=zfs n O
  have ihc:∀{sc:Scope}{ix:List Nat},zen C sc ix=true->∀D s₀ H₀ ex,Snd (X.comp (ownOf sc++za9 sc) sc D s₀ H₀ ex) (inC sc) T F k n:=λhc D s₀ H₀ ex=>zfs n (zir O hc D s₀ H₀ ex)
  exact⟨snd_e O ih ihc,snd_t O ih,snd_w O ih⟩
section
variable{X:Cx}{C:CC}{T:List Str}{F:Nat->Option Fn}{k d:Nat}
theorem zcj{f:Stmt->Option S}{cl:Call}(ih:∀st c,f st=some c->SS X st (exs cl c)):∀{sts:List Stmt} {c:S},cSs f sts=some c->SSs X sts (exs cl c)
 |[],_,h=>by cases h;exact zr3
 |s::r,c,h=>by
  unfold cSs at h
  split at h
  .rename_i a b ha hb
   cases h
   exact zox (ih s a ha) (zcj ih hb)
  .cases h
theorem zsj(O:XOk X C T F k){x:Str}{p pos:Pos}{e:Expr}{i:Nat}{c:E}(hi:nmIx C (.Name x p)=some i)(h:cE X.K T d C e=some c):SS X (.Assign [.Name x p] e pos) (exs (run F k) (.set i c)):=by
 obtain⟨x',p',ex,h1,h2,h3⟩:=nm_ok O hi
 cases ex
 have nd:X.N.Nodup:=O.hN▸O.nd
 have Sd:=zfs (T:=T) (F:=F) (k:=k) d O
 by_cases hc:zhl e=true
 .exact zp3 nd h1 h2 h3 (Sd.e _ _ h).1 (zgi hc)
 .cases d with
  |zero=>cases h
  |succ n=>
   cases e with
   |ListComp elt gs sc lp=>
    have sw:∃b:Bool,swapsWith (.ListComp elt gs sc lp) (some (.Name x p)) pos.line X.env=pure b:=⟨_,rfl⟩
    obtain⟨b,hb⟩:=sw
    cases b with
    |false=>exact zp3 nd h1 h2 h3 (Sd.e _ _ h).1 hb
    |true=>
     have h0:=h
     unfold cE at h
     split at h<;>first
      |(rename_i z;cases z;done)
      |skip
     all_goals first
      |(rename_i elt' tg iter ifs sc' lp' z
        cases z
        obtain⟨kd,a,t,ix,cc,ce,rfl,S,w1,w2,w3,w4,w5⟩:=zqb O (zfs n O) (λhc D s₀ H₀ ex=>zfs n (zir O hc D s₀ H₀ ex)) h0
        exact zoy nd h1 h2 h3 S O.calm w1 w2 w3 w4 hb w5)
      |cases h
   |SetComp _ _ _ _=>unfold cE at h;cases h
   |DictComp _ _ _ _ _=>unfold cE at h;cases h
   |_=>exact absurd rfl hc
theorem snd_s(O:XOk X C T F k):∀(n:Nat) (st:Stmt) (c:S),cS X.K T d n C st=some c->SS X st (exs (run F k) c)
 |0,_,_,h=>by cases h
 |n+1,st,c,h=>by
  have nd:X.N.Nodup:=O.hN▸O.nd
  have Sd:=zfs (T:=T) (F:=F) (k:=k) d O
  have ih:=snd_s O n
  have hp:PassesOwn (model X.prog X.w) X.A X.env X.xe:=by rw[O.xe];exact PassesOwn.never
  unfold cS at h
  split at h
  .cases h;exact zr4
  .cases h;exact zv9
  .cases h;exact zwa
  .cases h;exact ss_no
  .cases h;exact zr6
  .obtain⟨a,h1,rfl⟩:=map_some h
   exact zwb (Sd.e _ _ h1).1
  .split at h
   .rename_i hc
    obtain⟨a,h1,rfl⟩:=map_some h
    exact zr5 (Sd.e _ _ h1).1 hc
   .cases h
  .split at h
   .rename_i i a h1 h2
    cases h
    exact zsj O h1 h2
   .cases h
  .split at h
   .rename_i ht
    split at h
    .rename_i h1 h2
     cases h
     exact zwc O.calm nd (zmv O h1) (Sd.e _ _ h2).1 ht
    .cases h
   .cases h
  .split at h
   .rename_i hs
    split at h
    .rename_i h1 h2 h3
     cases h
     exact zwf O.u2 (Sd.e _ _ h1).1 (Sd.e _ _ h2).1 (Sd.e _ _ h3).1 hs
    .cases h
   .cases h
  .split at h
   .rename_i hs
    split at h
    .rename_i D a b hD ha hb
     split at h
     .rename_i hna
      cases h
      exact zwe (zd0 hD).2 (zfn hna) (Sd.e _ _ ha).1 (Sd.e _ _ hb).1 (zgi hs)
     .cases h
    .cases h
   .cases h
  .split at h
   .rename_i h1 h2 h3
    cases h
    obtain⟨x',p',ex,a1,a2,a3⟩:=nm_ok O h1
    cases ex
    exact zwi h2 nd a1 a2 a3 (Sd.e _ _ h3).1
   .cases h
  .split at h
   .rename_i h1 h2 h3
    cases h
    exact zwj (Sd.t _ _ h1) (zcj ih h2) (zcj ih h3)
   .cases h
  .rename_i tg it b pos
   split at h
   .rename_i h1 h2 h3
    split at h
    case isFalse=>cases h
    rename_i hw
    cases h
    obtain⟨w1,w2⟩:=Sd.w _ _ _ tg h1 hw
    exact zwl hp O.calm w1 (tg_ok O h2) (zcj ih h3) w2
   .cases h
  .split at h
   .rename_i h1 h2
    cases h
    exact zwm hp (Sd.t _ _ h1) (zcj ih h2)
   .cases h
  .cases h
end
noncomputable def zsk:FuncBody->Option (List Stmt)
 |.stmts b=>some b
 |_=>none
theorem zk4{d:Data}(h:zgm d=true):∃n,d=.seq #[.none] n:=by
 cases d with
 |seq xs n=>
  obtain⟨l⟩:=xs
  unfold zgm at h
  simp only[]at h
  split at h
  .rename_i v
   cases v<;>first|exact⟨n,rfl⟩|cases h
  .cases h
 |_=>cases h
theorem zo7{K:PySem.W.Frag}{v:Value}(h:noneD K v=true):∃t o n,v=.ref t/\K.lookup t=some o/\o.data=.seq #[.none] n:=by
 cases v with
 |ref t=>
  have h:(match K.lookup t with|some o=>zgm o.data|none=>false)=true:=h
  cases e:K.lookup t with
  |none=>rw[e]at h;cases h
  |some o=>
   rw[e]at h
   obtain⟨n,q⟩:=zk4 h
   exact⟨t,o,n,rfl,e,q⟩
 |_=>cases h
noncomputable def zgn(ps:List Str)(sc:Scope):List Str:=ps++(sc.names.filter λy=>(y.2 == .local||y.2 == .cell) && !(ps.contains y.1)).map (·.1)
noncomputable def zis(N ps:List Str)(sc:Scope):Bool:=
 decide (sc.kind=.function) && !sc.isCoroutine && !sc.isGenerator&&decide N.Nodup&&decide (N.take ps.length=ps)&&ps.all (λx=>decide (sc.names.lookup x=some .local\/sc.names.lookup x=some .cell))&&sc.names.all (λy=>decide (y.2≠.free))&&decide ps.Nodup
theorem zk5{N ps:List Str}{sc:Scope}(h:zis N ps sc=true):FnScope N ps sc/\ps.Nodup:=by
 unfold zis at h
 simp only[vab,vaw,List.all_eq_true,Bool.not_eq_true']at h
 obtain⟨⟨⟨⟨⟨⟨⟨h1,h2⟩,h3⟩,h4⟩,h5⟩,h6⟩,h7⟩,h8⟩:=h
 exact⟨⟨h1,h2,h3,h4,h5,h6,h7⟩,h8⟩
noncomputable def nmOf(x:Str):Str:=(metOf x).getD x
noncomputable def cF(K:PySem.W.Frag)(T:List Str)(d n:Nat)(x:Str):Option Fn:=match fnAt K x with
 |some (f,o,fd)=>(match zcv fd.params,zsk fd.body with
  |some args,some body=>if fd.name==nmOf x&&fd.qualname==x&&Nat.beq fd.globals mainGlobals&&fd.closure.isEmpty&& (isNone fd.defaults||noneD K fd.defaults && !args.isEmpty)&&Nat.beq fd.builtins builtinsNs&&PySem.W.codeIn K fd.code x&&PySem.W.keepIn K (.ref f) &&
   zis (zgn (args.map (·.arg)) fd.scope) (args.map (·.arg)) fd.scope then
   (cSs (cS K T d n ⟨zgn (args.map (·.arg)) fd.scope,fd.scope.names,true⟩) body).map λb=>⟨(args.map (·.arg)).length,(zgn (args.map (·.arg)) fd.scope).length,b⟩
   else none
  |_,_=>none)
 |none=>none
theorem cF_ok{K:PySem.W.Frag}{T:List Str}{d n:Nat}{x:Str}{fn:Fn}(h:cF K T d n x=some fn):∃f fd st ps N,refAt K x=some f/\FunD K (nmOf x) x st f fd/\FnScope N ps (zat st)/\fn.n=N.length/\fn.ps=ps.length/\(Binds K fd ps []/\(hasD K x=true->Binds K fd ps [.none])/\(hasD K x=false->∀us:List Value,us.length=ps.length->bindArgs fd ⟨us,[]⟩=pure (ps.zip us)))/\
 cSs (cS K T d n ⟨N,(zat st).names,true⟩) (zga st)=some fn.body/\∃o' fd' args,fnAt K x=some (f,o',fd')/\zcv fd'.params=some args/\ps=args.map (·.arg):=by
 unfold cF at h
 split at h
 .rename_i f o fd hf
  split at h
  .rename_i args body ha hb
   split at h
   .rename_i hc
    simp only[vab]at hc
    obtain⟨⟨⟨⟨⟨⟨⟨⟨c1,c2⟩,c3⟩,c4⟩,c5⟩,c6⟩,c7⟩,c8⟩,c9⟩:=hc
    obtain⟨b,h1,rfl⟩:=map_some h
    obtain⟨S,nd⟩:=zk5 c9
    have hf0:=hf
    have ha0:=ha
    unfold fnAt at hf
    split at hf
    .rename_i f' hn
     split at hf
     .rename_i o' ho
      split at hf
      .rename_i fd' hd
       cases hf
       obtain⟨nm,qn,pr,bd,sc,gl,cl,df,kd,dc,pm,an,cdv,ct,bu⟩:=fd
       obtain⟨oc,od,da,os⟩:=o
       have e1:nm=nmOf x:=by simpa using c1
       have e2:qn=x:=by simpa using c2
       have e3:gl=mainGlobals:=Nat.eq_of_beq_eq_true c3
       have e4:cl=[]:=by simpa using c4
       have e6:bu=builtinsNs:=Nat.eq_of_beq_eq_true c6
       have e7:bd=.stmts body:=by
        cases bd with
        |stmts b'=>cases hb;rfl
        |expr _=>cases hb
       obtain⟨dx,e8⟩:∃dx,pr=⟨[],args,none,[],[],none,dx⟩:=by
        unfold zcv at ha
        split at ha
        .cases ha;rename_i z;exact⟨_,z⟩
        .cases ha
       have e9:da=.func _:=hd
       subst e1 e2 e3 e4 e6 e7 e8 e9
       let st:Stmt:=.FunctionDef (nmOf qn) ⟨[],args,none,[],[],none,dx⟩ body [] none [] sc none (nmOf qn) ⟨0,0,0,0⟩
       have Fu:FunD K (nmOf qn) qn st f _:=⟨⟨_,_,df,kd,dc,pm,an,cdv,ct,_,rfl,ho,c7⟩,c8⟩
       refine⟨f,_,st,args.map (·.arg),zgn (args.map (·.arg)) sc,hn,Fu,S,rfl,rfl,?_,h1,_,_,args,hf0,ha0,rfl⟩
       have hh:hasD K qn=noneD K df:=by unfold hasD;rw[hf0]
       rw[hh]
       rw[Bool.or_eq_true,vab]at c5
       rcases c5 with c5|⟨c5,c0⟩
       .have e5:df=.none:=by cases df<;>first|rfl|cases c5
        subst e5
        exact⟨.all λus hl=>zfl hl nd,(λz=>nomatch z),λ_ us hl=>zfl hl nd⟩
       .obtain⟨t,o,n,rfl,hk,hd⟩:=zo7 c5
        rw[c5]
        obtain⟨qs,z,hqz⟩:∃qs z,args.map (·.arg)=qs++[z]:=by
         rcases List.eq_nil_or_concat (args.map (·.arg))with q|⟨l,b,q⟩
         .rw[List.map_eq_nil_iff.mp q]at c0;cases c0
         .exact⟨l,b,by rw[q,List.concat_eq_append]⟩
        have nd':=nd
        rw[hqz]at nd'
        refine⟨λs us hK hl=>?_,λ_ s us hK hl=>?_,λz=>nomatch z⟩
        .rw[List.append_nil]at hl ⊢
         rw[hqz]at hl ⊢
         exact zk0 hqz nd' (hK _ _ hk) hd hl
        .rw[hqz]at hl ⊢
         exact zk1 hqz nd' (hK _ _ hk) hd (by rw[vao,vao]at hl;simpa using hl)
      .cases hf
     .cases hf
    .cases hf
   .cases h
  .cases h
 .cases h
theorem zcw{α β:Type}{f:α->Option β}:∀{l:List α} {r:List β},mapO f l=some r->∀(i:Nat) (a:α),l[i]?=some a->∃b,r[i]?=some b/\f a=some b
 |[],_,_,i,a,e=>by simp at e
 |x::l,r,h,i,a,e=>by
  unfold mapO at h
  split at h
  .rename_i b hb
   split at h
   .rename_i bs hbs
    cases h
    cases i with
    |zero=>simp at e;subst e;exact⟨b,rfl,hb⟩
    |succ i=>
     obtain⟨c,h1,h2⟩:=zcw hbs i a (by simpa using e)
     exact⟨c,by simpa using h1,h2⟩
   .cases h
  .cases h
noncomputable def cC(K:PySem.W.Frag)(T:List Str):Option Fn:=match clsAt K,zb0 T "Balls.__init__" 0,fnAt K "Balls.__init__"with
 |some D,some ii,some (f,_,fd)=>if mkB K D f then some (clsFn D ii (fd.params.args.length-1))else none
 |_,_,_=>none
noncomputable def cF0(K:PySem.W.Frag)(T:List Str)(d n:Nat)(x:Str):Option Fn:=if x==("" : Str)then some ⟨0,0,.no⟩else if zbe x then cC K T else cF K T d n x
theorem zmw{K:PySem.W.Frag}{T:List Str}{d n:Nat}{x:Str}{fn:Fn}(h:cF0 K T d n x=some fn)(hx:x≠"")(hc:zbe x=false):cF K T d n x=some fn:=by
 unfold cF0 at h
 rw[if_neg (by simpa using hx),hc]at h
 exact h
theorem cC_ok{K:PySem.W.Frag}{T:List Str}{d n:Nat}{x:Str}{fn:Fn}(h:cF0 K T d n x=some fn)(hc:zbe x=true):∃D ii na f,clsAt K=some D/\fn=clsFn D ii na/\T[ii]?=some "Balls.__init__"/\Mk K D f/\refAt K "Balls.__init__" = some f:=by
 unfold cF0 at h
 have hx:x = "Balls":=by unfold zbe at hc;simpa using hc
 rw[if_neg (by rw[hx];decide +kernel),hc]at h
 simp only[if_true]at h
 unfold cC at h
 split at h
 .rename_i D ii f o fd h1 h2 h3
  split at h
  .rename_i hm
   cases h
   refine⟨D,ii,_,f,h1,rfl,zfp h2,zwo hm,?_⟩
   unfold fnAt at h3
   split at h3
   .rename_i g hg
    split at h3
    .split at h3
     .cases h3;exact hg
     .cases h3
    .cases h3
   .cases h3
  .cases h
 .cases h
noncomputable def cProg(K:PySem.W.Frag)(T:List Str)(d n:Nat):Option (List Fn):=mapO (cF0 K T d n) T
theorem zmx{P:Program}{w:World}{K:PySem.W.Frag}{mg:Str->Option Value}{base:Heap}{T:List Str}{Fs:List Fn}{k:Nat}(KX:K.In base)(G:base.Ns mainGlobals mg){x:Str}{st:Stmt}{f:Addr}{N ps:List Str}(S:FnScope N ps (zat st))
 (H0:∀(i:Nat)(x:Str),T[i]?=some x->x≠""->zbe x=false->∃f fd ps fn,refAt K x=some f/\FnOk P w K mg base CX0 k f fd ps (spV K ps.length (run (λi=>Fs[i]?) k i))/\PySem.W.keepIn K (.ref f)=true/\Binds K fd ps []/\Fs[i]?=some fn/\fn.ps=ps.length/\(hasD K x=true->Binds K fd ps [.none]))
 (HC:∀(ci:Nat)(x:Str),T[ci]?=some x->zbe x=true->∀k',k=k'+1->∃D f fd ps ii na,clsAt K=some D/\Fs[ci]?=some (clsFn D ii na)/\Mk K D f/\FnOk P w K mg base CX0 k' f fd ps (spV K ps.length (run (λi=>Fs[i]?) k' ii))/\Binds K fd ps []/\(hasD K "Balls.__init__" = true->Binds K fd ps [.none])/\∀ws h w h',run (λi=>Fs[i]?) k' ii ws h=.ok w h'->ws.length=ps.length)
 (cdv:Value) (A:Around) (outer:List Env) (s:Shared) (H:Hp) (E:XK) (hr:Room k (A.deeper (envOfC x (zat st) s.heap.objs.size f cdv))):XOk (cxOf CX0 P w K mg base N x (zat st) f cdv A outer s H E).nox ⟨N,(zat st).names,true⟩ T (λi=>Fs[i]?) k:=by
 refine⟨rfl,S.nd,λy hy=>?_,λy hy=>?_,λy hy=>hy,λy hy=>hy,rfl,hr,rfl,S.kind,λy v hv=>PySem.W.mg_of KX G hv,λy hv=>PySem.W.mg_none_of KX G hv,H0,HC⟩
 .have hy:visK ((zat st).names.lookup y)=true:=hy
  cases z:(zat st).names.lookup y with
  |none=>rw[z]at hy;cases hy
  |some kd=>cases kd<;>first|exact .inl z|exact .inr (.inl z)|exact .inr (.inr z)|(rw[z]at hy;cases hy)
 .have hy:locK true ((zat st).names.lookup y)=true:=hy
  cases z:(zat st).names.lookup y with
  |none=>rw[z]at hy;cases hy
  |some kd=>cases kd<;>first|exact⟨.inl z,.inl rfl⟩|exact⟨.inr z,.inl rfl⟩|(rw[z]at hy;cases hy)
theorem zmy{P:Program}{w:World}{K:PySem.W.Frag}{mg:Str->Option Value}{base:Heap}{T:List Str}{d n k:Nat}{Fs:List Fn}(hP:cProg K T d n=some Fs)(ih:∀(j:Nat),j<=k->∀(i:Nat) (x:Str),T[i]?=some x->x≠""->zbe x=false->
 ∃f fd ps fn,refAt K x=some f/\FnOk P w K mg base CX0 j f fd ps (spV K ps.length (run (λi=>Fs[i]?) j i))/\PySem.W.keepIn K (.ref f)=true/\Binds K fd ps []/\Fs[i]?=some fn/\fn.ps=ps.length/\(hasD K x=true->Binds K fd ps [.none]))
 (ci:Nat) (x:Str) (e:T[ci]?=some x) (hc:zbe x=true) (k':Nat) (hk:k=k'+1):∃D f fd ps ii na,clsAt K=some D/\Fs[ci]?=some (clsFn D ii na)/\Mk K D f/\FnOk P w K mg base CX0 k' f fd ps (spV K ps.length (run (λi=>Fs[i]?) k' ii))/\Binds K fd ps []/\(hasD K "Balls.__init__" = true->Binds K fd ps [.none])/\∀ws h w h',run (λi=>Fs[i]?) k' ii ws h=.ok w h'->ws.length=ps.length:=by
 obtain⟨fn,h1,h2⟩:=zcw hP ci x e
 obtain⟨D,ii,na,f,c1,rfl,c3,c4,c5⟩:=cC_ok h2 hc
 obtain⟨f',fd,ps,fn',q1,q2,q3,q4,q5,q6,q7⟩:=ih k' (by omega) ii "Balls.__init__" c3 (by decide +kernel) (by decide +kernel)
 rw[c5]at q1
 cases q1
 exact⟨D,f,fd,ps,ii,na,c1,h1,c4,q2,q4,q7,λws h w h' e=>by rw[zdf (F:=λi=>Fs[i]?) q5 e,q6]⟩
theorem zmz{P:Program}{w:World}{K:PySem.W.Frag}{mg:Str->Option Value}{base:Heap}{T:List Str}{d n:Nat}{Fs:List Fn}(hP:cProg K T d n=some Fs)(KX:K.In base)(G:base.Ns mainGlobals mg)(k:Nat):∀(j:Nat),j<=k->∀(i:Nat) (x:Str),T[i]?=some x->x≠""->zbe x=false->
 ∃f fd ps fn,refAt K x=some f/\FnOk P w K mg base CX0 j f fd ps (spV K ps.length (run (λi=>Fs[i]?) j i))/\PySem.W.keepIn K (.ref f)=true/\Binds K fd ps []/\Fs[i]?=some fn/\fn.ps=ps.length/\(hasD K x=true->Binds K fd ps [.none]):=by
 induction k with
 |zero=>
  intro j hj i x e hx hc
  have:j=0:=Nat.le_zero.mp hj
  subst this
  obtain⟨fn,h1,h2⟩:=zcw hP i x e
  obtain⟨f,fd,st,ps,N,a1,a2,a3,a4,a5,a6,a7,_⟩:=cF_ok (zmw h2 hx hc)
  exact⟨f,fd,ps,fn,a1,zmq,a2.kp,a6.1,h1,a5,a6.2.1⟩
 |succ k ih=>
  intro j hj i x e hx hc
  by_cases hjk:j<=k
  .exact ih j hjk i x e hx hc
  .have:j=k+1:=by omega
   subst this
   obtain⟨fn,h1,h2⟩:=zcw hP i x e
   obtain⟨f,fd,st,ps,N,a1,a2,a3,a4,a5,a6,a7,_⟩:=cF_ok (zmw h2 hx hc)
   exact⟨f,fd,ps,fn,a1,zp5 (F:=λi=>Fs[i]?) h1 a2 a3 a4 a5 λcdv A outer s H E hr=>zcj (snd_s (zmx KX G a3 (λj y hj hy hz=>ih k (vae _) j y hj hy hz) (zmy hP ih) cdv A outer s H E hr) n) a7,a2.kp,a6.1,h1,a5,a6.2.1⟩
noncomputable def zcb:Res W->Bool
 |.ok (.bl true) _=>true
 |_=>false
noncomputable def says(K:PySem.W.Frag)(T:List Str)(d n k i:Nat)(ns:List Int):Bool:=match cProg K T d n with
 |some Fs=>zcb (run (λi=>Fs[i]?) k i [.fz (ns.map .int)] ⟨0,0,[]⟩)
 |none=>false
theorem zit{r:Res W}(h:zcb r=true):∃h',r=.ok (.bl true) h':=by
 cases r with
 |no=>cases h
 |ex _ _=>cases h
 |ok w h'=>cases w<;>first|(rename_i b;cases b<;>first|exact⟨h',rfl⟩|cases h)|cases h
theorem zft{K:PySem.W.Frag}{m:Nat->Addr}{n:Nat}{H:Hp}:∀(ns:List Int),VReps K m n H (ns.map V.int) (ns.map W.int)
 |[]=>.nil
 |i::r=>.cons (.int i) (zft r)
theorem zm0{K:PySem.W.Frag}{T:List Str}{d n k i:Nat}{ns:List Int}(h:says K T d n k i ns=true):∃Fs h',cProg K T d n=some Fs/\run (λi=>Fs[i]?) k i [.fz (ns.map .int)] ⟨0,0,[]⟩=.ok (.bl true) h':=by
 unfold says at h
 split at h
 .rename_i Fs hF
  obtain⟨h',e⟩:=zit h
  exact⟨Fs,h',hF,e⟩
 .cases h
theorem zsl{K:PySem.W.Frag}{T:List Str}{d n k i:Nat}{ns:List Int}{Fs:List Fn}(hP:cProg K T d n=some Fs)(h:zcb (run (λi=>Fs[i]?) k i [.fz (ns.map .int)] ⟨0,0,[]⟩)=true):says K T d n k i ns=true:=by
 unfold says
 rw[hP]
 exact h
noncomputable def lawOk(K:PySem.W.Frag)(x:Str):Bool:=match fnAt K x with
 |some (_,_,fd)=>(match zcv fd.params with
  |some [a]=>a.arg==("_law_script" : Str) && !(noneD K fd.defaults)
  |_=>false)
 |none=>false
theorem zo8{l:PySem.W.OpenLaw}{q:Program}{loose:List Str}{XP:(Str->Option Value)->Heap->Prop}{YP:World->Heap->Prop}{dr:DefRec}{K:Params->PySem.W.Frag}(T:List Str)(d n k i:Nat)(hn:l.most=some 63)(hdf:dr.params.defaults=[])(hr:Room k callerA)
 (hY:∀(w:World)(h:Heap),YP w h->(K w.params).In h) (hT:T[i]?=some dr.name) (hne:dr.name≠""/\zbe dr.name=false/\metOf dr.name=none) (hS:∀(w:World)(ns:List Int),ns.length<=63->says (K w.params) T d n k i ns=true) (hL:∀w:World,lawOk (K w.params) dr.name=true) :
 PySem.W.WalkO q loose XP YP l.row.toRowW dr [] (λf vs=>PySem.call f vs):=by
 have any:∀w:World,∃Fs,cProg (K w.params) T d n=some Fs:=λw=>let⟨Fs,_,h,_⟩:=zm0 (hS w [] (Nat.zero_le _));⟨Fs,h⟩
 refine L2.zre (n:=63) (k:=k) (x:="_law_script") (CX:=λ_=>CX0) (sp:=λw=>spV (K w.params) 1 (run (λj=>(Classical.choose (any w))[j]?) k i)) hn (by decide) hdf hr hY ?_ ?_ λ_ _ _ _ _ z=>z
 .intro w mg fa h KX G hmg
  have hP:=Classical.choose_spec (any w)
  obtain⟨fn',h1,h2⟩:=zcw hP i _ hT
  obtain⟨f',fd',st,ps',N,a1,a2,a3,a4,a5,a6,a7,o',fd'',args,a8,a9,a10⟩:=cF_ok (zmw h2 hne.1 hne.2.1)
  have hps:ps'=[("_law_script" : Str)]:=by
   have hl:=hL w
   unfold lawOk at hl
   rw[a8]at hl
   simp only[a9]at hl
   cases args with
   |nil=>cases hl
   |cons z zs=>
    cases zs with
    |nil=>
     rw[vab]at hl
     have hl:z.arg = "_law_script":=by simpa using hl.1
     rw[a10,vam,hl];rfl
    |cons _ _=>cases hl
  have hnd:hasD (K w.params) dr.name=false:=by
   have hl:=hL w
   unfold lawOk at hl
   rw[a8]at hl
   unfold hasD
   rw[a8]
   simp only[a9]at hl
   split at hl
   .rw[vab]at hl
    simpa using hl.2
   .cases hl
  have e:=PySem.W.mg_of KX G (zjs a1 hne.2.2)
  rw[hmg]at e
  cases e
  subst hps
  refine⟨fd',λs u=>.of_eq (a6.2.2 hnd [u] rfl),λbase KB GB=>?_⟩
  cases k with
  |zero=>exact zmq
  |succ k=>exact zp5 (F:=λj=>(Classical.choose (any w))[j]?) h1 a2 a3 a4 a5 λcdv A outer s H E hr=>zcj (snd_s (zmx KB GB a3 (λj y hj hy hz=>zmz hP KB GB k k (vae _) j y hj hy hz) (zmy hP (zmz hP KB GB k)) cdv A outer s H E hr) n) a7
 .intro w H a ns hl hO hQ
  obtain⟨Fs,h',e1,e2⟩:=zm0 (hS w ns hl)
  have hP:=Classical.choose_spec (any w)
  rw[hP]at e1
  cases e1
  refine⟨rfl,⟨0,0,[]⟩,λ_=>0,_,_,h',⟨λi hi=>absurd hi (Nat.not_lt_zero _),λi j hi=>absurd hi (Nat.not_lt_zero _),rfl⟩,.cons (.fz ?_ (zft ns)) .nil,e2,λv H' m' _ _ q=>by cases q;rfl⟩
  rcases hQ with(q|⟨o,q⟩)|q
  .rcases hO a with z|⟨o,xs,z⟩
   .rw[z]at q;cases q
   .rw[z]at q;cases q
  .exact .inl ⟨o,q⟩
  .exact .inr q
noncomputable def fn0:Fn:=⟨1,1,(.seq (.ret (.and (.isi .int (.var 0)) (.not (.isi .bool (.var 0))))) .skip)⟩
noncomputable def fn1:Fn:=⟨3,3,(.seq (.ret (.and (.call 0 (.cons (.var 0) .nil)) (.chn .le .le (.var 1) (.var 0) (.var 2)))) .skip)⟩
noncomputable def fn2:Fn:=⟨2,2,(.seq (.ite (.cmp .eq (.bi .len (.cons (.var 0) .nil)) (.cst (.int (0)))) (.seq (.ret (.op .add (.op .mul (.cst (.int (7))) (.var 1)) (.cst (.int (3))))) .skip) .skip) (.seq (.ret (.bi .abs (.cons (.idx (.var 0) (.op .mod (.var 1) (.bi .len (.cons (.var 0) .nil)))) .nil))) .skip))⟩
noncomputable def zdp:E:=(.cmp .ge (.bi .abs (.cons (.var 0) .nil)) (.op .pow (.cst (.int (10))) (.cst (.int (18)))))
noncomputable def zdq:E:=(.bi .abs (.cons (.var 0) .nil))
noncomputable def fn3:Fn:=⟨1,1,(.seq (.ret (.lst (.cons (.var 0) (.cons (.lc .seq (.var 0) (.one 0) 1 [] zdp zdq) (.cons (.cst (.int (0))) (.cons (.cst (.int (0))) .nil)))))) .skip)⟩
noncomputable def fn4:Fn:=⟨3,4,(.seq (.set 3 (.op .mod (.op .pow (.op .add (.op .mul (.op .add (.op .mod (.call 2 (.cons (.var 0) (.cons (.var 1) .nil))) (.cst (.int (1000003)))) (.cst (.int (5)))) (.op .add (.var 1) (.cst (.int (2))))) (.op .mul (.cst (.int (7919))) (.var 1))) (.cst (.int (5)))) (.cst (.int (2147483647))))) (.seq (.ret (.op .mod (.op .fdiv (.var 3) (.cst (.int (13)))) (.var 2))) .skip))⟩
noncomputable def zhr:E:=(.cmp .lt (.idx (.var 0) (.cst (.int (2)))) (.bi .len (.cons (.idx (.var 0) (.cst (.int (1)))) .nil)))
noncomputable def zeo:S:=(.seq (.set 2 (.idx (.idx (.var 0) (.cst (.int (1)))) (.idx (.var 0) (.cst (.int (2)))))) (.seq (.ite (.cmp .gt (.var 2) (.cst (.int (0)))) (.seq (.put (.idx (.var 0) (.cst (.int (1)))) (.idx (.var 0) (.cst (.int (2)))) (.op .fdiv (.var 2) (.var 1))) (.seq (.ret (.op .mod (.var 2) (.var 1))) .skip)) .skip) (.seq (.put (.var 0) (.cst (.int (2))) (.op .add (.idx (.var 0) (.cst (.int (2)))) (.cst (.int (1))))) .skip)))
noncomputable def fn5:Fn:=⟨2,3,(.seq (.whl zhr zeo) (.seq (.put (.var 0) (.cst (.int (3))) (.op .add (.idx (.var 0) (.cst (.int (3)))) (.cst (.int (1))))) (.seq (.ret (.call 4 (.cons (.idx (.var 0) (.cst (.int (0)))) (.cons (.idx (.var 0) (.cst (.int (3)))) (.cons (.var 1) .nil))))) .skip)))⟩
noncomputable def fn6:Fn:=⟨3,3,(.seq (.ret (.and (.isi .tuple (.var 0)) (.chn .le .le (.var 1) (.bi .len (.cons (.var 0) .nil)) (.var 2)))) .skip)⟩
noncomputable def zju:S:=(.seq (.ite (.not (.tru (.call 1 (.cons (.var 5) (.cons (.var 3) (.cons (.var 4) .nil)))))) (.seq (.ret (.cst (.bl false))) .skip) .skip) .skip)
noncomputable def fn7:Fn:=⟨5,6,(.seq (.ite (.not (.tru (.call 6 (.cons (.var 0) (.cons (.var 1) (.cons (.var 2) .nil)))))) (.seq (.ret (.cst (.bl false))) .skip) .skip) (.seq (.«for» .seq (.var 0) (.one 5) zju) (.seq (.ret (.cst (.bl true))) .skip)))⟩
noncomputable def zjv:S:=(.seq (.ite (.not (.tru (.call 11 (.cons (.var 3) (.cons (.var 2) .nil))))) (.seq (.ret (.cst (.bl false))) .skip) .skip) .skip)
noncomputable def fn8:Fn:=⟨3,4,(.seq (.ite (.not (.tru (.call 6 (.cons (.var 0) (.cons (.var 1) (.cons (.var 1) .nil)))))) (.seq (.ret (.cst (.bl false))) .skip) .skip) (.seq (.«for» .seq (.var 0) (.one 3) zjv) (.seq (.ret (.cst (.bl true))) .skip)))⟩
noncomputable def zjw:S:=(.seq (.ite (.not (.tru (.call 6 (.cons (.var 2) (.cons (.var 1) (.cons (.var 1) .nil)))))) (.seq (.ret (.cst (.bl false))) .skip) .skip) .skip)
noncomputable def fn9:Fn:=⟨2,3,(.seq (.ite (.not (.tru (.call 6 (.cons (.var 0) (.cons (.cst (.int (0))) (.cons (.cst (.int (60))) .nil)))))) (.seq (.ret (.cst (.bl false))) .skip) .skip) (.seq (.«for» .seq (.var 0) (.one 2) zjw) (.seq (.ret (.cst (.bl true))) .skip)))⟩
noncomputable def fn10:Fn:=⟨1,6,(.seq (.ite (.not (.tru (.call 6 (.cons (.var 0) (.cons (.cst (.int (5))) (.cons (.cst (.int (5))) .nil)))))) (.seq (.ret (.cst (.bl false))) .skip) .skip) (.seq (.unp [1,2,3,4,5] (.var 0)) (.seq (.ite (.or (.not (.tru (.call 1 (.cons (.var 1) (.cons (.cst (.int (1))) (.cons (.cst (.int (40))) .nil)))))) (.not (.tru (.call 1 (.cons (.var 2) (.cons (.cst (.int (0))) (.cons (.cst (.int (8))) .nil))))))) (.seq (.ret (.cst (.bl false))) .skip) .skip) (.seq (.ite (.not (.tru (.call 7 (.cons (.var 4) (.cons (.cst (.int (1))) (.cons (.cst (.int (4))) (.cons (.cst (.int (0))) (.cons (.op .sub (.var 1) (.cst (.int (1)))) .nil)))))))) (.seq (.ret (.cst (.bl false))) .skip) .skip) (.seq (.ret (.and (.call 9 (.cons (.var 3) (.cons (.var 1) .nil))) (.call 8 (.cons (.var 5) (.cons (.var 1) (.cons (.bi .len (.cons (.var 4) .nil)) .nil)))))) .skip)))))⟩
noncomputable def fn11:Fn:=⟨2,4,(.seq (.ite (.not (.tru (.call 6 (.cons (.var 0) (.cons (.cst (.int (2))) (.cons (.cst (.int (2))) .nil)))))) (.seq (.ret (.cst (.bl false))) .skip) .skip) (.seq (.unp [2,3] (.var 0)) (.seq (.ret (.and (.call 1 (.cons (.var 2) (.cons (.cst (.int (0))) (.cons (.cst (.int (99))) .nil)))) (.call 12 (.cons (.var 3) (.cons (.var 1) .nil))))) .skip)))⟩
noncomputable def fn12:Fn:=⟨2,2,(.seq (.ret (.or (.cmp .isn (.var 0) (.cst .non)) (.call 1 (.cons (.var 0) (.cons (.cst (.int (0))) (.cons (.op .sub (.var 1) (.cst (.int (1)))) .nil)))))) .skip)⟩
noncomputable def fn13:Fn:=⟨2,4,(.seq (.ite (.not (.tru (.call 6 (.cons (.var 0) (.cons (.cst (.int (2))) (.cons (.cst (.int (2))) .nil)))))) (.seq (.ret (.cst (.bl false))) .skip) .skip) (.seq (.unp [2,3] (.var 0)) (.seq (.ret (.and (.call 1 (.cons (.var 2) (.cons (.cst (.int (0))) (.cons (.op .sub (.var 1) (.cst (.int (1)))) .nil)))) (.call 1 (.cons (.var 3) (.cons (.cst (.int (0))) (.cons (.cst (.int (1))) .nil)))))) .skip)))⟩
noncomputable def zgo:S:=(.seq (.ite (.not (.tru (.call 15 (.cons (.var 7) (.cons (.var 6) (.cons (.var 1) (.cons (.var 2) .nil))))))) (.seq .no .skip) .skip) .skip)
noncomputable def zgp:S:=(.seq (.«for» .enm (.var 5) (.many [6,7]) zgo) .skip)
noncomputable def fn14:Fn:=⟨1,8,(.seq (.ite (.not (.tru (.call 10 (.cons (.var 0) .nil)))) (.seq .no .skip) .skip) (.seq (.unp [1,2,3] (.slc (.var 0) false (.cst .non) true (.cst (.int (3))))) (.seq (.«for» .enm (.var 3) (.many [4,5]) zgp) .skip)))⟩
noncomputable def fn15:Fn:=⟨4,4,(.seq (.ite (.or (.cmp .eq (.var 0) (.cst (.str (PySem.Str.ofString "x")))) (.tru (.call 13 (.cons (.var 0) (.cons (.var 3) .nil))))) (.seq (.ret (.chn .lt .lt (.cst (.int (0))) (.var 1) (.op .sub (.var 2) (.cst (.int (1)))))) .skip) .skip) (.seq (.ite (.cmp .eq (.var 0) (.cst (.str (PySem.Str.ofString "<")))) (.seq (.ret (.cmp .gt (.var 1) (.cst (.int (0))))) .skip) .skip) (.seq (.ite (.cmp .eq (.var 0) (.cst (.str (PySem.Str.ofString ">")))) (.seq (.ret (.cmp .lt (.var 1) (.op .sub (.var 2) (.cst (.int (1)))))) .skip) .skip) (.seq (.ret (.or (.cmp .eq (.var 0) (.cst (.str (PySem.Str.ofString ".")))) (.cmp .eq (.var 0) (.cst (.str (PySem.Str.ofString "s")))))) .skip))))⟩
noncomputable def fn23:Fn:=⟨2,4,(.seq (.set 2 (.idx (.lst (.cons (.call 5 (.cons (.var 0) (.cons (.cst (.int (3))) .nil))) (.cons (.call 5 (.cons (.var 0) (.cons (.cst (.int (100))) .nil))) .nil))) (.bi .int (.cons (.cmp .eq (.call 5 (.cons (.var 0) (.cons (.cst (.int (4))) .nil))) (.cst (.int (0)))) .nil)))) (.seq (.set 3 (.call 5 (.cons (.var 0) (.cons (.var 1) .nil)))) (.seq (.ite (.cmp .eq (.call 5 (.cons (.var 0) (.cons (.cst (.int (8))) .nil))) (.cst (.int (0)))) (.seq (.ret (.tup (.cons (.var 2) (.cons (.cst .non) .nil)))) .skip) .skip) (.seq (.ret (.tup (.cons (.var 2) (.cons (.var 3) .nil)))) .skip))))⟩
noncomputable def fin(h:VH)(r:Res Fl):Res W:=r.bind λfl h'=>match fl with
 |.nx _=>leave h .non h'
 |.rt w=>leave h w h'
 |_=>.no
theorem zam{F:Nat->Option Fn}{k f:Nat}{fn:Fn}{ws:List W}{h:VH}(hF:F f=some fn)(hl:ws.length=fn.ps) :
 run F (k+1) f ws h=fin h (exs (run F k) fn.body (ws.map some++List.replicate (fn.n-fn.ps) none) ⟨h.n,h.n,h.os⟩):=by
 simp only[run,hF]
 rw[if_pos (by rw[hl];exact Nat.beq_refl _)]
 rfl
theorem zfu{h:VH}{w:W}{h':VH}(h1:h.n<=h'.lo)(h2:W.lt h.n w=true):leave h w h'=.ok w h:=by
 unfold leave
 rw[if_pos (by rw[vab];exact⟨Nat.ble_eq.mpr h1,h2⟩)]
theorem zan{h h':VH}{w:W}(h1:h.n<=h'.lo)(h2:W.lt h.n w=true):fin h (.ok (.rt w) h')=.ok w h:=zfu h1 h2
theorem zjx{h h':VH}{ρ:En}(h1:h.n<=h'.lo):fin h (.ok (.nx ρ) h')=.ok .non h:=zfu h1 (by simp only[W.lt])
@[simp] theorem bindok {α β:Type} {a:α} {h:VH} {f:α->VH->Res β}:(Res.ok a h).bind f=f a h:=rfl
@[simp] theorem bindno {α β:Type} {f:α->VH->Res β}:(Res.no:Res α).bind f=.no:=rfl
@[simp] theorem ofsome {α:Type} {a:α} {h:VH}:Res.of (some a) h=.ok a h:=rfl
@[simp] theorem ofnone {α:Type} {h:VH}:Res.of (none:Option α) h=.no:=rfl
@[simp] theorem lt_non {n:Nat}:W.lt n .non=true:=by simp only[W.lt]
@[simp] theorem lt_bl {n:Nat} {b:Bool}:W.lt n (.bl b)=true:=by simp only[W.lt]
@[simp] theorem lt_int {n:Nat} {b:Int}:W.lt n (.int b)=true:=by simp only[W.lt]
@[simp] theorem lt_str {n:Nat} {b:Str}:W.lt n (.str b)=true:=by simp only[W.lt]
@[simp] theorem lt_tup {n:Nat} {b:List W}:W.lt n (.tup b)=W.lts n b:=by simp only[W.lt]
@[simp] theorem lts_nil {n:Nat}:W.lts n []=true:=by simp only[W.lts]
@[simp] theorem lts_cons {n:Nat} {b:W} {r:List W}:W.lts n (b::r)=(W.lt n b&&W.lts n r):=by simp only[W.lts]
@[simp] theorem ty_int_int:((Ty.int==Ty.int):Bool)=true:=rfl
@[simp] theorem ty_int_bool:((Ty.int==Ty.bool):Bool)=false:=rfl
@[simp] theorem ty_int_tuple:((Ty.int==Ty.tuple):Bool)=false:=rfl
@[simp] theorem ty_int_list:((Ty.int==Ty.list):Bool)=false:=rfl
@[simp] theorem ty_int_str:((Ty.int==Ty.str):Bool)=false:=rfl
@[simp] theorem ty_int_dict:((Ty.int==Ty.dict):Bool)=false:=rfl
@[simp] theorem ty_bool_int:((Ty.bool==Ty.int):Bool)=false:=rfl
@[simp] theorem ty_bool_bool:((Ty.bool==Ty.bool):Bool)=true:=rfl
@[simp] theorem ty_bool_tuple:((Ty.bool==Ty.tuple):Bool)=false:=rfl
@[simp] theorem ty_bool_list:((Ty.bool==Ty.list):Bool)=false:=rfl
@[simp] theorem ty_bool_str:((Ty.bool==Ty.str):Bool)=false:=rfl
@[simp] theorem ty_bool_dict:((Ty.bool==Ty.dict):Bool)=false:=rfl
@[simp] theorem ty_tuple_int:((Ty.tuple==Ty.int):Bool)=false:=rfl
@[simp] theorem ty_tuple_bool:((Ty.tuple==Ty.bool):Bool)=false:=rfl
@[simp] theorem ty_tuple_tuple:((Ty.tuple==Ty.tuple):Bool)=true:=rfl
@[simp] theorem ty_tuple_list:((Ty.tuple==Ty.list):Bool)=false:=rfl
@[simp] theorem ty_tuple_str:((Ty.tuple==Ty.str):Bool)=false:=rfl
@[simp] theorem ty_tuple_dict:((Ty.tuple==Ty.dict):Bool)=false:=rfl
@[simp] theorem ty_list_int:((Ty.list==Ty.int):Bool)=false:=rfl
@[simp] theorem ty_list_bool:((Ty.list==Ty.bool):Bool)=false:=rfl
@[simp] theorem ty_list_tuple:((Ty.list==Ty.tuple):Bool)=false:=rfl
@[simp] theorem ty_list_list:((Ty.list==Ty.list):Bool)=true:=rfl
@[simp] theorem ty_list_str:((Ty.list==Ty.str):Bool)=false:=rfl
@[simp] theorem ty_list_dict:((Ty.list==Ty.dict):Bool)=false:=rfl
@[simp] theorem ty_str_int:((Ty.str==Ty.int):Bool)=false:=rfl
@[simp] theorem ty_str_bool:((Ty.str==Ty.bool):Bool)=false:=rfl
@[simp] theorem ty_str_tuple:((Ty.str==Ty.tuple):Bool)=false:=rfl
@[simp] theorem ty_str_list:((Ty.str==Ty.list):Bool)=false:=rfl
@[simp] theorem ty_str_str:((Ty.str==Ty.str):Bool)=true:=rfl
@[simp] theorem ty_str_dict:((Ty.str==Ty.dict):Bool)=false:=rfl
@[simp] theorem ty_dict_int:((Ty.dict==Ty.int):Bool)=false:=rfl
@[simp] theorem ty_dict_bool:((Ty.dict==Ty.bool):Bool)=false:=rfl
@[simp] theorem ty_dict_tuple:((Ty.dict==Ty.tuple):Bool)=false:=rfl
@[simp] theorem ty_dict_list:((Ty.dict==Ty.list):Bool)=false:=rfl
@[simp] theorem ty_dict_str:((Ty.dict==Ty.str):Bool)=false:=rfl
@[simp] theorem ty_dict_dict:((Ty.dict==Ty.dict):Bool)=true:=rfl
@[simp] theorem isi_non {t:Ty} {h:VH}:tyIs t h .non=some false:=rfl
@[simp] theorem isi_bl {t:Ty} {h:VH} {b:Bool}:tyIs t h (.bl b)=some (t == .int||t == .bool):=rfl
@[simp] theorem isi_int {t:Ty} {h:VH} {i:Int}:tyIs t h (.int i)=some (t == .int):=rfl
@[simp] theorem isi_str {t:Ty} {h:VH} {x:Str}:tyIs t h (.str x)=some (t == .str):=rfl
@[simp] theorem isi_tup {t:Ty} {h:VH} {x:List W}:tyIs t h (.tup x)=some (t == .tuple):=rfl
@[simp] theorem get_lo {h:VH} {l i:Nat}:VH.get ⟨h.n,l,h.os⟩ i=h.get i:=by unfold VH.get;rfl
@[simp] theorem tru_bl {h:VH} {b:Bool}:truW h (.bl b)=some b:=rfl
noncomputable def forL(tg:W->VH->En->Option En)(b:FS):List W->En->VH->Res Fl
 |[],ρ,h=>.ok (.nx ρ) h
 |w::r,ρ,h=>match tg w h ρ with
  |none=>.no
  |some ρ=>(b ρ h).bind λfl h=>match fl with
   |.nx ρ=>forL tg b r ρ h
   |.ct ρ=>forL tg b r ρ h
   |.bk ρ=>.ok (.nx ρ) h
   |.rt w=>.ok (.rt w) h
noncomputable def lcL(tg:W->VH->En->Option En)(c e:FE):List W->En->VH->Res (List W)
 |[],_,h=>.ok [] h
 |w::r,ρ,h=>match tg w h ρ with
  |none=>.no
  |some ρ=>(c ρ h).bind λb h=>match b with
   |.bl true=>(e ρ h).bind λy h=>(lcL tg c e r ρ h).bind λys h=>.ok (y::ys) h
   |.bl false=>lcL tg c e r ρ h
   |_=>.no
theorem zfv{α β γ:Type}{r:Res α}{f:α->VH->Res β}{g:β->VH->Res γ}:(r.bind f).bind g=r.bind λa h=>(f a h).bind g:=by cases r<;>rfl
theorem zb7{nx:Nat->VH->Option (Option W)}{tg:W->VH->En->Option En}{b:FS}{ws:List W}(hx:∀i h,nx i h=some ws[i]?):∀(fu i:Nat) (ρ:En) (h:VH),i<=ws.length->ws.length<fu+i->forG nx tg b fu i ρ h=forL tg b (ws.drop i) ρ h
 |0,i,ρ,h,hi,hl=>by omega
 |fu+1,i,ρ,h,hi,hl=>by
  simp only[forG,hx]
  cases q:ws[i]? with
  |none=>
   rw[List.drop_eq_nil_of_le (vaz.mp q)]
   rfl
  |some w=>
   obtain⟨hi,e⟩:=vav.mp q
   rw[List.drop_eq_getElem_cons hi,e]
   simp only[forL]
   cases tg w h ρ with
   |none=>rfl
   |some ρ'=>
    simp only
    congr 1
    funext fl h1
    cases fl<;>simp only[zb7 hx fu (i+1) _ _ hi (by omega)]
theorem zcx{nx:Nat->VH->Option (Option W)}{tg:W->VH->En->Option En}{c e:FE}{ws:List W}(hx:∀i h,nx i h=some ws[i]?):∀(fu i:Nat) (ρ:En) (h:VH) (acc:List W),i<=ws.length->ws.length<fu+i->
 lcG nx tg c e fu i ρ h acc=(lcL tg c e (ws.drop i) ρ h).bind λys h=>.ok (acc.reverse++ys) h
 |0,i,ρ,h,acc,hi,hl=>by omega
 |fu+1,i,ρ,h,acc,hi,hl=>by
  simp only[lcG,hx]
  cases q:ws[i]? with
  |none=>
   rw[List.drop_eq_nil_of_le (vaz.mp q)]
   simp[lcL]
  |some w=>
   obtain⟨hi,ee⟩:=vav.mp q
   rw[List.drop_eq_getElem_cons hi,ee]
   simp only[lcL]
   cases tg w h ρ with
   |none=>rfl
   |some ρ'=>
    simp only[zfv]
    congr 1
    funext bv h1
    cases bv<;>try rfl
    rename_i bb
    cases bb with
    |true=>
     simp only[zfv]
     congr 1
     funext y h2
     rw[zcx hx fu (i+1) _ _ _ hi (by omega)]
     congr 1
     funext ys h3
     simp
    |false=>simp only[zcx hx fu (i+1) _ _ _ hi (by omega)]
theorem zbt{ws:List W}{tg:W->VH->En->Option En}{b:FS}{ρ:En}{h:VH}(hl:ws.length<1000000):forG (nxt .seq (.tup ws)) tg b fuel 0 ρ h=forL tg b ws ρ h:=by
 have:=zb7 (nx:=nxt .seq (.tup ws)) (tg:=tg) (b:=b) (ws:=ws) (λi h=>rfl) fuel 0 ρ h (Nat.zero_le _) (by simpa[fuel]using hl)
 simpa using this
theorem zws{ws:List W}{tg:W->VH->En->Option En}{c e:FE}{ρ:En}{h:VH}(hl:ws.length<1000000):lcG (nxt .seq (.tup ws)) tg c e fuel 0 ρ h []=lcL tg c e ws ρ h:=by
 have:=zcx (nx:=nxt .seq (.tup ws)) (tg:=tg) (c:=c) (e:=e) (ws:=ws) (λi h=>rfl) fuel 0 ρ h [] (Nat.zero_le _) (by simpa[fuel]using hl)
 rw[this]
 simp only[List.drop_zero,List.reverse_nil,List.nil_append]
 cases lcL tg c e ws ρ h<;>rfl
noncomputable def enumW:Nat->List W->List W
 |_,[]=>[]
 |i,w::r=>.tup [.int i,w]::enumW (i+1) r
theorem zhs:∀(ws:List W) (i j:Nat),(enumW j ws)[i]?=(ws[i]?).map λw=>.tup [.int ((j+i:Nat):Int),w]
 |[],i,j=>by simp[enumW]
 |w::r,0,j=>by simp[enumW]
 |w::r,i+1,j=>by
  simp only[enumW,vax]
  rw[zhs r i (j+1)]
  congr 1
  funext w
  rw[show j+1+i=j+ (i+1) by omega]
theorem zht:∀(ws:List W) (j:Nat),(enumW j ws).length=ws.length
 |[],_=>rfl
 |_::r,j=>by simp[enumW,zht r]
theorem zjy{ws:List W}{tg:W->VH->En->Option En}{b:FS}{ρ:En}{h:VH}(hl:ws.length<1000000):forG (nxt .enm (.tup ws)) tg b fuel 0 ρ h=forL tg b (enumW 0 ws) ρ h:=by
 have:=zb7 (nx:=nxt .enm (.tup ws)) (tg:=tg) (b:=b) (ws:=enumW 0 ws) (λi h=>by rw[zhs];simp[nxt,seqW]) fuel 0 ρ h (Nat.zero_le _) (by simpa[fuel,zht]using hl)
 simpa using this
noncomputable def zay(a:Int):Nat->List W
 |0=>[]
 |n+1=>.int a::zay (a+1) n
theorem zdg:∀(n i:Nat) (a:Int),(zay a n)[i]?=if i<n then some (.int (a+i))else none
 |0,i,a=>by simp[zay]
 |n+1,0,a=>by simp[zay]
 |n+1,i+1,a=>by
  simp only[zay,vax]
  rw[zdg n i (a+1)]
  by_cases q:i<n
  .rw[if_pos q,if_pos (by omega)]
   congr 2
   push_cast
   omega
  .rw[if_neg q,if_neg (by omega)]
theorem zdh:∀(n:Nat) (a:Int),(zay a n).length=n
 |0,_=>rfl
 |n+1,a=>by simp[zay,zdh n]
theorem zm1{n:Nat}{tg:W->VH->En->Option En}{b:FS}{ρ:En}{h:VH}(hl:n<1000000):forG (nxt .rng1 (.tup [.int n])) tg b fuel 0 ρ h=forL tg b (zay 0 n) ρ h:=by
 have hf:fits (n:Int)=true:=by simp[fits];omega
 have:=zb7 (nx:=nxt .rng1 (.tup [.int n])) (tg:=tg) (b:=b) (ws:=zay 0 n) (λi h=>by rw[zdg];simp[nxt,hf]) fuel 0 ρ h (Nat.zero_le _) (by simpa[fuel,zdh]using hl)
 simpa using this
theorem zwt{n:Nat}{tg:W->VH->En->Option En}{c e:FE}{ρ:En}{h:VH}(hl:n<1000000):lcG (nxt .rng1 (.tup [.int n])) tg c e fuel 0 ρ h []=lcL tg c e (zay 0 n) ρ h:=by
 have hf:fits (n:Int)=true:=by simp[fits];omega
 have:=zcx (nx:=nxt .rng1 (.tup [.int n])) (tg:=tg) (c:=c) (e:=e) (ws:=zay 0 n) (λi h=>by rw[zdg];simp[nxt,hf]) fuel 0 ρ h [] (Nat.zero_le _) (by simpa[fuel,zdh]using hl)
 rw[this]
 simp only[List.drop_zero,List.reverse_nil,List.nil_append]
 cases lcL tg c e (zay 0 n) ρ h<;>rfl
noncomputable def isInt:W->Bool
 |.int _=>true
 |_=>false
noncomputable def Kn(h:VH)(w:W):Prop:=tyIs .int h w≠none
theorem kn_lo{h:VH}{l:Nat}{w:W}:Kn ⟨h.n,l,h.os⟩ w↔Kn h w:=by
 unfold Kn
 cases w<;>simp[tyIs]
structure CoreA(F:Nat->Option Fn):Prop where
 f0:F 0=some fn0
 f1:F 1=some fn1
 f6:F 6=some fn6
 f7:F 7=some fn7
section
variable{F:Nat->Option Fn}(C:CoreA F)
include C
theorem zo9{k:Nat}{h:VH}{w:W}(hw:Kn h w):run F (k+1) 0 [w] h=.ok (.bl (isInt w)) h:=by
 rw[zam C.f0 rfl]
 cases w<;>try(simp[fn0,exs,ev,isInt,zan];done)
 .exact absurd rfl hw
 .rename_i i
  unfold Kn at hw
  simp only[tyIs]at hw
  cases g:h.get i with
  |none=>rw[g]at hw;exact absurd rfl hw
  |some o=>cases o<;>first|(simp[fn0,exs,ev,isInt,zan,tyIs,g];done)|(simp[g]at hw)
noncomputable def within(w:W)(lo hi:Int):Bool:=match w with
 |.int i=>decide (lo<=i)&&decide (i<=hi)
 |_=>false
theorem zap{k:Nat}{h:VH}{w:W}{lo hi:Int}(hw:Kn h w):run F (k+2) 1 [w,.int lo,.int hi] h=.ok (.bl (within w lo hi)) h:=by
 rw[zam C.f1 rfl]
 have e:=zo9 C (k:=k) (h:=⟨h.n,h.n,h.os⟩) (w:=w) (kn_lo.mpr hw)
 cases w<;>simp[fn1,exs,ev,e,isInt,within,zan,cmpW,cmpI]
 rename_i i
 by_cases h1:lo<=i<;>simp[h1,zan]
noncomputable def zav(w:W)(lo hi:Int):Bool:=match w with
 |.tup ws=>decide (lo<=ws.length)&&decide ((ws.length:Int)<=hi)
 |_=>false
theorem zaq{k:Nat}{h:VH}{w:W}{lo hi:Int}(hw:Kn h w):run F (k+1) 6 [w,.int lo,.int hi] h=.ok (.bl (zav w lo hi)) h:=by
 rw[zam C.f6 rfl]
 cases w<;>try(simp[fn6,exs,ev,zav,zan];done)
 .rename_i ws
  simp[fn6,exs,ev,zav,zan,cmpW,cmpI,biW,lenW,seqW]
  by_cases h1:lo<=ws.length<;>simp[h1,zan]
 .exact absurd rfl hw
 .rename_i i
  unfold Kn at hw
  simp only[tyIs]at hw
  cases g:h.get i with
  |none=>rw[g]at hw;exact absurd rfl hw
  |some o=>cases o<;>first|(simp[fn6,exs,ev,zav,zan,tyIs,g];done)|(simp[g]at hw)
theorem loop7{k:Nat}{h:VH}{t a b:W}{lo hi:Int}:∀(ws:List W) (x:Option W),(∀w∈ws,Kn h w)->∃y,forL (tgW (.one 5)) (exs (run F (k+2)) zju) ws [some t,some a,some b,some (.int lo),some (.int hi),x] h =
 if ws.all (within · lo hi)then .ok (.nx [some t,some a,some b,some (.int lo),some (.int hi),y]) h else .ok (.rt (.bl false)) h
 |[],x,_=>⟨x,by simp[forL]⟩
 |w::r,x,hk=>by
  obtain⟨y,e⟩:=loop7 (t:=t) (a:=a) (b:=b) (k:=k) (lo:=lo) (hi:=hi) r (some w) λz hz=>hk z (vad _ hz)
  refine⟨y,?_⟩
  have e1:=zap C (k:=k) (lo:=lo) (hi:=hi) (hk w vag)
  have eb:exs (run F (k+2)) zju [some t,some a,some b,some (.int lo),some (.int hi),some w] h=if within w lo hi then .ok (.nx [some t,some a,some b,some (.int lo),some (.int hi),some w]) h else .ok (.rt (.bl false)) h:=by
   cases q:within w lo hi<;>simp[zju,exs,ev,e1,q]
  simp only[forL,tgW,List.set,eb]
  cases q:within w lo hi<;>simp[q,e]
noncomputable def zb8(w:W)(a b lo hi:Int):Bool:=match w with
 |.tup ws=>zav w a b&&ws.all (within · lo hi)
 |_=>false
theorem za8{k:Nat}{h:VH}{w:W}{a b lo hi:Int}(hw:Kn h w)(hp:∀ws,w=.tup ws->ws.length<1000000/\∀x∈ws,Kn h x):run F (k+3) 7 [w,.int a,.int b,.int lo,.int hi] h=.ok (.bl (zb8 w a b lo hi)) h:=by
 rw[zam C.f7 rfl]
 have e1:=zaq C (k:=k+1) (h:=⟨h.n,h.n,h.os⟩) (w:=w) (lo:=a) (hi:=b) (kn_lo.mpr hw)
 cases q:zav w a b with
 |false=>
  have:zb8 w a b lo hi=false:=by cases w<;>simp[zb8,q]
  simp[fn7,exs,ev,e1,q,this,zan]
 |true=>
  cases w<;>try(simp[zav]at q;done)
  rename_i ws
  obtain⟨hl,hk⟩:=hp ws rfl
  obtain⟨y,e2⟩:=loop7 C (k:=k) (h:=⟨h.n,h.n,h.os⟩) (t:=.tup ws) (a:=.int a) (b:=.int b) (lo:=lo) (hi:=hi) ws none λx hx=>kn_lo.mpr (hk x hx)
  have e3:zb8 (.tup ws) a b lo hi=ws.all (within · lo hi):=by simp[zb8,q]
  rw[e3]
  cases q2:ws.all (within · lo hi)with
  |true=>simp[fn7,exs,ev,e1,q,zbt hl,e2,q2,zan]
  |false=>simp[fn7,exs,ev,e1,q,zbt hl,e2,q2,zan]
end
noncomputable def zaz:Nat->W->Bool
 |0,_=>false
 |n+1,w=>match w with
  |.non=>true
  |.bl _=>true
  |.int _=>true
  |.str x=>PyData.strOk x
  |.tup ws=>ws.all (zaz n)
  |_=>false
theorem zjz{f:W->Option PyData}{p:W->Bool}{n:Nat}(h:∀w,p w=true->∃d,f w=some d/\d.canLay0=true/\d.depth<=n):∀ws:List W,ws.all p=true->∃ds,mapO f ws=some ds/\PyData.canLayAll0 ds=true/\PyData.depthAll ds<=n
 |[],_=>⟨[],rfl,rfl,Nat.zero_le _⟩
 |w::r,e=>by
  rw[List.all_cons,vab]at e
  obtain⟨d,h1,h2,h3⟩:=h w e.1
  obtain⟨ds,h4,h5,h6⟩:=zjz h r e.2
  refine⟨d::ds,by simp[mapO,h1,h4],?_,?_⟩
  .show(d.canLay0&&PyData.canLayAll0 ds)=true
   rw[h2,h5];rfl
  .show max d.depth (PyData.depthAll ds)<=n
   omega
theorem zcy(h:VH):∀(n:Nat) (w:W),zaz n w=true->∃d,toD h n w=some d/\d.canLay0=true/\d.depth<=n
 |0,_,e=>by cases e
 |n+1,w,e=>by
  cases w<;>simp only[zaz]at e<;>try(cases e;done)
  .exact⟨.none,rfl,rfl,Nat.zero_le _⟩
  .exact⟨.bool _,rfl,rfl,Nat.zero_le _⟩
  .exact⟨.int _,rfl,rfl,Nat.zero_le _⟩
  .exact⟨.str _,rfl,e,Nat.zero_le _⟩
  .obtain⟨ds,h1,h2,h3⟩:=zjz (zcy h n) _ e
   exact⟨.tuple ds,by simp[toD,h1],h2,by show PyData.depthAll ds+1<=n+1;omega⟩
mutual
theorem zj0:∀d:PyData,d.canLay0=true->PyData.eqv d d=true
 |.none,_=>rfl
 |.bool b,_=>by simp[PyData.eqv]
 |.int i,_=>by simp[PyData.eqv]
 |.str x,_=>by simp[PyData.eqv]
 |.list xs,h=>by
  simp only[PyData.eqv]
  exact zck xs h
 |.tuple xs,h=>by
  simp only[PyData.eqv]
  exact zck xs h
 |.dict _,h=>by cases h
theorem zck:∀ds:List PyData,PyData.canLayAll0 ds=true->PyData.eqvAll ds ds=true
 |[],_=>rfl
 |d::ds,h=>by
  have h:(d.canLay0&&PyData.canLayAll0 ds)=true:=h
  rw[vab]at h
  simp only[PyData.eqvAll,zj0 d h.1,zck ds h.2,Bool.and_self]
end
theorem zpa{h:VH}{w:W}(p:zaz 24 w=true):eqW h w w=some true:=by
 obtain⟨d,h1,h2,h3⟩:=zcy h 24 w p
 have hs:SeqAt.shaped d=true:=by
  unfold SeqAt.shaped
  rw[h2,Bool.true_and,vaw];omega
 unfold eqW
 rw[h1]
 simp[hs,zj0 d h2]
noncomputable def isS(w:W)(x:Str):Bool:=match w with
 |.str y=>y==x
 |_=>false
theorem zbd{h:VH}{w:W}{x:Str}(p:zaz 24 w=true)(hx:PyData.strOk x=true):eqW h w (.str x)=some (isS w x):=by
 obtain⟨d,h1,h2,h3⟩:=zcy h 24 w p
 have hs:SeqAt.shaped d=true:=by
  unfold SeqAt.shaped
  rw[h2,Bool.true_and,vaw];omega
 have hs2:SeqAt.shaped (.str x)=true:=by
  unfold SeqAt.shaped
  show(PyData.strOk x&&_)=true
  rw[hx];rfl
 unfold eqW
 rw[h1]
 have h4:toD h 24 (.str x)=some (.str x):=rfl
 rw[h4]
 simp only[hs,hs2,Bool.and_self,if_true]
 cases w<;>simp only[toD]at h1<;>try(cases h1;done)
 .cases h1;simp[isS,PyData.eqv]
 .cases h1;simp[isS,PyData.eqv]
 .cases h1;simp[isS,PyData.eqv]
 .cases h1;simp[isS,PyData.eqv]
 .obtain⟨ds,h5,h6⟩:=Option.map_eq_some_iff.mp h1
  subst h6
  simp[isS,PyData.eqv]
 .simp[zaz]at p
 .simp[zaz]at p
theorem zep{n:Nat}{ws:List W}:zaz (n+1) (.tup ws)=ws.all (zaz n):=rfl
theorem zgq{h:VH}{n:Nat}{w:W}(p:zaz n w=true):Kn h w:=by
 unfold Kn
 cases n with
 |zero=>cases p
 |succ n=>cases w<;>simp[zaz,tyIs]at p ⊢
structure CoreB(F:Nat->Option Fn):Prop extends CoreA F where
 f8:F 8=some fn8
 f9:F 9=some fn9
 f10:F 10=some fn10
 f11:F 11=some fn11
 f12:F 12=some fn12
 f13:F 13=some fn13
 f14:F 14=some fn14
 f15:F 15=some fn15
theorem zm2:isNon .non=true:=rfl
noncomputable def fon(w:W)(n:Int):Bool:=isNon w||within w 0 (n-1)
noncomputable def door(w:W)(n:Int):Bool:=match w with
 |.tup [a,b]=>within a 0 99&&fon b n
 |_=>false
noncomputable def zbp(w:W)(g:Int):Bool:=match w with
 |.tup [a,b]=>within a 0 (g-1)&&within b 0 1
 |_=>false
noncomputable def zai(w:W)(c wd g:Int):Bool:=
 if isS w "x" || zbp w g then decide (0<c)&&decide (c<wd-1)else if isS w "<"then decide (0<c)else if isS w ">"then decide (c<wd-1)else isS w "." || isS w "s"
section
variable{F:Nat->Option Fn}(C:CoreB F)
include C
theorem zdi{k:Nat}{h:VH}{w:W}{n:Int}(hw:Kn h w):run F (k+3) 12 [w,.int n] h=.ok (.bl (fon w n)) h:=by
 rw[zam C.f12 rfl]
 have e:=zap C.toCoreA (k:=k) (h:=⟨h.n,h.n,h.os⟩) (w:=w) (lo:=0) (hi:=n-1) (kn_lo.mpr hw)
 cases q:isNon w<;>simp[fn12,exs,ev,e,cmpW,zm2,q,fon,zan,opW,opI]
theorem zsm{k:Nat}{h:VH}{w:W}{n:Int}(hw:Kn h w)(hp:∀a b,w=.tup [a,b]->Kn h a/\Kn h b):run F (k+4) 11 [w,.int n] h=.ok (.bl (door w n)) h:=by
 rw[zam C.f11 rfl]
 have e1:=zaq C.toCoreA (k:=k+2) (h:=⟨h.n,h.n,h.os⟩) (w:=w) (lo:=2) (hi:=2) (kn_lo.mpr hw)
 cases q:zav w 2 2 with
 |false=>
  have:door w n=false:=by
   cases w<;>simp[door]
   rename_i ws
   rcases ws with _|⟨a,_|⟨b,_|_⟩⟩<;>simp[zav]at q ⊢
  simp[fn11,exs,ev,e1,q,this,zan]
 |true=>
  cases w<;>try(simp[zav]at q;done)
  rename_i ws
  have hl:ws.length=2:=by simp[zav]at q;omega
  rcases ws with _|⟨a,_|⟨b,_|_⟩⟩<;>simp at hl
  obtain⟨ka,kb⟩:=hp a b rfl
  have e2:=zap C.toCoreA (k:=k+1) (h:=⟨h.n,h.n,h.os⟩) (w:=a) (lo:=0) (hi:=99) (kn_lo.mpr ka)
  have e3:=zdi C (k:=k) (h:=⟨h.n,h.n,h.os⟩) (w:=b) (n:=n) (kn_lo.mpr kb)
  cases q2:within a 0 99<;>simp[fn11,exs,ev,e1,q,e2,e3,q2,door,zan,tgW,seqW,za5]
theorem zm3{k:Nat}{h:VH}{w:W}{n:Int}(hw:Kn h w)(hp:∀a b,w=.tup [a,b]->Kn h a/\Kn h b):run F (k+3) 13 [w,.int n] h=.ok (.bl (zbp w n)) h:=by
 rw[zam C.f13 rfl]
 have e1:=zaq C.toCoreA (k:=k+1) (h:=⟨h.n,h.n,h.os⟩) (w:=w) (lo:=2) (hi:=2) (kn_lo.mpr hw)
 cases q:zav w 2 2 with
 |false=>
  have:zbp w n=false:=by
   cases w<;>simp[zbp]
   rename_i ws
   rcases ws with _|⟨a,_|⟨b,_|_⟩⟩<;>simp[zav]at q ⊢
  simp[fn13,exs,ev,e1,q,this,zan]
 |true=>
  cases w<;>try(simp[zav]at q;done)
  rename_i ws
  have hl:ws.length=2:=by simp[zav]at q;omega
  rcases ws with _|⟨a,_|⟨b,_|_⟩⟩<;>simp at hl
  obtain⟨ka,kb⟩:=hp a b rfl
  have e2:=zap C.toCoreA (k:=k) (h:=⟨h.n,h.n,h.os⟩) (w:=a) (lo:=0) (hi:=n-1) (kn_lo.mpr ka)
  have e3:=zap C.toCoreA (k:=k) (h:=⟨h.n,h.n,h.os⟩) (w:=b) (lo:=0) (hi:=1) (kn_lo.mpr kb)
  cases q2:within a 0 (n-1)<;>simp[fn13,exs,ev,e1,q,e2,e3,q2,zbp,zan,tgW,seqW,za5,opW,opI]
theorem zm4{k:Nat}{h:VH}{w:W}{c wd g:Int}(p:zaz 24 w=true):run F (k+4) 15 [w,.int c,.int wd,.int g] h=.ok (.bl (zai w c wd g)) h:=by
 rw[zam C.f15 rfl]
 have hp:∀a b,w=.tup [a,b]->Kn ⟨h.n,h.n,h.os⟩ a/\Kn ⟨h.n,h.n,h.os⟩ b:=λa b e=>by
  subst e
  have p:zaz (23+1) (.tup [a,b])=true:=p
  rw[zep,List.all_cons,List.all_cons,vab,vab]at p
  exact⟨zgq p.1,zgq p.2.1⟩
 have e1:=zm3 C (k:=k) (h:=⟨h.n,h.n,h.os⟩) (w:=w) (n:=g) (zgq p) hp
 have sx:=zbd (h:=⟨h.n,h.n,h.os⟩) (x:=Str.ofString "x") p (by decide +kernel)
 have sl:=zbd (h:=⟨h.n,h.n,h.os⟩) (x:=Str.ofString "<") p (by decide +kernel)
 have sg:=zbd (h:=⟨h.n,h.n,h.os⟩) (x:=Str.ofString ">") p (by decide +kernel)
 have sd:=zbd (h:=⟨h.n,h.n,h.os⟩) (x:=Str.ofString ".") p (by decide +kernel)
 have ss:=zbd (h:=⟨h.n,h.n,h.os⟩) (x:=Str.ofString "s") p (by decide +kernel)
 unfold zai
 cases q1:isS w (Str.ofString "x")<;>cases q2:zbp w g<;>cases q3:isS w (Str.ofString "<")<;>cases q4:isS w (Str.ofString ">")<;>cases q5:isS w (Str.ofString ".")<;>by_cases h1:0<c<;>
  simp[fn15,exs,ev,cmpW,cmpI,sx,sl,sg,sd,ss,e1,opW,opI,q1,q2,q3,q4,q5,h1,zan]
theorem zci{k:Nat}{h:VH}{t a:W}{n:Int}:∀(ws:List W) (x:Option W),(∀w∈ws,Kn h w/\∀a b,w=.tup [a,b]->Kn h a/\Kn h b)->∃y,forL (tgW (.one 3)) (exs (run F (k+4)) zjv) ws [some t,some a,some (.int n),x] h =
 if ws.all (door · n)then .ok (.nx [some t,some a,some (.int n),y]) h else .ok (.rt (.bl false)) h
 |[],x,_=>⟨x,by simp[forL]⟩
 |w::r,x,hk=>by
  obtain⟨y,e⟩:=zci (t:=t) (a:=a) (k:=k) (n:=n) r (some w) λz hz=>hk z (vad _ hz)
  refine⟨y,?_⟩
  obtain⟨k1,k2⟩:=hk w vag
  have e1:=zsm C (k:=k) (n:=n) k1 k2
  have eb:exs (run F (k+4)) zjv [some t,some a,some (.int n),some w] h=if door w n then .ok (.nx [some t,some a,some (.int n),some w]) h else .ok (.rt (.bl false)) h:=by
   cases q:door w n<;>simp[zjv,exs,ev,e1,q]
  simp only[forL,tgW,List.set,eb]
  cases q:door w n<;>simp[q,e]
theorem zm5{k:Nat}{h:VH}{ws:List W}{wd n:Int}(hl:ws.length=wd)(hz:ws.length<1000000)(hd:∀w∈ws,door w n=true):run F (k+5) 8 [.tup ws,.int wd,.int n] h=.ok (.bl true) h:=by
 rw[zam C.f8 rfl]
 have e1:=zaq C.toCoreA (k:=k+3) (h:=⟨h.n,h.n,h.os⟩) (w:=.tup ws) (lo:=wd) (hi:=wd) (by unfold Kn;simp)
 have q:zav (.tup ws) wd wd=true:=by simp[zav,hl]
 have kn:∀w∈ws,Kn ⟨h.n,h.n,h.os⟩ w/\∀a b,w=.tup [a,b]->Kn ⟨h.n,h.n,h.os⟩ a/\Kn ⟨h.n,h.n,h.os⟩ b:=λw hw=>by
  have:=hd w hw
  cases w<;>simp only[door]at this<;>try(cases this;done)
  rename_i us
  refine⟨by unfold Kn;simp,λa b e=>?_⟩
  cases e
  simp only[vab]at this
  obtain⟨h1,h2⟩:=this
  refine⟨?_,?_⟩
  .cases a<;>simp[within]at h1
   unfold Kn;simp
  .unfold fon at h2
   cases b<;>simp[within,isNon]at h2
   .unfold Kn;simp
   .unfold Kn;simp
 obtain⟨y,e2⟩:=zci C (k:=k) (h:=⟨h.n,h.n,h.os⟩) (t:=.tup ws) (a:=.int wd) (n:=n) ws none kn
 have ha:ws.all (door · n)=true:=List.all_eq_true.mpr hd
 simp[fn8,exs,ev,e1,q,zbt hz,e2,ha,zan]
theorem zcz{k:Nat}{h:VH}{t:W}{wd:Int}:∀(ws:List W) (x:Option W),(∀w∈ws,∃us,w=.tup us/\us.length=wd)->∃y,forL (tgW (.one 2)) (exs (run F (k+1)) zjw) ws [some t,some (.int wd),x] h=.ok (.nx [some t,some (.int wd),y]) h
 |[],x,_=>⟨x,by simp[forL]⟩
 |w::r,x,hk=>by
  obtain⟨y,e⟩:=zcz (h:=h) (t:=t) (k:=k) (wd:=wd) r (some w) λz hz=>hk z (vad _ hz)
  refine⟨y,?_⟩
  obtain⟨us,rfl,hl⟩:=hk w vag
  have e1:=zaq C.toCoreA (k:=k) (h:=h) (w:=.tup us) (lo:=wd) (hi:=wd) (by unfold Kn;simp)
  have q:zav (.tup us) wd wd=true:=by simp[zav,hl]
  have eb:exs (run F (k+1)) zjw [some t,some (.int wd),some (.tup us)] h=.ok (.nx [some t,some (.int wd),some (.tup us)]) h:=by
   simp[zjw,exs,ev,e1,q]
  simp only[forL,tgW,List.set,eb,bindok,e]
theorem zpb{k:Nat}{h:VH}{ws:List W}{wd:Int}(hl:ws.length<=60)(hd:∀w∈ws,∃us,w=.tup us/\us.length=wd):run F (k+2) 9 [.tup ws,.int wd] h=.ok (.bl true) h:=by
 rw[zam C.f9 rfl]
 have e1:=zaq C.toCoreA (k:=k) (h:=⟨h.n,h.n,h.os⟩) (w:=.tup ws) (lo:=0) (hi:=60) (by unfold Kn;simp)
 have q:zav (.tup ws) 0 60=true:=by simp[zav];omega
 obtain⟨y,e2⟩:=zcz C (k:=k) (h:=⟨h.n,h.n,h.os⟩) (t:=.tup ws) (wd:=wd) ws none hd
 simp[fn9,exs,ev,e1,q,zbt (show ws.length<1000000 by omega),e2,zan]
end
structure Bd where
 wd:Int
 gr:Int
 rows:List (List W)
 fd:List W
 dr:List W
noncomputable def Bd.w(B:Bd):W:=.tup [.int B.wd,.int B.gr,.tup (B.rows.map .tup),.tup B.fd,.tup B.dr]
noncomputable def rowOk(wd g:Int):Int->List W->Prop
 |_,[]=>True
 |c,w::r=>zai w c wd g=true/\rowOk wd g (c+1) r
structure Bd.Ok(B:Bd):Prop where
 w1:1<=B.wd
 w2:B.wd<=40
 g1:0<=B.gr
 g2:B.gr<=8
 r1:B.rows.length<=60
 r2:∀r∈B.rows,(r.length:Int)=B.wd/\rowOk B.wd B.gr 0 r
 f1:1<=B.fd.length
 f2:B.fd.length<=4
 f3:∀f∈B.fd,within f 0 (B.wd-1)=true
 d1:(B.dr.length:Int)=B.wd
 d2:∀d∈B.dr,door d B.fd.length=true
theorem zhu{w:W}{g:Int}(h:zbp w g=true)(n:Nat):zaz (n+2) w=true:=by
 cases w<;>simp only[zbp]at h<;>try(cases h;done)
 rename_i us
 rcases us with _|⟨a,_|⟨b,_|_⟩⟩<;>simp at h
 obtain⟨h1,h2⟩:=h
 cases a<;>simp[within]at h1
 cases b<;>simp[within]at h2
 rfl
theorem zfw{w:W}{x:Str}(h:isS w x=true):w=.str x:=by
 cases w<;>simp[isS]at h
 rw[h]
theorem ze1{w:W}{c wd g:Int}(h:zai w c wd g=true)(n:Nat):zaz (n+2) w=true:=by
 have st:∀x:Str,PyData.strOk x=true->isS w x=true->zaz (n+2) w=true:=λx hx e=>by rw[zfw e];exact hx
 unfold zai at h
 split at h
 .rename_i q
  rw[Bool.or_eq_true]at q
  rcases q with q|q
  .exact st _ (by decide +kernel) q
  .exact zhu q n
 .split at h
  .rename_i q;exact st _ (by decide +kernel) q
  .split at h
   .rename_i q;exact st _ (by decide +kernel) q
   .rw[Bool.or_eq_true]at h
    rcases h with q|q
    .exact st _ (by decide +kernel) q
    .exact st _ (by decide +kernel) q
section
variable{F:Nat->Option Fn}(C:CoreB F)
include C
theorem zpc{k:Nat}{h:VH}{B:Bd}(b:B.Ok):run F (k+6) 10 [B.w] h=.ok (.bl true) h:=by
 rw[zam C.f10 rfl]
 have e1:=zaq C.toCoreA (k:=k+4) (h:=⟨h.n,h.n,h.os⟩) (w:=B.w) (lo:=5) (hi:=5) (by unfold Kn Bd.w;simp)
 have q1:zav B.w 5 5=true:=by simp[zav,Bd.w]
 have e2:=zap C.toCoreA (k:=k+3) (h:=⟨h.n,h.n,h.os⟩) (w:=.int B.wd) (lo:=1) (hi:=40) (by unfold Kn;simp)
 have q2:within (.int B.wd) 1 40=true:=by simp[within,b.w1,b.w2]
 have e3:=zap C.toCoreA (k:=k+3) (h:=⟨h.n,h.n,h.os⟩) (w:=.int B.gr) (lo:=0) (hi:=8) (by unfold Kn;simp)
 have q3:within (.int B.gr) 0 8=true:=by simp[within,b.g1,b.g2]
 have kf:∀x∈B.fd,Kn ⟨h.n,h.n,h.os⟩ x:=λx hx=>by
  have:=b.f3 x hx
  cases x<;>simp[within]at this
  unfold Kn;simp
 have hf:=b.f2
 have e4:=za8 C.toCoreA (k:=k+2) (h:=⟨h.n,h.n,h.os⟩) (w:=.tup B.fd) (a:=1) (b:=4) (lo:=0) (hi:=B.wd-1) (by unfold Kn;simp) (λws e=>by cases e;exact⟨by omega,kf⟩)
 have q4:zb8 (.tup B.fd) 1 4 0 (B.wd-1)=true:=by
  have h1:=b.f1
  simp only[zb8,zav,vab,vaw]
  exact⟨⟨by omega,by omega⟩,List.all_eq_true.mpr b.f3⟩
 have e5:=zpb C (k:=k+3) (h:=⟨h.n,h.n,h.os⟩) (ws:=B.rows.map .tup) (wd:=B.wd) (by rw[vaf];exact b.r1) (λw hw=>by
  obtain⟨r,hr,e⟩:=List.mem_map.mp hw
  exact⟨r,e.symm,(b.r2 r hr).1⟩)
 have hd:=b.d1
 have h40:=b.w2
 have e6:=zm5 C (k:=k) (h:=⟨h.n,h.n,h.os⟩) (ws:=B.dr) (wd:=B.wd) (n:=B.fd.length) hd (by omega) b.d2
 unfold Bd.w at e1 q1 ⊢
 simp[fn10,exs,ev,e1,q1,e2,q2,e3,q3,e4,q4,e5,e6,zan,tgW,seqW,za5,opW,opI,biW,lenW]
theorem zm6{k:Nat}{h:VH}{t rs pl:W}{wd g r0:Int}:∀(ws:List W) (c:Int) (j:Nat) (x y:Option W),c=j->rowOk wd g c ws->∃x' y',forL (tgW (.many [6,7])) (exs (run F (k+4)) zgo) (enumW j ws) [some t,some (.int wd),some (.int g),some rs,some (.int r0),some pl,x,y] h =
 .ok (.nx [some t,some (.int wd),some (.int g),some rs,some (.int r0),some pl,x',y']) h
 |[],c,j,x,y,_,_=>⟨x,y,by simp[forL,enumW]⟩
 |w::r,c,j,x,y,hc,ho=>by
  obtain⟨h1,h2⟩:=ho
  obtain⟨x',y',e⟩:=zm6 (h:=h) (t:=t) (rs:=rs) (pl:=pl) (k:=k) (wd:=wd) (g:=g) (r0:=r0) r (c+1) (j+1) (some (.int j)) (some w) (by rw[hc];push_cast;rfl) h2
  refine⟨x',y',?_⟩
  have e1:=zm4 C (k:=k) (h:=h) (c:=j) (wd:=wd) (g:=g) (ze1 h1 22)
  rw[<-hc,h1]at e1
  have eb:exs (run F (k+4)) zgo [some t,some (.int wd),some (.int g),some rs,some (.int r0),some pl,some (.int j),some w] h=.ok (.nx [some t,some (.int wd),some (.int g),some rs,some (.int r0),some pl,some (.int j),some w]) h:=by
   rw[hc]at e1
   simp[zgo,exs,ev,e1]
  simp only[forL,enumW,tgW,seqW,za5,List.set,eb,bindok,e]
theorem zj1{k:Nat}{h:VH}{t rs:W}{wd g:Int}:∀(ws:List (List W)) (j:Nat) (x y z u:Option W),(∀r∈ws,(r.length:Int)<1000000/\rowOk wd g 0 r)->∃x' y' z' u',forL (tgW (.many [4,5])) (exs (run F (k+4)) zgp) (enumW j (ws.map .tup)) [some t,some (.int wd),some (.int g),some rs,x,y,z,u] h =
 .ok (.nx [some t,some (.int wd),some (.int g),some rs,x',y',z',u']) h
 |[],j,x,y,z,u,_=>⟨x,y,z,u,by simp[forL,enumW]⟩
 |w::r,j,x,y,z,u,ho=>by
  obtain⟨h1,h2⟩:=ho w vag
  obtain⟨z1,u1,e1⟩:=zm6 C (k:=k) (h:=h) (t:=t) (rs:=rs) (pl:=.tup w) (wd:=wd) (g:=g) (r0:=j) w 0 0 z u rfl h2
  obtain⟨x',y',z',u',e⟩:=zj1 (h:=h) (t:=t) (rs:=rs) (k:=k) (wd:=wd) (g:=g) r (j+1) (some (.int j)) (some (.tup w)) z1 u1 λq hq=>ho q (vad _ hq)
  refine⟨x',y',z',u',?_⟩
  have eb:exs (run F (k+4)) zgp [some t,some (.int wd),some (.int g),some rs,some (.int j),some (.tup w),z,u] h=.ok (.nx [some t,some (.int wd),some (.int g),some rs,some (.int j),some (.tup w),z1,u1]) h:=by
   simp[zgp,exs,ev,zjy (show w.length<1000000 by omega),e1]
  simp only[forL,vam,enumW,tgW,seqW,za5,List.set,eb,bindok,e]
theorem zgr{k:Nat}{h:VH}{B:Bd}(b:B.Ok):run F (k+7) 14 [B.w] h=.ok .non h:=by
 rw[zam C.f14 rfl]
 have e1:=zpc C (k:=k) (h:=⟨h.n,h.n,h.os⟩) b
 have h40:=b.w2
 have h60:=b.r1
 obtain⟨x',y',z',u',e2⟩:=zj1 C (k:=k+2) (h:=⟨h.n,h.n,h.os⟩) (t:=B.w) (rs:=.tup (B.rows.map .tup)) (wd:=B.wd) (g:=B.gr) B.rows 0 none none none none λr hr=>⟨by have:=(b.r2 r hr).1;omega,(b.r2 r hr).2⟩
 unfold Bd.w at e1 e2 ⊢
 simp[fn14,exs,ev,e1,zjx,tgW,seqW,za5,partW,cutW,HT.sIx,zjy (show(B.rows.map W.tup).length<1000000 by rw[vaf];omega),e2]
end
structure CoreD(F:Nat->Option Fn):Prop where
 f2:F 2=some fn2
 f3:F 3=some fn3
 f4:F 4=some fn4
 f5:F 5=some fn5
theorem zar{h:VH}{i j:Int}:eqW h (.int i) (.int j)=some (decide (i=j)):=by
 unfold eqW
 simp only[toD]
 show some (i==j)=_
 by_cases q:i=j<;>simp[q]
theorem zd1{i:Int}(h1:-(2 ^ 63)<=i)(h2:i<2 ^ 63):zbo i=true:=by
 unfold zbo
 simp only[vab,vaw]
 omega
theorem zau{h:VH}{i:Nat}{o o0:VO}(g:h.get i=some o0):(h.set i o).get i=some o:=by
 have hi:=zaj g
 unfold VH.get at g
 rw[if_pos (zal.mpr hi)]at g
 have hl:=(vav.mp g).1
 unfold VH.get VH.set
 simp only[if_pos (zal.mpr hi)]
 rw[List.getElem?_set_self hl]
theorem zag{h:VH}{i j:Nat}{o o0:VO}(g:h.get i=some o0)(hj:j≠i):(h.set i o).get j=h.get j:=zdc (zaj g) hj
structure Dk(h:VH)(d c:Nat)(b:Nat):Prop where
 ne:d≠c
 st:∃(ns cells:List Int) (p q:Int),h.get d=some (.lst [.fz (ns.map .int),.ref c,.int p,.int q])/\h.get c=some (.lst (cells.map .int))/\(∀x∈cells,(0:Int)<=x)/\0<=p/\0<=q/\q<=b/\cells.length<=63
theorem Dk.mono{h:VH}{d c b b':Nat}(D:Dk h d c b)(hb:b<=b'):Dk h d c b':=by
 obtain⟨ne,ns,cells,p,q,a1,a2,a3,a4,a5,a6,a7⟩:=D
 exact⟨ne,ns,cells,p,q,a1,a2,a3,a4,a5,by omega,a7⟩
structure Keep(h h':VH)(d c:Nat):Prop where
 le:h.n<=h'.n
 get:∀i o,i≠d->i≠c->h.get i=some o->h'.get i=some o
theorem Keep.refl{h:VH}{d c:Nat}:Keep h h d c:=⟨vae _,λ_ _ _ _ e=>e⟩
theorem Keep.trans{h h1 h2:VH}{d c:Nat}(a:Keep h h1 d c)(b:Keep h1 h2 d c):Keep h h2 d c:=⟨Nat.le_trans a.le b.le,λi o h1 h2 e=>b.get i o h1 h2 (a.get i o h1 h2 e)⟩
theorem zdj(i:Int):(if i<0 then -i else i)=(i.natAbs:Int):=by
 split<;>omega
section
variable{F:Nat->Option Fn}(C:CoreD F)
include C
theorem cell{k:Nat}{h:VH}{ns:List Int}{j:Int}(hj:0<=j):∃r,run F (k+1) 2 [.fz (ns.map .int),.int j] h=.ok (.int r) h/\0<=r:=by
 rw[zam C.f2 rfl]
 cases ns with
 |nil=>
  refine⟨7*j+3,?_,by omega⟩
  simp[fn2,exs,ev,biW,lenW,seqW,cmpW,zar,opW,opI,zd1,zan]
 |cons n0 ns0=>
  have hl:(0:Int)< ((n0::ns0).length:Int):=by simp only[vah];omega
  have hm1:=Int.emod_nonneg j (show((n0::ns0).length:Int)≠0 by omega)
  have hm2:=Int.emod_lt_of_pos j hl
  obtain⟨m,hm⟩:=vas hm1
  have hml:m< (n0::ns0).length:=by omega
  have ha:atI (List.map W.int (n0::ns0)) (j % ((n0::ns0).length:Int))=some (.int ((n0::ns0)[m])):=by
   rw[hm]
   exact zbc (by rw[List.getElem?_map,vay hml];rfl)
  have hb:¬(((ns0.length:Int)+1)=0):=by omega
  have hp:(0:Int)< (ns0.length:Int)+1:=by omega
  refine⟨(((n0::ns0)[m]).natAbs:Int),?_,by omega⟩
  simp only[vah,Int.natCast_add,Int.cast_ofNat_Int,vam]at ha
  simp[fn2,exs,ev,biW,lenW,seqW,cmpW,zar,opW,opI,zan,idxW,absW,hb,hp,ha,zdj]
theorem mixed{k:Nat}{h:VH}{ns:List Int}{j m:Int}(hj:0<=j)(hj2:j<=1000000000)(hm:0<m):∃r,run F (k+2) 4 [.fz (ns.map .int),.int j,.int m] h=.ok (.int r) h/\0<=r/\r<m:=by
 rw[zam C.f4 rfl]
 obtain⟨c,e1,hc⟩:=cell C (k:=k) (h:=⟨h.n,h.n,h.os⟩) (ns:=ns) hj
 have h1:=Int.emod_nonneg c (show(1000003:Int)≠0 by decide)
 have h2:=Int.emod_lt_of_pos c (show(0:Int)<1000003 by decide)
 generalize hx:c % 1000003=x at h1 h2
 have s1:zbo (x+5)=true:=zd1 (by omega) (by omega)
 have s2:zbo 7919=true:=zd1 (by omega) (by omega)
 have hb:(x+5)* (j+2)<=1000008*1000000002:=Int.mul_le_mul (by omega) (by omega) (by omega) (by omega)
 have hb0:0<=(x+5)* (j+2):=Int.mul_nonneg (by omega) (by omega)
 generalize hy:(x+5)* (j+2)=y at hb hb0
 have hn:(y+7919*j).natAbs<2 ^ 64:=by omega
 refine⟨(y+7919*j) ^ 5 % 2147483647/13 % m,?_,Int.emod_nonneg _ (by omega),Int.emod_lt_of_pos _ hm⟩
 have hn':(y+7919*j).natAbs<18446744073709551616:=by omega
 simp[fn4,exs,ev,e1,opW,opI,hx,s1,s2,hy,hn',hm,zan]
theorem zhv{k:Nat}{d c:Nat}{m q:Int}{ns:List Int}(hdc:d≠c)(hm:0<m)(hm2:m<1073741824):∀(n f:Nat) (g:VH) (x:Option W) (cells:List Int) (p:Int),n<f->(cells.length:Int)-p<=n->0<=p->(∀y∈cells,(0:Int)<=y)->
 g.get d=some (.lst [.fz (ns.map .int),.ref c,.int p,.int q])->g.get c=some (.lst (cells.map .int))->
 ∃(g':VH) (cells':List Int) (p':Int),0<=p'/\(∀y∈cells',(0:Int)<=y)/\cells'.length=cells.length/\g'.get d=some (.lst [.fz (ns.map .int),.ref c,.int p',.int q])/\g'.get c=some (.lst (cells'.map .int))/\g'.n=g.n/\(∀i,i≠d->i≠c->g'.get i=g.get i)/\
  ((∃r,whlG (ev (run F (k+2)) zhr) (exs (run F (k+2)) zeo) f [some (.ref d),some (.int m),x] g=.ok (.rt (.int r)) g'/\0<=r/\r<m)\/∃y,whlG (ev (run F (k+2)) zhr) (exs (run F (k+2)) zeo) f [some (.ref d),some (.int m),x] g=.ok (.nx [some (.ref d),some (.int m),y]) g')
 |n,0,g,x,cells,p,hf,_,_,_,_,_=>by omega
 |n,f+1,g,x,cells,p,hf,hn,hp,hnn,gd,gc=>by
  have ec:ev (run F (k+2)) zhr [some (.ref d),some (.int m),x] g=.ok (.bl (decide (p<cells.length))) g:=by
   simp[zhr,ev,idxW,gd,atI,ixN,biW,lenW,seqW,gc,cmpW,cmpI]
  by_cases hlt:p<cells.length
  .obtain⟨pn,rfl⟩:=vas hp
   have hpl:pn<cells.length:=by omega
   have hat:atI (cells.map W.int) (pn:Int)=some (.int cells[pn]):=zbc (by rw[List.getElem?_map,vay hpl];rfl)
   by_cases hpos:0<cells[pn]
   .refine⟨g.set c (.lst ((cells.set pn (cells[pn]/m)).map .int)),cells.set pn (cells[pn]/m),pn,hp,?_,by simp,?_,zau gc,rfl,λi _ hi=>zag gc hi,.inl ⟨cells[pn] % m,?_,Int.emod_nonneg _ (by omega),Int.emod_lt_of_pos _ hm⟩⟩
    .intro y hy
     rcases List.mem_or_eq_of_mem_set hy with hy|rfl
     .exact hnn y hy
     .exact Int.ediv_nonneg (by omega) (by omega)
    .rw[zag gc hdc];exact gd
    .have hix:ixN (cells.map W.int).length (pn:Int)=some pn:=by
      unfold ixN
      rw[if_pos (by omega),if_pos (by rw[vaf];omega)];simp
     have eb:exs (run F (k+2)) zeo [some (.ref d),some (.int m),x] g=.ok (.rt (.int (cells[pn] % m))) (g.set c (.lst ((cells.set pn (cells[pn]/m)).map .int))):=by
      have h2:atI [W.fz (ns.map .int),.ref c,.int pn,.int q] 2=some (.int pn):=rfl
      have h1:atI [W.fz (ns.map .int),.ref c,.int pn,.int q] 1=some (.ref c):=rfl
      simp[zeo,exs,ev,idxW,gd,h1,h2,gc,hat,cmpW,cmpI,hpos,opW,opI,hm,hm2]at hix ⊢
      simp[hix,hm,List.map_set]
     simp[whlG,ec,hlt,eb]
   .have gs:(g.set d (.lst [.fz (ns.map .int),.ref c,.int ((pn:Int)+1),.int q])).get c=some (.lst (cells.map .int)):=by rw[zag gd (Ne.symm hdc)];exact gc
    cases n with
    |zero=>omega
    |succ n=>
     obtain⟨g',cells',p',a1,a2,a3,a4,a5,a6,a7,a8⟩:=zhv (k:=k) hdc hm hm2 n f (g.set d (.lst [.fz (ns.map .int),.ref c,.int ((pn:Int)+1),.int q])) (some (.int cells[pn])) cells (pn+1) (by omega) (by omega) (by omega) hnn (zau gd) gs
     have eb:exs (run F (k+2)) zeo [some (.ref d),some (.int m),x] g=.ok (.nx [some (.ref d),some (.int m),some (.int cells[pn])]) (g.set d (.lst [.fz (ns.map .int),.ref c,.int ((pn:Int)+1),.int q])):=by
      have h2:atI [W.fz (ns.map .int),.ref c,.int pn,.int q] 2=some (.int pn):=rfl
      have h1:atI [W.fz (ns.map .int),.ref c,.int pn,.int q] 1=some (.ref c):=rfl
      have h3:ixN 4 2=some 2:=rfl
      simp[zeo,exs,ev,idxW,gd,h1,h2,h3,gc,hat,cmpW,cmpI,hpos,opW,opI]
     refine⟨g',cells',p',a1,a2,a3,a4,a5,a6,λi h1 h2=>by rw[a7 i h1 h2,zag gd h1],?_⟩
     rcases a8 with⟨r,e,h3⟩|⟨y,e⟩
     .exact .inl ⟨r,by simp[whlG,ec,hlt,eb,e],h3⟩
     .exact .inr ⟨y,by simp[whlG,ec,hlt,eb,e]⟩
  .exact⟨g,cells,p,hp,hnn,rfl,gd,gc,rfl,λ_ _ _=>rfl,.inr ⟨x,by simp[whlG,ec,hlt]⟩⟩
omit C in
theorem zeq{h h':VH}{w:W}(g:Grow ⟨h.n,h.n,h.os⟩ h'):∃h2,leave h w h'=.ok w h2/\h.n<=h2.n/\∀i,i<h.n->h2.get i=h'.get i:=by
 unfold leave
 split
 .rename_i q
  rw[vab]at q
  have hlo:=va1 q.1
  exact⟨h,rfl,vae _,λi hi=>by
   rw[g.2.2 i hi (vai hi hlo)]
   exact get_lo.symm⟩
 .exact⟨_,rfl,g.1,λi hi=>get_lo⟩
theorem take{k:Nat}{h:VH}{d c b:Nat}{m:Int}(D:Dk h d c b)(hb:b<1000000000)(hm:0<m)(hm2:m<1073741824):∃r h',run F (k+3) 5 [.ref d,.int m] h=.ok (.int r) h'/\0<=r/\r<m/\Dk h' d c (b+1)/\Keep h h' d c:=by
 rw[zam C.f5 rfl]
 obtain⟨hne,ns,cells,p,q,gd,gc,hnn,hp,hq,hqb,hl⟩:=D
 have gd0:VH.get ⟨h.n,h.n,h.os⟩ d=some (.lst [.fz (ns.map .int),.ref c,.int p,.int q]):=by rw[get_lo];exact gd
 have gc0:VH.get ⟨h.n,h.n,h.os⟩ c=some (.lst (cells.map .int)):=by rw[get_lo];exact gc
 obtain⟨g',cells',p',a1,a2,a3,a4,a5,a6,a7,a8⟩:=zhv C (k:=k) hne hm hm2 63 fuel ⟨h.n,h.n,h.os⟩ none cells p (by decide) (by omega) hp hnn gd0 gc0
 have key:∀(g2:VH)(r:Int)(cells2:List Int)(p2 q2:Int),exs (run F (k+2)) fn5.body [some (.ref d),some (.int m),none] ⟨h.n,h.n,h.os⟩=.ok (.rt (.int r)) g2->0<=r->r<m->0<=p2->0<=q2->q2<=b+1->cells2.length<=63->(∀y∈cells2,(0:Int)<=y)->
  g2.get d=some (.lst [.fz (ns.map .int),.ref c,.int p2,.int q2])->g2.get c=some (.lst (cells2.map .int))->(∀i,i<h.n->i≠d->i≠c->g2.get i=h.get i)->
  ∃r h',fin h (exs (run F (k+2)) fn5.body ([W.ref d,W.int m].map some++List.replicate (fn5.n-fn5.ps) none) ⟨h.n,h.n,h.os⟩)=.ok (.int r) h'/\0<=r/\r<m/\Dk h' d c (b+1)/\Keep h h' d c:=by
  intro g2 r cells2 p2 q2 e r1 r2 b1 b2 b3 b4 b5 b6 b7 b8
  obtain⟨h2,e2,hn2,hg2⟩:=zeq (w:=.int r) (zfe (zff F (k+2)) _ _ _ _ _ e)
  refine⟨r,h2,?_,r1,r2,⟨hne,ns,cells2,p2,q2,?_,?_,b5,b1,b2,by omega,b4⟩,⟨hn2,λi o h1 h3 e3=>?_⟩⟩
  .show fin h (exs (run F (k+2)) fn5.body [some (.ref d),some (.int m),none] ⟨h.n,h.n,h.os⟩)=_
   rw[e]
   exact e2
  .rw[hg2 d (zaj gd)];exact b6
  .rw[hg2 c (zaj gc)];exact b7
  .rw[hg2 i (zaj e3),b8 i (zaj e3) h1 h3];exact e3
 rcases a8 with⟨r,e,r1,r2⟩|⟨y,e⟩
 .refine key g' r cells' p' q ?_ r1 r2 a1 hq (by omega) (by omega) a2 a4 a5 λi hi h1 h2=>by rw[a7 i h1 h2,get_lo]
  simp[fn5,exs,e]
 .obtain⟨r,e2,r1,r2⟩:=mixed C (k:=k) (h:=g'.set d (.lst [.fz (ns.map .int),.ref c,.int p',.int (q+1)])) (ns:=ns) (j:=q+1) (m:=m) (by omega) (by omega) hm
  refine key (g'.set d (.lst [.fz (ns.map .int),.ref c,.int p',.int (q+1)])) r cells' p' (q+1) ?_ r1 r2 a1 (by omega) (by omega) (by omega) a2 (zau a4) (by rw[zag a4 (Ne.symm hne)];exact a5) λi hi h1 h2=>by rw[zag a4 h1,a7 i h1 h2,get_lo]
  have h3:atI [W.fz (ns.map .int),.ref c,.int p',.int q] 3=some (.int q):=rfl
  have h30:atI [W.fz (ns.map .int),.ref c,.int p',.int (q+1)] 3=some (.int (q+1)):=rfl
  have h00:atI [W.fz (ns.map .int),.ref c,.int p',.int (q+1)] 0=some (.fz (ns.map .int)):=rfl
  have h33:ixN 4 3=some 3:=rfl
  have hs:=zau (o:=.lst [.fz (ns.map .int),.ref c,.int p',.int (q+1)]) a4
  simp[fn5,exs,e,ev,idxW,a4,h3,opW,opI,h33,hs,h30,h00,e2]
end
theorem zaa{cl:Call}{a b:S}{ρ ρ':En}{h h':VH}(e:exs cl a ρ h=.ok (.nx ρ') h'):exs cl (.seq a b) ρ h=exs cl b ρ' h':=by
 simp only[exs,e,bindok]
theorem zaf{cl:Call}{a b:S}{ρ:En}{w:W}{h h':VH}(e:exs cl a ρ h=.ok (.rt w) h'):exs cl (.seq a b) ρ h=.ok (.rt w) h':=by
 simp only[exs,e,bindok]
@[simp] theorem exs_skip {cl:Call} {ρ:En} {h:VH}:exs cl .skip ρ h=.ok (.nx ρ) h:=rfl
theorem Dk.new{h:VH}{d c b:Nat}{o:VO}(D:Dk h d c b):Dk (h.new o) d c b:=by
 obtain⟨ne,ns,cells,p,q,a1,a2,a3⟩:=D
 exact⟨ne,ns,cells,p,q,by rw[zad (zaj a1)];exact a1,by rw[zad (zaj a2)];exact a2,a3⟩
theorem Keep.new{h h':VH}{d c:Nat}{o:VO}(K:Keep h h' d c):Keep h (h'.new o) d c:=⟨Nat.le_succ_of_le K.le,λi o' h1 h2 e=>by
 have:=K.get i o' h1 h2 e
 rw[zad (zaj this)];exact this⟩
theorem Dk.lo{h:VH}{d c b l:Nat}(D:Dk h d c b):Dk ⟨h.n,l,h.os⟩ d c b:=by
 obtain⟨ne,ns,cells,p,q,a1,a2,a3⟩:=D
 exact⟨ne,ns,cells,p,q,by rw[get_lo];exact a1,by rw[get_lo];exact a2,a3⟩
theorem zbm{cl:Call}{h h':VH}{d c b:Nat}{w:W}{fl:Fl}{body:S}{ρ:En}{F:Nat->Option Fn}{k:Nat}(e:exs (run F k) body ρ ⟨h.n,h.n,h.os⟩=.ok (.rt w) h')(D0:Dk h d c 0\/∃b,Dk h d c b)(D:Dk h' d c b)(K:Keep ⟨h.n,h.n,h.os⟩ h' d c) :
 ∃h2,fin h (exs (run F k) body ρ ⟨h.n,h.n,h.os⟩)=.ok w h2/\Dk h2 d c b/\Keep h h2 d c:=by
 obtain⟨h2,e2,hn2,hg2⟩:=zeq (w:=w) (zfe (zff F k) _ _ _ _ _ e)
 have hd:d<h.n/\c<h.n:=by
  rcases D0 with⟨_,ns,cells,p,q,a1,a2,_⟩|⟨b,_,ns,cells,p,q,a1,a2,_⟩<;>exact⟨zaj a1,zaj a2⟩
 refine⟨h2,by rw[e];exact e2,?_,⟨hn2,λi o h1 h3 e3=>?_⟩⟩
 .obtain⟨ne,ns,cells,p,q,a1,a2,a3⟩:=D
  exact⟨ne,ns,cells,p,q,by rw[hg2 d hd.1];exact a1,by rw[hg2 c hd.2];exact a2,a3⟩
 .rw[hg2 i (zaj e3)]
  exact K.get i o h1 h3 (by rw[get_lo];exact e3)
noncomputable abbrev sDot:Str:=Str.ofString "."
noncomputable abbrev sLt:Str:=Str.ofString "<"
noncomputable abbrev sGt:Str:=Str.ofString ">"
noncomputable abbrev sX:Str:=Str.ofString "x"
noncomputable abbrev sS:Str:=Str.ofString "s"
theorem ziu{c wd g:Int}:zai (.str sDot) c wd g=true:=rfl
theorem may_s{c wd g:Int}:zai (.str sS) c wd g=true:=rfl
theorem zqc{c wd g:Int}(h:0<c):zai (.str sLt) c wd g=true:=by
 have:zai (.str sLt) c wd g=decide (0<c):=rfl
 rw[this];simpa using h
theorem zqd{c wd g:Int}(h:c<wd-1):zai (.str sGt) c wd g=true:=by
 have:zai (.str sGt) c wd g=decide (c<wd-1):=rfl
 rw[this];simpa using h
theorem may_x{c wd g:Int}(h:0<c)(h2:c<wd-1):zai (.str sX) c wd g=true:=by
 have:zai (.str sX) c wd g=(decide (0<c)&&decide (c<wd-1)):=rfl
 rw[this];simp[h,h2]
theorem zwu{c wd g a b:Int}(a0:0<=a)(a1:a<g)(b0:0<=b)(b1:b<2)(h:0<c)(h2:c<wd-1):zai (.tup [.int a,.int b]) c wd g=true:=by
 have h3:zbp (.tup [.int a,.int b]) g=true:=by
  simp only[zbp,within,vab,vaw]
  omega
 unfold zai
 rw[h3,Bool.or_true,if_pos rfl]
 simp[h,h2]
inductive Raw(g:Int):W->Prop
 |dot:Raw g (.str sDot)
 |lt:Raw g (.str sLt)
 |gt:Raw g (.str sGt)
 |x:Raw g (.str sX)
 |rk {a b:Int}:0<=a->a<g->0<=b->b<2->Raw g (.tup [.int a,.int b])
theorem za7{h:VH}{x y z:Str}(hx:PyData.strOk x=true)(hy:PyData.strOk y=true)(hz:PyData.strOk z=true):inW h (.str x) (.tup [.str y,.str z])=some (y==x||z==x):=by
 have sx:SeqAt.shaped (.str x)=true:=by unfold SeqAt.shaped;show(PyData.strOk x&&_)=true;rw[hx];rfl
 have sy:SeqAt.shaped (.str y)=true:=by unfold SeqAt.shaped;show(PyData.strOk y&&_)=true;rw[hy];rfl
 have sz:SeqAt.shaped (.str z)=true:=by unfold SeqAt.shaped;show(PyData.strOk z&&_)=true;rw[hz];rfl
 simp[inW,seqW,toD,mapO,sx,sy,sz,anyEq,PyData.eqv]
theorem zgs{h:VH}{a b:Int}{y z:Str}(hy:PyData.strOk y=true)(hz:PyData.strOk z=true):inW h (.tup [.int a,.int b]) (.tup [.str y,.str z])=some false:=by
 have sy:SeqAt.shaped (.str y)=true:=by unfold SeqAt.shaped;show(PyData.strOk y&&_)=true;rw[hy];rfl
 have sz:SeqAt.shaped (.str z)=true:=by unfold SeqAt.shaped;show(PyData.strOk z&&_)=true;rw[hz];rfl
 have st:SeqAt.shaped (.tuple [.int a,.int b])=true:=rfl
 simp[inW,seqW,toD,mapO,sy,sz,st,anyEq,PyData.eqv]
noncomputable def pCond:E:=(.or (.and (.cmp .eq (.var 1) (.cst (.int (0)))) (.cmp .nin (.var 5) (.tup (.cons (.cst (.str sDot)) (.cons (.cst (.str sGt)) .nil))))) (.and (.cmp .eq (.var 1) (.op .sub (.var 2) (.cst (.int (1))))) (.cmp .nin (.var 5) (.tup (.cons (.cst (.str sDot)) (.cons (.cst (.str sLt)) .nil))))))
noncomputable def pIdx:E:=(.idx (.lst (.cons (.cst (.str sGt)) (.cons (.cst (.str sLt)) (.cons (.cst (.str sDot)) .nil)))) (.bi .min (.cons (.op .add (.bi .int (.cons (.cmp .gt (.var 1) (.cst (.int (0)))) .nil)) (.op .mul (.cst (.int (2))) (.bi .int (.cons (.cmp .eq (.var 2) (.cst (.int (1)))) .nil)))) (.cons (.cst (.int (2))) .nil))))
noncomputable def allF(P:Int->W->Prop):Int->List W->Prop
 |_,[]=>True
 |a,w::r=>P a w/\allF P (a+1) r
theorem zcc{P:W->Prop}:∀{ws:List W} {a:Int},allF (λ_ w=>P w) a ws->∀w∈ws,P w
 |[],_,_,w,h=>by cases h
 |x::r,a,⟨h1,h2⟩,w,h=>by
  rcases va2.mp h with rfl|h
  .exact h1
  .exact zcc h2 w h
theorem zcl{cl:Call}{P:Int->W->Prop}{e:E}{tl:En}{d c m lim:Nat}(hs:∀(i:Int) (h:VH) (b:Nat),0<=i->i<lim->Dk h d c b->b+m<1000000000->∃w h',ev cl e (some (.int i)::tl) h=.ok w h'/\P i w/\Dk h' d c (b+m)/\Keep h h' d c) :
 ∀(n:Nat)(a:Int)(x:Option W)(h:VH)(b:Nat),0<=a->a+n<=lim->Dk h d c b->b+m*n<1000000000->
  ∃ws h',lcL (tgW (.one 0)) (λ_ h=>.ok (.bl true) h) (ev cl e) (zay a n) (x::tl) h=.ok ws h'/\allF P a ws/\ws.length=n/\Dk h' d c (b+m*n)/\Keep h h' d c
 |0,a,x,h,b,_,_,D,_=>⟨[],h,rfl,trivial,rfl,by simpa using D,.refl⟩
 |n+1,a,x,h,b,ha,hl,D,hb=>by
  have e1:m* (n+1)=m*n+m:=Nat.mul_succ m n
  obtain⟨w,h1,e2,p1,D1,K1⟩:=hs a h b ha (by omega) D (by omega)
  obtain⟨ws,h2,e3,p2,l2,D2,K2⟩:=zcl hs n (a+1) (some (.int a)) h1 (b+m) (by omega) (by omega) D1 (by omega)
  refine⟨w::ws,h2,?_,⟨p1,p2⟩,by rw[vah,l2],D2.mono (by omega),K1.trans K2⟩
  simp only[zay,lcL,tgW,List.set,ev,bindok,e2,e3]
theorem zbu{n:Nat}(h:n<=1000000):Nat.ble n big=true:=Nat.ble_eq.mpr (Nat.le_trans h (by decide))
theorem zqe{cl:Call}{a:E}{ρ:En}{h h1 h2:VH}{n ow:Nat}{ix:List Nat}{e:E}{ys:List W}(ea:ev cl a ρ h=.ok (.tup [.int n]) h1)(hn:n<1000000)(el:lcL (tgW (.one 0)) (λ_ h=>.ok (.bl true) h) (ev cl e) (zay 0 n) (inner ow ix ρ) h1=.ok ys h2)(hy:ys.length<=1000000) :
 ev cl (.lc .rng1 a (.one 0) ow ix (.cst (.bl true)) e) ρ h=.ok (.ref h2.n) (h2.new (.lst ys)):=by
 have l:=zwt (n:=n) (tg:=tgW (.one 0)) (c:=λ_ h=>.ok (.bl true) h) (e:=ev cl e) (ρ:=inner ow ix ρ) (h:=h1) hn
 rw[el]at l
 have q:ev cl (.lc .rng1 a (.one 0) ow ix (.cst (.bl true)) e) ρ h=(ev cl a ρ h).bind λx h=>(lcG (nxt .rng1 x) (tgW (.one 0)) (ev cl (.cst (.bl true))) (ev cl e) fuel 0 (inner ow ix ρ) h []).bind λys h=>if Nat.ble ys.length big then .ok (.ref h.n) (h.new (.lst ys))else .no:=by rw[ev]
 rw[q,ea,bindok]
 show(lcG (nxt .rng1 (.tup [.int n])) (tgW (.one 0)) (λ_ h=>.ok (.bl true) h) (ev cl e) fuel 0 (inner ow ix ρ) h1 []).bind _=_
 rw[l,bindok,if_pos (zbu hy)]
theorem zj2{cl:Call}{x:E}{ρ:En}{h h1:VH}{i:Nat}{ys:List W}(e:ev cl x ρ h=.ok (.ref i) h1)(g:h1.get i=some (.lst ys)):ev cl (.bi .tuple (.cons x .nil)) ρ h=.ok (.tup ys) h1:=by
 simp only[ev,e,bindok,biW,zee,seqW,g,vat,ofsome]
theorem zhw{cl:Call}{a:E}{ρ:En}{h h1 h2:VH}{n ow:Nat}{ix:List Nat}{e:E}{ys:List W}(ea:ev cl a ρ h=.ok (.tup [.int n]) h1)(hn:n<1000000)(el:lcL (tgW (.one 0)) (λ_ h=>.ok (.bl true) h) (ev cl e) (zay 0 n) (inner ow ix ρ) h1=.ok ys h2)(hy:ys.length<=1000000) :
 ev cl (.bi .tuple (.cons (.lc .rng1 a (.one 0) ow ix (.cst (.bl true)) e) .nil)) ρ h=.ok (.tup ys) (h2.new (.lst ys)):=zj2 (zqe ea hn el hy) zao
theorem zfx{wd g:Int}:∀{ws:List W} {c:Int},allF (λi w=>zai w i wd g=true) c ws->rowOk wd g c ws
 |[],_,_=>trivial
 |_::_,_,⟨h1,h2⟩=>⟨h1,zfx h2⟩
structure Gw(h h':VH):Prop where
 le:h.n<=h'.n
 lo:h'.lo=h.lo
 get:∀i o,h.get i=some o->h'.get i=some o
theorem zm7{n:Nat}(h:n<=1000000):Nat.blt n big=true:=zal.mpr (Nat.lt_of_le_of_lt h (by decide))
theorem zsn{cl:Call}{a:E}{ρ:En}{h h1 h2:VH}{ow:Nat}{ix:List Nat}{e:E}{t:Tg}{ws ys:List W}(ea:ev cl a ρ h=.ok (.tup ws) h1)(hn:ws.length<1000000)(el:lcL (tgW t) (λ_ h=>.ok (.bl true) h) (ev cl e) ws (inner ow ix ρ) h1=.ok ys h2)(hy:ys.length<=1000000) :
 ev cl (.lc .seq a t ow ix (.cst (.bl true)) e) ρ h=.ok (.ref h2.n) (h2.new (.lst ys)):=by
 have l:=zws (ws:=ws) (tg:=tgW t) (c:=λ_ h=>.ok (.bl true) h) (e:=ev cl e) (ρ:=inner ow ix ρ) (h:=h1) hn
 rw[el]at l
 have q:ev cl (.lc .seq a t ow ix (.cst (.bl true)) e) ρ h=(ev cl a ρ h).bind λx h=>(lcG (nxt .seq x) (tgW t) (ev cl (.cst (.bl true))) (ev cl e) fuel 0 (inner ow ix ρ) h []).bind λys h=>if Nat.ble ys.length big then .ok (.ref h.n) (h.new (.lst ys))else .no:=by rw[ev]
 rw[q,ea,bindok]
 show(lcG (nxt .seq (.tup ws)) (tgW t) (λ_ h=>.ok (.bl true) h) (ev cl e) fuel 0 (inner ow ix ρ) h1 []).bind _=_
 rw[l,bindok,if_pos (zbu hy)]
theorem zso{cl:Call}{a:E}{ρ:En}{h h1 h2:VH}{ow:Nat}{ix:List Nat}{e:E}{t:Tg}{ws ys:List W}(ea:ev cl a ρ h=.ok (.tup ws) h1)(hn:ws.length<1000000)(el:lcL (tgW t) (λ_ h=>.ok (.bl true) h) (ev cl e) ws (inner ow ix ρ) h1=.ok ys h2)(hy:ys.length<=1000000) :
 ev cl (.bi .tuple (.cons (.lc .seq a t ow ix (.cst (.bl true)) e) .nil)) ρ h=.ok (.tup ys) (h2.new (.lst ys)):=zj2 (zsn ea hn el hy) zao
theorem zbq{cl:Call}{i l:Nat}{x:E}{ρ:En}{h h1:VH}{w:W}{acc acc0:List W}(hρ:ρ[i]?=some (some (.ref l)))(g0:h.get l=some (.lst acc0))(e:ev cl x ρ h=.ok w h1)(g:h1.get l=some (.lst acc))(hl:acc.length<=1000000) :
 ev cl (.mt .append (.var i) (.cons x .nil)) ρ h=.ok .non (h1.set l (.lst (acc++[w]))):=by
 have hk:zhg .append h (.ref l)=true:=by simp only[zhg,g0]
 have hm:mtW .append (.ref l) [w] h1=.ok .non (h1.set l (.lst (acc++[w]))):=by
  simp only[mtW,g]
  rw[if_pos (zm7 hl)]
 simp only[ev,hρ,Option.join_some,ofsome,bindok,hk,if_true,e,hm]
theorem ziv{w:W}{g:Int}(h:zbp w g=true):∃a b:Int,w=.tup [.int a,.int b]/\0<=a/\a<g/\0<=b/\b<2:=by
 cases w<;>simp only[zbp]at h<;>try(cases h;done)
 rename_i us
 rcases us with _|⟨a,_|⟨b,_|_⟩⟩<;>simp at h
 obtain⟨h1,h2⟩:=h
 cases a<;>simp[within]at h1
 cases b<;>simp[within]at h2
 exact⟨_,_,rfl,by omega,by omega,by omega,by omega⟩
theorem zhx{w:W}{n:Int}(h:door w n=true):∃(a:Int) (b:W),w=.tup [.int a,b]/\0<=a/\a<=99/\(b=.non\/∃i:Int,b=.int i/\0<=i/\i<n):=by
 cases w<;>simp only[door]at h<;>try(cases h;done)
 rename_i us
 rcases us with _|⟨a,_|⟨b,_|_⟩⟩<;>simp at h
 obtain⟨h1,h2⟩:=h
 cases a<;>simp[within]at h1
 unfold fon at h2
 cases b<;>simp[within,isNon]at h2
 .exact⟨_,_,rfl,h1.1,h1.2,.inl rfl⟩
 .exact⟨_,_,rfl,h1.1,h1.2,.inr ⟨_,rfl,by omega,by omega⟩⟩
noncomputable def fn17:Fn:=⟨2,2,(.seq (.ret (.call 7 (.cons (.var 0) (.cons (.var 1) (.cons (.var 1) (.cons (.cst (.int (0))) (.cons (.cst (.int (1))) .nil))))))) .skip)⟩
noncomputable def zgt:E:=(.call 5 (.cons (.var 1) (.cons (.cst (.int (2))) .nil)))
noncomputable def fn20:Fn:=⟨2,2,(.seq (.ret (.bi .tuple (.cons (.lc .rng1 (.cons (.var 1) .nil) (.one 0) 1 [0] (.cst (.bl true)) zgt) .nil))) .skip)⟩
noncomputable def fn22:Fn:=⟨2,2,(.seq (.expr (.call 14 (.cons (.var 0) .nil))) (.seq (.ret (.call 17 (.cons (.var 1) (.cons (.idx (.var 0) (.cst (.int (1)))) .nil)))) .skip))⟩
noncomputable def fn24:Fn:=⟨2,2,(.seq (.ite (.not (.tru (.call 22 (.cons (.var 0) (.cons (.var 1) .nil))))) (.seq .no .skip) .skip) .skip)⟩
noncomputable def fn28:Fn:=⟨3,3,(.seq (.ret (.call 7 (.cons (.var 0) (.cons (.cst (.int (0))) (.cons (.var 2) (.cons (.cst (.int (0))) (.cons (.op .sub (.var 1) (.cst (.int (1)))) .nil))))))) .skip)⟩
noncomputable def fn103:Fn:=⟨4,6,(.seq (.set 4 (.call 5 (.cons (.var 0) (.cons (.cst (.int (10))) .nil)))) (.seq (.set 5 (.idx (.lst (.cons (.cst (.str (PySem.Str.ofString "."))) (.cons (.cst (.str (PySem.Str.ofString "<"))) (.cons (.cst (.str (PySem.Str.ofString ">"))) (.cons (.cst (.str (PySem.Str.ofString "x"))) (.cons (.cst (.str (PySem.Str.ofString "."))) (.cons (.cst (.str (PySem.Str.ofString "."))) .nil))))))) (.bi .min (.cons (.var 4) (.cons (.cst (.int (5))) .nil))))) (.seq (.ite (.and (.cmp .gt (.var 4) (.cst (.int (4)))) (.cmp .gt (.var 3) (.cst (.int (0))))) (.seq (.set 5 (.tup (.cons (.call 5 (.cons (.var 0) (.cons (.var 3) .nil))) (.cons (.call 5 (.cons (.var 0) (.cons (.cst (.int (2))) .nil))) .nil)))) .skip) .skip) (.seq (.ite (.and (.cmp .eq (.var 4) (.cst (.int (4)))) (.cmp .eq (.call 5 (.cons (.var 0) (.cons (.cst (.int (4))) .nil))) (.cst (.int (0))))) (.seq (.ret (.cst (.str (PySem.Str.ofString "s")))) .skip) .skip) (.seq (.ite (.or (.and (.cmp .eq (.var 1) (.cst (.int (0)))) (.cmp .nin (.var 5) (.tup (.cons (.cst (.str (PySem.Str.ofString "."))) (.cons (.cst (.str (PySem.Str.ofString ">"))) .nil))))) (.and (.cmp .eq (.var 1) (.op .sub (.var 2) (.cst (.int (1))))) (.cmp .nin (.var 5) (.tup (.cons (.cst (.str (PySem.Str.ofString "."))) (.cons (.cst (.str (PySem.Str.ofString "<"))) .nil)))))) (.seq (.ret (.idx (.lst (.cons (.cst (.str (PySem.Str.ofString ">"))) (.cons (.cst (.str (PySem.Str.ofString "<"))) (.cons (.cst (.str (PySem.Str.ofString "."))) .nil)))) (.bi .min (.cons (.op .add (.bi .int (.cons (.cmp .gt (.var 1) (.cst (.int (0)))) .nil)) (.op .mul (.cst (.int (2))) (.bi .int (.cons (.cmp .eq (.var 2) (.cst (.int (1)))) .nil)))) (.cons (.cst (.int (2))) .nil))))) .skip) .skip) (.seq (.ite (.and (.cmp .eq (.var 2) (.cst (.int (1)))) (.cmp .ne (.var 5) (.cst (.str (PySem.Str.ofString "."))))) (.seq (.ret (.cst (.str (PySem.Str.ofString ".")))) .skip) .skip) (.seq (.ret (.var 5)) .skip)))))))⟩
noncomputable def zd2:E:=(.call 103 (.cons (.var 1) (.cons (.var 0) (.cons (.var 3) (.cons (.var 2) .nil)))))
noncomputable def fn104:Fn:=⟨3,3,(.seq (.ret (.bi .tuple (.cons (.lc .rng1 (.cons (.var 1) .nil) (.one 0) 1 [0,2,1] (.cst (.bl true)) zd2) .nil))) .skip)⟩
noncomputable def zj3:E:=(.call 104 (.cons (.var 1) (.cons (.var 3) (.cons (.var 2) .nil))))
noncomputable def zj4:E:=(.call 5 (.cons (.var 1) (.cons (.var 2) .nil)))
noncomputable def zj5:E:=(.call 23 (.cons (.var 1) (.cons (.bi .len (.cons (.var 2) .nil)) .nil)))
noncomputable def fn129:Fn:=⟨4,9,(.seq (.set 4 (.op .add (.cst (.int (1))) (.call 5 (.cons (.var 0) (.cons (.var 1) .nil))))) (.seq (.set 5 (.call 5 (.cons (.var 0) (.cons (.op .add (.var 3) (.cst (.int (1)))) .nil)))) (.seq (.set 6 (.lc .rng1 (.cons (.call 5 (.cons (.var 0) (.cons (.op .add (.var 2) (.cst (.int (1)))) .nil))) .nil) (.one 0) 1 [0,5,4] (.cst (.bl true)) zj3)) (.seq (.set 7 (.bi .tuple (.cons (.lc .rng1 (.cons (.op .add (.cst (.int (1))) (.call 5 (.cons (.var 0) (.cons (.cst (.int (4))) .nil)))) .nil) (.one 0) 1 [0,4] (.cst (.bl true)) zj4) .nil))) (.seq (.set 8 (.bi .tuple (.cons (.lc .rng1 (.cons (.var 4) .nil) (.one 0) 1 [0,7] (.cst (.bl true)) zj5) .nil))) (.seq (.ret (.tup (.cons (.var 4) (.cons (.var 5) (.cons (.bi .tuple (.cons (.var 6) .nil)) (.cons (.var 7) (.cons (.var 8) .nil))))))) .skip))))))⟩
noncomputable def fn173:Fn:=⟨4,7,(.seq (.ite (.tru (.isi .tuple (.var 0))) (.seq (.unp [4,5] (.var 0)) (.seq (.set 6 (.idx (.var 2) (.var 4))) (.seq (.ite (.cmp .ne (.var 4) (.var 3)) (.seq (.put (.var 2) (.var 4) (.op .sub (.cst (.int (1))) (.var 6))) .skip) .skip) (.seq (.ret (.ite (.cmp .eq (.var 6) (.var 5)) (.cst (.int (-1))) (.cst (.int (1))))) .skip)))) .skip) (.seq (.ite (.cmp .eq (.var 0) (.cst (.str (PySem.Str.ofString "s")))) (.seq (.ret (.cst .non)) .skip) .skip) (.seq (.ite (.cmp .eq (.var 0) (.cst (.str (PySem.Str.ofString "x")))) (.seq (.ret (.var 1)) .skip) .skip) (.seq (.ite (.cmp .eq (.var 0) (.cst (.str (PySem.Str.ofString ".")))) (.seq (.ret (.cst (.int (0)))) .skip) .skip) (.seq (.ret (.ite (.cmp .eq (.var 0) (.cst (.str (PySem.Str.ofString "<")))) (.cst (.int (-1))) (.cst (.int (1))))) .skip)))))⟩
noncomputable def zc0:S:=(.seq (.set 10 (.idx (.var 9) (.var 4))) (.seq (.set 8 (.call 173 (.cons (.var 10) (.cons (.var 8) (.cons (.var 7) (.cons (.var 3) .nil)))))) (.seq (.ite (.cmp .isn (.var 8) (.cst .non)) (.seq .brk .skip) .skip) (.seq (.ite (.and (.tru (.isi .tuple (.var 10))) (.cmp .ne (.idx (.var 10) (.cst (.int (0)))) (.var 3))) (.seq (.expr (.mt .append (.var 6) (.cons (.idx (.var 10) (.cst (.int (0)))) .nil))) .skip) .skip) (.seq (.aug 4 .add (.var 8)) (.seq (.expr (.mt .append (.var 5) (.cons (.var 4) .nil))) .skip))))))
noncomputable def fn174:Fn:=⟨4,11,(.seq (.set 4 (.idx (.idx (.var 0) (.cst (.int (3)))) (.var 2))) (.seq (.set 5 (.lst (.cons (.var 4) .nil))) (.seq (.set 6 (.lst .nil)) (.seq (.set 7 (.bi .list (.cons (.var 1) .nil))) (.seq (.set 8 (.cst (.int (0)))) (.seq (.«for» .seq (.idx (.var 0) (.cst (.int (2)))) (.one 9) zc0) (.seq (.ret (.tup (.cons (.bi .tuple (.cons (.var 5) .nil)) (.cons (.bi .tuple (.cons (.var 6) .nil)) (.cons (.bi .tuple (.cons (.var 7) .nil)) .nil))))) .skip)))))))⟩
noncomputable def fn175:Fn:=⟨4,8,(.seq (.unp [4,5,6] (.call 174 (.cons (.var 0) (.cons (.var 1) (.cons (.var 2) (.cons (.var 3) .nil)))))) (.seq (.set 7 (.ite (.cmp .gt (.bi .len (.cons (.var 4) .nil)) (.bi .len (.cons (.idx (.var 0) (.cst (.int (2)))) .nil))) (.idx (.var 4) (.neg (.cst (.int (1))))) (.cst .non))) (.seq (.ret (.tup (.cons (.var 7) (.cons (.var 6) .nil)))) .skip)))⟩
noncomputable def fn176:Fn:=⟨4,7,(.seq (.unp [4,5] (.call 175 (.cons (.var 0) (.cons (.var 1) (.cons (.var 2) (.cons (.var 3) .nil)))))) (.seq (.set 6 (.ite (.cmp .isn (.var 4) (.cst .non)) (.cst (.tup [.non,.non])) (.idx (.idx (.var 0) (.cst (.int (4)))) (.var 4)))) (.seq (.ret (.tup (.cons (.var 6) (.cons (.var 5) .nil)))) .skip)))⟩
noncomputable def stepP(w:W)(hd:Int)(ls:List Int):Option (Int×List Int×List Int):=match w with
 |.tup [.int g,.int s]=>some (if ls.getD g.toNat 0=s then -1 else 1,[g],ls.set g.toNat (1-ls.getD g.toNat 0))
 |.str x=>if x==sS then none else if x==sX then some (hd,[],ls)else if x==sDot then some (0,[],ls)else some (if x==sLt then -1 else 1,[],ls)
 |_=>none
noncomputable def colAt(r:List W)(c:Int):W:=(r[c.toNat]?).getD .non
structure Fa where
 cs:List Int
 ts:List Int
 ls:List Int
 st:Bool
noncomputable def lastC:Int->List Int->Int
 |c,[]=>c
 |_,x::r=>lastC x r
noncomputable def Bits(ls:List Int):Prop:=∀x∈ls,x=0\/x=1
theorem zc1{w:W}{c wd g:Int}(h:zai w c wd g=true):(w=.str sX/\0<c/\c<wd-1)\/(w=.str sLt/\0<c)\/(w=.str sGt/\c<wd-1)\/w=.str sDot\/w=.str sS\/∃a b:Nat,w=.tup [.int a,.int b]/\(a:Int)<g/\b<2/\0<c/\c<wd-1:=by
 unfold zai at h
 split at h
 .rename_i q
  rw[vab,vaw,vaw]at h
  rw[Bool.or_eq_true]at q
  rcases q with q|q
  .exact .inl ⟨zfw q,h⟩
  .obtain⟨a,b,rfl,h1,h2,h3,h4⟩:=ziv q
   obtain⟨a,rfl⟩:=vas h1
   obtain⟨b,rfl⟩:=vas h3
   exact .inr (.inr (.inr (.inr (.inr ⟨a,b,rfl,h2,by omega,h⟩))))
 .split at h
  .rename_i q;exact .inr (.inl ⟨zfw q,by simpa using h⟩)
  .split at h
   .rename_i q;exact .inr (.inr (.inl ⟨zfw q,by simpa using h⟩))
   .rw[Bool.or_eq_true]at h
    rcases h with q|q
    .exact .inr (.inr (.inr (.inl (zfw q))))
    .exact .inr (.inr (.inr (.inr (.inl (zfw q)))))
theorem zwv{hd:Int}{ls:List Int}:stepP (.str sX) hd ls=some (hd,[],ls):=rfl
theorem zsp{hd:Int}{ls:List Int}:stepP (.str sLt) hd ls=some (-1,[],ls):=rfl
theorem zsq{hd:Int}{ls:List Int}:stepP (.str sGt) hd ls=some (1,[],ls):=rfl
theorem zpd{hd:Int}{ls:List Int}:stepP (.str sDot) hd ls=some (0,[],ls):=rfl
theorem zww{hd:Int}{ls:List Int}:stepP (.str sS) hd ls=none:=rfl
theorem zm8{hd:Int}{ls:List Int}{a b:Nat}:stepP (.tup [.int a,.int b]) hd ls=some (if ls.getD a 0=b then -1 else 1,[(a:Int)],ls.set a (1-ls.getD a 0)):=rfl
theorem zpe{ls:List Int}(h:Bits ls)(a:Nat):ls.getD a 0=0\/ls.getD a 0=1:=by
 rw[List.getD_eq_getElem?_getD]
 cases q:ls[a]? with
 |none=>exact .inl rfl
 |some x=>exact h x (List.mem_of_getElem? q)
theorem zm9{w:W}{c wd g hd:Int}{ls:List Int}(h:zai w c wd g=true)(c0:0<=c)(c1:c<wd)(h1:-1<=hd)(h2:hd<=1)(b:Bits ls){d:Int}{t l:List Int}(e:stepP w hd ls=some (d,t,l)):-1<=d/\d<=1/\0<=c+d/\c+d<wd/\l.length=ls.length/\Bits l/\t.length<=1:=by
 rcases zc1 h with⟨rfl,h3,h4⟩|⟨rfl,h3⟩|⟨rfl,h3⟩|rfl|rfl|⟨p,q,rfl,h3,h4,h5,h6⟩
 .rw[zwv]at e;cases e;exact⟨h1,h2,by omega,by omega,rfl,b,by simp⟩
 .rw[zsp]at e;cases e;exact⟨by omega,by omega,by omega,by omega,rfl,b,by simp⟩
 .rw[zsq]at e;cases e;exact⟨by omega,by omega,by omega,by omega,rfl,b,by simp⟩
 .rw[zpd]at e;cases e;exact⟨by omega,by omega,by omega,by omega,rfl,b,by simp⟩
 .rw[zww]at e;cases e
 .rw[zm8]at e;cases e
  refine⟨by split<;>omega,by split<;>omega,by split<;>omega,by split<;>omega,by simp,λx hx=>?_,by simp⟩
  rcases List.mem_or_eq_of_mem_set hx with hx|rfl
  .exact b x hx
  .rcases zpe b p with q|q<;>rw[q]<;>omega
noncomputable def zj6(wd g:Int)(rs:List (List W)):Prop:=∀r∈rs,(r.length:Int)=wd/\rowOk wd g 0 r
theorem zj7{wd g:Int}:∀{ws:List W} {c:Int} (i:Nat) {w:W},rowOk wd g c ws->ws[i]?=some w->zai w (c+i) wd g=true
 |[],_,_,_,_,e=>by simp at e
 |x::r,c,0,w,⟨h1,h2⟩,e=>by
  simp at e;subst e;simpa using h1
 |x::r,c,i+1,w,⟨h1,h2⟩,e=>by
  have:=zj7 i h2 (by simpa using e)
  rw[show c+ ((i+1:Nat):Int)=c+1+i by push_cast;omega]
  exact this
theorem zfy{wd g c:Int}{r:List W}(h:(r.length:Int)=wd/\rowOk wd g 0 r)(c0:0<=c)(c1:c<wd):r[c.toNat]?=some (colAt r c)/\zai (colAt r c) c wd g=true:=by
 obtain⟨n,rfl⟩:=vas c0
 have hn:n<r.length:=by omega
 have e:r[n]?=some r[n]:=vay hn
 have e2:colAt r n=r[n]:=by
  unfold colAt
  rw[Int.toNat_natCast,e];rfl
 rw[e2,Int.toNat_natCast]
 refine⟨e,?_⟩
 have:=zj7 n h.2 e
 simpa using this
structure Fa.Ok(q:Fa)(wd:Int)(c:Int)(m n:Nat):Prop where
 l1:q.ls.length=n
 l2:Bits q.ls
 c1:∀x∈q.cs,0<=x/\x<wd
 c2:q.cs.length<=m
 c3:q.st=false->q.cs.length=m
 c5:q.st=true->q.cs.length<m
 c4:0<=lastC c q.cs/\lastC c q.cs<wd
 t1:q.ts.length<=m
noncomputable def st3(h:VH)(gs:List VO)(c t l:List W):VH:=⟨h.n+3+gs.length,h.n,gs++(.lst l :: .lst t :: .lst c::h.os)⟩
theorem st_c{h:VH}{gs:List VO}{c t l:List W}:(st3 h gs c t l).get h.n=some (.lst c):=by
 unfold st3 VH.get
 rw[if_pos (zal.mpr (by show h.n<h.n+3+gs.length;omega))]
 show(gs++(.lst l :: .lst t :: .lst c::h.os))[h.n+3+gs.length-1-h.n]?=_
 rw[List.getElem?_append_right (by omega),show h.n+3+gs.length-1-h.n-gs.length=2 by omega]
 rfl
theorem st_t{h:VH}{gs:List VO}{c t l:List W}:(st3 h gs c t l).get (h.n+1)=some (.lst t):=by
 unfold st3 VH.get
 rw[if_pos (zal.mpr (by show h.n+1<h.n+3+gs.length;omega))]
 show(gs++(.lst l :: .lst t :: .lst c::h.os))[h.n+3+gs.length-1- (h.n+1)]?=_
 rw[List.getElem?_append_right (by omega),show h.n+3+gs.length-1- (h.n+1)-gs.length=1 by omega]
 rfl
theorem st_l{h:VH}{gs:List VO}{c t l:List W}:(st3 h gs c t l).get (h.n+2)=some (.lst l):=by
 unfold st3 VH.get
 rw[if_pos (zal.mpr (by show h.n+2<h.n+3+gs.length;omega))]
 show(gs++(.lst l :: .lst t :: .lst c::h.os))[h.n+3+gs.length-1- (h.n+2)]?=_
 rw[List.getElem?_append_right (by omega),show h.n+3+gs.length-1- (h.n+2)-gs.length=0 by omega]
 rfl
theorem zj8{a b:Nat}(h:b<=a):Nat.blt a b=false:=by
 cases q:Nat.blt a b with
 |false=>rfl
 |true=>have:=zal.mp q;omega
theorem zsr{h:VH}{gs:List VO}{c t l c':List W}:(st3 h gs c t l).set h.n (.lst c')=st3 h gs c' t l:=by
 unfold st3 VH.set
 simp only[zj8 (vae h.n)]
 rw[List.set_append_right _ _ (by omega),show h.n+3+gs.length-1-h.n-gs.length=2 by omega]
 rfl
theorem zss{h:VH}{gs:List VO}{c t l t':List W}:(st3 h gs c t l).set (h.n+1) (.lst t')=st3 h gs c t' l:=by
 unfold st3 VH.set
 simp only[zj8 (Nat.le_succ h.n)]
 rw[List.set_append_right _ _ (by omega),show h.n+3+gs.length-1- (h.n+1)-gs.length=1 by omega]
 rfl
theorem eqS{h:VH}{x y:Str}(hx:PyData.strOk x=true)(hy:PyData.strOk y=true):eqW h (.str x) (.str y)=some (x==y):=by
 rw[zbd (x:=y) (by exact hx) hy];rfl
@[simp] theorem eq_X_X {h:VH}:eqW h (.str sX) (.str (PySem.Str.ofString "x"))=some true:=(eqS (by decide +kernel) (by decide +kernel)).trans (by decide +kernel)
@[simp] theorem eq_X_Lt {h:VH}:eqW h (.str sX) (.str (PySem.Str.ofString "<"))=some false:=(eqS (by decide +kernel) (by decide +kernel)).trans (by decide +kernel)
@[simp] theorem eq_X_Gt {h:VH}:eqW h (.str sX) (.str (PySem.Str.ofString ">"))=some false:=(eqS (by decide +kernel) (by decide +kernel)).trans (by decide +kernel)
@[simp] theorem eq_X_Dot {h:VH}:eqW h (.str sX) (.str (PySem.Str.ofString "."))=some false:=(eqS (by decide +kernel) (by decide +kernel)).trans (by decide +kernel)
@[simp] theorem eq_X_S {h:VH}:eqW h (.str sX) (.str (PySem.Str.ofString "s"))=some false:=(eqS (by decide +kernel) (by decide +kernel)).trans (by decide +kernel)
@[simp] theorem eq_Lt_X {h:VH}:eqW h (.str sLt) (.str (PySem.Str.ofString "x"))=some false:=(eqS (by decide +kernel) (by decide +kernel)).trans (by decide +kernel)
@[simp] theorem eq_Lt_Lt {h:VH}:eqW h (.str sLt) (.str (PySem.Str.ofString "<"))=some true:=(eqS (by decide +kernel) (by decide +kernel)).trans (by decide +kernel)
@[simp] theorem eq_Lt_Gt {h:VH}:eqW h (.str sLt) (.str (PySem.Str.ofString ">"))=some false:=(eqS (by decide +kernel) (by decide +kernel)).trans (by decide +kernel)
@[simp] theorem eq_Lt_Dot {h:VH}:eqW h (.str sLt) (.str (PySem.Str.ofString "."))=some false:=(eqS (by decide +kernel) (by decide +kernel)).trans (by decide +kernel)
@[simp] theorem eq_Lt_S {h:VH}:eqW h (.str sLt) (.str (PySem.Str.ofString "s"))=some false:=(eqS (by decide +kernel) (by decide +kernel)).trans (by decide +kernel)
@[simp] theorem eq_Gt_X {h:VH}:eqW h (.str sGt) (.str (PySem.Str.ofString "x"))=some false:=(eqS (by decide +kernel) (by decide +kernel)).trans (by decide +kernel)
@[simp] theorem eq_Gt_Lt {h:VH}:eqW h (.str sGt) (.str (PySem.Str.ofString "<"))=some false:=(eqS (by decide +kernel) (by decide +kernel)).trans (by decide +kernel)
@[simp] theorem eq_Gt_Gt {h:VH}:eqW h (.str sGt) (.str (PySem.Str.ofString ">"))=some true:=(eqS (by decide +kernel) (by decide +kernel)).trans (by decide +kernel)
@[simp] theorem eq_Gt_Dot {h:VH}:eqW h (.str sGt) (.str (PySem.Str.ofString "."))=some false:=(eqS (by decide +kernel) (by decide +kernel)).trans (by decide +kernel)
@[simp] theorem eq_Gt_S {h:VH}:eqW h (.str sGt) (.str (PySem.Str.ofString "s"))=some false:=(eqS (by decide +kernel) (by decide +kernel)).trans (by decide +kernel)
@[simp] theorem eq_Dot_X {h:VH}:eqW h (.str sDot) (.str (PySem.Str.ofString "x"))=some false:=(eqS (by decide +kernel) (by decide +kernel)).trans (by decide +kernel)
@[simp] theorem eq_Dot_Lt {h:VH}:eqW h (.str sDot) (.str (PySem.Str.ofString "<"))=some false:=(eqS (by decide +kernel) (by decide +kernel)).trans (by decide +kernel)
@[simp] theorem eq_Dot_Gt {h:VH}:eqW h (.str sDot) (.str (PySem.Str.ofString ">"))=some false:=(eqS (by decide +kernel) (by decide +kernel)).trans (by decide +kernel)
@[simp] theorem eq_Dot_Dot {h:VH}:eqW h (.str sDot) (.str (PySem.Str.ofString "."))=some true:=(eqS (by decide +kernel) (by decide +kernel)).trans (by decide +kernel)
@[simp] theorem eq_Dot_S {h:VH}:eqW h (.str sDot) (.str (PySem.Str.ofString "s"))=some false:=(eqS (by decide +kernel) (by decide +kernel)).trans (by decide +kernel)
@[simp] theorem eq_S_X {h:VH}:eqW h (.str sS) (.str (PySem.Str.ofString "x"))=some false:=(eqS (by decide +kernel) (by decide +kernel)).trans (by decide +kernel)
@[simp] theorem eq_S_Lt {h:VH}:eqW h (.str sS) (.str (PySem.Str.ofString "<"))=some false:=(eqS (by decide +kernel) (by decide +kernel)).trans (by decide +kernel)
@[simp] theorem eq_S_Gt {h:VH}:eqW h (.str sS) (.str (PySem.Str.ofString ">"))=some false:=(eqS (by decide +kernel) (by decide +kernel)).trans (by decide +kernel)
@[simp] theorem eq_S_Dot {h:VH}:eqW h (.str sS) (.str (PySem.Str.ofString "."))=some false:=(eqS (by decide +kernel) (by decide +kernel)).trans (by decide +kernel)
@[simp] theorem eq_S_S {h:VH}:eqW h (.str sS) (.str (PySem.Str.ofString "s"))=some true:=(eqS (by decide +kernel) (by decide +kernel)).trans (by decide +kernel)
theorem zpf{h0:VH}{gs:List VO}{c t l l':List W}{w:W}:leave (st3 h0 gs c t l) w (VH.set ⟨(st3 h0 gs c t l).n,(st3 h0 gs c t l).n,(st3 h0 gs c t l).os⟩ (h0.n+2) (.lst l'))=.ok w (st3 h0 gs c t l'):=by
 have hb:Nat.blt (h0.n+2) (h0.n+3+gs.length)=true:=zal.mpr (by omega)
 have hn:Nat.ble (h0.n+3+gs.length) (h0.n+2)=false:=by
  cases q:Nat.ble (h0.n+3+gs.length) (h0.n+2)with
  |false=>rfl
  |true=>have:=va1 q;omega
 have hl:Nat.ble h0.n (h0.n+2)=true:=Nat.ble_eq.mpr (by omega)
 unfold leave VH.set st3
 simp only[hb,if_true,hn,Bool.false_and,hl]
 rw[if_neg (by simp),List.set_append_right _ _ (by omega),show h0.n+3+gs.length-1- (h0.n+2)-gs.length=0 by omega]
 rfl
theorem zqf{ls:List Int}{a:Nat}(h:a<ls.length):atI (ls.map W.int) (a:Int)=some (.int (ls.getD a 0)):=
 zbc (by rw[List.getElem?_map,vay h,List.getD_eq_getElem?_getD,vay h];rfl)
theorem zna{n a:Nat}(h:a<n):ixN n (a:Int)=some a:=by
 unfold ixN
 rw[if_pos (by omega),if_pos (by omega)];simp
theorem zk6{cl:Call}{a b:S}{ρ ρ':En}{h h':VH}(e:exs cl a ρ h=.ok (.bk ρ') h'):exs cl (.seq a b) ρ h=.ok (.bk ρ') h':=by
 simp only[exs,e,bindok]
theorem zqg{wd g c:Int}{r:List W}(ok:(r.length:Int)=wd/\rowOk wd g 0 r)(c0:0<=c)(c1:c<wd):atI r c=some (colAt r c):=by
 have:=(zfy ok c0 c1).1
 obtain⟨n,rfl⟩:=vas c0
 rw[Int.toNat_natCast]at this
 exact zbc this
noncomputable def iW(ls:List Int):W:=.tup (ls.map .int)
theorem iW_lt{n:Nat}{ls:List Int}:W.lt n (iW ls)=true:=by
 unfold iW
 rw[lt_tup]
 induction ls with
 |nil=>simp
 |cons x r ih=>rw[vam,lts_cons,ih,lt_int];rfl
theorem Bd.Ok.feeder{B:Bd}(b:B.Ok){f:Nat}(hf:f<B.fd.length):∃c:Int,B.fd[f]?=some (.int c)/\0<=c/\c<B.wd:=by
 have h:=b.f3 _ (List.getElem_mem hf)
 have e:B.fd[f]?=some B.fd[f]:=vay hf
 generalize B.fd[f]=w at h e
 cases w<;>simp only[within]at h<;>try(cases h;done)
 rename_i c
 rw[vab,vaw,vaw]at h
 exact⟨c,e,h.1,by omega⟩
noncomputable def Bd.col(B:Bd)(f:Nat):Int:=match B.fd[f]? with
 |some (.int c)=>c
 |_=>0
theorem Bd.Ok.col{B:Bd}(b:B.Ok){f:Nat}(hf:f<B.fd.length):B.fd[f]?=some (.int (B.col f))/\0<=B.col f/\B.col f<B.wd:=by
 obtain⟨c,e,h⟩:=b.feeder hf
 have:B.col f=c:=by unfold Bd.col;rw[e]
 rw[this];exact⟨e,h⟩
theorem Bd.Ok.rows{B:Bd}(b:B.Ok){ls:List Int}(hl:(ls.length:Int)=B.gr):zj6 B.wd (ls.length:Int) B.rows:=by
 rw[hl];exact b.r2
theorem zb9{cl:Call}{i l:Nat}{ρ:En}{h:VH}{ws:List W}(hρ:ρ[i]?=some (some (.ref l)))(g:h.get l=some (.lst ws)):ev cl (.bi .tuple (.cons (.var i) .nil)) ρ h=.ok (.tup ws) h:=by
 simp only[ev,hρ,Option.join_some,ofsome,bindok,biW,zee,seqW,g,vat]
theorem tup3{cl:Call}{a b c:E}{ρ:En}{h:VH}{x y z:W}(ea:ev cl a ρ h=.ok x h)(eb:ev cl b ρ h=.ok y h)(ec:ev cl c ρ h=.ok z h):ev cl (.tup (.cons a (.cons b (.cons c .nil)))) ρ h=.ok (.tup [x,y,z]) h:=by
 rw[ev,ev,ea,bindok,ev,eb,bindok,ev,ec,bindok,ev]
 rfl
theorem zj9:∀(cs:List Int) (c:Int),(c::cs)[cs.length]?=some (lastC c cs)
 |[],c=>rfl
 |x::r,c=>by
  rw[vah,vax]
  exact zj9 r x
theorem zst{cs:List Int}{c:Int}:atI ((c::cs).map W.int) (-1)=some (.int (lastC c cs)):=by
 have e:ixN ((c::cs).map W.int).length (-1)=some cs.length:=by
  unfold ixN
  rw[if_neg (by decide),vaf,vah,if_pos (by omega)]
  congr 1
  omega
 unfold atI
 rw[e,Option.bind_some,List.getElem?_map,zj9]
 rfl
noncomputable def Bd.door(B:Bd)(c:Int):W:=(B.dr[c.toNat]?).getD .non
theorem Bd.Ok.door{B:Bd}(b:B.Ok){c:Int}(c0:0<=c)(c1:c<B.wd):atI B.dr c=some (B.door c)/\RF.door (B.door c) B.fd.length=true:=by
 obtain⟨n,rfl⟩:=vas c0
 have hd:=b.d1
 have hn:n<B.dr.length:=by omega
 have e:B.dr[n]?=some B.dr[n]:=vay hn
 have e2:B.door n=B.dr[n]:=by
  unfold Bd.door
  rw[Int.toNat_natCast,e];rfl
 rw[e2]
 exact⟨zbc e,b.d2 _ (List.getElem_mem hn)⟩
theorem zsu{w:W}{n:Int}(h:door w n=true)(m:Nat):W.lt m w=true:=by
 obtain⟨a,b,rfl,_,_,hb⟩:=zhx h
 rcases hb with rfl|⟨i,rfl,_⟩<;>simp
theorem tup2{cl:Call}{a b:E}{ρ:En}{h:VH}{x y:W}(ea:ev cl a ρ h=.ok x h)(eb:ev cl b ρ h=.ok y h):ev cl (.tup (.cons a (.cons b .nil))) ρ h=.ok (.tup [x,y]) h:=by
 rw[ev,ev,ea,bindok,ev,eb,bindok,ev]
 rfl
theorem znb{ls:List Int}{g:Int}(hl:(ls.length:Int)=g)(b:Bits ls):zb8 (iW ls) g g 0 1=true:=by
 unfold iW zb8 zav
 simp only[vaf,vab,vaw,List.all_eq_true]
 refine⟨⟨by omega,by omega⟩,λw hw=>?_⟩
 obtain⟨x,hx,rfl⟩:=List.mem_map.mp hw
 rcases b x hx with rfl|rfl<;>rfl
noncomputable def rowW(r:List Nat):List W:=r.map λ(f:Nat)=>W.int (f:Int)
noncomputable def zwx(w:W):W:=match w with
 |.tup [n,_]=>n
 |_=>.non
structure CoreY0(F:Nat->Option Fn):Prop where
 f173:F 173=some fn173
 f174:F 174=some fn174
 f175:F 175=some fn175
theorem zhy{h:VH}{x:W}{r:List W}:idxW h (.tup (x::r)) (.int 0)=some x:=zbc (j:=0) (xs:=x::r) rfl
theorem zxs{h:VH}{i:Int}:eqW h (.int i) .non=some false:=rfl
noncomputable def dirD:List (Key×W):=[(.inr sDot,.int 0),(.inr sLt,.int (-1)),(.inr sGt,.int 1)]
theorem znc:zji [] [(.inr sDot,.int 0),(.inr sLt,.int (-1)),(.inr sGt,.int 1)]=dirD:=by rfl
theorem zsv:lookK dirD (.inr sDot)=some (.int 0):=by rfl
theorem zwy:lookK dirD (.inr sLt)=some (.int (-1)):=by rfl
theorem zwz:lookK dirD (.inr sGt)=some (.int 1):=by rfl
noncomputable abbrev dspE:E:=.dsp (.cons (.cst (.str (PySem.Str.ofString "."))) (.cons (.cst (.int (0))) (.cons (.cst (.str (PySem.Str.ofString "<"))) (.cons (.neg (.cst (.int (1)))) (.cons (.cst (.str (PySem.Str.ofString ">"))) (.cons (.cst (.int (1))) .nil))))))
theorem zw0{cl:Call}{ρ:En}{h:VH}:ev cl dspE ρ h=.ok (.ref h.n) (h.new (.dk dirD)):=by
 simp only[dspE,ev,bindok,zdm,keyW]
 rw[if_pos (by decide)]
 show Res.ok _ (h.new (.dk (zji [] _)))=_
 rw[znc]
theorem zsw{h:VH}{o:VO}:(h.new o).get h.n=some o:=by
 unfold VH.get VH.new
 rw[if_pos (zal.mpr (by show h.n<h.n+1;omega))]
 show(o::h.os)[h.n+1-1-h.n]?=_
 rw[show h.n+1-1-h.n=0 by omega]
 rfl
theorem zbr{h:VH}{p q:Int}{x:Str}(hx:PyData.strOk x=true):eqW h (.tup [.int p,.int q]) (.str x)=some false:=by
 rw[zbd (x:=x) rfl hx];rfl
noncomputable abbrev sE:E:=.cst (.str (PySem.Str.ofString "s"))
theorem zqh{n:Nat}:∀{ws:List W},(∀w∈ws,W.lt n w=true)->W.lts n ws=true
 |[],_=>by simp
 |w::r,h=>by rw[lts_cons,h w vag,zqh λw hw=>h w (vad _ hw)];rfl
section
variable{F:Nat->Option Fn}(C:CoreD F)
include C
theorem zfz{k:Nat}:∀(ns:List Int) (x:Option W) (h:VH),∃cells:List Int,lcL (tgW (.one 0)) (ev (run F k) zdp) (ev (run F k) zdq) (ns.map .int) [x] h=.ok (cells.map .int) h/\(∀y∈cells,(0:Int)<=y)/\cells.length<=ns.length
 |[],x,h=>⟨[],rfl,(λy hy=>by cases hy),vae _⟩
 |n::ns,x,h=>by
  obtain⟨cells,e,h1,h2⟩:=zfz (k:=k) ns (some (.int n)) h
  have s10:((10:Int).natAbs<2 ^ 64):=by decide
  have ec:ev (run F k) zdp [some (.int n)] h=.ok (.bl (decide (1000000000000000000<=(n.natAbs:Int)))) h:=by
   simp[zdp,ev,biW,absW,opW,opI,cmpW,cmpI,zdj]
  have ee:ev (run F k) zdq [some (.int n)] h=.ok (.int (n.natAbs:Int)) h:=by
   simp[zdq,ev,biW,absW,zdj]
  by_cases q:1000000000000000000<=(n.natAbs:Int)
  .refine⟨(n.natAbs:Int)::cells,?_,λy hy=>?_,by rw[vah,vah];omega⟩
   .simp only[lcL,vam,tgW,List.set,ec,bindok,q,decide_true,ee,e]
   .rcases va2.mp hy with rfl|hy
    .omega
    .exact h1 y hy
  .refine⟨cells,?_,h1,by rw[vah];omega⟩
   simp only[lcL,vam,tgW,List.set,ec,bindok,q,decide_false,e]
theorem deck{k:Nat}{h:VH}{ns:List Int}(hl:ns.length<=63):∃h',run F (k+1) 3 [.fz (ns.map .int)] h=.ok (.ref (h.n+1)) h'/\Dk h' (h.n+1) h.n 0:=by
 rw[zam C.f3 rfl]
 obtain⟨cells,e,h1,h2⟩:=zfz C (k:=k) ns none ⟨h.n,h.n,h.os⟩
 have l:=zcx (nx:=nxt .seq (.fz (ns.map .int))) (tg:=tgW (.one 0)) (c:=ev (run F k) zdp) (e:=ev (run F k) zdq) (ws:=ns.map .int) (λi h=>rfl) fuel 0 [none] ⟨h.n,h.n,h.os⟩ [] (Nat.zero_le _) (by rw[vaf];unfold fuel;omega)
 rw[List.drop_zero,e]at l
 have l:lcG (nxt .seq (.fz (ns.map .int))) (tgW (.one 0)) (ev (run F k) zdp) (ev (run F k) zdq) fuel 0 [none] ⟨h.n,h.n,h.os⟩ []=.ok (cells.map .int) ⟨h.n,h.n,h.os⟩:=l
 have q:ev (run F k) (.lc .seq (.var 0) (.one 0) 1 [] zdp zdq) [some (.fz (ns.map .int))] ⟨h.n,h.n,h.os⟩=.ok (.ref h.n) (VH.new ⟨h.n,h.n,h.os⟩ (.lst (cells.map .int))):=by
  rw[ev]
  have:ev (run F k) (.var 0) [some (.fz (ns.map .int))] ⟨h.n,h.n,h.os⟩=.ok (.fz (ns.map .int)) ⟨h.n,h.n,h.os⟩:=rfl
  rw[this,bindok]
  show(lcG (nxt .seq (.fz (ns.map .int))) (tgW (.one 0)) (ev (run F k) zdp) (ev (run F k) zdq) fuel 0 [none] ⟨h.n,h.n,h.os⟩ []).bind _=_
  rw[l,bindok,if_pos (zbu (by rw[vaf];omega))]
 let h1':VH:=VH.new ⟨h.n,h.n,h.os⟩ (.lst (cells.map .int))
 let o:VO:=.lst [.fz (ns.map .int),.ref h.n,.int 0,.int 0]
 have eb:exs (run F k) fn3.body [some (.fz (ns.map .int))] ⟨h.n,h.n,h.os⟩=.ok (.rt (.ref (h.n+1))) (h1'.new o):=by
  simp only[fn3,exs,ev,bindok,ofsome,List.getElem?_cons_zero,Option.join_some]at q ⊢
  rw[q]
  rfl
 refine⟨⟨h.n+2,if Nat.ble h.lo h.n then h.lo else h.n,(h1'.new o).os⟩,?_,?_⟩
 .show fin h (exs (run F k) fn3.body [some (.fz (ns.map .int))] ⟨h.n,h.n,h.os⟩)=_
  rw[eb]
  show leave h (.ref (h.n+1)) (h1'.new o)=_
  unfold leave
  rw[if_neg (by
   rw[vab]
   intro z
   have:=z.2
   simp only[W.lt]at this
   have:=zal.mp this
   omega)]
  rfl
 .refine⟨by omega,ns,cells,0,0,?_,?_,h1,by omega,by omega,by omega,by omega⟩
  .show VH.get ⟨(h1'.new o).n,_,(h1'.new o).os⟩ (h.n+1)=_
   rw[get_lo]
   exact zao (h:=h1')
  .show VH.get ⟨(h1'.new o).n,_,(h1'.new o).os⟩ h.n=_
   rw[get_lo,zad (h:=h1') (by show h.n<h.n+1;omega)]
   exact zao (h:=⟨h.n,h.n,h.os⟩)
end
noncomputable def zipW(ws zs:List W):List W:=List.zipWith (λa b=>W.tup [a,b]) ws zs
theorem opE{cl:Call}{o:Op}{a b:E}{ρ:En}{h h1 h2:VH}{x y:W}{r:Res W}(ea:ev cl a ρ h=.ok x h1)(eb:ev cl b ρ h1=.ok y h2)(e:opW o x y h2=r):ev cl (.op o a b) ρ h=r:=by
 rw[ev,ea,bindok,eb,bindok,e]
theorem retE{cl:Call}{a:E}{ρ:En}{h h1:VH}{x:W}(ea:ev cl a ρ h=.ok x h1):exs cl (.ret a) ρ h=.ok (.rt x) h1:=by
 rw[exs,ea,bindok]
theorem setE{cl:Call}{i:Nat}{a:E}{ρ:En}{h h1:VH}{x:W}(ea:ev cl a ρ h=.ok x h1):exs cl (.set i a) ρ h=.ok (.nx (ρ.set i (some x))) h1:=by
 rw[exs,ea,bindok]
theorem varE{cl:Call}{i:Nat}{ρ:En}{h:VH}{x:W}(e:ρ[i]?=some (some x)):ev cl (.var i) ρ h=.ok x h:=by
 rw[ev,e];rfl
theorem idxE{cl:Call}{a b:E}{ρ:En}{h h1 h2:VH}{x y z:W}(ea:ev cl a ρ h=.ok x h1)(eb:ev cl b ρ h1=.ok y h2)(e:idxW h2 x y=some z):ev cl (.idx a b) ρ h=.ok z h2:=by
 rw[ev,ea,bindok,eb,bindok,e];rfl
theorem lenE{cl:Call}{a:E}{ρ:En}{h h1:VH}{x:W}{ws:List W}(ea:ev cl a ρ h=.ok x h1)(e:seqW h1 x=some ws):ev cl (.bi .len (.cons a .nil)) ρ h=.ok (.int ws.length) h1:=by
 rw[ev,ev,ea,bindok,ev,bindok]
 show lenW [x] h1=_
 simp only[lenW,e,ofsome]
theorem zka{cl:Call}{ρ:En}{h h1 h':VH}{n:Nat}{a:E}{x w:W}(ea:ev cl a ρ h=.ok x h1)(e:cl n [x] h1=.ok w h'):ev cl (.call n (.cons a .nil)) ρ h=.ok w h':=by
 rw[ev,ev,ea,bindok,ev]
 exact e
theorem zba{cl:Call}{ρ:En}{h h1 h2 h':VH}{n:Nat}{a b:E}{x y w:W}(ea:ev cl a ρ h=.ok x h1)(eb:ev cl b ρ h1=.ok y h2)(e:cl n [x,y] h2=.ok w h'):ev cl (.call n (.cons a (.cons b .nil))) ρ h=.ok w h':=by
 rw[ev,ev,ea,bindok,ev,eb,bindok,ev]
 exact e
theorem znd{cl:Call}{ρ:En}{h h1 h2 h3 h':VH}{n:Nat}{a b c:E}{x y z w:W}(ea:ev cl a ρ h=.ok x h1)(eb:ev cl b ρ h1=.ok y h2)(ec:ev cl c ρ h2=.ok z h3)(e:cl n [x,y,z] h3=.ok w h'):ev cl (.call n (.cons a (.cons b (.cons c .nil)))) ρ h=.ok w h':=by
 rw[ev,ev,ea,bindok,ev,eb,bindok,ev,ec,bindok,ev]
 exact e
theorem zer{cl:Call}{ρ:En}{h h1 h2 h3 h4 h':VH}{n:Nat}{a b c d:E}{x y z u w:W}(ea:ev cl a ρ h=.ok x h1)(eb:ev cl b ρ h1=.ok y h2)(ec:ev cl c ρ h2=.ok z h3)(ed:ev cl d ρ h3=.ok u h4)(e:cl n [x,y,z,u] h4=.ok w h'):ev cl (.call n (.cons a (.cons b (.cons c (.cons d .nil))))) ρ h=.ok w h':=by
 rw[ev,ev,ea,bindok,ev,eb,bindok,ev,ec,bindok,ev,ed,bindok,ev]
 exact e
theorem tup2E{cl:Call}{a b:E}{ρ:En}{h h1 h2:VH}{x y:W}(ea:ev cl a ρ h=.ok x h1)(eb:ev cl b ρ h1=.ok y h2):ev cl (.tup (.cons a (.cons b .nil))) ρ h=.ok (.tup [x,y]) h2:=by
 rw[ev,ev,ea,bindok,ev,eb,bindok,ev];rfl
noncomputable def optW:Option Nat->W
 |none=>.non
 |some f=>.int f
theorem zne{ws:List W}(n:Nat)(h:∀w∈ws,w=.non\/∃i:Int,w=.int i):W.lts n ws=true:=zqh λw hw=>by
 rcases h w hw with rfl|⟨i,rfl⟩<;>simp
theorem zsx{n:Nat}{fo:Option Nat}:W.lt n (optW fo)=true:=by cases fo<;>simp[optW]
theorem slcE{cl:Call}{a lo hi:E}{bl bh:Bool}{ρ:En}{h h1 h2 h3 h4:VH}{x l u w:W}{l' u':Option Int}(ea:ev cl a ρ h=.ok x h1)(el:ev cl lo ρ h1=.ok l h2)(eu:ev cl hi ρ h2=.ok u h3)(pl:partW bl l=some l')(pu:partW bh u=some u')(e:slcW x l' u' h3=.ok w h4):ev cl (.slc a bl lo bh hi) ρ h=.ok w h4:=by
 rw[ev,ea,bindok,el,bindok,eu,bindok,pl,pu]
 exact e
theorem iteF{cl:Call}{c:E}{a b:S}{ρ:En}{h h1:VH}(e:ev cl c ρ h=.ok (.bl false) h1):exs cl (.ite c a b) ρ h=exs cl b ρ h1:=by
 rw[exs,e];rfl
theorem iteT{cl:Call}{c:E}{a b:S}{ρ:En}{h h1:VH}(e:ev cl c ρ h=.ok (.bl true) h1):exs cl (.ite c a b) ρ h=exs cl a ρ h1:=by
 rw[exs,e];rfl
theorem truE{cl:Call}{a:E}{ρ:En}{h h1:VH}{b:Bool}(e:ev cl a ρ h=.ok (.bl b) h1):ev cl (.tru a) ρ h=.ok (.bl b) h1:=by
 rw[ev,e,bindok];rfl
theorem exprE{cl:Call}{a:E}{ρ:En}{h h1:VH}{x:W}(ea:ev cl a ρ h=.ok x h1):exs cl (.expr a) ρ h=.ok (.nx ρ) h1:=by
 rw[exs,ea,bindok]
theorem znf{P:Int->Prop}:∀{ws:List W},(∀w∈ws,∃x:Int,w=.int x/\P x)->∃xs:List Int,ws=xs.map .int/\∀x∈xs,P x
 |[],_=>⟨[],rfl,by simp⟩
 |w::r,h=>by
  obtain⟨x,rfl,hx⟩:=h w vag
  obtain⟨xs,rfl,hs⟩:=znf λw hw=>h w (vad _ hw)
  refine⟨x::xs,rfl,λy hy=>?_⟩
  rcases va2.mp hy with rfl|hy
  .exact hx
  .exact hs y hy
theorem zng{P:Nat->Prop}:∀{ws:List W},(∀w∈ws,∃x:Nat,w=.int x/\P x)->∃xs:List Nat,ws=rowW xs/\∀x∈xs,P x
 |[],_=>⟨[],rfl,by simp⟩
 |w::r,h=>by
  obtain⟨x,rfl,hx⟩:=h w vag
  obtain⟨xs,rfl,hs⟩:=zng λw hw=>h w (vad _ hw)
  refine⟨x::xs,rfl,λy hy=>?_⟩
  rcases va2.mp hy with rfl|hy
  .exact hx
  .exact hs y hy
section
variable{F:Nat->Option Fn}(C:CoreD F)
include C
theorem ziw{k:Nat}{h:VH}{d c b g:Nat}(f20:F 20=some fn20)(D:Dk h d c b)(hb:b+10<1000000000)(hg:g<=8) :
 ∃ls h',run F (k+4) 20 [.ref d,.int g] h=.ok (iW ls) h'/\ls.length=g/\Bits ls/\Dk h' d c (b+10)/\Keep h h' d c:=by
 rw[zam f20 rfl]
 have D0:Dk ⟨h.n,h.n,h.os⟩ d c b:=D.lo
 obtain⟨ws,h2,e2,p2,l2,D2,K2⟩:=zcl (cl:=run F (k+3)) (P:=λ_ w=>∃x:Int,w=.int x/\(x=0\/x=1)) (e:=zgt) (tl:=[some (.ref d)]) (m:=1) (lim:=g) (λi h b h0 hl D hb=>by
  obtain⟨r,h',e,r0,r1,D',K'⟩:=take C (k:=k) (m:=2) D (by omega) (by omega) (by omega)
  exact⟨.int r,h',by simp[zgt,ev,e],⟨r,rfl,by omega⟩,D',K'⟩) g 0 none ⟨h.n,h.n,h.os⟩ b (by omega) (by omega) D0 (by omega)
 obtain⟨ls,rfl,hbits⟩:=znf (zcc p2)
 have e3:=zhw (cl:=run F (k+3)) (a:=.cons (.var 1) .nil) (ρ:=[some (.ref d),some (.int g)]) (h:=⟨h.n,h.n,h.os⟩) (ow:=1) (ix:=[0]) (e:=zgt) (by simp[ev]) (by omega) e2 (by rw[l2];omega)
 obtain⟨h5,e5,D5,K5⟩:=zbm (cl:=run F (k+3)) (fl:=.nx []) (w:=iW ls) (body:=fn20.body) (ρ:=[some (.ref d),some (.int g)]) (F:=F) (k:=k+3) (h:=h) (h':=h2.new (.lst (ls.map .int))) (by simp only[fn20,exs,e3,bindok];rfl) (.inr ⟨b,D⟩) (D2.new.mono (show _<=b+10 by omega)) K2.new
 exact⟨ls,h5,e5,by rw[vaf]at l2;exact l2,hbits,D5,K5⟩
end
structure CoreP3(F:Nat->Option Fn):Prop extends CoreD F where
 f23:F 23=some fn23
 f103:F 103=some fn103
 f104:F 104=some fn104
 f129:F 129=some fn129
noncomputable def pOne:S:=(.ite (.and (.cmp .eq (.var 2) (.cst (.int (1)))) (.cmp .ne (.var 5) (.cst (.str sDot)))) (.seq (.ret (.cst (.str sDot))) .skip) .skip)
noncomputable def zc2:S:=(.seq (.ite pCond (.seq (.ret pIdx) .skip) .skip) (.seq pOne (.seq (.ret (.var 5)) .skip)))
section
variable{F:Nat->Option Fn}(C:CoreP3 F)
include C
theorem zpg{k:Nat}{h:VH}{d c b:Nat}{co wd g:Int}(D:Dk h d c b)(hb:b+5<1000000000)(h0:0<=co)(h1:co<wd)(g0:0<=g)(g1:g<=8) :
 ∃w h',run F (k+4) 103 [.ref d,.int co,.int wd,.int g] h=.ok w h'/\zai w co wd g=true/\Dk h' d c (b+5)/\Keep h h' d c:=by
 rw[zam C.f103 rfl]
 have D0:Dk ⟨h.n,h.n,h.os⟩ d c b:=D.lo
 have tail:∀(w5:W)(lot:Int)(h3:VH),Raw g w5->∃w h4,exs (run F (k+3)) zc2
  [some (.ref d),some (.int co),some (.int wd),some (.int g),some (.int lot),some w5] h3=.ok (.rt w) h4/\zai w co wd g=true/\(h4=h3\/∃o,h4=h3.new o):=by
  intro w5 lot h3 R
  have two:zbo 2=true:=zd1 (by omega) (by omega)
  have i0:atI [W.str sGt,.str sLt,.str sDot] 0=some (.str sGt):=rfl
  have i1:atI [W.str sGt,.str sLt,.str sDot] 1=some (.str sLt):=rfl
  have i2:atI [W.str sGt,.str sLt,.str sDot] 2=some (.str sDot):=rfl
  have fin1:∀(b1 b2:Bool),inW h3 w5 (.tup [.str sDot,.str sGt])=some b1->inW h3 w5 (.tup [.str sDot,.str sLt])=some b2->(co≠0\/b1=true)->(co≠wd-1\/b2=true)->zai w5 co wd g=true->∃w h4,exs (run F (k+3)) zc2
   [some (.ref d),some (.int co),some (.int wd),some (.int g),some (.int lot),some w5] h3=.ok (.rt w) h4/\zai w co wd g=true/\(h4=h3\/∃o,h4=h3.new o):=by
   intro b1 b2 n1 n2 o1 o2 hm
   have cond:ev (run F (k+3)) pCond [some (.ref d),some (.int co),some (.int wd),some (.int g),some (.int lot),some w5] h3=.ok (.bl false) h3:=by
    by_cases c0:co=0<;>by_cases c1:co=wd-1<;>simp[c0,c1]at o1 o2<;>simp_all [pCond,ev,cmpW,zar,opW,opI]
   obtain⟨bq,hq⟩:∃bq,eqW h3 w5 (.str sDot)=some bq:=by
    cases R with
    |dot=>exact⟨_,zbd (by decide +kernel) (by decide +kernel)⟩
    |lt=>exact⟨_,zbd (by decide +kernel) (by decide +kernel)⟩
    |gt=>exact⟨_,zbd (by decide +kernel) (by decide +kernel)⟩
    |x=>exact⟨_,zbd (by decide +kernel) (by decide +kernel)⟩
    |rk a0 a1 b0 b1=>exact⟨_,zbd rfl (by decide +kernel)⟩
   by_cases w1:wd=1
   .cases bq with
    |true=>exact⟨w5,h3,by simp only[zc2,exs,cond,bindok,pOne];simp[ev,cmpW,zar,w1,hq],hm,.inl rfl⟩
    |false=>exact⟨.str sDot,h3,by simp only[zc2,exs,cond,bindok,pOne];simp[ev,cmpW,zar,w1,hq],ziu,.inl rfl⟩
   .exact⟨w5,h3,by simp only[zc2,exs,cond,bindok,pOne];simp[ev,cmpW,zar,w1],hm,.inl rfl⟩
  have fin2:∀(b1 b2:Bool),inW h3 w5 (.tup [.str sDot,.str sGt])=some b1->inW h3 w5 (.tup [.str sDot,.str sLt])=some b2->((co=0/\b1=false)\/(co=wd-1/\b2=false))->∃w h4,exs (run F (k+3)) zc2
   [some (.ref d),some (.int co),some (.int wd),some (.int g),some (.int lot),some w5] h3=.ok (.rt w) h4/\zai w co wd g=true/\(h4=h3\/∃o,h4=h3.new o):=by
   intro b1 b2 n1 n2 o
   have cond:ev (run F (k+3)) pCond [some (.ref d),some (.int co),some (.int wd),some (.int g),some (.int lot),some w5] h3=.ok (.bl true) h3:=by
    by_cases c0:co=0<;>by_cases c1:co=wd-1<;>cases b1<;>cases b2<;>simp_all [pCond,ev,cmpW,zar,opW,opI]
   have r1:∀(x:Str)(j:Int),(if(2:Int)< (if 0<co then 1 else 0)+2* (if wd=1 then 1 else 0)then 2 else(if 0<co then 1 else 0)+2* (if wd=1 then 1 else 0))=j->atI [W.str sGt,.str sLt,.str sDot] j=some (.str x)->ev (run F (k+3)) pIdx [some (.ref d),some (.int co),some (.int wd),some (.int g),some (.int lot),some w5] h3=.ok (.str x) (h3.new (.lst [W.str sGt,.str sLt,.str sDot])):=by
    intro x j hj ha
    have hg:=zao (h:=h3) (o:=.lst [W.str sGt,.str sLt,.str sDot])
    by_cases c0:0<co<;>by_cases c1:wd=1<;>simp[c0,c1]at hj<;>subst hj<;>simp[pIdx,ev,cmpW,cmpI,zar,opW,opI,two,biW,intW,minW,idxW,hg,ha,c0,c1]
   have fin:∀x:Str,ev (run F (k+3)) pIdx [some (.ref d),some (.int co),some (.int wd),some (.int g),some (.int lot),some w5] h3=.ok (.str x) (h3.new (.lst [W.str sGt,.str sLt,.str sDot]))->zai (.str x) co wd g=true->
    ∃w h4,exs (run F (k+3)) zc2 [some (.ref d),some (.int co),some (.int wd),some (.int g),some (.int lot),some w5] h3=.ok (.rt w) h4/\zai w co wd g=true/\(h4=h3\/∃o,h4=h3.new o):=
    λx e hm=>⟨.str x,h3.new (.lst [W.str sGt,.str sLt,.str sDot]),by simp only[zc2,exs,cond,bindok,e],hm,.inr ⟨_,rfl⟩⟩
   by_cases w1:wd=1
   .exact fin sDot (r1 sDot 2 (by rw[if_neg (by omega:¬0<co)];simp[w1]) i2) ziu
   .by_cases c0:co=0
    .exact fin sGt (r1 sGt 0 (by rw[if_neg (by omega:¬0<co)];simp[w1]) i0) (zqd (by omega))
    .exact fin sLt (r1 sLt 1 (by rw[if_pos (by omega:0<co)];simp[w1]) i1) (zqc (by omega))
  have d1:(sDot==sLt)=false:=by decide +kernel
  have d2:(sGt==sLt)=false:=by decide +kernel
  have d3:(sDot==sGt)=false:=by decide +kernel
  have d4:(sLt==sGt)=false:=by decide +kernel
  have d5:(sDot==sX)=false:=by decide +kernel
  have d6:(sGt==sX)=false:=by decide +kernel
  have d7:(sLt==sX)=false:=by decide +kernel
  have k1:PyData.strOk sDot=true:=by decide +kernel
  have k2:PyData.strOk sLt=true:=by decide +kernel
  have k3:PyData.strOk sGt=true:=by decide +kernel
  have k4:PyData.strOk sX=true:=by decide +kernel
  cases R with
  |dot=>exact fin1 true true (by rw[za7 k1 k1 k3];simp) (by rw[za7 k1 k1 k2];simp) (.inr rfl) (.inr rfl) ziu
  |lt=>
   by_cases c0:co=0
   .exact fin2 false true (by rw[za7 k2 k1 k3,d1,d2];rfl) (by rw[za7 k2 k1 k2];simp) (.inl ⟨c0,rfl⟩)
   .exact fin1 false true (by rw[za7 k2 k1 k3,d1,d2];rfl) (by rw[za7 k2 k1 k2];simp) (.inl c0) (.inr rfl) (zqc (by omega))
  |gt=>
   by_cases c0:co=wd-1
   .exact fin2 true false (by rw[za7 k3 k1 k3];simp) (by rw[za7 k3 k1 k2,d3,d4];rfl) (.inr ⟨c0,rfl⟩)
   .exact fin1 true false (by rw[za7 k3 k1 k3];simp) (by rw[za7 k3 k1 k2,d3,d4];rfl) (.inr rfl) (.inl c0) (zqd (by omega))
  |x=>
   by_cases c0:co=0\/co=wd-1
   .exact fin2 false false (by rw[za7 k4 k1 k3,d5,d6];rfl) (by rw[za7 k4 k1 k2,d5,d7];rfl) (c0.elim (λz=>.inl ⟨z,rfl⟩) λz=>.inr ⟨z,rfl⟩)
   .exact fin1 false false (by rw[za7 k4 k1 k3,d5,d6];rfl) (by rw[za7 k4 k1 k2,d5,d7];rfl) (.inl (by omega)) (.inl (by omega)) (may_x (by omega) (by omega))
  |rk a0 a1 b0 b1=>
   by_cases c0:co=0\/co=wd-1
   .exact fin2 false false (zgs k1 k3) (zgs k1 k2) (c0.elim (λz=>.inl ⟨z,rfl⟩) λz=>.inr ⟨z,rfl⟩)
   .exact fin1 false false (zgs k1 k3) (zgs k1 k2) (.inl (by omega)) (.inl (by omega)) (zwu a0 a1 b0 b1 (by omega) (by omega))
 obtain⟨lot,h1',e1,l0,l1,D1,K1⟩:=take C.toCoreD (k:=k) (m:=10) D0 (by omega) (by omega) (by omega)
 have done:∀(w5:W)(h3:VH),Raw g w5->Dk h3 d c (b+5)->Keep ⟨h.n,h.n,h.os⟩ h3 d c->exs (run F (k+3)) fn103.body [some (.ref d),some (.int co),some (.int wd),some (.int g),none,none] ⟨h.n,h.n,h.os⟩=exs (run F (k+3)) zc2 [some (.ref d),some (.int co),some (.int wd),some (.int g),some (.int lot),some w5] h3->
  ∃w h',fin h (exs (run F (k+3)) fn103.body [some (.ref d),some (.int co),some (.int wd),some (.int g),none,none] ⟨h.n,h.n,h.os⟩)=.ok w h'/\zai w co wd g=true/\Dk h' d c (b+5)/\Keep h h' d c:=by
  intro w5 h3 R D3 K3 e
  obtain⟨w,h4,e4,hm,hh⟩:=tail w5 lot h3 R
  have D4:Dk h4 d c (b+5)/\Keep ⟨h.n,h.n,h.os⟩ h4 d c:=by
   rcases hh with rfl|⟨o,rfl⟩
   .exact⟨D3,K3⟩
   .exact⟨D3.new,K3.new⟩
  obtain⟨h5,e5,D5,K5⟩:=zbm (cl:=run F (k+3)) (fl:=.nx []) (e.trans e4) (.inr ⟨b,D⟩) D4.1 D4.2
  exact⟨w,h5,e5,hm,D5,K5⟩
 have hg1:=zao (h:=h1') (o:=.lst [W.str sDot,.str sLt,.str sGt,.str sX,.str sDot,.str sDot])
 have two:∀(x:Str)(j:Int),(if(5:Int)<lot then 5 else lot)=j->atI [W.str sDot,.str sLt,.str sGt,.str sX,.str sDot,.str sDot] j=some (.str x)->∀rest:S,exs (run F (k+3)) (.seq (.set 4 (.call 5 (.cons (.var 0) (.cons (.cst (.int (10))) .nil)))) (.seq (.set 5 (.idx (.lst (.cons (.cst (.str sDot)) (.cons (.cst (.str sLt)) (.cons (.cst (.str sGt)) (.cons (.cst (.str sX)) (.cons (.cst (.str sDot)) (.cons (.cst (.str sDot)) .nil))))))) (.bi .min (.cons (.var 4) (.cons (.cst (.int (5))) .nil))))) rest)) [some (.ref d),some (.int co),some (.int wd),some (.int g),none,none] ⟨h.n,h.n,h.os⟩ =
  exs (run F (k+3)) rest [some (.ref d),some (.int co),some (.int wd),some (.int g),some (.int lot),some (.str x)] (h1'.new (.lst [W.str sDot,.str sLt,.str sGt,.str sX,.str sDot,.str sDot])):=by
  intro x j hj ha rest
  refine(zaa (ρ':=[some (.ref d),some (.int co),some (.int wd),some (.int g),some (.int lot),none]) (h':=h1') (by simp[exs,ev,e1])).trans ?_
  refine zaa ?_
  by_cases q:(5:Int)<lot
  .rw[if_pos q]at hj
   subst hj
   simp[exs,ev,biW,minW,q,idxW,hg1,ha]
  .rw[if_neg q]at hj
   subst hj
   simp[exs,ev,biW,minW,q,idxW,hg1,ha]
 have low:∀(x:Str),lot<=3->atI [W.str sDot,.str sLt,.str sGt,.str sX,.str sDot,.str sDot] lot=some (.str x)->Raw g (.str x)->_:=λx hl ha R=>done (.str x) (h1'.new (.lst [W.str sDot,.str sLt,.str sGt,.str sX,.str sDot,.str sDot])) R (D1.new.mono (by omega)) K1.new (by
  refine(two x lot (if_neg (by omega)) ha _).trans ?_
  have n1:¬(4<lot):=by omega
  have n2:¬(lot=4):=by omega
  refine(zaa (ρ':=[some (.ref d),some (.int co),some (.int wd),some (.int g),some (.int lot),some (.str x)]) (h':=h1'.new (.lst [W.str sDot,.str sLt,.str sGt,.str sX,.str sDot,.str sDot])) (by simp[exs,ev,cmpW,cmpI,n1])).trans ?_
  refine(zaa (ρ':=[some (.ref d),some (.int co),some (.int wd),some (.int g),some (.int lot),some (.str x)]) (h':=h1'.new (.lst [W.str sDot,.str sLt,.str sGt,.str sX,.str sDot,.str sDot])) (by simp[exs,ev,cmpW,zar,n2])).trans ?_
  rfl)
 by_cases l4:lot<=3
 .have:lot=0\/lot=1\/lot=2\/lot=3:=by omega
  rcases this with z|z|z|z
  .exact low sDot l4 (by rw[z];rfl) .dot
  .exact low sLt l4 (by rw[z];rfl) .lt
  .exact low sGt l4 (by rw[z];rfl) .gt
  .exact low sX l4 (by rw[z];rfl) .x
 .by_cases l5:lot=4
  ·-- a blind place,or nothing
   obtain⟨r4,h4,e4,_,_,D4,K4⟩:=take C.toCoreD (k:=k) (m:=4) (D1.new (o:=.lst [W.str sDot,.str sLt,.str sGt,.str sX,.str sDot,.str sDot])) (by omega) (by omega) (by omega)
   have n1:¬(4<lot):=by omega
   have s3:∀rest:S,exs (run F (k+3)) (.seq (.ite (.and (.cmp .gt (.var 4) (.cst (.int (4)))) (.cmp .gt (.var 3) (.cst (.int (0))))) (.seq (.set 5 (.tup (.cons (.call 5 (.cons (.var 0) (.cons (.var 3) .nil))) (.cons (.call 5 (.cons (.var 0) (.cons (.cst (.int (2))) .nil))) .nil)))) .skip) .skip) rest) [some (.ref d),some (.int co),some (.int wd),some (.int g),some (.int lot),some (.str sDot)] (h1'.new (.lst [W.str sDot,.str sLt,.str sGt,.str sX,.str sDot,.str sDot]))=exs (run F (k+3)) rest [some (.ref d),some (.int co),some (.int wd),some (.int g),some (.int lot),some (.str sDot)] (h1'.new (.lst [W.str sDot,.str sLt,.str sGt,.str sX,.str sDot,.str sDot])):=λrest=>zaa (by simp[exs,ev,cmpW,cmpI,n1])
   by_cases r0:r4=0
   .obtain⟨h5,e5,D5,K5⟩:=zbm (cl:=run F (k+3)) (fl:=.nx []) (w:=.str sS) (body:=fn103.body) (ρ:=[some (.ref d),some (.int co),some (.int wd),some (.int g),none,none]) (F:=F) (k:=k+3) (h:=h) (h':=h4) (b:=b+5) ((two sDot 4 (by rw[l5];rfl) rfl _).trans ((s3 _).trans (zaf (by simp[exs,ev,cmpW,zar,l5,e4,r0])))) (.inr ⟨b,D⟩) (D4.mono (by omega)) (K1.new.trans K4)
    exact⟨_,h5,e5,may_s,D5,K5⟩
   .exact done (.str sDot) h4 .dot (D4.mono (by omega)) (K1.new.trans K4) ((two sDot 4 (by rw[l5];rfl) rfl _).trans ((s3 _).trans (zaa (by simp[exs,ev,cmpW,zar,l5,e4,r0]))))
  ·-- a zbp,if there are groups
   have n1:4<lot:=by omega
   have n2:¬(lot=4):=by omega
   have ha:∃j:Int,(if(5:Int)<lot then 5 else lot)=j/\atI [W.str sDot,.str sLt,.str sGt,.str sX,.str sDot,.str sDot] j=some (.str sDot):=⟨5,by split<;>omega,rfl⟩
   obtain⟨j,hj,ha⟩:=ha
   by_cases hg:0<g
   .obtain⟨ra,h4,e4,a0,a1,D4,K4⟩:=take C.toCoreD (k:=k) (m:=g) (D1.new (o:=.lst [W.str sDot,.str sLt,.str sGt,.str sX,.str sDot,.str sDot])) (by omega) hg (by omega)
    obtain⟨rb,h5,e5,b0,b1,D5,K5⟩:=take C.toCoreD (k:=k) (m:=2) D4 (by omega) (by omega) (by omega)
    exact done (.tup [.int ra,.int rb]) h5 (.rk a0 a1 b0 b1) (D5.mono (by omega)) ((K1.new.trans K4).trans K5) ((two sDot j hj ha _).trans ((zaa (ρ':=[some (.ref d),some (.int co),some (.int wd),some (.int g),some (.int lot),some (.tup [.int ra,.int rb])]) (h':=h5) (by simp[exs,ev,cmpW,cmpI,n1,hg,e4,e5])).trans (zaa (by simp[exs,ev,cmpW,zar,n2]))))
   .exact done (.str sDot) (h1'.new (.lst [W.str sDot,.str sLt,.str sGt,.str sX,.str sDot,.str sDot])) .dot (D1.new.mono (by omega)) K1.new ((two sDot j hj ha _).trans ((zaa (ρ':=[some (.ref d),some (.int co),some (.int wd),some (.int g),some (.int lot),some (.str sDot)]) (h':=h1'.new (.lst [W.str sDot,.str sLt,.str sGt,.str sX,.str sDot,.str sDot])) (by simp[exs,ev,cmpW,cmpI,n1,hg])).trans (zaa (by simp[exs,ev,cmpW,zar,n2]))))
theorem zw1{k:Nat}{h:VH}{d c b:Nat}{wd:Nat}{g:Int}(D:Dk h d c b)(hb:b+200<1000000000)(h1:wd<=40)(g0:0<=g)(g1:g<=8) :
 ∃ws h',run F (k+5) 104 [.ref d,.int wd,.int g] h=.ok (.tup ws) h'/\ws.length=wd/\rowOk wd g 0 ws/\Dk h' d c (b+200)/\Keep h h' d c:=by
 rw[zam C.f104 rfl]
 have D0:Dk ⟨h.n,h.n,h.os⟩ d c b:=D.lo
 obtain⟨ws,h2,e2,p2,l2,D2,K2⟩:=zcl (cl:=run F (k+4)) (P:=λi w=>zai w i wd g=true) (e:=zd2) (tl:=[some (.ref d),some (.int g),some (.int wd)]) (m:=5) (lim:=wd) (λi h b h0 hl D hb=>by
  obtain⟨w,h',e,a1,a2,a3⟩:=zpg C (k:=k) (co:=i) (wd:=wd) (g:=g) D hb h0 hl g0 g1
  exact⟨w,h',by simp[zd2,ev,e],a1,a2,a3⟩) wd 0 none ⟨h.n,h.n,h.os⟩ b (by omega) (by omega) D0 (by omega)
 have e3:=zhw (cl:=run F (k+4)) (a:=.cons (.var 1) .nil) (ρ:=[some (.ref d),some (.int wd),some (.int g)]) (h:=⟨h.n,h.n,h.os⟩) (ow:=1) (ix:=[0,2,1]) (e:=zd2) (by simp[ev]) (by omega) e2 (by omega)
 obtain⟨h5,e5,D5,K5⟩:=zbm (cl:=run F (k+4)) (fl:=.nx []) (w:=.tup ws) (body:=fn104.body) (ρ:=[some (.ref d),some (.int wd),some (.int g)]) (F:=F) (k:=k+4) (h:=h) (h':=h2.new (.lst ws)) (by simp only[fn104,exs,e3,bindok]) (.inr ⟨b,D⟩) (D2.new.mono (show _<=b+200 by omega)) K2.new
 exact⟨ws,h5,e5,l2,zfx p2,D5,K5⟩
theorem zix{k:Nat}{h:VH}{d c b:Nat}{nf:Int}(D:Dk h d c b)(hb:b+5<1000000000)(n0:1<=nf)(n1:nf<=4) :
 ∃w h',run F (k+4) 23 [.ref d,.int nf] h=.ok w h'/\door w nf=true/\Dk h' d c (b+5)/\Keep h h' d c:=by
 rw[zam C.f23 rfl]
 have D0:Dk ⟨h.n,h.n,h.os⟩ d c b:=D.lo
 obtain⟨r1,h1,e1,a1,b1,D1,K1⟩:=take C.toCoreD (k:=k) (m:=3) D0 (by omega) (by omega) (by omega)
 obtain⟨r2,h2,e2,a2,b2,D2,K2⟩:=take C.toCoreD (k:=k) (m:=100) D1 (by omega) (by omega) (by omega)
 have hg:=zao (h:=h2) (o:=.lst [.int r1,.int r2])
 obtain⟨r3,h3,e3,a3,b3,D3,K3⟩:=take C.toCoreD (k:=k) (m:=4) (D2.new (o:=.lst [.int r1,.int r2])) (by omega) (by omega) (by omega)
 obtain⟨r4,h4,e4,a4,b4,D4,K4⟩:=take C.toCoreD (k:=k) (m:=nf) D3 (by omega) (by omega) (by omega)
 obtain⟨r5,h5,e5,a5,b5,D5,K5⟩:=take C.toCoreD (k:=k) (m:=8) D4 (by omega) (by omega) (by omega)
 obtain⟨_,ns,cells,p,q,gd,gc,_⟩:=D2
 have hg3:h3.get h2.n=some (.lst [.int r1,.int r2]):=K3.get _ _ (Nat.ne_of_gt (zaj gd)) (Nat.ne_of_gt (zaj gc)) hg
 have KK:Keep ⟨h.n,h.n,h.os⟩ h5 d c:=((((K1.trans K2).new (o:=.lst [.int r1,.int r2])).trans K3).trans K4).trans K5
 have nm:∃x:Int,0<=x/\x<=99/\exs (run F (k+3)) (.set 2 (.idx (.lst (.cons (.call 5 (.cons (.var 0) (.cons (.cst (.int (3))) .nil))) (.cons (.call 5 (.cons (.var 0) (.cons (.cst (.int (100))) .nil))) .nil))) (.bi .int (.cons (.cmp .eq (.call 5 (.cons (.var 0) (.cons (.cst (.int (4))) .nil))) (.cst (.int (0)))) .nil)))) [some (.ref d),some (.int nf),none,none] ⟨h.n,h.n,h.os⟩=.ok (.nx [some (.ref d),some (.int nf),some (.int x),none]) h3:=by
  have i0:atI [W.int r1,.int r2] 0=some (.int r1):=rfl
  have i1:atI [W.int r1,.int r2] 1=some (.int r2):=rfl
  by_cases z:r3=0
  .exact⟨r2,a2,by omega,by simp[exs,ev,e1,e2,e3,cmpW,zar,z,biW,intW,idxW,hg3,i1]⟩
  .exact⟨r1,a1,by omega,by simp[exs,ev,e1,e2,e3,cmpW,zar,z,biW,intW,idxW,hg3,i0]⟩
 obtain⟨x,x0,x1,ex⟩:=nm
 have e6:exs (run F (k+3)) (.set 3 (.call 5 (.cons (.var 0) (.cons (.var 1) .nil)))) [some (.ref d),some (.int nf),some (.int x),none] h3=.ok (.nx [some (.ref d),some (.int nf),some (.int x),some (.int r4)]) h4:=by simp[exs,ev,e4]
 have hd:∀w:W,w=.tup [.int x,.non]\/w=.tup [.int x,.int r4]->door w nf=true:=by
  intro w hw
  rcases hw with rfl|rfl
  .simp[door,within,fon,isNon,x0,x1]
  .simp only[door,within,fon,isNon,vab,vaw,Bool.false_or]
   omega
 have body:∃w,exs (run F (k+3)) fn23.body [some (.ref d),some (.int nf),none,none] ⟨h.n,h.n,h.os⟩=.ok (.rt w) h5/\door w nf=true:=by
  by_cases z:r5=0
  .exact⟨.tup [.int x,.non],(zaa ex).trans ((zaa e6).trans (by simp[exs,ev,e5,cmpW,zar,z])),hd _ (.inl rfl)⟩
  .exact⟨.tup [.int x,.int r4],(zaa ex).trans ((zaa e6).trans (by simp[exs,ev,e5,cmpW,zar,z])),hd _ (.inr rfl)⟩
 obtain⟨w,eb,hw⟩:=body
 obtain⟨h6,e7,D6,K6⟩:=zbm (cl:=run F (k+3)) (fl:=.nx []) eb (.inr ⟨b,D⟩) (D5.mono (show _<=b+5 by omega)) KK
 exact⟨w,h6,e7,hw,D6,K6⟩
theorem zk7{k:Nat}{d c wd n b:Nat}{g:Int}{h:VH}{x:Option W}(D:Dk h d c b)(hb:b+200*n<1000000000)(h1:wd<=40)(g0:0<=g)(g1:g<=8) :
 ∃(rs:List (List W)) (h':VH),lcL (tgW (.one 0)) (λ_ h=>.ok (.bl true) h) (ev (run F (k+5)) (.call 104 (.cons (.var 1) (.cons (.var 3) (.cons (.var 2) .nil))))) (zay 0 n) [x,some (.ref d),some (.int g),some (.int wd)] h=.ok (rs.map .tup) h'/\rs.length=n/\(∀r∈rs,(r.length:Int)=wd/\rowOk wd g 0 r)/\Dk h' d c (b+200*n)/\Keep h h' d c:=by
 obtain⟨ws,h',e,p,l,D',K'⟩:=zcl (cl:=run F (k+5)) (P:=λ_ w=>∃r,w=.tup r/\(r.length:Int)=wd/\rowOk wd g 0 r) (e:=.call 104 (.cons (.var 1) (.cons (.var 3) (.cons (.var 2) .nil)))) (tl:=[some (.ref d),some (.int g),some (.int wd)]) (m:=200) (lim:=n) (λi h b _ _ D hb=>by
  obtain⟨ws,h',e,a1,a2,a3,a4⟩:=zw1 C (k:=k) (wd:=wd) (g:=g) D hb h1 g0 g1
  exact⟨.tup ws,h',by simp[ev,e],⟨ws,rfl,by omega,a2⟩,a3,a4⟩) n 0 x h b (by omega) (by omega) D hb
 replace p:=zcc p
 have hr:∃rs:List (List W),ws=rs.map .tup/\∀r∈rs,(r.length:Int)=wd/\rowOk wd g 0 r:=by
  clear e l
  induction ws with
  |nil=>exact⟨[],rfl,λr hr=>by cases hr⟩
  |cons w ws ih=>
   obtain⟨rs,e1,e2⟩:=ih λw hw=>p w (vad _ hw)
   obtain⟨r,e3,e4⟩:=p w vag
   refine⟨r::rs,by rw[e3,e1];rfl,λq hq=>?_⟩
   rcases va2.mp hq with rfl|hq
   .exact e4
   .exact e2 q hq
 obtain⟨rs,rfl,hrs⟩:=hr
 exact⟨rs,h',e,by rw[<-l,vaf],hrs,D',K'⟩
theorem ziy{k:Nat}{d c wd n b:Nat}{h:VH}{x:Option W}(D:Dk h d c b)(hb:b+1*n<1000000000)(h0:1<=wd)(h1:wd<=40) :
 ∃(fs:List W) (h':VH),lcL (tgW (.one 0)) (λ_ h=>.ok (.bl true) h) (ev (run F (k+3)) (.call 5 (.cons (.var 1) (.cons (.var 2) .nil)))) (zay 0 n) [x,some (.ref d),some (.int wd)] h=.ok fs h'/\fs.length=n/\(∀f∈fs,within f 0 ((wd:Int)-1)=true)/\Dk h' d c (b+1*n)/\Keep h h' d c:=by
 obtain⟨ws,h',e,p,l,D',K'⟩:=zcl (cl:=run F (k+3)) (P:=λ_ w=>within w 0 ((wd:Int)-1)=true) (e:=.call 5 (.cons (.var 1) (.cons (.var 2) .nil))) (tl:=[some (.ref d),some (.int wd)]) (m:=1) (lim:=n) (λi h b _ _ D hb=>by
  obtain⟨r,h',e,a1,a2,a3,a4⟩:=take C.toCoreD (k:=k) (m:=wd) D (by omega) (by omega) (by omega)
  exact⟨.int r,h',by simp[ev,e],by simp only[within,vab,vaw];omega,a3,a4⟩) n 0 x h b (by omega) (by omega) D hb
 exact⟨ws,h',e,l,zcc p,D',K'⟩
theorem znh{k:Nat}{d c n b:Nat}{h:VH}{x:Option W}{fs:List W}(D:Dk h d c b)(hb:b+5*n<1000000000)(h0:1<=fs.length)(h1:fs.length<=4) :
 ∃(ds:List W) (h':VH),lcL (tgW (.one 0)) (λ_ h=>.ok (.bl true) h) (ev (run F (k+4)) (.call 23 (.cons (.var 1) (.cons (.bi .len (.cons (.var 2) .nil)) .nil)))) (zay 0 n) [x,some (.ref d),some (.tup fs)] h=.ok ds h'/\ds.length=n/\(∀w∈ds,door w fs.length=true)/\Dk h' d c (b+5*n)/\Keep h h' d c:=by
 obtain⟨ws,h',e,p,l,D',K'⟩:=zcl (cl:=run F (k+4)) (P:=λ_ w=>door w fs.length=true) (e:=.call 23 (.cons (.var 1) (.cons (.bi .len (.cons (.var 2) .nil)) .nil))) (tl:=[some (.ref d),some (.tup fs)]) (m:=5) (lim:=n) (λi h b _ _ D hb=>by
  obtain⟨w,h',e,a1,a2,a3⟩:=zix C (k:=k) (nf:=fs.length) D hb (by omega) (by omega)
  exact⟨w,h',by simp[ev,e,biW,lenW,seqW],a1,a2,a3⟩) n 0 x h b (by omega) (by omega) D hb
 exact⟨ws,h',e,l,zcc p,D',K'⟩
theorem zph{k:Nat}{h:VH}{d c b:Nat}{mw mr mg:Int}(D:Dk h d c b)(hb:b+13000<1000000000)(w0:1<=mw)(w1:mw<=40)(r0:0<=mr)(r1:mr<=60)(g0:0<=mg)(g1:mg<=8) :
 ∃B h',run F (k+6) 129 [.ref d,.int mw,.int mr,.int mg] h=.ok (Bd.w B) h'/\B.Ok/\B.wd<=mw/\B.gr<=mg/\(B.rows.length:Int)<=mr/\Dk h' d c (b+13000)/\Keep h h' d c:=by
 rw[zam C.f129 rfl]
 have D0:Dk ⟨h.n,h.n,h.os⟩ d c b:=D.lo
 obtain⟨t1,h1,e1,a1,b1,D1,K1⟩:=take C.toCoreD (k:=k+2) (m:=mw) D0 (by omega) (by omega) (by omega)
 obtain⟨wd,hwd⟩:=vas (show 0<=1+t1 by omega)
 obtain⟨gr,h2,e2,a2,b2,D2,K2⟩:=take C.toCoreD (k:=k+2) (m:=mg+1) D1 (by omega) (by omega) (by omega)
 obtain⟨t3,h3,e3,a3,b3,D3,K3⟩:=take C.toCoreD (k:=k+2) (m:=mr+1) D2 (by omega) (by omega) (by omega)
 obtain⟨nr,hnr⟩:=vas a3
 obtain⟨rs,h4,e4,l4,p4,D4,K4⟩:=zk7 C (k:=k) (n:=nr) (wd:=wd) (g:=gr) (x:=none) D3 (by omega) (by omega) a2 (by omega)
 have D4':=D4.new (o:=.lst (rs.map .tup))
 obtain⟨t5,h5,e5,a5,b5,D5,K5⟩:=take C.toCoreD (k:=k+2) (m:=4) D4' (by omega) (by omega) (by omega)
 obtain⟨nf,hnf⟩:=vas (show 0<=1+t5 by omega)
 obtain⟨fs,h6,e6,l6,p6,D6,K6⟩:=ziy C (k:=k+2) (n:=nf) (wd:=wd) (x:=none) D5 (by omega) (by omega) (by omega)
 have D6':=D6.new (o:=.lst fs)
 obtain⟨ds,h7,e7,l7,p7,D7,K7⟩:=znh C (k:=k+1) (n:=wd) (fs:=fs) (x:=none) D6' (by omega) (by omega) (by omega)
 obtain⟨hne,ns,cells,p,q,gd,gc,_⟩:=D4
 have gl:(h7.new (.lst ds)).get h4.n=some (.lst (rs.map .tup)):=by
  have n1:h4.n≠d:=Nat.ne_of_gt (zaj gd)
  have n2:h4.n≠c:=Nat.ne_of_gt (zaj gc)
  have q1:=K5.get h4.n _ n1 n2 zao
  have q2:=K6.get h4.n _ n1 n2 q1
  have q3:(h6.new (.lst fs)).get h4.n=some (.lst (rs.map .tup)):=by rw[zad (zaj q2)];exact q2
  have q4:=K7.get h4.n _ n1 n2 q3
  rw[zad (zaj q4)];exact q4
 have s1:exs (run F (k+5)) (.set 4 (.op .add (.cst (.int (1))) (.call 5 (.cons (.var 0) (.cons (.var 1) .nil))))) [some (.ref d),some (.int mw),some (.int mr),some (.int mg),none,none,none,none,none] ⟨h.n,h.n,h.os⟩=.ok (.nx [some (.ref d),some (.int mw),some (.int mr),some (.int mg),some (.int wd),none,none,none,none]) h1:=by
  simp[exs,ev,e1,opW,opI,hwd]
 have s2:exs (run F (k+5)) (.set 5 (.call 5 (.cons (.var 0) (.cons (.op .add (.var 3) (.cst (.int (1)))) .nil)))) [some (.ref d),some (.int mw),some (.int mr),some (.int mg),some (.int wd),none,none,none,none] h1=.ok (.nx [some (.ref d),some (.int mw),some (.int mr),some (.int mg),some (.int wd),some (.int gr),none,none,none]) h2:=by
  simp[exs,ev,e2,opW,opI]
 have s3:=zqe (cl:=run F (k+5)) (a:=.cons (.call 5 (.cons (.var 0) (.cons (.op .add (.var 2) (.cst (.int (1)))) .nil))) .nil) (ρ:=[some (.ref d),some (.int mw),some (.int mr),some (.int mg),some (.int wd),some (.int gr),none,none,none]) (h:=h2) (h1:=h3) (n:=nr) (ow:=1) (ix:=[0,5,4]) (by simp[ev,opW,opI,e3,hnr]) (by omega) e4 (by rw[vaf];omega)
 have s4:=zhw (cl:=run F (k+5)) (a:=.cons (.op .add (.cst (.int (1))) (.call 5 (.cons (.var 0) (.cons (.cst (.int (4))) .nil)))) .nil) (ρ:=[some (.ref d),some (.int mw),some (.int mr),some (.int mg),some (.int wd),some (.int gr),some (.ref h4.n),none,none]) (h:=h4.new (.lst (rs.map .tup))) (h1:=h5) (n:=nf) (ow:=1) (ix:=[0,4]) (by simp[ev,opW,opI,e5,hnf]) (by omega) e6 (by omega)
 have s5:=zhw (cl:=run F (k+5)) (a:=.cons (.var 4) .nil) (ρ:=[some (.ref d),some (.int mw),some (.int mr),some (.int mg),some (.int wd),some (.int gr),some (.ref h4.n),some (.tup fs),none]) (h:=h6.new (.lst fs)) (h1:=h6.new (.lst fs)) (n:=wd) (ow:=1) (ix:=[0,7]) (by simp[ev]) (by omega) e7 (by omega)
 have body:exs (run F (k+5)) fn129.body [some (.ref d),some (.int mw),some (.int mr),some (.int mg),none,none,none,none,none] ⟨h.n,h.n,h.os⟩=.ok (.rt (Bd.w ⟨wd,gr,rs,fs,ds⟩)) (h7.new (.lst ds)):=by
  refine(zaa s1).trans ((zaa s2).trans ?_)
  refine(zaa (ρ':=[some (.ref d),some (.int mw),some (.int mr),some (.int mg),some (.int wd),some (.int gr),some (.ref h4.n),none,none]) (h':=h4.new (.lst (rs.map .tup))) (by unfold zj3;simp only[exs,s3,bindok];rfl)).trans ?_
  refine(zaa (ρ':=[some (.ref d),some (.int mw),some (.int mr),some (.int mg),some (.int wd),some (.int gr),some (.ref h4.n),some (.tup fs),none]) (h':=h6.new (.lst fs)) (by unfold zj4;simp only[exs,s4,bindok];rfl)).trans ?_
  refine(zaa (ρ':=[some (.ref d),some (.int mw),some (.int mr),some (.int mg),some (.int wd),some (.int gr),some (.ref h4.n),some (.tup fs),some (.tup ds)]) (h':=h7.new (.lst ds)) (by unfold zj5;simp only[exs,s5,bindok];rfl)).trans ?_
  simp[exs,ev,biW,zee,seqW,gl,Bd.w]
 have KK:Keep ⟨h.n,h.n,h.os⟩ (h7.new (.lst ds)) d c:=((((((K1.trans K2).trans K3).trans K4).new.trans K5).trans K6).new.trans K7).new
 obtain⟨h8,e8,D8,K8⟩:=zbm (cl:=run F (k+5)) (fl:=.nx []) body (.inr ⟨b,D⟩) (D7.new.mono (show _<=b+13000 by omega)) KK
 refine⟨⟨wd,gr,rs,fs,ds⟩,h8,e8,⟨by show(1:Int)<=wd;omega,by show(wd:Int)<=40;omega,a2,by show gr<=8;omega,by show rs.length<=60;omega,p4,by show 1<=fs.length;omega,by show fs.length<=4;omega,p6,by show(ds.length:Int)=wd;omega,p7⟩,by show(wd:Int)<=mw;omega,by show gr<=mg;omega,by show(rs.length:Int)<=mr;omega,D8,K8⟩
end
theorem zw2{nx:Nat->VH->Option (Option W)}{e:FE}{h:VH}{ws:List W}{x:W}{tl:En}{f:W->W}(hx:∀i,nx i h=some ws[i]?)(he:∀w∈ws,e (some x::some w::tl) h=.ok (f w) h) :
 ∀(fu i:Nat)(b:Option W)(acc:List W),i<=ws.length->ws.length<fu+i->∃b',lcI nx (tgW (.one 1)) (λ_ h=>.ok (.bl true) h) e fu i (some x::b::tl) h acc=.ok (some x::b'::tl,((ws.drop i).map f).reverse++acc) h
 |0,i,b,acc,hi,hl=>by omega
 |fu+1,i,b,acc,hi,hl=>by
  cases q:ws[i]? with
  |none=>
   rw[List.drop_eq_nil_of_le (vaz.mp q)]
   exact⟨b,by simp only[lcI,hx,q];rfl⟩
  |some w=>
   obtain⟨hi,ee⟩:=vav.mp q
   obtain⟨b',ih⟩:=zw2 hx he fu (i+1) (some w) (f w::acc) hi (by omega)
   refine⟨b',?_⟩
   simp only[lcI,hx,q,tgW,vau,vap,bindok,he w (List.mem_of_getElem? q),ih]
   rw[List.drop_eq_getElem_cons hi,ee]
   simp
theorem zni{nx:Nat->VH->Option (Option W)}{c e:FE}{h:VH}{ws:List W}{tl:En}{p:W->Bool}{f:W->W}(hx:∀i,nx i h=some ws[i]?)(hc:∀w∈ws,c (some w::tl) h=.ok (.bl (p w)) h)(he:∀w∈ws,e (some w::tl) h=.ok (f w) h) :
 ∀(fu i:Nat)(a:Option W)(acc:List W),i<=ws.length->ws.length<fu+i->lcG nx (tgW (.one 0)) c e fu i (a::tl) h acc=.ok (acc.reverse++((ws.drop i).filter p).map f) h
 |0,i,a,acc,hi,hl=>by omega
 |fu+1,i,a,acc,hi,hl=>by
  cases q:ws[i]? with
  |none=>
   rw[List.drop_eq_nil_of_le (vaz.mp q)]
   simp only[lcG,hx,q];simp
  |some w=>
   obtain⟨hi,ee⟩:=vav.mp q
   have hm:=List.mem_of_getElem? q
   simp only[lcG,hx,q,tgW,vap,hc w hm,bindok]
   rw[List.drop_eq_getElem_cons hi,ee]
   cases z:p w with
   |true=>
    simp only[he w hm,bindok]
    rw[zni hx hc he fu (i+1) (some w) (f w::acc) hi (by omega)]
    simp[z]
   |false=>
    rw[zni hx hc he fu (i+1) (some w) acc hi (by omega)]
    simp[z]
theorem zc3{h:VH}{w:W}{d:PyData}(p:zaz 24 w=true)(e:toD h 24 w=some d):SeqAt.shaped d=true:=by
 obtain⟨d',h1,h2,h3⟩:=zcy h 24 w p
 rw[e]at h1;cases h1
 unfold SeqAt.shaped
 rw[h2,Bool.true_and,vaw];omega
noncomputable abbrev Stn:=List Int×Option Nat
noncomputable def stW(s:Stn):W:=.tup [iW s.1,optW s.2]
noncomputable def dkS(s:Stn):DK:=(s.1,s.2.map λ(f:Nat)=>(f:Int))
theorem zgu:∀ls:List Int,mapO intD (ls.map .int)=some ls
 |[]=>rfl
 |x::ls=>by
  have h:=zgu ls
  rw[vam]
  unfold mapO
  simp only[intD,h]
theorem zes(s:Stn):keyD (stW s)=some (dkS s):=by
 obtain⟨ls,fo⟩:=s
 cases fo with
 |none=>simp[stW,iW,optW,keyD,zgu,dkS]
 |some f=>simp[stW,iW,optW,keyD,zgu,dkS]
theorem zsy{s t:Stn}(h:dkS s=dkS t):s=t:=by
 obtain⟨ls,fo⟩:=s
 obtain⟨ms,go⟩:=t
 unfold dkS at h
 have h1:=congrArg Prod.fst h
 have h2:=congrArg Prod.snd h
 simp only at h1 h2
 subst h1
 cases fo<;>cases go<;>simp at h2 ⊢
 omega
noncomputable def za0:Str:=PySem.Str.ofString "board"
noncomputable def zbb:Str:=PySem.Str.ofString "fault"
noncomputable def sOut:Str:=PySem.Str.ofString "outcomes"
noncomputable def fn344(C:Addr):Fn:=⟨3,3,(.seq (.sat C za0 (.var 0) (.var 1)) (.seq (.sat C zbb (.var 0) (.var 2)) (.seq (.sat C sOut (.var 0) (.dsp .nil)) .skip)))⟩
noncomputable def fn345(C:Addr):Fn:=⟨3,4,(.seq (.set 3 (.tup (.cons (.var 1) (.cons (.var 2) .nil)))) (.seq (.ite (.cmp .nin (.var 3) (.att C sOut (.var 0))) (.seq (.put (.att C sOut (.var 0)) (.var 3) (.call 176 (.cons (.att C za0 (.var 0)) (.cons (.var 1) (.cons (.var 2) (.cons (.att C zbb (.var 0)) .nil)))))) .skip) .skip) (.seq (.ret (.idx (.att C sOut (.var 0)) (.var 3))) .skip)))⟩
noncomputable def fn347(C:Addr):Fn:=⟨2,2,(.seq (.ret (.mk C 344 (.cons (.var 0) (.cons (.var 1) .nil)))) .skip)⟩
noncomputable def zbv(C:Addr):S:=(.seq (.unp [5,1] (.mcall C (PySem.Str.ofString "fall") 345 (.var 0) (.cons (.var 1) (.cons (.var 4) .nil)))) (.seq (.expr (.mt .append (.var 3) (.cons (.idx (.var 5) (.cst (.int (0)))) .nil))) .skip))
noncomputable def fn179(C:Addr):Fn:=⟨3,6,(.seq (.set 3 (.lst .nil)) (.seq (.«for» .seq (.var 2) (.one 4) (zbv C)) (.seq (.ret (.tup (.cons (.bi .tuple (.cons (.var 3) .nil)) (.cons (.var 1) .nil)))) .skip)))⟩
noncomputable def fn180:Fn:=⟨2,2,(.seq (.ite (.not (.tru (.call 28 (.cons (.var 1) (.cons (.bi .len (.cons (.idx (.var 0) (.cst (.int (3)))) .nil)) (.cons (.cst (.int (2000))) .nil)))))) (.seq .no .skip) .skip) .skip)⟩
structure CoreO(F:Nat->Option Fn)(c:Addr):Prop extends CoreY0 F where
 f176:F 176=some fn176
 f344:F 344=some (fn344 c)
 f345:F 345=some (fn345 c)
 f347:F 347=some (fn347 c)
 f179:F 179=some (fn179 c)
noncomputable def flds:List Str:=[za0,zbb,sOut]
theorem sBF:(zbb=za0)=False:=by simp only[eq_iff_iff,iff_false];decide +kernel
theorem sBO:(za0=sOut)=False:=by simp only[eq_iff_iff,iff_false];decide +kernel
theorem sFO:(zbb=sOut)=False:=by simp only[eq_iff_iff,iff_false];decide +kernel
theorem sBF':(za0=zbb)=False:=by simp only[eq_iff_iff,iff_false];decide +kernel
theorem zqi{h:VH}{i b:Nat}{o:VO}(h1:b<=h.lo)(h2:b<=i):b<=(h.set i o).lo:=by
 unfold VH.set
 simp only
 split<;>assumption
theorem zsz{a b e:W}:lookF (PySem.Str.ofString "fall") flds [a,b,e]=none:=by
 have h1:(za0=PySem.Str.ofString "fall")=False:=by simp only[eq_iff_iff,iff_false];decide +kernel
 have h2:(zbb=PySem.Str.ofString "fall")=False:=by simp only[eq_iff_iff,iff_false];decide +kernel
 have h3:(sOut=PySem.Str.ofString "fall")=False:=by simp only[eq_iff_iff,iff_false];decide +kernel
 simp only[flds,lookF,h1,h2,h3,if_false]
section
variable{F:Nat->Option Fn}{c:Addr}(C:CoreO F c)
include C
theorem init3{k:Nat}{h:VH}{w1 w2:W}:run F (k+1) 344 [.ref h.n,w1,w2] (h.new (.ins c [] []))=.ok .non ⟨h.n+2,if Nat.ble h.lo h.n then h.lo else h.n,.dt [] [] :: .ins c flds [w1,w2,.ref (h.n+1)]::h.os⟩:=by
 rw[zam C.f344 rfl]
 have b1:Nat.blt h.n (h.n+1)=true:=zal.mpr (by omega)
 have b2:Nat.blt h.n (h.n+2)=true:=zal.mpr (by omega)
 have b3:Nat.blt h.n h.n=false:=by
  cases z:Nat.blt h.n h.n with
  |false=>rfl
  |true=>exact absurd (zal.mp z) (Nat.lt_irrefl _)
 have b4:Nat.ble (h.n+1) h.n=false:=by
  cases z:Nat.ble (h.n+1) h.n with
  |false=>rfl
  |true=>exact absurd (va1 z) (by omega)
 have s1:exs (run F k) (.sat c za0 (.var 0) (.var 1)) [some (.ref h.n),some w1,some w2] ⟨h.n+1,h.n+1,.ins c [] []::h.os⟩=.ok (.nx [some (.ref h.n),some w1,some w2]) ⟨h.n+1,h.n,.ins c [za0] [w1]::h.os⟩:=by
  have g:(VH.mk (h.n+1) (h.n+1) (.ins c [] []::h.os)).get h.n=some (.ins c [] []):=zao (h:=⟨h.n,h.n+1,h.os⟩)
  rw[exs,varE rfl,bindok,varE rfl,bindok]
  simp only[satW,g,decide_true,Bool.true_and]
  rw[if_pos (by decide)]
  unfold VH.set
  simp only[b1,if_true,show h.n+1-1-h.n=0 by omega,vap,putN,putV]
 have s2:exs (run F k) (.sat c zbb (.var 0) (.var 2)) [some (.ref h.n),some w1,some w2] ⟨h.n+1,h.n,.ins c [za0] [w1]::h.os⟩=.ok (.nx [some (.ref h.n),some w1,some w2]) ⟨h.n+1,h.n,.ins c [za0,zbb] [w1,w2]::h.os⟩:=by
  have g:(VH.mk (h.n+1) h.n (.ins c [za0] [w1]::h.os)).get h.n=some (.ins c [za0] [w1]):=zao (h:=⟨h.n,h.n,h.os⟩)
  rw[exs,varE rfl,bindok,varE rfl,bindok]
  simp only[satW,g,decide_true,Bool.true_and]
  rw[if_pos (by decide)]
  unfold VH.set
  simp only[b3,vak,if_false,show h.n+1-1-h.n=0 by omega,vap,putN,putV,sBF']
 have s3:exs (run F k) (.sat c sOut (.var 0) (.dsp .nil)) [some (.ref h.n),some w1,some w2] ⟨h.n+1,h.n,.ins c [za0,zbb] [w1,w2]::h.os⟩=.ok (.nx [some (.ref h.n),some w1,some w2]) ⟨h.n+2,h.n,.dt [] [] :: .ins c flds [w1,w2,.ref (h.n+1)]::h.os⟩:=by
  have ed:ev (run F k) (.dsp .nil) [some (.ref h.n),some w1,some w2] ⟨h.n+1,h.n,.ins c [za0,zbb] [w1,w2]::h.os⟩=.ok (.ref (h.n+1)) ⟨h.n+2,h.n,.dt [] [] :: .ins c [za0,zbb] [w1,w2]::h.os⟩:=rfl
  have g:(VH.mk (h.n+2) h.n (.dt [] [] :: .ins c [za0,zbb] [w1,w2]::h.os)).get h.n=some (.ins c [za0,zbb] [w1,w2]):=by
   unfold VH.get
   simp only[b2,if_true,show h.n+2-1-h.n=1 by omega]
   rfl
  rw[exs,ed,bindok,varE rfl,bindok]
  simp only[satW,g,decide_true,Bool.true_and]
  rw[if_pos (by decide)]
  unfold VH.set
  simp only[b3,vak,if_false,show h.n+2-1-h.n=1 by omega,vap,vau,putN,putV,sBO,sFO,flds]
 have eb:exs (run F k) (fn344 c).body [some (.ref h.n),some w1,some w2] ⟨h.n+1,h.n+1,.ins c [] []::h.os⟩=.ok (.nx [some (.ref h.n),some w1,some w2]) ⟨h.n+2,h.n,.dt [] [] :: .ins c flds [w1,w2,.ref (h.n+1)]::h.os⟩:=(zaa s1).trans ((zaa s2).trans ((zaa s3).trans rfl))
 show fin (h.new (.ins c [] [])) (exs (run F k) (fn344 c).body [some (.ref h.n),some w1,some w2] ⟨h.n+1,h.n+1,.ins c [] []::h.os⟩)=_
 rw[eb]
 show leave (h.new (.ins c [] [])) .non _=_
 unfold leave
 show(if(Nat.ble (h.n+1) h.n&&_)=true then _ else _)=_
 rw[b4,Bool.false_and,if_neg Bool.false_ne_true]
 rfl
theorem znj{k:Nat}{h:VH}{w1 w2:W}:∃lo,run F (k+2) 347 [w1,w2] h=.ok (.ref h.n) ⟨h.n+2,lo,.dt [] [] :: .ins c flds [w1,w2,.ref (h.n+1)]::h.os⟩/\∀z,z<=h.lo->z<=h.n->z<=lo:=by
 rw[zam C.f347 rfl]
 have e:=init3 C (k:=k) (h:=⟨h.n,h.n,h.os⟩) (w1:=w1) (w2:=w2)
 have hbb:Nat.ble h.n h.n=true:=Nat.ble_eq.mpr (vae _)
 have ea:ev (run F (k+1)) (.cons (.var 0) (.cons (.var 1) .nil)) [some w1,some w2] ⟨h.n,h.n,h.os⟩=.ok (.tup [w1,w2]) ⟨h.n,h.n,h.os⟩:=by
  rw[ev,varE rfl,bindok,ev,varE rfl,bindok,ev];rfl
 have em:ev (run F (k+1)) (.mk c 344 (.cons (.var 0) (.cons (.var 1) .nil))) [some w1,some w2] ⟨h.n,h.n,h.os⟩=.ok (.ref h.n) ⟨h.n+2,h.n,.dt [] [] :: .ins c flds [w1,w2,.ref (h.n+1)]::h.os⟩:=by
  rw[ev,ea,bindok]
  show(run F (k+1) 344 [.ref h.n,w1,w2] _).bind _=_
  rw[e,bindok]
  simp only[hbb,if_true]
  rfl
 have eb:exs (run F (k+1)) (fn347 c).body [some w1,some w2] ⟨h.n,h.n,h.os⟩=.ok (.rt (.ref h.n)) ⟨h.n+2,h.n,.dt [] [] :: .ins c flds [w1,w2,.ref (h.n+1)]::h.os⟩:=zaf (retE em)
 refine⟨if Nat.ble h.lo h.n then h.lo else h.n,?_,λz h1 h2=>by split<;>assumption⟩
 show fin h (exs (run F (k+1)) (fn347 c).body [some w1,some w2] ⟨h.n,h.n,h.os⟩)=_
 rw[eb]
 show leave h (.ref h.n) _=_
 have hlt:W.lt h.n (.ref h.n)=false:=by
  show Nat.blt h.n h.n=false
  cases z:Nat.blt h.n h.n with
  |false=>rfl
  |true=>exact absurd (zal.mp z) (Nat.lt_irrefl _)
 unfold leave
 rw[hlt,Bool.and_false,if_neg Bool.false_ne_true]
end
structure CoreLn(F:Nat->Option Fn):Prop where
 f17:F 17=some fn17
 f22:F 22=some fn22
 f24:F 24=some fn24
structure CoreRw(F:Nat->Option Fn):Prop extends CoreLn F where
 f28:F 28=some fn28
 f180:F 180=some fn180
section
variable{F:Nat->Option Fn}(L:CoreLn F)(B':CoreB F)
include L B'
theorem ze2{k:Nat}{h:VH}{B:Bd}{ls:List Int}(b:B.Ok)(hl:(ls.length:Int)=B.gr)(bi:Bits ls):run F (k+9) 24 [B.w,iW ls] h=.ok .non h:=by
 have hg:=b.g2
 have w0:∀h:VH,run F (k+7) 17 [iW ls,.int B.gr] h=.ok (.bl true) h:=by
  intro h
  rw[zam L.f17 rfl]
  have e:=za8 B'.toCoreA (k:=k+3) (h:=⟨h.n,h.n,h.os⟩) (w:=iW ls) (a:=B.gr) (b:=B.gr) (lo:=0) (hi:=1) (by unfold Kn iW;simp) (λws e=>by
   cases e
   refine⟨by rw[vaf];omega,λx hx=>?_⟩
   obtain⟨y,_,rfl⟩:=List.mem_map.mp hx
   unfold Kn;simp)
  rw[znb hl bi]at e
  simp[fn17,exs,ev,e,zan]
 have w1:∀h:VH,run F (k+8) 22 [B.w,iW ls] h=.ok (.bl true) h:=by
  intro h
  rw[zam L.f22 rfl]
  have e:=zgr B' (k:=k) (h:=⟨h.n,h.n,h.os⟩) b
  have i0:idxW ⟨h.n,h.n,h.os⟩ B.w (.int 1)=some (.int B.gr):=rfl
  have e2:=w0 ⟨h.n,h.n,h.os⟩
  simp[fn22,exs,ev,e,i0,e2,zan]
 rw[zam L.f24 rfl]
 simp[fn24,exs,ev,w1,zjx]
end
section
variable{F:Nat->Option Fn}{c:Addr}(C:CoreO F c)(R:CoreRw F)(B':CoreB F)
include R B'
theorem zhz{k:Nat}{h:VH}{B:Bd}{r:List Nat}(hr:r.length<=2000)(hf:∀f∈r,f<B.fd.length):run F (k+5) 180 [B.w,.tup (rowW r)] h=.ok .non h:=by
 have e:∀h:VH,run F (k+4) 28 [.tup (rowW r),.int B.fd.length,.int 2000] h=.ok (.bl true) h:=by
  intro h
  rw[zam R.f28 rfl]
  have e:=za8 B'.toCoreA (k:=k) (h:=⟨h.n,h.n,h.os⟩) (w:=.tup (rowW r)) (a:=0) (b:=2000) (lo:=0) (hi:=B.fd.length-1) (by unfold Kn;simp) (λws e=>by
   cases e
   unfold rowW
   refine⟨by rw[vaf];omega,λx hx=>?_⟩
   obtain⟨y,_,rfl⟩:=List.mem_map.mp hx
   unfold Kn;simp)
  have e2:zb8 (.tup (rowW r)) 0 2000 0 (B.fd.length-1)=true:=by
   unfold rowW zb8 zav
   simp only[vaf,vab,vaw,List.all_eq_true]
   refine⟨⟨by omega,by omega⟩,λw hw=>?_⟩
   obtain⟨x,hx,rfl⟩:=List.mem_map.mp hw
   have:=hf x hx
   simp only[within,vab,vaw]
   omega
  rw[e2]at e
  simp[fn28,exs,ev,opW,opI,e,zan]
 rw[zam R.f180 rfl]
 have i3:idxW ⟨h.n,h.n,h.os⟩ B.w (.int 3)=some (.tup B.fd):=rfl
 simp[fn180,exs,ev,i3,biW,lenW,seqW,e,zjx]
include C
end
theorem allE{cl:Call}{a:E}{ρ:En}{h h1:VH}{j:Nat}{n:Nat}(ea:ev cl a ρ h=.ok (.ref j) h1)(g:h1.get j=some (.lst (List.replicate n (.bl true)))):ev cl (.bi .all (.cons a .nil)) ρ h=.ok (.bl true) h1:=by
 have hm:mapO blW (List.replicate n (W.bl true))=some (List.replicate n true):=by
  clear g
  induction n with
  |zero=>rfl
  |succ n ih=>simp only[List.replicate_succ,mapO,blW,ih]
 have ha:(List.replicate n true).all id=true:=by
  rw[List.all_eq_true];intro x hx;exact(List.mem_replicate.mp hx).2
 rw[ev,ev,ea,bindok,ev,bindok,bindok]
 show allW [.ref j] h1=_
 simp only[allW,g,hm,vat,ha,ofsome]
theorem neF{cl:Call}{a b:E}{ρ:En}{h h1 h2:VH}{w:W}(ea:ev cl a ρ h=.ok w h1)(eb:ev cl b ρ h1=.ok w h2)(p:zaz 24 w=true):ev cl (.cmp .ne a b) ρ h=.ok (.bl false) h2:=by
 rw[ev,ea,bindok,eb,bindok]
 simp only[cmpW,zpa p,vat,ofsome,Bool.not_true]
theorem notT{cl:Call}{a:E}{ρ:En}{h h1:VH}{b:Bool}(ea:ev cl a ρ h=.ok (.bl b) h1):ev cl (.not (.tru a)) ρ h=.ok (.bl (!b)) h1:=by
 rw[ev,truE ea,bindok]
theorem orF{cl:Call}{a b:E}{ρ:En}{h h1 h2:VH}{r:Bool}(ea:ev cl a ρ h=.ok (.bl false) h1)(eb:ev cl b ρ h1=.ok (.bl r) h2):ev cl (.or a b) ρ h=.ok (.bl r) h2:=by
 rw[ev,ea,bindok];exact eb
theorem andT{cl:Call}{a b:E}{ρ:En}{h h1 h2:VH}{r:Bool}(ea:ev cl a ρ h=.ok (.bl true) h1)(eb:ev cl b ρ h1=.ok (.bl r) h2):ev cl (.and a b) ρ h=.ok (.bl r) h2:=by
 rw[ev,ea,bindok];exact eb
noncomputable def hitN(fo:Option Nat)(a:Nat):Bool:=decide (fo=some a)
noncomputable def hitS(fo:Option Nat):W->Bool
 |.tup [.int g,.int _]=>hitN fo g.toNat
 |_=>false
noncomputable def stepF(fo:Option Nat)(w:W)(hd:Int)(ls:List Int):Option (Int×List Int×List Int):=if hitS fo w then(stepP w hd ls).map λq=>(q.1,[],ls)else stepP w hd ls
noncomputable def fallF(fo:Option Nat):List (List W)->Int->Int->List Int->Fa
 |[],_,_,ls=>⟨[],[],ls,false⟩
 |r::rs,c,hd,ls=>match stepF fo (colAt r c) hd ls with
  |none=>⟨[],[],ls,true⟩
  |some (d,t,l)=>⟨(c+d):: (fallF fo rs (c+d) d l).cs,t++(fallF fo rs (c+d) d l).ts,(fallF fo rs (c+d) d l).ls,(fallF fo rs (c+d) d l).st⟩
section
variable{fo:Option Nat}{hd:Int}{ls:List Int}
theorem ziz:stepF fo (.str sX) hd ls=some (hd,[],ls):=rfl
theorem zgv:stepF fo (.str sLt) hd ls=some (-1,[],ls):=rfl
theorem zgw:stepF fo (.str sGt) hd ls=some (1,[],ls):=rfl
theorem zet:stepF fo (.str sDot) hd ls=some (0,[],ls):=rfl
theorem zi0:stepF fo (.str sS) hd ls=none:=rfl
theorem zgx{a b:Nat}:stepF fo (.tup [.int a,.int b]) hd ls=some (if ls.getD a 0=b then -1 else 1,if hitN fo a then []else [(a:Int)],if hitN fo a then ls else ls.set a (1-ls.getD a 0)):=by
 unfold stepF
 rw[zm8,show hitS fo (.tup [.int a,.int b])=hitN fo a from rfl]
 cases hitN fo a<;>rfl
end
theorem zcm{h:VH}{a:Nat}{fo:Option Nat}:eqW h (.int a) (optW fo)=some (hitN fo a):=by
 cases fo with
 |none=>rfl
 |some f=>
  show eqW h (.int a) (.int f)=_
  rw[zar]
  congr 1
  show decide ((a:Int)=(f:Int))=decide (some f=some a)
  by_cases z:a=f
  .subst z;simp
  .rw[va3 (by omega),va3 (by simp;omega)]
theorem zgy{fo:Option Nat}{w:W}{c wd g hd:Int}{ls:List Int}(h:zai w c wd g=true)(c0:0<=c)(c1:c<wd)(h1:-1<=hd)(h2:hd<=1)(b:Bits ls){d:Int}{t l:List Int}(e:stepF fo w hd ls=some (d,t,l)):-1<=d/\d<=1/\0<=c+d/\c+d<wd/\l.length=ls.length/\Bits l/\t.length<=1:=by
 unfold stepF at e
 split at e
 .cases q:stepP w hd ls with
  |none=>rw[q]at e;cases e
  |some z=>
   obtain⟨d',t',l'⟩:=z
   rw[q]at e
   cases e
   obtain⟨a1,a2,a3,a4,_⟩:=zm9 h c0 c1 h1 h2 b q
   exact⟨a1,a2,a3,a4,rfl,b,Nat.zero_le _⟩
 .exact zm9 h c0 c1 h1 h2 b e
theorem zkb{fo:Option Nat}{wd g:Int}:∀(rs:List (List W)) (c hd:Int) (ls:List Int),zj6 wd g rs->0<=c->c<wd->-1<=hd->hd<=1->Bits ls->(fallF fo rs c hd ls).Ok wd c rs.length ls.length
 |[],c,hd,ls,_,c0,c1,_,_,b=>⟨rfl,b,by simp[fallF],by simp[fallF],by simp[fallF],by simp[fallF],⟨c0,c1⟩,by simp[fallF]⟩
 |r::rs,c,hd,ls,ok,c0,c1,h1,h2,b=>by
  obtain⟨_,hm⟩:=zfy (ok r vag) c0 c1
  unfold fallF
  cases e:stepF fo (colAt r c) hd ls with
  |none=>exact⟨rfl,b,by simp,by simp,by simp,by simp,⟨c0,c1⟩,by simp⟩
  |some q=>
   obtain⟨d,t,l⟩:=q
   obtain⟨a1,a2,a3,a4,a5,a6,a7⟩:=zgy hm c0 c1 h1 h2 b e
   have ih:=zkb (fo:=fo) rs (c+d) d l (λr hr=>ok r (vad _ hr)) a3 a4 a1 a2 a6
   refine⟨ih.l1.trans a5,ih.l2,λx hx=>?_,?_,λh=>?_,λh=>?_,ih.c4,?_⟩
   .rcases va2.mp hx with rfl|hx
    .exact⟨a3,a4⟩
    .exact ih.c1 x hx
   .simp only[vah];have:=ih.c2;omega
   .simp only[vah];have:=ih.c3 h;omega
   .simp only[vah];have:=ih.c5 h;omega
   .simp only[vah,vao];have:=ih.t1;omega
theorem zf0{fo:Option Nat}{r:List W}{rs:List (List W)}{c hd:Int}{ls:List Int}(e:stepF fo (colAt r c) hd ls=none):fallF fo (r::rs) c hd ls=⟨[],[],ls,true⟩:=by
 unfold fallF
 rw[e]
theorem zf1{fo:Option Nat}{r:List W}{rs:List (List W)}{c hd d:Int}{ls t l:List Int}(e:stepF fo (colAt r c) hd ls=some (d,t,l)):fallF fo (r::rs) c hd ls=⟨(c+d):: (fallF fo rs (c+d) d l).cs,t++(fallF fo rs (c+d) d l).ts,(fallF fo rs (c+d) d l).ls,(fallF fo rs (c+d) d l).st⟩:=by
 rw[fallF,e]
noncomputable def Bd.fallF(B:Bd)(fo:Option Nat)(ls:List Int)(f:Nat):Fa:=RF.fallF fo B.rows (B.col f) 0 ls
theorem Bd.Ok.fallF{fo:Option Nat}{B:Bd}(b:B.Ok){ls:List Int}{f:Nat}(hf:f<B.fd.length)(hl:(ls.length:Int)=B.gr)(bi:Bits ls):(B.fallF fo ls f).Ok B.wd (B.col f) B.rows.length ls.length:=
 zkb _ _ _ _ (b.rows hl) (b.col hf).2.1 (b.col hf).2.2 (by decide) (by decide) bi
noncomputable def wayF(B:Bd)(fo:Option Nat)(ls:List Int)(f:Nat):W:=.tup [iW (B.col f:: (B.fallF fo ls f).cs),iW (B.fallF fo ls f).ts,iW (B.fallF fo ls f).ls]
theorem zs0{B:Bd}{fo:Option Nat}{ls:List Int}{f n:Nat}:W.lt n (wayF B fo ls f)=true:=by
 unfold wayF
 simp[iW_lt]
section
variable{F:Nat->Option Fn}(C:CoreY0 F)
include C
theorem headF{fo:Option Nat}{k:Nat}{h0:VH}{gs:List VO}{cs ts:List W}{ls:List Int}{w:W}{c wd hd:Int}(hm:zai w c wd (ls.length:Int)=true) :
 run F (k+1) 173 [w,.int hd,.ref (h0.n+2),optW fo] (st3 h0 gs cs ts (ls.map .int))=match stepF fo w hd ls with
  |none=>.ok .non (st3 h0 gs cs ts (ls.map .int))
  |some (d,_,l)=>.ok (.int d) (st3 h0 gs cs ts (l.map .int)):=by
 rw[zam C.f173 rfl]
 rcases zc1 hm with⟨rfl,h3,h4⟩|⟨rfl,h3⟩|⟨rfl,h3⟩|rfl|rfl|⟨p,q,rfl,h3,h4,h5,h6⟩
 .rw[ziz];simp[fn173,exs,ev,cmpW,zan]
 .rw[zgv];simp[fn173,exs,ev,cmpW,zan]
 .rw[zgw];simp[fn173,exs,ev,cmpW,zan]
 .rw[zet];simp[fn173,exs,ev,cmpW,zan]
 .rw[zi0];simp[fn173,exs,ev,cmpW,zan]
 .rw[zgx]
  have hp:p<ls.length:=by omega
  have e1:=zqf hp
  have g:VH.get ⟨(st3 h0 gs cs ts (ls.map .int)).n,(st3 h0 gs cs ts (ls.map .int)).n,(st3 h0 gs cs ts (ls.map .int)).os⟩ (h0.n+2)=some (.lst (ls.map .int)):=by rw[get_lo];exact st_l
  have e2:ixN (ls.map W.int).length (p:Int)=some p:=zna (by rw[vaf];exact hp)
  cases hz:hitN fo p with
  |true=>
   have e3:exs (run F k) fn173.body [some (.tup [.int p,.int q]),some (.int hd),some (.ref (h0.n+2)),some (optW fo),none,none,none] ⟨(st3 h0 gs cs ts (ls.map .int)).n,(st3 h0 gs cs ts (ls.map .int)).n,(st3 h0 gs cs ts (ls.map .int)).os⟩=.ok (.rt (.int (if ls.getD p 0=q then -1 else 1))) ⟨(st3 h0 gs cs ts (ls.map .int)).n,(st3 h0 gs cs ts (ls.map .int)).n,(st3 h0 gs cs ts (ls.map .int)).os⟩:=by
    generalize ls.getD p 0=y at e1 ⊢
    by_cases z:y=(q:Int)
    .simp only[fn173,exs,ev,tgW,seqW,za5,Option.join_some,vax,List.getElem?_cons_zero,ofsome,bindok,isi_tup,vat,tru_bl,ty_tuple_tuple,vau,vap,idxW,g,e1,opW,opI,e2,cmpW,zar,zcm,hz,Bool.not_true,z,decide_true,if_true]
    .simp only[fn173,exs,ev,tgW,seqW,za5,Option.join_some,vax,List.getElem?_cons_zero,ofsome,bindok,isi_tup,vat,tru_bl,ty_tuple_tuple,vau,vap,idxW,g,e1,opW,opI,e2,cmpW,zar,zcm,hz,Bool.not_true,z,decide_false,if_false]
   show fin _ (exs (run F k) fn173.body [some (.tup [.int p,.int q]),some (.int hd),some (.ref (h0.n+2)),some (optW fo),none,none,none] _)=_
   rw[e3]
   exact zan (vae _) (by simp)
  |false=>
   have e3:exs (run F k) fn173.body [some (.tup [.int p,.int q]),some (.int hd),some (.ref (h0.n+2)),some (optW fo),none,none,none] ⟨(st3 h0 gs cs ts (ls.map .int)).n,(st3 h0 gs cs ts (ls.map .int)).n,(st3 h0 gs cs ts (ls.map .int)).os⟩=.ok (.rt (.int (if ls.getD p 0=q then -1 else 1))) (VH.set ⟨(st3 h0 gs cs ts (ls.map .int)).n,(st3 h0 gs cs ts (ls.map .int)).n,(st3 h0 gs cs ts (ls.map .int)).os⟩ (h0.n+2) (.lst ((ls.set p (1-ls.getD p 0)).map .int))):=by
    rw[List.map_set]
    generalize ls.getD p 0=y at e1 ⊢
    by_cases z:y=(q:Int)
    .simp only[fn173,exs,ev,tgW,seqW,za5,Option.join_some,vax,List.getElem?_cons_zero,ofsome,bindok,isi_tup,vat,tru_bl,ty_tuple_tuple,vau,vap,idxW,g,e1,opW,opI,e2,cmpW,zar,zcm,hz,Bool.not_false,z,decide_true,if_true]
    .simp only[fn173,exs,ev,tgW,seqW,za5,Option.join_some,vax,List.getElem?_cons_zero,ofsome,bindok,isi_tup,vat,tru_bl,ty_tuple_tuple,vau,vap,idxW,g,e1,opW,opI,e2,cmpW,zar,zcm,hz,Bool.not_false,z,decide_false,if_false]
   show fin _ (exs (run F k) fn173.body [some (.tup [.int p,.int q]),some (.int hd),some (.ref (h0.n+2)),some (optW fo),none,none,none] _)=_
   rw[e3]
   exact zpf
theorem bodyF{fo:Option Nat}{k:Nat}{h0:VH}{b l f:W}{r:List W}{c wd hd:Int}{cs ts:List W}{ls:List Int}{y:Option W}(ok:(r.length:Int)=wd/\rowOk wd (ls.length:Int) 0 r)(c0:0<=c)(c1:c<wd)(hc:cs.length<=1000)(ht:ts.length<=1000) :
 exs (run F (k+1)) zc0 [some b,some l,some f,some (optW fo),some (.int c),some (.ref h0.n),some (.ref (h0.n+1)),some (.ref (h0.n+2)),some (.int hd),some (.tup r),y] (st3 h0 [] cs ts (ls.map .int))=match stepF fo (colAt r c) hd ls with
  |none=>.ok (.bk [some b,some l,some f,some (optW fo),some (.int c),some (.ref h0.n),some (.ref (h0.n+1)),some (.ref (h0.n+2)),some .non,some (.tup r),some (colAt r c)]) (st3 h0 [] cs ts (ls.map .int))
  |some (d,t,l')=>.ok (.nx [some b,some l,some f,some (optW fo),some (.int (c+d)),some (.ref h0.n),some (.ref (h0.n+1)),some (.ref (h0.n+2)),some (.int d),some (.tup r),some (colAt r c)]) (st3 h0 [] (cs++[.int (c+d)]) (ts++t.map .int) (l'.map .int)):=by
 obtain⟨_,hm⟩:=zfy ok c0 c1
 have e0:=zqg ok c0 c1
 generalize colAt r c=w at hm e0 ⊢
 have e1:=headF C (fo:=fo) (k:=k) (h0:=h0) (gs:=[]) (cs:=cs) (ts:=ts) (hd:=hd) hm
 unfold zc0
 rw[zaa (ρ':=[some b,some l,some f,some (optW fo),some (.int c),some (.ref h0.n),some (.ref (h0.n+1)),some (.ref (h0.n+2)),some (.int hd),some (.tup r),some w]) (h':=st3 h0 [] cs ts (ls.map .int)) (by simp[exs,ev,idxW,e0])]
 have key:∀(d:Int)(l':List Int)(t:List Int),stepF fo w hd ls=some (d,t,l')->exs (run F (k+1)) (.seq (.ite (.and (.tru (.isi .tuple (.var 10))) (.cmp .ne (.idx (.var 10) (.cst (.int (0)))) (.var 3))) (.seq (.expr (.mt .append (.var 6) (.cons (.idx (.var 10) (.cst (.int (0)))) .nil))) .skip) .skip) (.seq (.aug 4 .add (.var 8)) (.seq (.expr (.mt .append (.var 5) (.cons (.var 4) .nil))) .skip))) [some b,some l,some f,some (optW fo),some (.int c),some (.ref h0.n),some (.ref (h0.n+1)),some (.ref (h0.n+2)),some (.int d),some (.tup r),some w] (st3 h0 [] cs ts (l'.map .int))=.ok (.nx [some b,some l,some f,some (optW fo),some (.int (c+d)),some (.ref h0.n),some (.ref (h0.n+1)),some (.ref (h0.n+2)),some (.int d),some (.tup r),some w]) (st3 h0 [] (cs++[.int (c+d)]) (ts++t.map .int) (l'.map .int)):=by
  intro d l' t es
  have fin:∀ts':List W,exs (run F (k+1)) (.seq (.aug 4 .add (.var 8)) (.seq (.expr (.mt .append (.var 5) (.cons (.var 4) .nil))) .skip)) [some b,some l,some f,some (optW fo),some (.int c),some (.ref h0.n),some (.ref (h0.n+1)),some (.ref (h0.n+2)),some (.int d),some (.tup r),some w] (st3 h0 [] cs ts' (l'.map .int))=.ok (.nx [some b,some l,some f,some (optW fo),some (.int (c+d)),some (.ref h0.n),some (.ref (h0.n+1)),some (.ref (h0.n+2)),some (.int d),some (.tup r),some w]) (st3 h0 [] (cs++[.int (c+d)]) ts' (l'.map .int)):=by
   intro ts'
   rw[zaa (ρ':=[some b,some l,some f,some (optW fo),some (.int (c+d)),some (.ref h0.n),some (.ref (h0.n+1)),some (.ref (h0.n+2)),some (.int d),some (.tup r),some w]) (h':=st3 h0 [] cs ts' (l'.map .int)) (by simp[exs,ev,ipW])]
   have ea:=zbq (cl:=run F (k+1)) (i:=5) (l:=h0.n) (x:=.var 4) (ρ:=[some b,some l,some f,some (optW fo),some (.int (c+d)),some (.ref h0.n),some (.ref (h0.n+1)),some (.ref (h0.n+2)),some (.int d),some (.tup r),some w]) (h:=st3 h0 [] cs ts' (l'.map .int)) (h1:=st3 h0 [] cs ts' (l'.map .int)) (w:=.int (c+d)) (acc:=cs) (acc0:=cs) rfl st_c (by simp[ev]) st_c (by omega)
   rw[zsr]at ea
   simp only[exs,ea,bindok]
  rcases zc1 hm with⟨rfl,h3,h4⟩|⟨rfl,h3⟩|⟨rfl,h3⟩|rfl|rfl|⟨p,q,rfl,h3,h4,h5,h6⟩
  .rw[ziz]at es;cases es
   rw[zaa (ρ':=[some b,some l,some f,some (optW fo),some (.int c),some (.ref h0.n),some (.ref (h0.n+1)),some (.ref (h0.n+2)),some (.int hd),some (.tup r),some (.str sX)]) (h':=st3 h0 [] cs ts (ls.map .int)) (by simp[exs,ev]),fin];simp
  .rw[zgv]at es;cases es
   rw[zaa (ρ':=[some b,some l,some f,some (optW fo),some (.int c),some (.ref h0.n),some (.ref (h0.n+1)),some (.ref (h0.n+2)),some (.int (-1)),some (.tup r),some (.str sLt)]) (h':=st3 h0 [] cs ts (ls.map .int)) (by simp[exs,ev]),fin];simp
  .rw[zgw]at es;cases es
   rw[zaa (ρ':=[some b,some l,some f,some (optW fo),some (.int c),some (.ref h0.n),some (.ref (h0.n+1)),some (.ref (h0.n+2)),some (.int 1),some (.tup r),some (.str sGt)]) (h':=st3 h0 [] cs ts (ls.map .int)) (by simp[exs,ev]),fin];simp
  .rw[zet]at es;cases es
   rw[zaa (ρ':=[some b,some l,some f,some (optW fo),some (.int c),some (.ref h0.n),some (.ref (h0.n+1)),some (.ref (h0.n+2)),some (.int 0),some (.tup r),some (.str sDot)]) (h':=st3 h0 [] cs ts (ls.map .int)) (by simp[exs,ev]),fin];simp
  .rw[zi0]at es;cases es
  .rw[zgx]at es;cases es
   cases hz:hitN fo p with
   |true=>
    have e5:ev (run F (k+1)) (.and (.tru (.isi .tuple (.var 10))) (.cmp .ne (.idx (.var 10) (.cst (.int (0)))) (.var 3))) [some b,some l,some f,some (optW fo),some (.int c),some (.ref h0.n),some (.ref (h0.n+1)),some (.ref (h0.n+2)),some (.int (if ls.getD p 0=q then -1 else 1)),some (.tup r),some (.tup [.int p,.int q])] (st3 h0 [] cs ts (ls.map .int))=.ok (.bl false) (st3 h0 [] cs ts (ls.map .int)):=by simp[ev,zhy,cmpW,zcm,hz]
    have eb:exs (run F (k+1)) (.ite (.and (.tru (.isi .tuple (.var 10))) (.cmp .ne (.idx (.var 10) (.cst (.int (0)))) (.var 3))) (.seq (.expr (.mt .append (.var 6) (.cons (.idx (.var 10) (.cst (.int (0)))) .nil))) .skip) .skip) [some b,some l,some f,some (optW fo),some (.int c),some (.ref h0.n),some (.ref (h0.n+1)),some (.ref (h0.n+2)),some (.int (if ls.getD p 0=q then -1 else 1)),some (.tup r),some (.tup [.int p,.int q])] (st3 h0 [] cs ts (ls.map .int))=.ok (.nx [some b,some l,some f,some (optW fo),some (.int c),some (.ref h0.n),some (.ref (h0.n+1)),some (.ref (h0.n+2)),some (.int (if ls.getD p 0=q then -1 else 1)),some (.tup r),some (.tup [.int p,.int q])]) (st3 h0 [] cs ts (ls.map .int)):=by
     rw[exs,e5,bindok]
     rfl
    simp only[hz,if_true]at fin ⊢
    rw[zaa eb,fin]
    simp
   |false=>
    simp only[hz,vak,if_false]at fin ⊢
    have ea:=zbq (cl:=run F (k+1)) (i:=6) (l:=h0.n+1) (x:=.idx (.var 10) (.cst (.int 0))) (ρ:=[some b,some l,some f,some (optW fo),some (.int c),some (.ref h0.n),some (.ref (h0.n+1)),some (.ref (h0.n+2)),some (.int (if ls.getD p 0=q then -1 else 1)),some (.tup r),some (.tup [.int p,.int q])]) (h:=st3 h0 [] cs ts ((ls.set p (1-ls.getD p 0)).map .int)) (h1:=st3 h0 [] cs ts ((ls.set p (1-ls.getD p 0)).map .int)) (w:=.int p) (acc:=ts) (acc0:=ts) rfl st_t (by simp[ev,idxW];rfl) st_t (by omega)
    rw[zss]at ea
    have eb:exs (run F (k+1)) (.ite (.and (.tru (.isi .tuple (.var 10))) (.cmp .ne (.idx (.var 10) (.cst (.int (0)))) (.var 3))) (.seq (.expr (.mt .append (.var 6) (.cons (.idx (.var 10) (.cst (.int (0)))) .nil))) .skip) .skip) [some b,some l,some f,some (optW fo),some (.int c),some (.ref h0.n),some (.ref (h0.n+1)),some (.ref (h0.n+2)),some (.int (if ls.getD p 0=q then -1 else 1)),some (.tup r),some (.tup [.int p,.int q])] (st3 h0 [] cs ts ((ls.set p (1-ls.getD p 0)).map .int))=.ok (.nx [some b,some l,some f,some (optW fo),some (.int c),some (.ref h0.n),some (.ref (h0.n+1)),some (.ref (h0.n+2)),some (.int (if ls.getD p 0=q then -1 else 1)),some (.tup r),some (.tup [.int p,.int q])]) (st3 h0 [] cs (ts++[.int p]) ((ls.set p (1-ls.getD p 0)).map .int)):=by
     rw[exs]
     have e5:ev (run F (k+1)) (.and (.tru (.isi .tuple (.var 10))) (.cmp .ne (.idx (.var 10) (.cst (.int (0)))) (.var 3))) [some b,some l,some f,some (optW fo),some (.int c),some (.ref h0.n),some (.ref (h0.n+1)),some (.ref (h0.n+2)),some (.int (if ls.getD p 0=q then -1 else 1)),some (.tup r),some (.tup [.int p,.int q])] (st3 h0 [] cs ts ((ls.set p (1-ls.getD p 0)).map .int))=.ok (.bl true) (st3 h0 [] cs ts ((ls.set p (1-ls.getD p 0)).map .int)):=by simp[ev,zhy,cmpW,zcm,hz]
     rw[e5,bindok]
     simp only[exs,ea,bindok]
    rw[zaa eb,fin]
    rfl
 cases es:stepF fo w hd ls with
 |none=>
  rw[es]at e1
  rw[zaa (ρ':=[some b,some l,some f,some (optW fo),some (.int c),some (.ref h0.n),some (.ref (h0.n+1)),some (.ref (h0.n+2)),some .non,some (.tup r),some w]) (h':=st3 h0 [] cs ts (ls.map .int)) (by simp only[exs,ev,Option.join_some,vax,List.getElem?_cons_zero,ofsome,bindok,e1,vau,vap])]
  exact zk6 (by simp[exs,ev,cmpW,isNon])
 |some q=>
  obtain⟨d,t,l'⟩:=q
  rw[es]at e1
  rw[zaa (ρ':=[some b,some l,some f,some (optW fo),some (.int c),some (.ref h0.n),some (.ref (h0.n+1)),some (.ref (h0.n+2)),some (.int d),some (.tup r),some w]) (h':=st3 h0 [] cs ts (l'.map .int)) (by simp only[exs,ev,Option.join_some,vax,List.getElem?_cons_zero,ofsome,bindok,e1,vau,vap])]
  rw[zaa (ρ':=[some b,some l,some f,some (optW fo),some (.int c),some (.ref h0.n),some (.ref (h0.n+1)),some (.ref (h0.n+2)),some (.int d),some (.tup r),some w]) (h':=st3 h0 [] cs ts (l'.map .int)) (by simp[exs,ev,cmpW,isNon])]
  exact key d l' t es
theorem loopF{fo:Option Nat}{k:Nat}{h0:VH}{b l f:W}{wd:Int}:∀(rs:List (List W)) (c hd:Int) (cs ts:List W) (ls:List Int) (x y:Option W),zj6 wd (ls.length:Int) rs->0<=c->c<wd->-1<=hd->hd<=1->Bits ls->cs.length+rs.length<=1000->ts.length+rs.length<=1000->
 ∃c' hd' x' y',forL (tgW (.one 9)) (exs (run F (k+1)) zc0) (rs.map .tup) [some b,some l,some f,some (optW fo),some (.int c),some (.ref h0.n),some (.ref (h0.n+1)),some (.ref (h0.n+2)),some (.int hd),x,y] (st3 h0 [] cs ts (ls.map .int)) =
  .ok (.nx [some b,some l,some f,some (optW fo),c',some (.ref h0.n),some (.ref (h0.n+1)),some (.ref (h0.n+2)),hd',x',y']) (st3 h0 [] (cs++(fallF fo rs c hd ls).cs.map .int) (ts++(fallF fo rs c hd ls).ts.map .int) ((fallF fo rs c hd ls).ls.map .int))
 |[],c,hd,cs,ts,ls,x,y,_,_,_,_,_,_,_,_=>⟨some (.int c),some (.int hd),x,y,by simp[forL,fallF]⟩
 |r::rs,c,hd,cs,ts,ls,x,y,ok,c0,c1,h1,h2,bi,hc,ht=>by
  have hc':cs.length+rs.length+1<=1000:=by rw[vah]at hc;omega
  have ht':ts.length+rs.length+1<=1000:=by rw[vah]at ht;omega
  have eb:=bodyF C (fo:=fo) (k:=k) (h0:=h0) (b:=b) (l:=l) (f:=f) (hd:=hd) (cs:=cs) (ts:=ts) (y:=y) (ok r vag) c0 c1 (by omega) (by omega)
  obtain⟨_,hm⟩:=zfy (ok r vag) c0 c1
  cases e:stepF fo (colAt r c) hd ls with
  |none=>
   rw[e]at eb
   rw[zf0 e]
   refine⟨some (.int c),some .non,some (.tup r),some (colAt r c),?_⟩
   simp only[vam,forL,tgW,vau,vap,eb,bindok,List.map_nil,List.append_nil]
  |some q=>
   obtain⟨d,t,l'⟩:=q
   rw[e]at eb
   obtain⟨a1,a2,a3,a4,a5,a6,a7⟩:=zgy hm c0 c1 h1 h2 bi e
   obtain⟨c',hd',x',y',ih⟩:=loopF (fo:=fo) (k:=k) (h0:=h0) (b:=b) (l:=l) (f:=f) rs (c+d) d (cs++[.int (c+d)]) (ts++t.map .int) l' (some (.tup r)) (some (colAt r c)) (λr hr=>by rw[a5];exact ok r (vad _ hr)) a3 a4 a1 a2 a6 (by simp only[vao,va5];omega) (by simp only[vao,vaf];omega)
   rw[zf1 e]
   refine⟨c',hd',x',y',?_⟩
   simp only[vam,forL,tgW,vau,vap,eb,bindok,ih,List.map_append,List.append_assoc,List.singleton_append]
theorem zs1{fo:Option Nat}{k:Nat}{h:VH}{B:Bd}{ls:List Int}{f:Nat}(b:B.Ok)(hf:f<B.fd.length)(hl:(ls.length:Int)=B.gr)(bi:Bits ls):run F (k+2) 174 [B.w,iW ls,.int f,optW fo] h=.ok (wayF B fo ls f) h:=by
 rw[zam C.f174 rfl]
 obtain⟨e0,c0,c1⟩:=b.col hf
 have hr:=b.r1
 obtain⟨c',hd',x',y',el⟩:=loopF C (fo:=fo) (k:=k) (h0:=h) (b:=B.w) (l:=iW ls) (f:=.int f) B.rows (B.col f) 0 [.int (B.col f)] [] ls none none (b.rows hl) c0 c1 (by decide) (by decide) bi (by rw[va5];omega) (by rw[List.length_nil];omega)
 have e1:atI B.fd (f:Int)=some (.int (B.col f)):=zbc e0
 have i3:atI [W.int B.wd,.int B.gr,.tup (B.rows.map .tup),.tup B.fd,.tup B.dr] 3=some (.tup B.fd):=rfl
 have i2:atI [W.int B.wd,.int B.gr,.tup (B.rows.map .tup),.tup B.fd,.tup B.dr] 2=some (.tup (B.rows.map .tup)):=rfl
 have hz:(B.rows.map W.tup).length<1000000:=by rw[vaf];omega
 have eb:exs (run F (k+1)) fn174.body [some B.w,some (iW ls),some (.int f),some (optW fo),none,none,none,none,none,none,none] ⟨h.n,h.n,h.os⟩=.ok (.rt (wayF B fo ls f)) (st3 h [] (([.int (B.col f)]:List W)++(fallF fo B.rows (B.col f) 0 ls).cs.map .int) (([]:List W)++(fallF fo B.rows (B.col f) 0 ls).ts.map .int) ((fallF fo B.rows (B.col f) 0 ls).ls.map .int)):=by
  show exs (run F (k+1)) (.seq _ _) _ _=_
  rw[zaa (ρ':=[some B.w,some (iW ls),some (.int f),some (optW fo),some (.int (B.col f)),none,none,none,none,none,none]) (h':=⟨h.n,h.n,h.os⟩) (by unfold Bd.w;simp[exs,ev,idxW,i3,e1])]
  rw[zaa (ρ':=[some B.w,some (iW ls),some (.int f),some (optW fo),some (.int (B.col f)),some (.ref h.n),none,none,none,none,none]) (h':=VH.new ⟨h.n,h.n,h.os⟩ (.lst [.int (B.col f)])) (by simp[exs,ev])]
  rw[zaa (ρ':=[some B.w,some (iW ls),some (.int f),some (optW fo),some (.int (B.col f)),some (.ref h.n),some (.ref (h.n+1)),none,none,none,none]) (h':=VH.new (VH.new ⟨h.n,h.n,h.os⟩ (.lst [.int (B.col f)])) (.lst [])) (by simp[exs,ev,VH.new])]
  rw[zaa (ρ':=[some B.w,some (iW ls),some (.int f),some (optW fo),some (.int (B.col f)),some (.ref h.n),some (.ref (h.n+1)),some (.ref (h.n+2)),none,none,none]) (h':=st3 h [] [.int (B.col f)] [] (ls.map .int)) (by unfold iW;simp[exs,ev,VH.new,biW,listW,seqW,st3])]
  rw[zaa (ρ':=[some B.w,some (iW ls),some (.int f),some (optW fo),some (.int (B.col f)),some (.ref h.n),some (.ref (h.n+1)),some (.ref (h.n+2)),some (.int 0),none,none]) (h':=st3 h [] [.int (B.col f)] [] (ls.map .int)) (by simp[exs,ev])]
  have ei:ev (run F (k+1)) (.idx (.var 0) (.cst (.int (2)))) [some B.w,some (iW ls),some (.int f),some (optW fo),some (.int (B.col f)),some (.ref h.n),some (.ref (h.n+1)),some (.ref (h.n+2)),some (.int 0),none,none] (st3 h [] [.int (B.col f)] [] (ls.map .int))=.ok (.tup (B.rows.map .tup)) (st3 h [] [.int (B.col f)] [] (ls.map .int)):=by
   unfold Bd.w;simp[ev,idxW,i2]
  have ef:=zbt (tg:=tgW (.one 9)) (b:=exs (run F (k+1)) zc0) (ρ:=[some B.w,some (iW ls),some (.int f),some (optW fo),some (.int (B.col f)),some (.ref h.n),some (.ref (h.n+1)),some (.ref (h.n+2)),some (.int 0),none,none]) (h:=st3 h [] [.int (B.col f)] [] (ls.map .int)) hz
  rw[el]at ef
  refine(zaa (by rw[exs,ei,bindok,ef])).trans ?_
  have et:=tup3 (cl:=run F (k+1)) (zb9 (i:=5) (ρ:=[some B.w,some (iW ls),some (.int f),some (optW fo),c',some (.ref h.n),some (.ref (h.n+1)),some (.ref (h.n+2)),hd',x',y']) rfl (st_c (h:=h) (gs:=[]) (c:=([.int (B.col f)]:List W)++(fallF fo B.rows (B.col f) 0 ls).cs.map .int) (t:=([]:List W)++(fallF fo B.rows (B.col f) 0 ls).ts.map .int) (l:=(fallF fo B.rows (B.col f) 0 ls).ls.map .int))) (zb9 (i:=6) rfl st_t) (zb9 (i:=7) rfl st_l)
  simp only[exs,et,bindok]
  rfl
 show fin h (exs (run F (k+1)) fn174.body [some B.w,some (iW ls),some (.int f),some (optW fo),none,none,none,none,none,none,none] ⟨h.n,h.n,h.os⟩)=_
 rw[eb]
 exact zan (vae _) zs0
noncomputable def dwnF(B:Bd)(fo:Option Nat)(ls:List Int)(f:Nat):W:=if(B.fallF fo ls f).st then .non else .int (lastC (B.col f) (B.fallF fo ls f).cs)
theorem zk8{fo:Option Nat}{k:Nat}{h:VH}{B:Bd}{ls:List Int}{f:Nat}(b:B.Ok)(hf:f<B.fd.length)(hl:(ls.length:Int)=B.gr)(bi:Bits ls):run F (k+3) 175 [B.w,iW ls,.int f,optW fo] h=.ok (.tup [dwnF B fo ls f,iW (B.fallF fo ls f).ls]) h:=by
 rw[zam C.f175 rfl]
 have e1:=zs1 C (fo:=fo) (k:=k) (h:=⟨h.n,h.n,h.os⟩) b hf hl bi
 have q:=b.fallF (fo:=fo) hf hl bi
 have i2:atI [W.int B.wd,.int B.gr,.tup (B.rows.map .tup),.tup B.fd,.tup B.dr] 2=some (.tup (B.rows.map .tup)):=rfl
 have e2:exs (run F (k+2)) (.unp [4,5,6] (.call 174 (.cons (.var 0) (.cons (.var 1) (.cons (.var 2) (.cons (.var 3) .nil)))))) [some B.w,some (iW ls),some (.int f),some (optW fo),none,none,none,none] ⟨h.n,h.n,h.os⟩=.ok (.nx [some B.w,some (iW ls),some (.int f),some (optW fo),some (iW (B.col f:: (B.fallF fo ls f).cs)),some (iW (B.fallF fo ls f).ts),some (iW (B.fallF fo ls f).ls),none]) ⟨h.n,h.n,h.os⟩:=by
  simp only[exs,ev,Option.join_some,vax,List.getElem?_cons_zero,ofsome,bindok,e1,wayF,tgW,seqW,za5,vau,vap,vat]
 have e3:ev (run F (k+2)) (.cmp .gt (.bi .len (.cons (.var 4) .nil)) (.bi .len (.cons (.idx (.var 0) (.cst (.int (2)))) .nil))) [some B.w,some (iW ls),some (.int f),some (optW fo),some (iW (B.col f:: (B.fallF fo ls f).cs)),some (iW (B.fallF fo ls f).ts),some (iW (B.fallF fo ls f).ls),none] ⟨h.n,h.n,h.os⟩=.ok (.bl (!(B.fallF fo ls f).st)) ⟨h.n,h.n,h.os⟩:=by
  have:decide ((B.rows.length:Int)< ((B.fallF fo ls f).cs.length:Int)+1)=!(B.fallF fo ls f).st:=by
   cases z:(B.fallF fo ls f).st with
   |true=>have:=q.c5 z;exact va3 (by omega)
   |false=>have:=q.c3 z;exact decide_eq_true (by omega)
  unfold Bd.w iW
  simp[ev,biW,lenW,seqW,idxW,i2,cmpW,cmpI,this]
 have el:=zst (cs:=(B.fallF fo ls f).cs) (c:=B.col f)
 show fin h (exs (run F (k+2)) (.seq (.unp [4,5,6] (.call 174 (.cons (.var 0) (.cons (.var 1) (.cons (.var 2) (.cons (.var 3) .nil)))))) _) [some B.w,some (iW ls),some (.int f),some (optW fo),none,none,none,none] ⟨h.n,h.n,h.os⟩)=_
 rw[zaa e2]
 have e4:ev (run F (k+2)) (.idx (.var 4) (.neg (.cst (.int (1))))) [some B.w,some (iW ls),some (.int f),some (optW fo),some (iW (B.col f:: (B.fallF fo ls f).cs)),some (iW (B.fallF fo ls f).ts),some (iW (B.fallF fo ls f).ls),none] ⟨h.n,h.n,h.os⟩=.ok (.int (lastC (B.col f) (B.fallF fo ls f).cs)) ⟨h.n,h.n,h.os⟩:=by
  unfold iW
  simp only[ev,Option.join_some,vax,List.getElem?_cons_zero,ofsome,bindok,idxW,el]
 have e5:exs (run F (k+2)) (.set 7 (.ite (.cmp .gt (.bi .len (.cons (.var 4) .nil)) (.bi .len (.cons (.idx (.var 0) (.cst (.int (2)))) .nil))) (.idx (.var 4) (.neg (.cst (.int (1))))) (.cst .non))) [some B.w,some (iW ls),some (.int f),some (optW fo),some (iW (B.col f:: (B.fallF fo ls f).cs)),some (iW (B.fallF fo ls f).ts),some (iW (B.fallF fo ls f).ls),none] ⟨h.n,h.n,h.os⟩=.ok (.nx [some B.w,some (iW ls),some (.int f),some (optW fo),some (iW (B.col f:: (B.fallF fo ls f).cs)),some (iW (B.fallF fo ls f).ts),some (iW (B.fallF fo ls f).ls),some (dwnF B fo ls f)]) ⟨h.n,h.n,h.os⟩:=by
  unfold dwnF
  rw[exs,ev,e3]
  cases z:(B.fallF fo ls f).st with
  |true=>rfl
  |false=>simp only[Bool.not_false,bindok,e4];rfl
 rw[zaa e5]
 simp only[exs]
 rw[tup2 (x:=dwnF B fo ls f) (y:=iW (B.fallF fo ls f).ls) rfl rfl]
 refine zan (vae _) ?_
 unfold dwnF
 split<;>simp[iW_lt]
end
noncomputable def outF(B:Bd)(fo:Option Nat)(ls:List Int)(f:Nat):W:=if(B.fallF fo ls f).st then .tup [.non,.non]else B.door (lastC (B.col f) (B.fallF fo ls f).cs)
noncomputable def nameF(B:Bd)(fo:Option Nat)(ls:List Int)(f:Nat):W:=zwx (outF B fo ls f)
noncomputable def toldF(B:Bd)(fo:Option Nat):List Nat->List Int->List W×List Int
 |[],ls=>([],ls)
 |f::r,ls=>(nameF B fo ls f:: (toldF B fo r (B.fallF fo ls f).ls).1,(toldF B fo r (B.fallF fo ls f).ls).2)
theorem zeu{fo:Option Nat}{B:Bd}{ls:List Int}{f:Nat}(b:B.Ok)(hf:f<B.fd.length)(hl:(ls.length:Int)=B.gr)(bi:Bits ls):∃y,outF B fo ls f=.tup [nameF B fo ls f,y]/\(nameF B fo ls f=.non\/∃i:Int,nameF B fo ls f=.int i):=by
 unfold nameF outF
 cases z:(B.fallF fo ls f).st with
 |true=>exact⟨.non,rfl,.inl rfl⟩
 |false=>
  have q:=b.fallF (fo:=fo) hf hl bi
  obtain⟨a1,a2⟩:=b.door q.c4.1 q.c4.2
  obtain⟨a,y,e,_,_,_⟩:=zhx a2
  refine⟨y,?_,.inr ⟨a,?_⟩⟩
  .rw[if_neg (by simp),e];rfl
  .rw[if_neg (by simp),e];rfl
theorem zc4{fo:Option Nat}{B:Bd}(b:B.Ok):∀(r:List Nat) (ls:List Int),(∀f∈r,f<B.fd.length)->(ls.length:Int)=B.gr->Bits ls->(((toldF B fo r ls).2.length:Int)=B.gr/\Bits (toldF B fo r ls).2)/\(toldF B fo r ls).1.length=r.length/\∀w∈(toldF B fo r ls).1,w=.non\/∃i:Int,w=.int i
 |[],ls,_,hl,bi=>⟨⟨hl,bi⟩,rfl,by simp[toldF]⟩
 |f::r,ls,hr,hl,bi=>by
  have hf:=hr f vag
  have q:=b.fallF (fo:=fo) hf hl bi
  obtain⟨h1,h2,h3⟩:=zc4 (fo:=fo) b r (B.fallF fo ls f).ls (λg hg=>hr g (vad _ hg)) (by rw[q.l1];exact hl) q.l2
  refine⟨h1,by simp only[toldF,vah,h2],λw hw=>?_⟩
  rcases va2.mp hw with rfl|hw
  .obtain⟨_,_,e⟩:=zeu (fo:=fo) b hf hl bi;exact e
  .exact h3 w hw
theorem znk{fo:Option Nat}{B:Bd}{ls:List Int}{f n:Nat}(b:B.Ok)(hf:f<B.fd.length)(hl:(ls.length:Int)=B.gr)(bi:Bits ls):W.lt n (outF B fo ls f)=true:=by
 unfold outF
 split
 .simp
 .have q:=b.fallF (fo:=fo) hf hl bi
  obtain⟨_,a2⟩:=b.door q.c4.1 q.c4.2
  exact zsu a2 n
section
variable{F:Nat->Option Fn}(Y:CoreY0 F)(f176:F 176=some fn176)
include Y f176
theorem znl{fo:Option Nat}{k:Nat}{h:VH}{B:Bd}{ls:List Int}{f:Nat}(b:B.Ok)(hf:f<B.fd.length)(hl:(ls.length:Int)=B.gr)(bi:Bits ls):run F (k+4) 176 [B.w,iW ls,.int f,optW fo] h=.ok (.tup [outF B fo ls f,iW (B.fallF fo ls f).ls]) h:=by
 rw[zam f176 rfl]
 have e1:=zk8 Y (fo:=fo) (k:=k) (h:=⟨h.n,h.n,h.os⟩) b hf hl bi
 have q:=b.fallF (fo:=fo) hf hl bi
 obtain⟨a1,a2⟩:=b.door q.c4.1 q.c4.2
 have e2:exs (run F (k+3)) (.unp [4,5] (.call 175 (.cons (.var 0) (.cons (.var 1) (.cons (.var 2) (.cons (.var 3) .nil)))))) [some B.w,some (iW ls),some (.int f),some (optW fo),none,none,none] ⟨h.n,h.n,h.os⟩=.ok (.nx [some B.w,some (iW ls),some (.int f),some (optW fo),some (dwnF B fo ls f),some (iW (B.fallF fo ls f).ls),none]) ⟨h.n,h.n,h.os⟩:=by
  simp only[exs,ev,Option.join_some,vax,List.getElem?_cons_zero,ofsome,bindok,e1,tgW,seqW,za5,vau,vap,vat]
 have i4:idxW ⟨h.n,h.n,h.os⟩ B.w (.int 4)=some (.tup B.dr):=rfl
 have e3:ev (run F (k+3)) (.ite (.cmp .isn (.var 4) (.cst .non)) (.cst (.tup [.non,.non])) (.idx (.idx (.var 0) (.cst (.int (4)))) (.var 4))) [some B.w,some (iW ls),some (.int f),some (optW fo),some (dwnF B fo ls f),some (iW (B.fallF fo ls f).ls),none] ⟨h.n,h.n,h.os⟩=.ok (outF B fo ls f) ⟨h.n,h.n,h.os⟩:=by
  unfold dwnF outF
  cases z:(B.fallF fo ls f).st with
  |true=>simp[ev,cmpW,isNon]
  |false=>
   have i5:idxW ⟨h.n,h.n,h.os⟩ (.tup B.dr) (.int (lastC (B.col f) (B.fallF fo ls f).cs))=some (B.door (lastC (B.col f) (B.fallF fo ls f).cs)):=a1
   simp[ev,cmpW,isNon,i4,i5]
 show fin h (exs (run F (k+3)) fn176.body [some B.w,some (iW ls),some (.int f),some (optW fo),none,none,none] ⟨h.n,h.n,h.os⟩)=_
 have eb:exs (run F (k+3)) fn176.body [some B.w,some (iW ls),some (.int f),some (optW fo),none,none,none] ⟨h.n,h.n,h.os⟩=.ok (.rt (.tup [outF B fo ls f,iW (B.fallF fo ls f).ls])) ⟨h.n,h.n,h.os⟩:=by
  refine(zaa e2).trans ?_
  refine(zaa (setE e3)).trans ?_
  exact zaf (retE (tup2E (varE rfl) (varE rfl)))
 rw[eb]
 refine zan (vae _) ?_
 simp[iW_lt,znk b hf hl bi]
end
noncomputable def outSF(B:Bd)(fo:Option Nat)(s:Stn):W:=match s.2 with
 |some f=>.tup [outF B fo s.1 f,iW (B.fallF fo s.1 f).ls]
 |none=>.non
theorem zcd{fo:Option Nat}{B:Bd}{s:Stn}:∀(xs:List Stn),lookD (xs.map stW) (xs.map (outSF B fo)) (dkS s)=if s∈xs then some (outSF B fo s)else none
 |[]=>by simp[lookD]
 |x::xs=>by
  have ih:=zcd (fo:=fo) (B:=B) (s:=s) xs
  rw[vam,vam]
  unfold lookD
  by_cases e:x=s
  .subst e
   rw[if_pos (zes x),if_pos vag]
  .rw[if_neg (by rw[zes];intro z;exact e (zsy (Option.some.inj z))),ih]
   by_cases hm:s∈xs
   .rw[if_pos hm,if_pos (vad _ hm)]
   .rw[if_neg hm,if_neg (by simp[hm,Ne.symm e])]
structure BqF(c:Addr)(B:Bd)(fo:Option Nat)(h:VH)(o d:Nat)(xs:List Stn):Prop where
 ins:h.get o=some (.ins c flds [B.w,optW fo,.ref d])
 dct:h.get d=some (.dt (xs.map stW) (xs.map (outSF B fo)))
theorem BqF.ne{fo:Option Nat}{c:Addr}{B:Bd}{h:VH}{o d:Nat}{xs:List Stn}(b:BqF c B fo h o d xs):o≠d:=λz=>by
 have:=b.ins
 rw[z,b.dct]at this;cases this
theorem BqF.lo{fo:Option Nat}{c:Addr}{B:Bd}{h:VH}{o d l:Nat}{xs:List Stn}(b:BqF c B fo h o d xs):BqF c B fo ⟨h.n,l,h.os⟩ o d xs:=⟨b.ins,b.dct⟩
section
variable{c:Addr}{B:Bd}{h:VH}{o d:Nat}{xs:List Stn}{cl:Call}{ρ:En}{i:Nat}
theorem zkc{fo:Option Nat}(b:BqF c B fo h o d xs)(hρ:ρ[i]?=some (some (.ref o))):ev cl (.att c sOut (.var i)) ρ h=.ok (.ref d) h:=by
 rw[ev,varE hρ,bindok]
 simp only[attW,b.ins,if_true,flds,lookF,sBO,sFO,if_false,ofsome]
theorem zw3{fo:Option Nat}(b:BqF c B fo h o d xs)(hρ:ρ[i]?=some (some (.ref o))):ev cl (.att c za0 (.var i)) ρ h=.ok B.w h:=by
 rw[ev,varE hρ,bindok]
 simp only[attW,b.ins,if_true,flds,lookF,ofsome]
theorem zw4{fo:Option Nat}(b:BqF c B fo h o d xs)(hρ:ρ[i]?=some (some (.ref o))):ev cl (.att c zbb (.var i)) ρ h=.ok (optW fo) h:=by
 rw[ev,varE hρ,bindok]
 simp only[attW,b.ins,if_true,flds,lookF,sBF',if_false,ofsome]
end
theorem zs2{fo:Option Nat}{h:VH}{a:Nat}{B:Bd}{xs:List Stn}{s:Stn}(g:h.get a=some (.dt (xs.map stW) (xs.map (outSF B fo)))):inW h (stW s) (.ref a)=some (decide (s∈xs)):=by
 have e:seqW h (.ref a)=none:=by simp[seqW,g]
 unfold inW
 rw[e]
 simp only[inD,g,zes,zcd]
 by_cases hm:s∈xs<;>simp[hm]
theorem zkd{fo:Option Nat}{h:VH}{a:Nat}{B:Bd}{xs:List Stn}{s:Stn}(g:h.get a=some (.dt (xs.map stW) (xs.map (outSF B fo))))(hm:s∈xs):idxW h (.ref a) (stW s)=some (outSF B fo s):=by
 show idxD h a (stW s)=_
 simp only[idxD,g,zes,zcd,if_pos hm]
theorem putOF{fo:Option Nat}{cl:Call}{o i v:E}{ρ:En}{h h1 h2 h3:VH}{a:Nat}{B:Bd}{w:W}{xs:List Stn}{s:Stn}(ev1:ev cl v ρ h=.ok w h1)(ev2:ev cl o ρ h1=.ok (.ref a) h2)(ev3:ev cl i ρ h2=.ok (stW s) h3)(g:h3.get a=some (.dt (xs.map stW) (xs.map (outSF B fo))))(hn:s∉xs)(hl:xs.length<=100000) :
 exs cl (.put o i v) ρ h=.ok (.nx ρ) (h3.set a (.dt (xs.map stW++[stW s]) (xs.map (outSF B fo)++[w]))):=by
 rw[exs,ev1,bindok,ev2,bindok,ev3,bindok]
 show putD ρ a (stW s) w h3=_
 have hb:Nat.blt (xs.map stW).length big=true:=zm7 (by rw[vaf];omega)
 simp only[putD,g,zes,zcd,if_neg hn,hb]
 rfl
theorem BqF.put{fo:Option Nat}{c:Addr}{B:Bd}{h:VH}{o d:Nat}{xs:List Stn}{s:Stn}(q:BqF c B fo h o d xs):BqF c B fo (h.set d (.dt (xs.map stW++[stW s]) (xs.map (outSF B fo)++[outSF B fo s]))) o d (xs++[s]):=by
 refine⟨?_,?_⟩
 .rw[zag q.dct q.ne];exact q.ins
 .rw[zau q.dct,List.map_append,List.map_append];rfl
theorem BqF.other{fo:Option Nat}{c:Addr}{B:Bd}{h:VH}{o d l:Nat}{xs:List Stn}{ns ms:List W}(q:BqF c B fo h o d xs)(g:h.get l=some (.lst ns)):BqF c B fo (h.set l (.lst ms)) o d xs:=by
 refine⟨?_,?_⟩
 .rw[zag g λz=>by subst z;rw[q.ins]at g;cases g];exact q.ins
 .rw[zag g λz=>by subst z;rw[q.dct]at g;cases g];exact q.dct
theorem zpi{fo:Option Nat}{B:Bd}{ls:List Int}{f n:Nat}(b:B.Ok)(hf:f<B.fd.length)(hl:(ls.length:Int)=B.gr)(bi:Bits ls):W.lt n (outSF B fo (ls,some f))=true:=by
 show W.lt n (.tup [outF B fo ls f,iW (B.fallF fo ls f).ls])=true
 simp[iW_lt,znk b hf hl bi]
section
variable{F:Nat->Option Fn}{c:Addr}(C:CoreO F c)
include C
theorem zw5{fo:Option Nat}{k:Nat}{h:VH}{B:Bd}{ls:List Int}{f o d:Nat}{xs:List Stn}(b:B.Ok)(hf:f<B.fd.length)(hl:(ls.length:Int)=B.gr)(bi:Bits ls)(q:BqF c B fo h o d xs)(hx:xs.length<=100000) :
 ∃h' xs',run F (k+5) 345 [.ref o,iW ls,.int f] h=.ok (outSF B fo (ls,some f)) h'/\BqF c B fo h' o d xs'/\h'.n=h.n/\(∀z,z<=h.lo->z<=d->z<=h'.lo)/\(∀i,i≠d->h'.get i=h.get i)/\xs'.length<=xs.length+1:=by
 have q0:BqF c B fo ⟨h.n,h.n,h.os⟩ o d xs:=q.lo
 have s1:exs (run F (k+4)) (.set 3 (.tup (.cons (.var 1) (.cons (.var 2) .nil)))) [some (.ref o),some (iW ls),some (.int f),none] ⟨h.n,h.n,h.os⟩=.ok (.nx [some (.ref o),some (iW ls),some (.int f),some (stW (ls,some f))]) ⟨h.n,h.n,h.os⟩:=setE (tup2E (varE rfl) (varE rfl))
 have ec:ev (run F (k+4)) (.cmp .nin (.var 3) (.att c sOut (.var 0))) [some (.ref o),some (iW ls),some (.int f),some (stW (ls,some f))] ⟨h.n,h.n,h.os⟩=.ok (.bl (!decide ((ls,some f)∈xs))) ⟨h.n,h.n,h.os⟩:=by
  rw[ev,varE rfl,bindok,zkc q0 rfl,bindok]
  simp only[cmpW,zs2 q0.dct,vat,ofsome]
 rw[zam C.f345 rfl]
 by_cases hm:(ls,some f)∈xs
 .refine⟨h,xs,?_,q,rfl,λz h1 _=>h1,λ_ _=>rfl,Nat.le_succ _⟩
  rw[decide_eq_true hm]at ec
  have eb:exs (run F (k+4)) (fn345 c).body [some (.ref o),some (iW ls),some (.int f),none] ⟨h.n,h.n,h.os⟩=.ok (.rt (outSF B fo (ls,some f))) ⟨h.n,h.n,h.os⟩:=by
   refine(zaa s1).trans ?_
   refine(zaa (b:=_) ((iteF ec).trans rfl)).trans ?_
   refine zaf (retE ?_)
   rw[ev,zkc q0 rfl,bindok,varE rfl,bindok,zkd q0.dct hm,ofsome]
  show fin h (exs (run F (k+4)) (fn345 c).body [some (.ref o),some (iW ls),some (.int f),none] ⟨h.n,h.n,h.os⟩)=_
  rw[eb]
  exact zan (vae _) (zpi (fo:=fo) b hf hl bi)
 .rw[va3 hm]at ec
  have e1:=znl C.toCoreY0 C.f176 (fo:=fo) (k:=k) (h:=⟨h.n,h.n,h.os⟩) b hf hl bi
  have ev1:ev (run F (k+4)) (.call 176 (.cons (.att c za0 (.var 0)) (.cons (.var 1) (.cons (.var 2) (.cons (.att c zbb (.var 0)) .nil))))) [some (.ref o),some (iW ls),some (.int f),some (stW (ls,some f))] ⟨h.n,h.n,h.os⟩=.ok (outSF B fo (ls,some f)) ⟨h.n,h.n,h.os⟩:=by
   have:ev (run F (k+4)) (.cons (.att c za0 (.var 0)) (.cons (.var 1) (.cons (.var 2) (.cons (.att c zbb (.var 0)) .nil)))) [some (.ref o),some (iW ls),some (.int f),some (stW (ls,some f))] ⟨h.n,h.n,h.os⟩=.ok (.tup [B.w,iW ls,.int f,optW fo]) ⟨h.n,h.n,h.os⟩:=by
    rw[ev,zw3 q0 rfl,bindok,ev,varE rfl,bindok,ev,varE rfl,bindok,ev,zw4 q0 rfl,bindok,ev]
    rfl
   rw[ev,this,bindok]
   exact e1
  have e2:=putOF (s:=(ls,some f)) (i:=.var 3) ev1 (zkc (i:=0) q0 rfl) (varE rfl) q0.dct hm hx
  have q1:=q0.put (s:=(ls,some f))
  have hd:d<h.n:=zaj q.dct
  refine⟨⟨h.n,if Nat.ble h.lo d then h.lo else d,h.os.set (h.n-1-d) (.dt (xs.map stW++[stW (ls,some f)]) (xs.map (outSF B fo)++[outSF B fo (ls,some f)]))⟩,xs++[(ls,some f)],?_,⟨q1.ins,q1.dct⟩,rfl,λz h1 h2=>?_,λi hi=>zag (h:=⟨h.n,h.n,h.os⟩) q0.dct hi,by simp⟩
  .have eb:exs (run F (k+4)) (fn345 c).body [some (.ref o),some (iW ls),some (.int f),none] ⟨h.n,h.n,h.os⟩=.ok (.rt (outSF B fo (ls,some f))) ((VH.mk h.n h.n h.os).set d (.dt (xs.map stW++[stW (ls,some f)]) (xs.map (outSF B fo)++[outSF B fo (ls,some f)]))):=by
    refine(zaa s1).trans ?_
    refine(zaa (b:=_) ((iteT ec).trans ((zaa e2).trans rfl))).trans ?_
    refine zaf (retE ?_)
    rw[ev,zkc q1 rfl,bindok,varE rfl,bindok,zkd q1.dct (by simp),ofsome]
   show fin h (exs (run F (k+4)) (fn345 c).body [some (.ref o),some (iW ls),some (.int f),none] ⟨h.n,h.n,h.os⟩)=_
   rw[eb]
   show leave h _ _=_
   unfold leave VH.set
   have h1:Nat.blt d h.n=true:=zal.mpr hd
   have h2:Nat.ble h.n d=false:=by
    cases z:Nat.ble h.n d with
    |false=>rfl
    |true=>exact absurd (va1 z) (by omega)
   simp only[h1,if_true,h2,Bool.false_and,vak,if_false]
  .show z<=(if Nat.ble h.lo d then h.lo else d)
   split<;>assumption
omit C in
theorem BqF.new{fo:Option Nat}{B:Bd}{h:VH}{o d:Nat}{xs:List Stn}{v:VO}(q:BqF c B fo h o d xs):BqF c B fo (h.new v) o d xs:=
 ⟨(zad (zaj q.ins)).trans q.ins,(zad (zaj q.dct)).trans q.dct⟩
end
noncomputable def zc5:S:=(.seq (.set 7 (.idx (.var 6) (.var 4))) (.seq (.ite (.cmp .eq (.var 7) (.cst (.str (PySem.Str.ofString "s")))) (.seq (.ret (.lst (.cons (.var 4) (.cons (.bi .tuple (.cons (.var 1) .nil)) (.cons (.cst .non) (.cons (.cst (.bl true)) .nil)))))) .skip) .skip) (.seq (.ite (.or (.cmp .eq (.var 7) (.cst (.str (PySem.Str.ofString ".")))) (.or (.cmp .eq (.var 7) (.cst (.str (PySem.Str.ofString "<")))) (.cmp .eq (.var 7) (.cst (.str (PySem.Str.ofString ">")))))) (.seq (.set 5 (.idx (.dsp (.cons (.cst (.str (PySem.Str.ofString "."))) (.cons (.cst (.int (0))) (.cons (.cst (.str (PySem.Str.ofString "<"))) (.cons (.neg (.cst (.int (1)))) (.cons (.cst (.str (PySem.Str.ofString ">"))) (.cons (.cst (.int (1))) .nil))))))) (.var 7))) .skip) (.seq (.ite (.cmp .ne (.var 7) (.cst (.str (PySem.Str.ofString "x")))) (.seq (.set 5 (.op .sub (.cst (.int (1))) (.op .mul (.cst (.int (2))) (.bi .int (.cons (.cmp .eq (.idx (.var 1) (.idx (.var 7) (.cst (.int (0))))) (.idx (.var 7) (.cst (.int (1))))) .nil))))) (.seq (.ite (.cmp .ne (.idx (.var 7) (.cst (.int (0)))) (.var 3)) (.seq (.put (.var 1) (.idx (.var 7) (.cst (.int (0)))) (.op .sub (.cst (.int (1))) (.idx (.var 1) (.idx (.var 7) (.cst (.int (0))))))) .skip) .skip) .skip)) .skip) .skip)) (.seq (.set 4 (.op .add (.var 4) (.var 5))) .skip))))
noncomputable def fn207:Fn:=⟨4,8,(.seq (.set 4 (.idx (.idx (.var 0) (.cst (.int (3)))) (.var 2))) (.seq (.set 1 (.bi .list (.cons (.var 1) .nil))) (.seq (.set 5 (.cst (.int (0)))) (.seq (.«for» .seq (.idx (.var 0) (.cst (.int (2)))) (.one 6) zc5) (.seq (.ret (.lst (.cons (.var 4) (.cons (.bi .tuple (.cons (.var 1) .nil)) (.cons (.idx (.idx (.idx (.var 0) (.cst (.int (4)))) (.var 4)) (.cst (.int (0)))) (.cons (.cst (.bl false)) .nil)))))) .skip)))))⟩
noncomputable def zcn:S:=(.seq (.set 6 (.call 207 (.cons (.var 0) (.cons (.var 1) (.cons (.var 5) (.cons (.var 2) .nil)))))) (.seq (.expr (.mt .append (.var 4) (.cons (.idx (.var 6) (.cst (.int (2)))) .nil))) (.seq (.set 1 (.idx (.var 6) (.cst (.int (1))))) .skip)))
noncomputable def sq(h:VH)(gs:List VO)(l:List W):VH:=⟨h.n+1+gs.length,h.n,gs++(.lst l::h.os)⟩
theorem sq_l{h:VH}{gs:List VO}{l:List W}:(sq h gs l).get h.n=some (.lst l):=by
 unfold sq VH.get
 rw[if_pos (zal.mpr (by show h.n<h.n+1+gs.length;omega))]
 show(gs++(.lst l::h.os))[h.n+1+gs.length-1-h.n]?=_
 rw[show h.n+1+gs.length-1-h.n=gs.length by omega,List.getElem?_append_right (vae _),Nat.sub_self]
 rfl
theorem zw6{h:VH}{gs:List VO}{l l':List W}:(sq h gs l).set h.n (.lst l')=sq h gs l':=by
 unfold sq VH.set
 simp only[zj8 (vae h.n)]
 rw[show h.n+1+gs.length-1-h.n=gs.length by omega,List.set_append_right _ _ (vae _),Nat.sub_self]
 rfl
theorem zw7{h:VH}{gs:List VO}{l:List W}{o:VO}:(sq h gs l).new o=sq h (o::gs) l:=rfl
theorem zw8{h:VH}{gs:List VO}{l:List W}{i:Nat}(hi:i<h.n):(sq h gs l).get i=h.get i:=by
 unfold sq VH.get
 rw[if_pos (zal.mpr (by show i<h.n+1+gs.length;omega)),if_pos (zal.mpr hi)]
 show(gs++(.lst l::h.os))[h.n+1+gs.length-1-i]?=_
 rw[List.getElem?_append_right (by omega),show h.n+1+gs.length-1-i-gs.length=(h.n-1-i)+1 by omega]
 rfl
theorem zw9{h:VH}{gs:List VO}{l:List W}{o:VO}:(sq h (o::gs) l).get (h.n+1+gs.length)=some o:=by
 unfold sq VH.get
 rw[if_pos (zal.mpr (by show h.n+1+gs.length<h.n+1+ (gs.length+1);omega))]
 show(o:: (gs++(.lst l::h.os)))[h.n+1+ (gs.length+1)-1- (h.n+1+gs.length)]?=_
 rw[show h.n+1+ (gs.length+1)-1- (h.n+1+gs.length)=0 by omega]
 rfl
theorem zs3{cl:Call}{ρ:En}{h:VH}{x:Str}{d:Int}(hρ:ρ[7]?=some (some (.str x)))(e:lookK dirD (.inr x)=some (.int d)):ev cl (.idx dspE (.var 7)) ρ h=.ok (.int d) (h.new (.dk dirD)):=by
 rw[ev,zw0,bindok,ev,hρ]
 show(Res.of (idxW (h.new (.dk dirD)) (.ref h.n) (.str x)) (h.new (.dk dirD)))=_
 unfold idxW
 simp only[zsw,e]
 rfl
noncomputable def zc6:S:=(.ite (.or (.cmp .eq (.var 7) (.cst (.str (PySem.Str.ofString ".")))) (.or (.cmp .eq (.var 7) (.cst (.str (PySem.Str.ofString "<")))) (.cmp .eq (.var 7) (.cst (.str (PySem.Str.ofString ">")))))) (.seq (.set 5 (.idx dspE (.var 7))) .skip) (.seq (.ite (.cmp .ne (.var 7) (.cst (.str (PySem.Str.ofString "x")))) (.seq (.set 5 (.op .sub (.cst (.int (1))) (.op .mul (.cst (.int (2))) (.bi .int (.cons (.cmp .eq (.idx (.var 1) (.idx (.var 7) (.cst (.int (0))))) (.idx (.var 7) (.cst (.int (1))))) .nil))))) (.seq (.ite (.cmp .ne (.idx (.var 7) (.cst (.int (0)))) (.var 3)) (.seq (.put (.var 1) (.idx (.var 7) (.cst (.int (0)))) (.op .sub (.cst (.int (1))) (.idx (.var 1) (.idx (.var 7) (.cst (.int (0))))))) .skip) .skip) .skip)) .skip) .skip))
noncomputable def zke:E:=.lst (.cons (.var 4) (.cons (.bi .tuple (.cons (.var 1) .nil)) (.cons (.cst .non) (.cons (.cst (.bl true)) .nil))))
theorem zi1:zc5=.seq (.set 7 (.idx (.var 6) (.var 4))) (.seq (.ite (.cmp .eq (.var 7) sE) (.seq (.ret zke) .skip) .skip) (.seq zc6 (.seq (.set 4 (.op .add (.var 4) (.var 5))) .skip))):=rfl
section
variable{cl:Call}{h0:VH}{gs:List VO}{b f r:W}{fo:Option Nat}{c hd:Int}{ls:List Int}
theorem zgz{d:Int}{x:Str}(e1:(.str x:W)=.str sDot\/(.str x:W)=.str sLt\/(.str x:W)=.str sGt)(e:lookK dirD (.inr x)=some (.int d)) :
 exs cl zc6 [some b,some (.ref h0.n),some f,some (optW fo),some (.int c),some (.int hd),some r,some (.str x)] (sq h0 gs (ls.map .int))=.ok (.nx [some b,some (.ref h0.n),some f,some (optW fo),some (.int c),some (.int d),some r,some (.str x)]) (sq h0 (.dk dirD::gs) (ls.map .int)):=by
 have ed:=zs3 (cl:=cl) (ρ:=[some b,some (.ref h0.n),some f,some (optW fo),some (.int c),some (.int hd),some r,some (.str x)]) (h:=sq h0 gs (ls.map .int)) rfl e
 rw[zw7]at ed
 have ec:ev cl (.or (.cmp .eq (.var 7) (.cst (.str (PySem.Str.ofString ".")))) (.or (.cmp .eq (.var 7) (.cst (.str (PySem.Str.ofString "<")))) (.cmp .eq (.var 7) (.cst (.str (PySem.Str.ofString ">")))))) [some b,some (.ref h0.n),some f,some (optW fo),some (.int c),some (.int hd),some r,some (.str x)] (sq h0 gs (ls.map .int))=.ok (.bl true) (sq h0 gs (ls.map .int)):=by
  rcases e1 with e1|e1|e1<;>rw[e1]<;>simp[ev,cmpW]
 unfold zc6
 rw[exs,ec,bindok]
 simp only[exs,ed,bindok,vau,vap]
theorem zxa:exs cl zc6 [some b,some (.ref h0.n),some f,some (optW fo),some (.int c),some (.int hd),some r,some (.str sX)] (sq h0 gs (ls.map .int))=.ok (.nx [some b,some (.ref h0.n),some f,some (optW fo),some (.int c),some (.int hd),some r,some (.str sX)]) (sq h0 gs (ls.map .int)):=by
 simp[zc6,exs,ev,cmpW]
theorem zs4{p q:Nat}(hp:p<ls.length) :
 exs cl zc6 [some b,some (.ref h0.n),some f,some (optW fo),some (.int c),some (.int hd),some r,some (.tup [.int p,.int q])] (sq h0 gs (ls.map .int))=.ok (.nx [some b,some (.ref h0.n),some f,some (optW fo),some (.int c),some (.int (if ls.getD p 0=q then -1 else 1)),some r,some (.tup [.int p,.int q])]) (sq h0 gs ((if hitN fo p then ls else ls.set p (1-ls.getD p 0)).map .int)):=by
 have e1:=zqf hp
 have e2:ixN (ls.map W.int).length (p:Int)=some p:=zna (by rw[vaf];exact hp)
 have i0:atI [W.int p,.int q] 0=some (.int p):=rfl
 have i1:atI [W.int p,.int q] 1=some (.int q):=rfl
 have n1:∀h,eqW h (.tup [.int (p:Int),.int (q:Int)]) (.str (PySem.Str.ofString "."))=some false:=λh=>zbr (by decide +kernel)
 have n2:∀h,eqW h (.tup [.int (p:Int),.int (q:Int)]) (.str (PySem.Str.ofString "<"))=some false:=λh=>zbr (by decide +kernel)
 have n3:∀h,eqW h (.tup [.int (p:Int),.int (q:Int)]) (.str (PySem.Str.ofString ">"))=some false:=λh=>zbr (by decide +kernel)
 have n4:∀h,eqW h (.tup [.int (p:Int),.int (q:Int)]) (.str (PySem.Str.ofString "x"))=some false:=λh=>zbr (by decide +kernel)
 have g:=sq_l (h:=h0) (gs:=gs) (l:=ls.map .int)
 have s1:exs cl (.set 5 (.op .sub (.cst (.int (1))) (.op .mul (.cst (.int (2))) (.bi .int (.cons (.cmp .eq (.idx (.var 1) (.idx (.var 7) (.cst (.int (0))))) (.idx (.var 7) (.cst (.int (1))))) .nil))))) [some b,some (.ref h0.n),some f,some (optW fo),some (.int c),some (.int hd),some r,some (.tup [.int p,.int q])] (sq h0 gs (ls.map .int))=.ok (.nx [some b,some (.ref h0.n),some f,some (optW fo),some (.int c),some (.int (if ls.getD p 0=q then -1 else 1)),some r,some (.tup [.int p,.int q])]) (sq h0 gs (ls.map .int)):=by
  generalize ls.getD p 0=y at e1 ⊢
  have sm:zbo 2=true:=by decide
  by_cases z:y=(q:Int)
  .simp only[exs,ev,Option.join_some,vax,List.getElem?_cons_zero,ofsome,bindok,idxW,i0,i1,g,e1,cmpW,zar,z,decide_true,if_true,vat,biW,intW,opW,opI,sm,Bool.true_or,vau,vap]
   rfl
  .simp only[exs,ev,Option.join_some,vax,List.getElem?_cons_zero,ofsome,bindok,idxW,i0,i1,g,e1,cmpW,zar,z,decide_false,if_false,vat,biW,intW,opW,opI,sm,Bool.true_or,vau,vap]
   rfl
 generalize hy:(if ls.getD p 0=(q:Int)then(-1:Int)else 1)=dd at s1 ⊢
 have ec3:ev cl (.cmp .ne (.idx (.var 7) (.cst (.int (0)))) (.var 3)) [some b,some (.ref h0.n),some f,some (optW fo),some (.int c),some (.int dd),some r,some (.tup [.int p,.int q])] (sq h0 gs (ls.map .int))=.ok (.bl (!hitN fo p)) (sq h0 gs (ls.map .int)):=by
  have i0':ev cl (.idx (.var 7) (.cst (.int (0)))) [some b,some (.ref h0.n),some f,some (optW fo),some (.int c),some (.int dd),some r,some (.tup [.int p,.int q])] (sq h0 gs (ls.map .int))=.ok (.int p) (sq h0 gs (ls.map .int)):=rfl
  rw[ev,i0',bindok,varE rfl,bindok]
  simp only[cmpW,zcm,vat,ofsome]
 have s3:exs cl (.ite (.cmp .ne (.idx (.var 7) (.cst (.int (0)))) (.var 3)) (.seq (.put (.var 1) (.idx (.var 7) (.cst (.int (0)))) (.op .sub (.cst (.int (1))) (.idx (.var 1) (.idx (.var 7) (.cst (.int (0))))))) .skip) .skip) [some b,some (.ref h0.n),some f,some (optW fo),some (.int c),some (.int dd),some r,some (.tup [.int p,.int q])] (sq h0 gs (ls.map .int))=.ok (.nx [some b,some (.ref h0.n),some f,some (optW fo),some (.int c),some (.int dd),some r,some (.tup [.int p,.int q])]) (sq h0 gs ((if hitN fo p then ls else ls.set p (1-ls.getD p 0)).map .int)):=by
  cases hz:hitN fo p with
  |true=>
   rw[hz]at ec3
   rw[iteF ec3,if_pos rfl];rfl
  |false=>
   rw[hz]at ec3
   rw[iteT ec3,if_neg Bool.false_ne_true]
   have s4:exs cl (.put (.var 1) (.idx (.var 7) (.cst (.int (0)))) (.op .sub (.cst (.int (1))) (.idx (.var 1) (.idx (.var 7) (.cst (.int (0))))))) [some b,some (.ref h0.n),some f,some (optW fo),some (.int c),some (.int dd),some r,some (.tup [.int p,.int q])] (sq h0 gs (ls.map .int))=.ok (.nx [some b,some (.ref h0.n),some f,some (optW fo),some (.int c),some (.int dd),some r,some (.tup [.int p,.int q])]) (sq h0 gs ((ls.set p (1-ls.getD p 0)).map .int)):=by
    simp only[exs,ev,Option.join_some,vax,List.getElem?_cons_zero,ofsome,bindok,idxW,i0,g,e1,opW,opI,vat,e2,zw6,List.map_set]
   exact(zaa s4).trans rfl
 unfold zc6
 have ec:ev cl (.or (.cmp .eq (.var 7) (.cst (.str (PySem.Str.ofString ".")))) (.or (.cmp .eq (.var 7) (.cst (.str (PySem.Str.ofString "<")))) (.cmp .eq (.var 7) (.cst (.str (PySem.Str.ofString ">")))))) [some b,some (.ref h0.n),some f,some (optW fo),some (.int c),some (.int hd),some r,some (.tup [.int p,.int q])] (sq h0 gs (ls.map .int))=.ok (.bl false) (sq h0 gs (ls.map .int)):=by
  simp[ev,cmpW,n1,n2,n3]
 have ed:ev cl (.cmp .ne (.var 7) (.cst (.str (PySem.Str.ofString "x")))) [some b,some (.ref h0.n),some f,some (optW fo),some (.int c),some (.int hd),some r,some (.tup [.int p,.int q])] (sq h0 gs (ls.map .int))=.ok (.bl true) (sq h0 gs (ls.map .int)):=by
  simp[ev,cmpW,n4]
 rw[iteF ec]
 refine(zaa ((iteT ed).trans ((zaa s1).trans ((zaa s3).trans rfl)))).trans rfl
end
theorem zs5{cl:Call}{h0:VH}{gs:List VO}{b f:W}{fo:Option Nat}{r:List W}{c wd hd:Int}{ls:List Int}{y:Option W}(ok:(r.length:Int)=wd/\rowOk wd (ls.length:Int) 0 r)(c0:0<=c)(c1:c<wd) :
 ∃gs',exs cl zc5 [some b,some (.ref h0.n),some f,some (optW fo),some (.int c),some (.int hd),some (.tup r),y] (sq h0 gs (ls.map .int))=match stepF fo (colAt r c) hd ls with
  |none=>.ok (.rt (.ref (h0.n+1+gs'.length))) (sq h0 (.lst [.int c,iW ls,.non,.bl true]::gs') (ls.map .int))
  |some (d,_,l')=>.ok (.nx [some b,some (.ref h0.n),some f,some (optW fo),some (.int (c+d)),some (.int d),some (.tup r),some (colAt r c)]) (sq h0 gs' (l'.map .int)):=by
 obtain⟨_,hm⟩:=zfy ok c0 c1
 have e0:=zqg ok c0 c1
 generalize colAt r c=w at hm e0 ⊢
 rw[zi1]
 have s1:exs cl (.set 7 (.idx (.var 6) (.var 4))) [some b,some (.ref h0.n),some f,some (optW fo),some (.int c),some (.int hd),some (.tup r),y] (sq h0 gs (ls.map .int))=.ok (.nx [some b,some (.ref h0.n),some f,some (optW fo),some (.int c),some (.int hd),some (.tup r),some w]) (sq h0 gs (ls.map .int)):=setE (idxE (varE rfl) (varE rfl) e0)
 have last:∀(d:Int)(gs':List VO)(l':List Int),exs cl (.seq (.set 4 (.op .add (.var 4) (.var 5))) .skip) [some b,some (.ref h0.n),some f,some (optW fo),some (.int c),some (.int d),some (.tup r),some w] (sq h0 gs' (l'.map .int))=.ok (.nx [some b,some (.ref h0.n),some f,some (optW fo),some (.int (c+d)),some (.int d),some (.tup r),some w]) (sq h0 gs' (l'.map .int)):=λd gs' l'=>(zaa (setE (opE (varE rfl) (varE rfl) rfl))).trans rfl
 have go:∀(d:Int)(gs':List VO)(l':List Int),eqW (sq h0 gs (ls.map .int)) w (.str (PySem.Str.ofString "s"))=some false->exs cl zc6 [some b,some (.ref h0.n),some f,some (optW fo),some (.int c),some (.int hd),some (.tup r),some w] (sq h0 gs (ls.map .int))=.ok (.nx [some b,some (.ref h0.n),some f,some (optW fo),some (.int c),some (.int d),some (.tup r),some w]) (sq h0 gs' (l'.map .int))->exs cl (.seq (.set 7 (.idx (.var 6) (.var 4))) (.seq (.ite (.cmp .eq (.var 7) sE) (.seq (.ret zke) .skip) .skip) (.seq zc6 (.seq (.set 4 (.op .add (.var 4) (.var 5))) .skip)))) [some b,some (.ref h0.n),some f,some (optW fo),some (.int c),some (.int hd),some (.tup r),y] (sq h0 gs (ls.map .int))=.ok (.nx [some b,some (.ref h0.n),some f,some (optW fo),some (.int (c+d)),some (.int d),some (.tup r),some w]) (sq h0 gs' (l'.map .int)):=λd gs' l' z1 z2=>by
  have ec:ev cl (.cmp .eq (.var 7) sE) [some b,some (.ref h0.n),some f,some (optW fo),some (.int c),some (.int hd),some (.tup r),some w] (sq h0 gs (ls.map .int))=.ok (.bl false) (sq h0 gs (ls.map .int)):=by
   rw[ev,varE rfl,bindok,ev,bindok]
   simp only[cmpW,z1,vat,ofsome]
  exact(zaa s1).trans ((zaa ((iteF ec).trans rfl)).trans ((zaa z2).trans (last d gs' l')))
 rcases zc1 hm with⟨rfl,h3,h4⟩|⟨rfl,h3⟩|⟨rfl,h3⟩|rfl|rfl|⟨p,q,rfl,h3,h4,h5,h6⟩
 .rw[ziz];exact⟨gs,go hd gs ls (by simp) zxa⟩
 .rw[zgv];exact⟨_,go (-1) (.dk dirD::gs) ls (by simp) (zgz (.inr (.inl rfl)) zwy)⟩
 .rw[zgw];exact⟨_,go 1 (.dk dirD::gs) ls (by simp) (zgz (.inr (.inr rfl)) zwz)⟩
 .rw[zet];exact⟨_,go 0 (.dk dirD::gs) ls (by simp) (zgz (.inl rfl) zsv)⟩
 .rw[zi0]
  refine⟨gs,?_⟩
  have ec:ev cl (.cmp .eq (.var 7) sE) [some b,some (.ref h0.n),some f,some (optW fo),some (.int c),some (.int hd),some (.tup r),some (.str sS)] (sq h0 gs (ls.map .int))=.ok (.bl true) (sq h0 gs (ls.map .int)):=by
   simp[ev,cmpW]
  have ee:ev cl zke [some b,some (.ref h0.n),some f,some (optW fo),some (.int c),some (.int hd),some (.tup r),some (.str sS)] (sq h0 gs (ls.map .int))=.ok (.ref (h0.n+1+gs.length)) (sq h0 (.lst [.int c,iW ls,.non,.bl true]::gs) (ls.map .int)):=by
   unfold zke
   rw[ev,ev,varE rfl,bindok,ev,zb9 rfl sq_l,bindok,ev,ev,bindok,ev,ev,bindok,ev]
   rfl
  exact(zaa s1).trans (zaf ((iteT ec).trans (zaf (retE ee))))
 .rw[zgx]
  exact⟨gs,go _ gs _ (zbr (by decide +kernel)) (zs4 (by omega))⟩
theorem znm{cl:Call}{h0:VH}{b f:W}{fo:Option Nat}{wd:Int}:∀(rs:List (List W)) (c hd:Int) (gs:List VO) (ls:List Int) (x y:Option W),zj6 wd (ls.length:Int) rs->0<=c->c<wd->-1<=hd->hd<=1->Bits ls->
 ∃gs' hd' x' y',forL (tgW (.one 6)) (exs cl zc5) (rs.map .tup) [some b,some (.ref h0.n),some f,some (optW fo),some (.int c),some (.int hd),x,y] (sq h0 gs (ls.map .int)) =
  if(fallF fo rs c hd ls).st then .ok (.rt (.ref (h0.n+1+gs'.length))) (sq h0 (.lst [.int (lastC c (fallF fo rs c hd ls).cs),iW (fallF fo rs c hd ls).ls,.non,.bl true]::gs') ((fallF fo rs c hd ls).ls.map .int))
  else .ok (.nx [some b,some (.ref h0.n),some f,some (optW fo),some (.int (lastC c (fallF fo rs c hd ls).cs)),hd',x',y']) (sq h0 gs' ((fallF fo rs c hd ls).ls.map .int))
 |[],c,hd,gs,ls,x,y,_,_,_,_,_,_=>⟨gs,some (.int hd),x,y,by simp[forL,fallF,lastC]⟩
 |r::rs,c,hd,gs,ls,x,y,ok,c0,c1,h1,h2,bi=>by
  obtain⟨gs1,eb⟩:=zs5 (cl:=cl) (h0:=h0) (gs:=gs) (b:=b) (f:=f) (fo:=fo) (hd:=hd) (y:=y) (ok r vag) c0 c1
  obtain⟨_,hm⟩:=zfy (ok r vag) c0 c1
  cases e:stepF fo (colAt r c) hd ls with
  |none=>
   rw[e]at eb
   rw[zf0 e]
   refine⟨gs1,none,none,none,?_⟩
   simp only[vam,forL,tgW,vau,vap,eb,bindok,if_true,lastC]
  |some q=>
   obtain⟨d,t,l'⟩:=q
   rw[e]at eb
   obtain⟨a1,a2,a3,a4,a5,a6,a7⟩:=zgy hm c0 c1 h1 h2 bi e
   obtain⟨gs',hd',x',y',ih⟩:=znm (cl:=cl) (h0:=h0) (b:=b) (f:=f) (fo:=fo) rs (c+d) d gs1 l' (some (.tup r)) (some (colAt r c)) (λr hr=>by rw[a5];exact ok r (vad _ hr)) a3 a4 a1 a2 a6
   rw[zf1 e]
   refine⟨gs',hd',x',y',?_⟩
   simp only[vam,forL,tgW,vau,vap,eb,bindok,ih,lastC]
theorem zh0{h g:VH}{i:Nat}(hlo:h.lo<=h.n)(hg:g.lo=h.n)(hi:h.n<=i):leave h (.ref i) g=.ok (.ref i) ⟨g.n,h.lo,g.os⟩:=by
 unfold leave
 rw[if_neg (by rw[W.lt,zj8 hi];simp),hg,if_pos (Nat.ble_eq.mpr hlo)]
theorem zk9{F:Nat->Option Fn}(f207:F 207=some fn207){k:Nat}{h:VH}{B:Bd}{fo:Option Nat}{ls:List Int}{f:Nat}(hlo:h.lo<=h.n)(b:B.Ok)(hf:f<B.fd.length)(hl:(ls.length:Int)=B.gr)(bi:Bits ls) :
 ∃i h',run F (k+1) 207 [B.w,iW ls,.int f,optW fo] h=.ok (.ref i) h'/\h'.get i=some (.lst [.int (lastC (B.col f) (B.fallF fo ls f).cs),iW (B.fallF fo ls f).ls,nameF B fo ls f,.bl (B.fallF fo ls f).st])/\Gw h h'/\h.n<=i:=by
 rw[zam f207 rfl]
 obtain⟨e0,c0,c1⟩:=b.col hf
 have hr:=b.r1
 have hz:(B.rows.map W.tup).length<1000000:=by rw[vaf];omega
 have e1:atI B.fd (f:Int)=some (.int (B.col f)):=zbc e0
 obtain⟨gs,hd',x',y',el⟩:=znm (cl:=run F k) (h0:=h) (b:=B.w) (f:=.int f) (fo:=fo) B.rows (B.col f) 0 [] ls none none (b.rows hl) c0 c1 (by decide) (by decide) bi
 have q:=b.fallF (fo:=fo) hf hl bi
 have i3:idxW ⟨h.n,h.n,h.os⟩ B.w (.int 3)=some (.tup B.fd):=rfl
 have i3':idxW ⟨h.n,h.n,h.os⟩ (.tup B.fd) (.int f)=some (.int (B.col f)):=e1
 have i2:idxW (sq h [] (ls.map .int)) B.w (.int 2)=some (.tup (B.rows.map .tup)):=rfl
 have s1:exs (run F k) (.set 4 (.idx (.idx (.var 0) (.cst (.int (3)))) (.var 2))) [some B.w,some (iW ls),some (.int f),some (optW fo),none,none,none,none] ⟨h.n,h.n,h.os⟩=.ok (.nx [some B.w,some (iW ls),some (.int f),some (optW fo),some (.int (B.col f)),none,none,none]) ⟨h.n,h.n,h.os⟩:=setE (idxE (idxE (varE rfl) rfl i3) (varE rfl) i3')
 have s2:exs (run F k) (.set 1 (.bi .list (.cons (.var 1) .nil))) [some B.w,some (iW ls),some (.int f),some (optW fo),some (.int (B.col f)),none,none,none] ⟨h.n,h.n,h.os⟩=.ok (.nx [some B.w,some (.ref h.n),some (.int f),some (optW fo),some (.int (B.col f)),none,none,none]) (sq h [] (ls.map .int)):=rfl
 have s3:exs (run F k) (.set 5 (.cst (.int (0)))) [some B.w,some (.ref h.n),some (.int f),some (optW fo),some (.int (B.col f)),none,none,none] (sq h [] (ls.map .int))=.ok (.nx [some B.w,some (.ref h.n),some (.int f),some (optW fo),some (.int (B.col f)),some (.int 0),none,none]) (sq h [] (ls.map .int)):=rfl
 have s4:=(show exs (run F k) (.«for» .seq (.idx (.var 0) (.cst (.int (2)))) (.one 6) zc5) [some B.w,some (.ref h.n),some (.int f),some (optW fo),some (.int (B.col f)),some (.int 0),none,none] (sq h [] (ls.map .int))=_ by
  rw[exs,idxE (varE rfl) rfl i2,bindok,zbt hz,el])
 have key:∃g1:List VO,exs (run F k) fn207.body [some B.w,some (iW ls),some (.int f),some (optW fo),none,none,none,none] ⟨h.n,h.n,h.os⟩=.ok (.rt (.ref (h.n+1+gs.length))) (sq h (.lst [.int (lastC (B.col f) (B.fallF fo ls f).cs),iW (B.fallF fo ls f).ls,nameF B fo ls f,.bl (B.fallF fo ls f).st]::gs) ((B.fallF fo ls f).ls.map .int)):=by
  refine⟨[],(zaa s1).trans ((zaa s2).trans ((zaa s3).trans ?_))⟩
  cases z:(B.fallF fo ls f).st with
  |true=>
   have z':(fallF fo B.rows (B.col f) 0 ls).st=true:=z
   rw[z',if_pos rfl]at s4
   have hn:nameF B fo ls f=.non:=by unfold nameF outF;rw[if_pos z];rfl
   rw[hn]
   exact zaf s4
  |false=>
   have z':(fallF fo B.rows (B.col f) 0 ls).st=false:=z
   rw[z',if_neg Bool.false_ne_true]at s4
   refine(zaa s4).trans (zaf (retE ?_))
   obtain⟨a1,_⟩:=b.door q.c4.1 q.c4.2
   obtain⟨y,oe,_⟩:=zeu (fo:=fo) b hf hl bi
   have od:B.door (lastC (B.col f) (B.fallF fo ls f).cs)=.tup [nameF B fo ls f,y]:=by
    rw[<-oe];unfold outF;rw[if_neg (by rw[z];exact Bool.false_ne_true)]
   rw[od]at a1
   have en:ev (run F k) (.idx (.idx (.idx (.var 0) (.cst (.int (4)))) (.var 4)) (.cst (.int (0)))) [some B.w,some (.ref h.n),some (.int f),some (optW fo),some (.int (lastC (B.col f) (B.fallF fo ls f).cs)),hd',x',y'] (sq h gs ((B.fallF fo ls f).ls.map .int))=.ok (nameF B fo ls f) (sq h gs ((B.fallF fo ls f).ls.map .int)):=idxE (idxE (x:=.tup B.dr) (idxE (varE rfl) rfl rfl) (varE rfl) a1) rfl rfl
   show ev (run F k) (.lst (.cons (.var 4) (.cons (.bi .tuple (.cons (.var 1) .nil)) (.cons (.idx (.idx (.idx (.var 0) (.cst (.int (4)))) (.var 4)) (.cst (.int (0)))) (.cons (.cst (.bl false)) .nil))))) [some B.w,some (.ref h.n),some (.int f),some (optW fo),some (.int (lastC (B.col f) (B.fallF fo ls f).cs)),hd',x',y'] (sq h gs ((B.fallF fo ls f).ls.map .int))=_
   rw[ev,ev,varE rfl,bindok,ev,zb9 rfl sq_l,bindok,ev,en,bindok,ev,ev,bindok,ev]
   rfl
 obtain⟨_,key⟩:=key
 obtain⟨T,hT⟩:∃T,T=sq h (.lst [.int (lastC (B.col f) (B.fallF fo ls f).cs),iW (B.fallF fo ls f).ls,nameF B fo ls f,.bl (B.fallF fo ls f).st]::gs) ((B.fallF fo ls f).ls.map .int):=⟨_,rfl⟩
 refine⟨h.n+1+gs.length,⟨T.n,h.lo,T.os⟩,?_,?_,?_,by omega⟩
 .show fin h (exs (run F k) fn207.body [some B.w,some (iW ls),some (.int f),some (optW fo),none,none,none,none] ⟨h.n,h.n,h.os⟩)=_
  rw[key,<-hT]
  exact zh0 hlo (by rw[hT];rfl) (by omega)
 .rw[get_lo,hT];exact zw9
 .refine⟨?_,rfl,λi o e=>?_⟩
  .rw[hT];show h.n<=h.n+1+ (gs.length+1);omega
  .rw[get_lo,hT];exact(zw8 (zaj e)).trans e
theorem zf2{F:Nat->Option Fn}(f207:F 207=some fn207){k:Nat}{B:Bd}{fo:Option Nat}{row:W}{l:Nat}(b:B.Ok):∀(r:List Nat) (ls:List Int) (ns:List W) (g:VH) (x y:Option W),g.lo<=g.n->(∀f∈r,f<B.fd.length)->(ls.length:Int)=B.gr->Bits ls->ns.length+r.length<=100000->g.get l=some (.lst ns)->
 ∃g' x' y',forL (tgW (.one 5)) (exs (run F (k+1)) zcn) (rowW r) [some B.w,some (iW ls),some (optW fo),some row,some (.ref l),x,y] g=.ok (.nx [some B.w,some (iW (toldF B fo r ls).2),some (optW fo),some row,some (.ref l),x',y']) g'/\g'.get l=some (.lst (ns++(toldF B fo r ls).1))/\g.n<=g'.n/\(∀z,z<=g.lo->z<=l->z<=g'.lo)/\(g'.lo<=g'.n)/\∀i o,i≠l->g.get i=some o->g'.get i=some o
 |[],ls,ns,g,x,y,hlo,_,_,_,_,gl=>⟨g,x,y,by simp[forL,rowW,toldF],by simpa[toldF]using gl,vae _,λ_ h _=>h,hlo,λ_ _ _ h=>h⟩
 |f::r,ls,ns,g,x,y,hlo,hr,hl,bi,hn,gl=>by
  have hf:=hr f vag
  have qf:=b.fallF (fo:=fo) hf hl bi
  rw[vah]at hn
  obtain⟨i,g1,e1,gi,gw,hi⟩:=zk9 (k:=k) (h:=g) (fo:=fo) f207 hlo b hf hl bi
  have gl1:=gw.get _ _ gl
  have gs:=zau (o:=.lst (ns++[nameF B fo ls f])) gl1
  have hll:=zaj gl
  have hli:i≠l:=by omega
  have gi2:(g1.set l (.lst (ns++[nameF B fo ls f]))).get i=some (.lst [.int (lastC (B.col f) (B.fallF fo ls f).cs),iW (B.fallF fo ls f).ls,nameF B fo ls f,.bl (B.fallF fo ls f).st]):=by rw[zag gl1 hli];exact gi
  have hlo2:(g1.set l (.lst (ns++[nameF B fo ls f]))).lo<=(g1.set l (.lst (ns++[nameF B fo ls f]))).n:=by
   have h1:=gw.lo
   have h2:=gw.le
   show(if Nat.blt l g1.lo then l else g1.lo)<=g1.n
   split<;>omega
  obtain⟨g',x',y',ih,ig,il,ilo,ilo2,io⟩:=zf2 f207 (k:=k) (fo:=fo) (row:=row) (l:=l) b r (B.fallF fo ls f).ls (ns++[nameF B fo ls f]) (g1.set l (.lst (ns++[nameF B fo ls f]))) (some (.int f)) (some (.ref i)) hlo2 (λg hg=>hr g (vad _ hg)) (by rw[qf.l1];exact hl) qf.l2 (by rw[vao,va5];omega) gs
  have s1:exs (run F (k+1)) (.set 6 (.call 207 (.cons (.var 0) (.cons (.var 1) (.cons (.var 5) (.cons (.var 2) .nil)))))) [some B.w,some (iW ls),some (optW fo),some row,some (.ref l),some (.int f),y] g=.ok (.nx [some B.w,some (iW ls),some (optW fo),some row,some (.ref l),some (.int f),some (.ref i)]) g1:=setE (zer (varE rfl) (varE rfl) (varE rfl) (varE rfl) e1)
  have t2:ev (run F (k+1)) (.idx (.var 6) (.cst (.int (2)))) [some B.w,some (iW ls),some (optW fo),some row,some (.ref l),some (.int f),some (.ref i)] g1=.ok (nameF B fo ls f) g1:=idxE (varE rfl) rfl (by simp only[idxW,gi];rfl)
  have ea:=zbq (cl:=run F (k+1)) (i:=4) (l:=l) (acc:=ns) (acc0:=ns) rfl gl1 t2 gl1 (by omega)
  have s3:exs (run F (k+1)) (.set 1 (.idx (.var 6) (.cst (.int (1))))) [some B.w,some (iW ls),some (optW fo),some row,some (.ref l),some (.int f),some (.ref i)] (g1.set l (.lst (ns++[nameF B fo ls f])))=.ok (.nx [some B.w,some (iW (B.fallF fo ls f).ls),some (optW fo),some row,some (.ref l),some (.int f),some (.ref i)]) (g1.set l (.lst (ns++[nameF B fo ls f]))):=setE (idxE (varE rfl) rfl (by simp only[idxW,gi2];rfl))
  have eb:exs (run F (k+1)) zcn [some B.w,some (iW ls),some (optW fo),some row,some (.ref l),some (.int f),y] g=.ok (.nx [some B.w,some (iW (B.fallF fo ls f).ls),some (optW fo),some row,some (.ref l),some (.int f),some (.ref i)]) (g1.set l (.lst (ns++[nameF B fo ls f]))):=(zaa s1).trans ((zaa (exprE ea)).trans ((zaa s3).trans rfl))
  refine⟨g',x',y',?_,by rw[ig];simp only[toldF,List.append_assoc,List.singleton_append],Nat.le_trans gw.le il,λz h1 h2=>ilo z (zqi (by rw[gw.lo];exact h1) h2) h2,ilo2,λj o hj e=>io j o hj ?_⟩
  .show forL (tgW (.one 5)) (exs (run F (k+1)) zcn) (.int f::rowW r) _ _=_
   simp only[forL,tgW,vau,vap,eb,bindok,ih,toldF]
  .rw[zag gl1 hj];exact gw.get _ _ e
theorem zs6{cl:Call}{a b:E}{ρ:En}{h h1 h2:VH}{i j:Nat}{xs ys:List W}(ea:ev cl a ρ h=.ok (.ref i) h1)(eb:ev cl b ρ h1=.ok (.ref j) h2)(gi:h2.get i=some (.lst xs))(gj:h2.get j=some (.lst ys))(hl:xs.length+ys.length<=1000000):ev cl (.op .add a b) ρ h=.ok (.ref h2.n) (h2.new (.lst (xs++ys))):=by
 refine opE ea eb ?_
 simp only[opW,gi,gj,opL,if_pos (zbu hl)]
section
variable{F:Nat->Option Fn}{c:Addr}(C:CoreO F c)
include C
theorem zf3{fo:Option Nat}{k:Nat}{B:Bd}{row:W}{o d l:Nat}(b:B.Ok):∀(r:List Nat) (ls:List Int) (ns:List W) (xs:List Stn) (g:VH) (x y:Option W),(∀f∈r,f<B.fd.length)->(ls.length:Int)=B.gr->Bits ls->ns.length+r.length<=100000->xs.length+r.length<=100000->BqF c B fo g o d xs->g.get l=some (.lst ns)->
 ∃g' xs' x' y',forL (tgW (.one 4)) (exs (run F (k+5)) (zbv c)) (rowW r) [some (.ref o),some (iW ls),some row,some (.ref l),x,y] g=.ok (.nx [some (.ref o),some (iW (toldF B fo r ls).2),some row,some (.ref l),x',y']) g'/\BqF c B fo g' o d xs'/\g'.get l=some (.lst (ns++(toldF B fo r ls).1))/\xs'.length<=xs.length+r.length/\(∀z,z<=g.lo->z<=d->z<=l->z<=g'.lo)/\g'.n=g.n/\∀i,i≠d->i≠l->g'.get i=g.get i
 |[],ls,ns,xs,g,x,y,_,_,_,_,_,q,gl=>⟨g,xs,x,y,by simp[forL,rowW,toldF],q,by simpa[toldF]using gl,Nat.le_add_right _ _,λz h _ _=>h,rfl,λ_ _ _=>rfl⟩
 |f::r,ls,ns,xs,g,x,y,hr,hl,bi,hn,hx,q,gl=>by
  have hf:=hr f vag
  have qf:=b.fallF (fo:=fo) hf hl bi
  obtain⟨z,ez,_⟩:=zeu (fo:=fo) b hf hl bi
  rw[vah]at hn hx
  obtain⟨g1,xs1,e1,q1,n1,lo1,o1,l1⟩:=zw5 C (fo:=fo) (k:=k) b hf hl bi q (by omega)
  have gl1:g1.get l=some (.lst ns):=by
   rw[o1 l λz=>by subst z;rw[q.dct]at gl;cases gl];exact gl
  have em:ev (run F (k+5)) (.mcall c (PySem.Str.ofString "fall") 345 (.var 0) (.cons (.var 1) (.cons (.var 4) .nil))) [some (.ref o),some (iW ls),some row,some (.ref l),some (.int f),y] g=.ok (outSF B fo (ls,some f)) g1:=by
   have ea:ev (run F (k+5)) (.cons (.var 1) (.cons (.var 4) .nil)) [some (.ref o),some (iW ls),some row,some (.ref l),some (.int f),y] g=.ok (.tup [iW ls,.int f]) g:=by
    rw[ev,varE rfl,bindok,ev,varE rfl,bindok,ev];rfl
   have hi:isIns c (PySem.Str.ofString "fall") g (.ref o)=true:=by
    simp only[isIns,q.ins,zsz,decide_true,Option.isNone_none,Bool.and_self]
   rw[ev,varE rfl,bindok]
   show(if isIns c (PySem.Str.ofString "fall") g (.ref o)=true then _ else _)=_
   rw[if_pos hi,ea,bindok]
   exact e1
  have e2:exs (run F (k+5)) (.unp [5,1] (.mcall c (PySem.Str.ofString "fall") 345 (.var 0) (.cons (.var 1) (.cons (.var 4) .nil)))) [some (.ref o),some (iW ls),some row,some (.ref l),some (.int f),y] g=.ok (.nx [some (.ref o),some (iW (B.fallF fo ls f).ls),some row,some (.ref l),some (.int f),some (outF B fo ls f)]) g1:=by
   rw[exs,em,bindok]
   rfl
  have ea:=zbq (cl:=run F (k+5)) (i:=3) (l:=l) (x:=.idx (.var 5) (.cst (.int 0))) (ρ:=[some (.ref o),some (iW (B.fallF fo ls f).ls),some row,some (.ref l),some (.int f),some (outF B fo ls f)]) (h:=g1) (h1:=g1) (w:=nameF B fo ls f) (acc:=ns) (acc0:=ns) rfl gl1 (by rw[ez];simp only[ev,Option.join_some,vax,List.getElem?_cons_zero,ofsome,bindok,idxW];rfl) gl1 (by omega)
  obtain⟨g',xs',x',y',ih,iq,il,ixl,ilo,inn,io⟩:=zf3 (fo:=fo) (k:=k) (row:=row) b r (B.fallF fo ls f).ls (ns++[nameF B fo ls f]) xs1 (g1.set l (.lst (ns++[nameF B fo ls f]))) (some (.int f)) (some (outF B fo ls f)) (λg hg=>hr g (vad _ hg)) (by rw[qf.l1];exact hl) qf.l2 (by rw[vao,va5];omega) (by omega) (q1.other gl1) (zau gl1)
  refine⟨g',xs',x',y',?_,iq,by rw[il];simp only[toldF,List.append_assoc,List.singleton_append],by rw[vah];omega,λz h1 h2 h3=>ilo z (zqi (lo1 z h1 h2) h3) h2 h3,inn.trans n1,λi h1 h2=>(io i h1 h2).trans ((zag gl1 h2).trans (o1 i h1))⟩
  have eb:exs (run F (k+5)) (zbv c) [some (.ref o),some (iW ls),some row,some (.ref l),some (.int f),y] g=.ok (.nx [some (.ref o),some (iW (B.fallF fo ls f).ls),some row,some (.ref l),some (.int f),some (outF B fo ls f)]) (g1.set l (.lst (ns++[nameF B fo ls f]))):=by
   unfold zbv
   rw[zaa e2]
   simp only[exs,ea,bindok]
  show forL (tgW (.one 4)) (exs (run F (k+5)) (zbv c)) (.int f::rowW r) _ _=_
  simp only[forL,tgW,vau,vap,eb,bindok,ih,toldF]
theorem zpj{fo:Option Nat}{k:Nat}{h:VH}{B:Bd}{ls:List Int}{r:List Nat}{o d:Nat}{xs:List Stn}(b:B.Ok)(hr:r.length<=2000)(hf:∀f∈r,f<B.fd.length)(hl:(ls.length:Int)=B.gr)(bi:Bits ls)(q:BqF c B fo h o d xs)(hx:xs.length<=90000) :
 ∃h',run F (k+6) 179 [.ref o,iW ls,.tup (rowW r)] h=.ok (.tup [.tup (toldF B fo r ls).1,iW (toldF B fo r ls).2]) h'/\(∃xs',BqF c B fo h' o d xs'/\xs'.length<=xs.length+r.length)/\(∀z,z<=h.lo->z<=d->z<=h.n->z<=h'.lo)/\h.n<=h'.n/\∀i,i≠d->i<h.n->h'.get i=h.get i:=by
 have q0:BqF c B fo ((VH.mk h.n h.n h.os).new (.lst [])) o d xs:=q.lo.new
 have g0:((VH.mk h.n h.n h.os).new (.lst [])).get h.n=some (.lst []):=zao (h:=⟨h.n,h.n,h.os⟩)
 obtain⟨g,xs',x,y,e3,iq,il,ixl,ilo,inn,io⟩:=zf3 C (fo:=fo) (k:=k) (row:=.tup (rowW r)) b r ls [] xs _ none none hf hl bi (by rw[List.length_nil];omega) (by omega) q0 g0
 have hz:(rowW r).length<1000000:=by unfold rowW;rw[vaf];omega
 have s3:exs (run F (k+5)) (.set 3 (.lst .nil)) [some (.ref o),some (iW ls),some (.tup (rowW r)),none,none,none] ⟨h.n,h.n,h.os⟩=.ok (.nx [some (.ref o),some (iW ls),some (.tup (rowW r)),some (.ref h.n),none,none]) ((VH.mk h.n h.n h.os).new (.lst [])):=rfl
 have s4:exs (run F (k+5)) (.«for» .seq (.var 2) (.one 4) (zbv c)) [some (.ref o),some (iW ls),some (.tup (rowW r)),some (.ref h.n),none,none] ((VH.mk h.n h.n h.os).new (.lst []))=.ok (.nx [some (.ref o),some (iW (toldF B fo r ls).2),some (.tup (rowW r)),some (.ref h.n),x,y]) g:=by
  have ef:=zbt (tg:=tgW (.one 4)) (b:=exs (run F (k+5)) (zbv c)) (ρ:=[some (.ref o),some (iW ls),some (.tup (rowW r)),some (.ref h.n),none,none]) (h:=(VH.mk h.n h.n h.os).new (.lst [])) hz
  rw[e3]at ef
  rw[exs,varE rfl,bindok,ef]
 have eb:exs (run F (k+5)) (fn179 c).body [some (.ref o),some (iW ls),some (.tup (rowW r)),none,none,none] ⟨h.n,h.n,h.os⟩=.ok (.rt (.tup [.tup (toldF B fo r ls).1,iW (toldF B fo r ls).2])) g:=by
  refine(zaa s3).trans ((zaa s4).trans (zaf (retE (tup2E (zb9 rfl ?_) (varE rfl)))))
  rw[il];rfl
 have hlt:W.lt h.n (.tup [.tup (toldF B fo r ls).1,iW (toldF B fo r ls).2])=true:=by
  obtain⟨_,_,hn⟩:=zc4 (fo:=fo) b r ls hf hl bi
  simp only[lt_tup,lts_cons,lts_nil,iW_lt,Bool.and_true]
  have:∀ws:List W,(∀w∈ws,w=.non\/∃i:Int,w=.int i)->W.lts h.n ws=true:=by
   intro ws
   induction ws with
   |nil=>intro _;simp
   |cons w r ih=>
    intro hw
    rw[lts_cons,ih λw h=>hw w (vad _ h)]
    rcases hw w vag with rfl|⟨i,rfl⟩<;>simp
  exact this _ hn
 have ilo':∀z,z<=d->z<=h.n->z<=g.lo:=λz h1 h2=>ilo z h2 h1 h2
 rw[zam C.f179 rfl]
 by_cases hc:h.n<=g.lo
 .refine⟨h,?_,⟨xs,q,Nat.le_add_right _ _⟩,λz h1 _ _=>h1,vae _,λ_ _ _=>rfl⟩
  show fin h (exs (run F (k+5)) (fn179 c).body [some (.ref o),some (iW ls),some (.tup (rowW r)),none,none,none] ⟨h.n,h.n,h.os⟩)=_
  rw[eb]
  exact zan hc hlt
 .refine⟨⟨g.n,if Nat.ble h.lo g.lo then h.lo else g.lo,g.os⟩,?_,⟨xs',iq.lo,ixl⟩,λz h1 h2 h3=>?_,?_,λi h1 h2=>?_⟩
  .show fin h (exs (run F (k+5)) (fn179 c).body [some (.ref o),some (iW ls),some (.tup (rowW r)),none,none,none] ⟨h.n,h.n,h.os⟩)=_
   rw[eb]
   show leave h _ g=_
   unfold leave
   have h2:Nat.ble h.n g.lo=false:=by
    cases z:Nat.ble h.n g.lo with
    |false=>rfl
    |true=>exact absurd (va1 z) hc
   rw[h2,Bool.false_and,if_neg Bool.false_ne_true]
  .have:=ilo' z h2 h3
   show z<=(if Nat.ble h.lo g.lo then h.lo else g.lo)
   split<;>assumption
  .rw[show g.n=h.n+1 from inn];omega
  .exact(get_lo (h:=g)).trans ((io i h1 (by omega)).trans (zad (h:=⟨h.n,h.n,h.os⟩) h2))
end
noncomputable def fn210:Fn:=⟨1,1,(.seq (.ret (.op .add (.lst (.cons (.cst .non) .nil)) (.bi .lrng (.cons (.var 0) .nil)))) .skip)⟩
noncomputable def zkf:E:=(.call 287 (.cons (.var 0) .nil))
noncomputable def fn283:Fn:=⟨1,1,(.seq (.ret (.and (.isi .tuple (.var 0)) (.bi .all (.cons (.lc .seq (.var 0) (.one 0) 1 [] (.cst (.bl true)) zkf) .nil)))) .skip)⟩
noncomputable def zg0:E:=(.call 283 (.cons (.var 0) .nil))
noncomputable def zc7:E:=(.tru (.call 292 (.cons (.call 347 (.cons (.var 2) (.cons (.var 0) .nil))) (.cons (.var 3) (.cons (.var 4) (.cons (.var 1) .nil))))))
noncomputable def zc8:E:=(.var 0)
noncomputable def fn285:Fn:=⟨4,4,(.seq (.expr (.call 24 (.cons (.var 0) (.cons (.var 1) .nil)))) (.seq (.expr (.call 288 (.cons (.var 0) (.cons (.var 2) .nil)))) (.seq (.ite (.or (.not (.tru (.call 6 (.cons (.var 3) (.cons (.bi .len (.cons (.var 2) .nil)) (.cons (.bi .len (.cons (.var 2) .nil)) .nil)))))) (.not (.tru (.bi .all (.cons (.lc .seq (.var 3) (.one 0) 1 [] (.cst (.bl true)) zg0) .nil))))) (.seq .no .skip) .skip) (.seq (.ret (.bi .tuple (.cons (.lc .seq (.call 210 (.cons (.idx (.var 0) (.cst (.int (1)))) .nil)) (.one 0) 1 [3,0,1,2] zc7 zc8) .nil))) .skip))))⟩
noncomputable def fn287:Fn:=⟨1,1,(.seq (.ret (.or (.cmp .isn (.var 0) (.cst .non)) (.call 1 (.cons (.var 0) (.cons (.cst (.int (0))) (.cons (.cst (.int (99))) .nil)))))) .skip)⟩
noncomputable def zd3:S:=(.seq (.expr (.call 180 (.cons (.var 0) (.cons (.var 2) .nil)))) .skip)
noncomputable def fn288:Fn:=⟨2,3,(.seq (.ite (.not (.tru (.isi .tuple (.var 1)))) (.seq .no .skip) .skip) (.seq (.«for» .seq (.var 1) (.one 2) zd3) .skip))⟩
noncomputable def zce:S:=(.seq (.ite (.cmp .ne (.idx (.call 179 (.cons (.var 0) (.cons (.var 1) (.cons (.var 4) .nil)))) (.cst (.int (0)))) (.var 5)) (.seq (.ret (.cst (.bl false))) .skip) .skip) .skip)
noncomputable def fn292:Fn:=⟨4,6,(.seq (.«for» .zip (.cons (.var 2) (.cons (.var 3) .nil)) (.many [4,5]) zce) (.seq (.ret (.cst (.bl true))) .skip))⟩
noncomputable def zev:S:=(.seq (.set 6 (.call 207 (.cons (.var 0) (.cons (.var 1) (.cons (.var 5) (.cons (.var 2) .nil)))))) (.seq (.expr (.mt .append (.var 4) (.cons (.idx (.var 6) (.cst (.int (2)))) .nil))) (.seq (.set 1 (.idx (.var 6) (.cst (.int (1))))) .skip)))
noncomputable def zbn:Fn:=⟨4,7,(.seq (.set 4 (.lst .nil)) (.seq (.«for» .seq (.var 3) (.one 5) zev) (.seq (.ret (.bi .tuple (.cons (.var 4) .nil))) .skip)))⟩
noncomputable def zbg:S:=(.seq (.ite (.or (.and (.cmp .isn (.var 3) (.cst .non)) (.cmp .notn (.var 2) (.cst .non))) (.or (.tru (.isi .bool (.var 2))) (.cmp .ne (.var 2) (.var 3)))) (.seq (.ret (.cst (.bl false))) .skip) .skip) .skip)
noncomputable def zc9:Fn:=⟨2,4,(.seq (.ite (.or (.not (.tru (.isi .tuple (.var 0)))) (.cmp .ne (.bi .len (.cons (.var 0) .nil)) (.bi .len (.cons (.var 1) .nil)))) (.seq (.ret (.cst (.bl false))) .skip) .skip) (.seq (.«for» .zip (.cons (.var 0) (.cons (.var 1) .nil)) (.many [2,3]) zbg) (.seq (.ret (.cst (.bl true))) .skip)))⟩
noncomputable def zbw:E:=(.call 5 (.cons (.var 1) (.cons (.cst (.int (3))) .nil)))
noncomputable def zcf:Fn:=⟨5,11,(.seq (.set 5 (.call 5 (.cons (.var 0) (.cons (.cst (.int (6))) .nil)))) (.seq (.ite (.or (.cmp .eq (.var 5) (.cst (.int (0)))) (.cmp .eq (.bi .len (.cons (.var 3) .nil)) (.cst (.int (0))))) (.seq (.ret (.var 4)) .skip) .skip) (.seq (.set 6 (.call 5 (.cons (.var 0) (.cons (.bi .len (.cons (.var 3) .nil)) .nil)))) (.seq (.set 7 (.idx (.var 4) (.var 6))) (.seq (.set 8 (.call 5 (.cons (.var 0) (.cons (.op .add (.bi .len (.cons (.var 7) .nil)) (.cst (.int (1)))) .nil)))) (.seq (.set 9 (.idx (.lst (.cons (.cst .non) (.cons (.cst (.int (0))) (.cons (.cst (.int (1))) (.cons (.cst (.int (99))) (.cons (.call 5 (.cons (.var 0) (.cons (.cst (.int (100))) .nil))) .nil)))))) (.call 5 (.cons (.var 0) (.cons (.cst (.int (5))) .nil))))) (.seq (.ite (.cmp .eq (.var 5) (.cst (.int (1)))) (.seq (.set 7 (.op .add (.op .add (.slc (.var 7) false (.cst .non) true (.var 8)) (.tup (.cons (.var 9) .nil))) (.slc (.var 7) true (.op .add (.var 8) (.cst (.int (1)))) false (.cst .non)))) .skip) (.seq (.ite (.cmp .eq (.var 5) (.cst (.int (2)))) (.seq (.set 7 (.op .add (.op .add (.slc (.var 7) false (.cst .non) true (.var 8)) (.tup (.cons (.var 9) .nil))) (.slc (.var 7) true (.var 8) false (.cst .non)))) .skip) (.seq (.ite (.cmp .eq (.var 5) (.cst (.int (3)))) (.seq (.set 7 (.op .add (.slc (.var 7) false (.cst .non) true (.var 8)) (.slc (.var 7) true (.op .add (.var 8) (.cst (.int (1)))) false (.cst .non)))) .skip) (.seq (.ite (.cmp .eq (.var 5) (.cst (.int (4)))) (.seq (.set 10 (.op .add (.lst (.cons (.cst .non) .nil)) (.bi .lrng (.cons (.idx (.var 1) (.cst (.int (1)))) .nil)))) (.seq (.set 7 (.call 700 (.cons (.var 1) (.cons (.var 2) (.cons (.idx (.var 10) (.call 5 (.cons (.var 0) (.cons (.bi .len (.cons (.var 10) .nil)) .nil)))) (.cons (.idx (.var 3) (.var 6)) .nil)))))) .skip)) (.seq (.set 7 (.bi .tuple (.cons (.lc .seq (.var 7) (.one 0) 1 [0] (.cst (.bl true)) zbw) .nil))) .skip)) .skip)) .skip)) .skip)) (.seq (.ret (.op .add (.op .add (.slc (.var 4) false (.cst .non) true (.var 6)) (.tup (.cons (.var 7) .nil))) (.slc (.var 4) true (.op .add (.var 6) (.cst (.int (1)))) false (.cst .non)))) .skip))))))))⟩
noncomputable def zco:E:=(.call 5 (.cons (.var 2) (.cons (.bi .len (.cons (.idx (.var 1) (.cst (.int (3)))) .nil)) .nil)))
noncomputable def zbh:S:=(.seq (.expr (.mt .append (.var 6) (.cons (.bi .tuple (.cons (.lc .rng1 (.cons (.call 5 (.cons (.var 1) (.cons (.cst (.int (10))) .nil))) .nil) (.one 0) 1 [2,1] (.cst (.bl true)) zco) .nil)) .nil))) .skip)
noncomputable def zew:E:=(.call 700 (.cons (.var 1) (.cons (.var 3) (.cons (.var 2) (.cons (.var 0) .nil)))))
noncomputable def zcp:E:=(.call 700 (.cons (.var 1) (.cons (.var 2) (.cons (.var 3) (.cons (.var 0) .nil)))))
noncomputable def za4:S:=(.seq (.ite (.cmp .eq (.bi .tuple (.cons (.lc .seq (.var 6) (.one 0) 1 [2,3,12] (.cst (.bl true)) zcp) .nil)) (.var 10)) (.seq (.expr (.mt .append (.var 11) (.cons (.var 12) .nil))) .skip) .skip) .skip)
noncomputable def zbi:S:=(.seq (.set 11 (.lst .nil)) (.seq (.«for» .seq (.var 4) (.one 12) za4) (.seq (.ite (.and (.cmp .eq (.var 7) (.cst (.int (0)))) (.cmp .nin (.var 8) (.var 11))) (.seq (.ret (.cst (.bl false))) .skip) .skip) (.seq (.ite (.not (.tru (.call 701 (.cons (.call 285 (.cons (.var 2) (.cons (.var 3) (.cons (.bi .tuple (.cons (.var 6) .nil)) (.cons (.var 10) .nil))))) (.cons (.var 11) .nil))))) (.seq (.ret (.cst (.bl false))) .skip) .skip) (.seq (.ite (.not (.tru (.call 701 (.cons (.call 285 (.cons (.var 2) (.cons (.var 3) (.cons (.bi .tuple (.cons (.var 6) .nil)) (.cons (.var 10) .nil))))) (.cons (.var 11) .nil))))) (.seq (.ret (.cst (.bl false))) .skip) .skip) .skip)))))
noncomputable def zbj:S:=(.seq (.set 6 (.lst .nil)) (.seq (.«for» .rng1 (.cons (.call 5 (.cons (.var 1) (.cons (.cst (.int (5))) .nil))) .nil) (.one 7) zbh) (.seq (.set 8 (.idx (.var 4) (.call 5 (.cons (.var 1) (.cons (.bi .len (.cons (.var 4) .nil)) .nil))))) (.seq (.set 9 (.bi .tuple (.cons (.lc .seq (.var 6) (.one 0) 1 [2,8,3] (.cst (.bl true)) zew) .nil))) (.seq (.«for» .enm (.lst (.cons (.var 9) (.cons (.call 702 (.cons (.var 1) (.cons (.var 2) (.cons (.var 3) (.cons (.var 6) (.cons (.var 9) .nil)))))) .nil))) (.many [7,10]) zbi) .skip)))))
noncomputable def zd4:Fn:=⟨1,13,(.seq (.set 1 (.call 3 (.cons (.var 0) .nil))) (.seq (.set 2 (.call 129 (.cons (.var 1) (.cons (.cst (.int (9))) (.cons (.cst (.int (8))) (.cons (.cst (.int (8))) .nil)))))) (.seq (.set 3 (.call 20 (.cons (.var 1) (.cons (.idx (.var 2) (.cst (.int (1)))) .nil)))) (.seq (.set 4 (.op .add (.lst (.cons (.cst .non) .nil)) (.bi .lrng (.cons (.idx (.var 2) (.cst (.int (1)))) .nil)))) (.seq (.«for» .rng1 (.cons (.cst (.int (4))) .nil) (.one 5) zbj) (.seq (.ret (.cst (.bl true))) .skip))))))⟩
noncomputable def nmOk(w:W):Prop:=w=.non\/∃i:Int,w=.int i/\0<=i/\i<=99
noncomputable def nm1:W->W->Bool
 |.non,.non=>true
 |.int i,.int j=>decide (i=j)
 |_,_=>false
noncomputable def zbk:List W->List W->Bool
 |[],[]=>true
 |x::xs,y::ys=>nm1 x y&&zbk xs ys
 |_,_=>false
noncomputable def nmD:W->PyData
 |.int i=>.int i
 |_=>.none
theorem zxb{h:VH}{n:Nat}{w:W}(hw:nmOk w):toD h (n+1) w=some (nmD w):=by
 rcases hw with rfl|⟨i,rfl,_⟩<;>rw[toD]<;>rfl
theorem zg1{h:VH}{n:Nat}:∀ws:List W,(∀w∈ws,nmOk w)->mapO (toD h (n+1)) ws=some (ws.map nmD)
 |[],_=>rfl
 |w::r,hw=>by
  simp only[mapO,zxb (hw w vag),zg1 r λx hx=>hw x (vad _ hx),vam]
theorem zxc{x y:W}(hx:nmOk x)(hy:nmOk y):PyData.eqv (nmD x) (nmD y)=nm1 x y:=by
 rcases hx with rfl|⟨i,rfl,_⟩<;>rcases hy with rfl|⟨j,rfl,_⟩<;>rfl
theorem zi2:∀{xs ys:List W},(∀w∈xs,nmOk w)->(∀w∈ys,nmOk w)->PyData.eqvAll (xs.map nmD) (ys.map nmD)=zbk xs ys
 |[],[],_,_=>rfl
 |[],_::_,_,_=>rfl
 |_::_,[],_,_=>rfl
 |x::xs,y::ys,h1,h2=>by
  show(PyData.eqv (nmD x) (nmD y)&&PyData.eqvAll (xs.map nmD) (ys.map nmD))=_
  rw[zxc (h1 x vag) (h2 y vag),zi2 (λw hw=>h1 w (vad _ hw)) λw hw=>h2 w (vad _ hw)]
  rfl
theorem zex{n:Nat}{ws:List W}(h:∀w∈ws,nmOk w):zaz (n+2) (.tup ws)=true:=by
 rw[zep,List.all_eq_true]
 intro w hw
 rcases h w hw with rfl|⟨i,rfl,_⟩<;>rfl
theorem zxd{h:VH}{xs ys:List W}(h1:∀w∈xs,nmOk w)(h2:∀w∈ys,nmOk w):eqW h (.tup xs) (.tup ys)=some (zbk xs ys):=by
 have e1:toD h 24 (.tup xs)=some (.tuple (xs.map nmD)):=by
  show(mapO (toD h 23) xs).map PyData.tuple=_
  rw[zg1 xs h1];rfl
 have e2:toD h 24 (.tup ys)=some (.tuple (ys.map nmD)):=by
  show(mapO (toD h 23) ys).map PyData.tuple=_
  rw[zg1 ys h2];rfl
 have s1:=zc3 (zex h1) e1
 have s2:=zc3 (zex h2) e2
 unfold eqW
 rw[e1,e2]
 simp only[s1,s2,Bool.and_self,if_true]
 show some (PyData.eqvAll (xs.map nmD) (ys.map nmD))=_
 rw[zi2 h1 h2]
theorem zdr:∀{xs:List W},(∀w∈xs,nmOk w)->zbk xs xs=true
 |[],_=>rfl
 |x::xs,h=>by
  have:=zdr (xs:=xs) λw hw=>h w (vad _ hw)
  show(nm1 x x&&zbk xs xs)=true
  rw[this,Bool.and_true]
  rcases h x vag with rfl|⟨i,rfl,_⟩
  .rfl
  .exact decide_eq_true rfl
theorem zpk{B:Bd}{fo:Option Nat}{ls:List Int}{f:Nat}(b:B.Ok)(hf:f<B.fd.length)(hl:(ls.length:Int)=B.gr)(bi:Bits ls):nmOk (nameF B fo ls f):=by
 unfold nameF outF
 split
 .exact .inl rfl
 .have q:=b.fallF (fo:=fo) hf hl bi
  obtain⟨_,a2⟩:=b.door q.c4.1 q.c4.2
  generalize B.door (lastC (B.col f) (B.fallF fo ls f).cs)=w at a2
  unfold door at a2
  split at a2
  .rename_i a y
   rw[vab]at a2
   have h1:=a2.1
   cases a<;>simp only[within]at h1<;>try(cases h1;done)
   rw[vab,vaw,vaw]at h1
   exact .inr ⟨_,rfl,h1⟩
  .cases a2
theorem zda{B:Bd}{fo:Option Nat}(b:B.Ok):∀(r:List Nat) (ls:List Int),(∀f∈r,f<B.fd.length)->(ls.length:Int)=B.gr->Bits ls->∀w∈(toldF B fo r ls).1,nmOk w
 |[],_,_,_,_=>λw h=>by cases h
 |f::r,ls,hr,hl,bi=>λw hw=>by
  have hf:=hr f vag
  have q:=b.fallF (fo:=fo) hf hl bi
  rcases va2.mp (show w∈nameF B fo ls f:: (toldF B fo r (B.fallF fo ls f).ls).1 from hw)with rfl|hw
  .exact zpk b hf hl bi
  .exact zda b r _ (λg hg=>hr g (vad _ hg)) (by rw[q.l1];exact hl) q.l2 w hw
theorem allS{cl:Call}{a e:E}{ρ:En}{ws:List W}{h:VH}(ea:ev cl a ρ h=.ok (.tup ws) h)(hw:ws.length<=100000)(he:∀w∈ws,ev cl e [some w] h=.ok (.bl true) h) :
 ev cl (.bi .all (.cons (.lc .seq a (.one 0) 1 [] (.cst (.bl true)) e) .nil)) ρ h=.ok (.bl true) (h.new (.lst (List.replicate ws.length (.bl true)))):=by
 have l:=zni (nx:=nxt .seq (.tup ws)) (c:=λ_ h=>.ok (.bl true) h) (e:=ev cl e) (h:=h) (ws:=ws) (tl:=[]) (p:=λ_=>true) (f:=λ_=>W.bl true) (λi=>rfl) (λ_ _=>rfl) he fuel 0 none [] (Nat.zero_le _) (by have hf:fuel=1000000:=rfl;omega)
 refine allE (j:=h.n) (n:=ws.length) ?_ zao
 rw[ev,ea,bindok]
 show(lcG (nxt .seq (.tup ws)) (tgW (.one 0)) (λ_ h=>.ok (.bl true) h) (ev cl e) fuel 0 [none] h []).bind _=_
 have hr:([]:List W).reverse++((ws.drop 0).filter λ_=>true).map (λ_=>W.bl true)=List.replicate ws.length (.bl true):=by
  rw[List.drop_zero,List.filter_eq_self.mpr λ_ _=>rfl,List.map_const'];rfl
 rw[l,hr,bindok,if_pos (zbu (by rw[List.length_replicate];omega))]
section
variable{F:Nat->Option Fn}(A:CoreA F)(f283:F 283=some fn283)(f287:F 287=some fn287)
include A f287
theorem zs7{k:Nat}{h:VH}{w:W}(hw:nmOk w):run F (k+3) 287 [w] h=.ok (.bl true) h:=by
 rw[zam f287 rfl]
 rcases hw with rfl|⟨i,rfl,h0,h1⟩
 .show fin h (.ok (.rt (.bl true)) ⟨h.n,h.n,h.os⟩)=_
  exact zan (vae _) (by simp)
 .have e:=zap A (k:=k) (h:=⟨h.n,h.n,h.os⟩) (w:=.int i) (lo:=0) (hi:=99) (by unfold Kn;simp)
  have t2:within (.int i) 0 99=true:=by simp only[within,vab,vaw];omega
  rw[t2]at e
  have eb:exs (run F (k+2)) fn287.body [some (.int i)] ⟨h.n,h.n,h.os⟩=.ok (.rt (.bl true)) ⟨h.n,h.n,h.os⟩:=zaf (retE (orF (h1:=⟨h.n,h.n,h.os⟩) rfl (znd (varE rfl) rfl rfl e)))
  show fin h (exs (run F (k+2)) fn287.body [some (.int i)] ⟨h.n,h.n,h.os⟩)=_
  rw[eb]
  exact zan (vae _) (by simp)
include f283 in
theorem zpl{k:Nat}{h:VH}{ws:List W}(hw:∀w∈ws,nmOk w)(hl:ws.length<=100000):run F (k+4) 283 [.tup ws] h=.ok (.bl true) h:=by
 rw[zam f283 rfl]
 have e:=allS (cl:=run F (k+3)) (a:=.var 0) (e:=zkf) (ρ:=[some (.tup ws)]) (h:=⟨h.n,h.n,h.os⟩) (varE rfl) hl λw hw'=>zka (varE rfl) (zs7 A f287 (hw w hw'))
 have eb:exs (run F (k+3)) fn283.body [some (.tup ws)] ⟨h.n,h.n,h.os⟩=.ok (.rt (.bl true)) (VH.new ⟨h.n,h.n,h.os⟩ (.lst (List.replicate ws.length (.bl true)))):=zaf (retE (andT (h1:=⟨h.n,h.n,h.os⟩) rfl e))
 show fin h (exs (run F (k+3)) fn283.body [some (.tup ws)] ⟨h.n,h.n,h.os⟩)=_
 rw[eb]
 exact zan (vae _) (by simp)
end
noncomputable def rowsW(rs:List (List Nat)):List W:=rs.map λr=>.tup (rowW r)
section
variable{F:Nat->Option Fn}(R:CoreRw F)(B':CoreB F)(f288:F 288=some fn288)
include R B' f288
theorem zey{k:Nat}{B:Bd}{w1:Option W}{h:VH}:∀(rs:List (List Nat)) (x:Option W),(∀r∈rs,r.length<=2000/\∀f∈r,f<B.fd.length)->∃x',forL (tgW (.one 2)) (exs (run F (k+5)) zd3) (rowsW rs) [some B.w,w1,x] h=.ok (.nx [some B.w,w1,x']) h
 |[],x,_=>⟨x,rfl⟩
 |r::rs,x,hr=>by
  obtain⟨h1,h2⟩:=hr r vag
  obtain⟨x',ih⟩:=zey (k:=k) (B:=B) (w1:=w1) (h:=h) rs (some (.tup (rowW r))) λr hr'=>hr r (vad _ hr')
  have e:=zhz R B' (k:=k) (h:=h) (B:=B) h1 h2
  have eb:exs (run F (k+5)) zd3 [some B.w,w1,some (.tup (rowW r))] h=.ok (.nx [some B.w,w1,some (.tup (rowW r))]) h:=(zaa (exprE (zba (varE rfl) (varE rfl) e))).trans rfl
  refine⟨x',?_⟩
  show forL _ _ (.tup (rowW r)::rowsW rs) _ _=_
  simp only[forL,tgW,vau,vap,eb,bindok,ih]
theorem zi3{k:Nat}{h:VH}{B:Bd}{rs:List (List Nat)}(hn:rs.length<=1000)(hr:∀r∈rs,r.length<=2000/\∀f∈r,f<B.fd.length):run F (k+6) 288 [B.w,.tup (rowsW rs)] h=.ok .non h:=by
 rw[zam f288 rfl]
 obtain⟨x',e⟩:=zey R B' f288 (k:=k) (B:=B) (w1:=some (.tup (rowsW rs))) (h:=⟨h.n,h.n,h.os⟩) rs none hr
 have hz:(rowsW rs).length<1000000:=by unfold rowsW;rw[vaf];omega
 have s2:exs (run F (k+5)) (.«for» .seq (.var 1) (.one 2) zd3) [some B.w,some (.tup (rowsW rs)),none] ⟨h.n,h.n,h.os⟩=.ok (.nx [some B.w,some (.tup (rowsW rs)),x']) ⟨h.n,h.n,h.os⟩:=by
  rw[exs,varE rfl,bindok,zbt hz]
  exact e
 have eb:exs (run F (k+5)) fn288.body [some B.w,some (.tup (rowsW rs)),none] ⟨h.n,h.n,h.os⟩=.ok (.nx [some B.w,some (.tup (rowsW rs)),x']) ⟨h.n,h.n,h.os⟩:=(zaa ((iteF (h1:=⟨h.n,h.n,h.os⟩) rfl).trans rfl)).trans ((zaa s2).trans rfl)
 show fin h (exs (run F (k+5)) fn288.body [some B.w,some (.tup (rowsW rs)),none] ⟨h.n,h.n,h.os⟩)=_
 rw[eb]
 exact zjx (vae _)
end
noncomputable def za1(B:Bd)(fo:Option Nat)(ls:List Int):List (List Nat)->List (List W)->Bool
 |r::rs,a::as=>zbk (toldF B fo r ls).1 a&&za1 B fo ls rs as
 |_,_=>true
noncomputable def ansW(as:List (List W)):List W:=as.map .tup
theorem ze3{h g:VH}{b:Bool}(hn:h.n<=g.n)(he:∀i,i<h.n->i<g.lo->g.get i=h.get i):∃h',fin h (.ok (.rt (.bl b)) g)=.ok (.bl b) h'/\h.n<=h'.n/\(∀z,z<=h.lo->z<=g.lo->z<=h'.lo)/\(h'=h/\h.n<=g.lo\/h'=⟨g.n,if Nat.ble h.lo g.lo then h.lo else g.lo,g.os⟩):=by
 by_cases hc:h.n<=g.lo
 .exact⟨h,zan hc (by simp),vae _,λz h1 _=>h1,.inl ⟨rfl,hc⟩⟩
 .refine⟨⟨g.n,if Nat.ble h.lo g.lo then h.lo else g.lo,g.os⟩,?_,hn,λz h1 h2=>?_,.inr rfl⟩
  .show leave h _ g=_
   unfold leave
   have h2:Nat.ble h.n g.lo=false:=by
    cases z:Nat.ble h.n g.lo with
    |false=>rfl
    |true=>exact absurd (va1 z) hc
   rw[h2,Bool.false_and,if_neg Bool.false_ne_true]
  .show z<=(if Nat.ble h.lo g.lo then h.lo else g.lo)
   split<;>assumption
section
variable{F:Nat->Option Fn}{c:Addr}(C:CoreO F c)(f292:F 292=some fn292)
include C
theorem zf4{k:Nat}{B:Bd}{fo:Option Nat}{ls:List Int}{o d:Nat}{w2 w3:Option W}(b:B.Ok)(hl:(ls.length:Int)=B.gr)(bi:Bits ls):∀(rs:List (List Nat)) (as:List (List W)) (h:VH) (xs:List Stn) (x4 x5:Option W),(∀r∈rs,r.length<=2000/\∀f∈r,f<B.fd.length)->(∀a∈as,∀w∈a,nmOk w)->BqF c B fo h o d xs->xs.length+2000*rs.length<=90000->
 ∃h' xs' fl,forL (tgW (.many [4,5])) (exs (run F (k+6)) zce) (zipW (rowsW rs) (ansW as)) [some (.ref o),some (iW ls),w2,w3,x4,x5] h=.ok fl h'/\(za1 B fo ls rs as=true/\(∃y4 y5,fl=.nx [some (.ref o),some (iW ls),w2,w3,y4,y5])\/za1 B fo ls rs as=false/\fl=.rt (.bl false))/\BqF c B fo h' o d xs'/\h.n<=h'.n/\(∀z,z<=h.lo->z<=d->z<=h.n->z<=h'.lo)/\∀i,i≠d->i<h.n->h'.get i=h.get i
 |[],as,h,xs,x4,x5,_,_,q,_=>⟨h,xs,.nx [some (.ref o),some (iW ls),w2,w3,x4,x5],rfl,.inl ⟨rfl,x4,x5,rfl⟩,q,vae _,λ_ h _ _=>h,λ_ _ _=>rfl⟩
 |r::rs,[],h,xs,x4,x5,_,_,q,_=>⟨h,xs,.nx [some (.ref o),some (iW ls),w2,w3,x4,x5],rfl,.inl ⟨rfl,x4,x5,rfl⟩,q,vae _,λ_ h _ _=>h,λ_ _ _=>rfl⟩
 |r::rs,a::as,h,xs,x4,x5,hr,ha,q,hx=>by
  obtain⟨h1,h2⟩:=hr r vag
  rw[vah]at hx
  obtain⟨g1,e1,⟨xs1,q1,l1⟩,lo1,n1,o1⟩:=zpj C (fo:=fo) (k:=k) b h1 h2 hl bi q (by omega)
  have eq:=zxd (h:=g1) (zda (fo:=fo) b r ls h2 hl bi) (ha a vag)
  have ec:ev (run F (k+6)) (.cmp .ne (.idx (.call 179 (.cons (.var 0) (.cons (.var 1) (.cons (.var 4) .nil)))) (.cst (.int (0)))) (.var 5)) [some (.ref o),some (iW ls),w2,w3,some (.tup (rowW r)),some (.tup a)] h=.ok (.bl (!(zbk (toldF B fo r ls).1 a))) g1:=by
   rw[ev,idxE (znd (varE rfl) (varE rfl) (varE rfl) e1) rfl (show idxW g1 (.tup [.tup (toldF B fo r ls).1,iW (toldF B fo r ls).2]) (.int 0)=some (.tup (toldF B fo r ls).1)from rfl),bindok,varE rfl,bindok]
   simp only[cmpW,eq,vat,ofsome]
  have hz:zipW (rowsW (r::rs)) (ansW (a::as))=.tup [.tup (rowW r),.tup a]::zipW (rowsW rs) (ansW as):=rfl
  cases z:zbk (toldF B fo r ls).1 a with
  |false=>
   rw[z]at ec
   have eb:exs (run F (k+6)) zce [some (.ref o),some (iW ls),w2,w3,some (.tup (rowW r)),some (.tup a)] h=.ok (.rt (.bl false)) g1:=zaf ((iteT ec).trans (zaf (retE rfl)))
   refine⟨g1,xs1,_,?_,.inr ⟨by simp only[za1,z,Bool.false_and],rfl⟩,q1,n1,lo1,o1⟩
   rw[hz]
   simp only[forL,tgW,seqW,za5,vau,vap,eb,bindok]
  |true=>
   rw[z]at ec
   have eb:exs (run F (k+6)) zce [some (.ref o),some (iW ls),w2,w3,some (.tup (rowW r)),some (.tup a)] h=.ok (.nx [some (.ref o),some (iW ls),w2,w3,some (.tup (rowW r)),some (.tup a)]) g1:=(zaa ((iteF ec).trans rfl)).trans rfl
   obtain⟨h',xs',fl,ih,it,iq,inn,ilo,io⟩:=zf4 (k:=k) (fo:=fo) (w2:=w2) (w3:=w3) b hl bi rs as g1 xs1 (some (.tup (rowW r))) (some (.tup a)) (λr hr'=>hr r (vad _ hr')) (λa ha'=>ha a (vad _ ha')) q1 (by omega)
   refine⟨h',xs',fl,?_,?_,iq,Nat.le_trans n1 inn,λz h1 h2 h3=>ilo z (lo1 z h1 h2 h3) h2 (Nat.le_trans h3 n1),λi h1 h2=>(io i h1 (vai h2 n1)).trans (o1 i h1 h2)⟩
   .rw[hz]
    simp only[forL,tgW,seqW,za5,vau,vap,eb,bindok,ih]
   .simp only[za1,z,Bool.true_and];exact it
include f292 in
theorem zs8{k:Nat}{B:Bd}{fo:Option Nat}{ls:List Int}{o d:Nat}{rs:List (List Nat)}{as:List (List W)}{h:VH}{xs:List Stn}(b:B.Ok)(hl:(ls.length:Int)=B.gr)(bi:Bits ls)(hr:∀r∈rs,r.length<=2000/\∀f∈r,f<B.fd.length)(ha:∀a∈as,∀w∈a,nmOk w)(q:BqF c B fo h o d xs)(hx:xs.length+2000*rs.length<=90000) :
 ∃h',run F (k+7) 292 [.ref o,iW ls,.tup (rowsW rs),.tup (ansW as)] h=.ok (.bl (za1 B fo ls rs as)) h'/\h.n<=h'.n/\(∀z,z<=h.lo->z<=d->z<=h.n->z<=h'.lo)/\∀i,i≠d->i<h.n->h'.get i=h.get i:=by
 rw[zam f292 rfl]
 obtain⟨g,xs',fl,e,t,_,gn,glo,go⟩:=zf4 C (k:=k) (fo:=fo) (w2:=some (.tup (rowsW rs))) (w3:=some (.tup (ansW as))) b hl bi rs as ⟨h.n,h.n,h.os⟩ xs none none hr ha q.lo hx
 have hzl:(zipW (rowsW rs) (ansW as)).length<1000000:=by
  unfold zipW rowsW;rw[List.length_zipWith,vaf];omega
 have hx':∀i h,nxt .zip (.tup [.tup (rowsW rs),.tup (ansW as)]) i h=some ((zipW (rowsW rs) (ansW as))[i]?):=λi h=>by
  simp only[nxt,seqW]
  unfold zipW
  rw[List.getElem?_zipWith]
  cases(rowsW rs)[i]?<;>cases(ansW as)[i]?<;>rfl
 have s1:exs (run F (k+6)) (.«for» .zip (.cons (.var 2) (.cons (.var 3) .nil)) (.many [4,5]) zce) [some (.ref o),some (iW ls),some (.tup (rowsW rs)),some (.tup (ansW as)),none,none] ⟨h.n,h.n,h.os⟩=.ok fl g:=by
  have ei:ev (run F (k+6)) (.cons (.var 2) (.cons (.var 3) .nil)) [some (.ref o),some (iW ls),some (.tup (rowsW rs)),some (.tup (ansW as)),none,none] ⟨h.n,h.n,h.os⟩=.ok (.tup [.tup (rowsW rs),.tup (ansW as)]) ⟨h.n,h.n,h.os⟩:=rfl
  rw[exs,ei,bindok]
  have:=zb7 (nx:=nxt .zip (.tup [.tup (rowsW rs),.tup (ansW as)])) (tg:=tgW (.many [4,5])) (b:=exs (run F (k+6)) zce) (ws:=zipW (rowsW rs) (ansW as)) hx' fuel 0 [some (.ref o),some (iW ls),some (.tup (rowsW rs)),some (.tup (ansW as)),none,none] ⟨h.n,h.n,h.os⟩ (Nat.zero_le _) (by have hf:fuel=1000000:=rfl;omega)
  rw[List.drop_zero]at this
  exact this.trans e
 have eb:exs (run F (k+6)) fn292.body [some (.ref o),some (iW ls),some (.tup (rowsW rs)),some (.tup (ansW as)),none,none] ⟨h.n,h.n,h.os⟩=.ok (.rt (.bl (za1 B fo ls rs as))) g:=by
  rcases t with⟨t1,y4,y5,rfl⟩|⟨t1,rfl⟩
  .rw[t1];exact(zaa s1).trans (zaf (retE rfl))
  .rw[t1];exact zaf s1
 have hlo:∀z,z<=d->z<=h.n->z<=g.lo:=λz h1 h2=>glo z h2 h1 h2
 have hgr:=zfe (zff F (k+6)) _ _ _ _ _ eb
 obtain⟨h',e',n',lo',hh⟩:=ze3 (h:=h) (g:=g) (b:=za1 B fo ls rs as) gn λi h1 h2=>(hgr.2.2 i h1 h2).trans get_lo
 refine⟨h',?_,n',λz h1 h2 h3=>lo' z h1 (hlo z h2 h3),λi h1 h2=>?_⟩
 .show fin h (exs (run F (k+6)) fn292.body [some (.ref o),some (iW ls),some (.tup (rowsW rs)),some (.tup (ansW as)),none,none] ⟨h.n,h.n,h.os⟩)=_
  rw[eb];exact e'
 .rcases hh with⟨rfl,_⟩|rfl
  .rfl
  .exact(get_lo (h:=g)).trans ((go i h1 h2).trans get_lo)
end
noncomputable def fosOf(n:Nat):List (Option Nat):=none:: (List.range' 0 n).map some
theorem fos_w{n:Nat}:[W.non]++ints0 n=(fosOf n).map optW:=by
 unfold fosOf ints0
 show W.non::_=W.non::_
 congr 1
 rw[List.map_map]
 refine List.map_congr_left λi _=>?_
 show W.int (0+ (i:Int))=.int i
 rw[Int.zero_add]
theorem zbx{n:Nat}:(fosOf n).length=n+1:=by
 unfold fosOf;rw[vah,vaf,List.length_range']
theorem lrngE{cl:Call}{a:E}{ρ:En}{h h1:VH}{n:Nat}(ea:ev cl a ρ h=.ok (.int n) h1)(hn:n<=100000):ev cl (.bi .lrng (.cons a .nil)) ρ h=.ok (.ref h1.n) (h1.new (.lst (ints0 n))):=by
 rw[ev,ev,ea,bindok,ev,bindok]
 show lrngW [.int n] _=_
 have hb:Nat.ble n big=true:=zbu (by omega)
 have h0:decide (0<=(n:Int))=true:=decide_eq_true (by omega)
 simp only[lrngW,h0,Int.toNat_natCast,hb,Bool.and_self,if_true]
theorem fosE{cl:Call}{a:E}{ρ:En}{h:VH}{n:Nat}(ea:∀h,ev cl a ρ h=.ok (.int n) h)(hn:n<=1000):ev cl (.op .add (.lst (.cons (.cst .non) .nil)) (.bi .lrng (.cons a .nil))) ρ h=.ok (.ref (h.n+2)) (((h.new (.lst [.non])).new (.lst (ints0 n))).new (.lst ((fosOf n).map optW))):=by
 have hlen:(ints0 n).length=n:=by unfold ints0;rw[vaf,List.length_range']
 have e1:ev cl (.lst (.cons (.cst .non) .nil)) ρ h=.ok (.ref h.n) (h.new (.lst [.non])):=rfl
 have ga:((h.new (.lst [.non])).new (.lst (ints0 n))).get h.n=some (.lst [.non]):=(zad (h:=h.new (.lst [.non])) (by show h.n<h.n+1;omega)).trans zao
 have:=zs6 e1 (lrngE (ea _) (by omega)) ga zao (by rw[hlen,va5];omega)
 rw[fos_w]at this
 exact this
section
variable{F:Nat->Option Fn}{c:Addr}(C:CoreO F c)(f292:F 292=some fn292)
include C f292
theorem zez{k:Nat}{B:Bd}{ls:List Int}{rs:List (List Nat)}{as:List (List W)}{a:Nat}{fos:List (Option Nat)}(b:B.Ok)(hl:(ls.length:Int)=B.gr)(bi:Bits ls)(hr:∀r∈rs,r.length<=2000/\∀f∈r,f<B.fd.length)(ha:∀a∈as,∀w∈a,nmOk w)(hn:rs.length<=40) :
 ∀(fu i:Nat)(h:VH)(x:Option W)(acc:List W),h.get a=some (.lst (fos.map optW))->i<=fos.length->fos.length<fu+i->
  ∃h',lcG (nxt .seq (.ref a)) (tgW (.one 0)) (ev (run F (k+7)) zc7) (ev (run F (k+7)) zc8) fu i [x,some (.tup (ansW as)),some B.w,some (iW ls),some (.tup (rowsW rs))] h acc=.ok (acc.reverse++(((fos.drop i).filter λfo=>za1 B fo ls rs as).map optW)) h'/\∀z,z<=h.lo->z<=h.n->z<=h'.lo
 |0,i,h,x,acc,ga,hi,hlt=>by omega
 |fu+1,i,h,x,acc,ga,hi,hlt=>by
  have hx:nxt .seq (.ref a) i h=some ((fos[i]?).map optW):=by simp only[nxt,seqW,ga,vat,List.getElem?_map]
  cases q:fos[i]? with
  |none=>
   rw[q]at hx
   rw[List.drop_eq_nil_of_le (vaz.mp q)]
   exact⟨h,by simp only[lcG,hx,Option.map_none];simp,λ_ h _=>h⟩
  |some fo=>
   rw[q]at hx
   obtain⟨hi',ee⟩:=vav.mp q
   obtain⟨lo,e1,hlo⟩:=znj C (k:=k+5) (h:=h) (w1:=B.w) (w2:=optW fo)
   have qb:BqF c B fo ⟨h.n+2,lo,.dt [] [] :: .ins c flds [B.w,optW fo,.ref (h.n+1)]::h.os⟩ h.n (h.n+1) []:=by
    refine⟨?_,zao (h:=⟨h.n+1,lo,.ins c flds [B.w,optW fo,.ref (h.n+1)]::h.os⟩)⟩
    exact(zad (h:=⟨h.n+1,lo,.ins c flds [B.w,optW fo,.ref (h.n+1)]::h.os⟩) (o:=.dt [] []) (by show h.n<h.n+1;omega)).trans (zao (h:=⟨h.n,lo,h.os⟩))
   obtain⟨h2,e2,n2,lo2,o2⟩:=zs8 C f292 (k:=k) (fo:=fo) b hl bi hr ha qb (by rw[List.length_nil];omega)
   have hga:=zaj ga
   have ga2:h2.get a=some (.lst (fos.map optW)):=by
    rw[o2 a (by omega) (by show a<h.n+2;omega)]
    exact(zad (h:=⟨h.n+1,lo,.ins c flds [B.w,optW fo,.ref (h.n+1)]::h.os⟩) (o:=.dt [] []) (by show a<h.n+1;omega)).trans ((zad (h:=⟨h.n,lo,h.os⟩) (o:=.ins c flds [B.w,optW fo,.ref (h.n+1)]) hga).trans ga)
   have loz:∀z,z<=h.lo->z<=h.n->z<=h2.lo:=λz h1 h3=>lo2 z (hlo z h1 h3) (by omega) (by show z<=h.n+2;omega)
   have n2':h.n<=h2.n:=by have:h.n+2<=h2.n:=n2;omega
   have ec:ev (run F (k+7)) zc7 [some (optW fo),some (.tup (ansW as)),some B.w,some (iW ls),some (.tup (rowsW rs))] h=.ok (.bl (za1 B fo ls rs as)) h2:=truE (zer (zba (varE rfl) (varE rfl) e1) (varE rfl) (varE rfl) (varE rfl) e2)
   have ee2:ev (run F (k+7)) zc8 [some (optW fo),some (.tup (ansW as)),some B.w,some (iW ls),some (.tup (rowsW rs))] h2=.ok (optW fo) h2:=varE rfl
   cases z:za1 B fo ls rs as with
   |true=>
    rw[z]at ec
    obtain⟨h',ih,ilo⟩:=zez (k:=k) b hl bi hr ha hn fu (i+1) h2 (some (optW fo)) (optW fo::acc) ga2 hi' (by omega)
    refine⟨h',?_,λz h1 h3=>ilo z (loz z h1 h3) (by omega)⟩
    simp only[lcG,hx,vat,tgW,vap,ec,bindok,ee2,ih]
    rw[List.drop_eq_getElem_cons hi',ee]
    simp[z]
   |false=>
    rw[z]at ec
    obtain⟨h',ih,ilo⟩:=zez (k:=k) b hl bi hr ha hn fu (i+1) h2 (some (optW fo)) acc ga2 hi' (by omega)
    refine⟨h',?_,λz h1 h3=>ilo z (loz z h1 h3) (by omega)⟩
    simp only[lcG,hx,vat,tgW,vap,ec,bindok,ih]
    rw[List.drop_eq_getElem_cons hi',ee]
    simp[z]
end
theorem zkg{n:Nat}:∀fos:List (Option Nat),W.lts n (fos.map optW)=true
 |[]=>by simp
 |fo::r=>by rw[vam,lts_cons,zkg r,zsx];rfl
theorem zxe{F:Nat->Option Fn}(f210:F 210=some fn210){k:Nat}{h:VH}{n:Nat}(hlo:h.lo<=h.n)(hn:n<=1000):∃i h',run F (k+1) 210 [.int n] h=.ok (.ref i) h'/\h'.get i=some (.lst ((fosOf n).map optW))/\Gw h h':=by
 rw[zam f210 rfl]
 have e:=fosE (cl:=run F k) (a:=.var 0) (ρ:=[some (.int n)]) (h:=⟨h.n,h.n,h.os⟩) (n:=n) (λ_=>varE rfl) hn
 have eb:exs (run F k) fn210.body [some (.int n)] ⟨h.n,h.n,h.os⟩=.ok (.rt (.ref (h.n+2))) ((((VH.mk h.n h.n h.os).new (.lst [.non])).new (.lst (ints0 n))).new (.lst ((fosOf n).map optW))):=zaf (retE e)
 obtain⟨T,hT⟩:∃T,T=(((VH.mk h.n h.n h.os).new (.lst [.non])).new (.lst (ints0 n))).new (.lst ((fosOf n).map optW)):=⟨_,rfl⟩
 rw[<-hT]at eb
 refine⟨h.n+2,⟨T.n,h.lo,T.os⟩,?_,?_,?_,rfl,λi o e=>?_⟩
 .show fin h (exs (run F k) fn210.body [some (.int n)] ⟨h.n,h.n,h.os⟩)=_
  rw[eb]
  exact zh0 hlo (by rw[hT];rfl) (by omega)
 .rw[get_lo,hT];exact zao
 .rw[hT];show h.n<=h.n+1+1+1;omega
 .have e0:(VH.mk h.n h.n h.os).get i=some o:=e
  have e1:((VH.mk h.n h.n h.os).new (.lst [.non])).get i=some o:=by rw[zad (zaj e0)];exact e0
  have e2:(((VH.mk h.n h.n h.os).new (.lst [.non])).new (.lst (ints0 n))).get i=some o:=by rw[zad (zaj e1)];exact e1
  rw[get_lo,hT,zad (zaj e2)];exact e2
theorem zi4{F:Nat->Option Fn}(f207:F 207=some fn207)(f700:F 700=some zbn){k:Nat}{h:VH}{B:Bd}{fo:Option Nat}{ls:List Int}{r:List Nat}(b:B.Ok)(hr:r.length<=2000)(hf:∀f∈r,f<B.fd.length)(hl:(ls.length:Int)=B.gr)(bi:Bits ls) :
 run F (k+2) 700 [B.w,iW ls,optW fo,.tup (rowW r)] h=.ok (.tup (toldF B fo r ls).1) h:=by
 rw[zam f700 rfl]
 have g0:((VH.mk h.n h.n h.os).new (.lst [])).get h.n=some (.lst []):=zao (h:=⟨h.n,h.n,h.os⟩)
 have hz:(rowW r).length<1000000:=by unfold rowW;rw[vaf];omega
 obtain⟨g,x,y,e,gl,gle,glo,glo2,go⟩:=zf2 f207 (k:=k) (fo:=fo) (row:=.tup (rowW r)) b r ls [] ((VH.mk h.n h.n h.os).new (.lst [])) none none (by show h.n<=h.n+1;omega) hf hl bi (by rw[List.length_nil];omega) g0
 rw[List.nil_append]at gl
 have s1:exs (run F (k+1)) (.set 4 (.lst .nil)) [some B.w,some (iW ls),some (optW fo),some (.tup (rowW r)),none,none,none] ⟨h.n,h.n,h.os⟩=.ok (.nx [some B.w,some (iW ls),some (optW fo),some (.tup (rowW r)),some (.ref h.n),none,none]) ((VH.mk h.n h.n h.os).new (.lst [])):=rfl
 have s2:exs (run F (k+1)) (.«for» .seq (.var 3) (.one 5) zev) [some B.w,some (iW ls),some (optW fo),some (.tup (rowW r)),some (.ref h.n),none,none] ((VH.mk h.n h.n h.os).new (.lst []))=.ok (.nx [some B.w,some (iW (toldF B fo r ls).2),some (optW fo),some (.tup (rowW r)),some (.ref h.n),x,y]) g:=by
  rw[exs,varE rfl,bindok,zbt hz]
  exact e
 have eb:exs (run F (k+1)) zbn.body [some B.w,some (iW ls),some (optW fo),some (.tup (rowW r)),none,none,none] ⟨h.n,h.n,h.os⟩=.ok (.rt (.tup (toldF B fo r ls).1)) g:=(zaa s1).trans ((zaa s2).trans (zaf (retE (zb9 (i:=4) rfl gl))))
 show fin h (exs (run F (k+1)) zbn.body [some B.w,some (iW ls),some (optW fo),some (.tup (rowW r)),none,none,none] ⟨h.n,h.n,h.os⟩)=_
 rw[eb]
 obtain⟨_,_,tn⟩:=zc4 (fo:=fo) b r ls hf hl bi
 exact zan (glo h.n (vae _) (vae _)) (by rw[lt_tup];exact zne _ tn)
theorem zds{cl:Call}{fos:List (Option Nat)}{h:VH}{j:Nat}{w0 w1:Option W}(gj:h.get j=some (.lst (fos.map optW))) :
 ∀(fu i:Nat)(x2 x3:Option W),i<=fos.length->fos.length<fu+i->∃y2 y3,forG (nxt .zip (.tup [.tup (fos.map optW),.ref j])) (tgW (.many [2,3])) (exs cl zbg) fu i [w0,w1,x2,x3] h=.ok (.nx [w0,w1,y2,y3]) h
 |0,i,_,_,hi,hl=>by omega
 |fu+1,i,x2,x3,hi,hl=>by
  have hx:nxt .zip (.tup [.tup (fos.map optW),.ref j]) i h=some ((fos[i]?).map λfo=>.tup [optW fo,optW fo]):=by
   simp only[nxt,seqW,gj,List.getElem?_map]
   cases fos[i]?<;>rfl
  cases q:fos[i]? with
  |none=>
   rw[q]at hx
   exact⟨x2,x3,by rw[forG,hx];rfl⟩
  |some fo=>
   rw[q]at hx
   obtain⟨hi',_⟩:=vav.mp q
   obtain⟨y2,y3,ih⟩:=zds gj fu (i+1) (some (optW fo)) (some (optW fo)) hi' (by omega)
   refine⟨y2,y3,?_⟩
   have ec:ev cl (.or (.and (.cmp .isn (.var 3) (.cst .non)) (.cmp .notn (.var 2) (.cst .non))) (.or (.tru (.isi .bool (.var 2))) (.cmp .ne (.var 2) (.var 3)))) [w0,w1,some (optW fo),some (optW fo)] h=.ok (.bl false) h:=by
    have pl:zaz 24 (optW fo)=true:=by cases fo<;>rfl
    have e3:ev cl (.cmp .ne (.var 2) (.var 3)) [w0,w1,some (optW fo),some (optW fo)] h=.ok (.bl false) h:=neF (varE rfl) (varE rfl) pl
    have e2:ev cl (.tru (.isi .bool (.var 2))) [w0,w1,some (optW fo),some (optW fo)] h=.ok (.bl false) h:=by cases fo<;>rfl
    have e1:ev cl (.and (.cmp .isn (.var 3) (.cst .non)) (.cmp .notn (.var 2) (.cst .non))) [w0,w1,some (optW fo),some (optW fo)] h=.ok (.bl false) h:=by cases fo<;>rfl
    exact orF e1 (orF e2 e3)
   have eb:exs cl zbg [w0,w1,some (optW fo),some (optW fo)] h=.ok (.nx [w0,w1,some (optW fo),some (optW fo)]) h:=(zaa ((iteF ec).trans rfl)).trans rfl
   rw[forG,hx]
   show(exs cl zbg [w0,w1,some (optW fo),some (optW fo)] h).bind _=_
   rw[eb,bindok]
   exact ih
theorem zs9{F:Nat->Option Fn}(f701:F 701=some zc9){k:Nat}{h:VH}{j:Nat}{fos:List (Option Nat)}(gj:h.get j=some (.lst (fos.map optW)))(hn:fos.length<=1000):run F (k+1) 701 [.tup (fos.map optW),.ref j] h=.ok (.bl true) h:=by
 rw[zam f701 rfl]
 have gj':VH.get ⟨h.n,h.n,h.os⟩ j=some (.lst (fos.map optW)):=by rw[get_lo];exact gj
 obtain⟨y2,y3,e⟩:=zds (cl:=run F k) (w0:=some (.tup (fos.map optW))) (w1:=some (.ref j)) gj' fuel 0 none none (Nat.zero_le _) (by have hf:fuel=1000000:=rfl;omega)
 have el:ev (run F k) (.bi .len (.cons (.var 0) .nil)) [some (.tup (fos.map optW)),some (.ref j),none,none] ⟨h.n,h.n,h.os⟩=.ok (.int ((fos.map optW).length:Nat)) ⟨h.n,h.n,h.os⟩:=lenE (varE rfl) rfl
 have er:ev (run F k) (.bi .len (.cons (.var 1) .nil)) [some (.tup (fos.map optW)),some (.ref j),none,none] ⟨h.n,h.n,h.os⟩=.ok (.int ((fos.map optW).length:Nat)) ⟨h.n,h.n,h.os⟩:=lenE (varE rfl) (by simp only[seqW,gj'])
 have t1:ev (run F k) (.or (.not (.tru (.isi .tuple (.var 0)))) (.cmp .ne (.bi .len (.cons (.var 0) .nil)) (.bi .len (.cons (.var 1) .nil)))) [some (.tup (fos.map optW)),some (.ref j),none,none] ⟨h.n,h.n,h.os⟩=.ok (.bl false) ⟨h.n,h.n,h.os⟩:=orF (h1:=⟨h.n,h.n,h.os⟩) rfl (neF el er rfl)
 have s2:exs (run F k) (.«for» .zip (.cons (.var 0) (.cons (.var 1) .nil)) (.many [2,3]) zbg) [some (.tup (fos.map optW)),some (.ref j),none,none] ⟨h.n,h.n,h.os⟩=.ok (.nx [some (.tup (fos.map optW)),some (.ref j),y2,y3]) ⟨h.n,h.n,h.os⟩:=by
  have ei:ev (run F k) (.cons (.var 0) (.cons (.var 1) .nil)) [some (.tup (fos.map optW)),some (.ref j),none,none] ⟨h.n,h.n,h.os⟩=.ok (.tup [.tup (fos.map optW),.ref j]) ⟨h.n,h.n,h.os⟩:=rfl
  rw[exs,ei,bindok]
  exact e
 have eb:exs (run F k) zc9.body [some (.tup (fos.map optW)),some (.ref j),none,none] ⟨h.n,h.n,h.os⟩=.ok (.rt (.bl true)) ⟨h.n,h.n,h.os⟩:=(zaa ((iteF t1).trans rfl)).trans ((zaa s2).trans (zaf (retE rfl)))
 show fin h (exs (run F k) zc9.body [some (.tup (fos.map optW)),some (.ref j),none,none] ⟨h.n,h.n,h.os⟩)=_
 rw[eb]
 exact zan (vae _) (by simp)
section
variable{F:Nat->Option Fn}{c:Addr}(C:CoreO F c)(R:CoreRw F)(B':CoreB F)(f210:F 210=some fn210)(f283:F 283=some fn283)(f285:F 285=some fn285)(f287:F 287=some fn287)(f288:F 288=some fn288)(f292:F 292=some fn292)
include C R B' f210 f283 f285 f287 f288 f292
theorem zg2{k:Nat}{h:VH}{B:Bd}{ls:List Int}{rs:List (List Nat)}{as:List (List W)}{gn:Nat}(b:B.Ok)(hgn:B.gr=(gn:Int))(hl:(ls.length:Int)=B.gr)(bi:Bits ls)(hr:∀r∈rs,r.length<=2000/\∀f∈r,f<B.fd.length)(ha:∀a∈as,a.length<=100000/\∀w∈a,nmOk w)(hn:rs.length<=40)(hla:as.length=rs.length) :
 run F (k+10) 285 [B.w,iW ls,.tup (rowsW rs),.tup (ansW as)] h=.ok (.tup (((fosOf gn).filter λfo=>za1 B fo ls rs as).map optW)) h:=by
 rw[zam f285 rfl]
 have hg2:=b.g2
 have e1:=ze2 R.toCoreLn B' (k:=k) (h:=⟨h.n,h.n,h.os⟩) b hl bi
 have e2:=zi3 R B' f288 (k:=k+3) (h:=⟨h.n,h.n,h.os⟩) (B:=B) (rs:=rs) (by omega) hr
 have e3:=zaq B'.toCoreA (k:=k+8) (h:=⟨h.n,h.n,h.os⟩) (w:=.tup (ansW as)) (lo:=(rs.length:Int)) (hi:=(rs.length:Int)) (by unfold Kn;simp)
 have t3:zav (.tup (ansW as)) (rs.length:Int) (rs.length:Int)=true:=by
  unfold zav ansW
  simp only[vaf,vab,vaw]
  omega
 rw[t3]at e3
 have hal:(ansW as).length=as.length:=by unfold ansW;rw[vaf]
 have e4:=allS (cl:=run F (k+9)) (a:=.var 3) (e:=zg0) (ρ:=[some B.w,some (iW ls),some (.tup (rowsW rs)),some (.tup (ansW as))]) (h:=⟨h.n,h.n,h.os⟩) (ws:=ansW as) (varE rfl) (by omega) λw hw=>by
  obtain⟨a,haa,rfl⟩:=List.mem_map.mp (show w∈as.map W.tup from hw)
  exact zka (varE rfl) (zpl B'.toCoreA f283 f287 (k:=k+5) (ha a haa).2 (ha a haa).1)
 obtain⟨h1,hh1⟩:∃g,g=VH.new ⟨h.n,h.n,h.os⟩ (.lst (List.replicate (ansW as).length (.bl true))):=⟨_,rfl⟩
 rw[<-hh1]at e4
 have s1:exs (run F (k+9)) (.expr (.call 24 (.cons (.var 0) (.cons (.var 1) .nil)))) [some B.w,some (iW ls),some (.tup (rowsW rs)),some (.tup (ansW as))] ⟨h.n,h.n,h.os⟩=.ok (.nx [some B.w,some (iW ls),some (.tup (rowsW rs)),some (.tup (ansW as))]) ⟨h.n,h.n,h.os⟩:=exprE (zba (varE rfl) (varE rfl) e1)
 have s2:exs (run F (k+9)) (.expr (.call 288 (.cons (.var 0) (.cons (.var 2) .nil)))) [some B.w,some (iW ls),some (.tup (rowsW rs)),some (.tup (ansW as))] ⟨h.n,h.n,h.os⟩=.ok (.nx [some B.w,some (iW ls),some (.tup (rowsW rs)),some (.tup (ansW as))]) ⟨h.n,h.n,h.os⟩:=exprE (zba (varE rfl) (varE rfl) e2)
 have el:ev (run F (k+9)) (.bi .len (.cons (.var 2) .nil)) [some B.w,some (iW ls),some (.tup (rowsW rs)),some (.tup (ansW as))] ⟨h.n,h.n,h.os⟩=.ok (.int (rs.length:Nat)) ⟨h.n,h.n,h.os⟩:=by
  rw[lenE (varE rfl) (show seqW _ (.tup (rowsW rs))=some (rowsW rs)from rfl)]
  unfold rowsW;rw[vaf]
 have s3:exs (run F (k+9)) (.ite (.or (.not (.tru (.call 6 (.cons (.var 3) (.cons (.bi .len (.cons (.var 2) .nil)) (.cons (.bi .len (.cons (.var 2) .nil)) .nil)))))) (.not (.tru (.bi .all (.cons (.lc .seq (.var 3) (.one 0) 1 [] (.cst (.bl true)) zg0) .nil))))) (.seq .no .skip) .skip) [some B.w,some (iW ls),some (.tup (rowsW rs)),some (.tup (ansW as))] ⟨h.n,h.n,h.os⟩=.ok (.nx [some B.w,some (iW ls),some (.tup (rowsW rs)),some (.tup (ansW as))]) h1:=(iteF (orF (notT (znd (varE rfl) el el e3)) (notT e4))).trans rfl
 obtain⟨i,h2,e5,g5,w5⟩:=zxe f210 (k:=k+8) (h:=h1) (n:=gn) (by rw[hh1];show h.n<=h.n+1;omega) (by omega)
 have i1:idxW h1 B.w (.int 1)=some (.int gn):=by rw[show(W.int gn)=.int B.gr by rw[hgn]];rfl
 have a5:ev (run F (k+9)) (.call 210 (.cons (.idx (.var 0) (.cst (.int (1)))) .nil)) [some B.w,some (iW ls),some (.tup (rowsW rs)),some (.tup (ansW as))] h1=.ok (.ref i) h2:=zka (idxE (varE rfl) rfl i1) e5
 obtain⟨h3,e6,lo6⟩:=zez C f292 (k:=k+2) (a:=i) (fos:=fosOf gn) b hl bi hr (λa haa=>(ha a haa).2) hn fuel 0 h2 none [] g5 (Nat.zero_le _) (by have hf:fuel=1000000:=rfl;rw[zbx];omega)
 rw[List.drop_zero,show([]:List W).reverse=[]from rfl,List.nil_append]at e6
 have hfl:(((fosOf gn).filter λfo=>za1 B fo ls rs as).map optW).length<=1000:=by
  rw[vaf]
  have:=List.length_filter_le (λfo=>za1 B fo ls rs as) (fosOf gn)
  rw[zbx]at this
  omega
 have e7:ev (run F (k+9)) (.lc .seq (.call 210 (.cons (.idx (.var 0) (.cst (.int (1)))) .nil)) (.one 0) 1 [3,0,1,2] zc7 zc8) [some B.w,some (iW ls),some (.tup (rowsW rs)),some (.tup (ansW as))] h1=.ok (.ref h3.n) (h3.new (.lst (((fosOf gn).filter λfo=>za1 B fo ls rs as).map optW))):=by
  rw[ev,a5,bindok]
  show(lcG (nxt .seq (.ref i)) (tgW (.one 0)) (ev (run F (k+9)) zc7) (ev (run F (k+9)) zc8) fuel 0 [none,some (.tup (ansW as)),some B.w,some (iW ls),some (.tup (rowsW rs))] h2 []).bind _=_
  rw[e6,bindok,if_pos (zbu (by omega))]
 have eb:exs (run F (k+9)) fn285.body [some B.w,some (iW ls),some (.tup (rowsW rs)),some (.tup (ansW as))] ⟨h.n,h.n,h.os⟩=.ok (.rt (.tup (((fosOf gn).filter λfo=>za1 B fo ls rs as).map optW))) (h3.new (.lst (((fosOf gn).filter λfo=>za1 B fo ls rs as).map optW))):=(zaa s1).trans ((zaa s2).trans ((zaa s3).trans (zaf (retE (zj2 e7 zao)))))
 show fin h (exs (run F (k+9)) fn285.body [some B.w,some (iW ls),some (.tup (rowsW rs)),some (.tup (ansW as))] ⟨h.n,h.n,h.os⟩)=_
 rw[eb]
 refine zan ?_ (by rw[lt_tup];exact zkg _)
 have hl1:h1.lo=h.n:=by rw[hh1];rfl
 have hl2:h2.lo=h.n:=w5.lo.trans hl1
 have hn2:h.n<=h2.n:=by
  have:=w5.le
  have:h1.n=h.n+1:=by rw[hh1];rfl
  omega
 exact lo6 h.n (by omega) hn2
end
theorem znn{P:List W->Prop}:∀{ws:List W},(∀w∈ws,∃a,w=.tup a/\P a)->∃as,ws=ansW as/\∀a∈as,P a
 |[],_=>⟨[],rfl,by simp⟩
 |w::r,h=>by
  obtain⟨a,rfl,ha⟩:=h w vag
  obtain⟨as,rfl,hs⟩:=znn λw hw=>h w (vad _ hw)
  exact⟨a::as,rfl,λx hx=>by
   rcases va2.mp hx with rfl|hx
   .exact ha
   .exact hs x hx⟩
theorem zxf{ws:List W}{n:Nat}:cutW ws none (some (n:Int))=ws.take n:=by
 unfold cutW
 rw[show HT.sIx ws.length ws.length (some (n:Int))=min n ws.length from HT.sIx_nat _ _ n]
 show(ws.drop 0).take (min n ws.length-0)=_
 rw[List.drop_zero,Nat.sub_zero]
 by_cases h:n<=ws.length
 .rw[Nat.min_eq_left h]
 .rw[Nat.min_eq_right (by omega),List.take_length,List.take_of_length_le (by omega)]
theorem zxg{ws:List W}{n:Nat}:cutW ws (some (n:Int)) none=ws.drop n:=by
 unfold cutW
 rw[show HT.sIx ws.length 0 (some (n:Int))=min n ws.length from HT.sIx_nat _ _ n]
 show(ws.drop (min n ws.length)).take (ws.length-min n ws.length)=_
 rw[List.take_of_length_le (by rw[List.length_drop];omega)]
 by_cases h:n<=ws.length
 .rw[Nat.min_eq_left h]
 .rw[Nat.min_eq_right (by omega),List.drop_eq_nil_of_le (vae _),List.drop_eq_nil_of_le (by omega)]
theorem slcLo{cl:Call}{a hi:E}{ρ:En}{h:VH}{ws:List W}{n:Nat}(ea:ev cl a ρ h=.ok (.tup ws) h)(eu:ev cl hi ρ h=.ok (.int n) h):ev cl (.slc a false (.cst .non) true hi) ρ h=.ok (.tup (ws.take n)) h:=by
 have:=slcE (bl:=false) (bh:=true) (lo:=.cst .non) (hi:=hi) (l':=none) (u':=some (n:Int)) ea (show ev cl (.cst .non) ρ h=.ok .non h from rfl) eu rfl rfl slcW_tup
 rw[zxf]at this
 exact this
theorem slcHi{cl:Call}{a lo:E}{ρ:En}{h:VH}{ws:List W}{n:Nat}(ea:ev cl a ρ h=.ok (.tup ws) h)(el:ev cl lo ρ h=.ok (.int n) h):ev cl (.slc a true lo false (.cst .non)) ρ h=.ok (.tup (ws.drop n)) h:=by
 have:=slcE (bl:=true) (bh:=false) (lo:=lo) (hi:=.cst .non) (l':=some (n:Int)) (u':=none) ea el (show ev cl (.cst .non) ρ h=.ok .non h from rfl) rfl rfl slcW_tup
 rw[zxg]at this
 exact this
theorem addTE{cl:Call}{a b:E}{ρ:En}{h h1 h2:VH}{xs ys:List W}(ea:ev cl a ρ h=.ok (.tup xs) h1)(eb:ev cl b ρ h1=.ok (.tup ys) h2)(hl:xs.length+ys.length<=1000000):ev cl (.op .add a b) ρ h=.ok (.tup (xs++ys)) h2:=by
 refine opE ea eb ?_
 show Res.of ((opT .add xs ys).map W.tup) h2=_
 simp only[opT,if_pos (zbu hl),vat,ofsome]
theorem zxh{cl:Call}{a:E}{ρ:En}{h h1:VH}{x:W}(ea:ev cl a ρ h=.ok x h1):ev cl (.tup (.cons a .nil)) ρ h=.ok (.tup [x]) h1:=by
 rw[ev,ev,ea,bindok,ev];rfl
theorem zi5{cl:Call}{a w hi lo:E}{ρ:En}{h:VH}{ws:List W}{x:W}{n m:Nat}(ea:ev cl a ρ h=.ok (.tup ws) h)(ew:ev cl w ρ h=.ok x h)(eu:ev cl hi ρ h=.ok (.int n) h)(el:ev cl lo ρ h=.ok (.int m) h)(hl:ws.length<=1000) :
 ev cl (.op .add (.op .add (.slc a false (.cst .non) true hi) (.tup (.cons w .nil))) (.slc a true lo false (.cst .non))) ρ h=.ok (.tup (ws.take n++[x]++ws.drop m)) h:=by
 refine addTE (addTE (slcLo ea eu) (zxh ew) ?_) (slcHi ea el) ?_
 .rw[List.length_take,va5];omega
 .rw[vao,List.length_take,va5,List.length_drop];omega
theorem zkh{cl:Call}{P:W->Prop}{e:E}{tl:En}{d c m:Nat}(hs:∀(x:W) (h:VH) (b:Nat),Dk h d c b->b+m<1000000000->∃w h',ev cl e (some x::tl) h=.ok w h'/\P w/\Dk h' d c (b+m)/\Keep h h' d c) :
 ∀(us:List W)(x:Option W)(h:VH)(b:Nat),Dk h d c b->b+m*us.length<1000000000->
  ∃ws h',lcL (tgW (.one 0)) (λ_ h=>.ok (.bl true) h) (ev cl e) us (x::tl) h=.ok ws h'/\(∀w∈ws,P w)/\ws.length=us.length/\Dk h' d c (b+m*us.length)/\Keep h h' d c
 |[],x,h,b,D,_=>⟨[],h,rfl,(λ_ z=>nomatch z),rfl,by simpa using D,.refl⟩
 |u::us,x,h,b,D,hb=>by
  rw[vah,Nat.mul_add,Nat.mul_one]at hb
  obtain⟨w,h1,e1,p1,D1,K1⟩:=hs u h b D (by omega)
  obtain⟨ws,h2,e2,p2,l2,D2,K2⟩:=zkh hs us (some u) h1 (b+m) D1 (by omega)
  refine⟨w::ws,h2,?_,?_,by rw[vah,vah,l2],?_,K1.trans K2⟩
  .simp only[lcL,tgW,vap,bindok,e1,e2]
  .intro y hy
   rcases va2.mp hy with rfl|hy
   .exact p1
   .exact p2 y hy
  .rw[vah,Nat.mul_add,Nat.mul_one,show b+ (m*us.length+m)=b+m+m*us.length by omega];exact D2
noncomputable def ansN(n:Nat)(a:List W):Prop:=a.length<=n/\∀w∈a,nmOk w
theorem zh6{a:List W}{x:W}{p q n:Nat}(ha:ansN n a)(hx:nmOk x):ansN (2*n+1) (a.take p++[x]++a.drop q):=by
 obtain⟨h1,h2⟩:=ha
 refine⟨?_,λw hw=>?_⟩
 .rw[vao,vao,List.length_take,va5,List.length_drop];omega
 .rcases List.mem_append.mp hw with hw|hw
  .rcases List.mem_append.mp hw with hw|hw
   .exact h2 w (List.mem_of_mem_take hw)
   .rw[List.mem_singleton.mp hw];exact hx
  .exact h2 w (List.mem_of_mem_drop hw)
theorem zno{a:List W}{p q n:Nat}(ha:ansN n a):ansN (2*n+1) (a.take p++a.drop q):=by
 obtain⟨h1,h2⟩:=ha
 refine⟨?_,λw hw=>?_⟩
 .rw[vao,List.length_take,List.length_drop];omega
 .rcases List.mem_append.mp hw with hw|hw
  .exact h2 w (List.mem_of_mem_take hw)
  .exact h2 w (List.mem_of_mem_drop hw)
theorem eqK{cl:Call}{ρ:En}{h:VH}{i:Nat}{kd n:Int}(hi:ρ[i]?=some (some (.int kd))):ev cl (.cmp .eq (.var i) (.cst (.int n))) ρ h=.ok (.bl (decide (kd=n))) h:=by
 rw[ev,varE hi,bindok,ev,bindok]
 simp only[cmpW,zar,vat,ofsome]
noncomputable def zi6:S:=(.ite (.cmp .eq (.var 5) (.cst (.int (1)))) (.seq (.set 7 (.op .add (.op .add (.slc (.var 7) false (.cst .non) true (.var 8)) (.tup (.cons (.var 9) .nil))) (.slc (.var 7) true (.op .add (.var 8) (.cst (.int (1)))) false (.cst .non)))) .skip) (.seq (.ite (.cmp .eq (.var 5) (.cst (.int (2)))) (.seq (.set 7 (.op .add (.op .add (.slc (.var 7) false (.cst .non) true (.var 8)) (.tup (.cons (.var 9) .nil))) (.slc (.var 7) true (.var 8) false (.cst .non)))) .skip) (.seq (.ite (.cmp .eq (.var 5) (.cst (.int (3)))) (.seq (.set 7 (.op .add (.slc (.var 7) false (.cst .non) true (.var 8)) (.slc (.var 7) true (.op .add (.var 8) (.cst (.int (1)))) false (.cst .non)))) .skip) (.seq (.ite (.cmp .eq (.var 5) (.cst (.int (4)))) (.seq (.set 10 (.op .add (.lst (.cons (.cst .non) .nil)) (.bi .lrng (.cons (.idx (.var 1) (.cst (.int (1)))) .nil)))) (.seq (.set 7 (.call 700 (.cons (.var 1) (.cons (.var 2) (.cons (.idx (.var 10) (.call 5 (.cons (.var 0) (.cons (.bi .len (.cons (.var 10) .nil)) .nil)))) (.cons (.idx (.var 3) (.var 6)) .nil)))))) .skip)) (.seq (.set 7 (.bi .tuple (.cons (.lc .seq (.var 7) (.one 0) 1 [0] (.cst (.bl true)) zbw) .nil))) .skip)) .skip)) .skip)) .skip))
theorem ze0:zcf=⟨5,11,(.seq (.set 5 (.call 5 (.cons (.var 0) (.cons (.cst (.int (6))) .nil)))) (.seq (.ite (.or (.cmp .eq (.var 5) (.cst (.int (0)))) (.cmp .eq (.bi .len (.cons (.var 3) .nil)) (.cst (.int (0))))) (.seq (.ret (.var 4)) .skip) .skip) (.seq (.set 6 (.call 5 (.cons (.var 0) (.cons (.bi .len (.cons (.var 3) .nil)) .nil)))) (.seq (.set 7 (.idx (.var 4) (.var 6))) (.seq (.set 8 (.call 5 (.cons (.var 0) (.cons (.op .add (.bi .len (.cons (.var 7) .nil)) (.cst (.int (1)))) .nil)))) (.seq (.set 9 (.idx (.lst (.cons (.cst .non) (.cons (.cst (.int (0))) (.cons (.cst (.int (1))) (.cons (.cst (.int (99))) (.cons (.call 5 (.cons (.var 0) (.cons (.cst (.int (100))) .nil))) .nil)))))) (.call 5 (.cons (.var 0) (.cons (.cst (.int (5))) .nil))))) (.seq zi6 (.seq (.ret (.op .add (.op .add (.slc (.var 4) false (.cst .non) true (.var 6)) (.tup (.cons (.var 7) .nil))) (.slc (.var 4) true (.op .add (.var 6) (.cst (.int (1)))) false (.cst .non)))) .skip))))))))⟩:=rfl
section
variable{F:Nat->Option Fn}(CD:CoreD F)(f207:F 207=some fn207)(f700:F 700=some zbn)
include CD f207 f700
theorem zxi{k:Nat}{h:VH}{d c b:Nat}{B:Bd}{ls:List Int}{rs:List (List Nat)}{w4:Option W}{rl gn at_ p:Nat}{kd:Int}{a:List W}{x:W}(D:Dk h d c b)(hb:b+700<1000000000)(ok:B.Ok)(hgn:B.gr=(gn:Int))(hl:(ls.length:Int)=B.gr)(bi:Bits ls)(gr:h.get rl=some (.lst (rowsW rs)))(hd:rl≠d)(hc:rl≠c)(hr:∀r∈rs,r.length<=200/\∀f∈r,f<B.fd.length)(hat:at_<rs.length)(ha:ansN 200 a)(hx:nmOk x) :
 ∃a' y h',exs (run F (k+3)) zi6 [some (.ref d),some B.w,some (iW ls),some (.ref rl),w4,some (.int kd),some (.int at_),some (.tup a),some (.int p),some x,none] h=.ok (.nx [some (.ref d),some B.w,some (iW ls),some (.ref rl),w4,some (.int kd),some (.int at_),some (.tup a'),some (.int p),some x,y]) h'/\ansN 401 a'/\Dk h' d c (b+700)/\Keep h h' d c:=by
 have hp1:ev (run F (k+3)) (.op .add (.var 8) (.cst (.int (1)))) [some (.ref d),some B.w,some (iW ls),some (.ref rl),w4,some (.int kd),some (.int at_),some (.tup a),some (.int p),some x,none] h=.ok (.int ((p+1:Nat):Int)) h:=rfl
 have hal:a.length<=1000:=by have:=ha.1;omega
 unfold zi6
 by_cases z1:kd=1
 .have ec:=eqK (cl:=run F (k+3)) (h:=h) (n:=1) (i:=5) (kd:=kd) (ρ:=[some (.ref d),some B.w,some (iW ls),some (.ref rl),w4,some (.int kd),some (.int at_),some (.tup a),some (.int p),some x,none]) rfl
  rw[decide_eq_true z1]at ec
  exact⟨_,none,h,(iteT ec).trans ((zaa (setE (zi5 (varE rfl) (varE rfl) (varE rfl) hp1 hal))).trans rfl),zh6 ha hx,D.mono (by omega),.refl⟩
 have ec1:=eqK (cl:=run F (k+3)) (h:=h) (n:=1) (i:=5) (kd:=kd) (ρ:=[some (.ref d),some B.w,some (iW ls),some (.ref rl),w4,some (.int kd),some (.int at_),some (.tup a),some (.int p),some x,none]) rfl
 rw[va3 z1]at ec1
 by_cases z2:kd=2
 .have ec:=eqK (cl:=run F (k+3)) (h:=h) (n:=2) (i:=5) (kd:=kd) (ρ:=[some (.ref d),some B.w,some (iW ls),some (.ref rl),w4,some (.int kd),some (.int at_),some (.tup a),some (.int p),some x,none]) rfl
  rw[decide_eq_true z2]at ec
  exact⟨_,none,h,(iteF ec1).trans ((zaa ((iteT ec).trans ((zaa (setE (zi5 (varE rfl) (varE rfl) (varE rfl) (varE rfl) hal))).trans rfl))).trans rfl),zh6 ha hx,D.mono (by omega),.refl⟩
 have ec2:=eqK (cl:=run F (k+3)) (h:=h) (n:=2) (i:=5) (kd:=kd) (ρ:=[some (.ref d),some B.w,some (iW ls),some (.ref rl),w4,some (.int kd),some (.int at_),some (.tup a),some (.int p),some x,none]) rfl
 rw[va3 z2]at ec2
 by_cases z3:kd=3
 .have ec:=eqK (cl:=run F (k+3)) (h:=h) (n:=3) (i:=5) (kd:=kd) (ρ:=[some (.ref d),some B.w,some (iW ls),some (.ref rl),w4,some (.int kd),some (.int at_),some (.tup a),some (.int p),some x,none]) rfl
  rw[decide_eq_true z3]at ec
  have es:=addTE (cl:=run F (k+3)) (slcLo (a:=.var 7) (hi:=.var 8) (ws:=a) (n:=p) (ρ:=[some (.ref d),some B.w,some (iW ls),some (.ref rl),w4,some (.int kd),some (.int at_),some (.tup a),some (.int p),some x,none]) (h:=h) (varE rfl) (varE rfl)) (slcHi (a:=.var 7) (varE rfl) hp1) (by rw[List.length_take,List.length_drop];omega)
  exact⟨_,none,h,(iteF ec1).trans ((zaa ((iteF ec2).trans ((zaa ((iteT ec).trans ((zaa (setE es)).trans rfl))).trans rfl))).trans rfl),zno ha,D.mono (by omega),.refl⟩
 have ec3:=eqK (cl:=run F (k+3)) (h:=h) (n:=3) (i:=5) (kd:=kd) (ρ:=[some (.ref d),some B.w,some (iW ls),some (.ref rl),w4,some (.int kd),some (.int at_),some (.tup a),some (.int p),some x,none]) rfl
 rw[va3 z3]at ec3
 have ec4:=eqK (cl:=run F (k+3)) (h:=h) (n:=4) (i:=5) (kd:=kd) (ρ:=[some (.ref d),some B.w,some (iW ls),some (.ref rl),w4,some (.int kd),some (.int at_),some (.tup a),some (.int p),some x,none]) rfl
 by_cases z4:kd=4
 .rw[decide_eq_true z4]at ec4
  have hg2:=ok.g2
  have i1:∀h:VH,ev (run F (k+3)) (.idx (.var 1) (.cst (.int (1)))) [some (.ref d),some B.w,some (iW ls),some (.ref rl),w4,some (.int kd),some (.int at_),some (.tup a),some (.int p),some x,none] h=.ok (.int gn) h:=λh=>by rw[show(W.int gn)=.int B.gr by rw[hgn]];rfl
  have e1:=fosE (cl:=run F (k+3)) (h:=h) (n:=gn) i1 (by omega)
  obtain⟨h1,hh1⟩:∃g,g=((h.new (.lst [.non])).new (.lst (ints0 gn))).new (.lst ((fosOf gn).map optW)):=⟨_,rfl⟩
  rw[<-hh1]at e1
  have D1:Dk h1 d c b:=by rw[hh1];exact D.new.new.new
  have K1:Keep h h1 d c:=by rw[hh1];exact(Keep.refl.new.new).new
  have g1:h1.get (h.n+2)=some (.lst ((fosOf gn).map optW)):=by rw[hh1];exact zao
  have hdn:h.n+2≠d/\h.n+2≠c:=by
   obtain⟨_,_,_,_,_,z1,z2,_⟩:=D
   have:=zaj z1
   have:=zaj z2
   omega
  obtain⟨t,h2,e2,t0,t1,D2,K2⟩:=take CD (k:=k) (m:=((gn+1:Nat):Int)) D1 (by omega) (by omega) (by omega)
  obtain⟨t,rfl⟩:=vas t0
  have ht:t< (fosOf gn).length:=by rw[zbx];omega
  have g2:=K2.get _ _ hdn.1 hdn.2 g1
  have gr2:h2.get rl=some (.lst (rowsW rs)):=K2.get _ _ hd hc (K1.get _ _ hd hc gr)
  have hfo:=(fosOf gn)[t]'ht
  obtain⟨fo,hfo⟩:∃fo,(fosOf gn)[t]?=some fo:=⟨_,vay ht⟩
  obtain⟨r,hrr⟩:∃r,rs[at_]?=some r:=⟨_,vay hat⟩
  have hrm:=hr r (List.mem_of_getElem? hrr)
  have ef:ev (run F (k+3)) (.idx (.var 10) (.call 5 (.cons (.var 0) (.cons (.bi .len (.cons (.var 10) .nil)) .nil)))) [some (.ref d),some B.w,some (iW ls),some (.ref rl),w4,some (.int kd),some (.int at_),some (.tup a),some (.int p),some x,some (.ref (h.n+2))] h1=.ok (optW fo) h2:=by
   have elen:ev (run F (k+3)) (.bi .len (.cons (.var 10) .nil)) [some (.ref d),some B.w,some (iW ls),some (.ref rl),w4,some (.int kd),some (.int at_),some (.tup a),some (.int p),some x,some (.ref (h.n+2))] h1=.ok (.int ((gn+1:Nat):Int)) h1:=by
    rw[lenE (x:=.ref (h.n+2)) (ws:=(fosOf gn).map optW) (varE rfl) (by simp only[seqW,g1]),vaf,zbx]
   refine idxE (varE rfl) (zba (varE rfl) elen e2) ?_
   simp only[idxW,g2]
   exact zbc (j:=t) (xs:=(fosOf gn).map optW) (by rw[List.getElem?_map,hfo];rfl)
  have er:ev (run F (k+3)) (.idx (.var 3) (.var 6)) [some (.ref d),some B.w,some (iW ls),some (.ref rl),w4,some (.int kd),some (.int at_),some (.tup a),some (.int p),some x,some (.ref (h.n+2))] h2=.ok (.tup (rowW r)) h2:=by
   refine idxE (varE rfl) (varE rfl) ?_
   simp only[idxW,gr2]
   exact zbc (j:=at_) (xs:=rowsW rs) (by unfold rowsW;rw[List.getElem?_map,hrr];rfl)
  have e3:=zi4 f207 f700 (k:=k+1) (h:=h2) (fo:=fo) ok (show r.length<=2000 by omega) hrm.2 hl bi
  have tl:=(zc4 (fo:=fo) ok r ls hrm.2 hl bi).2.1
  refine⟨_,_,h2,(iteF ec1).trans ((zaa ((iteF ec2).trans ((zaa ((iteF ec3).trans ((zaa ((iteT ec4).trans ((zaa (setE e1)).trans ((zaa (setE (zer (varE rfl) (varE rfl) ef er e3))).trans rfl)))).trans rfl))).trans rfl))).trans rfl),⟨by omega,zda ok r ls hrm.2 hl bi⟩,D2.mono (by omega),K1.trans K2⟩
 .rw[va3 z4]at ec4
  obtain⟨ws,h1,e1,p1,l1,D1,K1⟩:=zkh (cl:=run F (k+3)) (P:=nmOk) (e:=zbw) (tl:=[some (.ref d)]) (d:=d) (c:=c) (m:=1) (λx h b D hb=>by
   obtain⟨t,h',e,t0,t1,D',K'⟩:=take CD (k:=k) (m:=3) D (by omega) (by omega) (by omega)
   exact⟨.int t,h',zba (varE rfl) rfl e,.inr ⟨t,rfl,by omega,by omega⟩,D',K'⟩) a none h b D (by have:=ha.1;omega)
  have hz:a.length<1000000:=by omega
  have e2:=zso (cl:=run F (k+3)) (a:=.var 7) (t:=.one 0) (ow:=1) (ix:=[0]) (e:=zbw) (ρ:=[some (.ref d),some B.w,some (iW ls),some (.ref rl),w4,some (.int kd),some (.int at_),some (.tup a),some (.int p),some x,none]) (h:=h) (varE rfl) hz e1 (by rw[l1];omega)
  have:=ha.1
  exact⟨ws,none,_,(iteF ec1).trans ((zaa ((iteF ec2).trans ((zaa ((iteF ec3).trans ((zaa ((iteF ec4).trans ((zaa (setE e2)).trans rfl))).trans rfl))).trans rfl))).trans rfl),⟨by omega,p1⟩,D1.new.mono (by omega),K1.new⟩
end
section
variable{F:Nat->Option Fn}(CD:CoreD F)(f207:F 207=some fn207)(f700:F 700=some zbn)(f702:F 702=some zcf)
include CD f207 f700 f702
theorem zpm{k:Nat}{h:VH}{d c b:Nat}{B:Bd}{ls:List Int}{rs:List (List Nat)}{as:List (List W)}{rl gn:Nat}(D:Dk h d c b)(hb:b+1000<1000000000)(ok:B.Ok)(hgn:B.gr=(gn:Int))(hl:(ls.length:Int)=B.gr)(bi:Bits ls)(gr:h.get rl=some (.lst (rowsW rs)))(hd:rl≠d)(hc:rl≠c)(hr:∀r∈rs,r.length<=200/\∀f∈r,f<B.fd.length)(hn:rs.length<=40)(ha:∀a∈as,ansN 200 a)(hla:as.length=rs.length) :
 ∃as' h',run F (k+4) 702 [.ref d,B.w,iW ls,.ref rl,.tup (ansW as)] h=.ok (.tup (ansW as')) h'/\as'.length=as.length/\(∀a∈as',ansN 401 a)/\Dk h' d c (b+1000)/\Keep h h' d c:=by
 rw[zam f702 rfl]
 have D0:Dk ⟨h.n,h.n,h.os⟩ d c b:=D.lo
 have gr0:VH.get ⟨h.n,h.n,h.os⟩ rl=some (.lst (rowsW rs)):=by rw[get_lo];exact gr
 have hrl:(rowsW rs).length=rs.length:=by unfold rowsW;rw[vaf]
 have hal:(ansW as).length=as.length:=by unfold ansW;rw[vaf]
 obtain⟨kd,h1,e1,_,_,D1,K1⟩:=take CD (k:=k) (m:=6) D0 (by omega) (by omega) (by omega)
 have gr1:=K1.get _ _ hd hc gr0
 have s1:exs (run F (k+3)) (.set 5 (.call 5 (.cons (.var 0) (.cons (.cst (.int (6))) .nil)))) [some (.ref d),some B.w,some (iW ls),some (.ref rl),some (.tup (ansW as)),none,none,none,none,none,none] ⟨h.n,h.n,h.os⟩=.ok (.nx [some (.ref d),some B.w,some (iW ls),some (.ref rl),some (.tup (ansW as)),some (.int kd),none,none,none,none,none]) h1:=setE (zba (varE rfl) rfl e1)
 have el:ev (run F (k+3)) (.bi .len (.cons (.var 3) .nil)) [some (.ref d),some B.w,some (iW ls),some (.ref rl),some (.tup (ansW as)),some (.int kd),none,none,none,none,none] h1=.ok (.int (rs.length:Nat)) h1:=by
  rw[lenE (x:=.ref rl) (ws:=rowsW rs) (varE rfl) (by simp only[seqW,gr1]),hrl]
 have ek:=eqK (cl:=run F (k+3)) (h:=h1) (n:=0) (i:=5) (kd:=kd) (ρ:=[some (.ref d),some B.w,some (iW ls),some (.ref rl),some (.tup (ansW as)),some (.int kd),none,none,none,none,none]) rfl
 have en:ev (run F (k+3)) (.cmp .eq (.bi .len (.cons (.var 3) .nil)) (.cst (.int (0)))) [some (.ref d),some B.w,some (iW ls),some (.ref rl),some (.tup (ansW as)),some (.int kd),none,none,none,none,none] h1=.ok (.bl (decide ((rs.length:Int)=0))) h1:=by
  rw[ev,el,bindok,ev,bindok]
  simp only[cmpW,zar,vat,ofsome]
 have ec:ev (run F (k+3)) (.or (.cmp .eq (.var 5) (.cst (.int (0)))) (.cmp .eq (.bi .len (.cons (.var 3) .nil)) (.cst (.int (0))))) [some (.ref d),some B.w,some (iW ls),some (.ref rl),some (.tup (ansW as)),some (.int kd),none,none,none,none,none] h1=.ok (.bl (decide (kd=0)||decide ((rs.length:Int)=0))) h1:=by
  cases z:decide (kd=0)with
  |true=>rw[z]at ek;rw[ev,ek,bindok];rfl
  |false=>rw[z]at ek;exact orF ek en
 cases z:(decide (kd=0)||decide ((rs.length:Int)=0))with
 |true=>
  rw[z]at ec
  have body:exs (run F (k+3)) zcf.body [some (.ref d),some B.w,some (iW ls),some (.ref rl),some (.tup (ansW as)),none,none,none,none,none,none] ⟨h.n,h.n,h.os⟩=.ok (.rt (.tup (ansW as))) h1:=by
   rw[ze0]
   exact(zaa s1).trans (zaf ((iteT ec).trans (zaf (retE (varE rfl)))))
  obtain⟨h8,e8,D8,K8⟩:=zbm (cl:=run F (k+3)) (fl:=.nx []) body (.inr ⟨b,D⟩) (D1.mono (show b+1<=b+1000 by omega)) K1
  exact⟨as,h8,e8,rfl,λa haa=>⟨by have:=(ha a haa).1;omega,(ha a haa).2⟩,D8,K8⟩
 |false=>
  rw[z]at ec
  rw[Bool.or_eq_false_iff]at z
  have hn0:rs.length≠0:=λq=>by
   have:=of_decide_eq_false z.2
   omega
  obtain⟨at0,h2,e2,t0,t1,D2,K2⟩:=take CD (k:=k) (m:=(rs.length:Int)) D1 (by omega) (by omega) (by omega)
  obtain⟨at_,rfl⟩:=vas t0
  have hat:at_<as.length:=by omega
  obtain⟨a,haa⟩:∃a,as[at_]?=some a:=⟨_,vay hat⟩
  have hao:=ha a (List.mem_of_getElem? haa)
  have hao1:=hao.1
  obtain⟨p0,h3,e3,p1,p2,D3,K3⟩:=take CD (k:=k) (m:=((a.length:Int)+1)) D2 (by omega) (by omega) (by omega)
  obtain⟨p,rfl⟩:=vas p1
  obtain⟨v0,h4,e4,v1,v2,D4,K4⟩:=take CD (k:=k) (m:=100) D3 (by omega) (by omega) (by omega)
  obtain⟨h4',hh4⟩:∃g,g=h4.new (.lst [.non,.int 0,.int 1,.int 99,.int v0]):=⟨_,rfl⟩
  have D4':Dk h4' d c (b+1+1+1+1):=by rw[hh4];exact D4.new
  have K4':Keep h4 h4' d c:=by rw[hh4];exact Keep.refl.new
  have g4:h4'.get h4.n=some (.lst [.non,.int 0,.int 1,.int 99,.int v0]):=by rw[hh4];exact zao
  have hdn:h4.n≠d/\h4.n≠c:=by
   obtain⟨_,_,_,_,_,z1,z2,_⟩:=D4
   have:=zaj z1
   have:=zaj z2
   omega
  obtain⟨n0,h5,e5,n1,n2,D5,K5⟩:=take CD (k:=k) (m:=5) D4' (by omega) (by omega) (by omega)
  obtain⟨n,rfl⟩:=vas n1
  have g5:=K5.get _ _ hdn.1 hdn.2 g4
  obtain⟨x,hx,ix⟩:∃x,nmOk x/\atI [W.non,.int 0,.int 1,.int 99,.int v0] (n:Int)=some x:=by
   have:n=0\/n=1\/n=2\/n=3\/n=4:=by omega
   rcases this with rfl|rfl|rfl|rfl|rfl
   .exact⟨_,.inl rfl,rfl⟩
   .exact⟨_,.inr ⟨0,rfl,by decide,by decide⟩,rfl⟩
   .exact⟨_,.inr ⟨1,rfl,by decide,by decide⟩,rfl⟩
   .exact⟨_,.inr ⟨99,rfl,by decide,by decide⟩,rfl⟩
   .exact⟨_,.inr ⟨v0,rfl,v1,by omega⟩,rfl⟩
  have gr5:h5.get rl=some (.lst (rowsW rs)):=K5.get _ _ hd hc (K4'.get _ _ hd hc (K4.get _ _ hd hc (K3.get _ _ hd hc (K2.get _ _ hd hc gr1))))
  obtain⟨a',y,h6,e6,ha',D6,K6⟩:=zxi CD f207 f700 (k:=k) (w4:=some (.tup (ansW as))) (kd:=kd) (p:=p) (x:=x) D5 (by omega) ok hgn hl bi gr5 hd hc hr (show at_<rs.length by omega) hao hx
  have s3:exs (run F (k+3)) (.set 6 (.call 5 (.cons (.var 0) (.cons (.bi .len (.cons (.var 3) .nil)) .nil)))) [some (.ref d),some B.w,some (iW ls),some (.ref rl),some (.tup (ansW as)),some (.int kd),none,none,none,none,none] h1=.ok (.nx [some (.ref d),some B.w,some (iW ls),some (.ref rl),some (.tup (ansW as)),some (.int kd),some (.int at_),none,none,none,none]) h2:=setE (zba (varE rfl) el e2)
  have ia:idxW h2 (.tup (ansW as)) (.int at_)=some (.tup a):=zbc (j:=at_) (xs:=ansW as) (by unfold ansW;rw[List.getElem?_map,haa];rfl)
  have s4:exs (run F (k+3)) (.set 7 (.idx (.var 4) (.var 6))) [some (.ref d),some B.w,some (iW ls),some (.ref rl),some (.tup (ansW as)),some (.int kd),some (.int at_),none,none,none,none] h2=.ok (.nx [some (.ref d),some B.w,some (iW ls),some (.ref rl),some (.tup (ansW as)),some (.int kd),some (.int at_),some (.tup a),none,none,none]) h2:=setE (idxE (varE rfl) (varE rfl) ia)
  have s5:exs (run F (k+3)) (.set 8 (.call 5 (.cons (.var 0) (.cons (.op .add (.bi .len (.cons (.var 7) .nil)) (.cst (.int (1)))) .nil)))) [some (.ref d),some B.w,some (iW ls),some (.ref rl),some (.tup (ansW as)),some (.int kd),some (.int at_),some (.tup a),none,none,none] h2=.ok (.nx [some (.ref d),some B.w,some (iW ls),some (.ref rl),some (.tup (ansW as)),some (.int kd),some (.int at_),some (.tup a),some (.int p),none,none]) h3:=setE (zba (varE rfl) (opE (lenE (varE rfl) rfl) rfl rfl) e3)
  have s6:exs (run F (k+3)) (.set 9 (.idx (.lst (.cons (.cst .non) (.cons (.cst (.int (0))) (.cons (.cst (.int (1))) (.cons (.cst (.int (99))) (.cons (.call 5 (.cons (.var 0) (.cons (.cst (.int (100))) .nil))) .nil)))))) (.call 5 (.cons (.var 0) (.cons (.cst (.int (5))) .nil))))) [some (.ref d),some B.w,some (iW ls),some (.ref rl),some (.tup (ansW as)),some (.int kd),some (.int at_),some (.tup a),some (.int p),none,none] h3=.ok (.nx [some (.ref d),some B.w,some (iW ls),some (.ref rl),some (.tup (ansW as)),some (.int kd),some (.int at_),some (.tup a),some (.int p),some x,none]) h5:=by
   have eL:ev (run F (k+3)) (.lst (.cons (.cst .non) (.cons (.cst (.int (0))) (.cons (.cst (.int (1))) (.cons (.cst (.int (99))) (.cons (.call 5 (.cons (.var 0) (.cons (.cst (.int (100))) .nil))) .nil)))))) [some (.ref d),some B.w,some (iW ls),some (.ref rl),some (.tup (ansW as)),some (.int kd),some (.int at_),some (.tup a),some (.int p),none,none] h3=.ok (.ref h4.n) h4':=by
    rw[ev,ev,ev,bindok,ev,ev,bindok,ev,ev,bindok,ev,ev,bindok,ev,zba (varE rfl) rfl e4,bindok,ev,hh4]
    rfl
   refine setE (idxE eL (zba (varE rfl) rfl e5) ?_)
   simp only[idxW,g5]
   exact ix
  have hp1:ev (run F (k+3)) (.op .add (.var 6) (.cst (.int (1)))) [some (.ref d),some B.w,some (iW ls),some (.ref rl),some (.tup (ansW as)),some (.int kd),some (.int at_),some (.tup a'),some (.int p),some x,y] h6=.ok (.int ((at_+1:Nat):Int)) h6:=rfl
  have e7:=zi5 (cl:=run F (k+3)) (a:=.var 4) (w:=.var 7) (hi:=.var 6) (ρ:=[some (.ref d),some B.w,some (iW ls),some (.ref rl),some (.tup (ansW as)),some (.int kd),some (.int at_),some (.tup a'),some (.int p),some x,y]) (h:=h6) (ws:=ansW as) (x:=.tup a') (n:=at_) (varE rfl) (varE rfl) (varE rfl) hp1 (by rw[hal];omega)
  have hmem:∀w∈(ansW as).take at_++[W.tup a']++(ansW as).drop (at_+1),∃a,w=.tup a/\ansN 401 a:=λw hw=>by
   have old:∀w∈ansW as,∃a,w=.tup a/\ansN 401 a:=λw hw=>by
    obtain⟨a,haa,rfl⟩:=List.mem_map.mp (show w∈as.map W.tup from hw)
    exact⟨a,rfl,by have:=(ha a haa).1;omega,(ha a haa).2⟩
   rcases List.mem_append.mp hw with hw|hw
   .rcases List.mem_append.mp hw with hw|hw
    .exact old w (List.mem_of_mem_take hw)
    .rw[List.mem_singleton.mp hw];exact⟨a',rfl,ha'⟩
   .exact old w (List.mem_of_mem_drop hw)
  obtain⟨as',has,hok⟩:=znn hmem
  rw[has]at e7
  have hlen:as'.length=as.length:=by
   have:=congrArg List.length has
   rw[vao,vao,List.length_take,va5,List.length_drop,hal]at this
   unfold ansW at this
   rw[vaf]at this
   omega
  have body:exs (run F (k+3)) zcf.body [some (.ref d),some B.w,some (iW ls),some (.ref rl),some (.tup (ansW as)),none,none,none,none,none,none] ⟨h.n,h.n,h.os⟩=.ok (.rt (.tup (ansW as'))) h6:=by
   rw[ze0]
   exact(zaa s1).trans ((zaa ((iteF ec).trans rfl)).trans ((zaa s3).trans ((zaa s4).trans ((zaa s5).trans ((zaa s6).trans ((zaa e6).trans (zaf (retE e7))))))))
  obtain⟨h8,e8,D8,K8⟩:=zbm (cl:=run F (k+3)) (fl:=.nx []) body (.inr ⟨b,D⟩) (D6.mono (show b+1+1+1+1+1+700<=b+1000 by omega)) (K1.trans (K2.trans (K3.trans (K4.trans (K4'.trans (K5.trans K6))))))
  exact⟨as',h8,e8,hlen,hok,D8,K8⟩
end
noncomputable def ansEq:List (List W)->List (List W)->Bool
 |[],[]=>true
 |x::xs,y::ys=>zbk x y&&ansEq xs ys
 |_,_=>false
theorem zi7{h:VH}{n:Nat}:∀xs:List (List W),(∀x∈xs,∀w∈x,nmOk w)->mapO (toD h (n+2)) (ansW xs)=some (xs.map λx=>PyData.tuple (x.map nmD))
 |[],_=>rfl
 |x::xs,hx=>by
  have e:toD h (n+2) (.tup x)=some (.tuple (x.map nmD)):=by
   show(mapO (toD h (n+1)) x).map PyData.tuple=_
   rw[zg1 x (hx x vag)];rfl
  show mapO (toD h (n+2)) (.tup x::ansW xs)=_
  simp only[mapO,e,zi7 xs λy hy=>hx y (vad _ hy),vam]
theorem znp:∀{xs ys:List (List W)},(∀x∈xs,∀w∈x,nmOk w)->(∀x∈ys,∀w∈x,nmOk w)->PyData.eqvAll (xs.map λx=>PyData.tuple (x.map nmD)) (ys.map λx=>PyData.tuple (x.map nmD))=ansEq xs ys
 |[],[],_,_=>rfl
 |[],_::_,_,_=>rfl
 |_::_,[],_,_=>rfl
 |x::xs,y::ys,h1,h2=>by
  show(PyData.eqvAll (x.map nmD) (y.map nmD)&&PyData.eqvAll (xs.map λx=>PyData.tuple (x.map nmD)) (ys.map λx=>PyData.tuple (x.map nmD)))=_
  rw[zi2 (h1 x vag) (h2 y vag),znp (λw hw=>h1 w (vad _ hw)) λw hw=>h2 w (vad _ hw)]
  rfl
theorem zh7{n:Nat}{xs:List (List W)}(h:∀x∈xs,∀w∈x,nmOk w):zaz (n+3) (.tup (ansW xs))=true:=by
 rw[zep,List.all_eq_true]
 intro w hw
 obtain⟨x,hx,rfl⟩:=List.mem_map.mp (show w∈xs.map W.tup from hw)
 exact zex (h x hx)
theorem zxj{h:VH}{xs ys:List (List W)}(h1:∀x∈xs,∀w∈x,nmOk w)(h2:∀x∈ys,∀w∈x,nmOk w):eqW h (.tup (ansW xs)) (.tup (ansW ys))=some (ansEq xs ys):=by
 have e1:toD h 24 (.tup (ansW xs))=some (.tuple (xs.map λx=>PyData.tuple (x.map nmD))):=by
  show(mapO (toD h 23) (ansW xs)).map PyData.tuple=_
  rw[zi7 xs h1];rfl
 have e2:toD h 24 (.tup (ansW ys))=some (.tuple (ys.map λx=>PyData.tuple (x.map nmD))):=by
  show(mapO (toD h 23) (ansW ys)).map PyData.tuple=_
  rw[zi7 ys h2];rfl
 have s1:=zc3 (zh7 h1) e1
 have s2:=zc3 (zh7 h2) e2
 unfold eqW
 rw[e1,e2]
 simp only[s1,s2,Bool.and_self,if_true]
 show some (PyData.eqvAll _ _)=_
 rw[znp h1 h2]
noncomputable def zas(B:Bd)(fo:Option Nat)(ls:List Int)(rs:List (List Nat)):List (List W):=rs.map λr=>(toldF B fo r ls).1
theorem zh8{B:Bd}{fo:Option Nat}{ls:List Int}:∀{rs:List (List Nat)} {as:List (List W)},as.length=rs.length->ansEq (zas B fo ls rs) as=za1 B fo ls rs as
 |[],[],_=>rfl
 |[],_::_,h=>by cases h
 |_::_,[],h=>by cases h
 |r::rs,a::as,h=>by
  have:=zh8 (B:=B) (fo:=fo) (ls:=ls) (rs:=rs) (as:=as) (by simpa using h)
  show(zbk (toldF B fo r ls).1 a&&ansEq (zas B fo ls rs) as)=_
  rw[this];rfl
theorem zqj{cl:Call}{e:E}{tl:En}{h:VH}{a:Nat}{rs:List (List Nat)}{f:List Nat->W}(ga:h.get a=some (.lst (rowsW rs)))(he:∀r∈rs,ev cl e (some (.tup (rowW r))::tl) h=.ok (f r) h) :
 ∀(fu i:Nat)(x:Option W)(acc:List W),i<=rs.length->rs.length<fu+i->lcG (nxt .seq (.ref a)) (tgW (.one 0)) (λ_ h=>.ok (.bl true) h) (ev cl e) fu i (x::tl) h acc=.ok (acc.reverse++(rs.drop i).map f) h
 |0,i,x,acc,hi,hl=>by omega
 |fu+1,i,x,acc,hi,hl=>by
  have hx:nxt .seq (.ref a) i h=some ((rs[i]?).map λr=>.tup (rowW r)):=by
   simp only[nxt,seqW,ga,vat,rowsW,List.getElem?_map]
  cases q:rs[i]? with
  |none=>
   rw[q]at hx
   rw[List.drop_eq_nil_of_le (vaz.mp q)]
   simp only[lcG,hx,Option.map_none];simp
  |some r=>
   rw[q]at hx
   obtain⟨hi',ee⟩:=vav.mp q
   have ih:=zqj ga he fu (i+1) (some (.tup (rowW r))) (f r::acc) hi' (by omega)
   simp only[lcG,hx,vat,tgW,vap,bindok,he r (List.mem_of_getElem? q),ih]
   rw[List.drop_eq_getElem_cons hi',ee]
   simp
theorem zqk{cl:Call}{e:E}{ρ:En}{i ow:Nat}{ix:List Nat}{tl:En}{h:VH}{a:Nat}{B:Bd}{fo:Option Nat}{ls:List Int}{rs:List (List Nat)}(hi:ρ[i]?=some (some (.ref a)))(hin:inner ow ix ρ=none::tl)(ga:h.get a=some (.lst (rowsW rs)))(hn:rs.length<=1000)(he:∀r∈rs,ev cl e (some (.tup (rowW r))::tl) h=.ok (.tup (toldF B fo r ls).1) h) :
 ev cl (.bi .tuple (.cons (.lc .seq (.var i) (.one 0) ow ix (.cst (.bl true)) e) .nil)) ρ h=.ok (.tup (ansW (zas B fo ls rs))) (h.new (.lst (ansW (zas B fo ls rs)))):=by
 have l:=zqj (f:=λr=>W.tup (toldF B fo r ls).1) ga he fuel 0 none [] (Nat.zero_le _) (by have hf:fuel=1000000:=rfl;omega)
 have hm:(rs.drop 0).map (λr=>W.tup (toldF B fo r ls).1)=ansW (zas B fo ls rs):=by
  unfold ansW zas;rw[List.drop_zero,List.map_map];rfl
 rw[hm,show([]:List W).reverse=[]from rfl,List.nil_append]at l
 refine zj2 (i:=h.n) ?_ zao
 rw[ev,varE hi,bindok]
 show(lcG (nxt .seq (.ref a)) (tgW (.one 0)) (λ_ h=>.ok (.bl true) h) (ev cl e) fuel 0 (inner ow ix ρ) h []).bind _=_
 rw[hin,l,bindok,if_pos (zbu (by unfold ansW zas;rw[vaf,vaf];omega))]
theorem zdk{F:Nat->Option Fn}(f207:F 207=some fn207)(f700:F 700=some zbn){k:Nat}{B:Bd}{ls:List Int}{rs:List (List Nat)}{gone:List (List W)}{fos:List (Option Nat)}{fl rl dl:Nat}{z0 z1 z5 z7 z8 z9:Option W}(b:B.Ok)(hl:(ls.length:Int)=B.gr)(bi:Bits ls)(hr:∀r∈rs,r.length<=200/\∀f∈r,f<B.fd.length)(hn:rs.length<=40)(hg:∀x∈gone,∀w∈x,nmOk w)(hfd:fl≠dl)(hrd:rl≠dl) :
 ∀(fu i:Nat)(h:VH)(acc:List (Option Nat))(x:Option W),h.get fl=some (.lst (fos.map optW))->h.get rl=some (.lst (rowsW rs))->h.get dl=some (.lst (acc.map optW))->acc.length+fos.length<=1000+i->i<=fos.length->fos.length<fu+i->
  ∃h' y,forG (nxt .seq (.ref fl)) (tgW (.one 12)) (exs (run F (k+2)) za4) fu i [z0,z1,some B.w,some (iW ls),some (.ref fl),z5,some (.ref rl),z7,z8,z9,some (.tup (ansW gone)),some (.ref dl),x] h=.ok (.nx [z0,z1,some B.w,some (iW ls),some (.ref fl),z5,some (.ref rl),z7,z8,z9,some (.tup (ansW gone)),some (.ref dl),y]) h'/\h'.get dl=some (.lst ((acc++(fos.drop i).filter λfo=>ansEq (zas B fo ls rs) gone).map optW))/\h.n<=h'.n/\∀j o,j≠dl->h.get j=some o->h'.get j=some o
 |0,i,h,acc,x,_,_,_,_,hi,hlt=>by omega
 |fu+1,i,h,acc,x,gf,gr,gd,ha,hi,hlt=>by
  have hx:nxt .seq (.ref fl) i h=some ((fos[i]?).map optW):=by simp only[nxt,seqW,gf,vat,List.getElem?_map]
  cases q:fos[i]? with
  |none=>
   rw[q]at hx
   refine⟨h,x,by rw[forG,hx];rfl,?_,vae _,λ_ _ _ e=>e⟩
   rw[List.drop_eq_nil_of_le (vaz.mp q)]
   simpa using gd
  |some fo=>
   rw[q]at hx
   obtain⟨hi',ee⟩:=vav.mp q
   have et:=zqk (cl:=run F (k+2)) (e:=zcp) (i:=6) (ow:=1) (ix:=[2,3,12]) (tl:=[some B.w,some (iW ls),some (optW fo)]) (ρ:=[z0,z1,some B.w,some (iW ls),some (.ref fl),z5,some (.ref rl),z7,z8,z9,some (.tup (ansW gone)),some (.ref dl),some (optW fo)]) (h:=h) (B:=B) (fo:=fo) (ls:=ls) rfl rfl gr (by omega) λr hrr=>zer (varE rfl) (varE rfl) (varE rfl) (varE rfl) (zi4 f207 f700 (k:=k) (fo:=fo) b (by have:=(hr r hrr).1;omega) (hr r hrr).2 hl bi)
   obtain⟨h1,hh1⟩:∃g,g=h.new (.lst (ansW (zas B fo ls rs))):=⟨_,rfl⟩
   rw[<-hh1]at et
   have k1:∀j o,h.get j=some o->h1.get j=some o:=λj o e=>by rw[hh1,zad (zaj e)];exact e
   have n1:h.n<=h1.n:=by rw[hh1];exact Nat.le_succ _
   have tn:∀x∈zas B fo ls rs,∀w∈x,nmOk w:=λx hx=>by
    obtain⟨r,hrr,rfl⟩:=List.mem_map.mp (show x∈rs.map (λr=>(toldF B fo r ls).1)from hx)
    exact zda b r ls (hr r hrr).2 hl bi
   have ec:ev (run F (k+2)) (.cmp .eq (.bi .tuple (.cons (.lc .seq (.var 6) (.one 0) 1 [2,3,12] (.cst (.bl true)) zcp) .nil)) (.var 10)) [z0,z1,some B.w,some (iW ls),some (.ref fl),z5,some (.ref rl),z7,z8,z9,some (.tup (ansW gone)),some (.ref dl),some (optW fo)] h=.ok (.bl (ansEq (zas B fo ls rs) gone)) h1:=by
    rw[ev,et,bindok,varE rfl,bindok]
    simp only[cmpW,zxj tn hg,vat,ofsome]
   cases z:ansEq (zas B fo ls rs) gone with
   |false=>
    rw[z]at ec
    have eb:exs (run F (k+2)) za4 [z0,z1,some B.w,some (iW ls),some (.ref fl),z5,some (.ref rl),z7,z8,z9,some (.tup (ansW gone)),some (.ref dl),some (optW fo)] h=.ok (.nx [z0,z1,some B.w,some (iW ls),some (.ref fl),z5,some (.ref rl),z7,z8,z9,some (.tup (ansW gone)),some (.ref dl),some (optW fo)]) h1:=(zaa ((iteF ec).trans rfl)).trans rfl
    obtain⟨h',y,ih,ig,inn,io⟩:=zdk f207 f700 (k:=k) (z0:=z0) (z1:=z1) (z5:=z5) (z7:=z7) (z8:=z8) (z9:=z9) b hl bi hr hn hg hfd hrd fu (i+1) h1 acc (some (optW fo)) (k1 _ _ gf) (k1 _ _ gr) (k1 _ _ gd) (by omega) hi' (by omega)
    refine⟨h',y,?_,?_,Nat.le_trans n1 inn,λj o hj e=>io j o hj (k1 _ _ e)⟩
    .rw[forG,hx]
     show(exs (run F (k+2)) za4 [z0,z1,some B.w,some (iW ls),some (.ref fl),z5,some (.ref rl),z7,z8,z9,some (.tup (ansW gone)),some (.ref dl),some (optW fo)] h).bind _=_
     rw[eb,bindok];exact ih
    .rw[ig,List.drop_eq_getElem_cons hi',ee]
     simp[z]
   |true=>
    rw[z]at ec
    have gd1:=k1 _ _ gd
    have ea:=zbq (cl:=run F (k+2)) (i:=11) (l:=dl) (x:=.var 12) (ρ:=[z0,z1,some B.w,some (iW ls),some (.ref fl),z5,some (.ref rl),z7,z8,z9,some (.tup (ansW gone)),some (.ref dl),some (optW fo)]) (h:=h1) (h1:=h1) (w:=optW fo) (acc:=acc.map optW) (acc0:=acc.map optW) rfl gd1 (varE rfl) gd1 (by rw[vaf];omega)
    rw[show acc.map optW++[optW fo]=(acc++[fo]).map optW by rw[List.map_append];rfl]at ea
    have eb:exs (run F (k+2)) za4 [z0,z1,some B.w,some (iW ls),some (.ref fl),z5,some (.ref rl),z7,z8,z9,some (.tup (ansW gone)),some (.ref dl),some (optW fo)] h=.ok (.nx [z0,z1,some B.w,some (iW ls),some (.ref fl),z5,some (.ref rl),z7,z8,z9,some (.tup (ansW gone)),some (.ref dl),some (optW fo)]) (h1.set dl (.lst ((acc++[fo]).map optW))):=(zaa ((iteT ec).trans ((zaa (exprE ea)).trans rfl))).trans rfl
    have k2:∀j o,j≠dl->h.get j=some o->(h1.set dl (.lst ((acc++[fo]).map optW))).get j=some o:=λj o hj e=>by rw[zag gd1 hj];exact k1 _ _ e
    obtain⟨h',y,ih,ig,inn,io⟩:=zdk f207 f700 (k:=k) (z0:=z0) (z1:=z1) (z5:=z5) (z7:=z7) (z8:=z8) (z9:=z9) b hl bi hr hn hg hfd hrd fu (i+1) (h1.set dl (.lst ((acc++[fo]).map optW))) (acc++[fo]) (some (optW fo)) (k2 _ _ hfd gf) (k2 _ _ hrd gr) (zau gd1) (by rw[vao,va5];omega) hi' (by omega)
    refine⟨h',y,?_,?_,Nat.le_trans n1 inn,λj o hj e=>io j o hj (k2 _ _ hj e)⟩
    .rw[forG,hx]
     show(exs (run F (k+2)) za4 [z0,z1,some B.w,some (iW ls),some (.ref fl),z5,some (.ref rl),z7,z8,z9,some (.tup (ansW gone)),some (.ref dl),some (optW fo)] h).bind _=_
     rw[eb,bindok];exact ih
    .rw[ig,List.drop_eq_getElem_cons hi',ee]
     simp[z]
noncomputable def optD:Option Nat->PyData
 |none=>.none
 |some g=>.int g
theorem znq{h:VH}{n:Nat}(fo:Option Nat):toD h (n+1) (optW fo)=some (optD fo):=by
 cases fo<;> (unfold optW;rw[toD];rfl)
theorem zki{h:VH}{n:Nat}:∀fos:List (Option Nat),mapO (toD h (n+1)) (fos.map optW)=some (fos.map optD)
 |[]=>rfl
 |fo::r=>by simp only[vam,mapO,znq,zki r]
theorem zta(fo:Option Nat):PyData.eqv (optD fo) (optD fo)=true:=by
 cases fo with
 |none=>rfl
 |some g=>show((g:Int)==(g:Int))=true;simp
theorem ztb{h:VH}{l:Nat}{fos:List (Option Nat)}{fo:Option Nat}(gl:h.get l=some (.lst (fos.map optW)))(hm:fo∈fos):inW h (optW fo) (.ref l)=some true:=by
 have e1:seqW h (.ref l)=some (fos.map optW):=by simp only[seqW,gl]
 have hs:(fos.map optD).all SeqAt.shaped=true:=by
  rw[List.all_eq_true]
  intro d hd
  obtain⟨fo,_,rfl⟩:=List.mem_map.mp hd
  cases fo<;>rfl
 have hs2:SeqAt.shaped (optD fo)=true:=by cases fo<;>rfl
 have ha:∀gs:List (Option Nat),fo∈gs->L2.anyEq (gs.map optD) (optD fo)=true:=by
  intro gs
  induction gs with
  |nil=>intro h;cases h
  |cons g r ih=>
   intro h
   show(PyData.eqv (optD g) (optD fo)||L2.anyEq (r.map optD) (optD fo))=true
   rcases va2.mp h with rfl|h
   .rw[zta];rfl
   .rw[ih h,Bool.or_true]
 unfold inW
 rw[e1,znq (n:=23) fo]
 simp only[zki,hs,hs2,Bool.and_self,if_true,ha fos hm]
structure C65(F:Nat->Option Fn)(c:Addr):Prop where
 p:CoreP3 F
 b:CoreB F
 o:CoreO F c
 r:CoreRw F
 f20:F 20=some fn20
 f207:F 207=some fn207
 f210:F 210=some fn210
 f283:F 283=some fn283
 f285:F 285=some fn285
 f287:F 287=some fn287
 f288:F 288=some fn288
 f292:F 292=some fn292
 f700:F 700=some zbn
 f701:F 701=some zc9
 f702:F 702=some zcf
 f703:F 703=some zd4
section
variable{F:Nat->Option Fn}{c:Addr}(C:C65 F c)
include C
theorem zql{k:Nat}{B:Bd}{ls:List Int}{rs:List (List Nat)}{gone:List (List W)}{gn fl rl:Nat}{num:Int}{fo:Option Nat}{h:VH}{z0 z1 z5 z9 x11 x12:Option W}(b:B.Ok)(hgn:B.gr=(gn:Int))(hl:(ls.length:Int)=B.gr)(bi:Bits ls)(hr:∀r∈rs,r.length<=200/\∀f∈r,f<B.fd.length)(hn:rs.length<=40)(hg:∀a∈gone,ansN 401 a)(hla:gone.length=rs.length)(gf:h.get fl=some (.lst ((fosOf gn).map optW)))(gr:h.get rl=some (.lst (rowsW rs)))(hfo:fo∈fosOf gn)(h0:num=0->ansEq (zas B fo ls rs) gone=true) :
 ∃y11 y12 h',exs (run F (k+10)) zbi [z0,z1,some B.w,some (iW ls),some (.ref fl),z5,some (.ref rl),some (.int num),some (optW fo),z9,some (.tup (ansW gone)),x11,x12] h=.ok (.nx [z0,z1,some B.w,some (iW ls),some (.ref fl),z5,some (.ref rl),some (.int num),some (optW fo),z9,some (.tup (ansW gone)),y11,y12]) h'/\h.n<=h'.n/\∀j o,h.get j=some o->h'.get j=some o:=by
 have hg2:=b.g2
 have k0:∀j o,h.get j=some o->(h.new (.lst [])).get j=some o:=λj o e=>by rw[zad (zaj e)];exact e
 have s1:exs (run F (k+10)) (.set 11 (.lst .nil)) [z0,z1,some B.w,some (iW ls),some (.ref fl),z5,some (.ref rl),some (.int num),some (optW fo),z9,some (.tup (ansW gone)),x11,x12] h=.ok (.nx [z0,z1,some B.w,some (iW ls),some (.ref fl),z5,some (.ref rl),some (.int num),some (optW fo),z9,some (.tup (ansW gone)),some (.ref h.n),x12]) (h.new (.lst [])):=rfl
 obtain⟨h1,y,e1,g1,n1,o1⟩:=zdk C.f207 C.f700 (k:=k+8) (fos:=fosOf gn) (z0:=z0) (z1:=z1) (z5:=z5) (z7:=some (.int num)) (z8:=some (optW fo)) (z9:=z9) b hl bi hr hn (λa haa=>(hg a haa).2) (va4 (zaj gf)) (va4 (zaj gr)) fuel 0 (h.new (.lst [])) [] x12 (k0 _ _ gf) (k0 _ _ gr) zao (by rw[zbx,List.length_nil];omega) (Nat.zero_le _) (by have hf:fuel=1000000:=rfl;rw[zbx];omega)
 rw[List.drop_zero,List.nil_append]at g1
 have k1:∀j o,h.get j=some o->h1.get j=some o:=λj o e=>o1 j o (va4 (zaj e)) (k0 _ _ e)
 have hd:(fosOf gn).filter (λfo=>ansEq (zas B fo ls rs) gone)=(fosOf gn).filter (λfo=>za1 B fo ls rs gone):=List.filter_congr λfo _=>zh8 hla
 have s2:exs (run F (k+10)) (.«for» .seq (.var 4) (.one 12) za4) [z0,z1,some B.w,some (iW ls),some (.ref fl),z5,some (.ref rl),some (.int num),some (optW fo),z9,some (.tup (ansW gone)),some (.ref h.n),x12] (h.new (.lst []))=.ok (.nx [z0,z1,some B.w,some (iW ls),some (.ref fl),z5,some (.ref rl),some (.int num),some (optW fo),z9,some (.tup (ansW gone)),some (.ref h.n),y]) h1:=by
  rw[exs,varE rfl,bindok]
  exact e1
 have t3:ev (run F (k+10)) (.and (.cmp .eq (.var 7) (.cst (.int (0)))) (.cmp .nin (.var 8) (.var 11))) [z0,z1,some B.w,some (iW ls),some (.ref fl),z5,some (.ref rl),some (.int num),some (optW fo),z9,some (.tup (ansW gone)),some (.ref h.n),y] h1=.ok (.bl false) h1:=by
  have ek:=eqK (cl:=run F (k+10)) (h:=h1) (n:=0) (i:=7) (kd:=num) (ρ:=[z0,z1,some B.w,some (iW ls),some (.ref fl),z5,some (.ref rl),some (.int num),some (optW fo),z9,some (.tup (ansW gone)),some (.ref h.n),y]) rfl
  by_cases z:num=0
  .rw[decide_eq_true z]at ek
   refine andT ek ?_
   rw[ev,varE rfl,bindok,varE rfl,bindok]
   simp only[cmpW,ztb g1 (List.mem_filter.mpr ⟨hfo,h0 z⟩),vat,ofsome,Bool.not_true]
  .rw[va3 z]at ek
   rw[ev,ek,bindok]
 have e4:=zg2 C.o C.r C.b C.f210 C.f283 C.f285 C.f287 C.f288 C.f292 (k:=k) (h:=h1) (rs:=rs) (as:=gone) b hgn hl bi (λr hrr=>⟨by have:=(hr r hrr).1;omega,(hr r hrr).2⟩) (λa haa=>⟨by have:=(hg a haa).1;omega,(hg a haa).2⟩) hn hla
 rw[hd]at g1
 have hfl:((fosOf gn).filter λfo=>za1 B fo ls rs gone).length<=1000:=by
  have:=List.length_filter_le (λfo=>za1 B fo ls rs gone) (fosOf gn)
  rw[zbx]at this
  omega
 have e5:=zs9 C.f701 (k:=k+9) (h:=h1) g1 hfl
 have t4:ev (run F (k+10)) (.not (.tru (.call 701 (.cons (.call 285 (.cons (.var 2) (.cons (.var 3) (.cons (.bi .tuple (.cons (.var 6) .nil)) (.cons (.var 10) .nil))))) (.cons (.var 11) .nil))))) [z0,z1,some B.w,some (iW ls),some (.ref fl),z5,some (.ref rl),some (.int num),some (optW fo),z9,some (.tup (ansW gone)),some (.ref h.n),y] h1=.ok (.bl false) h1:=notT (zba (zer (varE rfl) (varE rfl) (zb9 (i:=6) rfl (k1 _ _ gr)) (varE rfl) e4) (varE rfl) e5)
 refine⟨_,y,h1,(zaa s1).trans ((zaa s2).trans ((zaa ((iteF t3).trans rfl)).trans ((zaa ((iteF t4).trans rfl)).trans ((zaa ((iteF t4).trans rfl)).trans rfl)))),Nat.le_trans (Nat.le_succ _) n1,k1⟩
end
theorem Dk.of{h h':VH}{d c b:Nat}(D:Dk h d c b)(k:∀j o,(j=d\/j=c)->h.get j=some o->h'.get j=some o):Dk h' d c b:=by
 obtain⟨ne,ns,cells,p,q,a1,a2,a3⟩:=D
 exact⟨ne,ns,cells,p,q,k _ _ (.inl rfl) a1,k _ _ (.inr rfl) a2,a3⟩
section
variable{F:Nat->Option Fn}{c:Addr}(C:C65 F c)
include C
theorem zdt{k:Nat}{B:Bd}{s:W}{ls:List Int}{rl:Nat}{w4 z5 z8 z9 z10 z11 z12:Option W}(ok:B.Ok)(h1:rl≠1)(h0:rl≠0):∀(n:Nat) (a:Int) (rs:List (List Nat)) (h:VH) (b:Nat) (x:Option W),Dk h 1 0 b->b+20*n<1000000000->rs.length+n<=40->h.get rl=some (.lst (rowsW rs))->(∀r∈rs,r.length<=200/\∀f∈r,f<B.fd.length)->
 ∃rs' h' y,forL (tgW (.one 7)) (exs (run F (k+3)) zbh) (zay a n) [some s,some (.ref 1),some B.w,some (iW ls),w4,z5,some (.ref rl),x,z8,z9,z10,z11,z12] h=.ok (.nx [some s,some (.ref 1),some B.w,some (iW ls),w4,z5,some (.ref rl),y,z8,z9,z10,z11,z12]) h'/\h'.get rl=some (.lst (rowsW rs'))/\rs'.length=rs.length+n/\(∀r∈rs',r.length<=200/\∀f∈r,f<B.fd.length)/\Dk h' 1 0 (b+20*n)/\∀j o,j≠1->j≠0->j≠rl->h.get j=some o->h'.get j=some o
 |0,a,rs,h,b,x,D,_,_,g,hr=>⟨rs,h,x,rfl,g,rfl,hr,by simpa using D,λ_ _ _ _ _ e=>e⟩
 |n+1,a,rs,h,b,x,D,hb,hn,g,hr=>by
  have fa1:=ok.f1
  have fa2:=ok.f2
  have CD:=C.p.toCoreD
  obtain⟨m0,h2,e2,a2,b2,D2,K2⟩:=take CD (k:=k) (m:=10) D (by omega) (by omega) (by omega)
  obtain⟨m,rfl⟩:=vas a2
  have i3:∀h:VH,idxW h B.w (.int 3)=some (.tup B.fd):=λh=>rfl
  obtain⟨ws,h3,e3,p3,l3,D3,K3⟩:=zcl (cl:=run F (k+3)) (P:=λ_ w=>∃x:Nat,w=.int x/\x<B.fd.length) (e:=zco) (tl:=[some B.w,some (.ref 1)]) (m:=1) (lim:=9) (λi h b h0 hl D hb=>by
   obtain⟨r,h',e,r0,r1,D',K'⟩:=take CD (k:=k) (m:=(B.fd.length:Int)) D (by omega) (by omega) (by omega)
   obtain⟨rn,rfl⟩:=vas r0
   exact⟨.int rn,h',zba (varE rfl) (lenE (idxE (varE rfl) rfl (i3 _)) rfl) e,⟨rn,rfl,by omega⟩,D',K'⟩) m 0 none h2 (b+1) (by omega) (by omega) D2 (by omega)
  obtain⟨r,rfl,hrf⟩:=zng (zcc p3)
  have hrl:r.length=m:=by unfold rowW at l3;rw[vaf]at l3;exact l3
  have ea:ev (run F (k+3)) (.cons (.call 5 (.cons (.var 1) (.cons (.cst (.int (10))) .nil))) .nil) [some s,some (.ref 1),some B.w,some (iW ls),w4,z5,some (.ref rl),some (.int a),z8,z9,z10,z11,z12] h=.ok (.tup [.int m]) h2:=by
   rw[ev,zba (varE rfl) rfl e2,bindok]
   rfl
  have et:=zhw (cl:=run F (k+3)) (ow:=1) (ix:=[2,1]) (e:=zco) ea (by omega) e3 (by rw[l3];omega)
  obtain⟨h4,hh4⟩:∃g,g=h3.new (.lst (rowW r)):=⟨_,rfl⟩
  rw[<-hh4]at et
  have D4:Dk h4 1 0 (b+1+1*m):=by rw[hh4];exact D3.new
  have K4:Keep h h4 1 0:=by rw[hh4];exact(K2.trans K3).new
  have g4:=K4.get _ _ h1 h0 g
  have hlen:(rowsW rs).length=rs.length:=by unfold rowsW;rw[vaf]
  have ep:=zbq (cl:=run F (k+3)) (i:=6) (l:=rl) (acc:=rowsW rs) (acc0:=rowsW rs) rfl g et g4 (by omega)
  rw[show rowsW rs++[W.tup (rowW r)]=rowsW (rs++[r]) by unfold rowsW;rw[List.map_append];rfl]at ep
  have D5:Dk (h4.set rl (.lst (rowsW (rs++[r])))) 1 0 (b+20):=(D4.of λj o hj e=>by
   rw[zag g4 (by rcases hj with rfl|rfl<;>omega)];exact e).mono (by omega)
  obtain⟨rs',h',y,ih,ig,il,ir,iD,io⟩:=zdt (k:=k) (s:=s) (ls:=ls) (w4:=w4) (z5:=z5) (z8:=z8) (z9:=z9) (z10:=z10) (z11:=z11) (z12:=z12) ok h1 h0 n (a+1) (rs++[r]) (h4.set rl (.lst (rowsW (rs++[r])))) (b+20) (some (.int a)) D5 (by omega) (by rw[vao,va5];omega) (zau g4) (λx hx=>by
   rcases List.mem_append.mp hx with hx|hx
   .exact hr x hx
   .rw[List.mem_singleton.mp hx];exact⟨by omega,hrf⟩)
  refine⟨rs',h',y,?_,ig,by rw[il,vao,va5];omega,ir,iD.mono (by omega),λj o j1 j0 jr e=>io j o j1 j0 jr (by rw[zag g4 jr];exact K4.get _ _ j1 j0 e)⟩
  have eb:exs (run F (k+3)) zbh [some s,some (.ref 1),some B.w,some (iW ls),w4,z5,some (.ref rl),some (.int a),z8,z9,z10,z11,z12] h=.ok (.nx [some s,some (.ref 1),some B.w,some (iW ls),w4,z5,some (.ref rl),some (.int a),z8,z9,z10,z11,z12]) (h4.set rl (.lst (rowsW (rs++[r])))):=(zaa (exprE ep)).trans rfl
  show forL _ _ (.int a::zay (a+1) n) _ _=_
  simp only[forL,tgW,vau,vap,eb,bindok,ih]
end
section
variable{F:Nat->Option Fn}{c:Addr}(C:C65 F c)
include C
theorem zxk{k:Nat}{B:Bd}{s:W}{ls:List Int}{gn fl:Nat}{h:VH}{b:Nat}{z5 x6 x7 x8 x9 x10 x11 x12:Option W}(ok:B.Ok)(hgn:B.gr=(gn:Int))(hl:(ls.length:Int)=B.gr)(bi:Bits ls)(D:Dk h 1 0 b)(hb:b+5000<1000000000)(gf:h.get fl=some (.lst ((fosOf gn).map optW)))(f1:fl≠1)(f0:fl≠0) :
 ∃y6 y7 y8 y9 y10 y11 y12 h',exs (run F (k+10)) zbj [some s,some (.ref 1),some B.w,some (iW ls),some (.ref fl),z5,x6,x7,x8,x9,x10,x11,x12] h=.ok (.nx [some s,some (.ref 1),some B.w,some (iW ls),some (.ref fl),z5,y6,y7,y8,y9,y10,y11,y12]) h'/\Dk h' 1 0 (b+5000)/\h'.get fl=some (.lst ((fosOf gn).map optW)):=by
 have CD:=C.p.toCoreD
 have hg2:=ok.g2
 have hdn:h.n≠1/\h.n≠0:=by
  obtain⟨_,_,_,_,_,z1,z2,_⟩:=D
  have:=zaj z1
  omega
 have hfn:fl≠h.n:=va4 (zaj gf)
 have s1:exs (run F (k+10)) (.set 6 (.lst .nil)) [some s,some (.ref 1),some B.w,some (iW ls),some (.ref fl),z5,x6,x7,x8,x9,x10,x11,x12] h=.ok (.nx [some s,some (.ref 1),some B.w,some (iW ls),some (.ref fl),z5,some (.ref h.n),x7,x8,x9,x10,x11,x12]) (h.new (.lst [])):=rfl
 have gf0:(h.new (.lst [])).get fl=some (.lst ((fosOf gn).map optW)):=by rw[zad (zaj gf)];exact gf
 have gr0:(h.new (.lst [])).get h.n=some (.lst (rowsW [])):=zao
 obtain⟨m0,h1,e1,a1,b1,D1,K1⟩:=take CD (k:=k+7) (m:=5) D.new (by omega) (by omega) (by omega)
 obtain⟨m,rfl⟩:=vas a1
 obtain⟨rs,h2,y7,e2,gr2,l2,hr,D2,o2⟩:=zdt C (k:=k+7) (s:=s) (ls:=ls) (rl:=h.n) (w4:=some (.ref fl)) (z5:=z5) (z8:=x8) (z9:=x9) (z10:=x10) (z11:=x11) (z12:=x12) ok hdn.1 hdn.2 m 0 [] h1 (b+1) x7 D1 (by omega) (by rw[List.length_nil];omega) (K1.get _ _ hdn.1 hdn.2 gr0) (λr hr=>nomatch hr)
 rw[List.length_nil]at l2
 have gf2:=o2 _ _ f1 f0 hfn (K1.get _ _ f1 f0 gf0)
 have f:=zm1 (n:=m) (tg:=tgW (.one 7)) (b:=exs (run F (k+10)) zbh) (ρ:=[some s,some (.ref 1),some B.w,some (iW ls),some (.ref fl),z5,some (.ref h.n),x7,x8,x9,x10,x11,x12]) (h:=h1) (by omega)
 have s2:exs (run F (k+10)) (.«for» .rng1 (.cons (.call 5 (.cons (.var 1) (.cons (.cst (.int (5))) .nil))) .nil) (.one 7) zbh) [some s,some (.ref 1),some B.w,some (iW ls),some (.ref fl),z5,some (.ref h.n),x7,x8,x9,x10,x11,x12] (h.new (.lst []))=.ok (.nx [some s,some (.ref 1),some B.w,some (iW ls),some (.ref fl),z5,some (.ref h.n),y7,x8,x9,x10,x11,x12]) h2:=by
  have ei:ev (run F (k+10)) (.cons (.call 5 (.cons (.var 1) (.cons (.cst (.int (5))) .nil))) .nil) [some s,some (.ref 1),some B.w,some (iW ls),some (.ref fl),z5,some (.ref h.n),x7,x8,x9,x10,x11,x12] (h.new (.lst []))=.ok (.tup [.int m]) h1:=by
   rw[ev,zba (varE rfl) rfl e1,bindok]
   rfl
  rw[exs,ei,bindok]
  exact f.trans e2
 obtain⟨t0,h3,e3,t1,t2,D3,K3⟩:=take CD (k:=k+7) (m:=((gn+1:Nat):Int)) D2 (by omega) (by omega) (by omega)
 obtain⟨t,rfl⟩:=vas t1
 have ht:t< (fosOf gn).length:=by rw[zbx];omega
 obtain⟨fo,hfo⟩:∃fo,(fosOf gn)[t]?=some fo:=⟨_,vay ht⟩
 have gf3:=K3.get _ _ f1 f0 gf2
 have gr3:=K3.get _ _ hdn.1 hdn.2 gr2
 have s3:exs (run F (k+10)) (.set 8 (.idx (.var 4) (.call 5 (.cons (.var 1) (.cons (.bi .len (.cons (.var 4) .nil)) .nil))))) [some s,some (.ref 1),some B.w,some (iW ls),some (.ref fl),z5,some (.ref h.n),y7,x8,x9,x10,x11,x12] h2=.ok (.nx [some s,some (.ref 1),some B.w,some (iW ls),some (.ref fl),z5,some (.ref h.n),y7,some (optW fo),x9,x10,x11,x12]) h3:=by
  have elen:ev (run F (k+10)) (.bi .len (.cons (.var 4) .nil)) [some s,some (.ref 1),some B.w,some (iW ls),some (.ref fl),z5,some (.ref h.n),y7,x8,x9,x10,x11,x12] h2=.ok (.int ((gn+1:Nat):Int)) h2:=by
   rw[lenE (x:=.ref fl) (ws:=(fosOf gn).map optW) (varE rfl) (by simp only[seqW,gf2]),vaf,zbx]
  refine setE (idxE (varE rfl) (zba (varE rfl) elen e3) ?_)
  simp only[idxW,gf3]
  exact zbc (j:=t) (xs:=(fosOf gn).map optW) (by rw[List.getElem?_map,hfo];rfl)
 have e4:=zqk (cl:=run F (k+10)) (e:=zew) (i:=6) (ow:=1) (ix:=[2,8,3]) (tl:=[some B.w,some (optW fo),some (iW ls)]) (ρ:=[some s,some (.ref 1),some B.w,some (iW ls),some (.ref fl),z5,some (.ref h.n),y7,some (optW fo),x9,x10,x11,x12]) (h:=h3) (B:=B) (fo:=fo) (ls:=ls) rfl rfl gr3 (by omega) λr hrr=>zer (varE rfl) (varE rfl) (varE rfl) (varE rfl) (zi4 C.f207 C.f700 (k:=k+8) (fo:=fo) ok (by have:=(hr r hrr).1;omega) (hr r hrr).2 hl bi)
 obtain⟨h4,hh4⟩:∃g,g=h3.new (.lst (ansW (zas B fo ls rs))):=⟨_,rfl⟩
 rw[<-hh4]at e4
 have D4:Dk h4 1 0 (b+1+20*m+1):=by rw[hh4];exact D3.new
 have gf4:h4.get fl=some (.lst ((fosOf gn).map optW)):=by rw[hh4,zad (zaj gf3)];exact gf3
 have gr4:h4.get h.n=some (.lst (rowsW rs)):=by rw[hh4,zad (zaj gr3)];exact gr3
 have hta:∀a∈zas B fo ls rs,ansN 200 a:=λa haa=>by
  obtain⟨r,hrr,rfl⟩:=List.mem_map.mp (show a∈rs.map (λr=>(toldF B fo r ls).1)from haa)
  exact⟨by rw[(zc4 (fo:=fo) ok r ls (hr r hrr).2 hl bi).2.1];exact(hr r hrr).1,zda ok r ls (hr r hrr).2 hl bi⟩
 have hlt:(zas B fo ls rs).length=rs.length:=by unfold zas;rw[vaf]
 obtain⟨gone,h5,e5,l5,hg5,D5,K5⟩:=zpm CD C.f207 C.f700 C.f702 (k:=k+6) D4 (by omega) ok hgn hl bi gr4 hdn.1 hdn.2 hr (by omega) hta hlt
 have gf5:=K5.get _ _ f1 f0 gf4
 have gr5:=K5.get _ _ hdn.1 hdn.2 gr4
 obtain⟨h6,hh6⟩:∃g,g=h5.new (.lst [.tup (ansW (zas B fo ls rs)),.tup (ansW gone)]):=⟨_,rfl⟩
 have k6:∀j o,h5.get j=some o->h6.get j=some o:=λj o e=>by rw[hh6,zad (zaj e)];exact e
 have gl6:h6.get h5.n=some (.lst [.tup (ansW (zas B fo ls rs)),.tup (ansW gone)]):=by rw[hh6];exact zao
 have hself:ansEq (zas B fo ls rs) (zas B fo ls rs)=true:=by
  have:∀xs:List (List W),(∀x∈xs,∀w∈x,nmOk w)->ansEq xs xs=true:=by
   intro xs
   induction xs with
   |nil=>intro _;rfl
   |cons x xs ih=>
    intro h
    show(zbk x x&&ansEq xs xs)=true
    rw[zdr (h x vag),ih λy hy=>h y (vad _ hy)];rfl
  exact this _ λa haa=>(hta a haa).2
 have hmf:=List.mem_of_getElem? hfo
 obtain⟨u11,u12,h7,e7,n7,k7⟩:=zql C (k:=k) (gn:=gn) (num:=0) (fo:=fo) (h:=h6) (gone:=zas B fo ls rs) (z0:=some s) (z1:=some (.ref 1)) (z5:=z5) (z9:=some (.tup (ansW (zas B fo ls rs)))) (x11:=x11) (x12:=x12) ok hgn hl bi hr (by omega) (λa haa=>⟨by have:=(hta a haa).1;omega,(hta a haa).2⟩) hlt (k6 _ _ gf5) (k6 _ _ gr5) hmf λ_=>hself
 obtain⟨v11,v12,h8,e8,n8,k8⟩:=zql C (k:=k) (gn:=gn) (num:=1) (fo:=fo) (h:=h7) (gone:=gone) (z0:=some s) (z1:=some (.ref 1)) (z5:=z5) (z9:=some (.tup (ansW (zas B fo ls rs)))) (x11:=u11) (x12:=u12) ok hgn hl bi hr (by omega) hg5 (by omega) (k7 _ _ (k6 _ _ gf5)) (k7 _ _ (k6 _ _ gr5)) hmf λz=>by cases z
 have s5:exs (run F (k+10)) (.«for» .enm (.lst (.cons (.var 9) (.cons (.call 702 (.cons (.var 1) (.cons (.var 2) (.cons (.var 3) (.cons (.var 6) (.cons (.var 9) .nil)))))) .nil))) (.many [7,10]) zbi) [some s,some (.ref 1),some B.w,some (iW ls),some (.ref fl),z5,some (.ref h.n),y7,some (optW fo),some (.tup (ansW (zas B fo ls rs))),x10,x11,x12] h4=.ok (.nx [some s,some (.ref 1),some B.w,some (iW ls),some (.ref fl),z5,some (.ref h.n),some (.int 1),some (optW fo),some (.tup (ansW (zas B fo ls rs))),some (.tup (ansW gone)),v11,v12]) h8:=by
  have e702:ev (run F (k+10)) (.call 702 (.cons (.var 1) (.cons (.var 2) (.cons (.var 3) (.cons (.var 6) (.cons (.var 9) .nil)))))) [some s,some (.ref 1),some B.w,some (iW ls),some (.ref fl),z5,some (.ref h.n),y7,some (optW fo),some (.tup (ansW (zas B fo ls rs))),x10,x11,x12] h4=.ok (.tup (ansW gone)) h5:=by
   rw[ev,ev,varE rfl,bindok,ev,varE rfl,bindok,ev,varE rfl,bindok,ev,varE rfl,bindok,ev,varE rfl,bindok,ev]
   exact e5
  have ei:ev (run F (k+10)) (.lst (.cons (.var 9) (.cons (.call 702 (.cons (.var 1) (.cons (.var 2) (.cons (.var 3) (.cons (.var 6) (.cons (.var 9) .nil)))))) .nil))) [some s,some (.ref 1),some B.w,some (iW ls),some (.ref fl),z5,some (.ref h.n),y7,some (optW fo),some (.tup (ansW (zas B fo ls rs))),x10,x11,x12] h4=.ok (.ref h5.n) h6:=by
   rw[ev,ev,varE rfl,bindok,ev,e702,bindok,ev,hh6]
   rfl
  have nx:∀(g:VH) i,g.get h5.n=some (.lst [.tup (ansW (zas B fo ls rs)),.tup (ansW gone)])->nxt .enm (.ref h5.n) i g=some ((([W.tup (ansW (zas B fo ls rs)),.tup (ansW gone)])[i]?).map λw=>.tup [.int i,w]):=λg i gg=>by
   simp only[nxt,seqW,gg,vat]
  obtain⟨fu,hfu⟩:∃m,fuel=m+3:=⟨999997,rfl⟩
  rw[exs,ei,bindok,hfu,forG,nx h6 0 gl6]
  show(exs (run F (k+10)) zbi [some s,some (.ref 1),some B.w,some (iW ls),some (.ref fl),z5,some (.ref h.n),some (.int 0),some (optW fo),some (.tup (ansW (zas B fo ls rs))),some (.tup (ansW (zas B fo ls rs))),x11,x12] h6).bind _=_
  rw[e7,bindok]
  show forG _ _ _ (fu+2) 1 _ _=_
  rw[forG,nx h7 1 (k7 _ _ gl6)]
  show(exs (run F (k+10)) zbi [some s,some (.ref 1),some B.w,some (iW ls),some (.ref fl),z5,some (.ref h.n),some (.int 1),some (optW fo),some (.tup (ansW (zas B fo ls rs))),some (.tup (ansW gone)),u11,u12] h7).bind _=_
  rw[e8,bindok]
  show forG _ _ _ (fu+1) 2 _ _=_
  rw[forG,nx h8 2 (k8 _ _ (k7 _ _ gl6))]
  rfl
 have kk:∀j o,h5.get j=some o->h8.get j=some o:=λj o e=>k8 _ _ (k7 _ _ (k6 _ _ e))
 exact⟨_,_,_,_,_,_,_,h8,(zaa s1).trans ((zaa s2).trans ((zaa s3).trans ((zaa (setE e4)).trans ((zaa s5).trans rfl)))),(D5.of λj o _ e=>kk j o e).mono (by omega),kk _ _ gf5⟩
end
section
variable{F:Nat->Option Fn}{c:Addr}(C:C65 F c)
include C
theorem znr{k:Nat}{B:Bd}{s:W}{ls:List Int}{gn fl:Nat}(ok:B.Ok)(hgn:B.gr=(gn:Int))(hl:(ls.length:Int)=B.gr)(bi:Bits ls)(f1:fl≠1)(f0:fl≠0):∀(n:Nat) (a:Int) (h:VH) (b:Nat) (x5 x6 x7 x8 x9 x10 x11 x12:Option W),Dk h 1 0 b->b+5000*n<1000000000->h.get fl=some (.lst ((fosOf gn).map optW))->
 ∃ρ h',forL (tgW (.one 5)) (exs (run F (k+10)) zbj) (zay a n) [some s,some (.ref 1),some B.w,some (iW ls),some (.ref fl),x5,x6,x7,x8,x9,x10,x11,x12] h=.ok (.nx ρ) h'
 |0,a,h,b,x5,x6,x7,x8,x9,x10,x11,x12,_,_,_=>⟨_,h,rfl⟩
 |n+1,a,h,b,x5,x6,x7,x8,x9,x10,x11,x12,D,hb,gf=>by
  obtain⟨y6,y7,y8,y9,y10,y11,y12,h1,e1,D1,g1⟩:=zxk C (k:=k) (s:=s) (z5:=some (.int a)) (x6:=x6) (x7:=x7) (x8:=x8) (x9:=x9) (x10:=x10) (x11:=x11) (x12:=x12) ok hgn hl bi D (by omega) gf f1 f0
  obtain⟨ρ,h',ih⟩:=znr (k:=k) (s:=s) ok hgn hl bi f1 f0 n (a+1) h1 (b+5000) (some (.int a)) y6 y7 y8 y9 y10 y11 y12 D1 (by omega) g1
  refine⟨ρ,h',?_⟩
  show forL _ _ (.int a::zay (a+1) n) _ _=_
  simp only[forL,tgW,vau,vap,e1,bindok,ih]
theorem law65{ns:List Int}(hl:ns.length<=63):zcb (run F 30 703 [.fz (ns.map .int)] ⟨0,0,[]⟩)=true:=by
 rw[show(30:Nat)=29+1 from rfl,zam C.f703 rfl]
 have CD:=C.p.toCoreD
 obtain⟨h1,e1,D1⟩:=deck CD (k:=28) (h:=⟨0,0,[]⟩) hl
 obtain⟨s,hs⟩:∃s:W,s=.fz (ns.map .int):=⟨_,rfl⟩
 rw[<-hs]at e1 ⊢
 obtain⟨B,h3,e3,ok,w3,g3,r3,D3,K3⟩:=zph C.p (k:=23) (mw:=9) (mr:=8) (mg:=8) D1 (by decide) (by decide) (by decide) (by decide) (by decide) (by decide) (by decide)
 have og1:=ok.g1
 obtain⟨gn,hgn⟩:=vas (show 0<=B.gr by omega)
 obtain⟨ls,h4,e4,l4,b4,D4,K4⟩:=ziw CD (k:=25) (g:=gn) C.f20 D3 (by decide) (by omega)
 have hls:(ls.length:Int)=B.gr:=by omega
 have s1:exs (run F 29) (.set 1 (.call 3 (.cons (.var 0) .nil))) [some s,none,none,none,none,none,none,none,none,none,none,none,none] ⟨0,0,[]⟩=.ok (.nx [some s,some (.ref 1),none,none,none,none,none,none,none,none,none,none,none]) h1:=setE (zka (varE rfl) e1)
 have s2:exs (run F 29) (.set 2 (.call 129 (.cons (.var 1) (.cons (.cst (.int (9))) (.cons (.cst (.int (8))) (.cons (.cst (.int (8))) .nil)))))) [some s,some (.ref 1),none,none,none,none,none,none,none,none,none,none,none] h1=.ok (.nx [some s,some (.ref 1),some B.w,none,none,none,none,none,none,none,none,none,none]) h3:=setE (zer (varE rfl) rfl rfl rfl e3)
 have i1:idxW h3 B.w (.int 1)=some (.int gn):=by rw[show(W.int gn)=.int B.gr by rw[hgn]];rfl
 have s3:exs (run F 29) (.set 3 (.call 20 (.cons (.var 1) (.cons (.idx (.var 2) (.cst (.int (1)))) .nil)))) [some s,some (.ref 1),some B.w,none,none,none,none,none,none,none,none,none,none] h3=.ok (.nx [some s,some (.ref 1),some B.w,some (iW ls),none,none,none,none,none,none,none,none,none]) h4:=setE (zba (varE rfl) (idxE (varE rfl) rfl i1) e4)
 have ei:∀h:VH,ev (run F 29) (.idx (.var 2) (.cst (.int (1)))) [some s,some (.ref 1),some B.w,some (iW ls),none,none,none,none,none,none,none,none,none] h=.ok (.int gn) h:=λh=>by rw[show(W.int gn)=.int B.gr by rw[hgn]];rfl
 have e5:=fosE (cl:=run F 29) (h:=h4) (n:=gn) ei (by omega)
 obtain⟨h5,hh5⟩:∃g,g=((h4.new (.lst [.non])).new (.lst (ints0 gn))).new (.lst ((fosOf gn).map optW)):=⟨_,rfl⟩
 rw[<-hh5]at e5
 have D5:Dk h5 1 0 (0+13000+10):=by rw[hh5];exact D4.new.new.new
 have g5:h5.get (h4.n+2)=some (.lst ((fosOf gn).map optW)):=by rw[hh5];exact zao
 obtain⟨ρ,h6,e6⟩:=znr C (k:=19) (s:=s) (fl:=h4.n+2) ok hgn hls b4 (by omega) (by omega) 4 0 h5 _ none none none none none none none none D5 (by decide) g5
 have f:=zm1 (n:=4) (tg:=tgW (.one 5)) (b:=exs (run F 29) zbj) (ρ:=[some s,some (.ref 1),some B.w,some (iW ls),some (.ref (h4.n+2)),none,none,none,none,none,none,none,none]) (h:=h5) (by decide)
 have s5:exs (run F 29) (.«for» .rng1 (.cons (.cst (.int (4))) .nil) (.one 5) zbj) [some s,some (.ref 1),some B.w,some (iW ls),some (.ref (h4.n+2)),none,none,none,none,none,none,none,none] h5=.ok (.nx ρ) h6:=by
  have ei:ev (run F 29) (.cons (.cst (.int (4))) .nil) [some s,some (.ref 1),some B.w,some (iW ls),some (.ref (h4.n+2)),none,none,none,none,none,none,none,none] h5=.ok (.tup [.int (4:Nat)]) h5:=rfl
  rw[exs,ei,bindok]
  exact f.trans e6
 have eb:exs (run F 29) zd4.body [some s,none,none,none,none,none,none,none,none,none,none,none,none] ⟨0,0,[]⟩=.ok (.rt (.bl true)) h6:=(zaa s1).trans ((zaa s2).trans ((zaa s3).trans ((zaa (setE e5)).trans ((zaa s5).trans (zaf (retE rfl))))))
 show zcb (fin ⟨0,0,[]⟩ (exs (run F 29) zd4.body [some s,none,none,none,none,none,none,none,none,none,none,none,none] ⟨0,0,[]⟩))=true
 rw[eb]
 obtain⟨h9',e9',_⟩:=zeq (h:=⟨0,0,[]⟩) (w:=.bl true) (zfe (zff F 29) _ _ ⟨0,0,[]⟩ _ _ eb)
 show zcb (leave ⟨0,0,[]⟩ (.bl true) h6)=true
 rw[e9']
 rfl
end
end RF
namespace HD
open PySem PySem.W PySem.Calls PyProof.Rows
noncomputable section
noncomputable def p:Program:=PySem.Challenge.pw_ballrockers_k65_faults_told
noncomputable abbrev S(x:String):Str:=Str.ofString x
noncomputable abbrev U(x:String)(t:Tok):Value:=Value.str (S x) t
noncomputable abbrev R(a:Addr):Value:=Value.ref a
noncomputable abbrev I(i:Int)(t:Tok):Value:=Value.int i t
noncomputable abbrev E(P:Params)(x:String)(t:Tok)(v:Value):DictEntry:=DictEntry.mk (PyData.keyHash P (S x)) (Value.str (S x) t) v
noncomputable abbrev N(o:Obj)(l r:BT):BT:=BT.node o l r
noncomputable abbrev Z:BT:=BT.nil
noncomputable abbrev L(o:Obj):BT:=BT.node o Z Z
noncomputable abbrev Y(c:String)(d:Data):Obj:=Obj.mk (Value.type c) none d #[]
noncomputable abbrev X(d:Data):Obj:=Obj.mk Value.none none d #[]
noncomputable def atN(l:List Stmt)(i:Nat):Stmt:=l.getD i (Stmt.Pass ⟨0,0,0,0⟩)
noncomputable def fbS:Stmt->List Stmt
 |.FunctionDef _ _ b _ _ _ _ _ _ _=>b
 |.ClassDef _ _ _ b _ _ _ _ _ _ _=>b
 |_=>[]
noncomputable def faS:Stmt->Arguments
 |.FunctionDef _ a _ _ _ _ _ _ _ _=>a
 |_=>⟨[],[],none,[],[],none,[]⟩
noncomputable def fsS:Stmt->Scope
 |.FunctionDef _ _ _ _ _ _ s _ _ _=>s
 |_=>p.main.scope
noncomputable def fb(i:Nat):List Stmt:=fbS (atN p.main.body i)
noncomputable def fa(i:Nat):Arguments:=faS (atN p.main.body i)
noncomputable def fs(i:Nat):Scope:=fsS (atN p.main.body i)
noncomputable def cb(i j:Nat):List Stmt:=fbS (atN (fb i) j)
noncomputable def ca(i j:Nat):Arguments:=faS (atN (fb i) j)
noncomputable def cs(i j:Nat):Scope:=fsS (atN (fb i) j)
noncomputable abbrev O:Value:=Value.none
noncomputable abbrev J(i:Int):Value:=Value.int i 0
noncomputable abbrev V(t:Tok):Value:=Value.str (S "/claim/cut.py") t
noncomputable abbrev A(l:Array Value):Data:=Data.fields l
noncomputable abbrev B(f:FuncData):Data:=Data.func f
noncomputable abbrev G(x:String)(i:Nat)(g:Addr)(c:List (Str×Addr))(d k o m:Value)(n:Option Addr)(cd ct:Value)(b:Addr):FuncData:=FuncData.mk (S x) (S x) (fa i) (FuncBody.stmts (fb i)) (fs i) g c d k o m n cd ct b
section
variable(P:Params)
noncomputable def N0:Nat:=6174
noncomputable def lo:List Str:=[S "fallen",S "heading_behind",S "come_down",S "come_out"]
noncomputable def keep:List Nat:=[1,2,3,4,5,6,8,9,10,11,13,14,15,16,17,18,19,20,21,22,23,24,25,26,27,28,29,31,32,33,34,40,41,43,44,46,47,48,49,50,51,53,54,55,56,57,58,59,60,61,62,63,64,65,66]
noncomputable def life:Life:=(Life.mk [] [] [] 0 [] [] false #[] [] 0 false false false 0 [2000,10,10] false 0 true [] [] 0 false)
noncomputable def m0:Nat:=11
noncomputable def ann:Option Value:=(some (R 6))
noncomputable def env:Env:={scope:=p.main.scope,locals:=mainNs,globals:=mainNs,cells:=[],code:=(R 13),frame:=some 14}
noncomputable def bd:List Stmt:=behindTheImports p
noncomputable def cd:Code:=Code.body bd env
noncomputable def fr:List Frame:=[topFrame (Pos.mk 0 0 0 0)]
noncomputable abbrev qC(n:String)(t:Nat)(l k:Int)(r m:Nat):Obj:=Y "code" (A #[U n t,U n (t+1),V (t+2),J l,J k,J 0,J 0,J 3,R r,Value.bool true,J 181,R (r+1),O,R (r+2),R (r+3),R (r+4),J (Int.ofNat m),J l,V (m+1)])
noncomputable abbrev qD(n:String)(t:Nat)(l k:Int)(r m:Nat):Obj:=Y "code" (A #[U n t,U n (t+1),V (t+2),J l,J k,J 0,J 0,J 3,R r,Value.bool true,J 181,R (r+1),O,O,O,R (r+2),J (Int.ofNat m),J l,V (m+1)])
noncomputable def qU:Nat->List String->List Value
 |_,[]=>[]
 |t,x::r=>U x t::qU (t+1) r
noncomputable abbrev qT(t:Nat)(l:List String):Obj:=Y "tuple" (Data.seq (qU t l).toArray 0)
noncomputable abbrev qF(n:String)(i:Nat)(u:Value)(r:Addr):Obj:=Y "function" (B (G n i 3 [] O O O u none (R r) O 0))
noncomputable abbrev qG(n:String)(i:Nat):Obj:=X (B (G n i 0 [] O O O O none O O 0))
noncomputable def qJ:List (Int×Nat)->List Value
 |[]=>[]
 |(a,b)::r=>J a::J 0::R b::qJ r
noncomputable def qO:List Obj->List Obj
 |x::_::r=>x::qO r
 |x=>x
noncomputable def qE:List Obj->List Obj
 |_::y::r=>y::qE r
 |_=>[]
noncomputable def qB:Nat->List Obj->BT
 |f+1,x::r=>N x (qB f (qO r)) (qB f (qE r))
 |_,_=>Z
 def a0:=(Y "tuple" (Data.seq #[] 0))
 def a1:=(X (A #[]))
 def a2:=(Y "code" (A #[(U "<module>" 182),(U "<module>" 183),(V 184),(J 1),(J 0),(J 0),(J 0),(J 0),(R 11),(Value.bool false),(J 181),(R 12),O,O,O,O,(J 185),(J 1),(V 186)]))
 def a3:=(Obj.mk (Value.type "frame") none Data.plain #[(some (R 13)),(some (R 3)),(some (R 3)),none,(some (U "__main__" 164)),none,(some (R 0))])
 def ha:Heap:=Heap.mk (Array.mk [(boot_o_0 P),(boot_o_1 P),(boot_o_2 P),(boot_o_3 P),(boot_o_4 P),(boot_o_5 P),(boot_o_6 P),(boot_o_7 P),(boot_o_8 P),(boot_o_9 P),(boot_o_10 P),a0,a1,a2,a3]) (Life.mk [] [] [] 0 [] [] false #[] [] 0 false false false 0 [2000,10,10] false 0 true [] [] 0 false)
noncomputable def sa(w:World)(os:OsState):Shared:=⟨ha w.params,(Array.mk []),(Drawn.mk 0 0 0 0),187,os⟩
theorem seg_q{w:World}{n:Nat}{s s':SharedT}{l:List Stmt}{pos pos':Pos}(h:PySem.W.Fast.tw10110043849684766642 PySem.W.Fast.tw14364793385576792824 p w m0 ann 1 n s (piecesOf l env cd pos fr)=some (.next,s',cd,pos')) :
 segRun treeTable p w m0 ann 1 n s.abs (piecesOf l env cd pos fr)=some (.next,s'.abs,cd,pos'):=
 segRun_of (by rw[PySem.W.Fast.te10110043849684766642,PySem.W.Fast.te14364793385576792824];exact h)
theorem pre_q{w:World}{n:Nat}{s s':Shared}{pos:Pos}(h:PySem.W.Fast.tw15667345088766844465 PySem.W.Fast.tw14364793385576792824 p w m0 ann n s (topStub p)=some (s',⟨PySem.W.Fast.tw11892475500146522536 PySem.W.Fast.tw14364793385576792824 cd,cd,pos,fr⟩)) :
 topGo treeTable p w m0 ann n s (topStub p)=some (s',⟨denote treeTable cd,cd,pos,fr⟩):=by
 rw[PySem.W.Fast.te15667345088766844465,PySem.W.Fast.te14364793385576792824,PySem.W.Fast.te11892475500146522536];exact h
theorem ztc{w:World}{n:Nat}{s s':Shared}{pos pos':Pos}(h:PySem.W.Fast.tw14374325043358763698 PySem.W.Fast.tw14364793385576792824 p w m0 ann 1 n s (blockOf bd env cd pos fr)=some (.next,s',cd,pos')) :
 segRun treeTable p w m0 ann 1 n s (blockOf bd env cd pos fr)=some (.next,s',cd,pos'):=by
 rw[PySem.W.Fast.te14374325043358763698,PySem.W.Fast.te14364793385576792824];exact h
theorem fin_q{w:World}{n:Nat}{s s':Shared}{pos:Pos}(h:PySem.W.Fast.tw14082659384304107361 PySem.W.Fast.tw14364793385576792824 p w m0 ann n s ⟨doneF .next,cd,pos,fr⟩=some s') :
 topRun treeTable p w m0 ann n s ⟨doneF .next,cd,pos,fr⟩=some s':=by
 rw[PySem.W.Fast.te14082659384304107361,PySem.W.Fast.te14364793385576792824];exact h
set_option maxHeartbeats 0 in
theorem pre(w:World)(os:OsState):topGo treeTable p w m0 ann 12 ⟨boot_heap w.params,Array.mk [],boot_drawn,boot_toks,os⟩ (topStub p)=some (sa w os,⟨denote treeTable cd,cd,(Pos.mk 0 0 0 0),fr⟩):=pre_q (by kernel_rfl)
 def vtb:List Obj:=[(boot_o_0 P),(boot_o_1 P),(boot_o_2 P),(boot_o_3 P),(boot_o_4 P),(boot_o_5 P),(boot_o_6 P),(boot_o_7 P),(boot_o_8 P),(boot_o_9 P),(boot_o_10 P),a0,a1,a2,a3]
 def tb:=qB 20 (vtb P)
noncomputable def sb(w:World)(os:OsState):SharedT:=⟨tb w.params,15,life,(Array.mk []),(Drawn.mk 0 0 0 0),187,os⟩
set_option maxHeartbeats 0 in
theorem block(w:World)(os:OsState):segRun treeTable p w m0 ann 1 1 (sa w os) (blockOf bd env cd (Pos.mk 0 0 0 0) fr)=some (.next,(sb w os).abs,cd,(Pos.mk 0 0 0 0)):=ztc (by kernel_rfl)
 def ea4:=[(E P "__doc__" 166 O),(E P "__package__" 167 O),(E P "__loader__" 168 (Value.builtin "__main__.__loader__#opaque")),(E P "__spec__" 169 O),(E P "__annotations__" 170 (R 6)),(E P "__builtins__" 171 (R 4)),(E P "__file__" 173 (V 172)),(E P "__cached__" 174 O),(E P "BoardError" 206 (R 24)),(E P "NoBoard" 222 (R 37)),(E P "Fault" 249 (R 56)),(E P "NoLeans" 265 (R 68)),(E P "NoRow" 281 (R 80)),(E P "NoNames" 297 (R 92)),(E P "is_whole" 306 (R 101)),(E P "is_whole_within" 315 (R 108)),(E P "is_tuple_within" 324 (R 115)),(E P "are_wholes_within" 336 (R 122)),(E P "MOST_COLUMNS" 340 (I 40 339)),(E P "MOST_ROWS" 342 (I 60 341)),(E P "MOST_GROUPS" 344 (I 8 343)),(E P "MOST_FEEDERS" 346 (I 4 345)),(E P "MOST_NAME" 348 (I 99 347))]
 def a4:=Y "dict" (Data.dict ((E P "__name__" 165 (U "ballrockers.boards" 337))::ea4 P).toArray 24)
 def ja5:List (Int×Nat):=[(2,20),(4,33),(6,45),(11,64),(13,76),(15,88),(18,100),(20,107),(22,114),(24,121)]
 def a5:=X (A (qJ ja5).toArray)
 def a6:=(Y "tuple" (Data.seq #[(Value.type "ValueError")] 0))
 def a7:=(Y "builtin_function_or_method" (A #[(Value.builtin "type.__prepare__"),(Value.type "type")]))
 def a8:=(Y "dict" (Data.dict #[(E P "__module__" 196 (U "ballrockers.errors" 187)),(E P "__qualname__" 198 (U "BoardError" 197)),(E P "__firstlineno__" 200 (I 2 199)),(E P "__static_attributes__" 201 (R 22))] 4))
 def a9:=(Y "code" (A #[(U "BoardError" 191),(U "BoardError" 192),(V 193),(J 2),(J 0),(J 0),(J 0),(J 0),(R 18),(Value.bool false),(J 181),(R 19),O,O,O,O,(J 194),(J 2),(V 195)]))
 def a10:=(Obj.mk (Value.type "frame") none Data.plain #[(some (R 20)),(some (R 3)),(some (R 17)),none,(some (U "ballrockers.errors" 187)),none,(some (R 0))])
 def a11:=(Y "dict" (Data.dict #[(E P "__module__" 196 (U "ballrockers.errors" 187)),(E P "__firstlineno__" 200 (I 2 199)),(E P "__static_attributes__" 201 (R 22)),(E P "__weakref__" 203 (R 25)),(E P "__doc__" 204 O)] 3))
 def a12:=(Obj.mk (Value.type "type") none (Data.cls (ClassData.mk (S "BoardError") [(Value.type "ValueError")] [(R 24),(Value.type "ValueError"),(Value.type "Exception"),(Value.type "BaseException"),(Value.type "object")] 23 (S "BoardError") true [] [(R 37),(R 56),(R 68),(R 80),(R 92)] false none false)) #[(some (R 15)),none,(some (U "BoardError" 189)),(some (U "BoardError" 197)),(some (Value.builtin "ValueError.__new__")),(some (Value.bool true))])
 def a13:=(Y "getset_descriptor" (A #[(U "__weakref__" 202),(R 24),(Value.builtin "ExceptionGroup.__weakref__"),O]))
 def a14:=(Y "super" (A #[(R 24),(R 24),(R 24)]))
 def a15:=(Y "builtin_function_or_method" (A #[(Value.builtin "object.__init_subclass__"),(R 24)]))
 def a16:=(Y "tuple" (Data.seq #[(R 24)] 0))
 def a17:=(Y "dict" (Data.dict #[(E P "__module__" 214 (U "ballrockers.errors" 187)),(E P "__qualname__" 216 (U "NoBoard" 215)),(E P "__firstlineno__" 218 (I 4 217)),(E P "__static_attributes__" 219 (R 35))] 4))
 def a18:=(Y "code" (A #[(U "NoBoard" 209),(U "NoBoard" 210),(V 211),(J 4),(J 0),(J 0),(J 0),(J 0),(R 31),(Value.bool false),(J 181),(R 32),O,O,O,O,(J 212),(J 4),(V 213)]))
 def a19:=(Obj.mk (Value.type "frame") none Data.plain #[(some (R 33)),(some (R 3)),(some (R 30)),none,(some (U "ballrockers.errors" 187)),none,(some (R 0))])
 def a20:=(Y "dict" (Data.dict #[(E P "__module__" 214 (U "ballrockers.errors" 187)),(E P "__firstlineno__" 218 (I 4 217)),(E P "__static_attributes__" 219 (R 35)),(E P "__doc__" 220 O)] 2))
 def a21:=(Obj.mk (Value.type "type") none (Data.cls (ClassData.mk (S "NoBoard") [(R 24)] [(R 37),(R 24),(Value.type "ValueError"),(Value.type "Exception"),(Value.type "BaseException"),(Value.type "object")] 36 (S "NoBoard") true [] [] false none false)) #[(some (R 28)),none,(some (U "NoBoard" 207)),(some (U "NoBoard" 215)),(some (Value.builtin "ValueError.__new__")),(some (Value.bool true))])
 def a22:=(Y "super" (A #[(R 37),(R 37),(R 37)]))
 def a23:=(Y "builtin_function_or_method" (A #[(Value.builtin "object.__init_subclass__"),(R 37)]))
 def a24:=(Y "dict" (Data.dict #[(E P "__module__" 230 (U "ballrockers.errors" 187)),(E P "__qualname__" 232 (U "Fault" 231)),(E P "__firstlineno__" 234 (I 6 233)),(E P "__init__" 243 (R 53)),(E P "__static_attributes__" 246 (R 54))] 5))
 def a25:=(X (A #[(J 8),(J 4),(R 52)]))
 def a26:=(Y "code" (A #[(U "Fault" 225),(U "Fault" 226),(V 227),(J 6),(J 0),(J 0),(J 0),(J 0),(R 43),(Value.bool false),(J 181),(R 44),O,O,O,O,(J 228),(J 6),(V 229)]))
 def a27:=(Obj.mk (Value.type "frame") none Data.plain #[(some (R 45)),(some (R 3)),(some (R 42)),none,(some (U "ballrockers.errors" 187)),none,(some (R 0))])
 def a28:=qT 238 ["self","row","column"]
 def a29:=(X (B (FuncData.mk (S "__init__") (S "Fault.__init__") (ca 3 0) (FuncBody.stmts (cb 3 0)) (cs 3 0) 0 [] O O O O none O O 0)))
 def a30:=(Y "code" (A #[(U "__init__" 235),(U "Fault.__init__" 236),(V 237),(J 8),(J 3),(J 0),(J 0),(J 3),(R 47),(Value.bool true),(J 181),(R 48),O,(R 49),(R 50),(R 51),(J 241),(J 8),(V 242)]))
 def a31:=(Y "function" (B (FuncData.mk (S "__init__") (S "Fault.__init__") (ca 3 0) (FuncBody.stmts (cb 3 0)) (cs 3 0) 3 [] O O O (U "ballrockers.errors" 187) none (R 52) O 0)))
 def a32:=qT 244 ["column","row"]
 def a33:=(Y "dict" (Data.dict #[(E P "__module__" 230 (U "ballrockers.errors" 187)),(E P "__firstlineno__" 234 (I 6 233)),(E P "__init__" 243 (R 53)),(E P "__static_attributes__" 246 (R 54)),(E P "__doc__" 247 O)] 2))
 def a34:=(Obj.mk (Value.type "type") none (Data.cls (ClassData.mk (S "Fault") [(R 24)] [(R 56),(R 24),(Value.type "ValueError"),(Value.type "Exception"),(Value.type "BaseException"),(Value.type "object")] 55 (S "Fault") true [] [] false none false)) #[(some (R 40)),none,(some (U "Fault" 223)),(some (U "Fault" 231)),(some (Value.builtin "ValueError.__new__")),(some (Value.bool true))])
 def a35:=(Y "super" (A #[(R 56),(R 56),(R 56)]))
 def a36:=(Y "builtin_function_or_method" (A #[(Value.builtin "object.__init_subclass__"),(R 56)]))
 def a37:=(Y "dict" (Data.dict #[(E P "__module__" 257 (U "ballrockers.errors" 187)),(E P "__qualname__" 259 (U "NoLeans" 258)),(E P "__firstlineno__" 261 (I 11 260)),(E P "__static_attributes__" 262 (R 66))] 4))
 def a38:=(Y "code" (A #[(U "NoLeans" 252),(U "NoLeans" 253),(V 254),(J 11),(J 0),(J 0),(J 0),(J 0),(R 62),(Value.bool false),(J 181),(R 63),O,O,O,O,(J 255),(J 11),(V 256)]))
 def a39:=(Obj.mk (Value.type "frame") none Data.plain #[(some (R 64)),(some (R 3)),(some (R 61)),none,(some (U "ballrockers.errors" 187)),none,(some (R 0))])
 def a40:=(Y "dict" (Data.dict #[(E P "__module__" 257 (U "ballrockers.errors" 187)),(E P "__firstlineno__" 261 (I 11 260)),(E P "__static_attributes__" 262 (R 66)),(E P "__doc__" 263 O)] 2))
 def a41:=(Obj.mk (Value.type "type") none (Data.cls (ClassData.mk (S "NoLeans") [(R 24)] [(R 68),(R 24),(Value.type "ValueError"),(Value.type "Exception"),(Value.type "BaseException"),(Value.type "object")] 67 (S "NoLeans") true [] [] false none false)) #[(some (R 59)),none,(some (U "NoLeans" 250)),(some (U "NoLeans" 258)),(some (Value.builtin "ValueError.__new__")),(some (Value.bool true))])
 def a42:=(Y "super" (A #[(R 68),(R 68),(R 68)]))
 def a43:=(Y "builtin_function_or_method" (A #[(Value.builtin "object.__init_subclass__"),(R 68)]))
 def a44:=(Y "dict" (Data.dict #[(E P "__module__" 273 (U "ballrockers.errors" 187)),(E P "__qualname__" 275 (U "NoRow" 274)),(E P "__firstlineno__" 277 (I 13 276)),(E P "__static_attributes__" 278 (R 78))] 4))
 def a45:=(Y "code" (A #[(U "NoRow" 268),(U "NoRow" 269),(V 270),(J 13),(J 0),(J 0),(J 0),(J 0),(R 74),(Value.bool false),(J 181),(R 75),O,O,O,O,(J 271),(J 13),(V 272)]))
 def a46:=(Obj.mk (Value.type "frame") none Data.plain #[(some (R 76)),(some (R 3)),(some (R 73)),none,(some (U "ballrockers.errors" 187)),none,(some (R 0))])
 def a47:=(Y "dict" (Data.dict #[(E P "__module__" 273 (U "ballrockers.errors" 187)),(E P "__firstlineno__" 277 (I 13 276)),(E P "__static_attributes__" 278 (R 78)),(E P "__doc__" 279 O)] 2))
 def a48:=(Obj.mk (Value.type "type") none (Data.cls (ClassData.mk (S "NoRow") [(R 24)] [(R 80),(R 24),(Value.type "ValueError"),(Value.type "Exception"),(Value.type "BaseException"),(Value.type "object")] 79 (S "NoRow") true [] [] false none false)) #[(some (R 71)),none,(some (U "NoRow" 266)),(some (U "NoRow" 274)),(some (Value.builtin "ValueError.__new__")),(some (Value.bool true))])
 def a49:=(Y "super" (A #[(R 80),(R 80),(R 80)]))
 def a50:=(Y "builtin_function_or_method" (A #[(Value.builtin "object.__init_subclass__"),(R 80)]))
 def a51:=(Y "dict" (Data.dict #[(E P "__module__" 289 (U "ballrockers.errors" 187)),(E P "__qualname__" 291 (U "NoNames" 290)),(E P "__firstlineno__" 293 (I 15 292)),(E P "__static_attributes__" 294 (R 90))] 4))
 def a52:=(Y "code" (A #[(U "NoNames" 284),(U "NoNames" 285),(V 286),(J 15),(J 0),(J 0),(J 0),(J 0),(R 86),(Value.bool false),(J 181),(R 87),O,O,O,O,(J 287),(J 15),(V 288)]))
 def a53:=(Obj.mk (Value.type "frame") none Data.plain #[(some (R 88)),(some (R 3)),(some (R 85)),none,(some (U "ballrockers.errors" 187)),none,(some (R 0))])
 def a54:=(Y "dict" (Data.dict #[(E P "__module__" 289 (U "ballrockers.errors" 187)),(E P "__firstlineno__" 293 (I 15 292)),(E P "__static_attributes__" 294 (R 90)),(E P "__doc__" 295 O)] 2))
 def a55:=(Obj.mk (Value.type "type") none (Data.cls (ClassData.mk (S "NoNames") [(R 24)] [(R 92),(R 24),(Value.type "ValueError"),(Value.type "Exception"),(Value.type "BaseException"),(Value.type "object")] 91 (S "NoNames") true [] [] false none false)) #[(some (R 83)),none,(some (U "NoNames" 282)),(some (U "NoNames" 290)),(some (Value.builtin "ValueError.__new__")),(some (Value.bool true))])
 def a56:=(Y "super" (A #[(R 92),(R 92),(R 92)]))
 def a57:=(Y "builtin_function_or_method" (A #[(Value.builtin "object.__init_subclass__"),(R 92)]))
 def a58:=qT 303 ["thing"]
 def a59:=qG "is_whole" 8
 def a60:=qC "is_whole" 300 18 1 95 304
 def u298:=U "ballrockers.whole" 298
 def a61:=qF "is_whole" 8 u298 100
 def a62:=qT 310 ["thing","low","high"]
 def a63:=qG "is_whole_within" 9
 def a64:=qC "is_whole_within" 307 20 3 102 313
 def a65:=qF "is_whole_within" 9 u298 107
 def a66:=qT 319 ["thing","fewest","most"]
 def a67:=qG "is_tuple_within" 10
 def a68:=qC "is_tuple_within" 316 22 3 109 322
 def a69:=qF "is_tuple_within" 10 u298 114
 def a70:=qT 328 ["thing","fewest","most","low","high","number"]
 def a71:=qG "are_wholes_within" 11
 def a72:=qC "are_wholes_within" 325 24 5 116 334
 def a73:=qF "are_wholes_within" 11 u298 121
 def vt0:List Obj:=((vtb P).set 3 (a4 P)).set 12 a5++[a6,a7,(a8 P),a0,a1,a9,a10,a0,(a11 P),a12,a13,a14,a15,a16,a7,(a17 P),a0,a1,a18,a19,a0,(a20 P),a21,a22,a23,a16,a7,(a24 P),a0,a25,a26,a27,a0,a1,a28,a0,a29,a30,a31,a32,(a33 P),a34,a35,a36,a16,a7,(a37 P),a0,a1,a38,a39,a0,(a40 P),a41,a42,a43,a16,a7,(a44 P),a0,a1,a45,a46,a0,(a47 P),a48,a49,a50,a16,a7,(a51 P),a0,a1,a52,a53,a0,(a54 P),a55,a56,a57,a0,a1,a58,a0,a59,a60,a61,a0,a1,a62,a0,a63,a64,a65,a0,a1,a66,a0,a67,a68,a69,a0,a1,a70,a0,a71,a72,a73]
 def t0:=qB 20 (vt0 P)
noncomputable def s0(w:World)(os:OsState):SharedT:=⟨t0 w.params,123,life,(Array.mk []),(Drawn.mk 0 0 0 0),349,os⟩
noncomputable def st0:List Stmt:=(bd.drop 0).take 18
set_option maxHeartbeats 0 in
theorem seg0(w:World)(os:OsState):segRun treeTable p w m0 ann 1 1483 (sb w os).abs (piecesOf st0 env cd (Pos.mk 0 0 0 0) fr)=some (.next,(s0 w os).abs,cd,(Pos.mk 36 0 36 9)):=seg_q (by kernel_rfl)
 def ea74:=(ea4 P++[(E P "look_at_board" 362 (R 129)),(E P "is_leans" 370 (R 136)),(E P "look_at_leans" 378 (R 143)),(E P "is_row" 387 (R 150)),(E P "is_board_but_for_places" 399 (R 157)),(E P "are_rows" 408 (R 164)),(E P "are_doors" 418 (R 171)),(E P "is_door" 428 (R 178)),(E P "is_feeder_or_none" 436 (R 185)),(E P "may_stand" 446 (R 192)),(E P "is_rocker" 456 (R 199)),(E P "are_leans" 464 (R 206)),(E P "LEFT" 469 (I (-1) 468)),(E P "STRAIGHT" 471 (I 0 470)),(E P "RIGHT" 473 (I 1 472)),(E P "NO_DOOR" 474 (R 207)),(E P "fallen" 491 (R 215)),(E P "heading_behind" 504 (R 223)),(E P "come_down" 518 (R 231)),(E P "come_out" 531 (R 239)),(E P "Balls" 575 (R 264)),(E P "told_by" 587 (R 275)),(E P "MOST_BALLS" 591 (I 2000 590)),(E P "look_at_row" 599 (R 282)),(E P "faults_told" 607 (R 287)),(E P "look_at_rows" 616 (R 294)),(E P "tells" 628 (R 301)),(E P "faults_of" 635 (R 308)),(E P "are_names" 641 (R 313)),(E P "is_name_or_none" 648 (R 320)),(E P "_law_cell" 658 (R 327)),(E P "_law_mixed" 668 (R 334)),(E P "_law_deck" 674 (R 339)),(E P "_law_take" 683 (R 346)),(E P "_law_piece" 695 (R 353)),(E P "_law_row" 701 (R 358)),(E P "_law_door" 711 (R 365)),(E P "_law_board" 717 (R 370)),(E P "_law_leans" 723 (R 375)),(E P "_law_fall" 737 (R 382)),(E P "_law_names" 750 (R 389)),(E P "_law_turned" 756 (R 394))])
 def a74:=Y "dict" (Data.dict ((E P "__name__" 165 (U "law_ballrockers_k65_faults_told" 649))::ea74 P).toArray 66)
 def ja75:List (Int×Nat):=ja5++[(37,128),(45,135),(48,142),(51,149),(53,156),(62,163),(69,170),(76,177),(81,184),(83,191),(91,198),(96,205),(103,214),(119,222),(133,230),(137,238),(142,245),(154,274),(162,281),(166,286),(172,293),(177,300),(182,307),(184,312),(186,319),(189,326),(193,333),(196,338),(198,345),(207,352),(219,357),(221,364),(227,369),(234,374),(236,381),(252,388),(259,393)]
 def a75:=X (A (qJ ja75).toArray)
 def a76:=qT 352 ["board","width","groups","rows","row","places","column","piece"]
 def a77:=qG "look_at_board" 18
 def a78:=qC "look_at_board" 349 37 1 123 360
 def u337:=U "ballrockers.boards" 337
 def a79:=qF "look_at_board" 18 u337 128
 def a80:=qT 366 ["board","thing"]
 def a81:=qG "is_leans" 19
 def a82:=qC "is_leans" 363 45 2 130 368
 def a83:=qF "is_leans" 19 u337 135
 def a84:=qT 374 ["board","thing"]
 def a85:=qG "look_at_leans" 20
 def a86:=qC "look_at_leans" 371 48 2 137 376
 def a87:=qF "look_at_leans" 20 u337 142
 def a88:=qT 382 ["thing","feeders","most"]
 def a89:=qG "is_row" 21
 def a90:=qC "is_row" 379 51 3 144 385
 def a91:=qF "is_row" 21 u337 149
 def a92:=qT 391 ["board","width","groups","rows","feeders","doors"]
 def a93:=qG "is_board_but_for_places" 22
 def a94:=qC "is_board_but_for_places" 388 53 1 151 397
 def a95:=qF "is_board_but_for_places" 22 u337 156
 def a96:=qT 403 ["thing","width","places"]
 def a97:=qG "are_rows" 23
 def a98:=qC "are_rows" 400 62 2 158 406
 def a99:=qF "are_rows" 23 u337 163
 def a100:=qT 412 ["thing","width","feeders","door"]
 def a101:=qG "are_doors" 24
 def a102:=qC "are_doors" 409 69 3 165 416
 def a103:=qF "are_doors" 24 u337 170
 def a104:=qT 422 ["thing","feeders","name","call"]
 def a105:=qG "is_door" 25
 def a106:=qC "is_door" 419 76 2 172 426
 def a107:=qF "is_door" 25 u337 177
 def a108:=qT 432 ["thing","feeders"]
 def a109:=qG "is_feeder_or_none" 26
 def a110:=qC "is_feeder_or_none" 429 81 2 179 434
 def a111:=qF "is_feeder_or_none" 26 u337 184
 def a112:=qT 440 ["piece","column","width","groups"]
 def a113:=qG "may_stand" 27
 def a114:=qC "may_stand" 437 83 4 186 444
 def a115:=qF "may_stand" 27 u337 191
 def a116:=qT 450 ["thing","groups","group","side"]
 def a117:=qG "is_rocker" 28
 def a118:=qC "is_rocker" 447 91 2 193 454
 def a119:=qF "is_rocker" 28 u337 198
 def a120:=qT 460 ["thing","groups"]
 def a121:=qG "are_leans" 29
 def a122:=qC "are_leans" 457 96 2 200 462
 def a123:=qF "are_leans" 29 u337 205
 def a124:=(Y "tuple" (Data.seq #[O,O] 0))
 def a125:=(Y "tuple" (Data.seq #[O] 0))
 def a126:=qT 478 ["board","leans","feeder","fault","column","columns","turned","leaning","heading","places","piece"]
 def a127:=qG "fallen" 35
 def a128:=qC "fallen" 475 103 4 209 489
 def a129:=(Y "function" (B (G "fallen" 35 3 [] (R 208) O O (U "ballrockers.ways" 465) none (R 214) O 0)))
 def a130:=qT 495 ["piece","heading","leaning","fault","group","side","lean"]
 def a131:=qG "heading_behind" 36
 def a132:=qC "heading_behind" 492 119 4 217 502
 def a133:=(Y "function" (B (G "heading_behind" 36 3 [] (R 216) O O (U "ballrockers.ways" 465) none (R 222) O 0)))
 def a134:=qT 508 ["board","leans","feeder","fault","columns","turned","behind","column"]
 def a135:=qG "come_down" 37
 def a136:=qC "come_down" 505 133 4 225 516
 def a137:=(Y "function" (B (G "come_down" 37 3 [] (R 224) O O (U "ballrockers.ways" 465) none (R 230) O 0)))
 def a138:=qT 522 ["board","leans","feeder","fault","column","behind","door"]
 def a139:=qG "come_out" 38
 def a140:=qC "come_out" 519 137 4 233 529
 def a141:=(Y "function" (B (G "come_out" 38 3 [] (R 232) O O (U "ballrockers.ways" 465) none (R 238) O 0)))
 def a142:=(Y "dict" (Data.dict #[(E P "__module__" 541 (U "ballrockers.balls" 532)),(E P "__qualname__" 543 (U "Balls" 542)),(E P "__firstlineno__" 545 (I 142 544)),(E P "__init__" 554 (R 254)),(E P "fall" 564 (R 261)),(E P "__static_attributes__" 568 (R 262))] 6))
 def a143:=(X (A #[(J 144),(J 4),(R 253),(J 149),(J 4),(R 260)]))
 def a144:=(Y "code" (A #[(U "Balls" 536),(U "Balls" 537),(V 538),(J 142),(J 0),(J 0),(J 0),(J 0),(R 243),(Value.bool false),(J 181),(R 244),O,O,O,O,(J 539),(J 142),(V 540)]))
 def a145:=(Obj.mk (Value.type "frame") none Data.plain #[(some (R 245)),(some (R 3)),(some (R 242)),none,(some (U "ballrockers.balls" 532)),none,(some (R 0))])
 def a146:=qT 549 ["self","board","fault"]
 def a147:=(X (B (FuncData.mk (S "__init__") (S "Balls.__init__") (ca 40 0) (FuncBody.stmts (cb 40 0)) (cs 40 0) 0 [] O O O O none O O 0)))
 def a148:=(Y "code" (A #[(U "__init__" 546),(U "Balls.__init__" 547),(V 548),(J 144),(J 3),(J 0),(J 0),(J 3),(R 248),(Value.bool true),(J 181),(R 249),O,(R 250),(R 251),(R 252),(J 552),(J 144),(V 553)]))
 def a149:=(Y "function" (B (FuncData.mk (S "__init__") (S "Balls.__init__") (ca 40 0) (FuncBody.stmts (cb 40 0)) (cs 40 0) 3 [] (R 247) O O (U "ballrockers.balls" 532) none (R 253) O 0)))
 def a150:=qT 558 ["self","leans","feeder","ball"]
 def a151:=(X (B (FuncData.mk (S "fall") (S "Balls.fall") (ca 40 1) (FuncBody.stmts (cb 40 1)) (cs 40 1) 0 [] O O O O none O O 0)))
 def a152:=(Y "code" (A #[(U "fall" 555),(U "Balls.fall" 556),(V 557),(J 149),(J 3),(J 0),(J 0),(J 3),(R 255),(Value.bool true),(J 181),(R 256),O,(R 257),(R 258),(R 259),(J 562),(J 149),(V 563)]))
 def a153:=(Y "function" (B (FuncData.mk (S "fall") (S "Balls.fall") (ca 40 1) (FuncBody.stmts (cb 40 1)) (cs 40 1) 3 [] O O O (U "ballrockers.balls" 532) none (R 260) O 0)))
 def a154:=qT 565 ["board","fault","outcomes"]
 def a155:=(Y "dict" (Data.dict #[(E P "__module__" 541 (U "ballrockers.balls" 532)),(E P "__firstlineno__" 545 (I 142 544)),(E P "__init__" 554 (R 254)),(E P "fall" 564 (R 261)),(E P "__static_attributes__" 568 (R 262)),(E P "__dict__" 570 (R 265)),(E P "__weakref__" 572 (R 266)),(E P "__doc__" 573 O)] 4))
 def a156:=(Obj.mk (Value.type "type") none (Data.cls (ClassData.mk (S "Balls") [(Value.type "object")] [(R 264),(Value.type "object")] 263 (S "Balls") true [] [] false none false)) #[none,none,(some (U "Balls" 534)),(some (U "Balls" 542)),(some (Value.builtin "object.__new__")),(some (Value.bool true))])
 def a157:=(Y "getset_descriptor" (A #[(U "__dict__" 569),(R 264),(Value.builtin "function.__dict__"),(Value.builtin "function.__dict__#set")]))
 def a158:=(Y "getset_descriptor" (A #[(U "__weakref__" 571),(R 264),(Value.builtin "ExceptionGroup.__weakref__"),O]))
 def a159:=(Y "super" (A #[(R 264),(R 264),(R 264)]))
 def a160:=(Y "builtin_function_or_method" (A #[(Value.builtin "object.__init_subclass__"),(R 264)]))
 def a161:=qT 579 ["balls","leans","row","names","feeder","door"]
 def a162:=qG "told_by" 41
 def a163:=qC "told_by" 576 154 3 269 585
 def a164:=qF "told_by" 41 (U "ballrockers.balls" 532) 274
 def a165:=qT 595 ["board","thing"]
 def a166:=qG "look_at_row" 44
 def a167:=qC "look_at_row" 592 162 2 276 597
 def a168:=qF "look_at_row" 44 (U "ballrockers.runs" 588) 281
 def a169:=qG "faults_told" 46
 def a170:=qD "faults_told" 602 166 4 283 605
 def u600:=U "ballrockers.faults" 600
 def a171:=qF "faults_told" 46 u600 286
 def a172:=qT 611 ["board","thing","row"]
 def a173:=qG "look_at_rows" 47
 def a174:=qC "look_at_rows" 608 172 2 288 614
 def a175:=qF "look_at_rows" 47 u600 293
 def a176:=qT 620 ["balls","leans","rows","answers","row","answer"]
 def a177:=qG "tells" 48
 def a178:=qC "tells" 617 177 4 295 626
 def a179:=qF "tells" 48 u600 300
 def a180:=qT 632 ["groups"]
 def a181:=qG "faults_of" 49
 def a182:=qC "faults_of" 629 182 1 302 633
 def a183:=qF "faults_of" 49 u600 307
 def a184:=qG "are_names" 50
 def a185:=qD "are_names" 636 184 1 309 639
 def a186:=qF "are_names" 50 u600 312
 def a187:=qT 645 ["thing"]
 def a188:=qG "is_name_or_none" 51
 def a189:=qC "is_name_or_none" 642 186 1 314 646
 def a190:=qF "is_name_or_none" 51 u600 319
 def a191:=qT 654 ["_law_script","_law_k"]
 def a192:=qG "_law_cell" 53
 def a193:=qC "_law_cell" 651 189 2 321 656
 def u649:=U "law_ballrockers_k65_faults_told" 649
 def a194:=qF "_law_cell" 53 u649 326
 def a195:=qT 662 ["_law_script","_law_k","_law_many","_law_number"]
 def a196:=qG "_law_mixed" 54
 def a197:=qC "_law_mixed" 659 193 3 328 666
 def a198:=qF "_law_mixed" 54 u649 333
 def a199:=qG "_law_deck" 55
 def a200:=qD "_law_deck" 669 196 1 335 672
 def a201:=qF "_law_deck" 55 u649 338
 def a202:=qT 678 ["_law_deck_here","_law_many","_law_cell_here"]
 def a203:=qG "_law_take" 56
 def a204:=qC "_law_take" 675 198 2 340 681
 def a205:=qF "_law_take" 56 u649 345
 def a206:=qT 687 ["_law_deck_here","_law_column","_law_width","_law_groups","_law_kind","_law_piece_here"]
 def a207:=qG "_law_piece" 57
 def a208:=qC "_law_piece" 684 207 4 347 693
 def a209:=qF "_law_piece" 57 u649 352
 def a210:=qG "_law_row" 58
 def a211:=qD "_law_row" 696 219 3 354 699
 def a212:=qF "_law_row" 58 u649 357
 def a213:=qT 705 ["_law_deck_here","_law_feeders","_law_name","_law_call"]
 def a214:=qG "_law_door" 59
 def a215:=qC "_law_door" 702 221 2 359 709
 def a216:=qF "_law_door" 59 u649 364
 def a217:=qG "_law_board" 60
 def a218:=qD "_law_board" 712 227 4 366 715
 def a219:=qF "_law_board" 60 u649 369
 def a220:=qG "_law_leans" 61
 def a221:=qD "_law_leans" 718 234 2 371 721
 def a222:=qF "_law_leans" 61 u649 374
 def a223:=qT 727 ["_law_board_here","_law_leans_here","_law_feeder","_law_fault","_law_column","_law_came","_law_row_here","_law_piece_here"]
 def a224:=qG "_law_fall" 62
 def a225:=qC "_law_fall" 724 236 4 376 735
 def a226:=qF "_law_fall" 62 u649 381
 def a227:=qT 741 ["_law_board_here","_law_leans_here","_law_fault","_law_row_here","_law_names_here","_law_feeder","_law_ball"]
 def a228:=qG "_law_names" 63
 def a229:=qC "_law_names" 738 252 4 383 748
 def a230:=qF "_law_names" 63 u649 388
 def a231:=qG "_law_turned" 64
 def a232:=qD "_law_turned" 751 259 5 390 754
 def a233:=qF "_law_turned" 64 u649 393
 def vt1:List Obj:=((vt0 P).set 3 (a74 P)).set 12 a75++[a0,a1,a76,a0,a77,a78,a79,a0,a1,a80,a0,a81,a82,a83,a0,a1,a84,a0,a85,a86,a87,a0,a1,a88,a0,a89,a90,a91,a0,a1,a92,a0,a93,a94,a95,a0,a1,a96,a0,a97,a98,a99,a0,a1,a100,a0,a101,a102,a103,a0,a1,a104,a0,a105,a106,a107,a0,a1,a108,a0,a109,a110,a111,a0,a1,a112,a0,a113,a114,a115,a0,a1,a116,a0,a117,a118,a119,a0,a1,a120,a0,a121,a122,a123,a124,a125,a0,a1,a126,a0,a127,a128,a129,a125,a0,a1,a130,a0,a131,a132,a133,a125,a0,a1,a134,a0,a135,a136,a137,a125,a0,a1,a138,a0,a139,a140,a141,a0,a7,(a142 P),a0,a143,a144,a145,a125,a0,a1,a146,a0,a147,a148,a149,a0,a1,a150,a0,a151,a152,a153,a154,(a155 P),a156,a157,a158,a159,a160,a0,a1,a161,a0,a162,a163,a164,a0,a1,a165,a0,a166,a167,a168,a0,a1,a169,a170,a171,a0,a1,a172,a0,a173,a174,a175,a0,a1,a176,a0,a177,a178,a179,a0,a1,a180,a0,a181,a182,a183,a0,a1,a184,a185,a186,a0,a1,a187,a0,a188,a189,a190,a0,a1,a191,a0,a192,a193,a194,a0,a1,a195,a0,a196,a197,a198,a0,a1,a199,a200,a201,a0,a1,a202,a0,a203,a204,a205,a0,a1,a206,a0,a207,a208,a209,a0,a1,a210,a211,a212,a0,a1,a213,a0,a214,a215,a216,a0,a1,a217,a218,a219,a0,a1,a220,a221,a222,a0,a1,a223,a0,a224,a225,a226,a0,a1,a227,a0,a228,a229,a230,a0,a1,a231,a232,a233]
 def t1:=qB 20 (vt1 P)
noncomputable def s1(w:World)(os:OsState):SharedT:=⟨t1 w.params,395,life,(Array.mk []),(Drawn.mk 0 0 0 0),757,os⟩
noncomputable def st1:List Stmt:=(bd.drop 18).take 47
set_option maxHeartbeats 0 in
theorem seg1(w:World)(os:OsState):segRun treeTable p w m0 ann 1 1485 (s0 w os).abs (piecesOf st1 env cd (Pos.mk 36 0 36 9) fr)=some (.next,(s1 w os).abs,cd,(Pos.mk 259 0 278 79)):=seg_q (by kernel_rfl)
 def ea234:=(ea74 P++[(E P "_law_right" 766 (R 401)),(E P "law" 772 (R 406))])
 def a234:=Y "dict" (Data.dict ((E P "__name__" 165 (U "law_ballrockers_k65_faults_told" 649))::ea234 P).toArray 68)
 def ja235:List (Int×Nat):=ja75++[(279,400),(286,405)]
 def a235:=X (A (qJ ja235).toArray)
 def a236:=qT 760 ["_law_found","_law_due","_law_one","_law_other"]
 def a237:=qG "_law_right" 65
 def a238:=qC "_law_right" 757 279 2 395 764
 def a239:=qF "_law_right" 65 u649 400
 def a240:=qG "law" 66
 def a241:=qD "law" 767 286 1 402 770
 def a242:=qF "law" 66 u649 405
 def vt2:List Obj:=((vt1 P).set 3 (a234 P)).set 12 a235++[a0,a1,a236,a0,a237,a238,a239,a0,a1,a240,a241,a242]
 def t2:=qB 20 (vt2 P)
noncomputable def s2(w:World)(os:OsState):SharedT:=⟨t2 w.params,407,life,(Array.mk []),(Drawn.mk 0 0 0 0),773,os⟩
noncomputable def st2:List Stmt:=(bd.drop 65).take 2
set_option maxHeartbeats 0 in
theorem seg2(w:World)(os:OsState):segRun treeTable p w m0 ann 1 59 (s1 w os).abs (piecesOf st2 env cd (Pos.mk 259 0 278 79) fr)=some (.next,(s2 w os).abs,cd,(Pos.mk 286 0 308 15)):=seg_q (by kernel_rfl)
 def hz:Heap:=Heap.mk (Array.mk (vt2 P)) (Life.mk [] [] [] 0 [] [] false #[] [] 0 false false false 0 [2000,10,10] false 0 true [] [] 0 false)
noncomputable def sz(w:World)(os:OsState):Shared:=⟨hz w.params,(Array.mk []),(Drawn.mk 0 0 0 0),773,os⟩
set_option maxHeartbeats 0 in
theorem fin(w:World)(os:OsState):topRun treeTable p w m0 ann 2 (s2 w os).abs ⟨doneF .next,cd,(Pos.mk 286 0 308 15),fr⟩=some (sz w os):=fin_q (by kernel_rfl)
 def as:List Addr:=[2,3,15,22,23,24,25,28,35,36,37,40,47,49,50,52,53,54,55,56,59,66,67,68,71,78,79,80,83,90,91,92,95,97,98,100,101,102,104,105,107,108,109,111,112,114,115,116,118,119,121,122,123,125,126,128,129,130,132,133,135,136,137,139,140,142,143,144,146,147,149,150,151,153,154,156,157,158,160,161,163,164,165,167,168,170,171,172,174,175,177,178,179,181,182,184,185,186,188,189,191,192,193,195,196,198,199,200,202,203,205,206,207,208,209,211,212,214,215,216,217,219,220,222,223,224,225,227,228,230,231,232,233,235,236,238,239,247,248,250,251,253,254,255,257,258,260,261,262,263,264,265,266,269,271,272,274,275,276,278,279,281,282,283,286,287,288,290,291,293,294,295,297,298,300,301,302,304,305,307,308,309,312,313,314,316,317,319,320,321,323,324,326,327,328,330,331,333,334,335,338,339,340,342,343,345,346,347,349,350,352,353,354,357,358,359,361,362,364,365,366,369,370,371,374,375,376,378,379,381,382,383,385,386,388,389,390,393,394,395,397,398,400,401,402,405,406]
 def K:Frag:=as.map λi=>(i,(vt2 P).getD i a0)
noncomputable def M0:Nat:=(12+ (1+ (1483+ (1485+ (59+2)))))
theorem bd_is:bd=st0++(st1++(st2++([]))):=by kernel_rfl
theorem rest(w:World)(os:OsState):topRun treeTable p w m0 ann (1483+ (1485+ (59+ (2)))) (sb w os).abs (restOf bd env cd (Pos.mk 0 0 0 0) fr)=some (sz w os):=by
 rw[show restOf bd env cd (Pos.mk 0 0 0 0) fr=restOf (st0++(st1++(st2++([])))) env cd (Pos.mk 0 0 0 0) fr from congrArg (λb=>restOf b env cd (Pos.mk 0 0 0 0) fr) bd_is]
 exact(piece_app (seg0 w os) (piece_app (seg1 w os) (piece_app (seg2 w os) (piece_nil (fin w os)))))
theorem run(w:World)(os:OsState):topRun treeTable p w m0 ann M0 ⟨boot_heap w.params,Array.mk [],boot_drawn,boot_toks,os⟩ (topStub p)=some (sz w os):=
 go_top (pre w os) (piece_block (block w os) (rest w os))
noncomputable def lawAt:Nat:=66
noncomputable def zxl:Pos:=(Pos.mk 286 0 308 15)
noncomputable def q:Program:={p with main:={p.main with body:=keep.map (atN p.main.body)}}
theorem as_is:∀P,as=(K P).map (·.1):=λ_=>by kernel_rfl
noncomputable def H:Hook:=kHook K as as_is
noncomputable def Xt(s:Shared):Bool:=xlAt q [] s&&recOk [] s
theorem zxm(w:World)(os:OsState):(staticsOk (importedModules p.main.body) (boot_heap w.params) (hz w.params)&&namesBound p (hz w.params)&&gensDone (sz w os)&&laidKept (boot_heap w.params) (hz w.params))=true:=by
 rw[PySem.W.Fast.te5923862056798008813];kernel_rfl
theorem zxn(w:World)(os:OsState):seen ((recsOf q).map (·.name)) (ownsOf q) [] {sz w os with gens:=#[]}=expectedOf q:=by
 rw[PySem.W.Fast.te5160383126252970620,PySem.W.R.mapR_eq,PySem.W.Fast.te3399658132070893891,PySem.W.Fast.te5991557255702980513];kernel_rfl
theorem l_blt(w:World)(os:OsState):(sz w os).heap.bltView=bltViewBooted:=by kernel_rfl
theorem zxo(w:World)(os:OsState):((sz w os).heap.keysOk (looseW q lo) ((recsOf q).map (·.name)) ((litsOf q).map (·.1)) ((clssOf q (looseW q lo)).map (·.name))&& (sz w os).heap.accountedOkI (importedModules p.main.body)&& (sz w os).heap.isNs mainGlobals&& (sz w os).heap.isNs builtinsNs&&tablesOk q (sz w os).heap&&Xt (sz w os)&& (if true=true then(sz w os).gens.size==0 else !leftWithCleanup (sz w os).gens))=true:=by
 rw[PySem.W.Fast.te10880121769531294198,PySem.W.Fast.te821141287760084731,PySem.W.R.mapR_eq,PySem.W.Fast.te3399658132070893891,PySem.W.Fast.te7409074990110511671,PySem.W.Fast.te13664370479719496447,PySem.W.Fast.te14722251495701143533,PySem.W.Fast.te10994771534591457954,PySem.W.Fast.te5923862056798008813];kernel_rfl
theorem zxp(w:World)(os:OsState):tabsOk q (sz w os)=true:=by rw[PySem.W.Fast.te479339242167458305];kernel_rfl
theorem l_pin(w:World)(os:OsState):pinSeenD q (drecsOf q) (sz w os)=pinGoodD (drecsOf q):=by rw[PySem.W.Fast.te16090120013241838585,PySem.W.Fast.te3247288618530077131];kernel_rfl
theorem l_plE(w:World)(os:OsState):plainSeenE q (looseW q lo) (sz w os)=plainGoodE q (looseW q lo):=by rw[PySem.W.Fast.te2386780881361962483,PySem.W.Fast.te821141287760084731];kernel_rfl
theorem l_plD(w:World)(os:OsState):plainSeenD q lo (sz w os)=plainGoodD q lo:=by rw[PySem.W.Fast.te11698064438423848299];kernel_rfl
theorem zxq(w:World)(os:OsState):wideSeen q (sz w os)=wideGood q:=by rw[PySem.W.Fast.te7317090234206586261];kernel_rfl
theorem l_cls(w:World)(os:OsState):clsSeenW q lo (sz w os)=clsGoodW q lo:=by rw[PySem.W.Fast.te7369524293546568484];kernel_rfl
theorem zxr(w:World)(os:OsState):as.map (sz w os).heap.get?=(K w.params).map λp=>some p.2:=by kernel_rfl
theorem left:LeftO p q lo Xt (Hook.obs H) (Hook.val H) N0 true:=
 LeftO.of_pieces (H₀:=boot_heap) (H₁:=hz) (boot_open (by kernel_rfl) (by kernel_rfl) (λs=>by kernel_rfl)) (λw=>by kernel_rfl) run (by kernel_rfl)
  (λw=>funext λos=>looks_pair (zxm w os) (looks_pair
    (looks_pair (zxn w os) (looks_pair (l_blt w os) (looks_pair (zxo w os) (looks_pair (zxp w os) (looks_pair (l_pin w os) (looks_pair (l_plE w os) (looks_pair (l_plD w os) (looks_pair (zxq w os) (l_cls w os)))))))))
    (zxr w os)))
noncomputable def df:DefRec:=⟨S "law",fa lawAt,fb lawAt,fs lawAt,zxl⟩
theorem df_is:defOf q (S "law")=some (df,[]):=by kernel_rfl
theorem holds(l:OpenLaw)(hp:l.prog=p)(hn:l.name=S "law")(ok:l.wellSaid=true)(hch:(chainsOk q&&opensWell p&& (frees l.row.toRowW&&l.row.within.isEmpty))=true)(hb:l.row.toRowW.prog.bare)(hw:l.row.toRowW.promised)
 (hwr:(!l.row.writes||l.row.records.isEmpty)=true) (hk:p.theDef (S "law")=some (df.params,df.body,df.scope)) (hkw:kwWritten? df.params.kwonlyargs df.params.kw_defaults=some [])
 (call:WalkO q lo (XL q []) (Hook.says H) l.row.toRowW df [] λf vs=>PySem.call f vs):l.Holds:=
 holds_law ok λsaid=>PySem.W.holds_open (q:=q) (loose:=lo) (Xt:=Xt) (XP:=XL q []) (Yf:=Hook.obs H) (Ya:=Hook.val H) (YP:=Hook.says H) (N:=N0) (r:=l.row) (by have h:l.row.toRowW.prog=p:=hp;show LeftO l.row.toRowW.prog q lo Xt (Hook.obs H) (Hook.val H) N0 true;rw[h];exact left) (Hook.of H) (Hook.keeps H) (λs e=>xl_of s (Bool.and_eq_true_iff.mp e).1) XL.keeps
  (by show defOf q l.name=_;rw[hn];exact df_is) (by show l.prog.theDef l.name=_;rw[hp,hn];exact hk) hkw (λs e=>recFacts_of (Bool.and_eq_true_iff.mp e).2) hwr said (by have h:l.row.toRowW.prog=p:=hp;rw[h];exact hch) hb hw call
end
end
end HD
namespace RF
noncomputable def T65:List PySem.Str:=(["is_whole","is_whole_within","_law_cell","_law_deck","_law_mixed","_law_take","is_tuple_within","are_wholes_within","are_doors","are_rows","is_board_but_for_places","is_door","is_feeder_or_none","is_rocker","look_at_board","may_stand"]++List.replicate 1 "" ++ ["are_leans"]++List.replicate 2 "" ++ ["_law_leans"]++List.replicate 1 "" ++ ["is_leans","_law_door","look_at_leans"]++List.replicate 3 "" ++ ["is_row"]++List.replicate 74 "" ++ ["_law_piece","_law_row"]++List.replicate 24 "" ++ ["_law_board"]++List.replicate 43 "" ++ ["heading_behind","fallen","come_down","come_out"]++List.replicate 2 "" ++ ["told_by","look_at_row"]++List.replicate 26 "" ++ ["_law_fall"]++List.replicate 2 "" ++ ["faults_of"]++List.replicate 72 "" ++ ["are_names"]++List.replicate 1 "" ++ ["faults_told"]++List.replicate 1 "" ++ ["is_name_or_none","look_at_rows"]++List.replicate 3 "" ++ ["tells"]++List.replicate 51 "" ++ ["Balls.__init__","Balls.fall"]++List.replicate 1 "" ++ ["Balls"]++List.replicate 352 "" ++ ["_law_names","_law_right","_law_turned","law"]).map PySem.Str.ofString
noncomputable def fnNo:Fn:=⟨0,0,.no⟩
noncomputable def zqm:List Fn:=[fn0,fn1,fn2,fn3,fn4,fn5,fn6,fn7,fn8,fn9,fn10,fn11,fn12,fn13,fn14,fn15]++List.replicate 1 fnNo++[fn17]++List.replicate 2 fnNo++[fn20]++List.replicate 1 fnNo++[fn22,fn23,fn24]++List.replicate 3 fnNo++[fn28]++List.replicate 74 fnNo++[fn103,fn104]++List.replicate 24 fnNo++[fn129]++List.replicate 43 fnNo++[fn173,fn174,fn175,fn176]++List.replicate 2 fnNo++[fn179 264,fn180]++List.replicate 26 fnNo++[fn207]++List.replicate 2 fnNo++[fn210]++List.replicate 72 fnNo++[fn283]++List.replicate 1 fnNo++[fn285]++List.replicate 1 fnNo++[fn287,fn288]++List.replicate 3 fnNo++[fn292]++List.replicate 51 fnNo++[fn344 264,fn345 264]++List.replicate 1 fnNo++[fn347 264]++List.replicate 352 fnNo++[zbn,zc9,zcf,zd4]
theorem c65:C65 (λi=>zqm[i]?) 264:=by repeat' (first|rfl|constructor)
end RF
open PySem PySem.W PyProof.Rows
set_option maxRecDepth 100000 in
set_option maxHeartbeats 0 in
theorem PySem.Challenge.cw_ballrockers_k65_faults_told_holds : PySem.Challenge.rw_ballrockers_k65_faults_told.Holds := by
 refine HD.holds _ rfl rfl (by kernel_rfl) (by kernel_rfl) ⟨rfl,rfl,rfl,rfl,rfl,by decide +kernel⟩ ?hw rfl (by kernel_rfl) (by kernel_rfl) ?call
 (case hw=>w_witness2)
 refine RF.zo8 RF.T65 60 60 30 703 rfl (by kernel_rfl) ⟨rfl,by decide,by decide⟩ (λw h Y=>PySem.W.kIn_of Y) (by kernel_rfl) ⟨by decide +kernel,by decide +kernel,by decide +kernel⟩ ?b ?c
 (case c=>intro w;kernel_rfl)
 (case b=>
   intro w ns hl
   refine RF.zsl (Fs:=RF.zqm) ?prg (RF.law65 RF.c65 hl)
   kernel_rfl)
