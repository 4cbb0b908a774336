import PyProof.Rows.All
import Wide.All
import OpenK.AllK
import Wide.FinOn
import Lean
import PyProof.EqAt
import PyProof.EqKinds
import PyProof.TupleCall
import KE.KSortTup
import OpenK.KRaise
import OpenK.KOwn
import PyProof.ExcBaseAll.ValueError
import KE.KIsAll
import PyProof.ExcAttrAll.ValueError
import PyProof.NsDelKeeps
import PyProof.RulesAs
import KE.KTryMore
import KE.KLam
import KE.KNestM
import OpenK.KEqL
import PyProof.Rows.EqDataRows
import PyProof.NeKinds
import PyProof.FactsAll.dict
import PyProof.FactsAll.subtypes
import PyProof.ListRange
import PyProof.TupleOfGen
import PyProof.TupleOfSeq
import KE.KTupSum
import PyProof.Rows.SumAny
import PySem.Challenge.RW_tiechances_k86_ties_in_a_row_made_one
set_option bootstrap.genMatcherCode false
set_option compiler.extract_closed false
set_option genInjectivity false
set_option genSizeOf false
set_option Elab.async false
set_option linter.all false
set_option maxRecDepth 100000
namespace L2
open PySem PySem.Spec PyProof.Rows
noncomputable abbrev Key:=Sum Int Str
noncomputable def R81:Key→Value→Bool
 | .inl k,v=>Value.isInt k v
 | .inr x,v=>Value.isStrOf x v
noncomputable def x52 (w:World):Key→Int
 | .inl k=>hashInt k
 | .inr x=>hashStr w x
theorem c60:∀ {k:Key}{v:Value},R81 k v=true→(∃ i t,k=Sum.inl i∧v=Value.int i t)∨(∃ x t,k=Sum.inr x∧v=Value.str x t)
 | .inl i,v,h=>by
  obtain ⟨t,e⟩:=Value.isInt_shape (k:=i) (v:=v) h
  exact .inl ⟨i,t,rfl,e⟩
 | .inr x,v,h=>by
  obtain ⟨t,e⟩:=Value.isStrOf_shape (x:=x) (v:=v) h
  exact .inr ⟨x,t,rfl,e⟩
theorem R91 (a b:Int):decide ((Sum.inl a:Key)=Sum.inl b)=(a == b):=by
 by_cases e:a=b
 ·subst e;simp
 ·have h:¬ (Sum.inl a:Key)=Sum.inl b:=fun q=>e (Sum.inl.inj q)
  rw [decide_eq_false h]
  exact (beq_eq_false_iff_ne.mpr e).symm
theorem S01 (a b:Str):decide ((Sum.inr a:Key)=Sum.inr b)=decide (a=b):=by
 by_cases e:a=b
 ·subst e;simp
 ·have h:¬ (Sum.inr a:Key)=Sum.inr b:=fun q=>e (Sum.inr.inj q)
  rw [decide_eq_false h,decide_eq_false e]
theorem S11 (a:Int) (b:Str):decide ((Sum.inl a:Key)=Sum.inr b)=false:=decide_eq_false (fun q=>nomatch q)
theorem S21 (a:Str) (b:Int):decide ((Sum.inr a:Key)=Sum.inl b)=false:=decide_eq_false (fun q=>nomatch q)
noncomputable def e31 (prog:Program) (w:World):PySem.KeyKind prog w Key where
 is:=R81
 hash:=x52 w
 inj:=fun v a b ha hb=>by
  rcases c60 ha with ⟨i,t,rfl,rfl⟩ | ⟨x,t,rfl,rfl⟩
  ·rcases c60 hb with ⟨j,u,rfl,e⟩ | ⟨y,u,rfl,e⟩
   ·injection e with e1 _;rw [e1]
   ·exact nomatch e
  ·rcases c60 hb with ⟨j,u,rfl,e⟩ | ⟨y,u,rfl,e⟩
   ·exact nomatch e
   ·injection e with e1 _;rw [e1]
 byValue:=fun k v h=>by
  rcases c60 h with ⟨i,t,rfl,rfl⟩ | ⟨x,t,rfl,rfl⟩ <;> rfl
 pyHash:=fun hv h=>by
  rcases c60 hv with ⟨i,t,rfl,rfl⟩ | ⟨x,t,rfl,rfl⟩
  ·exact wpAny_pyHash_int h
  ·exact wpAny_pyHash_str h
 eqBool:=fun hu hv h=>by
  rcases c60 hu with ⟨i,t,rfl,rfl⟩ | ⟨x,t,rfl,rfl⟩
  ·rcases c60 hv with ⟨j,u,rfl,rfl⟩ | ⟨y,u,rfl,rfl⟩
   ·rw [R91] at h;exact wpAny_eqBool_int h
   ·rw [S11] at h;exact SeqAt.EqAt.int_str i t y u _ _ _ _ h
  ·rcases c60 hv with ⟨j,u,rfl,rfl⟩ | ⟨y,u,rfl,rfl⟩
   ·rw [S21] at h;exact SeqAt.EqAt.str_int x t j u _ _ _ _ h
   ·rw [S01] at h;exact wpAny_eqBool_str h
 «strs»:=fun k x t v h=>by
  rcases c60 h with ⟨i,u,rfl,e⟩ | ⟨y,u,rfl,e⟩
  ·exact nomatch e
  ·injection e with e1 _
   subst e1
   cases v <;> rfl
end L2
namespace L2
open PySem PySem.Spec PyProof.Rows
inductive V where
 | non | bl (b:Bool) | int (i:Int) | str (x:Str) | byt (b:Array UInt8) | flt (b:UInt64) | ref (a:Addr) | ty (n:String)
 deriving DecidableEq
noncomputable def RelV:V→Value→Prop
 | .non,u=>u=Value.none
 | .bl b,u=>u=Value.bool b
 | .int i,u=>∃ t,u=Value.int i t
 | .str x,u=>∃ t,u=Value.str x t
 | .byt b,u=>∃ t,u=Value.bytes b t
 | .flt b,u=>∃ t,u=Value.float b t
 | .ref a,u=>u=Value.ref a
 | .ty n,u=>u=Value.type n
noncomputable abbrev Vals:List V→List Value→Prop:=Paired RelV
theorem Vals.length {xs:List V}{us:List Value} (r:Vals xs us):xs.length=us.length:=Paired.length r
theorem Vals.get:∀ {xs:List V}{us:List Value}{i:Nat}{x:V},Vals xs us→xs[i]?=some x→∃ u,us[i]?=some u∧RelV x u
 | _,_,_,_,.nil,e=>by simp at e
 | _,_,0,_,.cons r _,e=>by simp at e;subst e;exact ⟨_,rfl,r⟩
 | _,_,i + 1,x,.cons _ t,e=>by
  obtain ⟨u,h1,h2⟩:=Vals.get (i:=i) (x:=x) t (by simpa using e)
  exact ⟨u,by simpa using h1,h2⟩
theorem Vals.set {x:V}{u:Value} (r:RelV x u):∀ {xs:List V}{us:List Value} (i:Nat),Vals xs us→Vals (xs.set i x) (us.set i u)
 | _,_,_,.nil=>.nil
 | _,_,0,.cons _ t=>.cons r t
 | _,_,i + 1,.cons q t=>.cons q (Vals.set r i t)
theorem Vals.append:∀ {xs ys:List V}{us ws:List Value},Vals xs us→Vals ys ws→Vals (xs++ys) (us++ws)
 | _,_,_,_,.nil,s=>s
 | _,_,_,_,.cons r t,s=>.cons r (Vals.append t s)
theorem Vals.take:∀ {xs:List V}{us:List Value} (n:Nat),Vals xs us→Vals (xs.take n) (us.take n)
 | _,_,0,_=>.nil
 | _,_,_ + 1,.nil=>.nil
 | _,_,n + 1,.cons r t=>.cons r (Vals.take n t)
theorem Vals.drop:∀ {xs:List V}{us:List Value} (n:Nat),Vals xs us→Vals (xs.drop n) (us.drop n)
 | _,_,0,r=>r
 | _,_,_ + 1,.nil=>.nil
 | _,_,n + 1,.cons _ t=>Vals.drop n t
noncomputable def v32:Option V→Option Value→Prop
 | some v,some u=>RelV v u
 | none,none=>True
 | _,_=>False
noncomputable def KV {κ:Type}:List (κ × V)→List (κ × Value)→Prop:=Paired fun (p:κ × V) (q:κ × Value)=>p.1=q.1∧RelV p.2 q.2
noncomputable def kV:Key→V
 | .inl i=>.int i
 | .inr x=>.str x
inductive HO where
 /-- a list -/
 | lst (xs:List V)
 /-- a tuple (never changes) -/
 | tup (xs:List V)
 /-- a dict whose keys are ints and texts;one whose keys are tuples of ints and texts (the empty one is both) -/
 | dK (kvs:List (Key × V)) | dT (kvs:List (List Key × V))
 /-- a set of ints: its members,its size -/
 | set (S:Int→Bool) (n:Nat)
 /-- an instance of the class at C,its dict at dx,its attributes -/
 | ins (C dx:Addr) (fs:List (Str × V))
 /-- the dict of the instance at x -/
 | own (x:Addr)
 /-- the dict of an exception -/
 | xd (fs:List (Str × V))
 /-- a bound method,f of x -/
 | met (f x:Addr)
 /-- a range object lo,lo + 1,.. below hi -/
 | rng (lo hi:Int)
 /-- a thing that is known to the object (the script;a dict while a loop walks it): read,never written while it is so -/
 | frz (o:Obj) (u:HO)
 /-- a code object's table -/
 | tbl (ps:Array Value)
 /-- any other thing,by what is true of its one object (a def of one's own: SetO a S n:=HO.ext fun h=>..) -/
 | ext (φ:Heap→Prop)
noncomputable abbrev Hp:=Addr→Option HO
noncomputable def upd (H:Hp) (a:Addr) (o:HO):Hp:=fun b=>if b=a then some o else H b
theorem a90 {H:Hp}{a:Addr}{o:HO}:upd H a o a=some o:=by unfold upd;rw [if_pos rfl]
theorem a30 {H:Hp}{a b:Addr}{o:HO} (h:b≠a):upd H a o b=H b:=by unfold upd;rw [if_neg h]
theorem a50 {H:Hp}{a b:Addr}{o:HO} (h:H a=some o) (h':H b=none):a≠b:=by
 intro e;subst e;rw [h] at h';cases h'
section
variable (P:Program) (w:World)
noncomputable def h70 (H:Hp) (h:Heap) (a:Addr):HO→Prop
 | .lst xs=>xs.length≤sizeLine∧∃ (its:List Value) (n:Nat),Vals xs its∧h.get? a=some { cls:=.type "list",data:=.seq its.toArray n }
 | .tup xs=>xs.length≤sizeLine∧∃ its:List Value,Vals xs its∧IsTup h a its.toArray
 | .dK kvs=>kvs.length≤sizeLine∧(a == sysModules)=false∧∃ vs,KV kvs vs∧h.DictOf (e31 P w) a vs
 | .dT kvs=>kvs.length≤sizeLine∧(a == sysModules)=false∧∃ xs:List (List Key × Addr × Value),
   Paired (fun (p:List Key × V) (q:List Key × Addr × Value)=>p.1=q.1∧H q.2.1=some (.tup (p.1.map kV))∧RelV p.2 q.2.2) kvs xs ∧
   ∃ o es ep,h.get? a=some o∧o.ExactDict∧o.data=.dict es ep∧es.toList=xs.map (entryOfKey (tupleKind (e31 P w)))∧(xs.map (·.1)).Nodup
 | .set S n=>h.SetOf (intKind P w) a S n
 | .ins C dx fs=>H dx=some (.own a)∧fs.length≤1000∧dx≠a∧h.get? a=some (PySem.W.instObj C dx) ∧
   ∃ mA,h.Ns1 dx mA∧(∀ f,v32 (fs.lookup f) (mA f))∧PySem.Within mA (fs.map (·.1))
 | .own _=>∃ o,h.get? a=some o
 | .xd fs=>∃ mA,h.Ns1 a mA∧∀ f,v32 (fs.lookup f) (mA f)
 | .rng lo hi=>∃ t u v,h.get? a=some { cls:=.type "range",data:=.fields #[.int lo t,.int hi u,.int 1 v] }
 | .frz o u=>h.get? a=some o∧h70 H h a u
 | .tbl ps=>h.get? a=some { cls:=.none,data:=.fields ps }
 | .met f x=>h.get? a=some (PySem.W.methodObj (.ref f) (.ref x))
 | .ext φ=>φ h∧(∃ o,h.get? a=some o)∧∀ h1 h2:Heap,φ h1→(∀ o,h1.get? a=some o→h2.get? a=some o)→φ h2
noncomputable def HOk (H:Hp) (h:Heap):Prop:=∀ a o,H a=some o→h70 P w H h a o
end
section
variable {P:Program}{w:World}{H H':Hp}{h h':Heap}{a:Addr}{o:HO}
theorem h70.lt (x:h70 P w H h a o):a < h.objs.size:=by
 cases o with
 | lst xs=>obtain ⟨_,_,_,_,e⟩:=x;exact Heap.lt_size e
 | tup xs=>obtain ⟨_,_,_,p⟩:=x;exact p.lt
 | dK kvs=>obtain ⟨_,_,_,_,o,_,_,e,_⟩:=x;exact Heap.lt_size e
 | dT kvs=>obtain ⟨_,_,_,_,o,_,_,e,_⟩:=x;exact Heap.lt_size e
 | set S n=>obtain ⟨o,_,_,_,e,_⟩:=x;exact Heap.lt_size e
 | ins C dx fs=>obtain ⟨_,_,_,e,_⟩:=x;exact Heap.lt_size e
 | own y=>obtain ⟨_,e⟩:=x;exact Heap.lt_size e
 | xd fs=>obtain ⟨_,⟨_,_,_,e,_⟩,_⟩:=x;exact Heap.lt_size e
 | rng lo hi=>obtain ⟨_,_,_,e⟩:=x;exact Heap.lt_size e
 | frz ob u=>obtain ⟨e,_⟩:=x;exact Heap.lt_size e
 | tbl ps=>exact Heap.lt_size (show h.get? a=some _ from x)
 | met f y=>exact Heap.lt_size (show h.get? a=some _ from x)
 | ext φ=>obtain ⟨_,⟨_,e⟩,_⟩:=x;exact Heap.lt_size e
theorem Paired.Q81 {α β:Type}{F G:α→β→Prop}:∀ {l₁:List α}{l₂:List β},Paired F l₁ l₂→(∀ a b,F a b→G a b)→Paired G l₁ l₂
 | _,_,.nil,_=>.nil
 | _,_,.cons r t,f=>.cons (f _ _ r) (Paired.Q81 t f)
theorem h70.a31 (x:h70 P w H h a o) (k:∀ b u,(b=a∨H b=some (.own a))→h.get? b=some u→h'.get? b=some u)
  (ho:∀ b,H b=some (.own a)→H' b=some (.own a)) (ht:∀ b xs,H b=some (.tup xs)→H' b=some (.tup xs)):h70 P w H' h' a o:=by
 induction o with
 | lst xs=>obtain ⟨z,its,n,r,e⟩:=x;exact ⟨z,its,n,r,k _ _ (.inl rfl) e⟩
 | tup xs=>obtain ⟨z,its,r,ob,e,c⟩:=x;exact ⟨z,its,r,ob,k _ _ (.inl rfl) e,c⟩
 | dK kvs=>obtain ⟨z,y,vs,r,ob,es,ep,e,c⟩:=x;exact ⟨z,y,vs,r,ob,es,ep,k _ _ (.inl rfl) e,c⟩
 | dT kvs =>
  obtain ⟨z,y,xs,r,ob,es,ep,e,c⟩:=x
  exact ⟨z,y,xs,Paired.Q81 r fun p q z=>⟨z.1,ht _ _ z.2.1,z.2.2⟩,ob,es,ep,k _ _ (.inl rfl) e,c⟩
 | set S n=>obtain ⟨ob,es,ep,t,e,c⟩:=x;exact ⟨ob,es,ep,t,k _ _ (.inl rfl) e,c⟩
 | ins C dx fs =>
  obtain ⟨d,z,ne,e,mA,⟨od,es,ep,e2,c⟩,r⟩:=x
  exact ⟨ho _ d,z,ne,k _ _ (.inl rfl) e,mA,⟨od,es,ep,k _ _ (.inr d) e2,c⟩,r⟩
 | own y=>obtain ⟨ob,e⟩:=x;exact ⟨ob,k _ _ (.inl rfl) e⟩
 | xd fs=>obtain ⟨mA,⟨od,es,ep,e,c⟩,r⟩:=x;exact ⟨mA,⟨od,es,ep,k _ _ (.inl rfl) e,c⟩,r⟩
 | rng lo hi=>obtain ⟨t,u,v,e⟩:=x;exact ⟨t,u,v,k _ _ (.inl rfl) e⟩
 | frz ob u ih=>obtain ⟨e,q⟩:=x;exact ⟨k _ _ (.inl rfl) e,ih q⟩
 | tbl ps =>
  have e:h.get? a=some { cls:=.none,data:=.fields ps }:=x
  show h'.get? a=some { cls:=.none,data:=.fields ps }
  exact k a _ (.inl rfl) e
 | met f y =>
  have e:h.get? a=some (PySem.W.methodObj (.ref f) (.ref y)):=x
  show h'.get? a=some (PySem.W.methodObj (.ref f) (.ref y))
  exact k a _ (.inl rfl) e
 | ext φ=>obtain ⟨p,⟨o,e⟩,st⟩:=x;exact ⟨st _ _ p fun o q=>k _ _ (.inl rfl) q,⟨o,k _ _ (.inl rfl) e⟩,st⟩
theorem HOk.lt (x:HOk P w H h) (e:H a=some o):a < h.objs.size:=(x a o e).lt
theorem HOk.fresh (x:HOk P w H h) (e:h.objs.size≤a):H a=none:=by
 cases q:H a with
 | none=>rfl
 | some u=>exact absurd (Nat.lt_of_lt_of_le (x.lt q) e) (Nat.lt_irrefl _)
theorem HOk.kept (x:HOk P w H h) (k:∀ b u,h.get? b=some u→h'.get? b=some u):HOk P w H h':=fun a o e =>
 (x a o e).a31 (fun b u _ q=>k b u q) (fun _ q=>q) fun _ _ q=>q
theorem HOk.laid (x:HOk P w H h) (k:∀ b u,h.get? b=some u→h'.get? b=some u) (hp:h.objs.size≤a) (new:h70 P w (upd H a o) h' a o):HOk P w (upd H a o) h':=fun b u e=>by
 have hn:=x.fresh hp
 by_cases hb:b=a
 ·subst hb;rw [a90] at e;cases e;exact new
 ·rw [a30 hb] at e
  exact (x b u e).a31 (fun c v _ q=>k c v q) (fun c q=>by rw [a30 (a50 q hn)];exact q) fun c xs q=>by rw [a30 (a50 q hn)];exact q
end
noncomputable def Rd (H:Hp) (a:Addr) (u:HO):Prop:=H a=some u∨∃ o,H a=some (.frz o u)
theorem Rd.ok {P:Program}{w:World}{H:Hp}{h:Heap}{a:Addr}{u:HO} (r:Rd H a u) (x:HOk P w H h):h70 P w H h a u:=by
 rcases r with r | ⟨o,r⟩
 ·exact x a u r
 ·obtain ⟨_,q⟩:=x a _ r
  exact q
noncomputable def Mut:Option HO→Prop
 | some (.lst _)=>True
 | some (.dK _)=>True
 | some (.dT _)=>True
 | some (.set _ _)=>True
 | some (.ins _ _ _)=>True
 | some (.ext _)=>True
 | _=>False
section
variable {P:Program}{w:World}{H:Hp}{h h':Heap}{x e:Addr}{o':HO}
theorem HOk.write (ok:HOk P w H h) (mu:Mut (H x)) (he:e=x∨H e=some (.own x)) (k:∀ b u,b≠e→h.get? b=some u→h'.get? b=some u) (heo:∃ u,h'.get? e=some u)
  (new:h70 P w (upd H x o') h' x o'):HOk P w (upd H x o') h':=fun b u q=>by
 have nown:∀ c y,H c=some (.own y)→c≠x:=fun c y r z=>by subst z;rw [r] at mu;exact mu
 have ntup:∀ c xs,H c=some (.tup xs)→c≠x:=fun c xs r z=>by subst z;rw [r] at mu;exact mu
 by_cases hb:b=x
 ·subst hb;rw [a90] at q;cases q;exact new
 ·rw [a30 hb] at q
  by_cases hbe:b=e
  ·have q':H b=some (.own x):=by
    rcases he with z | z
    ·exact absurd (hbe.trans z) hb
    ·rw [hbe];exact z
   rw [q] at q';cases q'
   obtain ⟨v,hv⟩:=heo
   exact ⟨v,by rw [hbe];exact hv⟩
  ·refine (ok b u q).a31 (fun c v hc r=>k c v ?_ r) (fun c r=>by rw [a30 (nown c b r)];exact r) fun c xs r=>by rw [a30 (ntup c xs r)];exact r
   rcases hc with rfl | hc
   ·exact hbe
   ·rintro rfl
    rcases he with z | z
    ·exact nown c b hc z
    ·rw [hc] at z;cases z;exact hb rfl
end
structure Un (fs ex:List Addr) (H H':Hp) (h h':Heap):Prop where
 keep:∀ b o,h.get? b=some o→H b=none→b ∉ fs→b ∉ ex→h'.get? b=some o
 slot:∀ b o,h.get? b=some o→H b=none→b∈fs→b ∉ ex→∃ sl,h'.get? b=some { o with slots:=sl }
 free:∀ b o,h.get? b=some o→H b=none→b ∉ ex→H' b=none
 there:∀ b o,h.get? b=some o→b ∉ ex→∃ o',h'.get? b=some o'
 tups:∀ b xs,H b=some (.tup xs)→H' b=some (.tup xs)
 frzs:∀ b o u,H b=some (.frz o u)→H' b=some (.frz o u)
 tbls:∀ b ps,H b=some (.tbl ps)→∃ more,H' b=some (.tbl (ps++more))
section
variable {fs fs' ex ex':List Addr}{H H1 H2:Hp}{h h1 h2 h':Heap}{a x e:Addr}{o:HO}
theorem Un.any (u:Un fs ex H H1 h h1) {b:Addr}{ob:Obj} (q:h.get? b=some ob) (n:H b=none) (hx:b ∉ ex):∃ sl,h1.get? b=some { ob with slots:=sl }:=by
 by_cases hb:b∈fs
 ·exact u.slot b ob q n hb hx
 ·exact ⟨ob.slots,u.keep b ob q n hb hx⟩
theorem Un.trans (a:Un fs ex H H1 h h1) (b:Un fs ex H1 H2 h1 h2):Un fs ex H H2 h h2 where
 keep:=fun c ob q n hc hx=>b.keep c ob (a.keep c ob q n hc hx) (a.free c ob q n hx) hc hx
 slot:=fun c ob q n hc hx=>by
  obtain ⟨sl,e1⟩:=a.slot c ob q n hc hx
  obtain ⟨sl',e2⟩:=b.slot c _ e1 (a.free c ob q n hx) hc hx
  exact ⟨sl',e2⟩
 free:=fun c ob q n hx=>by
  obtain ⟨o',e1⟩:=a.there c ob q hx
  exact b.free c o' e1 (a.free c ob q n hx) hx
 there:=fun c ob q hx=>by
  obtain ⟨o',e1⟩:=a.there c ob q hx
  exact b.there c o' e1 hx
 tups:=fun c xs q=>b.tups c xs (a.tups c xs q)
 frzs:=fun c ob xs q=>b.frzs c ob xs (a.frzs c ob xs q)
 tbls:=fun c ps q=>by
  obtain ⟨m1,e1⟩:=a.tbls c ps q
  obtain ⟨m2,e2⟩:=b.tbls c _ e1
  exact ⟨m1++m2,by rw [e2,Array.append_assoc]⟩
theorem Un.kept (k:∀ b u,h.get? b=some u→h'.get? b=some u):Un fs ex H H h h' :=
 ⟨fun b ob q _ _ _=>k b ob q,fun b ob q _ _ _=>⟨ob.slots,k b ob q⟩,fun _ _ _ n _=>n,fun b ob q _=>⟨ob,k b ob q⟩,fun _ _ q=>q,fun _ _ _ q=>q,fun _ ps q=>⟨#[],by rw [q];simp⟩⟩
theorem Un.refl:Un fs ex H H h h:=Un.kept fun _ _ q=>q
theorem Un.laid (k:∀ b u,h.get? b=some u→h'.get? b=some u) (hp:h.objs.size≤a) (hn:H a=none):Un fs ex H (upd H a o) h h' where
 keep:=fun b u q _ _ _=>k b u q
 slot:=fun b u q _ _ _=>⟨u.slots,k b u q⟩
 free:=fun b u q n _=>by rw [a30 (Nat.ne_of_lt (Nat.lt_of_lt_of_le (Heap.lt_size q) hp))];exact n
 there:=fun b u q _=>⟨u,k b u q⟩
 tups:=fun b xs q=>by rw [a30 (a50 q hn)];exact q
 frzs:=fun b u xs q=>by rw [a30 (a50 q hn)];exact q
 tbls:=fun b ps q=>⟨#[],by rw [a30 (a50 q hn),q];simp⟩
theorem Un.write (mu:Mut (H x)) (he:e=x∨H e=some (.own x)) (k:∀ b u,b≠e→h.get? b=some u→h'.get? b=some u) (heo:∃ u,h'.get? e=some u):Un fs ex H (upd H x o) h h':=by
 have hx:∀ b,H b=none→b≠x:=fun b n z=>by subst z;rw [n] at mu;exact mu
 have hb:∀ b,H b=none→b≠e:=fun b n z=>by
  subst z
  rcases he with r | r
  ·exact hx b n r
  ·rw [n] at r;cases r
 have hm:∀ b u,H b=some u→¬ Mut (some u)→b≠x:=fun b u q nm z=>by subst z;rw [q] at mu;exact nm mu
 refine ⟨fun b u q n _ _=>k b u (hb b n) q,fun b u q n _ _=>⟨u.slots,k b u (hb b n) q⟩,fun b u q n _=>by rw [a30 (hx b n)];exact n,fun b u q _=>?_,
  fun b xs q=>by rw [a30 (hm b _ q fun z=>z)];exact q,fun b u xs q=>by rw [a30 (hm b _ q fun z=>z)];exact q,fun b ps q=>⟨#[],by rw [a30 (hm b _ q fun z=>z),q];simp⟩⟩
 by_cases hbe:b=e
 ·subst hbe;exact heo
 ·exact ⟨u,k b u hbe q⟩
theorem Un.mono (u:Un fs ex H H1 h h1) (hs:∀ b∈fs,b∈fs') (hx:∀ b∈ex,b∈ex'):Un fs' ex' H H1 h h1 :=
 ⟨fun b ob q n hb he=>u.keep b ob q n (fun z=>hb (hs b z)) fun z=>he (hx b z),fun _ _ q n _ he=>u.any q n fun z=>he (hx _ z),fun b ob q n he=>u.free b ob q n fun z=>he (hx b z),fun b ob q he=>u.there b ob q fun z=>he (hx b z),u.tups,u.frzs,u.tbls⟩
end
noncomputable def trk (h:Heap) (H:Hp):List Addr:=(List.range h.objs.size).filter fun a=>(H a).isSome
noncomputable def t41 (h:Heap) (H:Hp):Heap:=PySem.W.hideAll h (trk h H)
theorem e41 (h:Heap) (H:Hp):(t41 h H).objs.size=h.objs.size:=PySem.W.hideAll_size _ _
theorem E30 {h:Heap}{H:Hp}{b:Addr}{o:Obj} (e:h.get? b=some o) (n:H b=none):(t41 h H).get? b=some o :=
 PySem.W.hideAll_get _ e fun hm=>by
  have q:(H b).isSome=true:=(List.mem_filter.mp hm).2
  rw [n] at q;simp at q
theorem F41 {h:Heap}{H:Hp}{b:Addr}{o:Obj} (e:(t41 h H).get? b=some o):h.get? b=some o∧H b=none:=by
 have e':h.get? b=some o:=PySem.W.of_hideAll (trk h H) e
 refine ⟨e',?_⟩
 cases q:H b with
 | none=>rfl
 | some x =>
  have hm:b∈trk h H:=List.mem_filter.mpr ⟨List.mem_range.mpr (Heap.lt_size e'),by simp [q]⟩
  have z:(t41 h H).get? b=none:=PySem.W.hideAll_none (trk h H) hm
  rw [z] at e;cases e
noncomputable def F51 (g h:Heap) (L:Addr):List (Addr × Obj):=(List.range h.objs.size).filterMap fun a=>if a=L∨(g.get? a).isSome=true then none else (h.get? a).map fun o=>(a,o)
noncomputable def rest (g h:Heap) (L d:Addr):List (Addr × Obj):=(F51 g h L).filter fun p=>decide (p.1≠d)
end L2
namespace L2
open PySem PySem.Spec PyProof.Rows
structure Mod (K:PySem.W.Frag) (mg:Str→Option Value) (base:Heap):Prop where
 kin:K.In base
 glob:base.Ns mainGlobals mg
 blt:∃ mb,base.Ns builtinsNs mb∧∀ x:Str,x≠"__name__"→mb x=bootBuiltins x
 nolimit:base.NoLimit
structure Cx where
 prog:Program
 w:World
 K:PySem.W.Frag
 mg:Str→Option Value
 base:Heap
 A:Around
 N:List Str
 s₀:Shared
 H₀:Hp
 env:Env
 outer:List Env
 stack:List Env
 ex:List Addr
 fn:Str→Bool
 calm:Bool
 pn:List (Addr × Obj)
 xe:Value→Shared→Prop
noncomputable def frs (l:List Env):List Addr:=l.filterMap (·.frame)
noncomputable abbrev Cx.fs (X:Cx):List Addr:=frs X.outer
noncomputable def Vis (sc:Scope) (x:Str):Prop:=sc.names.lookup x=some .local∨sc.names.lookup x=some .cell∨sc.names.lookup x=some .free
noncomputable def Loc (sc:Scope) (x:Str):Prop:=sc.names.lookup x=some .local∨sc.names.lookup x=some .cell
noncomputable def Look (env:Env) (h:Heap) (m:Str→Option Value) (x:Str) (u:Value):Prop :=
 (env.kindOf x=some .local∧m x=some u)∨((env.kindOf x=some .cell∨env.kindOf x=some .free)∧∃ c,env.cells.lookup x=some c∧h.IsCell c (some u))
structure Cx.Ok (X:Cx):Prop where
 mod:Mod X.K X.mg X.base
 kind:X.env.scope.kind=.function
 glob:X.env.globals=mainGlobals
 blt:X.env.builtins=builtinsNs
 above:X.s₀.heap.objs.size≤X.env.locals
 inj:∀ x y c,X.env.cells.lookup x=some c→X.env.cells.lookup y=some c→x=y
 has:∀ x,(X.env.kindOf x=some .cell∨X.env.kindOf x=some .free)→∃ c,X.env.cells.lookup x=some c
 cab:∀ x c,X.fn x=true→X.env.cells.lookup x=some c→X.s₀.heap.objs.size≤c
 hd:X.calm=true→X.A.handled=none
 frames:X.A.frames=some X.stack
 stk:X.stack=X.outer∨(X.stack=X.env::X.outer∧X.env.frame=some X.env.locals)
 exf:∀ b∈X.ex,b≠X.env.locals∧∀ x c,X.env.cells.lookup x=some c→c≠b
 bs:∀ b o,X.base.get? b=some o→X.s₀.heap.get? b=some o∧X.H₀ b=none
 bsz:X.base.objs.size≤X.s₀.heap.objs.size
 noex:∀ b o,X.base.get? b=some o→b ∉ X.ex
 exfs:∀ b∈X.ex,b ∉ X.fs
 a41:X.s₀.heap.FunFrames X.base X.outer
 frf:∀ b∈X.fs,X.H₀ b=none
structure Inv (X:Cx) (pins:List (Addr × Obj)) (σ:List (Option V)) (H:Hp) (s:Shared):Prop where
 ok:X.Ok
 os:s.os=X.s₀.os
 bare:AllBare s.gens
 base:Un X.fs X.ex X.H₀ H X.s₀.heap s.heap
 loc:∃ m,s.heap.Ns X.env.locals m∧∀ (i:Nat) (x:Str) (v:V),X.N[i]?=some x→σ[i]?=some (some v)→Vis X.env.scope x→∃ u,RelV v u∧Look X.env s.heap m x u
 cell:∀ x c,X.env.cells.lookup x=some c→∃ v,s.heap.IsCell c v
 free:H X.env.locals=none
 freeC:∀ x c,X.env.cells.lookup x=some c→H c=none
 pin:∀ p∈X.pn++pins,s.heap.get? p.1=some p.2∧H p.1=none∧p.1≠X.env.locals∧p.1 ∉ X.fs∧∀ v,p.2.data≠.cell v
 hok:HOk X.prog X.w H s.heap
 len:σ.length=X.N.length
section
variable {X:Cx}{pins:List (Addr × Obj)}{σ:List (Option V)}{H H':Hp}{s:Shared}{h':Heap}
theorem Cx.Ok.x62 (ok:X.Ok) {b:Addr}{o:Obj} (e:X.base.get? b=some o):b ∉ X.fs:=fun hb=>by
 have:=(ok.a41.mem hb).1
 rw [e] at this;cases this
theorem Inv.bs (I:Inv X pins σ H s):∀ b o,X.base.get? b=some o→s.heap.get? b=some o∧H b=none:=fun b o e =>
 ⟨I.base.keep b o (I.ok.bs b o e).1 (I.ok.bs b o e).2 (I.ok.x62 e) (I.ok.noex b o e),I.base.free b o (I.ok.bs b o e).1 (I.ok.bs b o e).2 (I.ok.noex b o e)⟩
theorem Inv.bk (I:Inv X pins σ H s):∀ b o,X.base.get? b=some o→s.heap.get? b=some o:=fun b o e=>(I.bs b o e).1
theorem Inv.mod (I:Inv X pins σ H s):Mod X.K X.mg X.base:=I.ok.mod
theorem Inv.kIn (I:Inv X pins σ H s):X.K.In s.heap:=I.ok.mod.kin.keeps I.bk
theorem Inv.lt (I:Inv X pins σ H s):X.env.locals < s.heap.objs.size:=let ⟨_,hn,_⟩:=I.loc;hn.lt
theorem Inv.sz (I:Inv X pins σ H s):X.s₀.heap.objs.size≤s.heap.objs.size:=Nat.le_trans I.ok.above (Nat.le_of_lt I.lt)
theorem Inv.x72 (I:Inv X pins σ H s) {a:Addr} (h:s.heap.objs.size≤a):a ∉ X.fs:=fun hb=>by
 obtain ⟨_,o,ho,_⟩:=I.ok.a41.mem hb
 exact absurd (Nat.lt_of_lt_of_le (Heap.lt_size ho) (Nat.le_trans I.sz h)) (Nat.lt_irrefl _)
theorem Inv.cne (I:Inv X pins σ H s):∀ x c,X.env.cells.lookup x=some c→c≠X.env.locals:=fun x c e z=>by
 obtain ⟨v,o,ho,hd⟩:=I.cell x c e
 obtain ⟨m,⟨o',es,ep,ho',hd',_⟩,_⟩:=I.loc
 rw [z,ho'] at ho;cases ho;rw [hd'] at hd;cases hd
theorem Inv.a41 (I:Inv X pins σ H s):s.heap.FunFrames X.base X.outer:=by
 have all:∀ (l:List Env),(∀ b∈frs l,b∈X.fs)→X.s₀.heap.FunFrames X.base l→s.heap.FunFrames X.base l:=by
  intro l
  induction l with
  | nil=>intro _ _;trivial
  | cons env r ih =>
   intro hs hl
   obtain ⟨hk,⟨L,o,hf,hn,ho,hd⟩,hr⟩:=hl
   have hL:L∈X.fs:=hs L (by unfold frs;rw [List.filterMap_cons,hf];exact List.mem_cons_self)
   obtain ⟨sl,e⟩:=I.base.slot L o ho (I.ok.frf L hL) hL fun z=>I.ok.exfs L z hL
   exact ⟨hk,⟨L,_,hf,hn,e,hd⟩,ih (fun b hb=>hs b (by unfold frs;rw [List.filterMap_cons,hf];exact List.mem_cons_of_mem _ hb)) hr⟩
 exact all X.outer (fun _ hb=>hb) I.ok.a41
theorem Inv.stack (I:Inv X pins σ H s):s.heap.FunFrames X.base X.stack:=by
 rcases I.ok.stk with e | ⟨e,hf⟩
 ·rw [e];exact I.a41
 ·rw [e]
  obtain ⟨m,hn,_⟩:=I.loc
  refine .cons (by rw [I.ok.kind];decide) hf hn ?_ I.a41
  exact Heap.get?_none_of_le (Nat.le_trans I.ok.bsz I.ok.above)
theorem Inv.e51 (I:Inv X pins σ H s):∀ b∈frs X.stack,b∈X.env.locals::X.fs:=fun b hb=>by
 rcases I.ok.stk with e | ⟨e,hf⟩
 ·rw [e] at hb;exact List.mem_cons_of_mem _ hb
 ·rw [e] at hb
  unfold frs at hb
  rw [List.filterMap_cons,hf] at hb
  exact hb
theorem Inv.t50 (I:Inv X pins σ H s):∀ b∈frs X.stack,H b=none:=fun b hb=>by
 rcases List.mem_cons.mp (I.e51 b hb) with e | hb
 ·rw [e];exact I.free
 ·obtain ⟨_,o,ho,_⟩:=I.ok.a41.mem hb
  exact I.base.free b o ho (I.ok.frf b hb) fun z=>I.ok.exfs b z hb
theorem Inv.step {g':Array GenState}{t':Nat}{d':Drawn}{ch:List Addr} (I:Inv X pins σ H s)
  (hch:∀ b∈ch,(b∈X.ex∨X.s₀.heap.objs.size≤b)∧b≠X.env.locals∧(∀ x c,X.env.cells.lookup x=some c→c≠b)∧∀ p∈X.pn++pins,p.1≠b)
  (keep:∀ b o,b≠X.env.locals→b ∉ X.fs→b ∉ ch→s.heap.get? b=some o→H b=none→h'.get? b=some o)
  (slot:∀ b o,b≠X.env.locals→b∈X.fs→b ∉ ch→s.heap.get? b=some o→H b=none→∃ sl,h'.get? b=some { o with slots:=sl }) (free:∀ b o,b ∉ ch→s.heap.get? b=some o→H b=none→H' b=none)
  (there:∀ b o,b ∉ ch→s.heap.get? b=some o→∃ o',h'.get? b=some o')
  (tups:∀ b xs,H b=some (.tup xs)→H' b=some (.tup xs)) (frzs:∀ b o u,H b=some (.frz o u)→H' b=some (.frz o u)) (tbls:∀ b ps,H b=some (.tbl ps)→∃ more,H' b=some (.tbl (ps++more)))
  (ns:∀ m,s.heap.Ns X.env.locals m→h'.Ns X.env.locals m) (hok:HOk X.prog X.w H' h') (hg:AllBare g') :
  Inv X pins σ H' { s with heap:=h',gens:=g',drawn:=d',toks:=t' }:=by
 have neL:∀ b o,X.s₀.heap.get? b=some o→b≠X.env.locals:=fun b o e=>Nat.ne_of_lt (Nat.lt_of_lt_of_le (Heap.lt_size e) I.ok.above)
 have neC:∀ b o,X.s₀.heap.get? b=some o→b ∉ X.ex→b ∉ ch:=fun b o e hx hb=>by
  rcases (hch b hb).1 with z | z
  ·exact hx z
  ·exact absurd (Nat.lt_of_lt_of_le (Heap.lt_size e) z) (Nat.lt_irrefl _)
 have cellK:∀ x c,X.env.cells.lookup x=some c→∀ v,s.heap.IsCell c v→h'.IsCell c v:=fun x c e v ⟨o,ho,hd⟩=>by
  have nch:c ∉ ch:=fun z=>(hch c z).2.2.1 x c e rfl
  by_cases hc:c∈X.fs
  ·obtain ⟨sl,q⟩:=slot c o (I.cne x c e) hc nch ho (I.freeC x c e)
   exact ⟨_,q,hd⟩
  ·exact ⟨o,keep c o (I.cne x c e) hc nch ho (I.freeC x c e),hd⟩
 refine ⟨I.ok,I.os,hg,⟨fun b o e n hb hx=>?_,fun b o e n hb hx=>?_,fun b o e n hx=>?_,fun b o e hx=>?_,fun b xs e=>tups b xs (I.base.tups b xs e),fun b o xs e=>frzs b o xs (I.base.frzs b o xs e),fun b ps e=>?_⟩,?_,fun x c e=>?_,?_,fun x c e=>?_,fun p hp=>?_,hok,I.len⟩
 ·exact keep b o (neL b o e) hb (neC b o e hx) (I.base.keep b o e n hb hx) (I.base.free b o e n hx)
 ·obtain ⟨sl,e1⟩:=I.base.slot b o e n hb hx
  obtain ⟨sl',e2⟩:=slot b _ (neL b o e) hb (neC b o e hx) e1 (I.base.free b o e n hx)
  exact ⟨sl',e2⟩
 ·obtain ⟨o',e1⟩:=I.base.there b o e hx
  exact free b o' (neC b o e hx) e1 (I.base.free b o e n hx)
 ·obtain ⟨o',e1⟩:=I.base.there b o e hx
  exact there b o' (neC b o e hx) e1
 ·obtain ⟨m1,e1⟩:=I.base.tbls b ps e
  obtain ⟨m2,e2⟩:=tbls b _ e1
  exact ⟨m1++m2,by rw [e2,Array.append_assoc]⟩
 ·obtain ⟨m,hn,hl⟩:=I.loc
  refine ⟨m,ns m hn,fun i x v e1 e2 e3=>?_⟩
  obtain ⟨u,r,l⟩:=hl i x v e1 e2 e3
  refine ⟨u,r,?_⟩
  rcases l with l | ⟨k,c,e,z⟩
  ·exact .inl l
  ·exact .inr ⟨k,c,e,cellK x c e _ z⟩
 ·obtain ⟨v,z⟩:=I.cell x c e
  exact ⟨v,cellK x c e v z⟩
 ·obtain ⟨m,⟨o,_,_,ho,_⟩,_⟩:=I.loc
  exact free _ o (fun z=>(hch _ z).2.1 rfl) ho I.free
 ·obtain ⟨v,o,ho,hd⟩:=I.cell x c e
  exact free c o (fun z=>(hch c z).2.2.1 x c e rfl) ho (I.freeC x c e)
 ·obtain ⟨e,n,ne,nf,d⟩:=I.pin p hp
  have nch:p.1 ∉ ch:=fun z=>(hch p.1 z).2.2.2 p hp rfl
  exact ⟨keep p.1 p.2 ne nf nch e n,free p.1 p.2 nch e n,ne,nf,d⟩
theorem Inv.un {t':Nat} (I:Inv X pins σ H s) (u:Un X.fs [] H H' s.heap h') (hok:HOk X.prog X.w H' h'):Inv X pins σ H' { s with heap:=h',toks:=t' }:=by
 obtain ⟨m,⟨o,es,ep,ho,r⟩,_⟩:=id I.loc
 obtain ⟨sl,hL⟩:=u.any ho I.free (by simp)
 exact I.step (g':=s.gens) (d':=s.drawn) (ch:=[]) (fun _ z=>nomatch z) (fun b o _ hb _ e n=>u.keep b o e n hb (by simp)) (fun b o _ hb _ e n=>u.slot b o e n hb (by simp)) (fun b o _ e n=>u.free b o e n (by simp)) (fun b o _ e=>u.there b o e (by simp)) u.tups u.frzs u.tbls (fun m' hm=>by
  obtain ⟨o',es',ep',ho',r'⟩:=hm
  rw [ho] at ho';cases ho'
  exact ⟨_,es',ep',hL,r'⟩) hok I.bare
theorem Inv.call {g':Array GenState}{t':Nat}{d':Drawn}{ch:List Addr} (I:Inv X pins σ H s) (u:Un (frs X.stack) ch H H' s.heap h') (hok:HOk X.prog X.w H' h') (hg:AllBare g')
  (hch:∀ b∈ch,(b∈X.ex∨X.s₀.heap.objs.size≤b)∧b≠X.env.locals∧(∀ x c,X.env.cells.lookup x=some c→c≠b)∧∀ p∈X.pn++pins,p.1≠b) :
  Inv X pins σ H' { s with heap:=h',gens:=g',drawn:=d',toks:=t' }:=by
 obtain ⟨m,⟨o,es,ep,ho,r⟩,_⟩:=id I.loc
 obtain ⟨sl,hL⟩:=u.any ho I.free fun z=>(hch _ z).2.1 rfl
 exact I.step (ch:=ch) hch (fun b o hL hb hc e n=>u.keep b o e n (fun z=>(List.mem_cons.mp (I.e51 b z)).elim hL hb) hc) (fun b o _ _ hc e n=>u.any e n hc) (fun b o hc e n=>u.free b o e n hc) (fun b o hc e=>u.there b o e hc) u.tups u.frzs u.tbls (fun m' hm=>by
  obtain ⟨o',es',ep',ho',r'⟩:=hm
  rw [ho] at ho';cases ho'
  exact ⟨_,es',ep',hL,r'⟩) hok hg
theorem Inv.turned {t':Nat}{it:Addr} (I:Inv X pins σ H s) (k:∀ b o,b≠it→s.heap.get? b=some o→h'.get? b=some o) (hn:H it=none) (hL:it≠X.env.locals)
  (h1:it∈X.ex∨X.s₀.heap.objs.size≤it) (h2:∀ x c,X.env.cells.lookup x=some c→c≠it) (h3:∀ p∈X.pn++pins,p.1≠it):Inv X pins σ H { s with heap:=h',toks:=t' }:=by
 have nit:∀ b u,H b=some u→b≠it:=fun b u e z=>by rw [z,hn] at e;cases e
 refine I.step (g':=s.gens) (d':=s.drawn) (ch:=[it]) (fun b hb=>?_) (fun b o _ _ hc e _=>k b o (fun z=>hc (by simp [z])) e) (fun b o _ _ hc e _=>⟨o.slots,k b o (fun z=>hc (by simp [z])) e⟩) (fun _ _ _ _ n=>n)
  (fun b o hc e=>⟨o,k b o (fun z=>hc (by simp [z])) e⟩) (fun _ _ e=>e) (fun _ _ _ e=>e) (fun b ps e=>⟨#[],by rw [e];simp⟩) (fun m hm=>?_) (fun b u e=>?_) I.bare
 ·have e:b=it:=by simpa using hb
  subst e
  exact ⟨h1,hL,h2,h3⟩
 ·obtain ⟨o,es,ep,ho,r⟩:=hm
  exact ⟨o,es,ep,k _ o (Ne.symm hL) ho,r⟩
 ·refine (I.hok b u e).a31 (fun c v hc q=>k c v ?_ q) (fun _ q=>q) fun _ _ q=>q
  rcases hc with z | z
  ·rw [z];exact nit b u e
  ·exact nit c _ z
theorem Inv.tok (I:Inv X pins σ H s) (t:Nat):Inv X pins σ H { s with toks:=t }:=I.un (h':=s.heap) (t':=t) Un.refl I.hok
theorem Inv.kept {t':Nat} (I:Inv X pins σ H s) (k:∀ b u,s.heap.get? b=some u→h'.get? b=some u):Inv X pins σ H { s with heap:=h',toks:=t' }:=I.un (Un.kept k) (I.hok.kept k)
theorem Inv.laid {a:Addr}{o:HO}{t':Nat} (I:Inv X pins σ H s) (k:∀ b u,s.heap.get? b=some u→h'.get? b=some u) (hp:s.heap.objs.size≤a) (new:h70 X.prog X.w (upd H a o) h' a o) :
  Inv X pins σ (upd H a o) { s with heap:=h',toks:=t' }:=I.un (Un.laid k hp (I.hok.fresh hp)) (I.hok.laid k hp new)
theorem Inv.write {x e:Addr}{o:HO}{t':Nat} (I:Inv X pins σ H s) (mu:Mut (H x)) (he:e=x∨H e=some (.own x)) (k:∀ b u,b≠e→s.heap.get? b=some u→h'.get? b=some u) (heo:∃ u,h'.get? e=some u)
  (new:h70 X.prog X.w (upd H x o) h' x o):Inv X pins σ (upd H x o) { s with heap:=h',toks:=t' }:=I.un (Un.write mu he k heo) (I.hok.write mu he k heo new)
theorem Inv.y30 {pins':List (Addr × Obj)} (I:Inv X pins σ H s) (h:∀ p∈pins',s.heap.get? p.1=some p.2∧H p.1=none∧p.1≠X.env.locals∧p.1 ∉ X.fs∧∀ v,p.2.data≠.cell v):Inv X pins' σ H s :=
 ⟨I.ok,I.os,I.bare,I.base,I.loc,I.cell,I.free,I.freeC,fun p hp=>(List.mem_append.mp hp).elim (fun z=>I.pin p (List.mem_append_left _ z)) (h p),I.hok,I.len⟩
theorem V70 {N:List Str} (hN:N.Nodup) {i j:Nat}{x:Str} (a:N[i]?=some x) (b:N[j]?=some x):i=j:=by
 obtain ⟨h1,e1⟩:=List.getElem?_eq_some_iff.mp a
 obtain ⟨h2,e2⟩:=List.getElem?_eq_some_iff.mp b
 exact (List.getElem_inj hN).mp (e1.trans e2.symm)
theorem y40 {M:Model}{A:Around}{E:Value→Shared→Prop}{i:Nat}{x:Str}{v:V}{u:Value}{Q:Unit→Shared→Prop} (I:Inv X pins σ H s) (hN:X.N.Nodup) (hi:X.N[i]?=some x) (hx:Loc X.env.scope x) (r:RelV v u)
  (h:∀ s',Inv X pins (σ.set i (some v)) H s'→(∃ a,Heap.SameBut a s.heap s'.heap∧(a=X.env.locals∨X.env.cells.lookup x=some a))→Q () s') (hf:X.fn x=true∨X.env.scope.names.lookup x=some .local:=by first | exact .inl rfl | exact .inr rfl | assumption):wpAny M A (storeName X.env x u) Q E s:=by
 obtain ⟨m,hn,hl⟩:=id I.loc
 have hcls:(X.env.scope.kind == .class || (X.env.scope.kind == .module&&X.env.locals != X.env.globals))=false:=by rw [I.ok.kind];rfl
 have hiσ:i < σ.length:=by rw [I.len];exact (List.getElem?_eq_some_iff.mp hi).1
 have cne:=I.cne
 have tracked:∀ {a:Addr}{h':Heap},(∃ o,s.heap.get? a=some o∧H a=none)→Heap.SameBut a s.heap h'→HOk X.prog X.w H h':=fun {a h'} ha hs b ob e=>by
  obtain ⟨_,_,hfree⟩:=ha
  refine (I.hok b ob e).a31 (fun c w' hc q=>(hs.2 c ?_).trans q) (fun _ q=>q) fun _ _ q=>q
  rintro rfl
  rcases hc with rfl | hc
  ·rw [hfree] at e;cases e
  ·rw [hfree] at hc;cases hc
 rcases hx with hk | hk
 ·refine wpAny_storeName_local hk hn (fun h' hn' hs=>?_) hcls
  obtain ⟨oL,_,_,hoL,_⟩:=id hn
  refine h _ ⟨I.ok,I.os,I.bare,⟨fun b o e n hb hx=>?_,fun b o e n hb hx=>?_,I.base.free,fun b o e hx=>?_,I.base.tups,I.base.frzs,I.base.tbls⟩,⟨_,hn',fun j y v' e1 e2 e3=>?_⟩,fun y c e=>?_,I.free,I.freeC,fun p hp=>?_,tracked ⟨oL,hoL,I.free⟩ hs,by simpa using I.len⟩ ⟨_,hs,.inl rfl⟩
  ·exact (hs.2 b (Nat.ne_of_lt (Nat.lt_of_lt_of_le (Heap.lt_size e) I.ok.above))).trans (I.base.keep b o e n hb hx)
  ·obtain ⟨sl,e1⟩:=I.base.slot b o e n hb hx
   exact ⟨sl,(hs.2 b (Nat.ne_of_lt (Nat.lt_of_lt_of_le (Heap.lt_size e) I.ok.above))).trans e1⟩
  ·obtain ⟨o',e1⟩:=I.base.there b o e hx
   exact ⟨o',(hs.2 b (Nat.ne_of_lt (Nat.lt_of_lt_of_le (Heap.lt_size e) I.ok.above))).trans e1⟩
  ·by_cases hj:j=i
   ·subst hj
    rw [hi] at e1;cases e1
    rw [List.getElem?_set_self hiσ] at e2
    cases e2
    exact ⟨u,r,.inl ⟨hk,by simp⟩⟩
   ·rw [List.getElem?_set_ne (Ne.symm hj)] at e2
    obtain ⟨u',r',q⟩:=hl j y v' e1 e2 e3
    refine ⟨u',r',?_⟩
    rcases q with ⟨k,e⟩ | ⟨k,c,e,z⟩
    ·refine .inl ⟨k,?_⟩
     have:y≠x:=fun e=>hj (V70 hN e1 (e ▸ hi))
     simp [this,e]
    ·exact .inr ⟨k,c,e,z.sameBut hs (cne y c e)⟩
  ·obtain ⟨w',z⟩:=I.cell y c e
   exact ⟨w',z.sameBut hs (cne y c e)⟩
  ·obtain ⟨e,n,ne,nf,d⟩:=I.pin p hp
   exact ⟨(hs.2 p.1 ne).trans e,n,ne,nf,d⟩
 ·have hfn:X.fn x=true:=by
   rcases hf with z | z
   ·exact z
   ·rw [z] at hk;cases hk
  obtain ⟨c,hc⟩:=I.ok.has x (.inl hk)
  obtain ⟨w',z⟩:=I.cell x c hc
  refine wpAny_storeName_cell I.ok.kind hk hc z (fun h' hc' hs=>?_)
  obtain ⟨oc,hoc,hocd⟩:=id z
  refine h { s with heap:=h' } ⟨I.ok,I.os,I.bare,⟨fun b o e n hb hx=>?_,fun b o e n hb hx=>?_,I.base.free,fun b o e hx=>?_,I.base.tups,I.base.frzs,I.base.tbls⟩,⟨m,hn.sameBut hs (Ne.symm (cne x c hc)),fun j y v' e1 e2 e3=>?_⟩,fun y c' e=>?_,I.free,I.freeC,fun p hp=>?_,tracked ⟨oc,hoc,I.freeC x c hc⟩ hs,by simpa using I.len⟩ ⟨c,hs,.inr hc⟩
  ·exact (hs.2 b (Nat.ne_of_lt (Nat.lt_of_lt_of_le (Heap.lt_size e) (I.ok.cab x c hfn hc)))).trans (I.base.keep b o e n hb hx)
  ·obtain ⟨sl,e1⟩:=I.base.slot b o e n hb hx
   exact ⟨sl,(hs.2 b (Nat.ne_of_lt (Nat.lt_of_lt_of_le (Heap.lt_size e) (I.ok.cab x c hfn hc)))).trans e1⟩
  ·obtain ⟨o',e1⟩:=I.base.there b o e hx
   exact ⟨o',(hs.2 b (Nat.ne_of_lt (Nat.lt_of_lt_of_le (Heap.lt_size e) (I.ok.cab x c hfn hc)))).trans e1⟩
  ·by_cases hj:j=i
   ·subst hj
    rw [hi] at e1;cases e1
    rw [List.getElem?_set_self hiσ] at e2
    cases e2
    exact ⟨u,r,.inr ⟨.inl hk,c,hc,hc'⟩⟩
   ·rw [List.getElem?_set_ne (Ne.symm hj)] at e2
    obtain ⟨u',r',q⟩:=hl j y v' e1 e2 e3
    refine ⟨u',r',?_⟩
    rcases q with q | ⟨k,c',e,z'⟩
    ·exact .inl q
    ·refine .inr ⟨k,c',e,z'.sameBut hs ?_⟩
     rintro rfl
     exact hj (V70 hN e1 (I.ok.inj _ _ _ e hc ▸ hi))
  ·by_cases hcc:c'=c
   ·subst hcc;exact ⟨_,hc'⟩
   ·obtain ⟨w2,z2⟩:=I.cell y c' e
    exact ⟨w2,z2.sameBut hs hcc⟩
  ·obtain ⟨e,n,ne,nf,d⟩:=I.pin p hp
   refine ⟨(hs.2 p.1 ?_).trans e,n,ne,nf,d⟩
   intro q
   rw [q,hoc] at e
   have q':oc=p.2:=Option.some.inj e
   exact d w' (by rw [← q'];exact hocd)
theorem x20 {M:Model}{A:Around}{E:Value→Shared→Prop}{i:Nat}{x:Str}{v:V}{u:Value}{Q:Unit→Shared→Prop} (I:Inv X pins σ H s) (hN:X.N.Nodup) (hi:X.N[i]?=some x) (hx:Loc X.env.scope x) (r:RelV v u)
  (h:∀ s',Inv X pins (σ.set i (some v)) H s'→Q () s') (hf:X.fn x=true∨X.env.scope.names.lookup x=some .local:=by first | exact .inl rfl | exact .inr rfl | assumption):wpAny M A (storeName X.env x u) Q E s :=
 y40 I hN hi hx r (fun s' I' _=>h s' I') hf
theorem Inv.S31 {s':Shared}{ch:List Addr} (I:Inv X pins σ H s) (ho:s'.os=s.os) (u:Un (frs X.stack) ch H H' s.heap s'.heap) (hok:HOk X.prog X.w H' s'.heap) (hg:AllBare s'.gens)
  (hch:∀ b∈ch,(b∈X.ex∨X.s₀.heap.objs.size≤b)∧b≠X.env.locals∧(∀ x c,X.env.cells.lookup x=some c→c≠b)∧∀ p∈X.pn++pins,p.1≠b):Inv X pins σ H' s':=by
 obtain ⟨h',g',d',t',o'⟩:=s'
 have e:o'=s.os:=ho
 subst e
 exact I.call (g':=g') (t':=t') (d':=d') u hok hg hch
end
noncomputable abbrev XK:=Value→Option Addr→Hp→Prop
noncomputable abbrev St:=List (Option V)
noncomputable abbrev VK:=V→Hp→Prop
noncomputable abbrev TE:=St→Hp→VK→Prop
noncomputable abbrev TT:=St→Hp→(Bool→Hp→Prop)→Prop
noncomputable abbrev TA:=St→Hp→(List V→Hp→Prop)→Prop
structure Ends where
 nx:St→Hp→Prop
 rt:VK
 bk:St→Hp→Prop:=fun _ _=>False
 ct:St→Hp→Prop:=fun _ _=>False
noncomputable abbrev TS:=Ends→St→Hp→Prop
noncomputable def EP (X:Cx) (pins:List (Addr × Obj)) (σ:St) (Q:VK) (u:Value) (s':Shared):Prop:=∃ v H',Inv X pins σ H' s'∧RelV v u∧Q v H'
noncomputable def TP (X:Cx) (pins:List (Addr × Obj)) (σ:St) (Q:Bool→Hp→Prop) (b:Bool) (s':Shared):Prop:=∃ H',Inv X pins σ H' s'∧Q b H'
noncomputable def AP (X:Cx) (pins:List (Addr × Obj)) (σ:St) (Q:List V→Hp→Prop) (us:List Value) (s':Shared):Prop:=∃ vs H',Inv X pins σ H' s'∧Vals vs us∧Q vs H'
noncomputable def SP (X:Cx) (pins:List (Addr × Obj)) (D:Ends) (f:Flow) (s':Shared):Prop :=
 match f with
 | .next=>∃ σ' H',Inv X pins σ' H' s'∧D.nx σ' H'
 | .brk=>∃ σ' H',Inv X pins σ' H' s'∧D.bk σ' H'
 | .cont=>∃ σ' H',Inv X pins σ' H' s'∧D.ct σ' H'
 | .ret u=>∃ v σ' H',Inv X pins σ' H' s'∧RelV v u∧D.rt v H'
noncomputable def PE (X:Cx) (e:Expr) (t:TE):Prop :=
 ∀ (pins:List (Addr × Obj)) (s:Shared) (σ:St) (H:Hp) (Q:VK),Inv X pins σ H s→t σ H Q→wpAny (model X.prog X.w) X.A (eval e X.env) (EP X pins σ Q) X.xe s
noncomputable def PT (X:Cx) (e:Expr) (t:TT):Prop :=
 ∀ (pins:List (Addr × Obj)) (s:Shared) (σ:St) (H:Hp) (Q:Bool→Hp→Prop),Inv X pins σ H s→t σ H Q→wpAny (model X.prog X.w) X.A (isTrue e X.env (eval e X.env)) (TP X pins σ Q) X.xe s
noncomputable def PW (X:Cx) (e:Expr) (t:TT):Prop :=
 ∀ (whole:Sem Value) (pins:List (Addr × Obj)) (s:Shared) (σ:St) (H:Hp) (Q:Bool→Hp→Prop),Inv X pins σ H s→t σ H Q→wpAny (model X.prog X.w) X.A (isTrue e X.env whole) (TP X pins σ Q) X.xe s
theorem PW.pt {X:Cx}{e:Expr}{t:TT} (h:PW X e t):PT X e t:=h _
noncomputable def PA (X:Cx) (es:List Expr) (t:TA):Prop :=
 ∀ (pos:Pos) (pins:List (Addr × Obj)) (s:Shared) (σ:St) (H:Hp) (Q:List V→Hp→Prop),Inv X pins σ H s→t σ H Q→wpAny (model X.prog X.w) X.A (spliced (backTo pos (starEach es X.env))) (AP X pins σ Q) X.xe s
noncomputable def PS (X:Cx) (st:Stmt) (t:TS):Prop :=
 ∀ (pins:List (Addr × Obj)) (s:Shared) (σ:St) (H:Hp) (D:Ends),Inv X pins σ H s→t D σ H→wpAny (model X.prog X.w) X.A (exec st X.env) (SP X pins D) X.xe s
noncomputable def PSs (X:Cx) (st:List Stmt) (t:TS):Prop :=
 ∀ (pins:List (Addr × Obj)) (s:Shared) (σ:St) (H:Hp) (D:Ends),Inv X pins σ H s→t D σ H→wpAny (model X.prog X.w) X.A (execs st X.env) (SP X pins D) X.xe s
theorem thn {α:Type}{t:Sem α}{Q Q':α→Shared→Prop}{M:Model}{A:Around}{E:Value→Shared→Prop}{s:Shared} (h:wpAny M A t Q E s) (hQ:∀ a s,Q a s→Q' a s):wpAny M A t Q' E s:=wpAny_mono h hQ fun _ _ x=>x
end L2
namespace L2
open PySem PySem.Spec PyProof.Rows
section
variable {X:Cx}
theorem bin {a b:Expr}{ta tb:TE} (ha:PE X a ta) (hb:PE X b tb) {pins:List (Addr × Obj)}{s:Shared}{σ:St}{H:Hp}{R:V→V→Hp→Prop} (I:Inv X pins σ H s) (h:ta σ H fun x H1=>tb σ H1 fun y H2=>R x y H2)
  {α:Type}{Q:α→Shared→Prop}{f:Value→Value→Sem α}
  (hf:∀ v u s2 x y H2,Inv X pins σ H2 s2→RelV x v→RelV y u→R x y H2→wpAny (model X.prog X.w) X.A (f v u) Q X.xe s2) :
  wpAny (model X.prog X.w) X.A (eval a X.env) (fun v s₁=>wpAny (model X.prog X.w) X.A (eval b X.env) (fun u s₂=>wpAny (model X.prog X.w) X.A (f v u) Q X.xe s₂) X.xe s₁) X.xe s:=by
 refine thn (ha pins s σ H _ I h) fun v s1 ⟨x,H1,I1,r1,q1⟩=>?_
 refine thn (hb pins s1 σ H1 _ I1 q1) fun u s2 ⟨y,H2,I2,r2,q2⟩=>?_
 exact hf v u s2 x y H2 I2 r1 r2 q2
noncomputable def S41 (i:Nat):TE:=fun σ H Q=>∃ v,σ[i]?=some (some v)∧Q v H
noncomputable def tC (v:V):TE:=fun _ H Q=>Q v H
theorem p50 {i:Nat}{x:Str}{pos:Pos} (hN:X.N[i]?=some x) (hv:Vis X.env.scope x) (hd:(x == ("__debug__":Str))=false:=by decide) (hcd:(x == ("__classdict__":Str))=false:=by decide):PE X (.Name x pos) (S41 i):=by
 intro pins s σ H Q I h
 obtain ⟨v,e,h⟩:=h
 obtain ⟨m,hn,hl⟩:=I.loc
 obtain ⟨u,r,l⟩:=hl i x v hN e hv
 have fin:EP X pins σ Q u s:=⟨v,H,I,r,h⟩
 rcases l with ⟨hk,hm⟩ | ⟨hk,c,hc,hcell⟩
 ·exact wpAny_Name (wpAny_loadName_local I.ok.kind hk hn hm fin) hd
 ·rcases hk with hk | hk
  ·exact wpAny_Name (wpAny_loadName_cell I.ok.kind hk hc hcell fin) hd
  ·exact wpAny_Name (wpAny_loadName_free I.ok.kind hk hc hcell fin hcd) hd
theorem V80 {i j pos}:PE X (.Constant (.int i) j pos) (tC (.int i)):=fun _ _ _ H _ I h=>wpAny_Constant_int ⟨.int i,H,I.tok _,⟨_,rfl⟩,h⟩
theorem i32 {b j pos}:PE X (.Constant (.bool b) j pos) (tC (.bl b)):=fun _ _ _ H _ I h=>Constant_bool ⟨.bl b,H,I,rfl,h⟩
theorem e61 {j pos}:PE X (.Constant .none j pos) (tC .non):=fun _ _ _ H _ I h=>Constant_none ⟨.non,H,I,rfl,h⟩
theorem B61 {x j pos}:PE X (.Constant (.str x) j pos) (tC (.str x)):=fun _ _ _ H _ I h=>Calls.Constant_str ⟨.str x,H,I.tok _,⟨_,rfl⟩,h⟩
noncomputable def Gl (X:Cx) (x:Str):Prop:=X.env.kindOf x=some .globalImplicit
theorem E40 {E:Value→Shared→Prop}{pins:List (Addr × Obj)}{s:Shared}{σ:St}{H:Hp}{x:Str}{u:Value}{pos:Pos}{Q:Value→Shared→Prop} (I:Inv X pins σ H s) (hg:Gl X x) (hm:X.mg x=some u) (h:Q u s)
  (hd:(x == ("__debug__":Str))=false:=by decide):wpAny (model X.prog X.w) X.A (eval (.Name x pos) X.env) Q E s :=
 Calls.Name_function_global I.ok.kind hg (Calls.loadGlobal_global (by rw [I.ok.glob];exact I.mod.glob.keeps I.bk) hm h) hd
theorem r10 {E:Value→Shared→Prop}{pins:List (Addr × Obj)}{s:Shared}{σ:St}{H:Hp}{x:Str}{u:Value}{pos:Pos}{Q:Value→Shared→Prop} (I:Inv X pins σ H s) (hg:Gl X x) (hm:X.mg x=none) (hv:bootBuiltins x=some u) (h:Q u s)
  (hn:x≠"__name__":=by decide) (hd:(x == ("__debug__":Str))=false:=by decide):wpAny (model X.prog X.w) X.A (eval (.Name x pos) X.env) Q E s:=by
 obtain ⟨mb,h1,h2⟩:=I.mod.blt
 exact Calls.Name_function_global I.ok.kind hg (Calls.loadGlobal_builtin (by rw [I.ok.glob];exact I.mod.glob.keeps I.bk) hm (by rw [I.ok.blt];exact h1.keeps I.bk) ((h2 x hn).trans hv) h) hd
theorem f60 {x:Str}{v:V}{u:Value}{pos:Pos} (hg:Gl X x) (hm:X.mg x=some u) (r:RelV v u) (hd:(x == ("__debug__":Str))=false:=by decide):PE X (.Name x pos) (tC v) :=
 fun _ _ _ H _ I h=>E40 I hg hm ⟨v,H,I,r,h⟩ hd
theorem E50 {x:Str}{v:V}{u:Value}{pos:Pos} (hg:Gl X x) (hm:X.mg x=none) (hv:bootBuiltins x=some u) (r:RelV v u) (hn:x≠"__name__":=by decide) (hd:(x == ("__debug__":Str))=false:=by decide):PE X (.Name x pos) (tC v) :=
 fun _ _ _ H _ I h=>r10 I hg hm hv ⟨v,H,I,r,h⟩ hn hd
variable {a b:Expr}{ta tb:TE}{pos:Pos}
noncomputable def PC (X:Cx) (op:CmpOp) (a b:Expr) (t:TE):Prop :=
 ∀ (pins:List (Addr × Obj)) (s:Shared) (σ:St) (H:Hp) (Q:VK),Inv X pins σ H s→t σ H Q →
  wpAny (model X.prog X.w) X.A (eval a X.env) (fun v s₁=>wpAny (model X.prog X.w) X.A (eval b X.env) (fun u s₂=>wpAny (model X.prog X.w) X.A (compareOp op v u) (EP X pins σ Q) X.xe s₂) X.xe s₁) X.xe s
noncomputable def tB (t:TE):TT:=fun σ H Q=>t σ H fun x H1=>∃ c,x=.bl c∧Q c H1
theorem v42 {op:CmpOp}{t:TE} (h:PC X op a b t) (h1:behindInMarks op b=false:=by first | exact nobehind _ (by decide) (by decide) | rfl):PT X (.Compare a [op] [b] pos) (tB t):=by
 intro pins s σ H Q I hw
 refine wpAny_isTrue_Compare1 (thn (h pins s σ H _ I hw) fun v s1 h1=>thn h1 fun u s2 h2=>thn h2 fun c s3 ⟨x,H1,I1,r1,q1⟩=>?_) h1
 obtain ⟨d,rfl,q⟩:=q1
 cases r1
 exact wpAny_truthy_bool ⟨H1,I1,q⟩
theorem e71 {e:Expr}{t:TE} (h:PE X e t) (he:∀ whole,isTrue e X.env whole=(do let v ← whole;standAt e.pos;holding [v] (truthy v)):=by intro _;rfl):PT X e (tB t):=by
 intro pins s σ H Q I hw
 refine isTrue_plain (thn (h pins s σ H _ I hw) fun v s1 ⟨x,H1,I1,r1,q1⟩=>?_) (he _)
 obtain ⟨d,rfl,q⟩:=q1
 cases r1
 exact wpAny_truthy_bool ⟨H1,I1,q⟩
variable {tA tB':TT}{rest:List Expr}
noncomputable def x82 (t u:TT):TT:=fun σ H Q=>t σ H fun c H1=>if c=true then u σ H1 Q else Q false H1
noncomputable def tOr (t u:TT):TT:=fun σ H Q=>t σ H fun c H1=>if c=true then Q true H1 else u σ H1 Q
noncomputable def x92 (t:TT):TT:=fun σ H Q=>t σ H fun c H1=>Q (!c) H1
theorem F61 (ha:PT X a tA):PW X (.BoolOp .And [a] pos) tA:=by
 intro wh pins s σ H Q I h
 refine isTrue_and (thn (ha pins s σ H Q I h) fun c s1 e=>?_)
 cases c with
 | true=>exact isTrue_and_nil e
 | false=>exact e
theorem S51 (ha:PT X a tA):PW X (.BoolOp .Or [a] pos) tA:=by
 intro wh pins s σ H Q I h
 refine isTrue_or (thn (ha pins s σ H Q I h) fun c s1 e=>?_)
 cases c with
 | false=>exact isTrue_or_nil e
 | true=>exact e
theorem S61 (ha:PT X a tA) (hb:PW X (.BoolOp .And (b::rest) pos) tB'):PW X (.BoolOp .And (a::b::rest) pos) (x82 tA tB'):=by
 intro wh pins s σ H Q I h
 refine isTrue_and (thn (ha pins s σ H _ I h) fun c s1 ⟨H1,I1,q1⟩=>?_)
 cases c with
 | true=>exact hb wh pins s1 σ H1 Q I1 q1
 | false=>exact ⟨H1,I1,q1⟩
theorem i42 (ha:PT X a tA) (hb:PW X (.BoolOp .Or (b::rest) pos) tB'):PW X (.BoolOp .Or (a::b::rest) pos) (tOr tA tB'):=by
 intro wh pins s σ H Q I h
 refine isTrue_or (thn (ha pins s σ H _ I h) fun c s1 ⟨H1,I1,q1⟩=>?_)
 cases c with
 | true=>exact ⟨H1,I1,q1⟩
 | false=>exact hb wh pins s1 σ H1 Q I1 q1
theorem B71 (ha:PT X a tA):PT X (.UnaryOp .Not a pos) (x92 tA):=by
 intro pins s σ H Q I h
 exact isTrue_not (ha pins s σ H (fun c H1=>Q (!c) H1) I h)
noncomputable def i52 (ta tb:TE):TE:=fun σ H Q=>ta σ H fun x H1=>∃ c,x=.bl c∧if c=true then tb σ H1 Q else Q (.bl false) H1
noncomputable def y02 (ta tb:TE):TE:=fun σ H Q=>ta σ H fun x H1=>∃ c,x=.bl c∧if c=true then Q (.bl true) H1 else tb σ H1 Q
noncomputable def i62 (ta:TE):TE:=fun σ H Q=>ta σ H fun x H1=>∃ c,x=.bl c∧Q (.bl (!c)) H1
theorem S71 {op}{t:TE} (h:PE X a t):PE X (.BoolOp op [a] pos) t:=fun pins s σ H Q I hw=>BoolOp_one (h pins s σ H Q I hw)
theorem S81 (ha:PE X a ta) (hb:PE X (.BoolOp .And (b::rest) pos) tb):PE X (.BoolOp .And (a::b::rest) pos) (i52 ta tb):=by
 intro pins s σ H Q I h
 refine BoolOp_and (thn (ha pins s σ H _ I h) fun v s1 ⟨x,H1,I1,r1,q1⟩=>?_)
 obtain ⟨c,rfl,q1⟩:=q1
 cases r1
 refine wpAny_truthy_bool ?_
 cases c with
 | true=>exact hb pins s1 σ H1 Q I1 q1
 | false=>exact ⟨.bl false,H1,I1,rfl,q1⟩
theorem i72 (ha:PE X a ta) (hb:PE X (.BoolOp .Or (b::rest) pos) tb):PE X (.BoolOp .Or (a::b::rest) pos) (y02 ta tb):=by
 intro pins s σ H Q I h
 refine BoolOp_or (thn (ha pins s σ H _ I h) fun v s1 ⟨x,H1,I1,r1,q1⟩=>?_)
 obtain ⟨c,rfl,q1⟩:=q1
 cases r1
 refine wpAny_truthy_bool ?_
 cases c with
 | false=>exact hb pins s1 σ H1 Q I1 q1
 | true=>exact ⟨.bl true,H1,I1,rfl,q1⟩
theorem S91 (ha:PE X a ta):PE X (.UnaryOp .Not a pos) (i62 ta):=by
 intro pins s σ H Q I h
 refine UnaryOp_ (thn (ha pins s σ H _ I h) fun v s1 ⟨x,H1,I1,r1,q1⟩=>?_)
 obtain ⟨c,rfl,q1⟩:=q1
 cases r1
 exact not_of (wpAny_truthy_bool ⟨.bl (!c),H1,I1,rfl,q1⟩)
noncomputable def tIf (t:TT) (ta tb:TE):TE:=fun σ H Q=>t σ H fun c H1=>if c=true then ta σ H1 Q else tb σ H1 Q
theorem t51 {c:Expr} (hc:PT X c tA) (ha:PE X a ta) (hb:PE X b tb):PE X (.IfExp c a b pos) (tIf tA ta tb):=by
 intro pins s σ H Q I h
 refine wpAny_IfExp (thn (hc pins s σ H _ I h) fun d s1 ⟨H1,I1,q1⟩=>?_)
 cases d with
 | true=>exact ha pins s1 σ H1 Q I1 q1
 | false=>exact hb pins s1 σ H1 Q I1 q1
end
end L2
namespace L2
open PySem PySem.Spec PyProof.Rows
noncomputable def SqL (K:PySem.W.Frag) (H:Hp) (a:Addr) (xs:List V):Prop :=
 Rd H a (.lst xs) ∨
  ∃ (o:Obj) (its:Array Value) (n:Nat),K.lookup a=some o∧o.cls=.type "list"∧o.dict=none∧o.data=.seq its n∧its.size≤sizeLine∧Vals xs its.toList
noncomputable def SqT (K:PySem.W.Frag) (H:Hp) (a:Addr) (xs:List V):Prop :=
 Rd H a (.tup xs) ∨
  ∃ (o:Obj) (its:Array Value) (n:Nat),K.lookup a=some o∧o.cls=.type "tuple"∧o.data=.seq its n∧its.size≤sizeLine∧Vals xs its.toList
noncomputable def y12:Value→Option V
 | .none=>some .non
 | .bool b=>some (.bl b)
 | .int i _=>some (.int i)
 | .str x _=>some (.str x)
 | .bytes b _=>some (.byt b)
 | .float b _=>some (.flt b)
 | .ref a=>some (.ref a)
 | .type n=>some (.ty n)
 | _=>none
theorem RelV.abs {x:V}{u:Value} (r:RelV x u):y12 u=some x:=by
 cases x with
 | non=>cases r;rfl
 | bl _=>cases r;rfl
 | int _=>obtain ⟨t,rfl⟩:=r;rfl
 | str _=>obtain ⟨t,rfl⟩:=r;rfl
 | byt _=>obtain ⟨t,rfl⟩:=r;rfl
 | flt _=>obtain ⟨t,rfl⟩:=r;rfl
 | ref _=>cases r;rfl
 | ty _=>cases r;rfl
theorem RelV.inj {x y:V}{u:Value} (r:RelV x u) (q:RelV y u):x=y:=Option.some.inj (r.abs.symm.trans q.abs)
theorem Vals.inj:∀ {xs ys:List V}{us:List Value},Vals xs us→Vals ys us→xs=ys
 | _,_,_,.nil,.nil=>rfl
 | _,_,_,.cons r t,.cons r' t'=>by rw [r.inj r',Vals.inj t t']
section
variable {X:Cx}{pins:List (Addr × Obj)}{σ:St}{H:Hp}{s:Shared}{a:Addr}{xs ys:List V}
theorem SqL.of {K:PySem.W.Frag} (h:H a=some (.lst xs)):SqL K H a xs:=.inl (.inl h)
theorem SqT.of {K:PySem.W.Frag} (h:H a=some (.tup xs)):SqT K H a xs:=.inl (.inl h)
theorem Inv.list (I:Inv X pins σ H s) (h:SqL X.K H a xs):∃ its:List Value,Vals xs its∧PlainL s.heap a its.toArray∧xs.length≤sizeLine:=by
 rcases h with h | ⟨o,its,n,hk,hc,hd,hs,hz,r⟩
 ·obtain ⟨z,its,n,r,e⟩:=h.ok I.hok
  exact ⟨its,r,⟨_,n,e,rfl,rfl,rfl⟩,z⟩
 ·refine ⟨its.toList,r,⟨o,n,I.kIn a o hk,hc,hd,by simpa using hs⟩,?_⟩
  have e:=r.length
  simp only [Array.length_toList] at e
  omega
theorem Inv.tuple (I:Inv X pins σ H s) (h:SqT X.K H a xs):∃ its:List Value,Vals xs its∧IsTup s.heap a its.toArray∧xs.length≤sizeLine:=by
 rcases h with h | ⟨o,its,n,hk,hc,hs,hz,r⟩
 ·obtain ⟨z,its,r,p⟩:=h.ok I.hok
  exact ⟨its,r,p,z⟩
 ·refine ⟨its.toList,r,⟨o,I.kIn a o hk,hc,n,by simpa using hs⟩,?_⟩
  have e:=r.length
  simp only [Array.length_toList] at e
  omega
theorem Inv.t61 (I:Inv X pins σ H s) (h:SqL X.K H a xs) (h':SqL X.K H a ys):xs=ys:=by
 obtain ⟨its,r,⟨o,n,e,_,_,d⟩,_⟩:=I.list h
 obtain ⟨its',r',⟨o',n',e',_,_,d'⟩,_⟩:=I.list h'
 rw [e] at e';cases e'
 rw [d] at d'
 injection d' with d1 _
 have:its=its':=by simpa using congrArg Array.toList d1
 subst this
 exact r.inj r'
theorem Inv.r20 (I:Inv X pins σ H s) (h:SqT X.K H a xs) (h':SqT X.K H a ys):xs=ys:=by
 obtain ⟨its,r,⟨o,e,_,n,d⟩,_⟩:=I.tuple h
 obtain ⟨its',r',⟨o',e',_,n',d'⟩,_⟩:=I.tuple h'
 rw [e] at e';cases e'
 rw [d] at d'
 injection d' with d1 _
 have:its=its':=by simpa using congrArg Array.toList d1
 subst this
 exact r.inj r'
end
noncomputable abbrev Cx.t11 (X:Cx) (E:Value→Shared→Prop):Cx:={ X with xe:=E }
noncomputable abbrev Cx.nox (X:Cx):Cx:=X.t11 fun _ _=>False
theorem Cx.Ok.t11 {X:Cx} (ok:X.Ok) (E:Value→Shared→Prop):(X.t11 E).Ok :=
 ⟨ok.mod,ok.kind,ok.glob,ok.blt,ok.above,ok.inj,ok.has,ok.cab,ok.hd,ok.frames,ok.stk,ok.exf,ok.bs,ok.bsz,ok.noex,ok.exfs,ok.a41,ok.frf⟩
theorem Cx.Ok.u70 {X:Cx}{E:Value→Shared→Prop} (ok:(X.t11 E).Ok):X.Ok :=
 ⟨ok.mod,ok.kind,ok.glob,ok.blt,ok.above,ok.inj,ok.has,ok.cab,ok.hd,ok.frames,ok.stk,ok.exf,ok.bs,ok.bsz,ok.noex,ok.exfs,ok.a41,ok.frf⟩
section
variable {X:Cx}{pins:List (Addr × Obj)}{σ:St}{H:Hp}{s:Shared}{E:Value→Shared→Prop}
theorem Inv.t11 (I:Inv X pins σ H s) (E:Value→Shared→Prop):Inv (X.t11 E) pins σ H s:=⟨I.ok.t11 E,I.os,I.bare,I.base,I.loc,I.cell,I.free,I.freeC,I.pin,I.hok,I.len⟩
theorem Inv.u70 (I:Inv (X.t11 E) pins σ H s):Inv X pins σ H s:=⟨I.ok.u70,I.os,I.bare,I.base,I.loc,I.cell,I.free,I.freeC,I.pin,I.hok,I.len⟩
theorem SP.u70 {D:Ends}{f:Flow}{s':Shared} (h:SP (X.t11 E) pins D f s'):SP X pins D f s':=by
 cases f with
 | next=>obtain ⟨σ',H',I,q⟩:=h;exact ⟨σ',H',I.u70,q⟩
 | brk=>obtain ⟨σ',H',I,q⟩:=h;exact ⟨σ',H',I.u70,q⟩
 | cont=>obtain ⟨σ',H',I,q⟩:=h;exact ⟨σ',H',I.u70,q⟩
 | ret u=>obtain ⟨v,σ',H',I,r,q⟩:=h;exact ⟨v,σ',H',I.u70,r,q⟩
theorem PSs.nox {st:List Stmt}{t:TS} (h:PSs X.nox st t):PSs X st t:=fun pins s σ H D I hw =>
 wpAny_mono (h pins s σ H D (I.t11 _) hw) (fun _ _ q=>q.u70) fun _ _ z=>False.elim z
end
section
variable {X:Cx}{st:Stmt}{rest:List Stmt}{t u:TS}{e:Expr}{te:TE}{pos:Pos}
noncomputable def i82:TS:=fun D σ H=>D.nx σ H
noncomputable def y22 (t u:TS):TS:=fun D σ H=>t { D with nx:=u D } σ H
theorem e81:PSs X [] i82:=fun _ _ σ H _ I h=>wpAny_execs_nil ⟨σ,H,I,h⟩
theorem k30 (h1:PS X st t) (h2:PSs X rest u):PSs X (st::rest) (y22 t u):=by
 intro pins s σ H D I h
 refine wpAny_execs_cons (thn (h1 pins s σ H { D with nx:=u D } I h) fun f s1 q=>?_)
 cases f with
 | next =>
  obtain ⟨σ',H',I',q⟩:=q
  exact h2 pins s1 σ' H' D I' q
 | ret v=>exact q
 | brk=>exact q
 | cont=>exact q
theorem e91 (h1:PS X st t):PSs X [st] t:=by
 intro pins s σ H D I h
 refine wpAny_execs_cons (thn (h1 pins s σ H D I h) fun f s1 q=>?_)
 cases f with
 | next=>exact wpAny_execs_nil q
 | ret v=>exact q
 | brk=>exact q
 | cont=>exact q
theorem Inv.quiet {pins:List (Addr × Obj)}{σ:St}{H:Hp}{s:Shared} (I:Inv X pins σ H s):interactive X.env=false:=by simp [interactive,I.ok.kind]
noncomputable def T01 (te:TE):TS:=fun D σ H=>te σ H fun _ H1=>D.nx σ H1
theorem Q80 (he:PE X e te) (hs:swapsWith e none pos.line X.env=pure false:=by rfl):PS X (.Expr e pos) (T01 te):=by
 intro pins s σ H D I h
 exact wpAny_Expr_any (thn (he pins s σ H _ I h) fun v s1 ⟨x,H1,I1,r1,q1⟩=>⟨σ,H1,I1,q1⟩) I.quiet hs
noncomputable def y32 (te:TE):TS:=fun D σ H=>te σ H D.rt
theorem V90 (he:PE X e te):PS X (.Return (some e) pos) (y32 te):=by
 intro pins s σ H D I h
 exact wpAny_Return_some (thn (he pins s σ H _ I h) fun v s1 ⟨x,H1,I1,r1,q1⟩=>⟨x,σ,H1,I1,r1,q1⟩)
noncomputable def i92:TS:=fun D _ H=>D.rt .non H
theorem F71:PS X (.Return none pos) i92:=fun _ _ σ H _ I h=>wpAny_Return_none ⟨.non,σ,H,I,rfl,h⟩
noncomputable def y42 (c:TT) (t u:TS):TS:=fun D σ H=>c σ H fun b H1=>if b=true then t D σ H1 else u D σ H1
theorem T11 {c:Expr}{a b:List Stmt}{tc:TT} (hc:PT X c tc) (ha:PSs X a t) (hb:PSs X b u):PS X (.If c a b pos) (y42 tc t u):=by
 intro pins s σ H D I h
 refine wpAny_If (thn (hc pins s σ H _ I h) fun d s1 ⟨H1,I1,q1⟩=>?_)
 cases d with
 | true=>exact ha pins s1 σ H1 D I1 q1
 | false=>exact hb pins s1 σ H1 D I1 q1
end
noncomputable abbrev TG:=V→St→Hp→(St→Hp→Prop)→Prop
noncomputable abbrev TGs:=List V→St→Hp→(St→Hp→Prop)→Prop
noncomputable def PG (X:Cx) (target:Expr) (t:TG):Prop :=
 ∀ (pins:List (Addr × Obj)) (s:Shared) (σ:St) (H:Hp) (v:V) (u:Value) (Q:St→Hp→Prop),Inv X pins σ H s→RelV v u→t v σ H Q →
  wpAny (model X.prog X.w) X.A (assign target X.env u) (fun _ s'=>∃ σ' H',Inv X pins σ' H' s'∧Q σ' H') X.xe s
noncomputable def PGs (X:Cx) (ts:List Expr) (t:TGs):Prop :=
 ∀ (pins:List (Addr × Obj)) (s:Shared) (σ:St) (H:Hp) (vs:List V) (us:List Value) (Q:St→Hp→Prop),Inv X pins σ H s→Vals vs us→t vs σ H Q →
  wpAny (model X.prog X.w) X.A (assignInOrder ((assignEach ts X.env).map (·.2)) us) (fun _ s'=>∃ σ' H',Inv X pins σ' H' s'∧Q σ' H') X.xe s
noncomputable abbrev j02:=V→V→V→Hp→(Hp→Prop)→Prop
noncomputable def v52 (X:Cx) (t:j02):Prop :=
 ∀ (pins:List (Addr × Obj)) (s:Shared) (σ:St) (H:Hp) (o i v:V) (ov iv u:Value) (Q:Hp→Prop),Inv X pins σ H s→RelV o ov→RelV i iv→RelV v u→t o i v H Q →
  wpAny (model X.prog X.w) X.A (setItem ov iv u) (fun _ s'=>∃ H',Inv X pins σ H' s'∧Q H') X.xe s
section
variable {X:Cx}{pos:Pos}
noncomputable def Q90 (i:Nat):TG:=fun v σ H Q=>Q (σ.set i (some v)) H
theorem f01 {i:Nat}{x:Str} (hN:X.N.Nodup) (hi:X.N[i]?=some x) (hx:Loc X.env.scope x) (hf:X.fn x=true∨X.env.scope.names.lookup x=some .local:=by first | exact .inl rfl | exact .inr rfl | assumption):PG X (.Name x pos) (Q90 i):=by
 intro pins s σ H v u Q I r h
 exact wpAny_assign_Name (x20 I hN hi hx r (fun s' I'=>⟨_,H,I',h⟩) hf)
noncomputable def v62:TGs:=fun vs σ H Q=>vs=[]∧Q σ H
noncomputable def T21 (t:TG) (u:TGs):TGs:=fun vs σ H Q=>∃ v r,vs=v::r∧t v σ H fun σ' H'=>u r σ' H' Q
theorem F81:PGs X [] v62:=by
 intro pins s σ H vs us Q I r h
 obtain ⟨e,h⟩:=h
 subst e
 cases r
 exact assignInOrder_nil ⟨σ,H,I,h⟩
theorem t71 {e:Expr}{es:List Expr}{t:TG}{u:TGs} (h1:PG X e t) (h2:PGs X es u)
  (hs:(assignEach (e::es) X.env).map (·.2)=assign e X.env::(assignEach es X.env).map (·.2):=by rfl):PGs X (e::es) (T21 t u):=by
 intro pins s σ H vs us Q I r h
 obtain ⟨v,vr,e1,h⟩:=h
 subst e1
 cases r with
 | cons r rr =>
  rw [hs]
  refine assignInOrder_cons (thn (h1 pins s σ H _ _ _ I r h) fun _ s1 ⟨σ1,H1,I1,q1⟩=>?_)
  exact h2 pins s1 σ1 H1 _ _ Q I1 rr q1
noncomputable def v72 (K:PySem.W.Frag) (n:Nat) (t:TGs):TG:=fun v σ H Q=>∃ a xs,v=.ref a∧SqT K H a xs∧xs.length=n∧t xs σ H Q
theorem T31 {es:List Expr}{k:Nat}{t:TGs}{n:Nat} (hc:X.calm=true) (h:PGs X es t)
  (hn:(assignEach es X.env).length=n:=by rfl) (hst:(assignEach es X.env).findIdx? (·.1)=none:=by rfl):PG X (.Tuple es k pos) (v72 X.K n t):=by
 intro pins s σ H v u Q I r hw
 obtain ⟨a,xs,e1,hq,hl,hw⟩:=hw
 subst e1
 cases r
 obtain ⟨its,rv,ht,hz⟩:=I.tuple hq
 refine assign_Tuple_tuple (I.ok.hd hc) ht (by simp [hn,← hl,rv.length]) hst fun h' hx=>?_
 have I1:Inv X pins σ H { s with heap:=h' }:=I.kept (t':=s.toks) fun b o e=>hx b o (Nat.ne_of_lt (Heap.lt_size e)) e
 exact h pins _ σ H xs _ Q I1 (by simpa using rv) hw
noncomputable def y52 (to ti:TE) (t:j02):TG:=fun v σ H Q=>to σ H fun o H1=>ti σ H1 fun i H2=>t o i v H2 fun H3=>Q σ H3
theorem T41 {o i:Expr}{to ti:TE}{t:j02} (ho:PE X o to) (hi:PE X i ti) (hs:v52 X t)
  (ha:∀ v,assign (.Subscript o i pos) X.env v=(do
   let ov ← holding [v] (eval o X.env)
   let iv ← holding [v,ov] (eval i X.env)
   standAt pos
   holding [v,ov,iv] (setItem ov iv v)
   release [v,ov,iv] []):=by intro _;rfl):PG X (.Subscript o i pos) (y52 to ti t):=by
 intro pins s σ H v u Q I r h
 rw [ha]
 refine wpAny_bind (wpAny_holding (thn (ho pins s σ H _ I h) fun ov s1 ⟨x,H1,I1,r1,q1⟩=>?_))
 refine wpAny_bind (wpAny_holding (thn (hi pins s1 σ H1 _ I1 q1) fun iv s2 ⟨y,H2,I2,r2,q2⟩=>?_))
 refine wpAny_bind (wpAny_standAt (wpAny_bind (wpAny_holding (thn (hs pins s2 σ H2 x y v ov iv u _ I2 r1 r2 r q2) fun _ s3 ⟨H3,I3,q3⟩=>?_))))
 exact wpAny_release ⟨σ,H3,I3,q3⟩
noncomputable def T51 (te:TE) (g:TG):TS:=fun D σ H=>te σ H fun x H1=>g x σ H1 D.nx
theorem B81 {tg e:Expr}{te:TE}{g:TG} (he:PE X e te) (hg:PG X tg g) (hs:swapsWithSole [tg] e pos.line X.env=pure false:=by rfl) (hw:swappedStores [tg] e X.env=pure none:=by rfl)
  (h1:(assignEach [tg] X.env).map (·.2)=[assign tg X.env]:=by rfl):PS X (.Assign [tg] e pos) (T51 te g):=by
 intro pins s σ H D I h
 refine wpAny_Assign_stores (thn (he pins s σ H _ I h) fun v s1 ⟨x,H1,I1,r1,q1⟩=>?_) hs hw
 rw [h1]
 exact thn (hg pins s1 σ H1 x v _ I1 r1 q1) fun _ s2 q=>q
theorem u80 {i:Nat}{x:Str}{e:Expr}{te:TE}{pos':Pos} (hN:X.N.Nodup) (hi:X.N[i]?=some x) (hx:Loc X.env.scope x) (he:PE X e te) (hs:swapsWith e (some (.Name x pos')) pos.line X.env=pure false:=by rfl) (hf:X.fn x=true∨X.env.scope.names.lookup x=some .local:=by first | exact .inl rfl | exact .inr rfl | assumption) :
  PS X (.Assign [.Name x pos'] e pos) (T51 te (Q90 i)):=by
 intro pins s σ H D I h
 refine wpAny_Assign_Name (thn (he pins s σ H _ I h) fun v s1 ⟨y,H1,I1,r1,q1⟩=>?_) hs
 exact x20 I1 hN hi hx r1 (fun s2 I2=>⟨_,H1,I2,q1⟩) hf
noncomputable def y62 (i j:Nat) (ta:TA):TS:=fun D σ H=>ta σ H fun vs H1=>∃ v w,vs=[v,w]∧D.nx ((σ.set i (some v)).set j (some w)) H1
theorem T61 {i j:Nat}{x y:Str}{a b:Expr}{ta:TA}{px py pt:Pos}{kt k2 pt2} (hc:X.calm=true) (hN:X.N.Nodup) (hi:X.N[i]?=some x) (hj:X.N[j]?=some y) (hij:i≠j)
  (hx:X.env.scope.names.lookup x=some .local) (hy:X.env.scope.names.lookup y=some .local) (ha:PA X [a,b] ta)
  (hw:swappedStores [.Tuple [.Name x px,.Name y py] kt pt] (.Tuple [a,b] k2 pt2) X.env=pure (some [x,y]))
  (hs:swapsWithSole [.Tuple [.Name x px,.Name y py] kt pt] (.Tuple [a,b] k2 pt2) pos.line X.env=pure false:=by rfl) :
  PS X (.Assign [.Tuple [.Name x px,.Name y py] kt pt] (.Tuple [a,b] k2 pt2) pos) (y62 i j ta):=by
 intro pins s σ H D I h
 rw [exec_Assign_arm]
 refine wpAny_bind (wpAny_standAt ?_)
 rw [hs]
 refine wpAny_bind (wpAny_pure ?_)
 rw [if_neg (by decide)]
 refine wpAny_bind (Tuple_ (thn (ha _ pins s σ H _ I h) fun us s1 ⟨vs,H1,I1,r1,q1⟩=>?_))
 obtain ⟨v,w,e1,q1⟩:=q1
 subst e1
 obtain ⟨u1,u2,rfl,rv,rw'⟩:∃ u1 u2,us=[u1,u2]∧RelV v u1∧RelV w u2:=by
  cases r1 with
  | cons p q =>
   cases q with
   | cons p' q' =>
    cases q'
    exact ⟨_,_,rfl,p,p'⟩
 refine wpAny_newObj_type ?_ (by show 2≤sizeLine;decide)
 have I2:Inv X pins σ H1 { s1 with heap:=s1.heap.push { cls:=.type "tuple",data:=.seq [u1,u2].toArray } }:=I1.kept (t':=s1.toks) fun b o e=>Heap.get?_push_of_some _ e
 rw [hw]
 refine wpAny_bind (wpAny_pure ?_)
 show wpAny (model X.prog X.w) X.A (do rule "assign.swapped-stores";let items ← unpackItems (.ref s1.heap.objs.size) 2 none;assignInOrder [fun v=>bindName X.env y v,fun v=>bindName X.env x v] items.reverse;pure Flow.next) _ _ _
 refine wpAny_bind (wpAny_rule (wpAny_bind (unpackItems_tuple (items:=#[u1,u2]) (I.ok.hd hc) (IsTup.new s1.heap _) fun h' hx'=>?_)))
 have I3:=I2.kept (h':=h') (t':=s1.toks) fun b o e=>hx' b o (Nat.ne_of_lt (Heap.lt_size e)) e
 show wpAny _ _ (assignInOrder [fun v=>bindName X.env y v,fun v=>bindName X.env x v] [u2,u1] >>= fun _=>pure Flow.next) _ _ _
 refine wpAny_bind (assignInOrder_cons (wpAny_bindName (x20 I3 hN hj (.inl hy) rw' (fun s2 I4=>?_) (.inr hy))))
 refine assignInOrder_cons (wpAny_bindName (x20 I4 hN hi (.inl hx) rv (fun s3 I5=>assignInOrder_nil (wpAny_pure ?_)) (.inr hx)))
 rw [List.set_comm _ _ (Ne.symm hij)] at I5
 exact ⟨_,H1,I5,q1⟩
end
section
variable {X:Cx}{pos:Pos}
noncomputable def T71 (c:TT) (tb:TS):TS:=fun D σ H=>∃ W:Nat→St→Hp→Prop,(∃ m,W m σ H)∧∀ m σ H,W m σ H →
 c σ H fun b H1=>if b=true then ∃ N:St→Hp→Prop,(∀ σ' H',N σ' H'→∃ m',m' < m∧W m' σ' H')∧tb { D with nx:=N,ct:=N,bk:=D.nx } σ H1 else D.nx σ H1
theorem t81 {c:Expr}{body:List Stmt}{tc:TT}{tb:TS} (hp:PassesOwn (model X.prog X.w) X.A X.env X.xe) (hc:PT X c tc) (hb:PSs X body tb):PS X (.While c body [] pos) (T71 tc tb):=by
 intro pins s σ H D I h
 obtain ⟨W,⟨m0,w0⟩,turn⟩:=h
 refine wpAny_While (codeAny_whileLoop (fun n s'=>∃ σ' H',Inv X pins σ' H' s'∧W n σ' H') ?_ m0 ⟨σ,H,I,w0⟩)
 rintro n s1 ⟨σ1,H1,I1,w1⟩
 refine wpAny_passesOwn hp (thn (hc pins s1 σ1 H1 _ I1 (turn n σ1 H1 w1)) fun b s2 ⟨H2,I2,q2⟩=>?_)
 cases b with
 | true =>
  obtain ⟨N,hN,q2⟩:=q2
  rw [if_pos rfl]
  refine wpAny_passesOwn hp (thn (hb pins s2 σ1 H2 _ I2 q2) fun f s3 q3=>?_)
  cases f with
  | next =>
   obtain ⟨σ3,H3,I3,n3⟩:=q3
   obtain ⟨m',hm,w3⟩:=hN σ3 H3 n3
   exact ⟨m',hm,σ3,H3,I3,w3⟩
  | cont =>
   obtain ⟨σ3,H3,I3,n3⟩:=q3
   obtain ⟨m',hm,w3⟩:=hN σ3 H3 n3
   exact ⟨m',hm,σ3,H3,I3,w3⟩
  | brk=>exact q3
  | ret v=>exact q3
 | false =>
  rw [if_neg Bool.false_ne_true]
  exact wpAny_execs_nil ⟨σ1,H2,I2,q2⟩
end
structure It where
 go:Nat→Hp→Prop
 yld:Nat→Hp→V→Hp→Prop
 stop:Nat→Hp→Prop
noncomputable def a51 (X:Cx) (pins:List (Addr × Obj)) (H:Hp) (b:Addr):Prop :=
 H b=none∧b≠X.env.locals∧b ∉ X.fs∧(b∈X.ex∨X.s₀.heap.objs.size≤b)∧(∀ x c,X.env.cells.lookup x=some c→c≠b)∧∀ p∈X.pn++pins,p.1≠b
theorem Inv.e11 {X:Cx}{pins:List (Addr × Obj)}{σ:St}{H H':Hp}{s:Shared}{b:Addr} (I:Inv X pins σ H s) (hb:s.heap.objs.size≤b) (hn:H' b=none):a51 X pins H' b:=by
 refine ⟨hn,Nat.ne_of_gt (Nat.lt_of_lt_of_le I.lt hb),I.x72 hb,.inr (Nat.le_trans I.sz hb),fun x c e z=>?_,fun p hp z=>?_⟩
 ·obtain ⟨v,q⟩:=I.cell x c e
  exact absurd (Nat.lt_of_lt_of_le q.lt (by rw [z];exact hb)) (Nat.lt_irrefl _)
 ·exact absurd (Nat.lt_of_lt_of_le (Heap.lt_size (I.pin p hp).1) (by rw [z];exact hb)) (Nat.lt_irrefl _)
structure Turn (P:Program) (w:World) (K:PySem.W.Frag) (tg:Expr) (J:It) (fp:List Addr) (it:Addr) (tn:Nat→Heap→Prop):Prop where
 mem:it∈fp
 obj:∀ i h,tn i h→∀ b∈fp,∃ o,h.get? b=some o∧∀ v,o.data≠.cell v
 keep:∀ i h h',tn i h→(∀ b∈fp,∀ o,h.get? b=some o→h'.get? b=some o)→tn i h'
 item:∀ (X:Cx),X.prog=P→X.w=w→X.K=K→X.calm=true→∀ (i:Nat) (pins:List (Addr × Obj)) (s:Shared) (σ:St) (H:Hp) (E:Value→Shared→Prop),Inv X pins σ H s→(∀ b∈fp,a51 X pins H b)→tn i s.heap→J.go i H →
  wpAny (model P w) X.A (pyNext (.ref it)) (fun r s1=>∃ u,r=some u ∧
   wpAny (model P w) X.A (letOwnedTupleGo tg (.ref it) u) (fun _ s2=>∃ x H',Inv X pins σ H' s2∧RelV x u∧J.yld i H x H'∧tn (i + 1) s2.heap∧∀ b∈fp,H' b=none) E s1) E s
 done:∀ (X:Cx),X.prog=P→X.w=w→X.K=K→X.calm=true→∀ (i:Nat) (pins:List (Addr × Obj)) (s:Shared) (σ:St) (H:Hp) (E:Value→Shared→Prop),Inv X pins σ H s→(∀ b∈fp,a51 X pins H b)→tn i s.heap→J.stop i H →
  wpAny (model P w) X.A (pyNext (.ref it)) (fun r s1=>r=none∧Inv X pins σ H s1) E s
 self:∀ (A:Around) (i:Nat) (s:Shared) (Q:Value→Shared→Prop) (E:Value→Shared→Prop),tn i s.heap→Q (.ref it) s→wpAny (model P w) A (pyIter (.ref it)) Q E s
noncomputable abbrev TI:=St→Hp→(It→Hp→Prop)→Prop
noncomputable def PIE (X:Cx) (pins:List (Addr × Obj)) (σ:St) (tg:Expr) (R:It→Hp→Prop) (itv:Value) (s2:Shared):Prop :=
 ∃ (it:Addr) (fp:List Addr) (tn:Nat→Heap→Prop) (J:It) (H':Hp),itv=.ref it∧Inv X pins σ H' s2∧Turn X.prog X.w X.K tg J fp it tn∧tn 0 s2.heap∧(∀ b∈fp,a51 X pins H' b)∧R J H'
noncomputable def PI (X:Cx) (tg iter:Expr) (wi:TI):Prop :=
 ∀ (pins:List (Addr × Obj)) (s:Shared) (σ:St) (H:Hp) (R:It→Hp→Prop),Inv X pins σ H s→wi σ H R →
  wpAny (model X.prog X.w) X.A (eval iter X.env) (fun v s1=>wpAny (model X.prog X.w) X.A (pyIter v) (PIE X pins σ tg R) X.xe s1) X.xe s
theorem F91 {M:Model}{A:Around}{E:Value→Shared→Prop}{s:Shared}{tg:Expr}{it:Addr}{u:Value}{o:Obj}{n:String}{vs:Array Value}{Q:Unit→Shared→Prop} (ho:s.heap.get? it=some o) (hc:o.cls=.type n) (hd:o.data=.fields vs)
  (hn:["enumerate","zip","dict_itemiterator","dict_reverseitemiterator","odict_iterator","itertools.zip_longest","itertools.pairwise"].contains n=false) (hQ:Q () s):wpAny M A (letOwnedTupleGo tg (.ref it) u) Q E s:=by
 unfold letOwnedTupleGo
 cases tg <;> first
  | exact wpAny_pure hQ
  |(cases u <;> first
    | exact wpAny_pure hQ
    |(refine wpAny_bind (wpAny_load ho ?_)
      rw [hc,hd]
      show wpAny M A (if (["enumerate","zip","dict_itemiterator","dict_reverseitemiterator","odict_iterator","itertools.zip_longest","itertools.pairwise"].contains n&&vs[0]? == some (rawInt _))=true then _ else _) Q E s
      rw [if_neg (by intro h;rw [hn,Bool.false_and] at h;cases h)]
      exact wpAny_pure hQ))
noncomputable def Itl (K:PySem.W.Frag) (a:Addr):It :=
 ⟨fun i H=>∃ xs x,SqL K H a xs∧xs[i]?=some x,fun i H x H'=>H'=H∧∀ xs,SqL K H a xs→xs[i]?=some x,fun i H=>∃ xs,SqL K H a xs∧xs.length≤i⟩
noncomputable def Itt (K:PySem.W.Frag) (a:Addr):It :=
 ⟨fun i H=>∃ xs x,SqT K H a xs∧xs[i]?=some x,fun i H x H'=>H'=H∧∀ xs,SqT K H a xs→xs[i]?=some x,fun i H=>∃ xs,SqT K H a xs∧xs.length≤i⟩
noncomputable def Itr (lo:Int) (n:Nat):It:=⟨fun i _=>i < n,fun i H x H'=>H'=H∧x=.int (lo + i),fun i _=>n≤i⟩
theorem f11 {P:Program}{w:World}{K:PySem.W.Frag}{tg:Expr} (a it:Addr):Turn P w K tg (Itl K a) [it] it (fun i h=>h.IsListIter it a i) where
 mem:=by simp
 obj:=fun i h st b hb=>by
  have e:b=it:=by simpa using hb
  subst e
  obtain ⟨o,e,c,d⟩:=st
  exact ⟨o,e,fun v z=>by rw [d] at z;cases z⟩
 keep:=fun i h h' st k=>st.at fun o e=>k it (by simp) o e
 item:=by
  intro X hP hw hK hc i pins s σ H E I hf st hg
  subst hP hw hK
  obtain ⟨xs,x,hq,hx⟩:=hg
  obtain ⟨its,rv,p,hz⟩:=I.list hq
  obtain ⟨u,hu,ru⟩:=rv.get hx
  obtain ⟨f0,f1,f2,f3,f4,f5⟩:=hf it (by simp)
  refine wpAny_pyNext_list_item st p.isList (x:=u) (by simpa using hu) fun h' st' sb=>?_
  have I1:Inv X pins σ H { s with heap:=h' }:=I.turned (t':=s.toks) (fun b o hb e=>(sb.2 b hb).trans e) f0 f1 f3 f4 f5
  obtain ⟨o,e,c,d⟩:=id st'
  exact ⟨u,rfl,F91 (s:={ s with heap:=h' }) e c d (by decide) ⟨x,H,I1,ru,⟨rfl,fun ys hy=>by rw [I.t61 hy hq];exact hx⟩,st',fun b hb=>(hf b hb).1⟩⟩
 done:=by
  intro X hP hw hK hc i pins s σ H E I hf st hg
  subst hP hw hK
  obtain ⟨xs,hq,hx⟩:=hg
  obtain ⟨its,rv,p,hz⟩:=I.list hq
  obtain ⟨f0,f1,f2,f3,f4,f5⟩:=hf it (by simp)
  have hl:=rv.length
  exact wpAny_pyNext_list_end (I.ok.hd hc) st p.isList (by simp;omega) fun h' eb=>⟨rfl,I.turned (t':=s.toks) (fun b o hb e=>eb b o hb e) f0 f1 f3 f4 f5⟩
 self:=fun _ _ _ _ _ st h=>wpAny_pyIter_listiter st h
theorem a61 {P:Program}{w:World}{K:PySem.W.Frag}{tg:Expr} (a it:Addr):Turn P w K tg (Itt K a) [it] it (fun i h=>h.IsTupleIter it a i) where
 mem:=by simp
 obj:=fun i h st b hb=>by
  have e:b=it:=by simpa using hb
  subst e
  obtain ⟨o,e,c,d⟩:=st
  exact ⟨o,e,fun v z=>by rw [d] at z;cases z⟩
 keep:=fun i h h' st k=>st.at fun o e=>k it (by simp) o e
 item:=by
  intro X hP hw hK hc i pins s σ H E I hf st hg
  subst hP hw hK
  obtain ⟨xs,x,hq,hx⟩:=hg
  obtain ⟨its,rv,p,hz⟩:=I.tuple hq
  obtain ⟨u,hu,ru⟩:=rv.get hx
  obtain ⟨f0,f1,f2,f3,f4,f5⟩:=hf it (by simp)
  refine wpAny_pyNext_tuple_item st (show s.heap.IsTuple a its.toArray from p) (x:=u) (by simpa using hu) fun h' st' sb=>?_
  have I1:Inv X pins σ H { s with heap:=h' }:=I.turned (t':=s.toks) (fun b o hb e=>(sb.2 b hb).trans e) f0 f1 f3 f4 f5
  obtain ⟨o,e,c,d⟩:=id st'
  exact ⟨u,rfl,F91 (s:={ s with heap:=h' }) e c d (by decide) ⟨x,H,I1,ru,⟨rfl,fun ys hy=>by rw [I.r20 hy hq];exact hx⟩,st',fun b hb=>(hf b hb).1⟩⟩
 done:=by
  intro X hP hw hK hc i pins s σ H E I hf st hg
  subst hP hw hK
  obtain ⟨xs,hq,hx⟩:=hg
  obtain ⟨its,rv,p,hz⟩:=I.tuple hq
  obtain ⟨f0,f1,f2,f3,f4,f5⟩:=hf it (by simp)
  have hl:=rv.length
  exact wpAny_pyNext_tuple_end (I.ok.hd hc) st (show s.heap.IsTuple a its.toArray from p) (by simp;omega) fun h' eb=>⟨rfl,I.turned (t':=s.toks) (fun b o hb e=>eb b o hb e) f0 f1 f3 f4 f5⟩
 self:=fun _ _ _ _ _ st h=>wpAny_pyIter_tupleiter st h
theorem a71 {P:Program}{w:World}{K:PySem.W.Frag}{tg:Expr} (it:Addr) (lo:Int) (n:Nat):Turn P w K tg (Itr lo n) [it] it (fun i h=>IsRangeIter h it (lo + (i:Nat) * 1) ((n:Int) - (i:Nat)) 1) where
 mem:=by simp
 obj:=fun i h st b hb=>by
  have e:b=it:=by simpa using hb
  subst e
  exact ⟨_,st,fun v z=>by
   have z':Data.fields _=Data.cell v:=z
   cases z'⟩
 keep:=fun i h h' st k=>k it (by simp) _ st
 item:=by
  intro X hP hw hK hc i pins s σ H E I hf st hg
  subst hP hw hK
  obtain ⟨f0,f1,f2,f3,f4,f5⟩:=hf it (by simp)
  have W:=Walks.range (prog:=X.prog) (w:=X.w) (I.ok.hd hc) it lo 1 n
  refine W.item i s _ _ hg st fun v h' tk hv st' kk=>?_
  obtain ⟨t,rfl⟩:=hv
  have I1:Inv X pins σ H { s with heap:=h',toks:=tk }:=I.turned (fun b o hb e=>kk b o (by simpa using hb) e) f0 f1 f3 f4 f5
  refine ⟨_,rfl,F91 (s:={ s with heap:=h',toks:=tk }) (n:="range_iterator") st' rfl rfl (by decide) ⟨.int (lo + i),H,I1,⟨t,?_⟩,⟨rfl,rfl⟩,st',fun b hb=>(hf b hb).1⟩⟩
  rw [Int.mul_one]
 done:=by
  intro X hP hw hK hc i pins s σ H E I hf st hg
  subst hP hw hK
  obtain ⟨f0,f1,f2,f3,f4,f5⟩:=hf it (by simp)
  exact wpAny_pyNext_range_end (I.ok.hd hc) st (by have:n≤i:=hg;omega) fun h' eb=>⟨rfl,I.turned (t':=s.toks) (fun b o hb e=>eb b o hb e) f0 f1 f3 f4 f5⟩
 self:=fun _ _ _ _ _ st h=>wpAny_pyIter_rangeiter st h
end L2
namespace L2
open PySem PySem.Spec PyProof.Rows
section
variable {X:Cx}{tg:Expr}
noncomputable def j12 (K:PySem.W.Frag) (tl:TE):TI:=fun σ H R=>tl σ H fun x H1=>∃ a,x=.ref a∧(∃ xs,SqL K H1 a xs)∧R (Itl K a) H1
noncomputable def y72 (K:PySem.W.Frag) (tl:TE):TI:=fun σ H R=>tl σ H fun x H1=>∃ a,x=.ref a∧(∃ xs,SqT K H1 a xs)∧R (Itt K a) H1
theorem R00 {l:Expr}{tl:TE} (hl:PE X l tl):PI X tg l (j12 X.K tl):=by
 intro pins s σ H R I h
 refine thn (hl pins s σ H _ I h) fun v s1 ⟨x,H1,I1,r1,q1⟩=>?_
 obtain ⟨a,e,⟨xs,hq⟩,q⟩:=q1
 subst e
 cases r1
 obtain ⟨its,rv,p,hz⟩:=I1.list hq
 refine wpAny_pyIter_list p.isList ?_
 refine ⟨s1.heap.objs.size,[s1.heap.objs.size],_,_,H1,rfl,I1.kept (t':=s1.toks) fun b o e=>Heap.get?_push_of_some _ e,f11 a _,⟨_,Heap.get?_push_size _ rfl,rfl,rfl⟩,fun b hb=>?_,q⟩
 have e:b=s1.heap.objs.size:=by simpa using hb
 subst e
 exact I1.e11 (Nat.le_refl _) (I1.hok.fresh (Nat.le_refl _))
theorem B91 {l:Expr}{tl:TE} (hl:PE X l tl):PI X tg l (y72 X.K tl):=by
 intro pins s σ H R I h
 refine thn (hl pins s σ H _ I h) fun v s1 ⟨x,H1,I1,r1,q1⟩=>?_
 obtain ⟨a,e,⟨xs,hq⟩,q⟩:=q1
 subst e
 cases r1
 obtain ⟨its,rv,p,hz⟩:=I1.tuple hq
 refine wpAny_pyIter_tuple (show s1.heap.IsTuple a its.toArray from p) ?_
 refine ⟨s1.heap.objs.size,[s1.heap.objs.size],_,_,H1,rfl,I1.kept (t':=s1.toks) fun b o e=>Heap.get?_push_of_some _ e,a61 a _,⟨_,Heap.get?_push_size _ rfl,rfl,rfl⟩,fun b hb=>?_,q⟩
 have e:b=s1.heap.objs.size:=by simpa using hb
 subst e
 exact I1.e11 (Nat.le_refl _) (I1.hok.fresh (Nat.le_refl _))
theorem W00 {pins:List (Addr × Obj)}{σ:St}{H:Hp}{s:Shared}{R:It→Hp→Prop}{E:Value→Shared→Prop}{lo hi:Int}{t u v:Tok}{tk:Nat} (I:Inv X pins σ H s) (h1:-(2 ^ 62)≤lo) (h2:lo < 2 ^ 62) (h3:-(2 ^ 62)≤hi) (h4:hi < 2 ^ 62)
  (q:R (Itr lo (hi - lo).toNat) H):wpAny (model X.prog X.w) X.A (pyIter (.ref s.heap.objs.size)) (PIE X pins σ tg R) E { s with heap:=s.heap.push { cls:=.type "range",data:=.fields #[.int lo t,.int hi u,.int 1 v] },toks:=tk }:=by
 refine wpAny_pyIter_range (IsRange.new ..) (small_one h1 h2 h3 h4) ?_
 have I1:Inv X pins σ H { s with heap:=s.heap.push { cls:=.type "range",data:=.fields #[.int lo t,.int hi u,.int 1 v] },toks:=tk }:=I.kept fun b o e=>Heap.get?_push_of_some _ e
 refine ⟨(s.heap.push { cls:=.type "range",data:=.fields #[.int lo t,.int hi u,.int 1 v] }).objs.size,[(s.heap.push { cls:=.type "range",data:=.fields #[.int lo t,.int hi u,.int 1 v] }).objs.size],_,_,H,rfl,
  I1.kept (t':=tk) fun b o e=>Heap.get?_push_of_some _ e,a71 _ lo (hi - lo).toNat,?_,fun b hb=>?_,q⟩
 ·have e1:lo + ((0:Nat):Int) * 1=lo:=by simp
  have e2:(((hi - lo).toNat:Nat):Int) - ((0:Nat):Int)=Builtin.Range.rangeSize lo hi 1:=by rw [rangeSize_one];split <;> omega
  show IsRangeIter _ _ (lo + ((0:Nat):Int) * 1) ((((hi - lo).toNat:Nat):Int) - ((0:Nat):Int)) 1
  rw [e1,e2]
  exact Heap.get?_push_size _ rfl
 ·have e:b=(s.heap.push { cls:=.type "range",data:=.fields #[.int lo t,.int hi u,.int 1 v] }).objs.size:=by simpa using hb
  subst e
  exact I1.e11 (Nat.le_refl _) (I1.hok.fresh (Nat.le_refl _))
noncomputable def j22 (ta:TA):TI:=fun σ H R=>ta σ H fun vs H1=>∃ j:Int,vs=[.int j]∧-(2 ^ 62)≤j∧j < 2 ^ 62∧R (Itr 0 j.toNat) H1
noncomputable def j32 (ta:TA):TI:=fun σ H R=>ta σ H fun vs H1=>∃ i j:Int,vs=[.int i,.int j]∧(-(2 ^ 62)≤i∧i < 2 ^ 62∧-(2 ^ 62)≤j∧j < 2 ^ 62)∧R (Itr i (j - i).toNat) H1
theorem K10 {a:Expr}{ta:TA}{p pos:Pos} (hg:Gl X "range") (hm:X.mg "range"=none) (ha:PA X [a] ta) (hs:starEach [a] X.env=[(false,eval a X.env)]:=by rfl):PI X tg (.Call (.Name "range" p) [a] [] pos) (j22 ta):=by
 intro pins s σ H R I h
 refine Call_ (r10 I hg hm boot_range (PyProof.Rows.callWith_type1 (thn (ha pos pins s σ H _ I h) fun us s1 ⟨vs,H1,I1,r1,q1⟩=>?_) hs rfl))
 obtain ⟨j,e,q1,q2,q⟩:=q1
 subst e
 cases r1 with
 | cons r rr =>
  cases rr
  obtain ⟨t,rfl⟩:=r
  exact call_range_1 (W00 I1 (by omega) (by omega) q1 q2 (by simpa using q))
theorem f21 {a b:Expr}{ta:TA}{p pos:Pos} (hg:Gl X "range") (hm:X.mg "range"=none) (ha:PA X [a,b] ta) (hs:starEach [a,b] X.env=[(false,eval a X.env),(false,eval b X.env)]:=by rfl) (hs2:starEach [b] X.env=[(false,eval b X.env)]:=by rfl) :
  PI X tg (.Call (.Name "range" p) [a,b] [] pos) (j32 ta):=by
 intro pins s σ H R I h
 refine Call_ (r10 I hg hm boot_range (PyProof.Rows.callWith_type1 (thn (ha pos pins s σ H _ I h) fun us s1 ⟨vs,H1,I1,r1,q1⟩=>?_) (by rw [hs,hs2]) (by rw [hs2];rfl)))
 obtain ⟨i,j,e,⟨q1,q2,q3,q4⟩,q⟩:=q1
 subst e
 cases r1 with
 | cons r rr =>
  cases rr with
  | cons r' rr =>
   cases rr
   obtain ⟨t,rfl⟩:=r
   obtain ⟨t',rfl⟩:=r'
   exact call_range_2 (W00 I1 q1 q2 q3 q4 q)
noncomputable def y82 (wi:TI) (g:TG) (tb:TS):TS:=fun D σ H=>wi σ H fun J H1=>∃ W:Nat→Nat→St→Hp→Prop,(∃ m,W 0 m σ H1)∧∀ i m σ H,W i m σ H →
 (J.stop i H∧D.nx σ H)∨(J.go i H∧∃ N:St→Hp→Prop,(∀ σ' H',N σ' H'→∃ m',m' < m∧W (i + 1) m' σ' H')∧∀ x H',J.yld i H x H'→g x σ H' fun σ2 H2=>tb { D with nx:=N,ct:=N,bk:=D.nx } σ2 H2)
noncomputable def y50 (fp:List Addr) (h:Heap):List (Addr × Obj):=fp.filterMap fun b=>(h.get? b).map fun o=>(b,o)
theorem l10 {fp:List Addr}{h:Heap}{b:Addr}{o:Obj} (hb:b∈fp) (e:h.get? b=some o):(b,o)∈y50 fp h:=List.mem_filterMap.mpr ⟨b,hb,by rw [e];rfl⟩
theorem K20 {fp:List Addr}{h:Heap}{p:Addr × Obj} (hp:p∈y50 fp h):p.1∈fp∧h.get? p.1=some p.2:=by
 obtain ⟨b,hb,e⟩:=List.mem_filterMap.mp hp
 cases q:h.get? b with
 | none=>rw [q] at e;cases e
 | some o =>
  rw [q] at e
  have e':(b,o)=p:=Option.some.inj e
  subst e'
  exact ⟨hb,q⟩
theorem Inv.pinned {pins:List (Addr × Obj)}{σ:St}{H:Hp}{s:Shared}{fp:List Addr} (I:Inv X pins σ H s) (hf:∀ b∈fp,a51 X pins H b) (ho:∀ b∈fp,∃ o,s.heap.get? b=some o∧∀ v,o.data≠.cell v):Inv X (pins++y50 fp s.heap) σ H s :=
 I.y30 fun p hp=>(List.mem_append.mp hp).elim (fun z=>I.pin p (List.mem_append_right _ z)) fun z=>by
  obtain ⟨hb,e⟩:=K20 z
  obtain ⟨f0,f1,f2,_⟩:=hf p.1 hb
  obtain ⟨o,e',d⟩:=ho p.1 hb
  rw [e] at e';cases e'
  exact ⟨e,f0,f1,f2,d⟩
theorem Inv.E60 {pins pl:List (Addr × Obj)}{σ:St}{H:Hp}{s:Shared} (I:Inv X (pins++pl) σ H s):Inv X pins σ H s:=I.y30 fun p hp=>I.pin p (List.mem_append_right _ (List.mem_append_left _ hp))
theorem C01 {iter:Expr}{body:List Stmt}{wi:TI}{g:TG}{tb:TS}{pos:Pos} (hp:PassesOwn (model X.prog X.w) X.A X.env X.xe) (hc:X.calm=true) (hi:PI X tg iter wi) (hg:PG X tg g) (hb:PSs X body tb)
  (hs:∀ x,foldedSetIterable iter X.env x=pure x:=by intro _;rfl):PS X (.For tg iter body [] pos) (y82 wi g tb):=by
 intro pins s σ H D I h
 refine wpAny_For (thn (hi pins s σ H _ I h) fun v s1 h1=>thn h1 fun itv s2 h2=>?_) hs
 obtain ⟨it,fp,tn,J,H2,e,I2,T,st2,f2,W,⟨m0,w0⟩,turn⟩:=h2
 subst e
 -- what stays true of the iterator's objects through the loop
 have stat:∀ {H':Hp},(∀ b∈fp,H' b=none)→∀ b∈fp,a51 X pins H' b:=fun hn b hb=>⟨hn b hb,(f2 b hb).2⟩
 refine codeAny_forLoop_any (fun n s'=>∃ i σ' H',Inv X pins σ' H' s'∧tn i s'.heap∧(∀ b∈fp,H' b=none)∧W i n σ' H') ?_ m0 ⟨0,σ,H2,I2,st2,fun b hb=>(f2 b hb).1,w0⟩
 rintro n s3 ⟨i,σ3,H3,I3,st3,fr3,w3⟩
 rcases turn i n σ3 H3 w3 with ⟨stop,qn⟩ | ⟨go,N,hN,step⟩
 ·refine wpAny_passesOwn hp (thn (T.done X rfl rfl rfl hc i pins s3 σ3 H3 X.xe I3 (stat fr3) st3 stop) fun r s4 ⟨hr,I4⟩=>?_)
  subst hr
  exact wpAny_execs_nil ⟨σ3,H3,I4,qn⟩
 ·refine wpAny_passesOwn hp (thn (T.item X rfl rfl rfl hc i pins s3 σ3 H3 X.xe I3 (stat fr3) st3 go) fun r s4 ⟨u,hr,h4⟩=>?_)
  subst hr
  refine wpAny_passesOwn hp (thn h4 fun _ s5 ⟨x,H5,I5,r5,y5,st5,fr5⟩=>?_)
  have I5':=I5.pinned (stat fr5) (T.obj _ _ st5)
  refine wpAny_passesOwn hp (thn (hg _ s5 σ3 H5 x u _ I5' r5 (step x H5 y5)) fun _ s6 ⟨σ6,H6,I6,q6⟩=>?_)
  refine wpAny_passesOwn hp (thn (hb _ s6 σ6 H6 _ I6 q6) fun f s7 q7=>?_)
  have again:∀ {σ7:St}{H7:Hp},Inv X (pins++y50 fp s5.heap) σ7 H7 s7→N σ7 H7→∃ m,m < n∧∃ i σ' H',Inv X pins σ' H' s7∧tn i s7.heap∧(∀ b∈fp,H' b=none)∧W i m σ' H':=fun {σ7 H7} I7 n7=>by
   obtain ⟨m',hm,w7⟩:=hN σ7 H7 n7
   refine ⟨m',hm,i + 1,σ7,H7,I7.E60,T.keep _ _ _ st5 fun b hb o e=>(I7.pin (b,o) (List.mem_append_right _ (List.mem_append_right _ (l10 hb e)))).1,fun b hb=>?_,w7⟩
   obtain ⟨o,e,d⟩:=T.obj _ _ st5 b hb
   exact (I7.pin (b,o) (List.mem_append_right _ (List.mem_append_right _ (l10 hb e)))).2.1
  cases f with
  | next=>obtain ⟨σ7,H7,I7,n7⟩:=q7;exact again I7 n7
  | cont=>obtain ⟨σ7,H7,I7,n7⟩:=q7;exact again I7 n7
  | brk=>obtain ⟨σ7,H7,I7,q7⟩:=q7;exact ⟨σ7,H7,I7.E60,q7⟩
  | ret v=>obtain ⟨x7,σ7,H7,I7,r7,q7⟩:=q7;exact ⟨x7,σ7,H7,I7.E60,r7,q7⟩
end
end L2
namespace L2
open PySem PySem.Spec PyProof.Rows
noncomputable abbrev R2:=V→V→Hp→VK→Prop
noncomputable def OpR (X:Cx) (f:Value→Value→Sem Value) (r:R2):Prop :=
 ∀ (pins:List (Addr × Obj)) (s:Shared) (σ:St) (H:Hp) (x y:V) (v u:Value) (Q:VK),Inv X pins σ H s→RelV x v→RelV y u→r x y H Q →
  wpAny (model X.prog X.w) X.A (f v u) (EP X pins σ Q) X.xe s
noncomputable def UnR (X:Cx) (f:Value→Sem Value) (r:V→Hp→VK→Prop):Prop :=
 ∀ (pins:List (Addr × Obj)) (s:Shared) (σ:St) (H:Hp) (x:V) (v:Value) (Q:VK),Inv X pins σ H s→RelV x v→r x H Q →
  wpAny (model X.prog X.w) X.A (f v) (EP X pins σ Q) X.xe s
noncomputable def e70 (X:Cx) (f:Value) (r:List V→Hp→VK→Prop):Prop :=
 ∀ (pins:List (Addr × Obj)) (s:Shared) (σ:St) (H:Hp) (xs:List V) (us:List Value) (Q:VK),Inv X pins σ H s→Vals xs us→r xs H Q →
  wpAny (model X.prog X.w) X.A (call f us) (EP X pins σ Q) X.xe s
noncomputable def tOp (r:R2) (ta tb:TE):TE:=fun σ H Q=>ta σ H fun x H1=>tb σ H1 fun y H2=>r x y H2 Q
noncomputable def tUn (r:V→Hp→VK→Prop) (ta:TE):TE:=fun σ H Q=>ta σ H fun x H1=>r x H1 Q
noncomputable def rI (C:Int→Int→Prop) (g:Int→Int→V):R2:=fun x y H Q=>∃ i j,x=.int i∧y=.int j∧C i j∧Q (g i j) H
noncomputable def rI0 (g:Int→Int→V):R2:=fun x y H Q=>∃ i j,x=.int i∧y=.int j∧Q (g i j) H
noncomputable def rU (g:Int→V):V→Hp→VK→Prop:=fun x H Q=>∃ i,x=.int i∧Q (g i) H
section
variable {X:Cx}{a b c:Expr}{ta tb tc:TE}{pos:Pos}
theorem j42 (ha:PE X a ta) (hb:PE X b tb) {pins:List (Addr × Obj)}{s:Shared}{σ:St}{H:Hp}{R:V→V→Hp→Prop} (I:Inv X pins σ H s)
  (h:ta σ H fun x H1=>tb σ H1 fun y H2=>R x y H2) {Q:Value→Shared→Prop}{f:Value→Value→Sem Value}
  (hf:∀ v u s2 x y H2,Inv X pins σ H2 s2→RelV x v→RelV y u→R x y H2→wpAny (model X.prog X.w) X.A (f v u) Q X.xe s2) :
  wpAny (model X.prog X.w) X.A (eval a X.env) (fun v s₁=>wpAny (model X.prog X.w) X.A (eval b X.env) (fun u s₂=>wpAny (model X.prog X.w) X.A (f v u) Q X.xe s₂) X.xe s₁) X.xe s:=by
 refine thn (ha pins s σ H _ I h) fun v s1 ⟨x,H1,I1,r1,q1⟩=>?_
 refine thn (hb pins s1 σ H1 _ I1 q1) fun u s2 ⟨y,H2,I2,r2,q2⟩=>?_
 exact hf v u s2 x y H2 I2 r1 r2 q2
theorem t91 {op:Operator}{r:R2} (ho:OpR X (binaryOp op) r) (ha:PE X a ta) (hb:PE X b tb):PE X (.BinOp a op b pos) (tOp r ta tb):=by
 intro pins s σ H Q I h
 exact wpAny_BinOp (j42 ha hb I h fun v u s2 x y H2 I2 rx ry q=>ho pins s2 σ H2 x y v u Q I2 rx ry q)
theorem j52 {op:UnaryOp}{r:V→Hp→VK→Prop} (ho:UnR X (unaryOp op) r) (ha:PE X a ta):PE X (.UnaryOp op a pos) (tUn r ta):=by
 intro pins s σ H Q I h
 exact UnaryOp_ (thn (ha pins s σ H _ I h) fun v s1 ⟨x,H1,I1,r1,q1⟩=>ho pins s1 σ H1 x v Q I1 r1 q1)
theorem opI {f:Value→Value→Sem Value}{C:Int→Int→Prop}{g:Int→Int→Int}
  (rule:∀ (i j:Int) (t u:Tok) (s:Shared) (Q:Value→Shared→Prop) (E:Value→Shared→Prop),C i j→Q (.int (g i j) s.toks) { s with toks:=s.toks + 1 }→wpAny (model X.prog X.w) X.A (f (.int i t) (.int j u)) Q E s) :
  OpR X f (rI C fun i j=>.int (g i j)):=by
 intro pins s σ H x y v u Q I rx ry h
 obtain ⟨i,j,rfl,rfl,hc,q⟩:=h
 obtain ⟨t,rfl⟩:=rx
 obtain ⟨t',rfl⟩:=ry
 exact rule i j t t' s _ _ hc ⟨.int (g i j),H,I.tok _,⟨_,rfl⟩,q⟩
theorem j62 {f:Value→Value→Sem Value}{g:Int→Int→Int}
  (rule:∀ (i j:Int) (t u:Tok) (s:Shared) (Q:Value→Shared→Prop) (E:Value→Shared→Prop),Q (.int (g i j) s.toks) { s with toks:=s.toks + 1 }→wpAny (model X.prog X.w) X.A (f (.int i t) (.int j u)) Q E s) :
  OpR X f (rI0 fun i j=>.int (g i j)):=by
 intro pins s σ H x y v u Q I rx ry h
 obtain ⟨i,j,rfl,rfl,q⟩:=h
 obtain ⟨t,rfl⟩:=rx
 obtain ⟨t',rfl⟩:=ry
 exact rule i j t t' s _ _ ⟨.int (g i j),H,I.tok _,⟨_,rfl⟩,q⟩
theorem j72 {f:Value→Value→Sem Value}{g:Int→Int→Bool}
  (rule:∀ (i j:Int) (t u:Tok) (s:Shared) (Q:Value→Shared→Prop) (E:Value→Shared→Prop),Q (.bool (g i j)) s→wpAny (model X.prog X.w) X.A (f (.int i t) (.int j u)) Q E s) :
  OpR X f (rI0 fun i j=>.bl (g i j)):=by
 intro pins s σ H x y v u Q I rx ry h
 obtain ⟨i,j,rfl,rfl,q⟩:=h
 obtain ⟨t,rfl⟩:=rx
 obtain ⟨t',rfl⟩:=ry
 exact rule i j t t' s _ _ ⟨.bl (g i j),H,I,rfl,q⟩
noncomputable def v82 (i j:Int):Prop:=0≤j∧j≤1000000∧i.natAbs < 2 ^ 64
theorem T81:OpR X (binaryOp .Add) (rI0 fun i j=>.int (i + j)):=j62 fun _ _ _ _ _ _ _ q=>add_int q
theorem T91:OpR X (binaryOp .Sub) (rI0 fun i j=>.int (i - j)):=j62 fun _ _ _ _ _ _ _ q=>sub_int q
theorem U01:OpR X (binaryOp .Mod) (rI (fun _ j=>0 < j) fun i j=>.int (i % j)):=opI fun i j _ _ _ _ _ hc q=>by
 have h1:(0:Int) < j:=hc
 exact mod_int' (by omega) (by rw [Int.fmod_eq_emod_of_nonneg i (by omega)];exact q)
theorem U11:OpR X (binaryOp .Pow) (rI v82 fun i j=>.int (i ^ j.toNat)):=opI fun _ _ _ _ _ _ _ hc q=>pow_int_small hc.1 hc.2.1 hc.2.2 q
theorem U21:OpR X (binaryOp .LShift) (rI v82 fun i j=>.int (i * 2 ^ j.toNat)):=opI fun _ _ _ _ _ _ _ hc q=>lshift_int_small hc.1 hc.2.1 hc.2.2 q
theorem U31:OpR X (binaryOp .BitAnd) (rI0 fun i j=>.int (Builtin.bitAnd i j)):=j62 fun _ _ _ _ _ _ _ q=>and_int q
theorem unI {f:Value→Sem Value}{g:Int→Int}
  (rule:∀ (i:Int) (t:Tok) (s:Shared) (Q:Value→Shared→Prop) (E:Value→Shared→Prop),Q (.int (g i) s.toks) { s with toks:=s.toks + 1 }→wpAny (model X.prog X.w) X.A (f (.int i t)) Q E s) :
  UnR X f (rU fun i=>.int (g i)):=by
 intro pins s σ H x v Q I rx h
 obtain ⟨i,rfl,q⟩:=h
 obtain ⟨t,rfl⟩:=rx
 exact rule i t s _ _ ⟨.int (g i),H,I.tok _,⟨_,rfl⟩,q⟩
theorem U41:UnR X (unaryOp .USub) (rU fun i=>.int (-i)):=unI fun _ _ _ _ _ q=>neg_int q
end
section
variable {X:Cx}{a b c:Expr}{ta tb tc:TE}{pos:Pos}
theorem W10 {pins:List (Addr × Obj)}{σ:St}{H:Hp}{s:Shared}{Q:VK}{k k':Bool} (I:Inv X pins σ H s) (q:Q (.bl k) H) (e:k=k'):EP X pins σ Q (.bool k') s:=by
 subst e
 exact ⟨.bl k,H,I,rfl,q⟩
theorem j82:OpR X (compareOp .LtE) (rI0 fun i j=>.bl (decide (i≤j))):=j72 fun _ _ _ _ _ _ _ q=>le_int q
theorem j92:OpR X (compareOp .Gt) (rI0 fun i j=>.bl (decide (j < i))):=j72 fun _ _ _ _ _ _ _ q=>gt_int q
theorem k02:OpR X (compareOp .GtE) (rI0 fun i j=>.bl (decide (j≤i))):=j72 fun _ _ _ _ _ _ _ q=>ge_int q
theorem U51:OpR X (compareOp .Is) (fun x y H Q=>y=.non∧Q (.bl (decide (x=.non))) H):=by
 intro pins s σ H x y v u Q I rx ry h
 obtain ⟨rfl,q⟩:=h
 cases ry
 refine is_none_gen (W10 I q ?_)
 cases x <;> first
  |(cases rx;rfl)
  |(obtain ⟨t,rfl⟩:=rx;rfl)
theorem G01:OpR X (compareOp .IsNot) (fun x y H Q=>y=.non∧Q (.bl (!decide (x=.non))) H):=by
 intro pins s σ H x y v u Q I rx ry h
 obtain ⟨rfl,q⟩:=h
 cases ry
 refine isnot_none_gen (W10 I q ?_)
 cases x <;> first
  |(cases rx;rfl)
  |(obtain ⟨t,rfl⟩:=rx;rfl)
theorem G11 {op:CmpOp}{r:R2} (ho:OpR X (compareOp op) r) (ha:PE X a ta) (hb:PE X b tb) (hm:behindInMarks op b=false):PE X (.Compare a [op] [b] pos) (tOp r ta tb):=by
 intro pins s σ H Q I h
 exact wpAny_Compare1 (j42 ha hb I h fun v u s2 x y H2 I2 rx ry q=>ho pins s2 σ H2 x y v u Q I2 rx ry q) hm
noncomputable def U61 (t:TE):TT:=fun σ H Q=>t σ H fun x H'=>∃ k,x=.bl k∧Q k H'
theorem G21 {op:CmpOp}{r:R2} (ho:OpR X (compareOp op) r) (ha:PE X a ta) (hb:PE X b tb) (hm:behindInMarks op b=false):PT X (.Compare a [op] [b] pos) (U61 (tOp r ta tb)):=by
 intro pins s σ H Q I h
 refine wpAny_isTrue_Compare1 (thn (ha pins s σ H _ I h) fun v s1 ⟨x,H1,I1,r1,q1⟩=>thn (hb pins s1 σ H1 _ I1 q1) fun u s2 ⟨y,H2,I2,r2,q2⟩ =>
  thn (ho pins s2 σ H2 x y v u _ I2 r1 r2 q2) fun c s3 ⟨z,H3,I3,r3,k,e,q3⟩=>?_) hm
 subst e
 cases r3
 exact wpAny_truthy_bool ⟨H3,I3,q3⟩
noncomputable def f31 (r r':R2) (ta tb tc:TE):TE:=fun σ H Q=>ta σ H fun x H1=>tb σ H1 fun y H2=>r x y H2 fun z H3=>∃ k,z=.bl k ∧
 (if k=true then tc σ H3 fun w' H4=>r' y w' H4 Q else Q (.bl false) H3)
theorem u01 {op op':CmpOp}{r r':R2} (ho:OpR X (compareOp op) r) (ho':OpR X (compareOp op') r') (ha:PE X a ta) (hb:PE X b tb) (hc:PE X c tc)
  (hm:lastMarks [op,op'] [b,c]=false:=by with_unfolding_all rfl):PE X (.Compare a [op,op'] [b,c] pos) (f31 r r' ta tb tc):=by
 intro pins s σ H Q I h
 refine Compare_chain (thn (ha pins s σ H _ I h) fun v s1 ⟨x,H1,I1,r1,q1⟩=>chain_link (thn (hb pins s1 σ H1 _ I1 q1) fun u s2 ⟨y,H2,I2,r2,q2⟩ =>
  thn (ho pins s2 σ H2 x y v u _ I2 r1 r2 q2) fun d s3 ⟨z,H3,I3,r3,k,e,q3⟩=>?_)) hm
 subst e
 cases r3
 refine wpAny_truthy_bool ?_
 cases k with
 | false=>exact ite_ff ⟨.bl false,H3,I3,rfl,q3⟩
 | true=>exact ite_tt (chain_last (thn (hc pins s3 σ H3 _ I3 q3) fun w' s4 ⟨z',H4,I4,r4,q4⟩=>ho' pins s4 σ H4 y z' u w' Q I4 r2 r4 q4))
theorem u11 {op op':CmpOp}{r r':R2} (ho:OpR X (compareOp op) r) (ho':OpR X (compareOp op') r') (ha:PE X a ta) (hb:PE X b tb) (hc:PE X c tc)
  (hm:lastMarks [op,op'] [b,c]=false:=by with_unfolding_all rfl):PT X (.Compare a [op,op'] [b,c] pos) (U61 (f31 r r' ta tb tc)):=by
 intro pins s σ H Q I h
 refine isTrue_chain (thn (ha pins s σ H _ I h) fun v s1 ⟨x,H1,I1,r1,q1⟩=>test_link (thn (hb pins s1 σ H1 _ I1 q1) fun u s2 ⟨y,H2,I2,r2,q2⟩ =>
  thn (ho pins s2 σ H2 x y v u _ I2 r1 r2 q2) fun d s3 ⟨z,H3,I3,r3,k,e,q3⟩=>?_)) hm
 subst e
 cases r3
 refine wpAny_truthy_bool ?_
 cases k with
 | false =>
  obtain ⟨k',e',q'⟩:=q3
  cases e'
  exact ite_ff ⟨H3,I3,q'⟩
 | true =>
  refine ite_tt (test_last (thn (hc pins s3 σ H3 _ I3 q3) fun w' s4 ⟨z',H4,I4,r4,q4⟩=>thn (ho' pins s4 σ H4 y z' u w' _ I4 r2 r4 q4) fun d' s5 ⟨z2,H5,I5,r5,k2,e2,q5⟩=>?_))
  subst e2
  cases r5
  exact wpAny_truthy_bool ⟨H5,I5,q5⟩
theorem W20:(sizeLine:Nat) < 2 ^ 63:=by rw [sizeLine_eq];decide
theorem vals1 {x:V}{us:List Value} (r:Vals [x] us):∃ u,us=[u]∧RelV x u:=by
 cases r with
 | cons r1 r2=>cases r2;exact ⟨_,rfl,r1⟩
theorem vals2 {x y:V}{us:List Value} (r:Vals [x,y] us):∃ u w',us=[u,w']∧RelV x u∧RelV y w':=by
 cases r with
 | cons r1 r2 =>
  cases r2 with
  | cons r3 r4=>cases r4;exact ⟨_,_,rfl,r1,r3⟩
theorem u21:e70 X (.builtin "abs") (fun xs H Q=>∃ i,xs=[.int i]∧Q (.int (if i < 0 then -i else i)) H):=by
 intro pins s σ H xs us Q I r h
 obtain ⟨i,rfl,q⟩:=h
 obtain ⟨u,rfl,t,rfl⟩:=vals1 r
 exact call_abs_int fun u tk=>⟨.int (if i < 0 then -i else i),H,I.tok _,⟨_,rfl⟩,q⟩
theorem f41 (hc:X.calm=true):e70 X (.builtin "max") (fun xs H Q=>∃ i j,xs=[.int i,.int j]∧Q (.int (if j > i then j else i)) H):=by
 intro pins s σ H xs us Q I r h
 obtain ⟨i,j,rfl,q⟩:=h
 obtain ⟨u,w',rfl,⟨t,rfl⟩,⟨t',rfl⟩⟩:=vals2 r
 refine max_two_ints (I.ok.hd hc) fun h' tk k=>⟨_,H,I.kept k,?_,q⟩
 by_cases hj:j > i
 ·rw [if_pos hj,if_pos hj];exact ⟨_,rfl⟩
 ·rw [if_neg hj,if_neg hj];exact ⟨_,rfl⟩
theorem f51 (hc:X.calm=true):e70 X (.builtin "min") (fun xs H Q=>∃ i j,xs=[.int i,.int j]∧Q (.int (if j < i then j else i)) H):=by
 intro pins s σ H xs us Q I r h
 obtain ⟨i,j,rfl,q⟩:=h
 obtain ⟨u,w',rfl,⟨t,rfl⟩,⟨t',rfl⟩⟩:=vals2 r
 refine min_two_ints (I.ok.hd hc) fun h' tk k=>⟨_,H,I.kept k,?_,q⟩
 by_cases hj:j < i
 ·rw [if_pos hj,if_pos hj];exact ⟨_,rfl⟩
 ·rw [if_neg hj,if_neg hj];exact ⟨_,rfl⟩
theorem K30:e70 X (.type "int") (fun xs H Q=>(∃ i,xs=[.int i]∧Q (.int i) H)∨∃ k,xs=[.bl k]∧Q (.int (if k then 1 else 0)) H):=by
 intro pins s σ H xs us Q I r h
 rcases h with ⟨i,rfl,q⟩ | ⟨k,rfl,q⟩
 ·obtain ⟨u,rfl,t,rfl⟩:=vals1 r
  exact call_int_int ⟨.int i,H,I,⟨_,rfl⟩,q⟩
 ·obtain ⟨u,rfl,r1⟩:=vals1 r
  cases r1
  exact call_int_bool ⟨.int (if k then 1 else 0),H,I.tok _,⟨_,rfl⟩,q⟩
end
end L2
namespace L2
open PySem PySem.Spec PyProof.Rows
structure H42 (h:Heap) (x dx C:Addr) (mA:Str→Option Value):Prop where
 obj:h.get? x=some (PySem.W.instObj C dx)
 ns:h.Ns1 dx mA
 ne:dx≠x
section
variable {prog:Program}{w:World}{A:Around}{E:Value→Shared→Prop}{s:Shared}{K:PySem.W.Frag}{x dx C f:Addr}{mA:Str→Option Value}{name:Str}{v:Value}
end
section
variable {P:Program}{w:World}{H H':Hp}{h h':Heap}{a C dx:Addr}{fs fs':List (Str × V)}
end
structure Cls (K:PySem.W.Frag) (C:Addr):Prop where
 pg:PySem.W.plainGet K C Str.empty=true
 hd:PySem.W.hasDictIn K C=true
 po:PySem.W.plainOver K C=true
 sa:PySem.W.findIn K (.ref C) "__setattr__"=some (some (.builtin "object.__setattr__"))
structure Con (K:PySem.W.Frag) (C:Addr) (f:Str) (v:V) (u:Value):Prop where
 at_:PySem.W.findIn K (.ref C) f=some (some u)
 rel:RelV v u
 get:PySem.W.specialIn K u "__get__"=some none
 cp:PySem.W.copiedNames.contains f=false
structure Meth (K:PySem.W.Frag) (C:Addr) (m:Str) (f:Addr):Prop where
 at_:PySem.W.findIn K (.ref C) m=some (some (.ref f))
 fn:PySem.W.isFn K (.ref f)=true
 kp:PySem.W.keepIn K (.ref f)=true
section
variable {X:Cx}{pins:List (Addr × Obj)}{σ:St}{H:Hp}{s:Shared}{a C dx:Addr}{fs:List (Str × V)}{f:Str}{v:V}{A:Around}{E:Value→Shared→Prop}
end
section
variable {X:Cx}{o e value:Expr}{f:Str}{pos pos' tpos:Pos}{ta tv:TE}
end
section
variable {X:Cx}{pins:List (Addr × Obj)}{σ:St}{H:Hp}{s:Shared}{A:Around}{E:Value→Shared→Prop}{Q:Value→Shared→Prop}{c:Value}{b:Bool}
inductive f61 (K:PySem.W.Frag) (H:Hp):V→Value→Prop where
 | non:f61 K H .non (.type "NoneType")
 | bl (x:Bool):f61 K H (.bl x) (.type "bool")
 | int (i:Int):f61 K H (.int i) (.type "int")
 | str (x:Str):f61 K H (.str x) (.type "str")
 | flt (x:UInt64):f61 K H (.flt x) (.type "float")
 | lst {a:Addr}{xs:List V} (e:H a=some (.lst xs)):f61 K H (.ref a) (.type "list")
 | frz {a:Addr}{o:Obj}{xs:List V} (e:H a=some (.frz o (.lst xs))):f61 K H (.ref a) (.type "list")
 | tup {a:Addr}{xs:List V} (e:H a=some (.tup xs)):f61 K H (.ref a) (.type "tuple")
 | dK {a:Addr}{kvs:List (Key × V)} (e:H a=some (.dK kvs)):f61 K H (.ref a) (.type "dict")
 | dT {a:Addr}{kvs:List (List Key × V)} (e:H a=some (.dT kvs)):f61 K H (.ref a) (.type "dict")
 | ins {a C dx:Addr}{fs:List (Str × V)} (e:H a=some (.ins C dx fs)) (cl:Cls K C) (ha:PySem.W.findIn K (.ref C) "__class__"=some (some (.builtin "object.__class__")))
   (hn:PySem.W.specialIn K (.builtin "object.__class__") "__get__"=some (some (.builtin "getset_descriptor.__get__"))) (htk:PySem.W.takesIn K (.builtin "object.__class__")=some true)
   (hm:PySem.W.mroIn K C (.type "object")=some true):f61 K H (.ref a) (.ref C)
end
end L2
namespace L2
open PySem PySem.Spec PyProof.Rows
structure w00 (k:Nat) (A:Around):Prop where
 hd:A.handled=none
 dp:A.depth + 3 * k + 5 < recursionLimit
 un:A.units + 16 * k + 200 < cLine
theorem w00.deeper {k:Nat}{A:Around} (r:w00 (k + 1) A) (env:Env):w00 k (A.deeper env) :=
 ⟨r.hd,by have:=r.dp;show A.depth + 1 + 3 * k + 5 < _;omega,by have:=r.un;show A.units + 3 + 16 * k + 200 < _;omega⟩
theorem w00.depth {k:Nat}{A:Around} (r:w00 k A):A.depth < recursionLimit:=by have:=r.dp;omega
theorem w00.units {k:Nat}{A:Around} (r:w00 k A):A.units + 64 < cLine:=by have:=r.un;omega
noncomputable def v92:TA:=fun _ H Q=>Q [] H
noncomputable def U71 (ta:TE) (tr:TA):TA:=fun σ H Q=>ta σ H fun x H1=>tr σ H1 fun xs H2=>Q (x::xs) H2
section
variable {X:Cx}{e:Expr}{es:List Expr}{te:TE}{t:TA}{pos:Pos}
theorem r30:PA X [] v92:=fun _ _ _ _ H Q I h=>Calls.spliced_nil ⟨[],H,I,.nil,h⟩
theorem e50 (ha:PE X e te) (hr:PA X es t) (hs:starEach (e::es) X.env=(false,eval e X.env)::starEach es X.env:=by rfl):PA X (e::es) (U71 te t):=by
 intro pos pins s σ H Q I h
 rw [hs]
 show wpAny _ _ (spliced ((false,eval e X.env)::backTo pos (starEach es X.env))) _ _ s
 refine Calls.spliced_cons (thn (ha pins s σ H _ I h) fun u s1 ⟨x,H1,I1,r1,q1⟩=>?_)
 exact thn (hr pos pins s1 σ H1 _ I1 q1) fun us s2 ⟨xs,H2,I2,r2,q2⟩=>⟨x::xs,H2,I2,.cons r1 r2,q2⟩
noncomputable def y92 (t:TA):TE:=fun σ H Q=>t σ H fun xs H1=>xs.length≤sizeLine∧∀ p,H1 p=none→Q (.ref p) (upd H1 p (.tup xs))
noncomputable def z02 (t:TA):TE:=fun σ H Q=>t σ H fun xs H1=>xs.length≤sizeLine∧∀ p,H1 p=none→Q (.ref p) (upd H1 p (.lst xs))
theorem C11 {x1} (h:PA X es t):PE X (.Tuple es x1 pos) (y92 t):=by
 intro pins s σ H Q I hq
 refine wpAny_Tuple_spliced (thn (h pos pins s σ H _ I hq) fun us s1 ⟨xs,H1,I1,r,z,q⟩=>⟨by rw [← r.length];exact z,?_⟩)
 have hf:H1 s1.heap.objs.size=none:=I1.hok.fresh (Nat.le_refl _)
 refine ⟨.ref s1.heap.objs.size,upd H1 s1.heap.objs.size (.tup xs),I1.laid (t':=s1.toks) (fun b u e=>Heap.get?_push_of_some _ e) (Nat.le_refl _) ?_,rfl,q _ hf⟩
 exact ⟨z,us,r,⟨_,Heap.get?_push_size _ rfl,rfl,_,rfl⟩⟩
theorem C21 (h:PA X es t):PE X (.List es pos) (z02 t):=by
 intro pins s σ H Q I hq
 refine wpAny_List_spliced (thn (h pos pins s σ H _ I hq) fun us s1 ⟨xs,H1,I1,r,z,q⟩=>⟨by rw [← r.length];exact z,?_⟩)
 have hf:H1 s1.heap.objs.size=none:=I1.hok.fresh (Nat.le_refl _)
 refine ⟨.ref s1.heap.objs.size,upd H1 s1.heap.objs.size (.lst xs),I1.laid (t':=s1.toks) (fun b u e=>Heap.get?_push_of_some _ e) (Nat.le_refl _) ?_,rfl,q _ hf⟩
 exact ⟨z,us,0,r,Heap.get?_push_size _ rfl⟩
end
noncomputable abbrev Sp:=List V→Hp→VK→XK→Prop
noncomputable abbrev CXT:=List Env→Hp→Shared→XK→Value→Shared→Prop
structure C31 (P:Program) (w:World) (K:PySem.W.Frag) (mg:Str→Option Value) (base:Heap) (A:Around) (outer:List Env) (s:Shared) (H:Hp):Prop where
 frames:A.frames=some outer
 mod:Mod K mg base
 bs:∀ b o,base.get? b=some o→s.heap.get? b=some o∧H b=none
 bsz:base.objs.size≤s.heap.objs.size
 a41:s.heap.FunFrames base outer
 frf:∀ b∈frs outer,H b=none
 hok:HOk P w H s.heap
 bare:AllBare s.gens
noncomputable def CE (outer:List Env) (P:Program) (w:World) (H:Hp) (s:Shared) (Q:VK) (u:Value) (s':Shared):Prop :=
 ∃ v H',s'.os=s.os∧AllBare s'.gens∧Un (frs outer) [] H H' s.heap s'.heap∧HOk P w H' s'.heap∧RelV v u∧Q v H'
noncomputable def CR (CX:CXT) (outer:List Env) (P:Program) (w:World) (H:Hp) (s:Shared) (Q:VK) (E:XK) (r:Result) (s':Shared):Prop :=
 match r with
 | .ok (.ret u)=>CE outer P w H s Q u s'
 | .ok _=>False
 | .error e=>CX outer H s E e s'
structure Q40 (P:Program) (w:World) (K:PySem.W.Frag) (mg:Str→Option Value) (base:Heap) (CX:CXT) (k:Nat) (f:Addr) (fd:FuncData) (ps:List Str) (sp:Sp):Prop where
 len:∀ vs H Q E,sp vs H Q E→vs.length=ps.length
 run:∀ (A:Around) (outer:List Env) (s:Shared) (H:Hp) (args:Args) (us:List Value) (vs:List V) (Q:VK) (E:XK),w00 k A→C31 P w K mg base A outer s H→BindsTo s fd args (ps.zip us)→Vals vs us→sp vs H Q E →
  codeAny (model P w) A (.call (.ref f) args) (CR CX outer P w H s Q E) s
section
variable {X:Cx}{pins:List (Addr × Obj)}{σ:St}{H:Hp}{s s':Shared}
theorem Inv.k12 (I:Inv X pins σ H s):C31 X.prog X.w X.K X.mg X.base X.A X.stack s H :=
 ⟨I.ok.frames,I.ok.mod,I.bs,Nat.le_trans I.ok.bsz I.sz,I.stack,I.t50,I.hok,I.bare⟩
theorem Inv.after {Q:VK}{u:Value} (I:Inv X pins σ H s) (h:CE X.stack X.prog X.w H s Q u s'):EP X pins σ Q u s':=by
 obtain ⟨v,H',os,bare,un,hok,r,q⟩:=h
 obtain ⟨hh,g,d,t,os'⟩:=s'
 obtain rfl:os'=s.os:=os
 exact ⟨v,H',I.call (h':=hh) (g':=g) (d':=d) (t':=t) (ch:=[]) un hok bare (fun b z=>absurd z (by simp)),r,q⟩
end
noncomputable def k22 (sp:Sp) (dvs:List V) (E:XK) (t:TA):TE:=fun σ H Q=>t σ H fun vs H1=>sp (vs++dvs) H1 Q E
noncomputable def Binds (K:PySem.W.Frag) (fd:FuncData) (ps:List Str) (ds:List Value):Prop :=
 ∀ (s:Shared) (us:List Value),K.In s.heap→(us++ds).length=ps.length→BindsTo s fd ⟨us,[]⟩ (ps.zip (us++ds))
theorem Binds.all {K:PySem.W.Frag}{fd:FuncData}{ps:List Str} (h:∀ us:List Value,us.length=ps.length→bindArgs fd ⟨us,[]⟩=pure (ps.zip us)):Binds K fd ps []:=fun s us _ hl=>by
 rw [List.append_nil] at hl ⊢
 exact .of_eq (h us hl)
noncomputable def Passes (CX:CXT) (X:Cx) (E:XK):Prop:=∀ (pins:List (Addr × Obj)) (σ:St) (H:Hp) (s:Shared) (e:Value) (s':Shared),Inv X pins σ H s→CX X.stack H s E e s'→X.xe e s'
section
variable {X:Cx}{CX:CXT}{k:Nat}{f C:Addr}{fd:FuncData}{ps:List Str}{sp:Sp}{dvs:List V}{ds:List Value}{E:XK}{x m:Str}{p pos apos:Pos}{e o:Expr}{es:List Expr}{ta:TE}{t:TA}
theorem U81 {pins:List (Addr × Obj)}{σ:St}{H:Hp}{s:Shared}{Q:VK}{us:List Value}{vs:List V} (F:Q40 X.prog X.w X.K X.mg X.base CX k f fd ps sp) (hr:w00 k X.A) (hb:Binds X.K fd ps ds) (hd:Vals dvs ds) (hx:Passes CX X E)
  (I:Inv X pins σ H s) (r:Vals vs us) (h:sp (vs++dvs) H Q E):wpAny (model X.prog X.w) X.A (call (.ref f) us) (EP X pins σ Q) X.xe s:=by
 have r2:Vals (vs++dvs) (us++ds):=r.append hd
 have hl:(us++ds).length=ps.length:=by rw [← r2.length];exact F.len _ _ _ _ h
 refine wpAny_call (codeAny_mono (F.run X.A X.stack s H ⟨us,[]⟩ (us++ds) (vs++dvs) Q E hr I.k12 (hb s us I.kIn hl) r2 h) fun r s' hq=>?_)
 cases r with
 | error e=>exact hx pins σ H s e s' I hq
 | ok fl =>
  cases fl with
  | ret u=>exact I.after hq
  | next=>exact False.elim hq
  | brk=>exact False.elim hq
  | cont=>exact False.elim hq
theorem G31 (F:Q40 X.prog X.w X.K X.mg X.base CX k f fd ps sp) (hr:w00 k X.A) (hg:Gl X x) (hm:X.mg x=some (.ref f)) (hk:PySem.W.keepIn X.K (.ref f)=true) (hb:Binds X.K fd ps ds) (hd:Vals dvs ds) (hx:Passes CX X E)
  (ha:PA X (e::es) t) (hdb:(x == ("__debug__":Str))=false:=by decide) (he:starEach (e::es) X.env=(false,eval e X.env)::starEach es X.env:=by rfl) (hpl:(backTo pos (starEach es X.env)).any (·.1)=false:=by rfl) :
  PE X (.Call (.Name x p) (e::es) [] pos) (k22 sp dvs E t):=by
 intro pins s σ H Q I h
 refine wpAny_Call_Name_kw (E40 I hg hm ?_ hdb)
 refine PySem.W.callWith_K (h₀:=X.base) I.ok.mod.kin hk (thn (ha pos pins s σ H _ I h) fun us s1 ⟨vs,H1,I1,r,q⟩=>⟨I1.kIn,?_⟩) he hpl
 exact U81 F hr hb hd hx I1 r q
structure Mk (K:PySem.W.Frag) (C f:Addr):Prop where
 makes:PySem.W.makesIn K C=true
 init:PySem.W.findIn K (.ref C) "__init__"=some (some (.ref f))
 fn:PySem.W.isFn K (.ref f)=true
 kp:PySem.W.keepIn K (.ref C)=true
end
section
variable {X:Cx}{CX:CXT}{k:Nat}{f C:Addr}{fd:FuncData}{ps ks:List Str}{sp:Sp}{E:XK}{x m:Str}{p pos apos kpos:Pos}{e o:Expr}{es:List Expr}{kws:List Keyword}{te ta:TE}{t tk:TA}{nm:Option Str}
structure w02 (K:PySem.W.Frag) (fd:FuncData) (ps ks:List Str) (g:List Value→List Value→List Value) (gV:List V→List V→List V):Prop where
 to:∀ (s:Shared) (us ws:List Value),K.In s.heap→(g us ws).length=ps.length→BindsTo s fd ⟨us,ks.zip ws⟩ (ps.zip (g us ws))
 rel:∀ {vs:List V}{us:List Value}{zs:List V}{ws:List Value},Vals vs us→Vals zs ws→Vals (gV vs zs) (g us ws)
variable {g:List Value→List Value→List Value}{gV:List V→List V→List V}
end
structure k70 (N P:List Str) (sc:Scope):Prop where
 kind:sc.kind=.function
 co:sc.isCoroutine=false
 gen:sc.isGenerator=false
 nd:N.Nodup
 pre:N.take P.length=P
 par:∀ x∈P,sc.names.lookup x=some .local∨sc.names.lookup x=some .cell
 nofree:∀ y∈sc.names,y.2≠.free
theorem K40 {kindOf:Str→Option NameKind}{x:Str}:∀ {binds:List (Str × Value)}{m:Str→Option Value},(∀ v,(x,v) ∉ binds)→bindL kindOf binds m x=m x
 | [],_,_=>rfl
 |(n,v)::r,m,h=>by
  unfold bindL
  rw [K40 fun w hw=>h w (List.mem_cons_of_mem _ hw)]
  split
  ·have:x≠n:=by rintro rfl;exact h v List.mem_cons_self
   simp [this]
  ·rfl
theorem K50 {kindOf:Str→Option NameKind}{x:Str}:∀ {binds:List (Str × Value)}{m:Str→Option Value},(∀ v,(x,v) ∉ binds)→bindC kindOf binds m x=m x
 | [],_,_=>rfl
 |(n,v)::r,m,h=>by
  unfold bindC
  rw [K50 fun w hw=>h w (List.mem_cons_of_mem _ hw)]
  split
  ·rfl
  ·have:x≠n:=by rintro rfl;exact h v List.mem_cons_self
   simp [this]
theorem K60 {kindOf:Str→Option NameKind}{x:Str}{v:Value}:∀ {P:List Str}{vs:List Value}{i:Nat}{m:Str→Option Value},P.Nodup→P[i]?=some x→vs[i]?=some v→kindOf x=some .local →
  bindL kindOf (P.zip vs) m x=some v
 | [],_,_,_,_,h,_,_=>by simp at h
 | _::_,[],_,_,_,_,h,_=>by simp at h
 | p::P,w::vs,0,m,nd,h1,h2,hk=>by
  simp at h1 h2;subst h1;subst h2
  show bindL kindOf ((p,w)::P.zip vs) m p=_
  unfold bindL
  rw [K40 fun v hv=>(List.nodup_cons.mp nd).1 (List.of_mem_zip hv).1,if_pos hk]
  simp
 | p::P,w::vs,i + 1,m,nd,h1,h2,hk=>by
  show bindL kindOf ((p,w)::P.zip vs) m x=_
  unfold bindL
  exact K60 (i:=i) (List.nodup_cons.mp nd).2 (by simpa using h1) (by simpa using h2) hk
theorem K70 {kindOf:Str→Option NameKind}{x:Str}{v:Value}:∀ {P:List Str}{vs:List Value}{i:Nat}{m:Str→Option Value},P.Nodup→P[i]?=some x→vs[i]?=some v→kindOf x≠some .local →
  bindC kindOf (P.zip vs) m x=some v
 | [],_,_,_,_,h,_,_=>by simp at h
 | _::_,[],_,_,_,_,h,_=>by simp at h
 | p::P,w::vs,0,m,nd,h1,h2,hk=>by
  simp at h1 h2;subst h1;subst h2
  show bindC kindOf ((p,w)::P.zip vs) m p=_
  unfold bindC
  rw [K50 fun v hv=>(List.nodup_cons.mp nd).1 (List.of_mem_zip hv).1,if_neg hk]
  simp
 | p::P,w::vs,i + 1,m,nd,h1,h2,hk=>by
  show bindC kindOf ((p,w)::P.zip vs) m x=_
  unfold bindC
  exact K70 (i:=i) (List.nodup_cons.mp nd).2 (by simpa using h1) (by simpa using h2) hk
noncomputable def start (N:List Str) (vs:List V):St:=vs.map some++List.replicate (N.length - vs.length) none
noncomputable def B50 (CX:CXT) (P:Program) (w:World) (K:PySem.W.Frag) (mg:Str→Option Value) (base:Heap) (N:List Str) (qual:Str) (scope:Scope) (f:Addr) (cd:Value) (A:Around) (outer:List Env) (s:Shared) (H:Hp) (E:XK):Cx where
 prog:=P
 w:=w
 K:=K
 mg:=mg
 base:=base
 A:=A.deeper (envOfC qual scope s.heap.objs.size f cd)
 N:=N
 s₀:=s
 H₀:=H
 env:=envOfC qual scope s.heap.objs.size f cd
 outer:=outer
 stack:=envOfC qual scope s.heap.objs.size f cd::outer
 ex:=[]
 calm:=true
 fn:=fun _=>true
 pn:=[]
 xe:=fun e s'=>wpAny (model P w) (A.deeper (envOfC qual scope s.heap.objs.size f cd)) (leaving (envOfC qual scope s.heap.objs.size f cd) e) (fun _ s''=>CX outer H s E e s'') (fun e' s''=>CX outer H s E e' s'') s'
theorem W30 {sc:Scope}{n:Nat}{x:Str} (h:sc.names.lookup x=some .cell):∃ c,(cellsFrom n sc.names []).lookup x=some c:=by
 have q:=PySem.W.cellsFrom_some sc.names n [] (.inl h)
 exact Option.isSome_iff_exists.mp q
theorem K80 {CX:CXT}{P:Program}{w:World}{K:PySem.W.Frag}{mg:Str→Option Value}{base:Heap}{N ps:List Str}{qual:Str}{scope:Scope}{f:Addr}{cd:Value}{A:Around}{outer:List Env}{s s1:Shared}{H:Hp}{E:XK}{us:List Value}{vs:List V}
  (S:k70 N ps scope) (hd:A.handled=none) (e0:C31 P w K mg base A outer s H) (hl:vs.length=ps.length) (r:Vals vs us)
  (x:InCallC s s.heap.objs.size (bindL (envOfC qual scope s.heap.objs.size f cd).kindOf (ps.zip us) fun _=>none) (cellsFrom (s.heap.objs.size + 1) scope.names []) (bindC (envOfC qual scope s.heap.objs.size f cd).kindOf (ps.zip us) fun _=>none) s1) :
  Inv (B50 CX P w K mg base N qual scope f cd A outer s H E) [] (start N vs) H s1:=by
 have hpl:ps.length≤N.length:=by have:=congrArg List.length S.pre;rw [List.length_take] at this;omega
 obtain ⟨h1,tk,rfl,hk⟩:=x.done
 have noA:∀ b:Addr,b ∉ (B50 CX P w K mg base N qual scope f cd A outer s H E).ex:=fun b z=>absurd (show b∈([]:List Addr) from z) (by simp)
 refine ⟨⟨e0.mod,S.kind,rfl,rfl,Nat.le_refl _,fun y z c h1 h2=>?_,fun y hy=>?_,fun y c _ h=>?_,fun _=>hd,Around.frames_deeper e0.frames,.inr ⟨rfl,rfl⟩,fun b z=>absurd z (noA b),e0.bs,e0.bsz,fun b _ _=>noA b,fun b z=>absurd z (noA b),e0.a41,e0.frf⟩,
  rfl,e0.bare,Un.kept hk,⟨_,x.toInCall.ns,fun i y v h1 h2 h3=>?_⟩,fun y c h=>⟨_,x.cell y c h⟩,e0.hok.fresh (Nat.le_refl _),fun y c h=>?_,fun p hp=>absurd (show p∈([]:List (Addr × Obj)) from hp) (by simp),e0.hok.kept hk,?_⟩
 ·exact name_of_addr x.apart (PySem.mem_of_lookup h1) (PySem.mem_of_lookup h2)
 ·have hy:scope.names.lookup y=some .cell∨scope.names.lookup y=some .free:=hy
  rcases hy with hy | hy
  ·exact W30 hy
  ·exact absurd rfl (S.nofree _ (PySem.mem_of_lookup hy))
 ·exact Nat.le_of_lt (x.above y c (PySem.mem_of_lookup h))
 ·have hi:i < vs.length:=by
   unfold start at h2
   by_cases hi:i < vs.length
   ·exact hi
   ·rw [List.getElem?_append_right (by simpa using hi)] at h2
    rw [List.getElem?_replicate] at h2
    split at h2 <;> cases h2
  have ha:vs[i]?=some v:=by
   unfold start at h2
   rw [List.getElem?_append_left (by simpa using hi),List.getElem?_map] at h2
   cases e:vs[i]? with
   | none=>rw [e] at h2;cases h2
   | some a=>rw [e] at h2;cases h2;rfl
  obtain ⟨u,hu,rv⟩:=r.get ha
  have hp:ps[i]?=some y:=by
   rw [← S.pre,List.getElem?_take_of_lt (by omega)];exact h1
  have ndP:ps.Nodup:=by rw [← S.pre];exact S.nd.sublist (List.take_sublist _ _)
  refine ⟨u,rv,?_⟩
  rcases S.par y (List.mem_of_getElem? hp) with k | k
  ·exact .inl ⟨k,K60 ndP hp hu k⟩
  ·obtain ⟨c,e⟩:=W30 (n:=s.heap.objs.size + 1) k
   refine .inr ⟨.inl k,c,e,?_⟩
   have q:=x.cell y c e
   rw [K70 ndP hp hu (by show scope.names.lookup y≠_;rw [k];decide)] at q
   exact q
 ·exact e0.hok.fresh (Nat.le_of_lt (x.above y c (PySem.mem_of_lookup h)))
 ·unfold start
  show _=N.length
  rw [List.length_append,List.length_map,List.length_replicate]
  omega
theorem k32 {CX:CXT}{P:Program}{w:World}{K:PySem.W.Frag}{mg:Str→Option Value}{base:Heap}{k:Nat}{f:Addr}{name qual:Str}{params:Arguments}{body:List Stmt}{scope:Scope}{dV kV doc pm cdv ct oc:Value}{an od:Option Addr}
  {osl:Array (Option Value)}{N ps:List Str}{sp:Sp} (lk:K.lookup f=some ⟨oc,od,.func (PySem.W.fnOf name qual params body scope dV kV doc pm an cdv ct),osl⟩) (hcd:PySem.W.codeIn K cdv qual=true) (S:k70 N ps scope)
  (len:∀ vs H Q E,sp vs H Q E→vs.length=ps.length)
  (hbody:∀ (A:Around) (outer:List Env) (s:Shared) (H:Hp) (vs:List V) (Q:VK) (E:XK),w00 k (A.deeper (envOfC qual scope s.heap.objs.size f cdv))→sp vs H Q E →
   ∃ t,PSs (B50 CX P w K mg base N qual scope f cdv A outer s H E) body t∧t { nx:=fun _ H'=>Q .non H',rt:=Q } (start N vs) H) :
  Q40 P w K mg base CX (k + 1) f (PySem.W.fnOf name qual params body scope dV kV doc pm an cdv ct) ps sp:=by
 refine ⟨len,fun A outer s H args us vs Q E hr e0 hb r hsp=>?_⟩
 have hl:=len _ _ _ _ hsp
 have KX:K.In s.heap:=e0.mod.kin.keeps fun b o e=>(e0.bs b o e).1
 have lim:s.heap.NoLimit:=e0.mod.nolimit.keeps fun b o e=>(e0.bs b o e).1
 have hkind:∀ y∈ps.zip us,scope.names.lookup y.1=some .local∨(scope.names.lookup y.1=some .cell∧((cellsFrom (s.heap.objs.size + 1) scope.names []).lookup y.1).isSome=true):=fun ⟨n,v⟩ hy=>by
  rcases S.par n (List.of_mem_zip hy).1 with q | q
  ·exact .inl q
  ·exact .inr ⟨q,PySem.W.cellsFrom_some _ _ _ (.inl q)⟩
 refine codeAny_call_function hr.depth (KX _ _ lk) rfl S.co S.gen rfl (PySem.W.codeRec_of KX hcd) (hb _ _ _ _ ?_)
 refine wpAny_newFunctionEnv_cells S.kind hkind fun env he s1 x=>?_
 subst he
 refine ⟨lim.keeps x.toInCall.keep,codeAny_func ?_⟩
 obtain ⟨t,ht,hq⟩:=hbody A outer s H vs Q E (hr.deeper _) hsp
 have I:Inv (B50 CX P w K mg base N qual scope f cdv A outer s H E) [] (start N vs) H s1:=K80 S hr.hd e0 hl r x
 refine wpAny_mono (ht [] s1 (start N vs) H _ I hq) (fun fl s' hs=>?_) fun e s' hs=>hs
 have fin:∀ {σ':St}{H':Hp}{v:V}{u:Value},Inv (B50 CX P w K mg base N qual scope f cdv A outer s H E) [] σ' H' s'→RelV v u→Q v H'→CE outer P w H s Q u s' :=
  fun {σ' H' v u} J rv q=>⟨v,H',J.os,J.bare,J.base,J.hok,rv,q⟩
 cases fl with
 | ret u =>
  obtain ⟨v,σ',H',J,rv,q⟩:=hs
  exact fin J rv q
 | next =>
  obtain ⟨σ',H',J,q⟩:=hs
  exact fin (v:=V.non) (u:=Value.none) J rfl q
 | brk =>
  obtain ⟨_,_,_,q⟩:=hs
  exact False.elim q
 | cont =>
  obtain ⟨_,_,_,q⟩:=hs
  exact False.elim q
end L2
namespace L2
open PySem PySem.Spec PyProof.Rows
section
variable {X:Cx}{x:Str}{p pos:Pos}{e:Expr}{es:List Expr}{t:TA}{id T:String}{r:List V→Hp→VK→Prop}
noncomputable def tCB (r:List V→Hp→VK→Prop) (t:TA):TE:=fun σ H Q=>t σ H fun vs H1=>r vs H1 Q
theorem x30 (hc:e70 X (.builtin id) r) (hg:Gl X x) (hm:X.mg x=none) (hv:bootBuiltins x=some (.builtin id)) (ha:PA X (e::es) t) (hn:x≠"__name__":=by decide) (hdb:(x == ("__debug__":Str))=false:=by decide)
  (he:starEach (e::es) X.env=(false,eval e X.env)::starEach es X.env:=by rfl) (hpl:(backTo pos (starEach es X.env)).any (·.1)=false:=by rfl):PE X (.Call (.Name x p) (e::es) [] pos) (tCB r t):=by
 intro pins s σ H Q I h
 refine wpAny_Call_Name_kw (r10 I hg hm hv ?_ hn hdb)
 exact PyProof.Rows.callWith_builtin1 (thn (ha pos pins s σ H _ I h) fun us s1 ⟨vs,H1,I1,r1,q1⟩=>hc pins s1 σ H1 vs us Q I1 r1 q1) he hpl
theorem f71 (hc:e70 X (.type T) r) (hg:Gl X x) (hm:X.mg x=none) (hv:bootBuiltins x=some (.type T)) (ha:PA X (e::es) t) (hn:x≠"__name__":=by decide) (hdb:(x == ("__debug__":Str))=false:=by decide)
  (he:starEach (e::es) X.env=(false,eval e X.env)::starEach es X.env:=by rfl) (hpl:(backTo pos (starEach es X.env)).any (·.1)=false:=by rfl):PE X (.Call (.Name x p) (e::es) [] pos) (tCB r t):=by
 intro pins s σ H Q I h
 refine wpAny_Call_Name_kw (r10 I hg hm hv ?_ hn hdb)
 exact PyProof.Rows.callWith_type1 (thn (ha pos pins s σ H _ I h) fun us s1 ⟨vs,H1,I1,r1,q1⟩=>hc pins s1 σ H1 vs us Q I1 r1 q1) he hpl
end
end L2
namespace HT
open PySem PyProof.Rows
theorem u31 (A:Around) (s:Shared) (a:Int) (t:Tok) (c:Int) (u:Tok):∃ e,SeqAt.EqAt A s (.int a t) (.int c u) e∧(e=true↔a=c) :=
 ⟨(a == c),SeqAt.EqAt.int_int a t c u,by simp⟩
theorem W40 (A:Around) (s:Shared) (a:Int) (t:Tok) (c:Int) (u:Tok) (prog:Program) (w:World) (E:Value→Shared→Prop) (Q:Value→Shared→Prop) (h:Q (.bool (decide (a < c))) s) :
  wpAny (model prog w) A (richCompare .Lt (.int a t) (.int c u)) Q E s :=
 (PyProof.Rows.lt_int h:wpAny (model prog w) A (compareOp .Lt (.int a t) (.int c u)) Q E s)
section
open PySem.SeqAt
open PySem.AutoSeq1 (wpAny_loadPart')
open PySem.MeetsSeq PySem.MeetsSeq2 PySem.MeetsSeq3
end
section
variable {prog:Program}{w:World}{A:Around}{E:Value→Shared→Prop}{s:Shared}
theorem G41 {t b:Addr}{vs ws:List Value}{Q:Value→Shared→Prop} (ht:IsTup s.heap t vs.toArray) (hb:IsTup s.heap b ws.toArray) (hv:vs≠[])
  (h1:ws=[]→Q (.ref t) s) (h2:ws≠[]→Q (.ref s.heap.objs.size) { s with heap:=s.heap.push { cls:=.type "tuple",data:=.seq (vs++ws).toArray } })
  (hsz:vs.length + ws.length≤sizeLine):wpAny (model prog w) A (binaryOp .Add (.ref t) (.ref b)) Q E s:=by
 obtain ⟨⟨cls,dd,data,sl⟩,ho,hc,n,hd⟩:=id ht
 obtain ⟨⟨cls2,dd2,data2,sl2⟩,ho2,hc2,n2,hd2⟩:=id hb
 simp only at hc hd hc2 hd2
 subst hc hd hc2 hd2
 have e:vs.toArray++ws.toArray=(vs++ws).toArray:=by simp
 by_cases hw:ws=[]
 ·exact concat_meets ⟨_,ho,rfl⟩ ⟨_,ho2,rfl⟩ noFill_tuple_add seq_tuple_add PySem.F.slot_tuple_add PySem.F.entry_tuple_add (PySem.F.args_tuple_add_2 _ _)
   (tuple_addW1 t b vs.toArray ws.toArray n n2 dd dd2 sl sl2 (by simpa using hv) (by simp [hw])) ⟨ho,ho2,h1 hw⟩
 ·refine concat_meets ⟨_,ho,rfl⟩ ⟨_,ho2,rfl⟩ noFill_tuple_add seq_tuple_add PySem.F.slot_tuple_add PySem.F.entry_tuple_add (PySem.F.args_tuple_add_2 _ _)
   (tuple_addW2 t b vs.toArray ws.toArray n n2 dd dd2 sl sl2 (by simpa using hv) (by simpa using hw) (by rw [List.size_toArray,List.size_toArray];exact hsz)) ⟨ho,ho2,?_⟩
  rw [e]
  exact h2 hw
noncomputable def sIx (n d:Nat):Option Int→Nat
 | none=>d
 | some v=>if v < 0 then (v + (n:Int)).toNat else min v.toNat n
theorem R10 (n d k:Nat):sIx n d (some (k:Int))=min k n:=by
 show (if (k:Int) < 0 then ((k:Int) + (n:Int)).toNat else min (k:Int).toNat n)=min k n
 rw [if_neg (by omega),Int.toNat_natCast]
theorem U91 (n d:Nat) (hd:d≤n) (o:Option Int):sIx n d o≤n:=by
 cases o with
 | none=>exact hd
 | some v =>
  show (if v < 0 then (v + (n:Int)).toNat else min v.toNat n)≤n
  by_cases hv:v < 0
  ·rw [if_pos hv];omega
  ·rw [if_neg hv];exact Nat.min_le_right _ _
theorem f81 (v:Int) (n d:Nat):(if v < 0 then max (v + (n:Int)) 0 else min v (n:Int))=((sIx n d (some v):Nat):Int):=by
 show (if v < 0 then max (v + (n:Int)) 0 else min v (n:Int))=(((if v < 0 then (v + (n:Int)).toNat else min v.toNat n):Nat):Int)
 by_cases hv:v < 0
 ·simp only [if_pos hv];omega
 ·simp only [if_neg hv];omega
theorem a81 (lo hi:Option Int) (n:Nat):Builtin.Slice.sliceAdjust lo hi 1 (n:Int)=(((sIx n 0 lo:Nat):Int),((sIx n n hi:Nat):Int)):=by
 have h1:¬ ((1:Int) < 0):=by omega
 unfold Builtin.Slice.sliceAdjust
 simp only [h1,if_false]
 refine Prod.ext ?_ ?_
 ·cases lo with
  | none=>rfl
  | some v=>exact f81 v n 0
 ·cases hi with
  | none=>rfl
  | some v=>exact f81 v n n
theorem a91 (i j:Nat):Builtin.Slice.slicePlaces (i:Int) (j:Int) 1=j - i:=by
 unfold Builtin.Slice.slicePlaces
 have h1:(1:Int) > 0:=by omega
 simp only [h1,if_true,Int.ediv_one]
 split <;> omega
theorem C60 {v:Value}{o:Option Int}{Q:Option Int→Shared→Prop} (p:IsPart v o) (h:Q o s):wpAny (model prog w) A (Builtin.Slice.slicePartIndex v) Q E s:=by
 cases p with
 | none=>exact slicePart_none h
 | int i t=>exact slicePart_int h
theorem n00 {sl:Addr}{vl vu:Value}{lo hi:Option Int}{n:Nat}{Q:Int × Int × Nat→Shared→Prop} (hs:s.heap.IsSliceOf sl vl vu .none) (pl:IsPart vl lo) (pu:IsPart vu hi)
  (h:Q (((sIx n 0 lo:Nat):Int),1,sIx n n hi - sIx n 0 lo) s):wpAny (model prog w) A (Builtin.Slice.sliceApplied (.ref sl) (pure (n:Int))) Q E s:=by
 obtain ⟨os,hos,hcs,hds⟩:=id hs
 unfold Builtin.Slice.sliceApplied Builtin.Slice.sliceFields
 refine wpAny_bind (wpAny_bind (wpAny_field hos hds (x:=vl) rfl (wpAny_bind (wpAny_field hos hds (x:=vu) rfl (wpAny_bind (wpAny_field hos hds (x:=.none) rfl (wpAny_pure ?_)))))))
 refine wpAny_bind (slicePart_none ?_)
 show wpAny _ _ (if ((1:Int) == 0)=true then _ else _) _ _ s
 rw [if_neg (by decide)]
 refine wpAny_bind (C60 pl (wpAny_bind (C60 pu (wpAny_bind (wpAny_pure ?_)))))
 show wpAny _ _ (match Builtin.Slice.sliceAdjust lo hi 1 (n:Int) with | (lo,hi)=>pure (lo,(1:Int),Builtin.Slice.slicePlaces lo hi 1)) _ _ s
 rw [a81 lo hi n]
 show wpAny _ _ (pure (((sIx n 0 lo:Nat):Int),(1:Int),Builtin.Slice.slicePlaces ((sIx n 0 lo:Nat):Int) ((sIx n n hi:Nat):Int) 1)) _ _ s
 rw [a91]
 exact wpAny_pure h
theorem u41 (xs:Array Value) (i k:Nat):((List.range k).filterMap fun (m:Nat)=>xs[((i:Int) + (m:Int) * 1).toNat]?).toArray=((xs.toList.drop i).take k).toArray:=by
 have e:(fun (m:Nat)=>xs[((i:Int) + (m:Int) * 1).toNat]?)=fun m=>xs[i + m]?:=by
  funext m
  have:((i:Int) + (m:Int) * 1).toNat=i + m:=by omega
  rw [this]
 rw [e]
 have:=pick_run xs i k
 rw [List.filterMap_map] at this
 have e2:((fun x=>xs[x]?) ∘ fun x=>i + x)=fun m=>xs[i + m]?:=rfl
 rw [e2] at this
 rw [this]
theorem t60 {t sl:Addr}{items:Array Value}{vl vu:Value}{lo hi:Option Int}{Q:Value→Shared→Prop} (ht:IsTup s.heap t items) (hs:s.heap.IsSliceOf sl vl vu .none) (pl:IsPart vl lo) (pu:IsPart vu hi)
  (hw:¬ (sIx items.size 0 lo=0∧sIx items.size items.size hi=items.size))
  (h:Q (.ref s.heap.objs.size) { s with heap:=s.heap.push { cls:=.type "tuple",data:=.seq ((items.toList.drop (sIx items.size 0 lo)).take (sIx items.size items.size hi - sIx items.size 0 lo)).toArray } })
  (hsz:items.size≤sizeLine):wpAny (model prog w) A (getItem (.ref t) (.ref sl)) Q E s:=by
 have htake:sizeOk (.seq ((items.toList.drop (sIx items.size 0 lo)).take (sIx items.size items.size hi - sIx items.size 0 lo)).toArray):=by
  show ((items.toList.drop (sIx items.size 0 lo)).take (sIx items.size items.size hi - sIx items.size 0 lo)).toArray.size≤sizeLine
  rw [List.size_toArray,List.length_take,List.length_drop,Array.length_toList]
  omega
 have hj:sIx items.size items.size hi≤items.size:=U91 _ _ (Nat.le_refl _) hi
 obtain ⟨os,hos,hcs,hds⟩:=id hs
 have hTs:s.TypeIs (.ref sl) "slice":=⟨os,hos,hcs⟩
 unfold getItem
 try with_reducible refine wpAny_holding ?_
 first | refine wpAny_bind (wpAny_pure ?_) | skip
 refine wpAny_bind (wpAny_sequenceKey ht.typeIs (by decide) ?_)
 refine wpAny_bind (wpAny_callSpecial?_slot (name:=Str.ofString "__getitem__") ht.typeIs PyProof.Rows.slot_tuple_getitem
  (wpAny_call_entry PyProof.Rows.slot_tuple_getitem ht.typeIs entry_tuple_getitem ?_ (args_tuple_getitem _ _)))
 show wpAny _ _ (Builtin.Tuple.tupleItemsOf (.ref t) >>= _) _ _ s
 refine wpAny_bind (tupleItemsOf_ ht ?_)
 refine wpAny_bind (wpAny_typeOf hTs ?_)
 rw [if_pos (by decide)]
 refine wpAny_bind (n00 hs pl pu ?_)
 have hno:¬ ((((sIx items.size 0 lo:Nat):Int) == 0&&(1:Int) == 1&&(sIx items.size items.size hi - sIx items.size 0 lo) == items.size)=true):=by
  intro q
  rw [Bool.and_eq_true,Bool.and_eq_true] at q
  have q1:((sIx items.size 0 lo:Nat):Int)=0:=eq_of_beq q.1.1
  have q2:sIx items.size items.size hi - sIx items.size 0 lo=items.size:=eq_of_beq q.2
  exact hw ⟨by omega,by omega⟩
 show wpAny _ _ (if (((sIx items.size 0 lo:Nat):Int) == 0&&(1:Int) == 1&&(sIx items.size items.size hi - sIx items.size 0 lo) == items.size)=true then _ else _) _ _ s
 rw [if_neg hno,u41]
 first
  | exact wpAny_bind (m:=Builtin.Tuple.tupleExact _) (wpAny_newObj_type (wpAny_pure ⟨_,rfl,wpAny_pure h⟩) htake)
  | exact wpAny_bind (m:=Builtin.Tuple.tupleExact _) (wpAny_newObj_type (wpAny_bind (wpAny_pure (wpAny_pure ⟨_,rfl,wpAny_pure h⟩))) htake)
  | exact wpAny_bind (wpAny_bind (m:=Builtin.Tuple.tupleExact _) (wpAny_newObj_type (wpAny_pure (wpAny_pure ⟨_,rfl,wpAny_pure h⟩)) htake))
  | exact wpAny_bind (wpAny_bind (m:=Builtin.Tuple.tupleExact _) (wpAny_newObj_type (wpAny_pure ⟨_,rfl,wpAny_pure h⟩) htake))
end
end HT
namespace L2
open PySem PySem.Spec PyProof.Rows
noncomputable abbrev TO:=St→Hp→(Option Int→Hp→Prop)→Prop
noncomputable def PO (X:Cx) (e:Option Expr) (t:TO):Prop :=
 ∀ (pins:List (Addr × Obj)) (s:Shared) (σ:St) (H:Hp) (Q:Option Int→Hp→Prop),Inv X pins σ H s→t σ H Q →
  wpAny (model X.prog X.w) X.A (evalPart e X.env) (fun u s'=>∃ o H',Inv X pins σ H' s'∧IsPart u o∧Q o H') X.xe s
noncomputable def G51:TO:=fun _ H Q=>Q none H
noncomputable def k42 (t:TE):TO:=fun σ H Q=>t σ H fun x H1=>∃ i,x=.int i∧Q (some i) H1
theorem intsAre_of {ns:List Int}:∀ {us:List Value},Vals (ns.map V.int) us→IntsAre us ns:=by
 induction ns with
 | nil=>intro us r;rw [List.map_nil] at r;cases r;exact .nil
 | cons n ns ih =>
  intro us r
  rw [List.map_cons] at r
  cases r with
  | cons r1 r2 =>
   obtain ⟨t,e⟩:=r1
   subst e
   exact .cons n t (ih r2)
section
variable {X:Cx}{e:Expr}{te:TE}{lo hi:Option Expr}{tl th:TO}{pos p2:Pos}
theorem G61:PO X none G51:=by
 intro pins s σ H Q I h
 rw [evalPart_none]
 exact wpAny_pure ⟨none,H,I,.none,h⟩
theorem G71 (h:PE X e te):PO X (some e) (k42 te):=by
 intro pins s σ H Q I hw
 rw [evalPart_some]
 refine thn (h pins s σ H _ I hw) fun u s1 ⟨x,H1,I1,r1,q1⟩=>?_
 obtain ⟨i,rfl,q⟩:=q1
 obtain ⟨t,rfl⟩:=r1
 exact ⟨some i,H1,I1,.int i t,q⟩
noncomputable def SlR (X:Cx) (r:V→Option Int→Option Int→Hp→VK→Prop):Prop :=
 ∀ (pins:List (Addr × Obj)) (s:Shared) (σ:St) (H:Hp) (x:V) (v vl vu:Value) (lo hi:Option Int) (sl:Addr) (Q:VK),Inv X pins σ H s→RelV x v→s.heap.IsSliceOf sl vl vu .none→IsPart vl lo→IsPart vu hi→r x lo hi H Q →
  ∃ T id,typeLookup (.type T) "__getitem__"=pure (some (.builtin id))∧s.TypeIs v T∧wpAny (model X.prog X.w) X.A (getItem v (.ref sl)) (EP X pins σ Q) X.xe s
noncomputable def tSl (r:V→Option Int→Option Int→Hp→VK→Prop) (te:TE) (tl th:TO):TE:=fun σ H Q=>te σ H fun x H1=>tl σ H1 fun l H2=>th σ H2 fun u H3=>r x l u H3 Q
theorem u51 {r:V→Option Int→Option Int→Hp→VK→Prop} (hr:SlR X r) (he:PE X e te) (hl:PO X lo tl) (hu:PO X hi th):PE X (.Subscript e (.Slice lo hi none p2) pos) (tSl r te tl th):=by
 intro pins s σ H Q I h
 refine Subscript_ (thn (he pins s σ H _ I h) fun v s1 ⟨x,H1,I1,r1,q1⟩=>?_)
 refine wpAny_Slice (thn (hl pins s1 σ H1 _ I1 q1) fun vl s2 ⟨l,H2,I2,pl,q2⟩=>thn (hu pins s2 σ H2 _ I2 q2) fun vu s3 ⟨u,H3,I3,pu,q3⟩=>?_)
 rw [evalPart_none]
 refine wpAny_pure ?_
 have I4:Inv X pins σ H3 { s3 with heap:=s3.heap.push { cls:=.type "slice",data:=.fields #[vl,vu,.none] } }:=I3.kept (t':=s3.toks) fun b ob q=>Heap.get?_push_of_some _ q
 obtain ⟨T,id,hT,ht,hg⟩:=hr pins { s3 with heap:=s3.heap.push { cls:=.type "slice",data:=.fields #[vl,vu,.none] } } σ H3 x v vl vu l u s3.heap.objs.size Q I4 r1 (Heap.IsSliceOf.new ..) pl pu q3
 show wpAny (model X.prog X.w) X.A (subscriptTail e (.Slice lo hi none p2) v (.ref s3.heap.objs.size)) (EP X pins σ Q) X.xe { s3 with heap:=s3.heap.push { cls:=.type "slice",data:=.fields #[vl,vu,.none] } }
 exact tail_any (ops:=[.ref s3.heap.objs.size,v]) ht hT hg (by with_unfolding_all rfl)
noncomputable def u61 (xs:List V) (lo hi:Option Int):List V:=(xs.drop (HT.sIx xs.length 0 lo)).take (HT.sIx xs.length xs.length hi - HT.sIx xs.length 0 lo)
theorem y60 (xs:List V) (lo hi:Option Int):(u61 xs lo hi).length≤xs.length:=by
 unfold u61
 rw [List.length_take,List.length_drop]
 omega
theorem Vals.y70 {xs:List V}{us:List Value} (r:Vals xs us):us=[]↔xs=[]:=by
 cases r with
 | nil=>simp
 | cons _ _=>simp
end
end L2
namespace L2
open PySem PySem.Spec PyProof.Rows
noncomputable def ixN (n:Nat) (i:Int):Option Nat:=if 0≤i then (if i < n then some i.toNat else none) else if -(n:Int)≤i then some (i + n).toNat else none
noncomputable def atI {α:Type} (xs:List α) (i:Int):Option α:=(ixN xs.length i).bind fun j=>xs[j]?
theorem f91 {n:Nat}{i:Int}{j:Nat} (h:ixN n i=some j):seqIndex? i n=some j∧j < n∧-(n:Int)≤i∧i < n:=by
 unfold ixN at h
 by_cases h0:0≤i
 ·rw [if_pos h0] at h
  by_cases h1:i < n
  ·rw [if_pos h1] at h
   have e:i.toNat=j:=Option.some.inj h
   exact ⟨by rw [seqIndex_of h0 h1,e],by omega,by omega,h1⟩
  ·rw [if_neg h1] at h;cases h
 ·rw [if_neg h0] at h
  by_cases h1:-(n:Int)≤i
  ·rw [if_pos h1] at h
   have e:(i + n).toNat=j:=Option.some.inj h
   exact ⟨by rw [seqIndex_neg (by omega) h1,e],by omega,h1,by omega⟩
  ·rw [if_neg h1] at h;cases h
theorem g01 {α:Type}{xs:List α}{i:Int}{v:α} (h:atI xs i=some v):∃ j,seqIndex? i xs.length=some j∧xs[j]?=some v∧j < xs.length∧-(xs.length:Int)≤i∧i < xs.length:=by
 unfold atI at h
 cases e:ixN xs.length i with
 | none=>rw [e] at h;cases h
 | some j =>
  rw [e] at h
  obtain ⟨h1,h2,h3,h4⟩:=f91 e
  exact ⟨j,h1,h,h2,h3,h4⟩
theorem l80 {α:Type}{xs:List α}{j:Nat}{v:α} (h:xs[j]?=some v):atI xs (j:Int)=some v:=by
 have hj:j < xs.length:=(List.getElem?_eq_some_iff.mp h).1
 have e:ixN xs.length (j:Int)=some j:=by
  unfold ixN
  rw [if_pos (by omega),if_pos (by omega)];simp
 unfold atI;rw [e];exact h
noncomputable def g21 (b:Expr):Prop:=∀ o i,subscripted b false o i=operate [o,i] (getItem o i)
noncomputable def IxR (X:Cx) (r:R2):Prop :=
 ∀ (value slice:Expr) (pins:List (Addr × Obj)) (s:Shared) (σ:St) (H:Hp) (x y:V) (v u:Value) (Q:VK),Inv X pins σ H s→RelV x v→RelV y u→r x y H Q →
  subscripted slice false v u=operate [v,u] (getItem v u)→wpAny (model X.prog X.w) X.A (subscriptTail value slice v u) (EP X pins σ Q) X.xe s
noncomputable def MtR (X:Cx) (id:String) (r:V→List V→Hp→VK→Prop):Prop :=
 ∀ (pins:List (Addr × Obj)) (s:Shared) (σ:St) (H:Hp) (x:V) (xs:List V) (v:Value) (us:List Value) (Q:VK),Inv X pins σ H s→RelV x v→Vals xs us→r x xs H Q →
  wpAny (model X.prog X.w) X.A (call (.builtin id) (v::us)) (EP X pins σ Q) X.xe s
section
variable {X:Cx}{a b:Expr}{ta tb:TE}{pos:Pos}
theorem G81 {r:R2} (hr:IxR X r) (ha:PE X a ta) (hb:PE X b tb) (hs:g21 b):PE X (.Subscript a b pos) (tOp r ta tb):=by
 intro pins s σ H Q I h
 exact Subscript_ (j42 ha hb I h fun v u s2 x y H2 I2 rx ry q=>hr a b pins s2 σ H2 x y v u Q I2 rx ry q (hs _ _))
noncomputable def w12 (K:PySem.W.Frag):R2:=fun x y H Q=>∃ p xs i v,x=.ref p∧y=.int i∧SqL K H p xs∧atI xs i=some v∧Q v H
noncomputable def z12 (K:PySem.W.Frag):R2:=fun x y H Q=>∃ p xs i v,x=.ref p∧y=.int i∧SqT K H p xs∧atI xs i=some v∧Q v H
theorem R20:IxR X (w12 X.K):=by
 intro value slice pins s σ H x y v u Q I rx ry h hs
 obtain ⟨p,xs,i,z,rfl,rfl,hq,he,q⟩:=h
 cases rx
 obtain ⟨t,rfl⟩:=ry
 obtain ⟨its,r,pl,hz⟩:=I.list hq
 obtain ⟨j,h1,h2,h3,h4,h5⟩:=g01 he
 obtain ⟨w,ew,rw'⟩:=r.get h2
 have hl:=r.length
 have hn:=W20
 have fin:EP X pins σ Q w s:=⟨z,H,I,rw',q⟩
 by_cases h0:0≤i
 ·have hj:i.toNat=j:=by
   rw [seqIndex_of h0 h5] at h1
   exact Option.some.inj h1
  exact item_listR pl.isList h0 (by omega) (by rw [hj];simpa using ew) fin hs
 ·have hj:(i + (its.toArray.size:Int)).toNat=j:=by
   rw [seqIndex_neg (by omega) h4] at h1
   rw [List.size_toArray,← hl]
   exact Option.some.inj h1
  exact subscriptTail_builtinR (x:=w) pl.isList.typeIs slot_list_getitem.lookup
   (wpAny_getItem_list_neg (Q:=fun r s'=>r=w∧EP X pins σ Q r s') pl.isList (by omega) (by rw [List.size_toArray] <;> omega) (by omega) (by rw [hj];simpa using ew) ⟨rfl,fin⟩) hs
theorem V01:IxR X (z12 X.K):=by
 intro value slice pins s σ H x y v u Q I rx ry h hs
 obtain ⟨p,xs,i,z,rfl,rfl,hq,he,q⟩:=h
 cases rx
 obtain ⟨t,rfl⟩:=ry
 obtain ⟨its,r,pl,hz⟩:=I.tuple hq
 obtain ⟨j,h1,h2,h3,h4,h5⟩:=g01 he
 obtain ⟨w,ew,rw'⟩:=r.get h2
 have hl:=r.length
 have hn:=W20
 have fin:EP X pins σ Q w s:=⟨z,H,I,rw',q⟩
 exact subscriptTail_builtinR (x:=w) pl.typeIs slot_tuple_getitem.lookup
  (getItem_tuple (j:=j) (Q:=fun r s'=>r=w∧EP X pins σ Q r s') pl (by omega) (by omega) (by rw [List.size_toArray,← hl];exact h1) (by simpa using ew) ⟨rfl,fin⟩) hs
theorem b01 (its:List Value) (n j:Nat) (u:Value):Obj.mapSeq (·.setIfInBounds j u) { cls:=.type "list",data:=.seq its.toArray n }={ cls:=.type "list",data:=.seq (its.set j u).toArray n }:=by
 simp [Obj.mapSeq]
theorem Inv.lst {pins:List (Addr × Obj)}{σ:St}{H:Hp}{s:Shared}{p:Addr}{xs:List V} (I:Inv X pins σ H s) (h:H p=some (.lst xs)) :
  ∃ (its:List Value) (n:Nat),Vals xs its∧s.heap.get? p=some { cls:=.type "list",data:=.seq its.toArray n }∧xs.length≤sizeLine:=by
 obtain ⟨z,its,n,r,e⟩:=I.hok p _ h
 exact ⟨its,n,r,e,z⟩
theorem Inv.V11 {pins:List (Addr × Obj)}{σ:St}{H:Hp}{s:Shared}{p:Addr}{xs ys:List V}{its its':List Value}{n n':Nat}{f:Obj→Obj} (I:Inv X pins σ H s) (h:H p=some (.lst xs))
  (ho:s.heap.get? p=some { cls:=.type "list",data:=.seq its.toArray n }) (hf:f { cls:=.type "list",data:=.seq its.toArray n }={ cls:=.type "list",data:=.seq its'.toArray n' }) (r:Vals ys its') (hz:ys.length≤sizeLine) (t:Nat) :
  Inv X pins σ (upd H p (.lst ys)) { s with heap:=s.heap.update p f,toks:=t }:=by
 have e:(s.heap.update p f).get? p=some { cls:=.type "list",data:=.seq its'.toArray n' }:=by
  rw [Heap.get?_update_self f ho (by rw [hf] <;> rfl),hf]
 refine I.write (x:=p) (e:=p) (by rw [h];trivial) (.inl rfl) (fun b u hb q=>(Heap.get?_update_other _ _ (Ne.symm hb)).trans q) ⟨_,e⟩ ?_
 exact ⟨hz,its',n',r,e⟩
noncomputable def k52:V→V→V→Hp→(Hp→Prop)→Prop:=fun o i v H Q=>∃ p xs k j,o=.ref p∧i=.int k∧H p=some (.lst xs)∧ixN xs.length k=some j∧Q (upd H p (.lst (xs.set j v)))
theorem set_list:v52 X k52:=by
 intro pins s σ H o i v ov iv u Q I ro ri rv h
 obtain ⟨p,xs,k,j,rfl,rfl,hp,hj,q⟩:=h
 cases ro
 obtain ⟨t,rfl⟩:=ri
 obtain ⟨its,n,r,ho,hz⟩:=I.lst hp
 obtain ⟨h1,h2,h3,h4⟩:=f91 hj
 have hl:=r.length
 have hn:=W20
 have I':Inv X pins σ (upd H p (.lst (xs.set j v))) { s with heap:=s.heap.update p (Obj.mapSeq (·.setIfInBounds j u)) } :=
  I.V11 hp ho (b01 its n j u) (r.set rv j) (by rw [List.length_set];exact hz) s.toks
 by_cases h0:0≤k
 ·have hk:k.toNat=j:=by
   rw [seqIndex_of h0 h4] at h1
   exact Option.some.inj h1
  exact PySem.W.ki_setAt ho h0 (by omega) (by rw [List.size_toArray,← hl];exact h4) (by rw [hk];exact ⟨_,I',q⟩)
 ·have hk:(k + (its.toArray.size:Int)).toNat=j:=by
   rw [seqIndex_neg (by omega) h3] at h1
   rw [List.size_toArray,← hl]
   exact Option.some.inj h1
  exact PySem.W.ki_setBack ho (by omega) (by rw [List.size_toArray,← hl];exact h3) (by omega) (by rw [hk];exact ⟨_,I',q⟩)
theorem K90 (lo hi:Option Int) (n:Nat):(sliceBounds lo hi none n).1=((HT.sIx n 0 lo:Nat):Int)∧(sliceBounds lo hi none n).2.1=((HT.sIx n n hi:Nat):Int)∧(sliceBounds lo hi none n).2.2=1:=by
 refine ⟨?_,?_,rfl⟩
 ·cases lo with
  | none=>simp [sliceBounds,HT.sIx]
  | some i =>
   simp only [sliceBounds,HT.sIx,Option.getD_none,show (1:Int) > 0 by decide,if_true]
   by_cases h:i < 0
   ·simp only [h,if_true] <;> omega
   ·simp only [h,if_false] <;> omega
 ·cases hi with
  | none=>simp [sliceBounds,HT.sIx]
  | some i =>
   simp only [sliceBounds,HT.sIx,Option.getD_none,show (1:Int) > 0 by decide,if_true]
   by_cases h:i < 0
   ·simp only [h,if_true] <;> omega
   ·simp only [h,if_false] <;> omega
theorem E70 (its:List Value) (lo hi:Option Int):slicePick its.toArray lo hi none=((its.drop (HT.sIx its.length 0 lo)).take (HT.sIx its.length its.length hi - HT.sIx its.length 0 lo)).toArray:=by
 obtain ⟨h1,h2,h3⟩:=K90 lo hi its.toArray.size
 unfold slicePick
 rw [h1,h2,h3]
 simp only [sliceRange_one,pick_run,List.size_toArray] <;> rfl
noncomputable def z22 (K:PySem.W.Frag):V→Option Int→Option Int→Hp→VK→Prop:=fun x lo hi H Q=>∃ a xs,x=.ref a∧SqL K H a xs∧∀ p,H p=none→Q (.ref p) (upd H p (.lst (u61 xs lo hi)))
theorem G91:SlR X (z22 X.K):=by
 intro pins s σ H x v vl vu lo hi sl Q I rx hs pl pu h
 obtain ⟨a,xs,rfl,hx,q⟩:=h
 cases rx
 obtain ⟨its,r,ht,hz⟩:=I.list hx
 have hlen:=r.length
 refine ⟨"list",_,slot_list_getitem.lookup,ht.isList.typeIs,?_⟩
 refine wpAny_getItem_list_slice ht.isList hs pl pu .none (by simp) ?_ (by rw [List.size_toArray] <;> omega)
 rw [E70,← hlen]
 refine ⟨.ref s.heap.objs.size,_,I.laid (t':=s.toks) (o:=.lst (u61 xs lo hi)) (fun b ob q=>Heap.get?_push_of_some _ q) (Nat.le_refl _) ?_,rfl,q _ (I.hok.fresh (Nat.le_refl _))⟩
 exact ⟨Nat.le_trans (y60 xs lo hi) hz,_,0,(r.drop (HT.sIx xs.length 0 lo)).take (HT.sIx xs.length xs.length hi - HT.sIx xs.length 0 lo),Heap.get?_push_size _ rfl⟩
theorem L00:e70 X (.builtin "len") (fun xs H Q=>∃ p ys,xs=[.ref p]∧(SqL X.K H p ys∨SqT X.K H p ys)∧Q (.int ys.length) H):=by
 intro pins s σ H xs us Q I r h
 obtain ⟨p,ys,rfl,hq,q⟩:=h
 obtain ⟨u,rfl,rx⟩:=vals1 r
 cases rx
 have hn:=W20
 rcases hq with hq | hq
 ·obtain ⟨its,r',pl,hz⟩:=I.list hq
  have hlen:=r'.length
  exact Calls.call_len_list pl.isList (by simp only [List.size_toArray] <;> omega) ⟨.int ys.length,H,I.tok _,⟨s.toks + 1,by rw [List.size_toArray,hlen]⟩,q⟩
 ·obtain ⟨its,r',pl,hz⟩:=I.tuple hq
  have hlen:=r'.length
  exact len_tuple pl (by simp only [List.size_toArray] <;> omega) ⟨.int ys.length,H,I.tok _,⟨s.toks + 1,by rw [List.size_toArray,hlen]⟩,q⟩
theorem L10:e70 X (.type "list") (fun xs H Q=>∃ p ys,xs=[.ref p]∧(SqL X.K H p ys∨SqT X.K H p ys)∧∀ l,H l=none→Q (.ref l) (upd H l (.lst ys))):=by
 intro pins s σ H xs us Q I r h
 obtain ⟨p,ys,rfl,hq,q⟩:=h
 obtain ⟨u,rfl,rx⟩:=vals1 r
 cases rx
 have fin:∀ (its:List Value),Vals ys its→ys.length≤sizeLine→∀ (h':Heap) (c':Nat),(∀ b o',s.heap.get? b=some o'→h'.get? b=some o') →
   h'.get? s.heap.objs.size=some { cls:=.type "list",dict:=none,data:=.seq its.toArray c',slots:=#[] }→EP X pins σ Q (.ref s.heap.objs.size) { s with heap:=h' }:=fun its r' hz h' c' kp e =>
  ⟨.ref s.heap.objs.size,_,I.laid (t':=s.toks) kp (Nat.le_refl _) (show h70 X.prog X.w _ h' _ (.lst ys) from ⟨hz,its,c',r',e⟩),rfl,q _ (I.hok.fresh (Nat.le_refl _))⟩
 rcases hq with hq | hq
 ·obtain ⟨its,r',pl,hz⟩:=I.list hq
  have hlen:=r'.length
  obtain ⟨o,ho,hc,n,hd⟩:=pl.isList
  exact call_list_seq p (.inl rfl) ho hc hd (fun h' c' kp e=>fin its r' hz h' c' kp e) (by simp only [List.size_toArray] <;> omega)
 ·obtain ⟨its,r',pl,hz⟩:=I.tuple hq
  have hlen:=r'.length
  obtain ⟨o,ho,hc,n,hd⟩:=pl
  exact call_list_seq p (.inr rfl) ho hc hd (fun h' c' kp e=>fin its r' hz h' c' kp e) (by simp only [List.size_toArray] <;> omega)
theorem E80:e70 X (.type "tuple") (fun xs H Q=>∃ p ys,xs=[.ref p]∧((SqL X.K H p ys∧∀ l,H l=none→Q (.ref l) (upd H l (.tup ys)))∨(SqT X.K H p ys∧Q (.ref p) H))):=by
 intro pins s σ H xs us Q I r h
 obtain ⟨p,ys,rfl,h⟩:=h
 obtain ⟨u,rfl,rx⟩:=vals1 r
 cases rx
 rcases h with ⟨hq,q⟩ | ⟨hq,q⟩
 ·obtain ⟨its,r',pl,hz⟩:=I.list hq
  have hlen:=r'.length
  refine call_tuple_list pl.isList (fun h' kp=>?_) (by simp only [List.size_toArray] <;> omega)
  have I1:Inv X pins σ H { s with heap:=h' }:=I.kept (t':=s.toks) kp
  have I2:Inv X pins σ (upd H h'.objs.size (.tup ys)) { s with heap:=h'.push { cls:=.type "tuple",data:=.seq its.toArray } } :=
   I1.laid (t':=s.toks) (fun b o e=>Heap.get?_push_of_some _ e) (Nat.le_refl _) (show h70 X.prog X.w _ _ _ (.tup ys) from ⟨hz,its,r',IsTup.new _ _⟩)
  exact ⟨.ref h'.objs.size,_,I2,rfl,q _ (I1.hok.fresh (Nat.le_refl _))⟩
 ·obtain ⟨its,r',pl,hz⟩:=I.tuple hq
  exact call_tuple_same pl ⟨.ref p,H,I,rfl,q⟩
noncomputable def tyV (K:PySem.W.Frag) (T:String) (x:V) (H:Hp):Prop:=match x with
 | .str _=>T="str"
 | .int _=>T="int"
 | .ref p=>(T="list"∧∃ xs,SqL K H p xs)∨(T="tuple"∧∃ o,K.lookup p=some o∧o.cls=.type "tuple"∧o.dict=none) ∨
   (T="dict"∧((∃ kvs,H p=some (.dK kvs))∨∃ kvs,H p=some (.dT kvs)))∨(T="set"∧∃ S n,H p=some (.set S n))
 | _=>False
theorem V21 {pins:List (Addr × Obj)}{σ:St}{H:Hp}{s:Shared}{T:String}{x:V}{v:Value} (I:Inv X pins σ H s) (r:RelV x v) (ty:tyV X.K T x H) :
  s.TypeIs v T∧∀ a,v=.ref a→∃ ob,s.heap.get? a=some ob∧ob.dict=none:=by
 cases x with
 | str z =>
  obtain ⟨t,rfl⟩:=r
  cases (show T="str" from ty)
  exact ⟨typeIs_str s z t,fun _ e=>nomatch e⟩
 | int i =>
  obtain ⟨t,rfl⟩:=r
  cases (show T="int" from ty)
  exact ⟨typeIs_int s i t,fun _ e=>nomatch e⟩
 | ref p =>
  cases r
  rcases ty with ⟨rfl,xs,hq⟩ | ⟨rfl,o,hk,hc,hd⟩ | ⟨rfl,hk⟩ | ⟨rfl,S,n,hk⟩
  ·obtain ⟨its,_,pl,_⟩:=I.list hq
   refine ⟨pl.isList.typeIs,fun a e=>?_⟩
   cases e
   obtain ⟨o,n,e,c,hd,_⟩:=pl
   exact ⟨o,e,hd⟩
  ·refine ⟨⟨o,I.kIn p o hk,hc⟩,fun a e=>?_⟩
   cases e
   exact ⟨o,I.kIn _ o hk,hd⟩
  ·have z:∃ o,s.heap.get? p=some o∧o.ExactDict:=by
    rcases hk with ⟨kvs,hk⟩ | ⟨kvs,hk⟩
    ·obtain ⟨_,_,_,_,o,_,_,e,ex,_⟩:=I.hok p _ hk
     exact ⟨o,e,ex⟩
    ·obtain ⟨_,_,_,_,o,_,_,e,ex,_⟩:=I.hok p _ hk
     exact ⟨o,e,ex⟩
   obtain ⟨o,e,ex⟩:=z
   refine ⟨⟨o,e,ex.1⟩,fun a e2=>?_⟩
   cases e2
   exact ⟨o,e,ex.2.1⟩
  ·obtain ⟨o,_,_,_,e,ex,_⟩:=I.hok p _ hk
   refine ⟨⟨o,e,ex.1⟩,fun a e2=>?_⟩
   cases e2
   exact ⟨o,e,ex.2.1⟩
 | _=>exact False.elim ty
noncomputable def tBM (K:PySem.W.Frag) (T:String) (r:V→List V→Hp→VK→Prop) (to:TE) (t:TA):TE:=fun σ H Q=>to σ H fun x H1=>tyV K T x H1∧t σ H1 fun xs H2=>r x xs H2 Q
variable {o e:Expr}{es:List Expr}{to:TE}{t:TA}{name:Str}{apos cpos:Pos}{T id:String}{r:V→List V→Hp→VK→Prop}
theorem H01 (pa:PlainAttrs T) (slot:Slot T name id) (hty:typeOf (.builtin id)=pure (.type "method_descriptor")) (hm:MtR X id r) (ho:PE X o to) (ha:PA X (e::es) t)
  (hbase:attributeBase o name X.env (eval o X.env)=eval o X.env:=by rfl)
  (hfew:((backTo cpos (starEach (e::es) X.env)).all (fun x=>!x.1)&&(backToKw cpos (keywordEach [] X.env)).all (fun x=>x.1.isSome)
   &&decide ((e::es).length + ([]:List Keyword).length + (if ([]:List Keyword).isEmpty then 0 else 1) < 30))=true:=by rfl)
  (hline:(apos.endLine == cpos.line)=true:=by rfl) (hs:starEach (e::es) X.env=(false,eval e X.env)::starEach es X.env:=by rfl) (hplain:(backTo cpos (starEach es X.env)).any (·.1)=false:=by rfl) :
  PE X (.Call (.Attribute o name apos) (e::es) [] cpos) (tBM X.K T r to t):=by
 intro pins s σ H Q I h
 refine wpAny_Call_method_late hbase hfew hline rfl (thn (ho pins s σ H _ I h) fun v s1 ⟨x,H1,I1,r1,ty,q1⟩=>?_)
 obtain ⟨h1,h2⟩:=V21 I1 r1 ty
 refine ⟨T,id,pa,slot,hty,h1,h2,?_⟩
 have hA:=ha cpos pins s1 σ H1 _ I1 q1
 rw [hs] at hA ⊢
 refine Calls.callWith_builtin (by show (false || (backTo cpos (starEach es X.env)).any (·.1))=false;rw [hplain] <;> rfl) (Calls.evalArgs_plain ?_)
 exact thn hA fun us s2 ⟨vs,H2,I2,r2,q2⟩=>hm pins s2 σ H2 x vs v us Q I2 r1 r2 q2
/- xs.append(e),list.index on a module's tuple .. are MtR facts of 06m -/
end
end L2
namespace L2
open PySem PySem.Spec PyProof.Rows
noncomputable def MtM (X:Cx) (id:String) (r:V→List V→Hp→VK→Prop):Prop :=
 ∀ (pins:List (Addr × Obj)) (s:Shared) (σ:St) (H:Hp) (x:V) (xs:List V) (v:Value) (us:List Value) (Q:VK),Inv X pins σ H s→RelV x v→Vals xs us→r x xs H Q →
  wpAny (model X.prog X.w) X.A (call (.builtin id) (v::us)) (EP X pins σ Q) X.xe s
theorem Vals.one:∀ {x:V}{us:List Value},Vals [x] us→∃ u,us=[u]∧RelV x u
 | _,_,.cons r .nil=>⟨_,rfl,r⟩
theorem Vals.eraseIdx:∀ {xs:List V}{us:List Value} (i:Nat),Vals xs us→Vals (xs.eraseIdx i) (us.eraseIdx i)
 | _,_,_,.nil=>.nil
 | _,_,0,.cons _ t=>t
 | _,_,i + 1,.cons r t=>.cons r (Vals.eraseIdx i t)
theorem Vals.reverse {xs:List V}{us:List Value} (h:Vals xs us):Vals xs.reverse us.reverse:=by
 induction h with
 | nil=>exact .nil
 | cons r t ih=>rw [List.reverse_cons,List.reverse_cons];exact Vals.append ih (.cons r .nil)
theorem Vals.rep {xs:List V}{us:List Value} (h:Vals xs us):∀ k:Nat,Vals (List.replicate k xs).flatten (List.replicate k us).flatten
 | 0=>.nil
 | k + 1=>by
  rw [List.replicate_succ,List.replicate_succ,List.flatten_cons,List.flatten_cons]
  exact Vals.append h (Vals.rep h k)
theorem L20 {α:Type}:∀ (l:List α) (i:Nat),(l.eraseIdx i).length≤l.length
 | [],_=>Nat.le_refl _
 | _::_,0=>Nat.le_succ _
 | _::r,i + 1=>Nat.succ_le_succ (L20 r i)
theorem foldl_rep (its:List Value):∀ (k:Nat) (acc:List Value),
  List.foldl (fun x1 x2=>x1++x2) acc.toArray (List.replicate k its.toArray)=(acc++(List.replicate k its).flatten).toArray
 | 0,acc=>by simp
 | k + 1,acc=>by
  have e:acc.toArray++its.toArray=(acc++its).toArray:=by simp
  have e2:(acc++its)++(List.replicate k its).flatten=acc++(List.replicate (k + 1) its).flatten:=by
   rw [List.replicate_succ,List.flatten_cons,List.append_assoc]
  rw [← e2,← foldl_rep its k (acc++its),← e,List.replicate_succ,List.foldl_cons]
section
variable {X:Cx}{pins:List (Addr × Obj)}{σ:St}{H:Hp}{s:Shared}{l b:Addr}{xs ys zs:List V}
theorem Inv.V31 {its its':List Value}{n:Nat}{f:Array Value→Array Value}{t':Nat} (I:Inv X pins σ H s) (hH:H l=some (.lst xs))
  (e:s.heap.get? l=some { cls:=.type "list",data:=.seq its.toArray n }) (hf:f its.toArray=its'.toArray) (hv:Vals ys its') (hz:ys.length≤sizeLine) :
  Inv X pins σ (upd H l (.lst ys)) { s with heap:=s.heap.update l (Obj.mapSeq f),toks:=t' }:=by
 have q:=PySem.IsL.update e f
 rw [hf] at q
 refine I.write (x:=l) (e:=l) (by rw [hH];exact trivial) (.inl rfl) (fun b' u hb hu=>(Heap.get?_update_other s.heap (Obj.mapSeq f) (Ne.symm hb)).trans hu) ⟨_,q⟩ ?_
 exact ⟨hz,its',_,hv,q⟩
theorem Inv.k62 {its:List Value}{t':Nat} (I:Inv X pins σ H s) (hv:Vals ys its) (hz:ys.length≤sizeLine) :
  Inv X pins σ (upd H s.heap.objs.size (.lst ys)) { s with heap:=s.heap.push { cls:=.type "list",data:=.seq its.toArray },toks:=t' } :=
 I.laid (fun _ _ q=>Heap.get?_push_of_some _ q) (Nat.le_refl _) ⟨hz,its,0,hv,Heap.get?_push_size _ rfl⟩
theorem Inv.fresh (I:Inv X pins σ H s):H s.heap.objs.size=none:=I.hok.fresh (Nat.le_refl _)
theorem Inv.H11 (I:Inv X pins σ H s) (hH:H l=some (.lst xs)):xs.length≤sizeLine∧∃ (its:List Value) (n:Nat),Vals xs its∧xs.length=its.length∧s.heap.get? l=some { cls:=.type "list",data:=.seq its.toArray n }:=by
 obtain ⟨z,its,n,r,e⟩:=I.hok l _ hH
 exact ⟨z,its,n,r,r.length,e⟩
theorem W50 {n:Nat} (h:n≤sizeLine):Builtin.List.listTooLong n=false:=by
 unfold Builtin.List.listTooLong
 exact decide_eq_false (by omega)
end
section
variable {X:Cx}
noncomputable def g31:V→List V→Hp→VK→Prop:=fun x vs H Q=>∃ l xs y,x=.ref l∧vs=[y]∧H l=some (.lst xs)∧xs.length < sizeLine∧Q .non (upd H l (.lst (xs++[y])))
theorem L30:MtM X "list.append" g31:=by
 intro pins s σ H x vs v us Q I rx rv h
 obtain ⟨l,xs,y,rfl,rfl,hH,hz,q⟩:=h
 cases rx
 obtain ⟨u,rfl,ru⟩:=rv.one
 obtain ⟨z,its,n,r,hl,e⟩:=I.H11 hH
 refine call_meets F.slot_list_append ⟨_,e,rfl⟩ F.entry_list_append (F.args_list_append_2 _ _) (PySem.list_append l its.toArray n u (by rw [List.size_toArray];omega)) ⟨e,?_⟩
 refine ⟨.non,_,I.V31 (its':=its++[u]) hH e (by simp) (r.append (.cons ru .nil)) ?_,rfl,q⟩
 rw [List.length_append,List.length_singleton]
 omega
noncomputable def H21:V→List V→Hp→VK→Prop:=fun x vs H Q=>∃ l b xs zs,x=.ref l∧vs=[.ref b]∧H l=some (.lst xs)∧H b=some (.lst zs)∧xs.length + zs.length≤sizeLine∧Q .non (upd H l (.lst (xs++zs)))
theorem V41:MtM X "list.extend" H21:=by
 intro pins s σ H x vs v us Q I rx rv h
 obtain ⟨l,b,xs,zs,rfl,rfl,hH,hB,hz,q⟩:=h
 cases rx
 obtain ⟨u,rfl,ru⟩:=rv.one
 cases ru
 obtain ⟨z,its,n,r,hl,e⟩:=I.H11 hH
 obtain ⟨z2,its2,n2,r2,hl2,e2⟩:=I.H11 hB
 have hsz:its.toArray.size + its2.toArray.size≤sizeLine:=by rw [List.size_toArray,List.size_toArray];omega
 have hlong:¬ (!its.toArray.isEmpty&&Builtin.List.listTooLong (its.toArray.size + its2.toArray.size))=true:=by
  rw [W50 hsz,Bool.and_false]
  exact Bool.false_ne_true
 refine call_meets F.slot_list_extend ⟨_,e,rfl⟩ F.entry_list_extend (F.args_list_extend_2 _ _)
  (AutoSeq1.list_extend_list_list_0 l its.toArray n b its2.toArray n2 hlong (by rw [List.size_toArray];omega) (by omega)) ⟨e,e2,?_⟩
 refine ⟨.non,_,I.V31 (its':=its++its2) hH e (by simp) (r.append r2) ?_,rfl,q⟩
 rw [List.length_append]
 omega
noncomputable def C41:V→List V→Hp→VK→Prop:=fun x vs H Q=>∃ l xs i k y,x=.ref l∧vs=[.int i]∧H l=some (.lst xs)∧-(2 ^ 63)≤i∧i < 2 ^ 63∧seqIndex? i xs.length=some k∧xs[k]?=some y∧Q y (upd H l (.lst (xs.eraseIdx k)))
theorem u71:MtM X "list.pop" C41:=by
 intro pins s σ H x vs v us Q I rx rv h
 obtain ⟨l,xs,i,k,y,rfl,rfl,hH,h1,h2,hk,hy,q⟩:=h
 cases rx
 obtain ⟨u,rfl,ru⟩:=rv.one
 obtain ⟨t,rfl⟩:=ru
 obtain ⟨z,its,n,r,hl,e⟩:=I.H11 hH
 obtain ⟨w,hw,rw'⟩:=r.get hy
 refine call_meets F.slot_list_pop ⟨_,e,rfl⟩ F.entry_list_pop (F.args_list_pop_2 _ _)
  (MeetsSeq.list_pop_at l its.toArray n i t k w (fitsIndex_both h1 h2) (by rw [List.size_toArray,← hl];exact hk) (by rw [← Array.getElem?_toList];exact hw) (by rw [List.size_toArray];omega)) ⟨e,?_⟩
 refine ⟨y,_,I.V31 (its':=its.eraseIdx k) hH e ?_ (r.eraseIdx k) ?_,rw',q⟩
 ·show its.toArray.eraseIdxIfInBounds k=(its.eraseIdx k).toArray
  rw [List.eraseIdxIfInBounds_toArray]
 ·have:=L20 xs k
  omega
noncomputable def z32:R2:=fun x y H Q=>∃ l b xs zs,x=.ref l∧y=.ref b∧H l=some (.lst xs)∧H b=some (.lst zs)∧xs.length + zs.length≤sizeLine∧∀ p,H p=none→Q (.ref p) (upd H p (.lst (xs++zs)))
theorem g41:OpR X (binaryOp .Add) z32:=by
 intro pins s σ H x y v u Q I rx ry h
 obtain ⟨l,b,xs,zs,rfl,rfl,hH,hB,hz,q⟩:=h
 cases rx
 cases ry
 obtain ⟨z,its,n,r,hl,e⟩:=I.H11 hH
 obtain ⟨z2,its2,n2,r2,hl2,e2⟩:=I.H11 hB
 refine PySem.P.add_list e e2 ?_ (by rw [List.size_toArray,List.size_toArray];omega)
 have ea:its.toArray++its2.toArray=(its++its2).toArray:=by simp
 rw [ea]
 exact ⟨.ref _,_,I.k62 (t':=s.toks) (r.append r2) (by rw [List.length_append];omega),rfl,q _ I.fresh⟩
theorem len_rep {α:Type} (xs:List α) (k:Nat):(List.replicate k xs).flatten.length=k * xs.length:=by
 induction k with
 | zero=>simp
 | succ k ih=>rw [List.replicate_succ,List.flatten_cons,List.length_append,ih,Nat.succ_mul,Nat.add_comm]
end
section
variable {prog:Program}{w:World}{A:Around}{E:Value→Shared→Prop}{s:Shared}
end
section
variable {X:Cx}
end
end L2
namespace Att
open PySem PySem.W PySem.Calls PyProof.Rows
theorem y80 {P:Params}{h:Heap}:∀ (ns:List Int) (vs:List Value),WellAll P h vs (ns.map WData.int)→IntsAre vs ns:=by
 intro ns
 induction ns with
 | nil =>
  intro vs w
  rw [List.map_nil] at w
  cases w
  exact .nil
 | cons n ns ih =>
  intro vs w
  rw [List.map_cons] at w
  cases w with
  | cons a b =>
   cases a
   exact .cons _ _ (ih _ b)
theorem g51 {l:OpenLaw}{n:Nat} (hn:l.most=some n) {P:Params}{h:Heap}{args:List WData}{vals:List Value}
  (hpre:l.row.toRowW.claim.pre args=true) (hwl:WellAll P h vals args) :
  ∃ a vs ns,vals=[Value.ref a]∧args=[WData.list (ns.map WData.int)]∧h.get? a=some { cls:=.type "list",data:=.seq vs.toArray }∧IntsAre vs ns∧ns.length≤n:=by
 have hsh:WShape.hasAll [] args [.list .int]=true:=(pre_splitW hpre).1
 have hc:l.pre.holds [] { args:=args }=true:=(pre_splitW hpre).2
 obtain ⟨d,r,rfl,h1,h2⟩:=hasAllW_cons hsh
 obtain rfl:=hasAllW_nil h2
 obtain ⟨xs,rfl,h3⟩:=hasW_list h1
 obtain ⟨ns,rfl⟩:=items_int h3
 have hlen:ns.length≤n:=by
  unfold OpenLaw.pre at hc
  have h4:(WTm.not (.lt (.lit (.int (n:Int))) (.len (.arg 0)))).holds [] { args:=[.list (ns.map .int)] }=true:=by
   have h4:=(holds_andW hc).1
   rw [hn] at h4
   exact h4
  have h5:=condW_of h4 (w_not (w_lt w_lit (w_len_list (w_arg rfl))))
  rw [List.length_map] at h5
  refine Nat.le_of_not_lt fun q=>?_
  have q':(n:Int) < ((ns.length:Nat):Int):=by omega
  first
   |(rw [decide_eq_true q'] at h5;exact absurd h5 (by decide))
   |(simp at h5;omega)
 cases hwl with
 | cons w1 w2 =>
  cases w2
  cases w1 with
  | list ho hall=>exact ⟨_,_,ns,rfl,rfl,ho,y80 ns _ hall,hlen⟩
theorem g61 (l:OpenLaw) (args:List WData):l.row.toRowW.claim.post args (.bool true) args=true :=
 postW_of (r:=l.row.toRowW) (X:=(true == true))
  (show WShape.has [] (.bool true) .bool=true by first | rfl | decide | simp [WShape.has,WShape.arms,WShape.armsAll])
  (show (WTm.eq .res (.lit (.bool true))).value [] { args:=args,res:=some (.bool true),after:=args }=some (.bool (true == true)) from w_eq_bool (w_res rfl) w_lit) rfl
theorem R30 {l:OpenLaw}{n:Nat}{q:Program}{loose:List Str}{XP:(Str→Option Value)→Heap→Prop}{YP:World→Heap→Prop}{d:DefRec}
  (hn:l.most=some n) (hdf:d.params.defaults=[])
  (call:∀ (w:World) (s₀ s₁:Shared) (mg mb:Str→Option Value) (fa:Addr) (o:Obj) (pm cd doc:Value) (a:Addr) (vs:List Value) (ns:List Int),
   Ground q loose [] XP w s₀ mg mb s₁.heap→YP w s₁.heap →
   s₁.heap.get? fa=some o→o.data=.func (docDef d.name d.params d.body d.scope pm cd doc)→s₁.heap.CodeRec cd d.name→mg d.name=some (.ref fa) →
   s₁.heap.get? a=some { cls:=.type "list",data:=.seq vs.toArray }→IntsAre vs ns→ns.length≤n→s₁.gens=#[] →
   codeAny (model l.prog w) callerA (.call (.ref fa) ⟨[.ref a],[]⟩) (fun r s'=>r=.ok (.ret (.bool true))∧OldK s₁.heap s'.heap∧s'.os=s₁.os∧AllBare s'.gens) s₁) :
  WalkO q loose XP YP l.row.toRowW d [] (fun f vs=>PySem.call f vs):=by
 intro w s₀ s₁ mg mb G Y fa o pm cd doc dV kV ho hd hcd hD hmg hg args vals as hpre hlay hrd hwl hlo
 obtain rfl:dV=.none:=Dflts.none hD hdf
 obtain rfl:kV=.none:=Dflts.noKw hD
 obtain ⟨a,vs,ns,rfl,rfl,hobj,hints,hlen⟩:=g51 hn hpre hwl
 refine enter_call (codeAny_mono (call w s₀ s₁ mg mb fa o pm cd doc a vs ns G Y ho (fd_plain hd) hcd hmg hobj hints hlen hg) fun r s' hq=>?_)
 obtain ⟨rfl,h2,h3,h4⟩:=hq
 exact ⟨.inl ⟨.bool true,.bool true,[],rfl,fun _=>rfl,.bool true,g61 l _,fun _=>⟨List.Pairwise.nil,fun _ hm=>(nomatch hm)⟩⟩,h2,h3,h4⟩
section
variable {prog:Program}{w:World}{A:Around}{E:Value→Shared→Prop}{s:Shared}{K:Frag}
end
end Att
namespace L2
open PySem PySem.Spec PyProof.Rows
theorem L40:∀ {vs:List Value}{ns:List Int},IntsAre vs ns→Vals (ns.map V.int) vs
 | _,_,.nil=>.nil
 | _,_,.cons n t h=>.cons ⟨t,rfl⟩ (L40 h)
end L2
namespace L2
open PySem PySem.Spec PyProof.Rows
end L2
/- THE LAST THEOREM (shape;LID,My.* are yours):
  My.Adr: a structure of the addresses that your layer names (classes,functions);My.Txt K t: a structure (Prop) of the equations over K;
  My.txt_mk:{K}{implicit addresses ..} (e1:nsIn K mainGlobals "law"=some (some (.ref f))) (e2:K.lookup f=some ⟨oc,od,.func (fnOf "law" "law" params body scope dV kV doc pm an cdv ct),sl⟩) (e3:codeIn K cdv "law"=true) ..:∃ t,My.Txt K t
set_option maxRecDepth 100000 in
set_option maxHeartbeats 0 in
theorem PySem.Challenge.cw_LID_holds : PySem.Challenge.rw_LID.Holds := by
 w_on;o_law;k_head;(case hw=>w_witness2)
 k_fill
 refine L2.walk_of (l:=PySem.Challenge.rw_LID) (n:=63) (k:=40) (x:="script") (CX:=fun w=>..) (sp:=fun _=>My.sp_law) rfl (by decide) rfl ⟨rfl,by decide,by decide⟩ (fun w h Y=>PySem.W.kIn_of Y) ?F ?S ?C
 case F =>
  intro w mg fa h KX G hmg
  have T:∃ t,My.Txt (L2.KOf KX) t:=by
   dsimp only [L2.KOf]                          -- K must stand as «<heap const> w.params» for k_is
   refine' My.txt_mk ?e1 ?e2 ?e3 ..
   (case e1=>PySem.W.k_is)                    -- in the order: a name -> its address -> its object -> its parts
   (case e2=>PySem.W.k_is)
   ..
  obtain ⟨t,T⟩:=T
  have e0:=hmg.symm.trans (PySem.W.mg_of KX G T.law)
  cases e0                                       -- fa is the law's own address
  exact ⟨_,fun s u=>.of_eq rfl,fun base kb nb=>My.law_fn T kb nb⟩     -- if «.of_eq rfl» comes too early: refine' ⟨_,?b,fun base kb nb=>My.law_fn T kb nb⟩;exact fun s u=>.of_eq rfl
 case S=>exact fun w H a ns hl hO hS=>..
 case C=>exact ..
(the tactic k_is has no namespace: write k_is) -/
namespace L2
open PySem PySem.Spec PyProof.Rows
noncomputable def E90 (s:Stmt):Arguments:=match s with
 | .FunctionDef _ a _ _ _ _ _ _ _ _=>a
 | _=>{ posonlyargs:=[],args:=[],vararg:=none,kwonlyargs:=[],kw_defaults:=[],kwarg:=none,defaults:=[] }
noncomputable def j10 (s:Stmt):List Stmt:=match s with
 | .FunctionDef _ _ b _ _ _ _ _ _ _=>b
 | _=>[]
noncomputable def b50 (s:Stmt):Scope:=match s with
 | .FunctionDef _ _ _ _ _ _ sc _ _ _=>sc
 | _=>{ kind:=.function,names:=[],isGenerator:=false,isCoroutine:=false }
noncomputable abbrev CX0:CXT:=fun _ _ _ _ _ _=>False
structure Fun (K:PySem.W.Frag) (x qual:Str) (st:Stmt) (f:Addr) (fd:FuncData):Prop where
 ex:∃ (oc:Value) (od:Option Addr) (kV doc pm:Value) (an:Option Addr) (cdv ct:Value) (osl:Array (Option Value)),
  fd=PySem.W.fnOf x qual (E90 st) (j10 st) (b50 st) .none kV doc pm an cdv ct∧K.lookup f=some ⟨oc,od,.func fd,osl⟩∧PySem.W.codeIn K cdv qual=true
 kp:PySem.W.keepIn K (.ref f)=true
section
variable {P:Program}{w:World}{K:PySem.W.Frag}{mg:Str→Option Value}{base:Heap}
theorem Fun.binds {x qual:Str}{st:Stmt}{f:Addr}{fd:FuncData}{ps:List Str} (F:Fun K x qual st f fd)
  (h:∀ (kV doc pm:Value) (an:Option Addr) (cdv ct:Value) (us:List Value),us.length=ps.length→bindArgs (PySem.W.fnOf x qual (E90 st) (j10 st) (b50 st) .none kV doc pm an cdv ct) ⟨us,[]⟩=pure (ps.zip us)):Binds K fd ps []:=by
 obtain ⟨oc,od,kV,doc,pm,an,cdv,ct,osl,rfl,lk,hcd⟩:=F.ex
 exact .all (h kV doc pm an cdv ct)
end
section
variable {X:Cx}
theorem pv (i:Nat) {x:Str}{pos:Pos} (hN:X.N[i]?=some x:=by rfl) (hv:Vis X.env.scope x:=by first | exact Or.inl rfl | exact Or.inr (Or.inl rfl) | exact Or.inr (Or.inr rfl)) (hd:(x == ("__debug__":Str))=false:=by decide)
  (hcd:(x == ("__classdict__":Str))=false:=by decide):PE X (.Name x pos) (S41 i):=p50 hN hv hd hcd
end
theorem z42 {A B:Prop} (h:B):if false=true then A else B:=by
 rw [if_neg Bool.false_ne_true]
 exact h
theorem z52 {c A B:Prop} [Decidable c] (h1:c→A) (h2:¬ c→B):if c then A else B:=by
 by_cases h:c
 ·rw [if_pos h]
  exact h1 h
 ·rw [if_neg h]
  exact h2 h
noncomputable def a00 (H H':Hp):Prop:=∀ b o,H b=some o→H' b=some o
theorem a00.refl (H:Hp):a00 H H:=fun _ _ h=>h
theorem a00.trans {H H1 H2:Hp} (a:a00 H H1) (b:a00 H1 H2):a00 H H2:=fun c o h=>b c o (a c o h)
end L2
set_option maxHeartbeats 4000000
namespace L2
open PySem
noncomputable abbrev NoX:Value→Shared→Prop:=fun _ _=>False
theorem F00 (env:Env):∀ (names:List (Str × NameKind)) (acc:List (Str × Addr)),(∀ y∈names,y.2=.free→∃ c,env.cells.lookup y.1=some c)→(∀ x c,acc.lookup x=some c→env.cells.lookup x=some c) →
  ∃ cl:List (Str × Addr),(forIn names acc fun (x:Str × NameKind) (r:List (Str × Addr))=>(if (x.2 == .free)=true then do let c ← cellOf env x.1;pure (ForInStep.yield ((x.1,c)::r)) else pure (ForInStep.yield r):Sem (ForInStep (List (Str × Addr)))))=pure cl ∧
   (∀ x c,cl.lookup x=some c→env.cells.lookup x=some c)∧(∀ x c,acc.lookup x=some c→∃ c',cl.lookup x=some c')∧(∀ y∈names,y.2=.free→∃ c,cl.lookup y.1=some c)
 | [],acc,_,ha=>⟨acc,by simp,ha,fun x c e=>⟨c,e⟩,fun y hy=>absurd hy (by simp)⟩
 |(n,k)::r,acc,hf,ha=>by
  by_cases hk:k=.free
  ·subst hk
   obtain ⟨c,hc⟩:=hf (n,.free) List.mem_cons_self rfl
   have hcell:cellOf env n=pure c:=by unfold cellOf;rw [hc]
   obtain ⟨cl,e,h1,h2,h3⟩:=F00 env r ((n,c)::acc) (fun y hy=>hf y (List.mem_cons_of_mem _ hy)) (fun x c' e=>by
    rw [List.lookup_cons] at e
    by_cases hx:(x == n)=true
    ·rw [hx] at e
     have:x=n:=by simpa using hx
     subst this
     cases e
     exact hc
    ·rw [show (x == n)=false by simpa using hx] at e
     exact ha x c' e)
   refine ⟨cl,?_,h1,fun x c' e'=>?_,fun y hy hyk=>?_⟩
   ·rw [List.forIn_cons]
    simp only [beq_self_eq_true,if_true,hcell,pure_bind]
    exact e
   ·by_cases hx:(x == n)=true
    ·exact h2 x c (by rw [List.lookup_cons,hx])
    ·exact h2 x c' (by rw [List.lookup_cons,show (x == n)=false by simpa using hx];exact e')
   ·rcases List.mem_cons.mp hy with rfl | hy
    ·exact h2 n c (by simp [List.lookup_cons])
    ·exact h3 y hy hyk
  ·obtain ⟨cl,e,h1,h2,h3⟩:=F00 env r acc (fun y hy=>hf y (List.mem_cons_of_mem _ hy)) ha
   refine ⟨cl,?_,h1,h2,fun y hy hyk=>?_⟩
   ·rw [List.forIn_cons]
    have hb:((k == NameKind.free)=true)=False:=by simpa using hk
    simp only [hb,if_false,pure_bind]
    exact e
   ·rcases List.mem_cons.mp hy with rfl | hy
    ·exact absurd hyk hk
    ·exact h3 y hy hyk
theorem g71 {scope:Scope}{env:Env} (hf:∀ y∈scope.names,y.2=.free→∃ c,env.cells.lookup y.1=some c) :
  ∃ cl:List (Str × Addr),closureFor scope env=pure cl∧(∀ x c,cl.lookup x=some c→env.cells.lookup x=some c)∧(∀ y∈scope.names,y.2=.free→∃ c,cl.lookup y.1=some c):=by
 obtain ⟨cl,e,h1,_,h3⟩:=F00 env scope.names [] hf (fun x c e=>by simp at e)
 refine ⟨cl,?_,h1,h3⟩
 simp only [closureFor]
 exact (congrArg (fun t=>t >>= fun r=>(pure r:Sem _)) e).trans (by simp)
section
variable {P:Program}{w:World}{A:Around}{R:Result→Shared→Prop}{s:Shared}
theorem g81 {el tg src:Expr}{tests:List Expr}{sc:Scope}{ps:Pos}{itv av:Value}{en:Env} (J:Nat→Shared→Prop)
  (turn:∀ n s,J n s→wpAny (model P w) A (pyNext itv) (fun r s1=>match r with
   | none=>R (.ok .next) s1
   | some v=>wpAny (model P w) A (letOwnedTupleGo tg itv v) (fun _ s2=>wpAny (model P w) A (assign tg en v) (fun _ s3 =>
     wpAny (model P w) A (forIn tests true fun c r=>if r=true then do let ok ← isTrue c en (eval c en);pure (ForInStep.yield ok) else pure (ForInStep.yield r)) (fun ok s4 =>
      if ok=true then wpAny (model P w) A (eval el en) (fun x s5 =>
       wpAny (model P w) A (call (.builtin "list.append") [av,x]) (fun _ s6=>∃ m,m < n∧J m s6) NoX s5) NoX s4
      else ∃ m,m < n∧J m s4) NoX s3) NoX s2) NoX s1) NoX s)
  (n:Nat) (h:J n s) :
  codeAny (model P w) A (.compLoop (.ListComp el [⟨tg,src,tests,0⟩] sc ps) 0 itv av en) R s:=by
 refine codeAny_loop rfl J (fun n s hI=>?_) n h
 show wpAny _ A ((compTurn (.ListComp el [⟨tg,src,tests,0⟩] sc ps) 0 itv av en).onRaise (fun x=>do noteFrame x en;theTreesLotGoes x)) _ _ s
 refine wpAny_noted ?_
 rw [compTurn_list]
 refine wpAny_bind (wpAny_standAt (wpAny_bind (wpAny_mono (turn n s hI) (fun r s1 h1=>?_) fun _ _ x=>x.elim)))
 cases r with
 | none=>exact wpAny_pure h1
 | some v =>
  refine wpAny_bind (wpAny_mono h1 (fun _ s2 h2=>?_) fun _ _ x=>x.elim)
  refine wpAny_bind (wpAny_mono h2 (fun _ s3 h3=>wpAny_bind (wpAny_mono h3 (fun ok s4 h4=>?_) fun _ _ x=>x.elim)) fun _ _ x=>x.elim)
  cases ok with
  | false=>exact wpAny_pure ⟨rfl,h4⟩
  | true=>exact wpAny_bind (wpAny_bind (wpAny_mono h4 (fun x s5 h5=>wpAny_bind (wpAny_mono h5 (fun _ s6 h6=>wpAny_pure (wpAny_pure ⟨rfl,h6⟩)) fun _ _ x=>x.elim)) fun _ _ x=>x.elim))
end
end L2
namespace L2
open PySem PySem.Spec PyProof.Rows
noncomputable abbrev c30 (X:Cx) (N':List Str) (sc:Scope) (cl:List (Str × Addr)) (C:Addr) (s:Shared) (H:Hp) (fp:List Addr):Cx :=
 { X with N:=N',s₀:=s,H₀:=H,env:=compEnvC sc cl C X.env,outer:=X.stack,stack:=X.stack,ex:=fp,fn:=fun _=>false,pn:=[],xe:=NoX }
noncomputable def d30 (own:List Str) (capt:List (Str × Nat)):List Str:=own++capt.map (·.1)
noncomputable def q20 (own:List Str) (capt:List (Str × Nat)) (σ:St):St:=own.map (fun _=>none)++capt.map fun p=>(σ[p.2]?).getD none
structure r40 (X:Cx) (sc:Scope) (own:List Str) (capt:List (Str × Nat)):Prop where
 kind:sc.kind=.function
 nocell:∀ y∈sc.names,y.2≠.cell
 locs:∀ y∈sc.names,y.2=.local→sc.names.lookup y.1=some .local
 frees:∀ y∈sc.names,y.2=.free→X.env.kindOf y.1=some .cell∨X.env.kindOf y.1=some .free
 captd:∀ p∈capt,X.N[p.2]?=some p.1∧sc.names.lookup p.1=some .free
theorem F10 {env:Env}:∀ {names:List (Str × NameKind)}{x:Str}{k:NameKind},
  (names.map fun (n,k)=>if (k == NameKind.free&&env.scope.kind == .function&&env.kindOf n == some .cell) then (n,NameKind.cell) else (n,k)).lookup x=some k→(k=.cell∨k=.free)→(∀ y∈names,y.2≠.cell)→(x,NameKind.free)∈names
 | [],_,_,h,_,_=>by simp at h
 |(n,k0)::r,x,k,h,hk,hn=>by
  have h:List.lookup x ((if (k0 == NameKind.free&&env.scope.kind == .function&&env.kindOf n == some .cell)=true then (n,NameKind.cell) else (n,k0))::_)=some k:=h
  have hn0:k0≠.cell:=hn (n,k0) List.mem_cons_self
  cases hx:x == n with
  | true =>
   have e:x=n:=by simpa using hx
   subst e
   by_cases hc:(k0 == NameKind.free&&env.scope.kind == .function&&env.kindOf x == some .cell)=true
   ·have:k0=.free:=by
     cases k0 <;> simp_all
    subst this
    exact List.mem_cons_self
   ·rw [if_neg hc] at h
    simp only [List.lookup_cons,hx] at h
    cases h
    rcases hk with hk | hk
    ·exact absurd hk hn0
    ·subst hk;exact List.mem_cons_self
  | false =>
   have h':(r.map fun (n,k)=>if (k == NameKind.free&&env.scope.kind == .function&&env.kindOf n == some .cell) then (n,NameKind.cell) else (n,k)).lookup x=some k:=by
    by_cases hc:(k0 == NameKind.free&&env.scope.kind == .function&&env.kindOf n == some .cell)=true
    ·rw [if_pos hc] at h;simp only [List.lookup_cons,hx] at h;exact h
    ·rw [if_neg hc] at h;simp only [List.lookup_cons,hx] at h;exact h
   exact List.mem_cons_of_mem _ (F10 h' hk fun y hy=>hn y (List.mem_cons_of_mem _ hy))
theorem o40 {env:Env}:∀ {names:List (Str × NameKind)}{x:Str},names.lookup x=some .free →
  (names.map fun (n,k)=>if (k == NameKind.free&&env.scope.kind == .function&&env.kindOf n == some .cell) then (n,NameKind.cell) else (n,k)).lookup x=some .cell ∨
  (names.map fun (n,k)=>if (k == NameKind.free&&env.scope.kind == .function&&env.kindOf n == some .cell) then (n,NameKind.cell) else (n,k)).lookup x=some .free
 | [],_,h=>by simp at h
 |(n,k)::r,x,h=>by
  have ih:=@o40 env r x
  show List.lookup x ((if (k == NameKind.free&&env.scope.kind == .function&&env.kindOf n == some .cell)=true then (n,NameKind.cell) else (n,k))::_)=_∨List.lookup x ((if (k == NameKind.free&&env.scope.kind == .function&&env.kindOf n == some .cell)=true then (n,NameKind.cell) else (n,k))::_)=_
  cases hx:x == n with
  | true =>
   simp only [List.lookup_cons,hx] at h
   cases h
   by_cases hc:(NameKind.free == NameKind.free&&env.scope.kind == .function&&env.kindOf n == some .cell)=true
   ·rw [if_pos hc];left;simp only [List.lookup_cons,hx]
   ·rw [if_neg hc];right;simp only [List.lookup_cons,hx]
  | false =>
   simp only [List.lookup_cons,hx] at h
   by_cases hc:(k == NameKind.free&&env.scope.kind == .function&&env.kindOf n == some .cell)=true
   ·rw [if_pos hc];simp only [List.lookup_cons,hx];exact ih h
   ·rw [if_neg hc];simp only [List.lookup_cons,hx];exact ih h
theorem HOk.u81 {P:Program}{w:World}{H:Hp}{h:Heap}{D:Addr}{ys:List V}{its:List Value}{n:Nat} (x:HOk P w H h) (hn:H D=none) (hv:Vals ys its) (hz:ys.length≤sizeLine)
  (ho:h.get? D=some { cls:=.type "list",data:=.seq its.toArray n }):HOk P w (upd H D (.lst ys)) h:=fun b u e=>by
 by_cases hb:b=D
 ·subst hb;rw [a90] at e;cases e;exact ⟨hz,its,n,hv,ho⟩
 ·rw [a30 hb] at e
  exact (x b u e).a31 (fun c v _ q=>q) (fun c q=>by rw [a30 (a50 q hn)];exact q) fun c xs q=>by rw [a30 (a50 q hn)];exact q
noncomputable def PTs (X:Cx) (tests:List Expr) (t:TT):Prop :=
 ∀ (pins:List (Addr × Obj)) (s:Shared) (σ:St) (H:Hp) (Q:Bool→Hp→Prop),Inv X pins σ H s→t σ H Q →
  wpAny (model X.prog X.w) X.A (forIn tests true fun c r=>if r=true then do let ok ← isTrue c X.env (eval c X.env);pure (ForInStep.yield ok) else pure (ForInStep.yield r)) (TP X pins σ Q) X.xe s
noncomputable def u91:TT:=fun _ H Q=>Q true H
theorem H31 {X:Cx}:PTs X [] u91:=fun _ _ _ H _ I h=>wpAny_tests_nil ⟨H,I,h⟩
theorem g91 {X:Cx}{c:Expr}{t:TT} (hc:PT X c t):PTs X [c] t:=fun pins s σ H Q I h=>wpAny_tests_one (hc pins s σ H Q I h)
section
variable {X:Cx}{pins:List (Addr × Obj)}{σ:St}{H2:Hp}{s2:Shared}{sc:Scope}{own:List Str}{capt:List (Str × Nat)}{cl:List (Str × Addr)}{fp:List Addr}{C:Addr}
theorem L50 (I:Inv X pins σ H2 s2) (S:r40 X sc own capt) (hcl:∀ x c,cl.lookup x=some c→X.env.cells.lookup x=some c) (hcf:∀ y∈sc.names,y.2=.free→∃ c,cl.lookup y.1=some c)
  (hx:∀ x c,X.env.cells.lookup x=some c→c ∉ fp) {h':Heap} (un:∀ c o,s2.heap.get? c=some o→H2 c=none→c ∉ fp→∃ sl,h'.get? c=some { o with slots:=sl }) (m:Str→Option Value) :
  ∀ (i:Nat) (x:Str) (v:V),(d30 own capt)[i]?=some x→(q20 own capt σ)[i]?=some (some v)→∃ u,RelV v u∧Look (compEnvC sc cl C X.env) h' m x u:=by
 intro i x v e1 e2
 unfold d30 at e1
 unfold q20 at e2
 by_cases hi:i < own.length
 ·rw [List.getElem?_append_left (by simpa using hi),List.getElem?_map] at e2
  cases q:own[i]? with
  | none=>rw [q] at e2;cases e2
  | some y=>rw [q] at e2;cases e2
 ·rw [List.getElem?_append_right (by simpa using hi),List.length_map,List.getElem?_map] at e2
  rw [List.getElem?_append_right (by simpa using hi),List.getElem?_map] at e1
  cases q:capt[i - own.length]? with
  | none=>rw [q] at e1;cases e1
  | some p =>
   rw [q] at e1 e2
   obtain rfl:p.1=x:=Option.some.inj e1
   have e3:(σ[p.2]?).getD none=some v:=Option.some.inj e2
   have e4:σ[p.2]?=some (some v):=by
    cases z:σ[p.2]? with
    | none=>rw [z] at e3;cases e3
    | some w=>rw [z] at e3;exact congrArg some e3
   obtain ⟨hN,hf⟩:=S.captd p (List.mem_of_getElem? q)
   have hmem:(p.1,NameKind.free)∈sc.names:=PySem.mem_of_lookup hf
   have hk:=S.frees _ hmem rfl
   obtain ⟨m0,_,hl⟩:=I.loc
   have vis:Vis X.env.scope p.1:=.inr hk
   obtain ⟨u,r,lk⟩:=hl p.2 p.1 v hN e4 vis
   refine ⟨u,r,.inr ⟨?_,?_⟩⟩
   ·exact o40 hf
   ·rcases lk with ⟨hl0,_⟩ | ⟨_,c,hc,o,ho,hd⟩
    ·rcases hk with hk | hk <;> (rw [hk] at hl0;cases hl0)
    ·obtain ⟨c',hc'⟩:=hcf _ hmem rfl
     have:=hcl _ _ hc'
     rw [hc] at this
     cases this
     obtain ⟨sl,q'⟩:=un c o ho (I.freeC _ _ hc) (hx _ _ hc)
     exact ⟨c,hc',_,q',hd⟩
end
end L2
namespace L2
open PySem PySem.Spec PyProof.Rows
noncomputable def H41 (X:Cx) (pins:List (Addr × Obj)) (σ:St) (R:V→Hp→Prop) (acc:Value) (C:Addr) (s':Shared):Prop :=
 ∃ D H' m',acc=.ref D∧Inv X pins σ H' s'∧a51 X pins H' C∧s'.heap.Ns C m'∧R (.ref D) H'
noncomputable def v01 (J:It) (σ0:St) (H1:Hp) (g:TG) (tt:TT) (te:TE) (Q:VK):Prop:=∃ W:Nat→Nat→List V→Hp→Prop,(∃ m,W 0 m [] H1)∧∀ i m ys H,W i m ys H →
 (J.stop i H∧∀ p,H p=none→Q (.ref p) (upd H p (.lst ys))) ∨
 (J.go i H∧ys.length < sizeLine∧∃ N:List V→Hp→Prop,(∀ zs H',N zs H'→∃ m',m' < m∧W (i + 1) m' zs H')∧∀ x H',J.yld i H x H'→g x σ0 H' fun σ2 H2=>tt σ2 H2 fun b H3 =>
  if b=true then te σ2 H3 (fun y H4=>N (ys++[y]) H4) else N ys H3)
noncomputable def H51 (own:List Str) (capt:List (Str × Nat)) (wi:TI) (g:TG) (tt:TT) (te:TE):TE:=fun σ H Q=>wi σ H fun J H1=>v01 J (q20 own capt σ) H1 g tt te Q
section
variable {X:Cx}{pins:List (Addr × Obj)}{σ:St}{H2:Hp}{s2:Shared}{sc:Scope}{own:List Str}{capt:List (Str × Nat)}{cl:List (Str × Addr)}{el tg src:Expr}{tests:List Expr}{ps:Pos}{g:TG}{tt:TT}{te:TE}
theorem C70 (hc:X.calm=true) (S:r40 X sc own capt) (hcl:∀ x c,cl.lookup x=some c→X.env.cells.lookup x=some c) (hcf:∀ y∈sc.names,y.2=.free→∃ c,cl.lookup y.1=some c)
  (hg:∀ C s H fp,PG (c30 X (d30 own capt) sc cl C s H fp) tg g) (ht:∀ C s H fp,PTs (c30 X (d30 own capt) sc cl C s H fp) tests tt) (he:∀ C s H fp,PE (c30 X (d30 own capt) sc cl C s H fp) el te)
  {it:Addr}{fp:List Addr}{tn:Nat→Heap→Prop}{J:It} (I2:Inv X pins σ H2 s2) (T:Turn X.prog X.w X.K tg J fp it tn) (st2:tn 0 s2.heap) (f2:∀ b∈fp,a51 X pins H2 b)
  {R:VK} (h:v01 J (q20 own capt σ) H2 g tt te R) {RR:Value→Addr→Result→Shared→Prop} (hRR:∀ acc C s',H41 X pins σ R acc C s'→RR acc C (.ok .next) s') {E:Value→Shared→Prop} :
  wpAny (model X.prog X.w) X.A (newList []) (fun acc s3=>wpAny (model X.prog X.w) X.A (newFunctionEnv sc X.env.globals cl [] X.env.qual none .none (some X.env)) (fun ce s4 =>
   codeAny (model X.prog X.w) X.A (.compStart (.ListComp el [⟨tg,src,tests,0⟩] sc ps) 0 (.ref it) acc { ce with scope:=relabel sc X.env }) (RR acc ce.locals) s4) E s3) E s2:=by
 obtain ⟨W,⟨m0,w0⟩,turn⟩:=h
 refine wpAny_newObj_type (wpAny_newFunctionEnv S.nocell (by intro y hy;simp at hy) (fun h1 hns1 hsb1=>?_) S.kind)
 dsimp only at hns1 hsb1 ⊢
 generalize hH3:s2.heap.push { cls:=.type "list",dict:=none,data:=.seq ([]:List Value).toArray }=h3 at hns1 hsb1 ⊢
 have hC:h3.objs.size=s2.heap.objs.size + 1:=by rw [← hH3,Heap.size_push]
 have below:∀ b,b < s2.heap.objs.size→b≠h3.objs.size∧b≠s2.heap.objs.size:=fun b hb=>⟨by omega,by omega⟩
 have hDC:s2.heap.objs.size≠h3.objs.size:=by omega
 have old:∀ b o,s2.heap.get? b=some o→h1.get? b=some o:=fun b o e=>hsb1.extBut b o (below b (Heap.lt_size e)).1 (Heap.get?_push_of_some _ (hH3 ▸ Heap.get?_push_of_some _ e))
 have hacc:h1.get? s2.heap.objs.size=some { cls:=.type "list",data:=.seq ([]:List Value).toArray 0 }:=hsb1.extBut _ _ hDC (Heap.get?_push_of_some _ (hH3 ▸ Heap.get?_push_size _ rfl))
 have fpLt:∀ b∈fp,b < s2.heap.objs.size:=fun b hb=>by
  obtain ⟨o,e,_⟩:=T.obj _ _ st2 b hb
  exact Heap.lt_size e
 have celLt:∀ x c,X.env.cells.lookup x=some c→c < s2.heap.objs.size:=fun x c e=>by
  obtain ⟨v,o,q,_⟩:=I2.cell x c e
  exact Heap.lt_size q
 have frLt:∀ b∈frs X.stack,b < s2.heap.objs.size:=fun b hb=>by
  obtain ⟨_,o,q,_⟩:=I2.stack.mem hb
  exact Heap.lt_size q
 have celFp:∀ x c,X.env.cells.lookup x=some c→c ∉ fp:=fun x c e hb=>(f2 c hb).2.2.2.2.1 x c e rfl
 have fpFr:∀ b∈fp,b ∉ frs X.stack:=fun b hb hf=>by
  rcases List.mem_cons.mp (I2.e51 b hf) with z | z
  ·exact (f2 b hb).2.1 z
  ·exact (f2 b hb).2.2.1 z
 have okX:(c30 X (d30 own capt) sc cl h3.objs.size s2 H2 fp).Ok:=by
  refine ⟨I2.ok.mod,S.kind,I2.ok.glob,I2.ok.blt,(by show s2.heap.objs.size≤h3.objs.size;omega),fun x y c e1 e2=>I2.ok.inj x y c (hcl x c e1) (hcl y c e2),fun x hx=>?_,fun x c hx=>(by cases hx),I2.ok.hd,I2.ok.frames,.inl rfl,
   fun b hb=>⟨(below b (fpLt b hb)).1,fun x c e z=>celFp x c (hcl x c e) (z ▸ hb)⟩,I2.bs,Nat.le_trans I2.ok.bsz I2.sz,fun b o e hb=>?_,fpFr,I2.stack,I2.t50⟩
  ·have hx':(x,NameKind.free)∈sc.names:=by
    rcases hx with hx | hx
    ·exact F10 hx (.inl rfl) S.nocell
    ·exact F10 hx (.inr rfl) S.nocell
   exact hcf _ hx' rfl
  ·rcases (f2 b hb).2.2.2.1 with z | z
   ·exact I2.ok.noex b o e z
   ·have l1:b < X.base.objs.size:=Heap.lt_size e
    have l2:X.base.objs.size≤X.s₀.heap.objs.size:=I2.ok.bsz
    have l3:X.s₀.heap.objs.size≤b:=z
    exact absurd l1 (Nat.not_lt.mpr (Nat.le_trans l2 l3))
 have reset:∀ {pl:List (Addr × Obj)}{σ':St}{H':Hp}{s':Shared},Inv (c30 X (d30 own capt) sc cl h3.objs.size s2 H2 fp) pl σ' H' s'→Inv (c30 X (d30 own capt) sc cl h3.objs.size s2 H2 fp) pl (q20 own capt σ) H' s':=fun {pl σ' H' s'} I'=>by
  obtain ⟨m,hn,_⟩:=I'.loc
  refine ⟨I'.ok,I'.os,I'.bare,I'.base,⟨m,hn,fun i x v e1 e2 _=>L50 I2 S hcl hcf celFp (fun c o q n hx=>I'.base.any q n hx) m i x v e1 e2⟩,I'.cell,I'.free,I'.freeC,I'.pin,I'.hok,?_⟩
  show (q20 own capt σ).length=(d30 own capt).length
  simp [q20,d30]
 have start:Inv (c30 X (d30 own capt) sc cl h3.objs.size s2 H2 fp) [(s2.heap.objs.size,{ cls:=.type "list",data:=.seq ([]:List Value).toArray 0 })] (q20 own capt σ) H2 { s2 with heap:=h1,toks:=s2.toks + ([]:List (Str × Value)).length }:=by
  refine ⟨okX,rfl,I2.bare,Un.kept old,⟨_,hns1,fun i x v e1 e2 _=>L50 I2 S hcl hcf celFp (fun c o q _ _=>⟨o.slots,old c o q⟩) _ i x v e1 e2⟩,fun x c e=>?_,?_,fun x c e=>I2.freeC x c (hcl x c e),fun p hp=>?_,I2.hok.kept old,?_⟩
  ·obtain ⟨v,q⟩:=I2.cell x c (hcl x c e)
   exact ⟨v,q.keeps old⟩
  ·exact I2.hok.fresh (by show s2.heap.objs.size≤h3.objs.size;omega)
  ·have hp':p=(s2.heap.objs.size,{ cls:=.type "list",data:=.seq ([]:List Value).toArray 0 }):=by simpa using hp
   subst hp'
   exact ⟨hacc,I2.hok.fresh (Nat.le_refl _),hDC,fun z=>Nat.lt_irrefl _ (frLt _ z),fun v z=>by cases z⟩
  ·show (q20 own capt σ).length=(d30 own capt).length
   simp [q20,d30]
 have e11:∀ {pl:List (Addr × Obj)}{H':Hp},(∀ p∈pl,p.1 ∉ fp)→(∀ b∈fp,H' b=none)→∀ b∈fp,a51 (c30 X (d30 own capt) sc cl h3.objs.size s2 H2 fp) pl H' b:=fun {pl H'} hp hn b hb =>
  ⟨hn b hb,(below b (fpLt b hb)).1,fpFr b hb,.inl hb,fun x c e z=>celFp x c (hcl x c e) (z ▸ hb),fun p hpp z=>hp p (by simpa using hpp) (z ▸ hb)⟩
 have hDfp:s2.heap.objs.size ∉ fp:=fun z=>Nat.lt_irrefl _ (fpLt _ z)
 have loop:∀ s3:Shared,s3={ s2 with heap:=h1,toks:=s2.toks + ([]:List (Str × Value)).length } →
   codeAny (model X.prog X.w) X.A (.compLoop (.ListComp el [⟨tg,src,tests,0⟩] sc ps) 0 (.ref it) (.ref s2.heap.objs.size) (compEnvC sc cl h3.objs.size X.env)) (RR (.ref s2.heap.objs.size) h3.objs.size) s3:=by
  rintro s3 rfl
  refine g81 (fun n s'=>∃ i ys H' its k,Inv (c30 X (d30 own capt) sc cl h3.objs.size s2 H2 fp) [(s2.heap.objs.size,{ cls:=.type "list",data:=.seq (List.toArray its) k })] (q20 own capt σ) H' s'∧tn i s'.heap∧(∀ b∈fp,H' b=none)∧Vals ys its∧ys.length≤sizeLine∧W i n ys H') ?_ m0
   ⟨0,[],H2,[],0,start,T.keep _ _ _ st2 fun b _ o e=>old b o e,fun b hb=>(f2 b hb).1,.nil,Nat.zero_le _,w0⟩
  rintro n s' ⟨i,ys,H',its,k,I',st',fr',hv,hz,w'⟩
  have pinD:∀ p∈[((s2.heap.objs.size:Addr),({ cls:=.type "list",data:=.seq (List.toArray its) k }:Obj))],p.1 ∉ fp:=fun p hp=>by
   have hp':p=(s2.heap.objs.size,{ cls:=.type "list",data:=.seq (List.toArray its) k }):=by simpa using hp
   subst hp'
   exact hDfp
  rcases turn i n ys H' w' with ⟨stop,q⟩ | ⟨go,hlt,N,hN,step⟩
  ·refine thn (T.done (c30 X (d30 own capt) sc cl h3.objs.size s2 H2 fp) rfl rfl rfl hc i _ s' _ H' NoX I' (e11 pinD fr') st' stop) fun r s1 hr=>?_
   obtain ⟨hr,I1⟩:=hr
   subst hr
   obtain ⟨gD,nD,_,_,_⟩:=I1.pin _ (List.mem_append_right _ List.mem_cons_self)
   obtain ⟨m',hn',_⟩:=id I1.loc
   have un:Un (frs X.stack) fp H2 (upd H' s2.heap.objs.size (.lst ys)) s2.heap s1.heap:=by
    have u:=I1.base
    have nD2:H2 s2.heap.objs.size=none:=I2.hok.fresh (Nat.le_refl _)
    refine ⟨u.keep,u.slot,fun b o e n hx=>?_,u.there,fun b xs e=>?_,fun b o xs e=>?_,fun b ps' e=>?_⟩
    ·rw [a30 (below b (Heap.lt_size e)).2];exact u.free b o e n hx
    ·rw [a30 (a50 e nD2)];exact u.tups b xs e
    ·rw [a30 (a50 e nD2)];exact u.frzs b o xs e
    ·obtain ⟨more,e'⟩:=u.tbls b ps' e
     exact ⟨more,by rw [a30 (a50 e nD2)];exact e'⟩
   have IX:Inv X pins σ (upd H' s2.heap.objs.size (.lst ys)) s1:=I2.S31 I1.os un (I1.hok.u81 nD hv hz gD) I1.bare fun b hb=>⟨(f2 b hb).2.2.2.1,(f2 b hb).2.1,(f2 b hb).2.2.2.2.1,(f2 b hb).2.2.2.2.2⟩
   refine hRR _ _ _ ⟨_,_,m',rfl,IX,?_,hn',q _ nD⟩
   exact I2.e11 (by omega) (by rw [a30 hDC.symm];exact I1.free)
  ·refine thn (T.item (c30 X (d30 own capt) sc cl h3.objs.size s2 H2 fp) rfl rfl rfl hc i _ s' _ H' NoX I' (e11 pinD fr') st' go) fun r s1 hr=>?_
   obtain ⟨u,hr,h4⟩:=hr
   subst hr
   refine thn h4 fun _ s5 hr5=>?_
   obtain ⟨x,H5,I5,r5,y5,st5,fr5⟩:=hr5
   have I5p:=I5.pinned (e11 pinD fr5) (T.obj _ _ st5)
   refine thn (hg _ _ _ _ _ s5 _ H5 x u _ I5p r5 (step x H5 y5)) fun _ s6 hr6=>?_
   obtain ⟨σ6,H6,I6,q6⟩:=hr6
   refine thn (ht _ _ _ _ _ s6 σ6 H6 _ I6 q6) fun ok s7 hr7=>?_
   obtain ⟨H7,I7,q7⟩:=hr7
   have memFp:∀ {pl:List (Addr × Obj)}{b:Addr}{o:Obj},b∈fp→s5.heap.get? b=some o→(b,o)∈([]:List (Addr × Obj))++(pl++y50 fp s5.heap):=fun hb e=>List.mem_append_right _ (List.mem_append_right _ (l10 hb e))
   cases ok with
   | false =>
    rw [if_neg Bool.false_ne_true] at q7 ⊢
    obtain ⟨m',hm,w7⟩:=hN _ _ q7
    refine ⟨m',hm,i + 1,ys,H7,its,k,reset (I7.y30 fun p hp=>I7.pin p (List.mem_append_right _ (List.mem_append_left _ hp))),T.keep _ _ _ st5 fun b hb o e=>(I7.pin (b,o) (memFp hb e)).1,fun b hb=>?_,hv,hz,w7⟩
    obtain ⟨o,e,_⟩:=T.obj _ _ st5 b hb
    exact (I7.pin (b,o) (memFp hb e)).2.1
   | true =>
    rw [if_pos rfl] at q7 ⊢
    refine thn (he _ _ _ _ _ s7 σ6 H7 _ I7 q7) fun uv s8 hr8=>?_
    obtain ⟨y,H8,I8,r8,q8⟩:=hr8
    obtain ⟨m',hm,w8⟩:=hN _ _ q8
    obtain ⟨gD,nD,dC,dF,_⟩:=I8.pin _ (List.mem_append_right _ (List.mem_append_left _ List.mem_cons_self))
    refine append_at gD (fun h9 sb hD9=>?_) (by show (List.toArray its).size≤sizeLine;rw [List.size_toArray,← hv.length];exact hz)
    have I8a:Inv (c30 X (d30 own capt) sc cl h3.objs.size s2 H2 fp) (y50 fp s5.heap) σ6 H8 s8:=I8.y30 fun p hp=>I8.pin p (List.mem_append_right _ (List.mem_append_right _ hp))
    have I9:Inv (c30 X (d30 own capt) sc cl h3.objs.size s2 H2 fp) (y50 fp s5.heap) σ6 H8 { s8 with heap:=h9 }:=I8a.turned (t':=s8.toks) (fun b o hb e=>(sb.2 b hb).trans e) nD dC (.inr (Nat.le_refl _))
     (fun x c e z=>Nat.lt_irrefl s2.heap.objs.size (by have:=celLt x c (hcl x c e);rw [z] at this;exact this)) (fun p hp z=>hDfp (z ▸ (K20 (by simpa using hp)).1))
    rw [List.push_toArray] at hD9
    refine ⟨m',hm,i + 1,ys++[y],H8,its++[uv],k + 1,(reset I9).y30 fun p hp=>?_,T.keep _ _ _ st5 fun b hb o e=>?_,fun b hb=>?_,hv.append (.cons r8 .nil),by rw [List.length_append];exact hlt,w8⟩
    ·have hp':p=(s2.heap.objs.size,{ cls:=.type "list",data:=.seq (List.toArray (its++[uv])) (k + 1) }):=by simpa using hp
     subst hp'
     exact ⟨hD9,nD,dC,dF,fun v z=>by cases z⟩
    ·exact (I9.pin (b,o) (List.mem_append_right _ (l10 hb e))).1
    ·obtain ⟨o,e,_⟩:=T.obj _ _ st5 b hb
     exact (I9.pin (b,o) (List.mem_append_right _ (l10 hb e))).2.1
 exact codeAny_compStart_list (loop _ rfl) (T.self _ 0 _ _ _ (T.keep _ _ _ st2 fun b _ o e=>old b o e) (loop _ rfl))
end
section
variable {X:Cx}{sc:Scope}{own:List Str}{capt:List (Str × Nat)}{el tg src:Expr}{tests:List Expr}{ps pos:Pos}{wi:TI}{g:TG}{tt:TT}{te:TE}
theorem h01 (hc:X.calm=true) (S:r40 X sc own capt) (hi:PI X tg src wi) (hg:∀ cl C s H fp,PG (c30 X (d30 own capt) sc cl C s H fp) tg g)
  (ht:∀ cl C s H fp,PTs (c30 X (d30 own capt) sc cl C s H fp) tests tt) (he:∀ cl C s H fp,PE (c30 X (d30 own capt) sc cl C s H fp) el te)
  (hs:∀ x,foldedSetIterable src X.env x=pure x:=by intro _;rfl):PE X (.ListComp el [⟨tg,src,tests,0⟩] sc ps) (H51 own capt wi g tt te):=by
 intro pins s σ H Q I h
 obtain ⟨cl,hclos,hcl,hcf⟩:=g71 (scope:=sc) (env:=X.env) fun y hy hk=>I.ok.has y.1 (S.frees y hy hk)
 rw [eval_ListComp]
 refine wpAny_comprehension_free (use:=none) rfl hs hclos S.kind S.locs (thn (hi pins s σ H _ I h) fun v s1 h1=>thn h1 fun itv s2 h2=>?_)
 obtain ⟨it,fp,tn,J,H2,e,I2,T,st2,f2,hw⟩:=h2
 subst e
 refine C70 hc S hcl hcf (hg cl) (ht cl) (he cl) I2 T st2 f2 hw (RR:=fun acc C=>compPost (model X.prog X.w) X.A X.xe none (EP X pins σ Q) acc C) fun acc C s' hf=>?_
 obtain ⟨D,H',m',rfl,I',f',ns',r⟩:=hf
 exact ⟨m',ns',fun h' sb=>⟨.ref D,H',I'.turned (t':=s'.toks) (fun b o hb e=>(sb.2 b hb).trans e) f'.1 f'.2.1 f'.2.2.2.1 f'.2.2.2.2.1 f'.2.2.2.2.2,rfl,r⟩⟩
theorem H61 {i:Nat}{y:Str}{py:Pos} (hN:X.N.Nodup) (hiN:X.N[i]?=some y) (hy:Loc X.env.scope y) (hsw:swapsWith (.ListComp el [⟨tg,src,tests,0⟩] sc ps) (some (.Name y py)) pos.line X.env=pure true)
  (hc:X.calm=true) (S:r40 X sc own capt) (hi:PI X tg src wi) (hg:∀ cl C s H fp,PG (c30 X (d30 own capt) sc cl C s H fp) tg g)
  (ht:∀ cl C s H fp,PTs (c30 X (d30 own capt) sc cl C s H fp) tests tt) (he:∀ cl C s H fp,PE (c30 X (d30 own capt) sc cl C s H fp) el te)
  (hs:∀ x,foldedSetIterable src X.env x=pure x:=by intro _;rfl) (hf:X.fn y=true∨X.env.scope.names.lookup y=some .local:=by first | exact .inl rfl | exact .inr rfl | assumption) :
  PS X (.Assign [.Name y py] (.ListComp el [⟨tg,src,tests,0⟩] sc ps) pos) (T51 (H51 own capt wi g tt te) (Q90 i)):=by
 intro pins s σ H D I h
 obtain ⟨cl,hclos,hcl,hcf⟩:=g71 (scope:=sc) (env:=X.env) fun y hy hk=>I.ok.has y.1 (S.frees y hy hk)
 rw [exec_Assign_Name_used _ _ _ _ hsw]
 refine wpAny_bind (wpAny_standAt (wpAny_bind ?_))
 show wpAny _ X.A (do let _ ← comprehension (.ListComp el [⟨tg,src,tests,0⟩] sc ps) sc X.env _ (newList []) false (eval src X.env) (some (assign (.Name y py) X.env))) _ _ s
 refine wpAny_bind (wpAny_mono (wpAny_comprehension_free (use:=some (assign (.Name y py) X.env)) (Q:=fun _ s'=>SP X pins D .next s') rfl hs hclos S.kind S.locs
  (thn (hi pins s σ H _ I h) fun v s1 h1=>thn h1 fun itv s2 h2=>?_)) (fun _ s' hq=>wpAny_pure (wpAny_pure hq)) fun _ _ e=>e)
 obtain ⟨it,fp,tn,J,H2,e,I2,T,st2,f2,hw⟩:=h2
 subst e
 refine C70 hc S hcl hcf (hg cl) (ht cl) (he cl) I2 T st2 f2 hw (RR:=fun acc C=>compPost (model X.prog X.w) X.A X.xe (some (assign (.Name y py) X.env)) (fun _ s'=>SP X pins D .next s') acc C) fun acc C s' hfn=>?_
 obtain ⟨DA,H',m',rfl,I',f',ns',r⟩:=hfn
 show wpAny _ X.A (assign (.Name y py) X.env (.ref DA)) _ _ _
 refine wpAny_assign_Name (y40 (v:=.ref DA) I' hN hiN hy rfl (fun s3 I3 ha=>?_) hf)
 obtain ⟨a,sb,ha⟩:=ha
 have hCa:C≠a:=fun z=>by
  rcases ha with q | q
  ·exact f'.2.1 (z.trans q)
  ·exact f'.2.2.2.2.1 _ _ q z.symm
 exact ⟨m',ns'.sameBut sb hCa,fun h' sb'=>⟨_,H',I3.turned (t':=s3.toks) (fun b o hb e=>(sb'.2 b hb).trans e) f'.1 f'.2.1 f'.2.2.2.1 f'.2.2.2.2.1 f'.2.2.2.2.2,r⟩⟩
end
end L2
namespace L2
open PySem
section
variable {P:Program}{w:World}{A:Around}{E:Value→Shared→Prop}{s:Shared}
theorem o50 {r t:Addr}{k:Nat}{vs:Array Value}{x:Value}{Q:Value→Shared→Prop} (hr:s.heap.IsTupleIter r t k) (ht:s.heap.IsTuple t vs) (hx:vs[k]?=some x)
  (hQ:∀ h',h'.IsTupleIter r t (k + 1)→Heap.SameBut r s.heap h'→Q x { s with heap:=h' }):wpAny (model P w) A (Builtin.SmallTypes.nextOf (.ref r)) Q E s:=by
 obtain ⟨o,ho,hc,hd⟩:=id hr;obtain ⟨ot,hot,_,nt,hdt⟩:=ht;unfold Builtin.SmallTypes.nextOf
 refine wpAny_bind (wpAny_callSpecial?_slot (name:=Str.ofString "__next__") hr.typeIs F.slot_tuple_iterator_next (wpAny_call_entry F.slot_tuple_iterator_next hr.typeIs F.entry_tuple_iterator_next ?_ (F.args_tuple_iterator_next_1 _)))
 show wpAny _ _ (field (.ref r) 0 >>= _) _ _ s
 refine wpAny_bind (wpAny_field ho hd (x:=.ref t) rfl ?_);show wpAny _ _ (if (Value.ref t == Value.none)=true then _ else _) _ _ s
 rw [if_neg (show ¬ ((Value.ref t == Value.none)=true) from Bool.false_ne_true)];show wpAny _ _ (field (.ref r) 1 >>= _) _ _ s
 refine wpAny_bind (wpAny_field ho hd (x:=.int k 0) rfl ?_);show wpAny _ _ (seqItems? (.ref t) >>= _) _ _ s
 refine wpAny_bind (wpAny_seqItems hot hdt ?_);simp only [Int.toNat_natCast,hx]
 refine wpAny_bind (wpAny_setField ho hd (by simp) (wpAny_pure ⟨x,rfl,wpAny_pure (hQ _ ⟨_,Heap.get?_update_self _ ho (Obj.isFreed_of_fields (Obj.data_mapFields hd _)),(Obj.cls_mapFields ..).trans hc,by rw [Obj.data_mapFields hd];simp [rawInt]⟩ (Heap.SameBut.update ..))⟩))
theorem l90 {r t:Addr}{k:Nat}{vs:Array Value}{Q:Value→Shared→Prop} (hh:A.handled=none) (hr:s.heap.IsTupleIter r t k) (ht:s.heap.IsTuple t vs) (hx:vs[k]?=none)
  (hE:∀ h' e,Heap.ExtBut r s.heap h'→(∃ o,h'.get? e=some o∧o.cls=.type "StopIteration")→E (.ref e) { s with heap:=h' }):wpAny (model P w) A (Builtin.SmallTypes.nextOf (.ref r)) Q E s:=by
 obtain ⟨o,ho,hc,hd⟩:=id hr;obtain ⟨ot,hot,_,nt,hdt⟩:=ht;unfold Builtin.SmallTypes.nextOf
 refine wpAny_bind (wpAny_callSpecial?_slot (name:=Str.ofString "__next__") hr.typeIs F.slot_tuple_iterator_next (wpAny_call_entry F.slot_tuple_iterator_next hr.typeIs F.entry_tuple_iterator_next ?_ (F.args_tuple_iterator_next_1 _)))
 show wpAny _ _ (field (.ref r) 0 >>= _) _ _ s
 refine wpAny_bind (wpAny_field ho hd (x:=.ref t) rfl ?_);show wpAny _ _ (if (Value.ref t == Value.none)=true then _ else _) _ _ s
 rw [if_neg (show ¬ ((Value.ref t == Value.none)=true) from Bool.false_ne_true)];show wpAny _ _ (field (.ref r) 1 >>= _) _ _ s
 refine wpAny_bind (wpAny_field ho hd (x:=.int k 0) rfl ?_);show wpAny _ _ (seqItems? (.ref t) >>= _) _ _ s
 refine wpAny_bind (wpAny_seqItems hot hdt ?_);simp only [Int.toNat_natCast,hx]
 refine wpAny_bind (wpAny_rule (wpAny_bind (wpAny_setField ho hd (by simp) ?_)));show wpAny _ _ (newExc (.type "StopIteration") [] >>= _) _ _ _
 refine wpAny_bind ?_;simp only [newExc,newTuple]
 refine wpAny_bind (wpAny_newObj_type ?_ (by size_fits));refine wpAny_bind (m:=firstArgMember _ _) (wpAny_of_eq (a:=Value.none) (by first | rfl | (simp only [firstArgMember];rfl)) ?_)
 refine wpAny_newObj_type ?_ (by size_fits);simp only [raiseNew];refine wpAny_bind (wpAny_handled ?_)
 first | rw [show A.in1.handled=none from hh] | rw [hh]
 refine wpAny_bind (wpAny_pure (wpAny_throw (hE _ _ (((Heap.SameBut.update ..).extBut.push _).push _) ⟨_,Heap.get?_push_size _ rfl,rfl⟩)))
theorem h31 {z TI TO i1 i2 l1 l2:Addr}{k:Nat}{xs ys:Array Value}{x y a b:Value}{Q:Option Value→Shared→Prop} (D:ZipApart z TI TO i1 i2 l1 l2) (hz:IsZip s.heap z TI TO .none)
  (hTI:IsPair s.heap TI (.ref i1) (.ref i2)) (hTO:IsPair s.heap TO a b) (h1:s.heap.IsTupleIter i1 l1 k) (h2:s.heap.IsTupleIter i2 l2 k) (hl1:s.heap.IsTuple l1 xs) (hl2:s.heap.IsTuple l2 ys)
  (hx:xs[k]?=some x) (hy:ys[k]?=some y)
  (hQ:∀ h',IsZip h' z TI TO (rawInt s.heap.objs.size)→IsPair h' TO x y→h'.IsTupleIter i1 l1 (k + 1)→h'.IsTupleIter i2 l2 (k + 1)→IsPair h' s.heap.objs.size x y→h'.objs.size=s.heap.objs.size + 1 →
   (∀ c o,c≠z→c≠TO→c≠i1→c≠i2→s.heap.get? c=some o→h'.get? c=some o)→Q (some (.ref s.heap.objs.size)) { s with heap:=h' }):wpAny (model P w) A (pyNext (.ref z)) Q E s:=by
 have hT:s.TypeIs (.ref z) "zip":=⟨_,hz,rfl⟩
 unfold pyNext;refine wpAny_bind (wpAny_attempt (wpAny_callSpecial?_slot (name:=Str.ofString "__next__") hT F.slot_zip_next (wpAny_call_entry F.slot_zip_next hT F.entry_zip_next ?_ (F.args_zip_next_1 _))))
 show wpAny _ _ (field (.ref z) 2 >>= _) _ _ _;refine wpAny_bind (wpAny_field hz rfl (x:=.bool false) rfl ?_)
 show wpAny _ _ (field (.ref z) 3 >>= _) _ _ _;refine wpAny_bind (wpAny_field hz rfl (x:=.ref TI) rfl ?_)
 refine wpAny_bind (wpAny_seqItems hTI rfl ?_);show wpAny _ _ (Builtin.SmallTypes.ownedTupleIsFree (.ref z) >>= _) _ _ _
 refine wpAny_bind ?_;unfold Builtin.SmallTypes.ownedTupleIsFree;refine wpAny_bind (wpAny_field hz rfl (x:=.none) rfl (wpAny_pure ?_));simp only [if_true]
 refine wpAny_bind (wpAny_rule (wpAny_bind (wpAny_field hz rfl (x:=.ref TO) rfl (wpAny_bind (wpAny_setField_rec hz (by simp) fun g1 z1 e1=>?_)))))
 replace z1:IsZip g1 z TI TO .ellipsis:=z1
 refine wpAny_bind ?_;simp only [List.zipIdx_cons,List.zipIdx_nil,List.forIn_cons,List.forIn_nil]
 refine wpAny_bind (wpAny_bind (wpAny_onRaise ?_));show wpAny _ _ (Builtin.SmallTypes.nextOf (.ref i1) >>= _) _ _ _
 refine wpAny_bind (o50 (h1.extBut e1.extBut D.i1z) (hl1.extBut e1.extBut D.l1z) hx fun g2 r2 e2=>wpAny_pure ?_)
 have t2:IsPair g2 TO a b:=e2.extBut _ _ D.TOi1 (e1.extBut _ _ D.TOz hTO)
 refine wpAny_bind (wpAny_seqItems t2 rfl (wpAny_bind (wpAny_updateSeq_pair t2 fun g3 t3 e3=>?_)))
 replace t3:IsPair g3 TO x b:=t3
 refine wpAny_bind (wpAny_letGo (wpAny_pure ?_));refine wpAny_bind (wpAny_bind (wpAny_onRaise ?_));show wpAny _ _ (Builtin.SmallTypes.nextOf (.ref i2) >>= _) _ _ _
 refine wpAny_bind (o50 (((h2.extBut e1.extBut D.i2z).extBut e2.extBut D.i12.symm).extBut e3.extBut D.TOi2.symm) (((hl2.extBut e1.extBut D.l2z).extBut e2.extBut D.l2i1).extBut e3.extBut D.l2TO) hy fun g4 r4 e4=>wpAny_pure ?_)
 have t4:IsPair g4 TO x b:=e4.extBut _ _ D.TOi2 t3
 refine wpAny_bind (wpAny_seqItems t4 rfl (wpAny_bind (wpAny_updateSeq_pair t4 fun g5 t5 e5=>?_)))
 replace t5:IsPair g5 TO x y:=t5
 refine wpAny_bind (wpAny_letGo (wpAny_pure (wpAny_pure ?_)));refine wpAny_bind (wpAny_seqItems t5 rfl (wpAny_bind (wpAny_newTuple ?_)))
 have sz:g5.objs.size=s.heap.objs.size:=by rw [e5.1,e4.1,e3.1,e2.1,e1.1]
 have z5:IsZip g5 z TI TO .ellipsis:=e5.extBut _ _ D.TOz.symm (e4.extBut _ _ D.i2z.symm (e3.extBut _ _ D.TOz.symm (e2.extBut _ _ D.i1z.symm z1)))
 have kp:∀ c o,c≠z→c≠TO→c≠i1→c≠i2→s.heap.get? c=some o→g5.get? c=some o:=fun c o c1 c2 c3 c4 e=>e5.extBut _ _ c2 (e4.extBut _ _ c4 (e3.extBut _ _ c2 (e2.extBut _ _ c3 (e1.extBut _ _ c1 e))))
 have r1:g5.IsTupleIter i1 l1 (k + 1):=((r2.extBut e3.extBut D.TOi1.symm).extBut e4.extBut D.i12).extBut e5.extBut D.TOi1.symm
 have r5:g5.IsTupleIter i2 l2 (k + 1):=r4.extBut e5.extBut D.TOi2.symm
 have zl:z < g5.objs.size:=Heap.lt_size z5
 show wpAny _ _ (Builtin.SmallTypes.ownedTupleHandOut (.ref z) (.ref g5.objs.size) >>= _) _ _ _
 refine wpAny_bind ?_;unfold Builtin.SmallTypes.ownedTupleHandOut
 have z6:IsZip (g5.push { cls:=.type "tuple",data:=.seq #[x,y] }) z TI TO .ellipsis:=Heap.get?_push_of_some _ z5
 refine wpAny_bind (wpAny_setField_rec z6 (by simp) fun g7 z7 e7=>?_)
 replace z7:IsZip g7 z TI TO (rawInt g5.objs.size):=z7
 refine wpAny_setField_rec z7 (by simp) fun g8 z8 e8=>?_
 replace z8:IsZip g8 z TI TO (rawInt g5.objs.size):=z8
 have up:∀ c o,c≠z→g5.get? c=some o→g8.get? c=some o:=fun c o c1 e=>e8.extBut _ _ c1 (e7.extBut _ _ c1 (Heap.get?_push_of_some _ e))
 have t8:IsPair g8 g5.objs.size x y:=e8.extBut _ _ (Nat.ne_of_gt zl) (e7.extBut _ _ (Nat.ne_of_gt zl) (Heap.get?_push_size _ rfl))
 have s8:g8.objs.size=g5.objs.size + 1:=by rw [e8.1,e7.1,Heap.size_push]
 rw [sz] at z8 t8 s8
 refine wpAny_pure ⟨_,rfl,?_⟩;refine wpAny_pure ?_;show Q (some (.ref g5.objs.size)) _;rw [sz]
 exact hQ g8 z8 (up _ _ D.TOz t5) (by obtain ⟨o,ho,q⟩:=r1;exact ⟨o,up _ o D.i1z ho,q⟩) (by obtain ⟨o,ho,q⟩:=r5;exact ⟨o,up _ o D.i2z ho,q⟩) t8 s8 fun c o c1 c2 c3 c4 e=>up c o c1 (kp c o c1 c2 c3 c4 e)
theorem v21 {z TI TO i1 i2 l1 l2:Addr}{k:Nat}{xs ys:Array Value}{a b:Value}{Q:Option Value→Shared→Prop} (hh:A.handled=none) (D:ZipApart z TI TO i1 i2 l1 l2) (hz:IsZip s.heap z TI TO .none)
  (hTI:IsPair s.heap TI (.ref i1) (.ref i2)) (hTO:IsPair s.heap TO a b) (h1:s.heap.IsTupleIter i1 l1 k) (h2:s.heap.IsTupleIter i2 l2 k) (hl1:s.heap.IsTuple l1 xs) (hl2:s.heap.IsTuple l2 ys)
  (hend:xs[k]?=none∨ys[k]?=none) (hQ:∀ h',(∀ c o,c≠z→c≠TO→c≠i1→c≠i2→s.heap.get? c=some o→h'.get? c=some o)→Q none { s with heap:=h' }):wpAny (model P w) A (pyNext (.ref z)) Q E s:=by
 have hT:s.TypeIs (.ref z) "zip":=⟨_,hz,rfl⟩
 have fin:∀ (h':Heap) (e:Addr),(∀ c o,c≠z→c≠TO→c≠i1→c≠i2→s.heap.get? c=some o→h'.get? c=some o)→(∃ o,h'.get? e=some o∧o.cls=.type "StopIteration") →
   wpAny (model P w) A (isInstance (.ref e) (.type "StopIteration") >>= fun b=>if b=true then pure none else throw (.ref e)) Q E { s with heap:=h' }:=fun h' e kp he=>by
  obtain ⟨o,ho,hc⟩:=he
  exact wpAny_bind (wpAny_isInstance (T:="StopIteration") (b:=true) ⟨o,ho,hc⟩ isSubtype_stop (wpAny_pure (hQ _ kp)))
 unfold pyNext;refine wpAny_bind (wpAny_attempt (wpAny_callSpecial?_slot (name:=Str.ofString "__next__") hT F.slot_zip_next (wpAny_call_entry F.slot_zip_next hT F.entry_zip_next ?_ (F.args_zip_next_1 _))))
 show wpAny _ _ (field (.ref z) 2 >>= _) _ _ _;refine wpAny_bind (wpAny_field hz rfl (x:=.bool false) rfl ?_)
 show wpAny _ _ (field (.ref z) 3 >>= _) _ _ _;refine wpAny_bind (wpAny_field hz rfl (x:=.ref TI) rfl ?_)
 refine wpAny_bind (wpAny_seqItems hTI rfl ?_);show wpAny _ _ (Builtin.SmallTypes.ownedTupleIsFree (.ref z) >>= _) _ _ _
 refine wpAny_bind ?_;unfold Builtin.SmallTypes.ownedTupleIsFree;refine wpAny_bind (wpAny_field hz rfl (x:=.none) rfl (wpAny_pure ?_));simp only [if_true]
 refine wpAny_bind (wpAny_rule (wpAny_bind (wpAny_field hz rfl (x:=.ref TO) rfl (wpAny_bind (wpAny_setField_rec hz (by simp) fun g1 z1 e1=>?_)))))
 replace z1:IsZip g1 z TI TO .ellipsis:=z1
 refine wpAny_bind ?_;simp only [List.zipIdx_cons,List.zipIdx_nil,List.forIn_cons,List.forIn_nil]
 refine wpAny_bind (wpAny_bind (wpAny_onRaise ?_));show wpAny _ _ (Builtin.SmallTypes.nextOf (.ref i1) >>= _) _ _ _
 cases hx:xs[k]? with
 | none =>
  refine wpAny_bind (l90 hh (h1.extBut e1.extBut D.i1z) (hl1.extBut e1.extBut D.l1z) hx fun g2 e e2 he=>?_)
  obtain ⟨oe,hoe,hce⟩:=he
  have z2:IsZip g2 z TI TO .ellipsis:=e2 _ _ D.i1z.symm z1
  have hez:e≠z:=fun q=>by subst q;rw [z2] at hoe;cases hoe;simp at hce
  exact wpAny_setField_rec z2 (by simp) fun g3 _ e3=>fin g3 e (fun c o c1 _ c3 _ q=>e3.extBut _ _ c1 (e2 _ _ c3 (e1.extBut _ _ c1 q))) ⟨oe,e3.extBut _ _ hez hoe,hce⟩
 | some x =>
  have hy:ys[k]?=none:=by rcases hend with q | q;rw [hx] at q;cases q;exact q
  refine wpAny_bind (o50 (h1.extBut e1.extBut D.i1z) (hl1.extBut e1.extBut D.l1z) hx fun g2 r2 e2=>wpAny_pure ?_)
  have t2:IsPair g2 TO a b:=e2.extBut _ _ D.TOi1 (e1.extBut _ _ D.TOz hTO)
  refine wpAny_bind (wpAny_seqItems t2 rfl (wpAny_bind (wpAny_updateSeq_pair t2 fun g3 t3 e3=>?_)))
  refine wpAny_bind (wpAny_letGo (wpAny_pure ?_));refine wpAny_bind (wpAny_bind (wpAny_onRaise ?_));show wpAny _ _ (Builtin.SmallTypes.nextOf (.ref i2) >>= _) _ _ _
  refine wpAny_bind (l90 hh (((h2.extBut e1.extBut D.i2z).extBut e2.extBut D.i12.symm).extBut e3.extBut D.TOi2.symm) (((hl2.extBut e1.extBut D.l2z).extBut e2.extBut D.l2i1).extBut e3.extBut D.l2TO) hy fun g4 e e4 he=>?_)
  obtain ⟨oe,hoe,hce⟩:=he
  have z4:IsZip g4 z TI TO .ellipsis:=e4 _ _ D.i2z.symm (e3.extBut _ _ D.TOz.symm (e2.extBut _ _ D.i1z.symm z1))
  have hez:e≠z:=fun q=>by subst q;rw [z4] at hoe;cases hoe;simp at hce
  exact wpAny_setField_rec z4 (by simp) fun g5 _ e5=>fin g5 e (fun c o c1 c2 c3 c4 q=>e5.extBut _ _ c1 (e4 _ _ c4 (e3.extBut _ _ c2 (e2.extBut _ _ c3 (e1.extBut _ _ c1 q))))) ⟨oe,e5.extBut _ _ hez hoe,hce⟩
noncomputable abbrev zT1 (h:Heap) (l1:Addr):Heap:=h.push { cls:=.type "tuple_iterator",data:=.fields #[.ref l1,.int 0 0] }
noncomputable abbrev zT2 (h:Heap) (l1 l2:Addr):Heap:=(zT1 h l1).push { cls:=.type "tuple_iterator",data:=.fields #[.ref l2,.int 0 0] }
noncomputable abbrev zT3 (h:Heap) (l1 l2:Addr):Heap:=(zT2 h l1 l2).push { cls:=.type "tuple",data:=.seq #[.ref h.objs.size,.ref (zT1 h l1).objs.size] }
noncomputable abbrev zT4 (h:Heap) (l1 l2:Addr):Heap:=(zT3 h l1 l2).push { cls:=.type "tuple",data:=.seq #[.none,.none] }
noncomputable abbrev zT5 (h:Heap) (l1 l2:Addr):Heap:=(zT4 h l1 l2).push { cls:=.type "zip",data:=.fields #[.none,.bool false,.bool false,.ref (zT2 h l1 l2).objs.size,.ref (zT3 h l1 l2).objs.size] }
theorem b11 (l1 l2:Addr) (xs ys:Array Value) :
  Meets (Builtin.«zip.__new__» ⟨[.type "zip",.ref l1,.ref l2],[]⟩) (fun _ R s=>s.heap.IsTuple l1 xs∧s.heap.IsTuple l2 ys∧R (.ok (.ret (.ref (zT4 s.heap l1 l2).objs.size))) { s with heap:=zT5 s.heap l1 l2 }) :=
 .of_wp fun P w A R s h=>by
  obtain ⟨hp,g,d,tk,os⟩:=s;obtain ⟨hl1,hl2,h⟩:=h
  have hsub:=sub_zip
  have hL1:Heap.IsTuple (Shared.heap ⟨hp,g,d,tk,os⟩) l1 xs:=hl1
  have hL2:Heap.IsTuple (Shared.heap ⟨hp.push { cls:=.type "tuple_iterator",data:=.fields #[.ref l1,.int 0 0] },g,d,tk,os⟩) l2 ys:=Heap.IsTuple.push hl2 _
  wp_walk using wpAny_pyIter_tuple hL1,wpAny_pyIter_tuple hL2
  exact ⟨_,rfl,h⟩
theorem h41 {l1 l2:Addr}{xs ys:Array Value}{Q:Value→Shared→Prop} (hl1:s.heap.IsTuple l1 xs) (hl2:s.heap.IsTuple l2 ys)
  (h:∀ h',IsZip h' (s.heap.objs.size + 4) (s.heap.objs.size + 2) (s.heap.objs.size + 3) .none→IsPair h' (s.heap.objs.size + 2) (.ref s.heap.objs.size) (.ref (s.heap.objs.size + 1))→IsPair h' (s.heap.objs.size + 3) .none .none →
   h'.IsTupleIter s.heap.objs.size l1 0→h'.IsTupleIter (s.heap.objs.size + 1) l2 0→(∀ c o,s.heap.get? c=some o→h'.get? c=some o)→Q (.ref (s.heap.objs.size + 4)) { s with heap:=h' }) :
  wpAny (model P w) A (call (.type "zip") [.ref l1,.ref l2]) Q E s:=by
 refine callType_new F.called_zip (by decide) (F.typeCall_zip_2 _ _) (F.newCall_zip_2 _ _) (fun obj=>F.args_object_init_3 obj _ _) F.entry_zip_new (b11 l1 l2 xs ys) ⟨hl1,hl2,?_⟩
 have n1:(zT1 s.heap l1).objs.size=s.heap.objs.size + 1:=Heap.size_push ..
 have n2:(zT2 s.heap l1 l2).objs.size=s.heap.objs.size + 2:=by rw [Heap.size_push,n1]
 have n3:(zT3 s.heap l1 l2).objs.size=s.heap.objs.size + 3:=by rw [Heap.size_push,n2]
 have n4:(zT4 s.heap l1 l2).objs.size=s.heap.objs.size + 4:=by rw [Heap.size_push,n3]
 have g5:(zT5 s.heap l1 l2).get? (zT4 s.heap l1 l2).objs.size=some _:=Heap.get?_push_size _ rfl
 have g4:(zT5 s.heap l1 l2).get? (zT3 s.heap l1 l2).objs.size=some _:=Heap.get?_push_of_some _ (Heap.get?_push_size _ rfl)
 have g3:(zT5 s.heap l1 l2).get? (zT2 s.heap l1 l2).objs.size=some _:=Heap.get?_push_of_some _ (Heap.get?_push_of_some _ (Heap.get?_push_size _ rfl))
 have g2:(zT5 s.heap l1 l2).get? (zT1 s.heap l1).objs.size=some _:=Heap.get?_push_of_some _ (Heap.get?_push_of_some _ (Heap.get?_push_of_some _ (Heap.get?_push_size _ rfl)))
 have g1:(zT5 s.heap l1 l2).get? s.heap.objs.size=some _:=Heap.get?_push_of_some _ (Heap.get?_push_of_some _ (Heap.get?_push_of_some _ (Heap.get?_push_of_some _ (Heap.get?_push_size _ rfl))))
 show _∧_;rw [n2,n3,n4] at g5;rw [n1,n2] at g3;rw [n3] at g4;rw [n1] at g2;rw [n4]
 exact ⟨⟨_,g5,rfl⟩,h _ g5 g3 g4 ⟨_,g1,rfl,rfl⟩ ⟨_,g2,rfl,rfl⟩ fun c o q=>Heap.get?_push_of_some _ (Heap.get?_push_of_some _ (Heap.get?_push_of_some _ (Heap.get?_push_of_some _ (Heap.get?_push_of_some _ q))))⟩
end
end L2
namespace L2
open PySem PySem.Spec PyProof.Rows
section
variable {X:Cx}{pins:List (Addr × Obj)}{σ:St}{H:Hp}{s:Shared}{h':Heap}
theorem Inv.F20 {t':Nat}{ch:List Addr} (I:Inv X pins σ H s) (hf:∀ b∈ch,a51 X pins H b) (k:∀ b o,b ∉ ch→s.heap.get? b=some o→h'.get? b=some o):Inv X pins σ H { s with heap:=h',toks:=t' }:=by
 have nch:∀ b u,H b=some u→b ∉ ch:=fun b u e z=>by rw [(hf b z).1] at e;cases e
 refine I.step (g':=s.gens) (d':=s.drawn) (ch:=ch) (fun b hb=>⟨(hf b hb).2.2.2.1,(hf b hb).2.1,(hf b hb).2.2.2.2.1,(hf b hb).2.2.2.2.2⟩) (fun b o _ _ hc e _=>k b o hc e) (fun b o _ _ hc e _=>⟨o.slots,k b o hc e⟩) (fun _ _ _ _ n=>n)
  (fun b o hc e=>⟨o,k b o hc e⟩) (fun _ _ e=>e) (fun _ _ _ e=>e) (fun b ps e=>⟨#[],by rw [e];simp⟩) (fun m hm=>?_) (fun b u e=>?_) I.bare
 ·obtain ⟨o,es,ep,ho,r⟩:=hm
  exact ⟨o,es,ep,k _ o (fun z=>(hf _ z).2.1 rfl) ho,r⟩
 ·refine (I.hok b u e).a31 (fun c v hc q=>k c v ?_ q) (fun _ q=>q) fun _ _ q=>q
  rcases hc with z | z
  ·rw [z];exact nch b u e
  ·exact nch c _ z
theorem Inv.u81 {T:Addr}{o:HO} (I:Inv X pins σ H s) (f:a51 X pins H T) (h0:X.s₀.heap.objs.size≤T) (hok:HOk X.prog X.w (upd H T o) s.heap):Inv X pins σ (upd H T o) s:=by
 have u:=I.base
 refine ⟨I.ok,I.os,I.bare,⟨u.keep,u.slot,fun b ob e n hx=>?_,u.there,fun b xs e=>?_,fun b ob xs e=>?_,fun b ps e=>?_⟩,I.loc,I.cell,?_,fun x c e=>?_,fun p hp=>?_,hok,I.len⟩
 ·rw [a30 (Nat.ne_of_lt (Nat.lt_of_lt_of_le (Heap.lt_size e) h0))];exact u.free b ob e n hx
 ·have z:=u.tups b xs e;rw [a30 (a50 z f.1)];exact z
 ·have z:=u.frzs b ob xs e;rw [a30 (a50 z f.1)];exact z
 ·obtain ⟨more,z⟩:=u.tbls b ps e
  exact ⟨more,by rw [a30 (a50 z f.1)];exact z⟩
 ·rw [a30 f.2.1.symm];exact I.free
 ·rw [a30 (f.2.2.2.2.1 x c e)];exact I.freeC x c e
 ·obtain ⟨e,n,r⟩:=I.pin p hp
  exact ⟨e,by rw [a30 (f.2.2.2.2.2 p hp)];exact n,r⟩
theorem HOk.C51 {P:Program}{w:World}{H:Hp}{h:Heap}{D:Addr}{ys:List V}{its:List Value} (x:HOk P w H h) (hn:H D=none) (hv:Vals ys its) (hz:ys.length≤sizeLine) (ho:IsTup h D its.toArray):HOk P w (upd H D (.tup ys)) h:=fun b u e=>by
 by_cases hb:b=D
 ·subst hb;rw [a90] at e;cases e;exact ⟨hz,its,hv,ho⟩
 ·rw [a30 hb] at e
  exact (x b u e).a31 (fun c v _ q=>q) (fun c q=>by rw [a30 (a50 q hn)];exact q) fun c xs q=>by rw [a30 (a50 q hn)];exact q
end
noncomputable def Itz (K:PySem.W.Frag) (a b:Addr):It :=
 ⟨fun i H=>∃ xs ys x y,SqT K H a xs∧SqT K H b ys∧xs[i]?=some x∧ys[i]?=some y,
  fun i H v H'=>∃ T,v=.ref T∧H T=none∧∀ xs ys x y,SqT K H a xs→SqT K H b ys→xs[i]?=some x→ys[i]?=some y→H'=upd H T (.tup [x,y]),
  fun i H=>∃ xs ys,SqT K H a xs∧SqT K H b ys∧(xs.length≤i∨ys.length≤i)⟩
theorem v31 {P:Program}{w:World}{K:PySem.W.Frag}{es:List Expr}{ek:Nat}{ep:Pos}{a b z TI TO i1 i2:Addr} (D:ZipApart z TI TO i1 i2 a b) :
  Turn P w K (.Tuple es ek ep) (Itz K a b) [z,TI,TO,i1,i2] z (fun i h=>IsZip h z TI TO .none∧IsPair h TI (.ref i1) (.ref i2)∧(∃ p q,IsPair h TO p q)∧h.IsTupleIter i1 a i∧h.IsTupleIter i2 b i) where
 mem:=by simp
 obj:=fun i h st c hc=>by
  obtain ⟨hz,hTI,⟨p,q,hTO⟩,⟨o1,h1,c1,d1⟩,⟨o2,h2,c2,d2⟩⟩:=st
  simp only [List.mem_cons,List.not_mem_nil,or_false] at hc
  rcases hc with rfl | rfl | rfl | rfl | rfl
  ·exact ⟨_,hz,fun v e=>by cases e⟩
  ·exact ⟨_,hTI,fun v e=>by cases e⟩
  ·exact ⟨_,hTO,fun v e=>by cases e⟩
  ·exact ⟨_,h1,fun v e=>by rw [d1] at e;cases e⟩
  ·exact ⟨_,h2,fun v e=>by rw [d2] at e;cases e⟩
 keep:=fun i h h' st k=>by
  obtain ⟨hz,hTI,⟨p,q,hTO⟩,⟨o1,h1,r1⟩,⟨o2,h2,r2⟩⟩:=st
  exact ⟨k z (by simp) _ hz,k TI (by simp) _ hTI,⟨p,q,k TO (by simp) _ hTO⟩,⟨o1,k i1 (by simp) _ h1,r1⟩,⟨o2,k i2 (by simp) _ h2,r2⟩⟩
 item:=by
  intro X hP hw hK hc i pins s σ H E I hf st hg
  subst hP hw hK
  obtain ⟨xs,ys,x,y,hq1,hq2,hx,hy⟩:=hg
  obtain ⟨v1,rv1,p1,z1⟩:=I.tuple hq1
  obtain ⟨v2,rv2,p2,z2⟩:=I.tuple hq2
  obtain ⟨u1,hu1,ru1⟩:=rv1.get hx
  obtain ⟨u2,hu2,ru2⟩:=rv2.get hy
  obtain ⟨hz,hTI,⟨p,q,hTO⟩,h1,h2⟩:=st
  refine h31 D hz hTI hTO h1 h2 p1 p2 (x:=u1) (y:=u2) (by simpa using hu1) (by simpa using hu2) fun g1 gz gTO g1' g2' gT gs kp=>⟨_,rfl,?_⟩
  refine wpAny_letOwnedTupleGo_zip (s:={ s with heap:=g1 }) gz fun g2 gz2 sb=>?_
  have hT:H s.heap.objs.size=none:=I.hok.fresh (Nat.le_refl _)
  have kall:∀ c o,c ∉ [z,TI,TO,i1,i2]→s.heap.get? c=some o→g2.get? c=some o:=fun c o hc e=>by
   simp only [List.mem_cons,List.not_mem_nil,or_false,not_or] at hc
   exact sb.extBut _ _ hc.1 (kp c o hc.1 hc.2.2.1 hc.2.2.2.1 hc.2.2.2.2 e)
  have I2:Inv X pins σ H { s with heap:=g2 }:=I.F20 (t':=s.toks) hf kall
  have fT:a51 X pins H s.heap.objs.size:=I.e11 (Nat.le_refl _) hT
  have gT2:g2.get? s.heap.objs.size=some { cls:=.type "tuple",data:=.seq #[u1,u2] }:=sb.extBut _ _ (fun e=>Nat.lt_irrefl _ (by have:=Heap.lt_size hz;rw [← e] at this;exact this)) gT
  have I3:Inv X pins σ (upd H s.heap.objs.size (.tup [x,y])) { s with heap:=g2 }:=I2.u81 fT I.sz (I2.hok.C51 hT (its:=[u1,u2]) (.cons ru1 (.cons ru2 .nil)) (by show 2≤sizeLine;rw [sizeLine_eq];decide) ⟨_,gT2,rfl,_,rfl⟩)
  have TI0:IsPair g2 TI (.ref i1) (.ref i2):=sb.extBut _ _ D.TIz (kp _ _ D.TIz D.TITO D.TIi1 D.TIi2 hTI)
  refine ⟨.ref s.heap.objs.size,_,I3,rfl,⟨_,rfl,hT,fun xs' ys' x' y' e1 e2 e3 e4=>?_⟩,⟨gz2,TI0,⟨_,_,sb.extBut _ _ D.TOz gTO⟩,g1'.extBut sb.extBut D.i1z,g2'.extBut sb.extBut D.i2z⟩,fun c hc=>?_⟩
  ·rw [I.r20 e1 hq1] at e3
   rw [I.r20 e2 hq2] at e4
   rw [hx] at e3;rw [hy] at e4
   cases e3;cases e4;rfl
  ·rw [a30]
   ·exact (hf c hc).1
   ·intro e
    simp only [List.mem_cons,List.not_mem_nil,or_false] at hc
    rcases hc with hc | hc | hc | hc | hc
    ·exact Nat.lt_irrefl _ (by have:=Heap.lt_size hz;rw [← hc,e] at this;exact this)
    ·exact Nat.lt_irrefl _ (by have:=Heap.lt_size hTI;rw [← hc,e] at this;exact this)
    ·exact Nat.lt_irrefl _ (by have:=Heap.lt_size hTO;rw [← hc,e] at this;exact this)
    ·obtain ⟨o,ho,_⟩:=h1;exact Nat.lt_irrefl _ (by have:=Heap.lt_size ho;rw [← hc,e] at this;exact this)
    ·obtain ⟨o,ho,_⟩:=h2;exact Nat.lt_irrefl _ (by have:=Heap.lt_size ho;rw [← hc,e] at this;exact this)
 done:=by
  intro X hP hw hK hc i pins s σ H E I hf st hg
  subst hP hw hK
  obtain ⟨xs,ys,hq1,hq2,hend⟩:=hg
  obtain ⟨v1,rv1,p1,z1⟩:=I.tuple hq1
  obtain ⟨v2,rv2,p2,z2⟩:=I.tuple hq2
  obtain ⟨hz,hTI,⟨p,q,hTO⟩,h1,h2⟩:=st
  have l1:=rv1.length
  have l2:=rv2.length
  refine v21 (I.ok.hd hc) D hz hTI hTO h1 h2 p1 p2 (hend.elim (fun e=>.inl (by simp;omega)) fun e=>.inr (by simp;omega)) fun g kp=>⟨rfl,I.F20 (t':=s.toks) hf fun c o hcn e=>?_⟩
  simp only [List.mem_cons,List.not_mem_nil,or_false,not_or] at hcn
  exact kp c o hcn.1 hcn.2.2.1 hcn.2.2.2.1 hcn.2.2.2.2 e
 self:=fun _ _ _ _ _ st h=>wpAny_pyIter_zip st.1 h
noncomputable def z62 (K:PySem.W.Frag) (ta:TA):TI:=fun σ H R=>ta σ H fun vs H1=>∃ a b,vs=[.ref a,.ref b]∧(∃ xs,SqT K H1 a xs)∧(∃ ys,SqT K H1 b ys)∧R (Itz K a b) H1
theorem boot_zip:bootBuiltins "zip"=some (.type "zip"):=by decide +kernel
theorem V51 {X:Cx}{a b:Expr}{es:List Expr}{ek:Nat}{ep:Pos}{ta:TA}{p pos:Pos} (hg:Gl X "zip") (hm:X.mg "zip"=none) (ha:PA X [a,b] ta) (hs:starEach [a,b] X.env=[(false,eval a X.env),(false,eval b X.env)]:=by rfl) (hs2:starEach [b] X.env=[(false,eval b X.env)]:=by rfl) :
  PI X (.Tuple es ek ep) (.Call (.Name "zip" p) [a,b] [] pos) (z62 X.K ta):=by
 intro pins s σ H R I h
 refine Call_ (r10 I hg hm boot_zip (PyProof.Rows.callWith_type1 (thn (ha pos pins s σ H _ I h) fun us s1 ⟨vs,H1,I1,r1,q1⟩=>?_) (by rw [hs,hs2]) (by rw [hs2];rfl)))
 obtain ⟨l1,l2,e,⟨xs,hq1⟩,⟨ys,hq2⟩,q⟩:=q1
 subst e
 obtain ⟨u,w',rfl,r,r'⟩:=vals2 r1
 cases r;cases r'
 obtain ⟨v1,rv1,p1,z1⟩:=I1.tuple hq1
 obtain ⟨v2,rv2,p2,z2⟩:=I1.tuple hq2
 have a1:l1 < s1.heap.objs.size:=by obtain ⟨_,e,_⟩:=p1;exact Heap.lt_size e
 have a2:l2 < s1.heap.objs.size:=by obtain ⟨_,e,_⟩:=p2;exact Heap.lt_size e
 refine h41 p1 p2 fun h' hz hTI hTO h1 h2 kp=>wpAny_pyIter_zip (s:={ s1 with heap:=h' }) hz ?_
 refine ⟨_,[s1.heap.objs.size + 4,s1.heap.objs.size + 2,s1.heap.objs.size + 3,s1.heap.objs.size,s1.heap.objs.size + 1],_,_,H1,rfl,I1.kept (t':=s1.toks) kp,v31 (PyProof.Rows.zipApart_new a1 a2),⟨hz,hTI,⟨_,_,hTO⟩,h1,h2⟩,fun c hc=>?_,q⟩
 have hc':s1.heap.objs.size≤c:=by
  simp only [List.mem_cons,List.not_mem_nil,or_false] at hc
  rcases hc with rfl | rfl | rfl | rfl | rfl
  ·exact Nat.le_add_right _ 4
  ·exact Nat.le_add_right _ 2
  ·exact Nat.le_add_right _ 3
  ·exact Nat.le_refl _
  ·exact Nat.le_add_right _ 1
 exact I1.e11 hc' (I1.hok.fresh hc')
theorem v41 {X:Cx} (hc:X.calm=true):e70 X (.builtin "all") (fun xs H Q=>∃ (a:Addr) (bs:List Bool),xs=[.ref a]∧SqL X.K H a (bs.map V.bl)∧Q (.bl (bs.all id)) H):=by
 intro pins s σ H xs us Q I r h
 obtain ⟨a,bs,rfl,hq,q⟩:=h
 obtain ⟨u,rfl,rx⟩:=vals1 r
 cases rx
 obtain ⟨its,rv,pl,hz⟩:=I.list hq
 have hlt:a < s.heap.objs.size:=by obtain ⟨_,e,_⟩:=pl.isList;exact Heap.lt_size e
 have hlen:its.length=bs.length:=by have:=rv.length;simpa using this.symm
 refine call_all_walk (wpAny_pyIter_list pl.isList ⟨_,_,_,_,_,_,fun i=>(bs[i]?).getD true,rfl,Walks.list (by exact I.ok.hd hc) s.heap.objs.size a (Nat.ne_of_lt hlt) its.toArray,⟨⟨_,Heap.get?_push_size _ rfl,rfl,rfl⟩,pl.isList.push _⟩,?_,?_⟩)
 ·intro i v s' Q' E' hP hQ
  have hP':its[i]?=some v:=by simpa using hP
  have hi:i < bs.length:=by rw [← hlen];exact (List.getElem?_eq_some_iff.mp hP').1
  obtain ⟨v',hv',rv'⟩:=rv.get (i:=i) (x:=.bl bs[i]) (by simp [hi])
  rw [hP'] at hv';cases hv'
  cases (show v=Value.bool _ from rv')
  exact wpAny_truthy_bool (by simpa [hi] using hQ)
 ·intro h' tk kp
  refine ⟨.bl (bs.all id),H,I.kept fun b o e=>kp b o (by simpa using Nat.ne_of_lt (Heap.lt_size e)) (Heap.get?_push_of_some _ e),?_,q⟩
  show Value.bool _=Value.bool _
  rw [List.size_toArray,hlen,PyProof.Rows.LSm.range_all]
end L2
namespace MySort
open PySem PySem.W PyProof.Rows
noncomputable def run {α:Type} (cmp:Nat→Nat→Bool):KasT α→α
 | .ret a=>a
 | .ask i j k=>run cmp (k (cmp i j))
theorem run_bind {α β:Type} (cmp:Nat→Nat→Bool) (f:α→KasT β):∀ t:KasT α,run cmp (t.bind f)=run cmp (f (run cmp t))
 | .ret _=>rfl
 | .ask i j k=>run_bind cmp f (k (cmp i j))
section
variable (O:KeyOrd) (key:Nat→O.α)
noncomputable def kk (p:Array Nat) (i:Nat):O.α:=key (p.getD i 0)
noncomputable abbrev l20:Nat→Nat→Bool:=fun i j=>O.blt (key i) (key j)
noncomputable def Up (p:Array Nat) (n:Nat):Prop:=∀ i j,i≤j→j < n→O.kle (kk O key p i) (kk O key p j)
noncomputable def Dn (p:Array Nat) (n:Nat):Prop:=∀ i j,i≤j→j < n→O.kle (kk O key p j) (kk O key p i)
variable {O key}
theorem r50 {p q:Array Nat}{i j:Nat} (h:p[i]?=q[j]?):kk O key p i=kk O key q j:=by
 unfold kk;rw [Array.getD_eq_getD_getElem?,Array.getD_eq_getD_getElem?,h]
theorem h51 {p:Array Nat}{i j:Nat} (hj:j≤p.size) (k:Nat):kk O key (kas_rev p i j) k=if i≤k∧k < j then kk O key p (i + j - 1 - k) else kk O key p k:=by
 have e:=getElem?_mirror_all (i:=i) hj k
 unfold kas_rev
 by_cases h1:i≤k∧k < j
 ·rw [if_pos h1] at e ⊢;exact r50 e
 ·rw [if_neg h1] at e ⊢;exact r50 e
theorem V61 {p:Array Nat}{k d:Nat} (hs:k < p.size) (hd:d≤k) (i:Nat) :
  kk O key (bubble p k d) i=if i=k - d then kk O key p k else if k - d < i∧i≤k then kk O key p (i - 1) else kk O key p i:=by
 have e:=getElem?_bubble hs d hd i
 by_cases h1:i=k - d
 ·rw [if_pos h1] at e ⊢;exact r50 e
 ·rw [if_neg h1] at e ⊢
  by_cases h2:k - d < i∧i≤k
  ·rw [if_pos h2] at e ⊢;exact r50 e
  ·rw [if_neg h2] at e ⊢;exact r50 e
theorem Up.more {p:Array Nat}{n:Nat} (h:Up O key p n) (h1:1≤n) (hl:O.kle (kk O key p (n - 1)) (kk O key p n)):Up O key p (n + 1):=by
 intro i j hij hj
 by_cases e:j=n
 ·subst e
  by_cases e2:i=j
  ·subst e2;exact KeyOrd.kle_refl _
  ·exact KeyOrd.kle_trans (h i (j - 1) (by omega) (by omega)) hl
 ·exact h i j hij (by omega)
theorem Dn.more {p:Array Nat}{n:Nat} (h:Dn O key p n) (h1:1≤n) (hl:O.kle (kk O key p n) (kk O key p (n - 1))):Dn O key p (n + 1):=by
 intro i j hij hj
 by_cases e:j=n
 ·subst e
  by_cases e2:i=j
  ·subst e2;exact KeyOrd.kle_refl _
  ·exact KeyOrd.kle_trans hl (h i (j - 1) (by omega) (by omega))
 ·exact h i j hij (by omega)
theorem h61 {p:Array Nat}:∀ (f n:Nat),1≤n→Up O key p n →
  n≤run (l20 O key) (kas_asc p f n)∧run (l20 O key) (kas_asc p f n)≤n + f∧Up O key p (run (l20 O key) (kas_asc p f n)) ∧
   (run (l20 O key) (kas_asc p f n) < n + f→O.klt (kk O key p (run (l20 O key) (kas_asc p f n))) (kk O key p (run (l20 O key) (kas_asc p f n) - 1)))
 | 0,n,h1,hu=>⟨Nat.le_refl _,Nat.le_refl _,hu,fun h=>absurd h (Nat.lt_irrefl _)⟩
 | f + 1,n,h1,hu=>by
  show n≤run _ (if O.blt (kk O key p n) (kk O key p (n - 1))=true then KasT.ret n else kas_asc p f (n + 1))∧run _ (if O.blt (kk O key p n) (kk O key p (n - 1))=true then KasT.ret n else kas_asc p f (n + 1))≤n + (f + 1) ∧
   Up O key p (run _ (if O.blt (kk O key p n) (kk O key p (n - 1))=true then KasT.ret n else kas_asc p f (n + 1))) ∧
   (run _ (if O.blt (kk O key p n) (kk O key p (n - 1))=true then KasT.ret n else kas_asc p f (n + 1)) < n + (f + 1) →
    O.klt (kk O key p (run _ (if O.blt (kk O key p n) (kk O key p (n - 1))=true then KasT.ret n else kas_asc p f (n + 1)))) (kk O key p (run _ (if O.blt (kk O key p n) (kk O key p (n - 1))=true then KasT.ret n else kas_asc p f (n + 1)) - 1)))
  cases hb:O.blt (kk O key p n) (kk O key p (n - 1)) with
  | true =>
   simp only [if_true]
   exact ⟨Nat.le_refl _,by show n≤n + (f + 1);omega,hu,fun _=>hb⟩
  | false =>
   simp only [Bool.false_eq_true,if_false]
   have ih:=h61 f (n + 1) (by omega) (hu.more h1 hb)
   refine ⟨by omega,by omega,ih.2.2.1,fun h=>ih.2.2.2 (by omega)⟩
theorem rev_eq {p:Array Nat}{i j:Nat} (hj:j≤p.size) (he:∀ k,i≤k→k < j→kk O key p k=kk O key p (j - 1)) (k:Nat):kk O key (kas_rev p i j) k=kk O key p k:=by
 rw [h51 hj]
 split
 ·rw [he _ (by omega) (by omega),he k (by omega) (by omega)]
 ·rfl
theorem F30 (p:Array Nat) (i j:Nat):(kas_rev p i j).Perm p:=mirror_perm _ _ _ _
theorem F40 (p:Array Nat) (i j:Nat):(kas_rev p i j).size=p.size:=mirror_size _ _ _ _
structure DnR (O:KeyOrd) (key:Nat→O.α) (p0 p:Array Nat) (n q:Nat):Prop where
 perm:p.Perm p0
 size:p.size=p0.size
 pos:q + 1≤n
 dn:Dn O key p n
 eq:∀ k,n - (q + 1)≤k→k < n→kk O key p k=kk O key p (n - 1)
theorem DnR.rev {p0 p:Array Nat}{n q:Nat} (h:DnR O key p0 p n q) (hn:n≤p0.size):DnR O key p0 (kas_rev p (n - (q + 1)) n) n q:=by
 have hz:=h.size
 have e:=rev_eq (O:=O) (key:=key) (i:=n - (q + 1)) (j:=n) (p:=p) (by omega) h.eq
 exact ⟨(F30 _ _ _).trans h.perm,(F40 _ _ _).trans hz,h.pos,fun i j hij hj=>by rw [e,e];exact h.dn i j hij hj,fun k h1 h2=>by rw [e,e];exact h.eq k h1 h2⟩
theorem R40 {p0:Array Nat}:∀ (f:Nat) (p:Array Nat) (n q:Nat),DnR O key p0 p n q→n + f≤p0.size →
  n≤(run (l20 O key) (kas_desc f p n q)).2.1∧(run (l20 O key) (kas_desc f p n q)).2.1≤n + f ∧
   DnR O key p0 (run (l20 O key) (kas_desc f p n q)).1 (run (l20 O key) (kas_desc f p n q)).2.1 (run (l20 O key) (kas_desc f p n q)).2.2
 | 0,p,n,q,h,_=>⟨Nat.le_refl _,Nat.le_refl _,h⟩
 | f + 1,p,n,q,h,hn=>by
  have hp:=h.pos
  have hz:=h.size
  have unf:run (l20 O key) (kas_desc (f + 1) p n q)=run (l20 O key) (if O.blt (kk O key p n) (kk O key p (n - 1))=true then (if q > 0 then kas_desc f (kas_rev p (n - (q + 1)) n) (n + 1) 0 else kas_desc f p (n + 1) 0)
   else .ask (p.getD (n - 1) 0) (p.getD n 0) fun d=>if d=true then .ret (p,n,q) else kas_desc f p (n + 1) (q + 1)):=rfl
  rw [unf]
  cases hb:O.blt (kk O key p n) (kk O key p (n - 1)) with
  | true =>
   simp only [if_true]
   have go:∀ p',DnR O key p0 p' n q→(∀ k,kk O key p' k=kk O key p k)→n≤(run (l20 O key) (kas_desc f p' (n + 1) 0)).2.1∧(run (l20 O key) (kas_desc f p' (n + 1) 0)).2.1≤n + (f + 1) ∧
     DnR O key p0 (run (l20 O key) (kas_desc f p' (n + 1) 0)).1 (run (l20 O key) (kas_desc f p' (n + 1) 0)).2.1 (run (l20 O key) (kas_desc f p' (n + 1) 0)).2.2:=fun p' h' e=>by
    have ih:=R40 f p' (n + 1) 0 ⟨h'.perm,h'.size,by omega,h'.dn.more (by omega) (by rw [e,e];exact KeyOrd.kle_of_klt hb),fun k h1 h2=>by
     have:k=n:=by omega
     subst this;rfl⟩ (by omega)
    exact ⟨by omega,by omega,ih.2.2⟩
   split
   ·exact go _ (h.rev (by omega)) (rev_eq (by omega) h.eq)
   ·exact go _ h fun _=>rfl
  | false =>
   simp only [Bool.false_eq_true,if_false]
   have unf2:run (l20 O key) (KasT.ask (p.getD (n - 1) 0) (p.getD n 0) fun d=>if d=true then .ret (p,n,q) else kas_desc f p (n + 1) (q + 1)) =
    run (l20 O key) (if O.blt (kk O key p (n - 1)) (kk O key p n)=true then .ret (p,n,q) else kas_desc f p (n + 1) (q + 1)):=rfl
   rw [unf2]
   cases hc:O.blt (kk O key p (n - 1)) (kk O key p n) with
   | true =>
    simp only [if_true]
    exact ⟨Nat.le_refl _,by show n≤n + (f + 1);omega,h⟩
   | false =>
    simp only [Bool.false_eq_true,if_false]
    have e:kk O key p n=kk O key p (n - 1):=O.total _ _ hb hc
    have ih:=R40 f p (n + 1) (q + 1) ⟨h.perm,h.size,by omega,h.dn.more (by omega) (by rw [e];exact KeyOrd.kle_refl _),fun k h1 h2=>by
     show _=kk O key p n
     by_cases hk:k=n
     ·rw [hk]
     ·rw [e];exact h.eq k (by omega) (by omega)⟩ (by omega)
    exact ⟨by omega,by omega,ih.2.2⟩
structure k72 (O:KeyOrd) (key:Nat→O.α) (p0:Array Nat) (nrem:Nat) (r:Nat × Array Nat):Prop where
 perm:r.2.Perm p0
 size:r.2.size=p0.size
 lo:1≤r.1
 hi:r.1≤nrem
 up:Up O key r.2 r.1
theorem W60 {p0 p:Array Nat}{n nrem:Nat} (hp:p.Perm p0) (hz:p.size=p0.size) (hd:Dn O key p n) (h1:1≤n) (hn:n≤nrem) (hr:nrem≤p0.size):k72 O key p0 nrem (run (l20 O key) (kas_tail3 n nrem p)):=by
 unfold kas_tail3
 rw [run_bind]
 have hu:Up O key (kas_rev p 0 n) n:=fun i j hij hj=>by
  rw [h51 (by omega),h51 (by omega),if_pos (by omega),if_pos (by omega)]
  exact hd _ _ (by omega) (by omega)
 have a:=h61 (O:=O) (key:=key) (p:=kas_rev p 0 n) (nrem - n) n h1 hu
 exact ⟨(F30 _ _ _).trans hp,(F40 _ _ _).trans hz,by show 1≤run _ (kas_asc _ _ _);omega,by show run _ (kas_asc _ _ _)≤_;omega,a.2.2.1⟩
theorem y90 {p0 p:Array Nat}{n nrem:Nat} (hp:p.Perm p0) (hz:p.size=p0.size) (hd:Dn O key p (n + 1)) (hn:n + 1≤nrem) (hr:nrem≤p0.size):k72 O key p0 nrem (run (l20 O key) (kas_descPart n nrem p)):=by
 unfold kas_descPart
 rw [run_bind]
 have d:=R40 (O:=O) (key:=key) (p0:=p0) (nrem - (n + 1)) p (n + 1) 0 ⟨hp,hz,by omega,hd,fun k h1 h2=>by
  have:k=n:=by omega
  subst this;rfl⟩ (by omega)
 obtain ⟨d1,d2,d3⟩:=d
 have hpos:=d3.pos
 split
 ·have d4:=d3.rev (by omega)
  exact W60 d4.perm d4.size d4.dn (by omega) (by omega) hr
 ·exact W60 d3.perm d3.size d3.dn (by omega) (by omega) hr
theorem v51 {p:Array Nat}{nrem:Nat} (h1:1≤nrem) (hr:nrem≤p.size):k72 O key p nrem (run (l20 O key) (kas_count nrem p)):=by
 unfold kas_count
 rw [run_bind]
 have a:=h61 (O:=O) (key:=key) (p:=p) (nrem - 1) 1 (Nat.le_refl _) (fun i j hij hj=>by
  have:i=j:=by omega
  subst this;exact KeyOrd.kle_refl _)
 generalize run (l20 O key) (kas_asc p (nrem - 1) 1)=n at a ⊢
 obtain ⟨a1,a2,a3,a4⟩:=a
 split
 ·exact ⟨Array.Perm.refl _,rfl,a1,by show n≤nrem;omega,a3⟩
 ·rename_i hne
  have hlt:n < nrem:=by
   have:n≠nrem:=by simpa using hne
   omega
  have hl:=a4 (by omega)
  split
  ·rename_i h2
   have unf:run (l20 O key) (KasT.ask (p.getD 0 0) (p.getD (n - 1) 0) fun c=>if c=true then .ret (n,p) else kas_descPart n nrem (kas_rev p 0 n)) =
    run (l20 O key) (if O.blt (kk O key p 0) (kk O key p (n - 1))=true then .ret (n,p) else kas_descPart n nrem (kas_rev p 0 n)):=rfl
   rw [unf]
   cases hb:O.blt (kk O key p 0) (kk O key p (n - 1)) with
   | true =>
    simp only [if_true]
    exact ⟨Array.Perm.refl _,rfl,a1,by show n≤nrem;omega,a3⟩
   | false =>
    simp only [Bool.false_eq_true,if_false]
    have e0:kk O key p 0=kk O key p (n - 1):=O.total _ _ hb (a3 0 (n - 1) (by omega) (by omega))
    have e:∀ k,0≤k→k < n→kk O key p k=kk O key p (n - 1):=fun k _ hk=>by
     refine KeyOrd.kle_antisymm (a3 k (n - 1) (by omega) (by omega)) ?_
     rw [← e0];exact a3 0 k (by omega) hk
    have er:=rev_eq (O:=O) (key:=key) (i:=0) (j:=n) (p:=p) (by omega) e
    refine y90 (F30 _ _ _) (F40 _ _ _) ?_ (by omega) hr
    have dn:Dn O key (kas_rev p 0 n) n:=fun i j hij hj=>by
     rw [er,er,e i (by omega) (by omega),e j (by omega) (by omega)];exact KeyOrd.kle_refl _
    refine dn.more a1 ?_
    rw [er,er];exact KeyOrd.kle_of_klt hl
  ·have h2:n=1:=by omega
   subst h2
   refine y90 (Array.Perm.refl _) rfl ?_ (by omega) hr
   have dn:Dn O key p 1:=fun i j hij hj=>by
    have:i=j:=by omega
    subst this;exact KeyOrd.kle_refl _
   exact dn.more (Nat.le_refl _) (KeyOrd.kle_of_klt hl)
theorem F50 {p:Array Nat}{k:Nat} (hu:Up O key p k):∀ (f l r:Nat),l≤r→r≤k→r - l≤f→(∀ i,i < l→O.kle (kk O key p i) (kk O key p k))→(∀ i,r≤i→i < k→O.klt (kk O key p k) (kk O key p i)) →
  run (l20 O key) (kas_place p k f l r)≤k∧(∀ i,i < run (l20 O key) (kas_place p k f l r)→O.kle (kk O key p i) (kk O key p k))∧(∀ i,run (l20 O key) (kas_place p k f l r)≤i→i < k→O.klt (kk O key p k) (kk O key p i))
 | 0,l,r,h1,h2,h3,h4,h5=>by
  have:l=r:=by omega
  subst this
  exact ⟨h2,h4,h5⟩
 | f + 1,l,r,h1,h2,h3,h4,h5=>by
  have unf:kas_place p k (f + 1) l r=(if l ≥ r then .ret l else .ask (p.getD k 0) (p.getD ((l + r) / 2) 0) fun c=>if c=true then kas_place p k f l ((l + r) / 2) else kas_place p k f ((l + r) / 2 + 1) r):=rfl
  rw [unf]
  by_cases hlr:l ≥ r
  ·rw [if_pos hlr]
   have:l=r:=by omega
   subst this
   exact ⟨h2,h4,h5⟩
  ·rw [if_neg hlr]
   have unf2:run (l20 O key) (KasT.ask (p.getD k 0) (p.getD ((l + r) / 2) 0) fun c=>if c=true then kas_place p k f l ((l + r) / 2) else kas_place p k f ((l + r) / 2 + 1) r) =
    run (l20 O key) (if O.blt (kk O key p k) (kk O key p ((l + r) / 2))=true then kas_place p k f l ((l + r) / 2) else kas_place p k f ((l + r) / 2 + 1) r):=rfl
   rw [unf2]
   cases hb:O.blt (kk O key p k) (kk O key p ((l + r) / 2)) with
   | true =>
    simp only [if_true]
    exact F50 hu f l ((l + r) / 2) (by omega) (by omega) (by omega) h4 fun i hi hk=>KeyOrd.klt_of_klt_of_kle hb (hu _ i hi hk)
   | false =>
    simp only [Bool.false_eq_true,if_false]
    exact F50 hu f ((l + r) / 2 + 1) r (by omega) (by omega) (by omega) (fun i hi=>KeyOrd.kle_trans (hu i ((l + r) / 2) (by omega) (by omega)) hb) h5
theorem C61 {p0:Array Nat}:∀ (f:Nat) (p:Array Nat) (k:Nat),p.Perm p0→p.size=p0.size→Up O key p k→k + f≤p0.size →
  (run (l20 O key) (kas_bin f p k)).Perm p0∧Up O key (run (l20 O key) (kas_bin f p k)) (k + f)
 | 0,p,k,hp,_,hu,_=>⟨hp,hu⟩
 | f + 1,p,k,hp,hz,hu,hk=>by
  have unf:kas_bin (f + 1) p k=(kas_place p k k 0 k).bind fun l=>kas_bin f (bubble p k (k - l)) (k + 1):=rfl
  rw [unf,run_bind]
  have pl:=F50 (O:=O) (key:=key) hu k 0 k (by omega) (by omega) (by omega) (fun i hi=>absurd hi (Nat.not_lt_zero _)) (fun i h1 h2=>absurd h2 (by omega))
  generalize run (l20 O key) (kas_place p k k 0 k)=l at pl ⊢
  obtain ⟨l1,l2,l3⟩:=pl
  have hb:=V61 (O:=O) (key:=key) (p:=p) (k:=k) (d:=k - l) (by omega) (by omega)
  have hu':Up O key (bubble p k (k - l)) (k + 1):=fun i j hij hj=>by
   rw [hb,hb]
   have el:k - (k - l)=l:=by omega
   rw [el]
   by_cases ei:i=l
   ·rw [if_pos ei]
    by_cases ej:j=l
    ·rw [if_pos ej];exact KeyOrd.kle_refl _
    ·rw [if_neg ej,if_pos (by omega)]
     exact KeyOrd.kle_of_klt (l3 _ (by omega) (by omega))
   ·rw [if_neg ei]
    by_cases hi:l < i∧i≤k
    ·rw [if_pos hi,if_neg (by omega),if_pos (by omega)]
     exact hu _ _ (by omega) (by omega)
    ·rw [if_neg hi]
     by_cases ej:j=l
     ·rw [if_pos ej];exact l2 _ (by omega)
     ·rw [if_neg ej]
      by_cases hj':l < j∧j≤k
      ·rw [if_pos hj'];exact hu _ _ (by omega) (by omega)
      ·rw [if_neg hj'];exact hu _ _ hij (by omega)
  have ih:=C61 (p0:=p0) f (bubble p k (k - l)) (k + 1) ((bubble_perm _ _ _).trans hp) ((bubble_size _ _ _).trans hz) hu' (by omega)
  exact ⟨ih.1,by have:=ih.2;rwa [show k + 1 + f=k + (f + 1) by omega] at this⟩
theorem H71 {n:Nat} (h1:1≤n):(run (l20 O key) (kas_sort n)).Perm (List.range n).toArray∧Up O key (run (l20 O key) (kas_sort n)) n:=by
 unfold kas_sort
 rw [run_bind]
 have c:=v51 (O:=O) (key:=key) (p:=(List.range n).toArray) h1 (by simp)
 generalize run (l20 O key) (kas_count n (List.range n).toArray)=r at c ⊢
 obtain ⟨c1,c2,c3,c4,c5⟩:=c
 split
 ·have b:=C61 (O:=O) (key:=key) (n - max r.1 1) r.2 (max r.1 1) c1 c2 (by rw [Nat.max_eq_left c3];exact c5) (by simp;omega)
  exact ⟨b.1,by have:=b.2;rwa [show max r.1 1 + (n - max r.1 1)=n by omega] at this⟩
 ·have:r.1=n:=by omega
  rw [this] at c5
  exact ⟨c1,c5⟩
end
end MySort
namespace MySort
open PySem PySem.W PyProof.Rows
noncomputable def n60 {α:Type} (n:Nat):KasT α→Prop
 | .ret _=>True
 | .ask i j k=>(i < n∧j < n)∧∀ b,n60 n (k b)
noncomputable def L60 {α:Type} (G:α→Prop):KasT α→Prop
 | .ret a=>G a
 | .ask _ _ k=>∀ b,L60 G (k b)
theorem n60.bind {α β:Type}{n:Nat}{f:α→KasT β}{G:α→Prop} (hf:∀ a,G a→n60 n (f a)):∀ {t:KasT α},n60 n t→L60 G t→n60 n (t.bind f)
 | .ret a,_,g=>hf a g
 | .ask _ _ _,h,g=>⟨h.1,fun b=>n60.bind hf (h.2 b) (g b)⟩
theorem L60.bind {α β:Type}{f:α→KasT β}{G:α→Prop}{G':β→Prop} (hf:∀ a,G a→L60 G' (f a)):∀ {t:KasT α},L60 G t→L60 G' (t.bind f)
 | .ret a,g=>hf a g
 | .ask _ _ _,g=>fun b=>L60.bind hf (g b)
noncomputable def Low (n:Nat) (p:Array Nat):Prop:=∀ i,p.getD i 0 < n
theorem h71 {n:Nat}{p q:Array Nat} (h1:1≤n) (hp:p.Perm q) (hq:∀ x∈q.toList,x < n):Low n p:=fun i=>by
 by_cases hi:i < p.size
 ·have e:p.getD i 0=p[i]:=by simp [Array.getD,hi]
  rw [e]
  exact hq _ (hp.toList.mem_iff.mp (by simp))
 ·have e:p.getD i 0=0:=by simp [Array.getD,hi]
  rw [e];exact h1
structure Good (n:Nat) (q p:Array Nat):Prop where
 low:Low n p
 perm:p.Perm q
theorem Good.rev {n:Nat}{q p:Array Nat} (h1:1≤n) (hq:∀ x∈q.toList,x < n) (g:Good n q p) (i j:Nat):Good n q (kas_rev p i j) :=
 have e:=(mirror_perm p i j ((j - i) / 2)).trans g.perm
 ⟨h71 h1 e hq,e⟩
theorem Good.bub {n:Nat}{q p:Array Nat} (h1:1≤n) (hq:∀ x∈q.toList,x < n) (g:Good n q p) (i j:Nat):Good n q (bubble p i j) :=
 have e:=(bubble_perm p i j).trans g.perm
 ⟨h71 h1 e hq,e⟩
section
variable {n:Nat}{q:Array Nat}
theorem F60 {p:Array Nat} (g:Low n p):∀ (f k:Nat),n60 n (kas_asc p f k)
 | 0,_=>trivial
 | f + 1,k=>⟨⟨g _,g _⟩,fun b=>by cases b with | true=>exact trivial | false=>exact F60 g f (k + 1)⟩
theorem r60 {p:Array Nat}:∀ (f k:Nat),L60 (fun _=>True) (kas_asc p f k)
 | 0,_=>trivial
 | f + 1,k=>fun b=>by cases b with | true=>exact trivial | false=>exact r60 f (k + 1)
theorem z00 (h1:1≤n) (hq:∀ x∈q.toList,x < n):∀ (f:Nat) (p:Array Nat) (k c:Nat),Good n q p→n60 n (kas_desc f p k c)∧L60 (fun r=>Good n q r.1) (kas_desc f p k c)
 | 0,p,k,c,g=>⟨trivial,g⟩
 | f + 1,p,k,c,g=>by
  have a:=fun p' k' c' g'=>(z00 h1 hq f p' k' c' g').1
  have r:=fun p' k' c' g'=>(z00 h1 hq f p' k' c' g').2
  refine ⟨⟨⟨g.low _,g.low _⟩,fun b=>?_⟩,fun b=>?_⟩
  ·cases b with
   | true =>
    show n60 n (if c > 0 then kas_desc f (kas_rev p (k - (c + 1)) k) (k + 1) 0 else kas_desc f p (k + 1) 0)
    split
    ·exact a _ _ _ (g.rev h1 hq _ _)
    ·exact a _ _ _ g
   | false=>exact ⟨⟨g.low _,g.low _⟩,fun d=>by cases d with | true=>exact trivial | false=>exact a _ _ _ g⟩
  ·cases b with
   | true =>
    show L60 _ (if c > 0 then kas_desc f (kas_rev p (k - (c + 1)) k) (k + 1) 0 else kas_desc f p (k + 1) 0)
    split
    ·exact r _ _ _ (g.rev h1 hq _ _)
    ·exact r _ _ _ g
   | false=>exact fun d=>by cases d with | true=>exact g | false=>exact r _ _ _ g
theorem o60 (h1:1≤n) (hq:∀ x∈q.toList,x < n) {p:Array Nat} (g:Good n q p) (k m:Nat):n60 n (kas_tail3 k m p)∧L60 (fun r=>Good n q r.2) (kas_tail3 k m p) :=
 have g':=g.rev h1 hq 0 k
 And.intro (n60.bind (f:=fun m'=>KasT.ret (m',kas_rev p 0 k)) (fun _ _=>True.intro) (F60 g'.low (m - k) k) (r60 (m - k) k)) (L60.bind (f:=fun m'=>KasT.ret (m',kas_rev p 0 k)) (G':=fun r=>Good n q r.2) (fun _ _=>g') (r60 (m - k) k))
theorem h80 (h1:1≤n) (hq:∀ x∈q.toList,x < n) {p:Array Nat} (g:Good n q p) (k m:Nat):n60 n (kas_descPart k m p)∧L60 (fun r=>Good n q r.2) (kas_descPart k m p):=by
 have d:=z00 h1 hq (m - (k + 1)) p (k + 1) 0 g
 refine ⟨n60.bind (fun r gr=>?_) d.1 d.2,L60.bind (fun r gr=>?_) d.2⟩
 ·split
  ·exact (o60 h1 hq (gr.rev h1 hq _ _) _ _).1
  ·exact (o60 h1 hq gr _ _).1
 ·split
  ·exact (o60 h1 hq (gr.rev h1 hq _ _) _ _).2
  ·exact (o60 h1 hq gr _ _).2
theorem b21 (h1:1≤n) (hq:∀ x∈q.toList,x < n) {p:Array Nat} (g:Good n q p) (m:Nat):n60 n (kas_count m p)∧L60 (fun r=>Good n q r.2) (kas_count m p):=by
 refine ⟨n60.bind (fun k _=>?_) (F60 g.low _ _) (r60 _ _),L60.bind (fun k _=>?_) (r60 _ _)⟩
 ·split
  ·exact trivial
  ·split
   ·exact ⟨⟨g.low _,g.low _⟩,fun b=>by cases b with | true=>exact trivial | false=>exact (h80 h1 hq (g.rev h1 hq _ _) _ _).1⟩
   ·exact (h80 h1 hq g _ _).1
 ·split
  ·exact g
  ·split
   ·exact fun b=>by cases b with | true=>exact g | false=>exact (h80 h1 hq (g.rev h1 hq _ _) _ _).2
   ·exact (h80 h1 hq g _ _).2
theorem i40 {p:Array Nat} (g:Low n p) (k:Nat):∀ (f l r:Nat),n60 n (kas_place p k f l r)∧L60 (fun _=>True) (kas_place p k f l r)
 | 0,_,_=>⟨trivial,trivial⟩
 | f + 1,l,r=>by
  have e:kas_place p k (f + 1) l r=(if l ≥ r then .ret l else .ask (p.getD k 0) (p.getD ((l + r) / 2) 0) fun c=>if c=true then kas_place p k f l ((l + r) / 2) else kas_place p k f ((l + r) / 2 + 1) r):=rfl
  rw [e]
  split
  ·exact ⟨trivial,trivial⟩
  ·refine ⟨⟨⟨g _,g _⟩,fun b=>?_⟩,fun b=>?_⟩
   ·cases b with
    | true=>exact (i40 g k f _ _).1
    | false=>exact (i40 g k f _ _).1
   ·cases b with
    | true=>exact (i40 g k f _ _).2
    | false=>exact (i40 g k f _ _).2
theorem W70 (h1:1≤n) (hq:∀ x∈q.toList,x < n):∀ (f:Nat) (p:Array Nat) (k:Nat),Good n q p→n60 n (kas_bin f p k)
 | 0,_,_,_=>trivial
 | f + 1,p,k,g=>n60.bind (fun l _=>W70 h1 hq f _ _ (g.bub h1 hq _ _)) (i40 g.low k k 0 k).1 (i40 g.low k k 0 k).2
theorem h81 (h1:1≤n):n60 n (kas_sort n):=by
 have hq:∀ x∈((List.range n).toArray).toList,x < n:=fun x hx=>by simpa using hx
 have g:Good n (List.range n).toArray (List.range n).toArray:=⟨h71 h1 (Array.Perm.refl _) hq,Array.Perm.refl _⟩
 have c:=b21 h1 hq g n
 refine n60.bind (fun r gr=>?_) c.1 c.2
 split
 ·exact W70 h1 hq _ _ _ gr
 ·exact trivial
end
theorem L70 {α:Type}{n:Nat}{cmp:Nat→Nat→Bool}{ask:Nat→Nat→(Bool→Shared→Prop)→Shared→Prop}{s:Shared} (h:∀ i j (C:Bool→Shared→Prop),i < n→j < n→C (cmp i j) s→ask i j C s) {Q:α→Shared→Prop} :
  ∀ (t:KasT α),n60 n t→Q (run cmp t) s→t.kasWp ask Q s
 | .ret _,_,q=>q
 | .ask i j k,a,q=>h i j _ a.1.1 a.1.2 (L70 h (k (cmp i j)) (a.2 _) q)
noncomputable def d70:List Int→List Int→Bool
 | [],[]=>false
 | [],_::_=>true
 | _::_,[]=>false
 | x::r,y::q=>if x=y then d70 r q else decide (x < y)
theorem m00:∀ a,d70 a a=false
 | []=>rfl
 | x::r=>by show (if x=x then d70 r r else _)=_;rw [if_pos rfl];exact m00 r
theorem o70:∀ a b c,d70 a b=true→d70 b c=true→d70 a c=true
 | [],[],_,h,_=>by cases h
 | [],_::_,[],_,h=>by cases h
 | [],_::_,_::_,_,_=>rfl
 | _::_,[],_,h,_=>by cases h
 | _::_,_::_,[],_,h=>by cases h
 | x::a,y::b,z::c,h1,h2=>by
  have h1:(if x=y then d70 a b else decide (x < y))=true:=h1
  have h2:(if y=z then d70 b c else decide (y < z))=true:=h2
  show (if x=z then d70 a c else decide (x < z))=true
  by_cases e1:x=y
  ·rw [if_pos e1] at h1
   by_cases e2:y=z
   ·rw [if_pos e2] at h2
    rw [if_pos (e1.trans e2)]
    exact o70 a b c h1 h2
   ·rw [if_neg e2] at h2
    rw [if_neg (by omega)]
    rw [e1];exact h2
  ·rw [if_neg e1] at h1
   have l1:x < y:=by simpa using h1
   by_cases e2:y=z
   ·rw [if_neg (by omega)];exact decide_eq_true (by omega)
   ·rw [if_neg e2] at h2
    have l2:y < z:=by simpa using h2
    rw [if_neg (by omega)];exact decide_eq_true (by omega)
theorem l30:∀ a b,d70 a b=false→d70 b a=false→a=b
 | [],[],_,_=>rfl
 | [],_::_,h,_=>by cases h
 | _::_,[],_,h=>by cases h
 | x::a,y::b,h1,h2=>by
  have h1:(if x=y then d70 a b else decide (x < y))=false:=h1
  have h2:(if y=x then d70 b a else decide (y < x))=false:=h2
  by_cases e:x=y
  ·subst e
   rw [if_pos rfl] at h1 h2
   rw [l30 a b h1 h2]
  ·rw [if_neg e] at h1
   rw [if_neg (Ne.symm e)] at h2
   have l1:¬ x < y:=by simpa using h1
   have l2:¬ y < x:=by simpa using h2
   omega
theorem F70 (a b c:List Int) (h:d70 a c=true):d70 a b=true∨d70 b c=true:=by
 cases hab:d70 a b with
 | true=>exact .inl rfl
 | false =>
  right
  cases hba:d70 b a with
  | true=>exact o70 b a c hba h
  | false=>rw [← l30 a b hab hba];exact h
noncomputable def Q91:KeyOrd:=⟨List Int,d70,m00,o70,F70,l30⟩
end MySort
namespace MySort
open PySem PySem.W PyProof.Rows
section
variable {P:Program}{w:World}{A:Around}{E:Value→Shared→Prop}{s:Shared}
noncomputable def sortedBy (ks:List (List Int)) (p:List Nat):Prop:=p.Perm (List.range ks.length)∧(p.map fun i=>ks.getD i []).Pairwise fun x y=>d70 y x=false
theorem range_getD {α:Type} (d:α):∀ (l:List α),(List.range l.length).map (fun i=>l.getD i d)=l:=fun l=>by
 refine List.ext_getElem (by simp) fun i h1 h2=>?_
 simp at h1
 simp [h1]
structure h42 (P:Program) (w:World) (A:Around) (s:Shared) (vs:List Value) (ks:List (List Int)) (kd:SortKind):Prop where
 kind:2≤vs.length→∀ (E:Value→Shared→Prop) (Q:SortKind→Shared→Prop),Q kd s→wpAny (model P w) A (keyKind' vs.toArray) Q E s
 ask:∀ i j,i < vs.length→j < vs.length→∀ (E:Value→Shared→Prop) (C:Bool→Shared→Prop),C (d70 (ks.getD i []) (ks.getD j [])) s→wpAny (model P w) A (keyLt' kd (vs.getD i Value.none) (vs.getD j Value.none)) C E s
noncomputable def h91 (h h':Heap):Prop:=∀ b o,h.get? b=some o→o.cls=.type "tuple"→h'.get? b=some o
theorem v61 {a:Addr}{vs:List Value}{ks:List (List Int)}{kd:SortKind}{n:Nat}{R:PySem.Fin→Shared→Prop} (ho:s.heap.get? a=some (seqObj "list" vs.toArray n)) (hlen:vs.length=ks.length) (hk:∀ h',h91 s.heap h'→h42 P w A { s with heap:=h' } vs ks kd) (h64:vs.length < 64)
  (h:∀ (p:List Nat) (h':Heap) (c:Nat),sortedBy ks p→(∀ b o,b≠a→s.heap.get? b=some o→h'.get? b=some o)→h'.get? a=some (seqObj "list" (p.map fun i=>vs.getD i Value.none).toArray c)→R (.done (.ret .none)) { s with heap:=h' }) :
  wpAny (model P w) A (Builtin.«list.sort» ⟨[.ref a],[]⟩) R E s:=by
 have ha:a < s.heap.objs.size:=Heap.lt_size ho
 have s1:=Heap.SameBut.update s.heap a (Obj.mapSeq fun _=>(#[]:Array Value))
 obtain ⟨e1,ho1⟩:∃ e1,(s.heap.update a (Obj.mapSeq fun _=>(#[]:Array Value))).get? a=some (seqObj "list" #[] e1):=⟨_,get?_update_seq ho fun _=>#[]⟩
 have kp:∀ b o,b≠a→s.heap.get? b=some o→(((s.heap.update a (Obj.mapSeq fun _=>(#[]:Array Value))).push (seqObj "tuple" vs.toArray 0)).push (seqObj "list" #[] 0)).get? b=some o:=fun b o hb e=>Heap.get?_push_of_some _ (Heap.get?_push_of_some _ ((s1.2 b hb).trans e))
 have ho6:(((s.heap.update a (Obj.mapSeq fun _=>(#[]:Array Value))).push (seqObj "tuple" vs.toArray 0)).push (seqObj "list" #[] 0)).get? a=some (seqObj "list" #[] e1):=Heap.get?_push_of_some _ (Heap.get?_push_of_some _ ho1)
 have hk6:=hk (((s.heap.update a (Obj.mapSeq fun _=>(#[]:Array Value))).push (seqObj "tuple" vs.toArray 0)).push (seqObj "list" #[] 0)) (fun b o e hc=>kp b o (fun q=>by subst q;rw [ho] at e;cases e;have hc':Value.type "list"=Value.type "tuple":=hc;injection hc' with hc';exact absurd hc' (by decide)) e)
 rw [list_sort_plain];refine wpAny_bind (listItems_at ho rfl (wpAny_bind (listUpdate_at ho rfl ?_ (by rw [List.size_toArray,sizeLine_eq];omega) (Nat.zero_le _))))
 refine wpAny_bind (seqEpoch_at ho1 rfl (wpAny_bind (wpAny_newTuple ?_ (by show vs.length≤_;rw [sizeLine_eq];omega))));refine wpAny_bind (wpAny_newList (wpAny_holding ?_) (Nat.zero_le _))
 show wpAny (model P w) A _ R E { s with heap:=((s.heap.update a (Obj.mapSeq fun _=>(#[]:Array Value))).push (seqObj "tuple" vs.toArray 0)).push (seqObj "list" #[] 0) }
 generalize hH:((s.heap.update a (Obj.mapSeq fun _=>(#[]:Array Value))).push (seqObj "tuple" vs.toArray 0)).push (seqObj "list" #[] 0)=h6 at kp ho6 hk6 ⊢
 have fin:∀ (p:List Nat) (out:Array Value),out=(p.map fun i=>vs.getD i Value.none).toArray→sortedBy ks p→wpAny (model P w) A (do
   let touched:=(← seqEpoch a) != e1
   Builtin.List.listUpdate (.ref a) fun _=>out
   if touched then rule "list.sort.modified";raiseError "ValueError" "list modified during sort"
   ret .none) R E { s with heap:=h6 }:=fun p out eo hp=>by
  subst eo
  have hsz:(p.map fun i=>vs.getD i Value.none).toArray.size=vs.length:=by rw [List.size_toArray,List.length_map,hp.1.length_eq,List.length_range,hlen]
  have s2:=Heap.SameBut.update h6 a (Obj.mapSeq fun _=>(p.map fun i=>vs.getD i Value.none).toArray)
  refine wpAny_bind (seqEpoch_at ho6 rfl (wpAny_bind (listUpdate_at ho6 rfl ?_ (Nat.zero_le _) (Nat.le_trans (Nat.le_of_eq hsz) (by rw [sizeLine_eq];omega)))))
  simp only [bne_self_eq_false,Bool.false_eq_true,if_false]
  exact wpAny_pure (h p _ _ hp (fun b o hb e=>(s2.2 b hb).trans (kp b o hb e)) (get?_update_seq ho6 fun _=>(p.map fun i=>vs.getD i Value.none).toArray))
 dsimp only
 by_cases h2:vs.toArray.size < 2
 ·rw [if_pos h2,if_pos h2];refine wpAny_bind (wpAny_pure ?_);rw [StateT.run_pure];refine wpAny_bind (wpAny_pure ?_);dsimp only
  have h2':ks.length < 2:=by rw [← hlen];simpa using h2
  refine fin (List.range vs.length) _ ?_ ⟨by rw [hlen],?_⟩
  ·rw [range_getD];apply Array.toList_inj.mp;rw [Array.toList_map];show List.map _ (vs.toArray.zip vs.toArray).toList=vs;rw [ksk_zip];exact List.map_snd_zip (Nat.le_refl _)
  ·rw [hlen,range_getD]
   match ks,h2' with
   | [],_=>exact .nil
   | [_],_=>simp
   | _::_::_,q=>simp at q;omega
 ·rw [if_neg h2,if_neg h2]
  have h2':2≤vs.length:=by simpa using h2
  refine wpAny_bind (hk6.kind h2' _ _ ?_)
  have so:=H71 (O:=Q91) (key:=fun i=>ks.getD i []) (n:=vs.length) (by omega)
  refine wpAny_bind (wpAny_mono (kat_run (s:={ s with heap:=h6 }) (Q:=fun st' s'=>s'={ s with heap:=h6 }∧failedOf st'=none∧arrOf st'=(run (l20 Q91 fun i=>ks.getD i []) (kas_sort vs.length)).map (kas_item (vs.toArray.zip vs.toArray)))
   (G:=fun p s'=>s'={ s with heap:=h6 }∧p=run (l20 Q91 fun i=>ks.getD i []) (kas_sort vs.length)) rfl h2' h64 (fun p st' s' a1 a2 a3 a4=>⟨a4.1,a3,by rw [a2,a4.2]⟩)
   (L70 (n:=vs.length) (cmp:=l20 Q91 fun i=>ks.getD i []) (fun i j C hi hj hC=>hk6.ask i j hi hj _ C hC) (kas_sort vs.length) (h81 (by omega)) ⟨rfl,rfl⟩)) ?_ fun _ _ e=>e)
  rintro ⟨⟨⟩,st'⟩ s' ⟨hs',hf,har⟩
  subst hs'
  dsimp only
  rw [hf]
  generalize run (l20 Q91 fun i=>ks.getD i []) (kas_sort vs.length)=p at so har
  refine fin p.toList _ (kat_snds rfl har) ⟨?_,?_⟩
  ·have:=so.1.toList;rw [hlen] at this;simpa using this
  ·rw [List.pairwise_iff_getElem]
   intro i j hi hj hij
   have hsz:p.size=vs.length:=by have:=so.1.size_eq;simpa using this
   have hi':i < p.size:=by simpa using hi
   have hj':j < p.size:=by simpa using hj
   have u:=so.2 i j (Nat.le_of_lt hij) (by omega)
   have g:∀ k,k < p.size→kk Q91 (fun i=>ks.getD i []) p k=ks.getD (p.toList.getD k 0) []:=fun k hk=>by show ks.getD (p.getD k 0) []=_;rw [Array.getD_eq_getD_getElem?,List.getD_eq_getElem?_getD (l:=p.toList),Array.getElem?_toList]
   have u':d70 (ks.getD (p.toList.getD j 0) []) (ks.getD (p.toList.getD i 0) [])=false:=by
    have:=u;unfold KeyOrd.kle at this;rw [g i hi',g j hj'] at this;exact this
   simpa [hi',hj'] using u'
end
end MySort
namespace HT
open PySem PyProof.Rows
section
open PySem.SeqAt
open PySem.AutoSeq1 (wpAny_loadPart')
open PySem.MeetsSeq PySem.MeetsSeq2 PySem.MeetsSeq3
open MySort (d70)
noncomputable def leB (ns ms:List Int):Bool:=!d70 ms ns
theorem v71 (x y:Int) (r q:List Int):leB (x::r) (y::q)=if x=y then leB r q else decide (x≤y):=by
 show (!(if y=x then d70 q r else decide (y < x)))=_
 by_cases e:x=y
 ·rw [if_pos e,if_pos e.symm];rfl
 ·rw [if_neg e,if_neg (Ne.symm e)]
  by_cases l:y < x
  ·rw [decide_eq_true l,decide_eq_false (by omega)];rfl
  ·rw [decide_eq_false l,decide_eq_true (by omega)];rfl
theorem v81 (A:Around) (s:Shared) (a:Int) (t:Tok) (c:Int) (u:Tok) (P:Program) (w:World) (E:Value→Shared→Prop) (Q:Value→Shared→Prop) (h:Q (.bool (decide (a≤c))) s):wpAny (model P w) A (richCompare .LtE (.int a t) (.int c u)) Q E s :=
 (PyProof.Rows.le_int h:wpAny (model P w) A (compareOp .LtE (.int a t) (.int c u)) Q E s)
theorem F80 (l b:Addr) (i1 i2:Array Value) (n n2:Nat) (dd dd2:Option Addr) (sl sl2:Array (Option Value)) (ns ms:List Int) (hi:IntsAre i1.toList ns) (hj:IntsAre i2.toList ms) :
  Meets (Builtin.«tuple.__le__» ⟨[.ref l,.ref b],[]⟩) (fun _ R s=>s.heap.get? l=some { cls:=.type "tuple",dict:=dd,data:=.seq i1 n,slots:=sl }∧s.heap.get? b=some { cls:=.type "tuple",dict:=dd2,data:=.seq i2 n2,slots:=sl2 }∧R (.ok (.ret (.bool (leB ns ms)))) s) :=
 .of_wp fun P w A R s h=>by
  obtain ⟨hp,g,d,tk,os⟩:=s;obtain ⟨hl,hb,h⟩:=h
  have f2:=AutoSeq1.sub_tuple_tuple
  have z1:i1.size=ns.length:=by rw [← hi.length];simp
  have z2:i2.size=ms.length:=by rw [← hj.length];simp
  wp_walk using wpAny_loadPart' hl,wpAny_loadPart' hb,wpAny_forIn_list _ (fun rest b s'=>b.1=none∧s'=⟨hp,g,d,tk,os⟩∧∃ (vs ws:List Value) (ns' ms':List Int),rest=vs.zip ws∧IntsAre vs ns'∧IntsAre ws ms'∧ns'.length + i2.size=ms'.length + i1.size∧R (.ok (.ret (.bool (leB ns' ms')))) ⟨hp,g,d,tk,os⟩) _
  case turn =>
   rintro ⟨y,x⟩ rest b s' ⟨hb',rfl,vs,ws,ns',ms',hz,hvi,hwi,hlen,hR⟩
   cases hvi with
   | nil=>rw [List.zip_nil_left] at hz;cases hz
   | cons a t hvi' =>
    cases hwi with
    | nil=>rw [List.zip_nil_right] at hz;cases hz
    | cons c u hwi' =>
     rw [List.zip_cons_cons] at hz;injection hz with hyx hrest;injection hyx with hy hx;subst hy hx
     rw [v71] at hR;simp only [List.length_cons] at hlen
     obtain ⟨e,he,hiff⟩:=u31 A.in1 ⟨hp,g,d,tk,os⟩ a t c u
     refine wpAny_bind (he P w _ _ ?_)
     cases e with
     | true =>
      rw [if_pos (hiff.mp rfl)] at hR;wp_walk
      exact ⟨rfl,rfl,_,_,_,_,hrest,hvi',hwi',by omega,hR⟩
     | false =>
      rw [if_neg (fun q=>absurd (hiff.mpr q) Bool.false_ne_true)] at hR
      have hri:=v81 A.in1 ⟨hp,g,d,tk,os⟩ a t c u P w
      wp_walk using hri
      exact ⟨_,rfl,by simpa using hR⟩
  case fin =>
   rintro ⟨b1,b2⟩ s' ⟨hb',rfl,vs,ws,ns',ms',hz,hvi,hwi,hlen,hR⟩
   simp only at hb';subst hb'
   have hv:leB ns' ms'=decide (i1.size≤i2.size):=by
    cases hvi with
    | nil =>
     cases hwi with
     | nil=>simp only [List.length_nil] at hlen;exact (decide_eq_true (by omega)).symm
     | cons c u hw=>simp only [List.length_nil,List.length_cons] at hlen;exact (decide_eq_true (by omega)).symm
    | cons a t hv =>
     cases hwi with
     | nil=>simp only [List.length_nil,List.length_cons] at hlen;exact (decide_eq_false (by omega)).symm
     | cons c u hw=>rw [List.zip_cons_cons] at hz;cases hz
   rw [hv] at hR;wp_walk
   exact ⟨_,rfl,by simpa [Builtin.Tuple.tupleCompareSizes] using hR⟩
  case h=>exact ⟨rfl,rfl,i1.toList,i2.toList,ns,ms,rfl,hi,hj,by omega,h⟩
end
section
variable {P:Program}{w:World}{A:Around}{E:Value→Shared→Prop}{s:Shared}
theorem b31 {l b:Addr}{i1 i2:Array Value}{ns ms:List Int}{Q:Value→Shared→Prop} (hl:IsTup s.heap l i1) (hb:IsTup s.heap b i2) (hi:IntsAre i1.toList ns) (hj:IntsAre i2.toList ms)
  (hu:A.units < cLine) (h:Q (.bool (leB ns ms)) s):wpAny (model P w) A (compareOp .LtE (.ref l) (.ref b)) Q E s:=by
 obtain ⟨⟨cls,dd,data,sl⟩,ho,hc,n,hd⟩:=id hl;obtain ⟨⟨cls2,dd2,data2,sl2⟩,ho2,hc2,n2,hd2⟩:=id hb
 simp only at hc hd hc2 hd2;subst hc hd hc2 hd2
 exact richCompare_meets_room (op:=.LtE) ⟨_,ho,rfl⟩ ⟨_,ho2,rfl⟩ PySem.F.slot_tuple_le PySem.F.entry_tuple_le (PySem.F.args_tuple_le_2 _ _) (F80 l b i1 i2 n n2 dd dd2 sl sl2 ns ms hi hj)
  ⟨ho,ho2,show Value.bool (leB ns ms)≠Value.notImplemented∧Q (.bool (leB ns ms)) s from ⟨(fun x=>nomatch x),h⟩⟩ hu
theorem H81 {t b:Addr}{ws:List Value}{Q:Value→Shared→Prop} (ht:IsTup s.heap t #[]) (hb:IsTup s.heap b ws.toArray) (h:Q (.ref b) s):wpAny (model P w) A (binaryOp .Add (.ref t) (.ref b)) Q E s:=by
 obtain ⟨⟨cls,dd,data,sl⟩,ho,hc,n,hd⟩:=id ht;obtain ⟨⟨cls2,dd2,data2,sl2⟩,ho2,hc2,n2,hd2⟩:=id hb
 simp only at hc hd hc2 hd2;subst hc hd hc2 hd2
 exact concat_meets ⟨_,ho,rfl⟩ ⟨_,ho2,rfl⟩ noFill_tuple_add seq_tuple_add PySem.F.slot_tuple_add PySem.F.entry_tuple_add (PySem.F.args_tuple_add_2 _ _) (tuple_addW0 t b #[] ws.toArray n n2 dd dd2 sl sl2 (by simp)) ⟨ho,ho2,h⟩
theorem L80:seqRepeat? (.type "tuple")=pure (some (.builtin "tuple.__mul__")):=by
 first | kernel_rfl | rfl | (unfold seqRepeat?;kernel_rfl)
theorem w10:fillsNumberSlot (.type "tuple") "mul"=pure false:=by
 first | kernel_rfl | rfl
theorem b41 (a:Int) (t:Tok) (l:Addr) (xs:Array Value) (n:Nat) (dd:Option Addr) (sl:Array (Option Value)) :
  Meets (Builtin.«int.__rmul__» ⟨[.int a t,.ref l],[]⟩) (fun _ R s=>s.heap.get? l=some { cls:=.type "tuple",dict:=dd,data:=.seq xs n,slots:=sl }∧R (.ok (.ret Value.notImplemented)) s) :=
 .of_wp fun P w A R s h=>by obtain ⟨hp,g,d,tk,os⟩:=s;obtain ⟨hl,h⟩:=h;wp_walk;exact ⟨_,rfl,h⟩
theorem H91 (l:Addr) (k:Int) (u:Tok) (n:Nat) (dd:Option Addr) (sl:Array (Option Value)) (h1:¬ (decide (k < -(2 ^ 63)) || decide (k ≥ 2 ^ 63))=true) :
  Meets (Builtin.«tuple.__mul__» ⟨[.ref l,.int k u],[]⟩) (fun _ R s=>s.heap.get? l=some { cls:=.type "tuple",dict:=dd,data:=.seq #[] n,slots:=sl }∧R (.ok (.ret (.ref l))) s) :=
 .of_wp fun P w A R s h=>by
  obtain ⟨hp,g,d,tk,os⟩:=s;obtain ⟨hl,h⟩:=h
  have f1:=AutoSeq1.idx_int
  have hc:((#[]:Array Value).isEmpty || k == 1)=true:=by simp
  wp_walk using AutoSeq1.wpAny_loadPart' hl
  simp only [h1,if_false]
  wp_walk using AutoSeq1.wpAny_loadPart' hl
  exact ⟨_,rfl,h⟩
theorem v91 (l:Addr) (xs:Array Value) (k:Int) (u:Tok) (n:Nat) (dd:Option Addr) (sl:Array (Option Value)) (h1:¬ (decide (k < -(2 ^ 63)) || decide (k ≥ 2 ^ 63))=true) (h2:¬ (xs.isEmpty || k == 1)=true) (h3:¬ (decide (k≤0) || xs.isEmpty)=true)
  (h4:¬ (xs.size:Int) * k > (2 ^ 63 - 1) / 8) (h5:¬ Builtin.Tuple.tupleTooMany ((xs.size:Int) * k)=true) (h6:(List.foldl (fun x y=>x++y) #[] (List.replicate k.toNat xs)).size≤sizeLine) :
  Meets (Builtin.«tuple.__mul__» ⟨[.ref l,.int k u],[]⟩) (fun _ R s=>s.heap.get? l=some { cls:=.type "tuple",dict:=dd,data:=.seq xs n,slots:=sl }∧R (.ok (.ret (.ref s.heap.objs.size))) { s with heap:=s.heap.push { cls:=.type "tuple",data:=.seq (List.foldl (fun x y=>x++y) #[] (List.replicate k.toNat xs)) } }) :=
 .of_wp fun P w A R s h=>by
  obtain ⟨hp,g,d,tk,os⟩:=s;obtain ⟨hl,h⟩:=h
  have f1:=AutoSeq1.idx_int
  wp_walk using AutoSeq1.wpAny_loadPart' hl
  simp only [h1,if_false]
  wp_walk using AutoSeq1.wpAny_loadPart' hl
  simp only [h4,h5,if_false]
  refine wpAny_bind (m:=Builtin.Tuple.tupleExact _) (wpAny_newObj_type (wpAny_pure ?_) h6)
  exact ⟨_,rfl,h⟩
end
end HT
namespace HT
open PySem PyProof.Rows
theorem r70 {α β:Type} (f:α→Option β) (g:α→β):∀ (l:List α),(∀ k∈l,f k=some (g k))→l.filterMap f=l.map g
 | [],_=>rfl
 | x::r,h=>by rw [List.filterMap_cons,h x List.mem_cons_self,List.map_cons,r70 f g r fun k hk=>h k (List.mem_cons_of_mem _ hk)]
section
variable {P:Program}{w:World}{A:Around}{E:Value→Shared→Prop}{s:Shared}
theorem q30 {t sl:Addr}{xs:Array Value}{vl vu:Value}{lo hi:Option Int}{Q:Value→Shared→Prop} (ht:IsTup s.heap t xs) (hs:s.heap.IsSliceOf sl vl vu .none) (pl:IsPart vl lo) (pu:IsPart vu hi)
  (hw:sIx xs.size 0 lo=0∧sIx xs.size xs.size hi=xs.size) (h:Q (.ref t) s):wpAny (model P w) A (getItem (.ref t) (.ref sl)) Q E s:=by
 obtain ⟨os,hos,hcs,hds⟩:=id hs
 have hTs:s.TypeIs (.ref sl) "slice":=⟨os,hos,hcs⟩
 unfold getItem;try with_reducible refine wpAny_holding ?_
 first | refine wpAny_bind (wpAny_pure ?_) | skip
 refine wpAny_bind (wpAny_sequenceKey ht.typeIs (by decide) ?_);refine wpAny_bind (wpAny_callSpecial?_slot (name:=Str.ofString "__getitem__") ht.typeIs PyProof.Rows.slot_tuple_getitem (wpAny_call_entry PyProof.Rows.slot_tuple_getitem ht.typeIs entry_tuple_getitem ?_ (args_tuple_getitem _ _)))
 show wpAny _ _ (Builtin.Tuple.tupleItemsOf (.ref t) >>= _) _ _ s;refine wpAny_bind (tupleItemsOf_ ht (wpAny_bind (wpAny_typeOf hTs ?_)))
 rw [if_pos (by decide)];refine wpAny_bind (n00 hs pl pu ?_)
 rw [hw.1,hw.2]
 show wpAny _ _ (if (((0:Nat):Int) == 0&&(1:Int) == 1&&(xs.size - 0) == xs.size)=true then _ else _) _ _ s
 rw [if_pos (by simp)]
 refine wpAny_bind (m:=Builtin.Tuple.tupleIsExact _) ?_
 unfold Builtin.Tuple.tupleIsExact
 refine wpAny_bind (wpAny_typeOf ht.typeIs (wpAny_pure ?_))
 rw [if_pos (by decide)]
 first
  | exact wpAny_bind (wpAny_rule (wpAny_pure ⟨_,rfl,wpAny_pure h⟩))
  | exact wpAny_bind (wpAny_rule (wpAny_bind (wpAny_pure (wpAny_pure ⟨_,rfl,wpAny_pure h⟩))))
theorem t70 {t sl:Addr}{xs:List Value}{u:Tok}{Q:Value→Shared→Prop} (ht:IsTup s.heap t xs.toArray) (hs:s.heap.IsSliceOf sl .none .none (.int (-1) u))
  (h:Q (.ref s.heap.objs.size) { s with heap:=s.heap.push { cls:=.type "tuple",data:=.seq xs.reverse.toArray } }) (hz:xs.length≤sizeLine):wpAny (model P w) A (getItem (.ref t) (.ref sl)) Q E s:=by
 obtain ⟨os,hos,hcs,hds⟩:=id hs
 have hTs:s.TypeIs (.ref sl) "slice":=⟨os,hos,hcs⟩
 unfold getItem;try with_reducible refine wpAny_holding ?_
 first | refine wpAny_bind (wpAny_pure ?_) | skip
 refine wpAny_bind (wpAny_sequenceKey ht.typeIs (by decide) ?_);refine wpAny_bind (wpAny_callSpecial?_slot (name:=Str.ofString "__getitem__") ht.typeIs PyProof.Rows.slot_tuple_getitem (wpAny_call_entry PyProof.Rows.slot_tuple_getitem ht.typeIs entry_tuple_getitem ?_ (args_tuple_getitem _ _)))
 show wpAny _ _ (Builtin.Tuple.tupleItemsOf (.ref t) >>= _) _ _ s;refine wpAny_bind (tupleItemsOf_ ht (wpAny_bind (wpAny_typeOf hTs ?_)))
 rw [if_pos (by decide)]
 have app:∀ {R:Int × Int × Nat→Shared→Prop},R ((xs.length:Int) - 1,-1,xs.length) s→wpAny (model P w) A.in1 (Builtin.Slice.sliceApplied (.ref sl) (pure (xs.toArray.size:Int))) R E s:=fun {R} q=>by
  unfold Builtin.Slice.sliceApplied Builtin.Slice.sliceFields
  refine wpAny_bind (wpAny_bind (wpAny_field hos hds (x:=.none) rfl (wpAny_bind (wpAny_field hos hds (x:=.none) rfl (wpAny_bind (wpAny_field hos hds (x:=.int (-1) u) rfl (wpAny_pure ?_)))))))
  refine wpAny_bind (slicePart_int ?_)
  show wpAny _ _ (if ((-1:Int) == 0)=true then _ else _) _ _ s
  rw [if_neg (by decide)]
  refine wpAny_bind (slicePart_none (wpAny_bind (slicePart_none (wpAny_bind (wpAny_pure ?_)))))
  have e1:Builtin.Slice.sliceAdjust none none (-1) (xs.toArray.size:Int)=((xs.length:Int) - 1,-1):=by simp [Builtin.Slice.sliceAdjust]
  have e2:Builtin.Slice.slicePlaces ((xs.length:Int) - 1) (-1) (-1)=xs.length:=by
   unfold Builtin.Slice.slicePlaces
   rw [if_neg (by decide)]
   split
   ·simp only [Int.neg_neg,Int.ediv_one];omega
   ·omega
  show wpAny _ _ (match Builtin.Slice.sliceAdjust none none (-1) (xs.toArray.size:Int) with | (lo,hi)=>pure (lo,(-1:Int),Builtin.Slice.slicePlaces lo hi (-1))) _ _ s
  rw [e1]
  show wpAny _ _ (pure ((xs.length:Int) - 1,(-1:Int),Builtin.Slice.slicePlaces ((xs.length:Int) - 1) (-1) (-1))) _ _ s
  rw [e2]
  exact wpAny_pure q
 refine wpAny_bind (app ?_)
 show wpAny _ _ (if (((xs.length:Int) - 1) == 0&&(-1:Int) == 1&&xs.length == xs.toArray.size)=true then _ else _) _ _ s
 rw [if_neg (by simp)]
 have pick:((List.range xs.length).filterMap fun (k:Nat)=>xs.toArray[((xs.length:Int) - 1 + (k:Int) * -1).toNat]?)=xs.reverse:=by
  refine List.ext_getElem? fun i=>?_
  have hall:∀ k∈List.range xs.length,xs.toArray[((xs.length:Int) - 1 + (k:Int) * -1).toNat]?=some (xs.getD (xs.length - 1 - k) Value.none):=fun k hk=>by
   have hk':k < xs.length:=by simpa using hk
   have e:((xs.length:Int) - 1 + (k:Int) * -1).toNat=xs.length - 1 - k:=by omega
   rw [e]
   have:xs.length - 1 - k < xs.length:=by omega
   simp [this]
  rw [r70 _ _ _ hall,List.getElem?_map]
  by_cases hi:i < xs.length
  ·have h2:xs.length - 1 - i < xs.length:=by omega
   rw [List.getElem?_range hi,List.getElem?_reverse hi]
   simp [h2]
  ·rw [List.getElem?_eq_none (by simpa using hi),List.getElem?_eq_none (by simpa using hi)];rfl
 rw [pick]
 have hsz:sizeOk (.seq xs.reverse.toArray):=by show xs.reverse.toArray.size≤sizeLine;rw [List.size_toArray,List.length_reverse];exact hz
 first
  | exact wpAny_bind (m:=Builtin.Tuple.tupleExact _) (wpAny_newObj_type (wpAny_pure ⟨_,rfl,wpAny_pure h⟩) hsz)
  | exact wpAny_bind (m:=Builtin.Tuple.tupleExact _) (wpAny_newObj_type (wpAny_bind (wpAny_pure (wpAny_pure ⟨_,rfl,wpAny_pure h⟩))) hsz)
  | exact wpAny_bind (wpAny_bind (m:=Builtin.Tuple.tupleExact _) (wpAny_newObj_type (wpAny_pure (wpAny_pure ⟨_,rfl,wpAny_pure h⟩)) hsz))
  | exact wpAny_bind (wpAny_bind (m:=Builtin.Tuple.tupleExact _) (wpAny_newObj_type (wpAny_pure ⟨_,rfl,wpAny_pure h⟩) hsz))
end
end HT
namespace L2
open PySem PySem.Spec PyProof.Rows
theorem a00.sqT {K:PySem.W.Frag}{H H':Hp}{a:Addr}{xs:List V} (e:a00 H H') (h:SqT K H a xs):SqT K H' a xs:=by
 rcases h with (h | ⟨o,h⟩) | h
 ·exact .inl (.inl (e _ _ h))
 ·exact .inl (.inr ⟨o,e _ _ h⟩)
 ·exact .inr h
theorem a00.new {H:Hp}{p:Addr} (o:HO) (n:H p=none):a00 H (upd H p o):=fun b u e=>by rw [a30 (a50 e n)];exact e
noncomputable def w01 (K:PySem.W.Frag) (H:Hp) (zs:List V) (Q:VK):Prop:=∀ p H',a00 H H'→SqT K H' p zs→Q (.ref p) H'
section
variable {X:Cx}{pins:List (Addr × Obj)}{σ:St}{H:Hp}{s:Shared}
theorem w01.here {zs:List V}{Q:VK}{a:Addr} (q:w01 X.K H zs Q) (I:Inv X pins σ H s) (h:SqT X.K H a zs):EP X pins σ Q (.ref a) s:=⟨.ref a,H,I,rfl,q a H (a00.refl H) h⟩
theorem w01.new {zs:List V}{us:List Value}{Q:VK} (q:w01 X.K H zs Q) (I:Inv X pins σ H s) (r:Vals zs us) (hz:zs.length≤sizeLine) :
  EP X pins σ Q (.ref s.heap.objs.size) { s with heap:=s.heap.push { cls:=.type "tuple",data:=.seq us.toArray } } :=
 have hn:H s.heap.objs.size=none:=I.hok.fresh (Nat.le_refl _)
 ⟨.ref s.heap.objs.size,_,I.laid (t':=s.toks) (o:=.tup zs) (fun b ob q=>Heap.get?_push_of_some _ q) (Nat.le_refl _) ⟨hz,_,r,IsTup.new _ _⟩,rfl,q _ _ (a00.new _ hn) (SqT.of a90)⟩
end
section
variable {X:Cx}
noncomputable def z72 (K:PySem.W.Frag):R2:=fun x y H Q=>∃ a b ns ms,x=.ref a∧y=.ref b∧SqT K H a (ns.map V.int)∧SqT K H b (ms.map V.int)∧Q (.bl (HT.leB ns ms)) H
theorem V71 (hu:X.A.units < cLine):OpR X (compareOp .LtE) (z72 X.K):=by
 intro pins s σ H x y v u Q I rx ry h
 obtain ⟨a,b,ns,ms,rfl,rfl,ha,hb,q⟩:=h
 cases rx;cases ry
 obtain ⟨v1,r1,p1,_⟩:=I.tuple ha
 obtain ⟨v2,r2,p2,_⟩:=I.tuple hb
 exact HT.b31 p1 p2 (show IntsAre v1.toArray.toList ns from intsAre_of r1) (show IntsAre v2.toArray.toList ms from intsAre_of r2) hu ⟨.bl (HT.leB ns ms),H,I,rfl,q⟩
noncomputable def k82 (K:PySem.W.Frag):R2:=fun x y H Q=>∃ a b xs ys,x=.ref a∧y=.ref b∧SqT K H a xs∧SqT K H b ys∧xs.length + ys.length≤sizeLine∧w01 K H (xs++ys) Q
theorem I01:OpR X (binaryOp .Add) (k82 X.K):=by
 intro pins s σ H x y v u Q I rx ry h
 obtain ⟨a,b,xs,ys,rfl,rfl,ha,hb,hz,q⟩:=h
 cases rx;cases ry
 obtain ⟨v1,r1,p1,_⟩:=I.tuple ha
 obtain ⟨v2,r2,p2,_⟩:=I.tuple hb
 by_cases hx:xs=[]
 ·subst hx
  have e:=r1.y70.mpr rfl
  subst e
  exact HT.H81 p1 p2 (q.here I hb)
 ·refine HT.G41 p1 p2 (fun z=>hx (r1.y70.mp z)) (fun z=>?_) (fun z=>q.new I (r1.append r2) (by rw [List.length_append];exact hz)) (by rw [← r1.length,← r2.length];exact hz)
  have e:=r2.y70.mp z
  subst e
  rw [List.append_nil] at q
  exact q.here I ha
noncomputable def k92 (K:PySem.W.Frag):R2:=fun x y H Q=>∃ a k xs,x=.ref a∧y=.int k∧SqT K H a xs∧2≤k∧k < 1000000∧k.toNat * xs.length≤sizeLine∧w01 K H (List.replicate k.toNat xs).flatten Q
theorem I11:OpR X (binaryOp .Mult) (k92 X.K):=by
 intro pins s σ H x y v u Q I rx ry h
 obtain ⟨a,k,xs,rfl,rfl,ha,hk,hk2,hz,q⟩:=h
 cases rx
 obtain ⟨t,rfl⟩:=ry
 obtain ⟨v1,r1,p1,_⟩:=I.tuple ha
 have hl:=r1.length
 obtain ⟨⟨cls,dd,data,sl⟩,ho,hc,n,hd⟩:=id p1
 simp only at hc hd;subst hc hd
 have h1:¬ (decide (k < -(2 ^ 63)) || decide (k ≥ 2 ^ 63))=true:=by simp;omega
 refine wpAny_binaryOp_repeat_ref (T:="tuple") (U:="int") (by decide) ⟨_,ho,rfl⟩ (fun s'=>typeIs_int s' k t) HT.w10 F.fills_int_mul F.slot_int_rmul HT.L80 F.slot_int_index.lookup
  (call_meets F.slot_int_rmul (typeIs_int s k t) F.entry_int_rmul (F.args_int_rmul_2 _ _) (HT.b41 k t a v1.toArray n dd sl) ⟨ho,rfl,⟨_,ho,rfl⟩,?_⟩)
 by_cases hx:xs=[]
 ·subst hx
  have e:=r1.y70.mpr rfl
  subst e
  refine call_meets F.slot_tuple_mul ⟨_,ho,rfl⟩ F.entry_tuple_mul (F.args_tuple_mul_2 _ _) (HT.H91 a k t n dd sl h1) ⟨ho,?_⟩
  have e2:(List.replicate k.toNat ([]:List V)).flatten=[]:=by simp
  rw [e2] at q
  exact q.here I ha
 ·have hv:v1≠[]:=fun z=>hx (r1.y70.mp z)
  have hpos:0 < v1.length:=List.length_pos_iff.mpr hv
  have hfl:List.foldl (fun x y=>x++y) #[] (List.replicate k.toNat v1.toArray)=(List.replicate k.toNat v1).flatten.toArray:=by
   have:=foldl_rep v1 k.toNat []
   rw [List.nil_append] at this
   exact this
  have hsz:v1.length * k.toNat≤sizeLine:=by rw [← hl,Nat.mul_comm];exact hz
  have hcast:((v1.toArray.size:Nat):Int) * k=((v1.length * k.toNat:Nat):Int):=by rw [List.size_toArray,Int.natCast_mul,Int.toNat_of_nonneg (by omega)]
  have hline:(sizeLine:Nat)≤(2 ^ 63 - 1) / 8:=by decide
  refine call_meets F.slot_tuple_mul ⟨_,ho,rfl⟩ F.entry_tuple_mul (F.args_tuple_mul_2 _ _) (HT.v91 a v1.toArray k t n dd sl h1 (by simp [hv];omega) (by simp [hv];omega) (by rw [hcast];generalize v1.length * k.toNat=m at hsz;omega) (by rw [hcast];generalize v1.length * k.toNat=m at hsz;unfold Builtin.Tuple.tupleTooMany;intro z;have z':=of_decide_eq_true z;omega)
   (by rw [hfl,List.size_toArray,len_rep,Nat.mul_comm];exact hsz)) ⟨ho,?_⟩
  rw [hfl]
  exact q.new I (r1.rep k.toNat) (by rw [len_rep];exact hz)
noncomputable def z82 (K:PySem.W.Frag):V→Option Int→Option Int→Hp→VK→Prop:=fun x lo hi H Q=>∃ a xs,x=.ref a∧SqT K H a xs∧w01 K H (u61 xs lo hi) Q
theorem I21:SlR X (z82 X.K):=by
 intro pins s σ H x v vl vu lo hi sl Q I rx hs pl pu h
 obtain ⟨a,xs,rfl,hx,q⟩:=h
 cases rx
 obtain ⟨its,r,ht,hz⟩:=I.tuple hx
 have hlen:its.toArray.size=xs.length:=by rw [List.size_toArray];exact r.length.symm
 refine ⟨"tuple",_,PyProof.Rows.slot_tuple_getitem.lookup,ht.typeIs,?_⟩
 by_cases hw:HT.sIx xs.length 0 lo=0∧HT.sIx xs.length xs.length hi=xs.length
 ·refine HT.q30 ht hs pl pu (by rw [hlen];exact hw) ?_
  have e:u61 xs lo hi=xs:=by unfold u61;rw [hw.1,hw.2];simp
  rw [e] at q
  exact q.here I hx
 ·refine HT.t60 ht hs pl pu (by rw [hlen];exact hw) ?_ (by rw [hlen];exact hz)
  rw [hlen]
  exact q.new I ((r.drop (HT.sIx xs.length 0 lo)).take (HT.sIx xs.length xs.length hi - HT.sIx xs.length 0 lo)) (Nat.le_trans (y60 xs lo hi) hz)
noncomputable def z92 (K:PySem.W.Frag) (te ts:TE):TE:=fun σ H Q=>te σ H fun x H1=>ts σ H1 fun y H2=>y=.int (-1)∧∃ a xs,x=.ref a∧SqT K H2 a xs∧w01 K H2 xs.reverse Q
theorem w22 {e st:Expr}{te ts:TE}{p2 pos:Pos} (he:PE X e te) (hst:PE X st ts) (hts:∀ o r,letTemporaryGo e o r=pure ():=by intro _ _;rfl):PE X (.Subscript e (.Slice none none (some st) p2) pos) (z92 X.K te ts):=by
 intro pins s σ H Q I h
 refine wpAny_Subscript_Slice_step (T:="tuple") PyProof.Rows.slot_tuple_getitem.lookup (thn (he pins s σ H _ I h) fun v s1 ⟨x,H1,I1,r1,q1⟩=>?_) hts
 refine wpAny_Slice ?_
 rw [evalPart_none]
 refine wpAny_pure (wpAny_pure ?_)
 rw [evalPart_some]
 refine thn (hst pins s1 σ H1 _ I1 q1) fun w' s2 ⟨y,H2,I2,r2,q2⟩=>?_
 obtain ⟨rfl,a,xs,rfl,hq,q⟩:=q2
 obtain ⟨t,rfl⟩:=r2
 cases r1
 have I4:Inv X pins σ H2 { s2 with heap:=s2.heap.push { cls:=.type "slice",data:=.fields #[.none,.none,.int (-1) t] } }:=I2.kept (t':=s2.toks) fun b ob q=>Heap.get?_push_of_some _ q
 obtain ⟨its,r,ht,hz⟩:=I4.tuple hq
 exact ⟨ht.typeIs,HT.t70 ht (Heap.IsSliceOf.new ..) (q.new I4 r.reverse (by rw [List.length_reverse];exact hz)) (by rw [← r.length];exact hz)⟩
theorem V81:OpR X (compareOp .Is) (fun x y H Q=>∃ b c,x=.bl b∧y=.bl c∧Q (.bl (b == c)) H):=by
 intro pins s σ H x y v u Q I rx ry h
 obtain ⟨b,c,rfl,rfl,q⟩:=h
 cases rx;cases ry
 exact is_bool (W10 I q rfl)
theorem i01:OpR X (compareOp .IsNot) (fun x y H Q=>∃ b c,x=.bl b∧y=.bl c∧Q (.bl (b != c)) H):=by
 intro pins s σ H x y v u Q I rx ry h
 obtain ⟨b,c,rfl,rfl,q⟩:=h
 cases rx;cases ry
 exact isnot_bool (W10 I q rfl)
theorem Inv.big {pins:List (Addr × Obj)}{σ:St}{H:Hp}{s:Shared} (I:Inv X pins σ H s):sysModules < s.heap.objs.size:=by
 have h:mainGlobals < s.heap.objs.size:=(I.mod.glob.keeps I.bk).lt
 exact Nat.lt_trans (by decide) h
noncomputable def l02:TE:=fun _ H Q=>∀ p,H p=none→Q (.ref p) (upd H p (.dK []))
theorem I31 {pos:Pos}:PE X (.Dict [] [] pos) l02:=fun pins s σ H Q I h =>
 wpAny_Dict_empty ⟨.ref s.heap.objs.size,_,I.laid (a:=s.heap.objs.size) (o:=.dK []) (t':=s.toks) (fun _ _ q=>Heap.get?_push_of_some _ q) (Nat.le_refl _) ⟨Nat.zero_le _,beq_eq_false_iff_ne.mpr (Ne.symm (Nat.ne_of_lt I.big)),[],.nil,Heap.DictOf.new _⟩,rfl,h _ (I.hok.fresh (Nat.le_refl _))⟩
end
end L2
namespace MySort
open PySem PySem.W PyProof.Rows
section
variable {P:Program}{w:World}{A:Around}{E:Value→Shared→Prop}{s:Shared}
theorem R50 {l:Addr}{o:Obj}{vs:List Value}{n:Nat}{Q:List Value→Shared→Prop} (ho:s.heap.get? l=some o) (hc:o.cls=.type "list"∨o.cls=.type "tuple") (hd:o.data=.seq vs.toArray n)
  (h:Q vs { s with heap:=(s.heap.push (seqObj "list" #[] 0)).update s.heap.objs.size (Obj.mapSeq (·++vs.toArray)) }) (hz:vs.length≤sizeLine):wpAny (model P w) A (collect (.ref l)) Q E s:=by
 unfold collect
 refine wpAny_bind (wpAny_runValue (codeAny_builtin entry_proto_collect' ?_));show wpAny _ _ (do again (.builtin "list.__iadd__" ⟨[← newList [],.ref l],[]⟩)) _ _ s
 refine wpAny_bind (wpAny_newList (wpAny_pure ⟨Code.quiet_builtin _ (by decide +kernel),codeAny_builtin entry_list_iadd' ?_⟩))
 show wpAny _ _ (Builtin.List.listExtendWith (.ref s.heap.objs.size) (.ref l) (.ref s.heap.objs.size)) _ _ { s with heap:=s.heap.push (seqObj "list" #[] 0) }
 unfold Builtin.List.listExtendWith
 have ho':(s.heap.push (seqObj "list" #[] 0)).get? l=some o:=Heap.get?_push_of_some _ ho
 have fin:wpAny (model P w) A (do
   let o ← load s.heap.objs.size
   match o.data with
   | .seq xs _=>pure xs.toList
   | _=>unsupported "internal:collect") Q E { s with heap:=(s.heap.push (seqObj "list" #[] 0)).update s.heap.objs.size (Obj.mapSeq (·++vs.toArray)) }:=by
  refine wpAny_bind (wpAny_load (get?_update_seq (Heap.get?_push_size _ rfl) _) ?_)
  show wpAny _ _ (pure ((#[]:Array Value)++vs.toArray).toList) Q E _
  rw [show ((#[]:Array Value)++vs.toArray).toList=vs by simp];exact wpAny_pure h
 rcases hc with hc | hc
 ·refine wpAny_bind (wpAny_typeOf (T:="list") ⟨o,ho',hc⟩ ?_);rw [if_pos (by rw [show (Value.type "list" == Value.type "list")=true by rfl];simp)]
  refine wpAny_bind (listItems_at ho' hd (wpAny_bind (listItems_at (xs:=#[]) (n:=0) (Heap.get?_push_size _ rfl) rfl ?_)));rw [if_neg (by simp)]
  exact wpAny_bind (listUpdate_at (xs:=#[]) (n:=0) (Heap.get?_push_size _ rfl) rfl (wpAny_pure fin) (Nat.zero_le _) (by show (#[]++vs.toArray).size≤sizeLine + 1;simp only [Array.size_append,List.size_toArray,List.length_nil];omega))
 ·refine wpAny_bind (wpAny_typeOf (T:="tuple") ⟨o,ho',hc⟩ ?_);rw [if_pos (by rw [show (Value.type "tuple" == Value.type "tuple")=true by rfl];simp)]
  refine wpAny_bind (listItems_at ho' hd (wpAny_bind (listItems_at (xs:=#[]) (n:=0) (Heap.get?_push_size _ rfl) rfl ?_)));rw [if_neg (by simp)]
  exact wpAny_bind (listUpdate_at (xs:=#[]) (n:=0) (Heap.get?_push_size _ rfl) rfl (wpAny_pure fin) (Nat.zero_le _) (by show (#[]++vs.toArray).size≤sizeLine + 1;simp only [Array.size_append,List.size_toArray,List.length_nil];omega))
theorem i11 {l:Addr}{o:Obj}{vs:List Value}{ks:List (List Int)}{kd:SortKind}{n:Nat}{Q:Value→Shared→Prop} (ho:s.heap.get? l=some o) (hc:o.cls=.type "list"∨o.cls=.type "tuple") (hd:o.data=.seq vs.toArray n)
  (hlen:vs.length=ks.length) (hk:∀ h',h91 s.heap h'→h42 P w A.in1.in1 { s with heap:=h' } vs ks kd) (h64:vs.length < 64)
  (h:∀ (p:List Nat) (h':Heap) (c:Nat),sortedBy ks p→(∀ b o,s.heap.get? b=some o→h'.get? b=some o)→h'.get? (s.heap.objs.size + 1)=some (seqObj "list" (p.map fun i=>vs.getD i Value.none).toArray c)→Q (.ref (s.heap.objs.size + 1)) { s with heap:=h' }) :
  wpAny (model P w) A (call (.builtin "sorted") [.ref l]) Q E s:=by
 refine Calls.call_function_entry kind_sorted plain_sorted entry_sorted (args_sorted1 _) ?_;unfold Builtin.«sorted»
 refine wpAny_bind (m:=checkCount "sorted" 1 1 _) (wpAny_pure ?_);refine wpAny_bind (R50 ho hc hd ?_ (by rw [sizeLine_eq];omega));refine wpAny_bind (wpAny_newList ?_ (by rw [sizeLine_eq];omega))
 have hsz:((s.heap.push (seqObj "list" #[] 0)).update s.heap.objs.size (Obj.mapSeq (·++vs.toArray))).objs.size=s.heap.objs.size + 1:=by rw [Heap.size_update,size_push']
 have hoL:(((s.heap.push (seqObj "list" #[] 0)).update s.heap.objs.size (Obj.mapSeq (·++vs.toArray))).push (seqObj "list" vs.toArray 0)).get? (s.heap.objs.size + 1)=some (seqObj "list" vs.toArray 0):=by rw [← hsz];exact Heap.get?_push_size _ rfl
 have keep:∀ b o,s.heap.get? b=some o→(((s.heap.push (seqObj "list" #[] 0)).update s.heap.objs.size (Obj.mapSeq (·++vs.toArray))).push (seqObj "list" vs.toArray 0)).get? b=some o:=fun b o q=>by
  have hlt:b < s.heap.objs.size:=Heap.lt_size q
  rw [Heap.get?_push_ne _ _ _ (by rw [hsz];exact Nat.ne_of_lt (Nat.lt_succ_of_lt hlt)),Heap.get?_update_ne _ _ _ _ (Nat.ne_of_lt hlt),Heap.get?_push_ne _ _ _ (Nat.ne_of_lt hlt)];exact q
 show wpAny _ _ _ _ _ { s with heap:=((s.heap.push (seqObj "list" #[] 0)).update s.heap.objs.size (Obj.mapSeq (·++vs.toArray))).push (seqObj "list" vs.toArray 0) }
 rw [hsz]
 refine wpAny_bind (wpAny_holding (wpAny_call_entry slot_list_sort ⟨_,hoL,rfl⟩ entry_list_sort (v61 hoL hlen (fun h' kp=>hk h' fun b o e hc=>kp b o (keep b o e) hc) h64 fun p h' c hp kp hD=>⟨_,rfl,wpAny_pure ⟨_,rfl,h p h' c hp (fun b o e=>kp b o (Nat.ne_of_lt (Nat.lt_succ_of_lt (Heap.lt_size e))) (keep b o e)) hD⟩⟩) (args_list_sort _)))
end
end MySort
namespace L2
open PySem PySem.Spec PyProof.Rows
open MySort (sortedBy)
section
variable {X:Cx}
noncomputable def V91 (X:Cx) (H:Hp) (xs:List V) (ks:List (List Int)):Prop:=xs.length=ks.length∧∀ (pins:List (Addr × Obj)) (σ:St) (s:Shared) (us:List Value),Inv X pins σ H s→Vals xs us→∃ kd,∀ h',MySort.h91 s.heap h'→MySort.h42 X.prog X.w X.A.in1.in1 { s with heap:=h' } us ks kd
theorem L90:e70 X (.builtin "sorted") (fun args H Q=>∃ a xs ks,args=[.ref a]∧(SqL X.K H a xs∨SqT X.K H a xs)∧xs.length < 64∧V91 X H xs ks∧∀ p l,sortedBy ks p→H l=none→Q (.ref l) (upd H l (.lst (p.map fun i=>xs.getD i .non)))):=by
 intro pins s σ H args us Q I r h
 obtain ⟨a,xs,ks,rfl,hq,h64,hk,q⟩:=h
 obtain ⟨u,rfl,rx⟩:=vals1 r
 cases rx
 have go:∀ (its:List Value) (o:Obj) (n:Nat),Vals xs its→s.heap.get? a=some o→(o.cls=.type "list"∨o.cls=.type "tuple")→o.data=.seq its.toArray n→wpAny (model X.prog X.w) X.A (call (.builtin "sorted") [.ref a]) (EP X pins σ Q) X.xe s:=fun its o n rv ho hc hd=>by
  obtain ⟨kd,kw⟩:=hk.2 pins σ s its I rv
  refine MySort.i11 ho hc hd (by rw [← rv.length];exact hk.1) kw (by rw [← rv.length];exact h64) fun p h' c hp kp hD=>?_
  have hn:H (s.heap.objs.size + 1)=none:=I.hok.fresh (Nat.le_add_right _ 1)
  have hlen:(p.map fun i=>xs.getD i .non).length≤sizeLine:=by rw [List.length_map,hp.1.length_eq,List.length_range,← hk.1,sizeLine_eq];omega
  have rv':Vals (p.map fun i=>xs.getD i .non) (p.map fun i=>its.getD i Value.none):=by
   have hall:∀ i∈p,i < xs.length:=fun i hi=>by have:=hp.1.mem_iff.mp hi;rw [hk.1];simpa using this
   clear hp hD hlen
   induction p with
   | nil=>exact .nil
   | cons i r ih =>
    refine .cons ?_ (ih fun j hj=>hall j (List.mem_cons_of_mem _ hj))
    have hi:=hall i List.mem_cons_self
    obtain ⟨u,hu,ru⟩:=rv.get (i:=i) (x:=xs[i]) (by simp [hi])
    have e1:xs.getD i V.non=xs[i]:=by simp [hi]
    have e2:its.getD i Value.none=u:=by rw [List.getD_eq_getElem?_getD,hu];rfl
    show RelV (xs.getD i V.non) (its.getD i Value.none)
    rw [e1,e2];exact ru
  exact ⟨.ref (s.heap.objs.size + 1),_,I.laid (t':=s.toks) kp (Nat.le_add_right _ 1) (show h70 X.prog X.w _ h' _ (.lst _) from ⟨hlen,_,c,rv',hD⟩),rfl,q p _ hp hn⟩
 rcases hq with hq | hq
 ·obtain ⟨its,rv,pl,_⟩:=I.list hq
  obtain ⟨o,ho,hc,n,hd⟩:=pl.isList
  exact go its o n rv ho (.inl hc) hd
 ·obtain ⟨its,rv,⟨o,ho,hc,n,hd⟩,_⟩:=I.tuple hq
  exact go its o n rv ho (.inr hc) hd
end
section
variable {K:PySem.W.Frag}{g:TG}{tt:TT}{te:TE}{σ0:St}{H:Hp}{Q:VK}
theorem w11 {lo:Int}{n:Nat} (Pv:Nat→List V→Hp→Prop) (hz:n≤sizeLine) (h0:Pv 0 [] H) (hl:∀ i ys H,Pv i ys H→ys.length≤i)
  (hs:∀ i ys H,i < n→Pv i ys H→g (.int (lo + i)) σ0 H fun σ2 H2=>tt σ2 H2 fun b H3=>if b=true then te σ2 H3 (fun y H4=>Pv (i + 1) (ys++[y]) H4) else Pv (i + 1) ys H3)
  (hd:∀ ys H p,Pv n ys H→H p=none→Q (.ref p) (upd H p (.lst ys))):v01 (Itr lo n) σ0 H g tt te Q:=by
 refine ⟨fun i m ys H=>m=n - i∧i≤n∧Pv i ys H,⟨n,by simp,Nat.zero_le _,h0⟩,?_⟩
 rintro i m ys H ⟨rfl,hi,p⟩
 have hy:=hl i ys H p
 by_cases hlt:i < n
 ·refine .inr ⟨hlt,by omega,Pv (i + 1),fun zs H' p'=>⟨n - (i + 1),by omega,rfl,hlt,p'⟩,fun x H' y=>?_⟩
  obtain ⟨e,y⟩:=y
  subst e y
  exact hs i ys _ hlt p
 ·have e:i=n:=by omega
  subst e
  exact .inl ⟨Nat.le_refl _,fun z hz=>hd ys H z p hz⟩
end
end L2
namespace L2
open PySem PySem.Spec PyProof.Rows
inductive D where
 | non | bl (b:Bool) | int (i:Int) | str (x:Str) | tup (ds:List D) | lst (ds:List D) | dct
noncomputable def D.ty:D→String
 | .non=>"NoneType"
 | .bl _=>"bool"
 | .int _=>"int"
 | .str _=>"str"
 | .tup _=>"tuple"
 | .lst _=>"list"
 | .dct=>"dict"
mutual
noncomputable def Has (K:PySem.W.Frag) (H:Hp):D→V→Prop
 | .non,v=>v=.non
 | .bl b,v=>v=.bl b
 | .int i,v=>v=.int i
 | .str x,v=>v=.str x
 | .tup ds,v=>∃ a xs,v=.ref a∧SqT K H a xs∧C80 K H ds xs
 | .lst ds,v=>∃ a xs,v=.ref a∧SqL K H a xs∧C80 K H ds xs
 | .dct,v=>∃ a kvs,v=.ref a∧H a=some (.dK kvs)
noncomputable def C80 (K:PySem.W.Frag) (H:Hp):List D→List V→Prop
 | [],xs=>xs=[]
 | d::ds,xs=>∃ x r,xs=x::r∧Has K H d x∧C80 K H ds r
end
section
variable {K:PySem.W.Frag}{H H':Hp}
end
noncomputable def isB (T C:String):Bool:=T == C || (T == "bool"&&C == "int")
theorem I41 (K:PySem.W.Frag) (d:D):∀ C∈["int","bool","tuple","list"],PySem.W.kitOne K (.type d.ty) (.type C)=some (isB d.ty C):=by
 intro C hC
 simp only [List.mem_cons,List.not_mem_nil,or_false] at hC
 rcases hC with rfl | rfl | rfl | rfl <;> cases d <;> first | rfl | kernel_rfl | decide +kernel
section
variable {X:Cx}
theorem w21:e70 X (.builtin "isinstance") (fun xs H Q=>∃ d x C,xs=[x,.ty C]∧Has X.K H d x∧C∈["int","bool","tuple","list"]∧Q (.bl (isB d.ty C)) H):=by
 intro pins s σ H xs us Q I r h
 obtain ⟨d,x,C,rfl,hd,hC,q⟩:=h
 obtain ⟨u,w',rfl,rx,rt⟩:=vals2 r
 cases (show w'=Value.type C from rt)
 have e:=I41 X.K d C hC
 have fin:∀ tk,EP X pins σ Q (.bool (isB d.ty C)) { s with toks:=tk }:=fun tk=>⟨.bl _,H,I.tok tk,rfl,q⟩
 cases d with
 | non=>unfold Has at hd;subst hd;cases rx;exact PySem.W.kia_one PySem.W.kitx_none I.kIn True.intro e (fun z=>nomatch z) fin
 | bl b=>unfold Has at hd;subst hd;cases rx;exact PySem.W.kia_one PySem.W.kitx_bool I.kIn True.intro e (fun z=>nomatch z) fin
 | int i=>unfold Has at hd;subst hd;obtain ⟨t,rfl⟩:=rx;exact PySem.W.kia_one PySem.W.kitx_int I.kIn True.intro e (fun z=>nomatch z) fin
 | str y=>unfold Has at hd;subst hd;obtain ⟨t,rfl⟩:=rx;exact PySem.W.kia_one PySem.W.kitx_str I.kIn True.intro e (fun z=>nomatch z) fin
 | tup ds =>
  unfold Has at hd
  obtain ⟨a,ys,rfl,hq,_⟩:=hd
  cases rx
  obtain ⟨its,_,⟨o,h1,h2,_⟩,_⟩:=I.tuple hq
  exact PySem.W.kia_one PySem.W.kitx_tuple I.kIn ⟨o,h1,h2⟩ e (fun z=>nomatch z) fin
 | lst ds =>
  unfold Has at hd
  obtain ⟨a,ys,rfl,hq,_⟩:=hd
  cases rx
  obtain ⟨its,_,pl,_⟩:=I.list hq
  obtain ⟨o,h1,h2,_⟩:=pl.isList
  exact PySem.W.kia_one PySem.W.kitx_list I.kIn ⟨o,h1,h2⟩ e (fun z=>nomatch z) fin
 | dct =>
  unfold Has at hd
  obtain ⟨a,kvs,rfl,hq⟩:=hd
  cases rx
  obtain ⟨_,_,vs,_,p⟩:=(show h70 X.prog X.w H s.heap a (.dK kvs) from I.hok a _ hq)
  obtain ⟨o,es,ep,h1,h2,_⟩:=p
  exact PySem.W.kia_one PySem.W.kitx_dict I.kIn ⟨o,h1,h2.1⟩ e (fun z=>nomatch z) fin
end
noncomputable def hide (st:Addr) (H:Hp):Hp:=fun b=>if b=st then none else H b
theorem j20 (st:Addr) (H:Hp):a00 (hide st H) H:=fun b o e=>by
 unfold hide at e
 split at e
 ·cases e
 ·exact e
theorem z10 {st:Addr}{H H':Hp} (e:∀ b o,b≠st→H b=some o→H' b=some o):a00 (hide st H) (hide st H'):=fun b o h=>by
 unfold hide at h ⊢
 by_cases q:b=st
 ·rw [if_pos q] at h;cases h
 ·rw [if_neg q] at h ⊢;exact e b o q h
theorem F90 {st b:Addr}{H:Hp}{o:HO} (h:H b=some o) (n:b≠st):hide st H b=some o:=by
 unfold hide;rw [if_neg n];exact h
end L2
namespace L2
open PySem PySem.Spec PyProof.Rows
noncomputable def i21 (sc scX:Scope) (N own:List Str) (capt:List (Str × Nat)):Bool :=
 sc.kind == .function&&sc.names.all (fun y=>y.2 != .cell)&&sc.names.all (fun y=>y.2 != .local || sc.names.lookup y.1 == some .local) &&
  sc.names.all (fun y=>y.2 != .free || (scX.names.lookup y.1 == some .cell || scX.names.lookup y.1 == some .free))&&capt.all fun p=>N[p.2]? == some p.1&&sc.names.lookup p.1 == some .free
theorem r40.of {X:Cx}{sc scX:Scope}{N own:List Str}{capt:List (Str × Nat)} (e:X.env.scope=scX) (eN:X.N=N) (h:i21 sc scX N own capt=true):r40 X sc own capt:=by
 unfold i21 at h
 simp only [Bool.and_eq_true] at h
 obtain ⟨⟨⟨⟨h1,h2⟩,h3⟩,h4⟩,h5⟩:=h
 rw [List.all_eq_true] at h2 h3 h4 h5
 refine ⟨by simpa using h1,fun y hy=>by simpa using h2 y hy,fun y hy hl=>?_,fun y hy hf=>?_,fun p hp=>?_⟩
 ·have:=h3 y hy;rw [hl] at this;simpa using this
 ·have:=h4 y hy
  rw [hf] at this
  show X.env.scope.names.lookup y.1=_∨X.env.scope.names.lookup y.1=_
  rw [e]
  simpa using this
 ·have:=h5 p hp
  rw [eN]
  simpa using this
theorem gN {i:Nat}{v:V}{σ:St}{H:Hp}{R:St→Hp→Prop} (h:R (σ.set i (some v)) H):Q90 i v σ H R:=h
theorem w31 {σ:St}{H:Hp}{R:Bool→Hp→Prop} (h:R true H):u91 σ H R:=h
theorem z20 {n:Nat} (h:n≤64):n≤sizeLine:=Nat.le_trans h (by decide)
end L2
namespace L2
open PySem PySem.Spec PyProof.Rows
section
variable {X:Cx}
end
end L2
namespace L2
open PySem PySem.Spec PyProof.Rows
section
variable {X:Cx}
theorem W01 (K:PySem.W.Frag) (d:D):PySem.W.kitAny K (.type d.ty) [.type "tuple",.type "list"]=some (isB d.ty "tuple" || isB d.ty "list"):=by
 have e1:=I41 K d "tuple" (by simp)
 have e2:=I41 K d "list" (by simp)
 unfold PySem.W.kitAny
 rw [e1]
 cases isB d.ty "tuple" with
 | true=>rfl
 | false =>
  show PySem.W.kitAny K (.type d.ty) [.type "list"]=_
  unfold PySem.W.kitAny
  rw [e2]
  cases isB d.ty "list" <;> rfl
theorem i31:e70 X (.builtin "isinstance") (fun xs H Q=>∃ d x a,xs=[x,.ref a]∧Has X.K H d x∧SqT X.K H a [.ty "tuple",.ty "list"]∧Q (.bl (isB d.ty "tuple" || isB d.ty "list")) H):=by
 intro pins s σ H xs us Q I r h
 obtain ⟨d,x,a,rfl,hd,hq,q⟩:=h
 obtain ⟨u,w',rfl,rx,rt⟩:=vals2 r
 cases (show w'=Value.ref a from rt)
 obtain ⟨its,rv,⟨⟨cls,dd,data,sl⟩,ho,hc,n,hdt⟩,_⟩:=I.tuple hq
 simp only at hc hdt;subst hc hdt
 have eits:its=[.type "tuple",.type "list"]:=by
  cases rv with
  | cons p r=>cases r with
   | cons p2 r2=>cases r2;rw [show _=Value.type "tuple" from p,show _=Value.type "list" from p2]
 subst eits
 have e:=W01 X.K d
 have fin:∀ tk,EP X pins σ Q (.bool (isB d.ty "tuple" || isB d.ty "list")) { s with toks:=tk }:=fun tk=>⟨.bl _,H,I.tok tk,rfl,q⟩
 cases d with
 | non=>unfold Has at hd;subst hd;cases rx;exact PySem.W.kia_tup PySem.W.kitx_none I.kIn True.intro ho e (fun z=>nomatch z) fin
 | bl b=>unfold Has at hd;subst hd;cases rx;exact PySem.W.kia_tup PySem.W.kitx_bool I.kIn True.intro ho e (fun z=>nomatch z) fin
 | int i=>unfold Has at hd;subst hd;obtain ⟨t,rfl⟩:=rx;exact PySem.W.kia_tup PySem.W.kitx_int I.kIn True.intro ho e (fun z=>nomatch z) fin
 | str y=>unfold Has at hd;subst hd;obtain ⟨t,rfl⟩:=rx;exact PySem.W.kia_tup PySem.W.kitx_str I.kIn True.intro ho e (fun z=>nomatch z) fin
 | tup ds =>
  unfold Has at hd
  obtain ⟨b,ys,rfl,hq',_⟩:=hd
  cases rx
  obtain ⟨_,_,⟨o,h1,h2,_⟩,_⟩:=I.tuple hq'
  exact PySem.W.kia_tup PySem.W.kitx_tuple I.kIn ⟨o,h1,h2⟩ ho e (fun z=>nomatch z) fin
 | lst ds =>
  unfold Has at hd
  obtain ⟨b,ys,rfl,hq',_⟩:=hd
  cases rx
  obtain ⟨_,_,pl,_⟩:=I.list hq'
  obtain ⟨o,h1,h2,_⟩:=pl.isList
  exact PySem.W.kia_tup PySem.W.kitx_list I.kIn ⟨o,h1,h2⟩ ho e (fun z=>nomatch z) fin
 | dct =>
  unfold Has at hd
  obtain ⟨b,kvs,rfl,hq'⟩:=hd
  cases rx
  obtain ⟨_,_,vs,_,p⟩:=(show h70 X.prog X.w H s.heap b (.dK kvs) from I.hok b _ hq')
  obtain ⟨o,es,ep,h1,h2,_⟩:=p
  exact PySem.W.kia_tup PySem.W.kitx_dict I.kIn ⟨o,h1,h2.1⟩ ho e (fun z=>nomatch z) fin
end
end L2
namespace L2
open PySem PySem.Spec PyProof.Rows PySem.SeqAt
theorem G00 (l b:Addr) (es:Array DictEntry) (n:Nat) (it:Array Value) (n2:Nat) (dd dd2:Option Addr) (sl sl2:Array (Option Value)) :
  Meets (Builtin.«dict.__ne__» ⟨[.ref l,.ref b],[]⟩) (fun _ R s=>s.heap.get? l=some { cls:=.type "dict",dict:=dd,data:=.dict es n,slots:=sl }∧s.heap.get? b=some { cls:=.type "tuple",dict:=dd2,data:=.seq it n2,slots:=sl2 }∧R (.ok (.ret .notImplemented)) s) :=
 .of_wp fun prog w A R s h=>by
  obtain ⟨hp,g,d,tk,os⟩:=s
  obtain ⟨hl,hb,h⟩:=h
  have f1:=F.sub_tuple_dict
  wp_walk using wpAny_loadPart' hl,wpAny_loadPart' hb
  exact ⟨_,rfl,h⟩
theorem G10 (l b:Addr) (es:Array DictEntry) (n:Nat) (it:Array Value) (n2:Nat) (dd dd2:Option Addr) (sl sl2:Array (Option Value)) :
  Meets (Builtin.«tuple.__ne__» ⟨[.ref b,.ref l],[]⟩) (fun _ R s=>s.heap.get? l=some { cls:=.type "dict",dict:=dd,data:=.dict es n,slots:=sl }∧s.heap.get? b=some { cls:=.type "tuple",dict:=dd2,data:=.seq it n2,slots:=sl2 }∧R (.ok (.ret .notImplemented)) s) :=
 .of_wp fun prog w A R s h=>by
  obtain ⟨hp,g,d,tk,os⟩:=s
  obtain ⟨hl,hb,h⟩:=h
  have f1:=F.sub_dict_tuple
  wp_walk using wpAny_loadPart' hl,wpAny_loadPart' hb
  exact ⟨_,rfl,h⟩
section
variable {X:Cx}
theorem I51 (hu:X.A.units + 64 < cLine):OpR X (compareOp .NotEq) (fun x y H Q=>∃ a b kvs xs,x=.ref a∧y=.ref b∧H a=some (.dK kvs)∧SqT X.K H b xs∧Q (.bl true) H):=by
 intro pins s σ H x y v u Q I rx ry h
 obtain ⟨a,b,kvs,xs,rfl,rfl,ha,hb,q⟩:=h
 cases rx;cases ry
 obtain ⟨v2,r2,⟨o2,h2,c2,n2,d2⟩,_⟩:=I.tuple hb
 obtain ⟨_,_,vs,_,p⟩:=(show h70 X.prog X.w H s.heap a (.dK kvs) from I.hok a _ ha)
 obtain ⟨o1,es,n1,h1,c1,d1,_⟩:=p
 have c1:=c1.1
 obtain ⟨cls,dd,data,sl⟩:=o1
 obtain ⟨cls2,dd2,data2,sl2⟩:=o2
 simp only at c1 d1 c2 d2
 subst c1 d1 c2 d2
 have hne:a≠b:=fun e=>by
  subst e
  rw [h1] at h2
  simp at h2
 have hu':X.A.units < cLine:=by omega
 refine rc_ne_decline_or (k:=false) ⟨_,h1,rfl⟩ ⟨_,h2,rfl⟩ (by decide) F.sub_tuple_dict F.slot_dict_ne F.slot_tuple_ne_refl
  (fun _ hq=>call_meets F.slot_dict_ne ⟨_,h1,rfl⟩ F.entry_dict_ne (F.args_dict_ne_2 _ _) (G00 a b es n1 v2.toArray n2 dd dd2 sl sl2) ⟨h1,h2,hq⟩)
  (fun _ hq=>call_meets F.slot_tuple_ne_refl ⟨_,h2,rfl⟩ F.entry_tuple_ne (F.args_tuple_ne_2 _ _) (G10 a b es n1 v2.toArray n2 dd dd2 sl sl2) ⟨h1,h2,hq⟩)
  (fun _ hq=>wpAny_isSame_ref_other hne h1 h2 (by simp) hq) (.inr hu') ⟨.bl true,H,I,rfl,q⟩
end
end L2
namespace L2
open PySem PySem.Spec PyProof.Rows
section
variable {P:Program}{w:World}{A:Around}{E:Value→Shared→Prop}{s:Shared}
noncomputable abbrev eT1 (h:Heap) (l:Addr):Heap:=h.push { cls:=.type "tuple_iterator",data:=.fields #[.ref l,.int 0 0] }
noncomputable abbrev eT2 (h:Heap) (l:Addr):Heap:=(eT1 h l).push { cls:=.type "enumerate",data:=.fields #[.none,.bool false,.ref h.objs.size,rawInt 0,.none,.none] }
theorem R60 (l:Addr) (xs:Array Value) :
  Meets (Builtin.«enumerate.__new__» ⟨[.type "enumerate",.ref l],[]⟩) (fun _ R s=>s.heap.IsTuple l xs∧R (.ok (.ret (.ref (eT1 s.heap l).objs.size))) { s with heap:=eT2 s.heap l }) :=
 .of_wp fun P w A R s h=>by
  obtain ⟨hp,g,d,tk,os⟩:=s;obtain ⟨hl,h⟩:=h
  have hsub:=sub_enumerate
  have hL1:Heap.IsTuple (Shared.heap ⟨hp,g,d,tk,os⟩) l xs:=hl
  wp_walk;refine wpAny_stack_any fun q=>wpAny_pure ?_;split
  ·rename_i c _ _ _ _ _;cases (c == Value.type "enumerate") <;> (wp_walk using wpAny_pyIter_tuple hL1) <;> exact ⟨_,rfl,h⟩
  ·wp_walk using wpAny_pyIter_tuple hL1
   exact ⟨_,rfl,h⟩
theorem b51 {l:Addr}{xs:Array Value}{Q:Value→Shared→Prop} (hl:s.heap.IsTuple l xs)
  (h:∀ h',IsEnum h' (s.heap.objs.size + 1) s.heap.objs.size 0 .none→h'.IsTupleIter s.heap.objs.size l 0→(∀ c o,s.heap.get? c=some o→h'.get? c=some o)→Q (.ref (s.heap.objs.size + 1)) { s with heap:=h' }) :
  wpAny (model P w) A (call (.type "enumerate") [.ref l]) Q E s:=by
 refine callType_new F.called_enumerate (by decide) (F.typeCall_enumerate_1 _) (F.newCall_enumerate_1 _) (fun obj=>F.args_object_init_2 obj _) F.entry_enumerate_new (R60 l xs) ⟨hl,?_⟩
 have n1:(eT1 s.heap l).objs.size=s.heap.objs.size + 1:=Heap.size_push ..
 have g2:(eT2 s.heap l).get? (eT1 s.heap l).objs.size=some _:=Heap.get?_push_size _ rfl
 have g1:(eT2 s.heap l).get? s.heap.objs.size=some _:=Heap.get?_push_of_some _ (Heap.get?_push_size _ rfl)
 show _∧_;rw [n1] at g2;rw [n1]
 exact ⟨⟨_,g2,rfl⟩,h _ g2 ⟨_,g1,rfl,rfl⟩ fun c o q=>Heap.get?_push_of_some _ (Heap.get?_push_of_some _ q)⟩
theorem M00 (hh:A.handled=none) {it l:Addr}{xs:Array Value} (n:l≠it):Draws P w A it [it,l] xs.size (fun i x=>xs[i]?=some x) (fun i h=>h.IsTupleIter it l i∧h.IsTuple l xs) where
 live:=fun i h q=>by obtain ⟨⟨o,e,_⟩,_⟩:=q;exact ⟨o,e⟩
 frame:=fun i h h' q k=>by
  obtain ⟨⟨o,e,r⟩,⟨o',e',r'⟩⟩:=q
  exact ⟨⟨o,k it (by simp) _ e,r⟩,⟨o',k l (by simp) _ e',r'⟩⟩
 item:=fun i s Q E hi q k=>o50 q.1 q.2 (x:=xs[i]) (by simp [hi]) fun h' h1 h2=>k _ h' s.toks (by simp [hi]) ⟨h1,q.2.extBut h2.extBut n⟩ h2
 done:=fun s Q E q k=>l90 hh q.1 q.2 (by simp) fun h' e h1 h2=>k h' e h1 h2
end
noncomputable def Ite (K:PySem.W.Frag) (a:Addr):It :=
 ⟨fun i H=>∃ xs x,SqT K H a xs∧xs[i]?=some x,
  fun i H v H'=>∃ T,v=.ref T∧H T=none∧∀ xs x,SqT K H a xs→xs[i]?=some x→H'=upd H T (.tup [.int i,x]),
  fun i H=>∃ xs,SqT K H a xs∧xs.length=i⟩
theorem i41 {P:Program}{w:World}{K:PySem.W.Frag}{es:List Expr}{ek:Nat}{ep:Pos}{a e it:Addr} (h1:e≠it) (h2:a≠e) (h3:a≠it) :
  Turn P w K (.Tuple es ek ep) (Ite K a) [e,it] e (fun i h=>(∃ old,IsEnum h e it i old)∧h.IsTupleIter it a i) where
 mem:=by simp
 obj:=fun i h st c hc=>by
  obtain ⟨⟨old,he⟩,⟨o1,g1,c1,d1⟩⟩:=st
  simp only [List.mem_cons,List.not_mem_nil,or_false] at hc
  rcases hc with rfl | rfl
  ·exact ⟨_,he,fun v e=>by cases e⟩
  ·exact ⟨_,g1,fun v e=>by rw [d1] at e;cases e⟩
 keep:=fun i h h' st k=>by
  obtain ⟨⟨old,he⟩,⟨o1,g1,r1⟩⟩:=st
  exact ⟨⟨old,k e (by simp) _ he⟩,⟨o1,k it (by simp) _ g1,r1⟩⟩
 item:=by
  intro X hP hw hK hc i pins s σ H E I hf st hg
  subst hP hw hK
  obtain ⟨xs,x,hq,hx⟩:=hg
  obtain ⟨v1,rv,p1,z1⟩:=I.tuple hq
  obtain ⟨u,hu,ru⟩:=rv.get hx
  obtain ⟨⟨old,he⟩,hi⟩:=st
  have hl:i < v1.toArray.size:=by simpa using (List.getElem?_eq_some_iff.mp hu).1
  refine wpAny_pyNext_enum_itemD (M00 (A:=X.A.in1) (by exact I.ok.hd hc) h3) he ⟨hi,p1⟩ hl h1 (by simp [h1,h2.symm]) fun y g1 tk hy ge gs gT sz kp=>⟨_,rfl,?_⟩
  have hy':v1[i]?=some y:=by simpa using hy
  rw [hu] at hy';cases hy'
  refine wpAny_letOwnedTupleGo_enum (s:={ s with heap:=g1,toks:=tk + 1 }) ge fun g2 ge2 sb=>?_
  have hT:H s.heap.objs.size=none:=I.hok.fresh (Nat.le_refl _)
  have kall:∀ c o,c ∉ [e,it]→s.heap.get? c=some o→g2.get? c=some o:=fun c o hc q=>by
   simp only [List.mem_cons,List.not_mem_nil,or_false,not_or] at hc
   exact sb.extBut _ _ hc.1 (kp c o hc.1 hc.2 q)
  have I2:Inv X pins σ H { s with heap:=g2,toks:=tk + 1 }:=I.F20 (t':=tk + 1) hf kall
  have fT:a51 X pins H s.heap.objs.size:=I.e11 (Nat.le_refl _) hT
  have gT2:g2.get? s.heap.objs.size=some { cls:=.type "tuple",data:=.seq #[.int i tk,u] }:=sb.extBut _ _ (fun q=>Nat.lt_irrefl _ (by have:=Heap.lt_size he;rw [← q] at this;exact this)) gT
  have I3:Inv X pins σ (upd H s.heap.objs.size (.tup [.int i,x])) { s with heap:=g2,toks:=tk + 1 }:=I2.u81 fT I.sz (I2.hok.C51 hT (its:=[.int i tk,u]) (.cons ⟨_,rfl⟩ (.cons ru .nil)) (by show 2≤sizeLine;rw [sizeLine_eq];decide) ⟨_,gT2,rfl,_,rfl⟩)
  refine ⟨.ref s.heap.objs.size,_,I3,rfl,⟨_,rfl,hT,fun xs' x' e1 e2=>?_⟩,⟨⟨_,ge2⟩,gs.1.extBut sb.extBut h1.symm⟩,fun c hc=>?_⟩
  ·rw [I.r20 e1 hq] at e2
   rw [hx] at e2
   cases e2;rfl
  ·rw [a30]
   ·exact (hf c hc).1
   ·intro q
    simp only [List.mem_cons,List.not_mem_nil,or_false] at hc
    rcases hc with hc | hc
    ·exact Nat.lt_irrefl _ (by have:=Heap.lt_size he;rw [← hc,q] at this;exact this)
    ·obtain ⟨o,ho,_⟩:=hi;exact Nat.lt_irrefl _ (by have:=Heap.lt_size ho;rw [← hc,q] at this;exact this)
 done:=by
  intro X hP hw hK hc i pins s σ H E I hf st hg
  subst hP hw hK
  obtain ⟨xs,hq,rfl⟩:=hg
  obtain ⟨v1,rv,p1,z1⟩:=I.tuple hq
  obtain ⟨⟨old,he⟩,hi⟩:=st
  refine wpAny_pyNext_enum_endD (M00 (A:=X.A.in1) (xs:=v1.toArray) (by exact I.ok.hd hc) h3) he ⟨by rw [show v1.toArray.size=xs.length by simpa using rv.length.symm];exact hi,p1⟩ fun g kp=>⟨rfl,I.F20 (t':=s.toks) hf fun c o hcn q=>?_⟩
  simp only [List.mem_cons,List.not_mem_nil,or_false,not_or] at hcn
  exact kp c o hcn.2 q
 self:=fun _ _ _ _ _ st h=>by obtain ⟨⟨_,he⟩,_⟩:=st;exact wpAny_pyIter_enum he h
noncomputable def l12 (K:PySem.W.Frag) (ta:TA):TI:=fun σ H R=>ta σ H fun vs H1=>∃ a,vs=[.ref a]∧(∃ xs,SqT K H1 a xs)∧R (Ite K a) H1
theorem i51:bootBuiltins "enumerate"=some (.type "enumerate"):=by decide +kernel
theorem I61 {X:Cx}{a:Expr}{es:List Expr}{ek:Nat}{ep:Pos}{ta:TA}{p pos:Pos} (hg:Gl X "enumerate") (hm:X.mg "enumerate"=none) (ha:PA X [a] ta) (hs:starEach [a] X.env=[(false,eval a X.env)]:=by rfl) :
  PI X (.Tuple es ek ep) (.Call (.Name "enumerate" p) [a] [] pos) (l12 X.K ta):=by
 intro pins s σ H R I h
 refine Call_ (r10 I hg hm i51 (PyProof.Rows.callWith_type1 (thn (ha pos pins s σ H _ I h) fun us s1 ⟨vs,H1,I1,r1,q1⟩=>?_) (by rw [hs];rfl) (by rfl)))
 obtain ⟨l1,e,⟨xs,hq1⟩,q⟩:=q1
 subst e
 obtain ⟨u,rfl,r⟩:=vals1 r1
 cases r
 obtain ⟨v1,rv1,p1,z1⟩:=I1.tuple hq1
 have a1:l1 < s1.heap.objs.size:=by obtain ⟨_,e,_⟩:=p1;exact Heap.lt_size e
 refine b51 p1 fun h' he h1 kp=>wpAny_pyIter_enum (s:={ s1 with heap:=h' }) he ?_
 refine ⟨_,[s1.heap.objs.size + 1,s1.heap.objs.size],_,_,H1,rfl,I1.kept (t':=s1.toks) kp,i41 (Nat.succ_ne_self _) (Nat.ne_of_lt (Nat.lt_succ_of_lt a1)) (Nat.ne_of_lt a1),⟨⟨_,he⟩,h1⟩,fun c hc=>?_,q⟩
 have hc':s1.heap.objs.size≤c:=by
  simp only [List.mem_cons,List.not_mem_nil,or_false] at hc
  rcases hc with rfl | rfl
  ·exact Nat.le_add_right _ 1
  ·exact Nat.le_refl _
 exact I1.e11 hc' (I1.hok.fresh hc')
end L2
namespace HT
open PySem PySem.W PyProof.Rows
set_option maxRecDepth 100000
section
variable {P:Program}{w:World}{A:Around}{E:Value→Shared→Prop}{s:Shared}
theorem G20 {r:Addr}{a b c:Int}{t u v:Tok}{n:Nat}{Q:List Value→Shared→Prop} (hh:A.handled=none) (hr:IsRange s.heap r a b c t u v) (hs:Builtin.Range.small a b c=true) (hn:Builtin.Range.rangeSize a b c=n) (hl:n≤2 ^ 24)
  (hQ:∀ (h':Heap) (tk:Nat) (acc:Array Value),(∀ b o,s.heap.get? b=some o→h'.get? b=some o)→s.heap.objs.size≤h'.objs.size→ItemsOf (fun i v=>∃ t,v=.int (a + i * c) t) acc n→Q acc.toList { s with heap:=h',toks:=tk }):wpAny (model P w) A (collect (.ref r)) Q E s:=by
 unfold collect
 refine wpAny_bind (wpAny_runValue (codeAny_builtin PySem.F.entry_proto_collect ?_));rw [Around.under_plainId PySem.F.plain_proto_collect _]
 show wpAny _ A.in1 (newList [] >>= fun l=>again (.builtin "list.__iadd__" ⟨[l,.ref r],[]⟩)) _ _ s
 refine wpAny_bind (wpAny_newObj_type (wpAny_pure ⟨plainId_quiet PySem.F.plain_list_iadd _,codeAny_builtin PySem.F.entry_list_iadd ?_⟩));rw [Around.under_plainId PySem.F.plain_list_iadd _]
 show wpAny _ A.in1 (Builtin.List.listExtendWith (.ref s.heap.objs.size) (.ref r) (.ref s.heap.objs.size)) _ _ { s with heap:=s.heap.push (seqObj "list" #[] 0) }
 have hS:(s.heap.push (seqObj "list" #[] 0)).get? s.heap.objs.size=some { cls:=.type "list",data:=.seq #[] 0 }:=Heap.get?_push_size _ rfl
 refine wpAny_mono (wpAny_extend_range (A:=A) (s:={ s with heap:=s.heap.push (seqObj "list" #[] 0) }) (R:=fun x s'=>x=.ok (.ret (.ref s.heap.objs.size))∧∃ h' tk acc c',s'={ s with heap:=h',toks:=tk }∧(∀ b o,s.heap.get? b=some o→h'.get? b=some o)∧h'.get? s.heap.objs.size=some { cls:=.type "list",dict:=none,data:=.seq acc c',slots:=#[] }∧ItemsOf (fun i v=>∃ t,v=.int (a + i * c) t) acc n) hh (Heap.get?_push_of_some _ hr) hs hn hl _ (.ref s.heap.objs.size) 0 hS fun h' tk acc c' hk hS' hi=>⟨rfl,h',tk,acc,c',rfl,fun b o e=>hk b o (Nat.ne_of_lt (Heap.lt_size e)) (Heap.get?_push_of_some _ e),hS',hi⟩) (fun fin s' h=>?_) fun e s' h=>?_
 ·have go:∀ s',(∃ h' tk acc c',s'={ s with heap:=h',toks:=tk }∧(∀ b o,s.heap.get? b=some o→h'.get? b=some o)∧h'.get? s.heap.objs.size=some { cls:=.type "list",dict:=none,data:=.seq acc c',slots:=#[] }∧ItemsOf (fun i v=>∃ t,v=.int (a + i * c) t) acc n)→wpAny (model P w) A (match Value.ref s.heap.objs.size with
   | Value.ref a=>do
    match (← load a).data with
     | Data.seq xs _=>pure xs.toList
     | _=>unsupported "internal:collect"
   | _=>unsupported "internal:collect") Q E s':=fun s' ⟨h',tk,acc,c',e,hk,hS',hi⟩=>by
   subst e
   show wpAny _ A (load s.heap.objs.size >>= _) _ _ _
   exact wpAny_bind (wpAny_load hS' (wpAny_pure (hQ h' tk acc hk (Nat.le_of_lt (Heap.lt_size hS')) hi)))
  cases fin with
  | done f =>
   obtain ⟨e,h⟩:=h
   cases e
   exact go _ h
  | again c'=>exact ⟨h.1,codeAny_mono h.2 fun x s'' hx=>by obtain ⟨rfl,hx⟩:=hx;exact go _ hx⟩
 ·exact absurd h.1 (by simp)
open AutoSeq1 (wpAny_loadPart')
theorem z30 {r:Addr}{a b c:Int}{t u v:Tok}{n:Nat}{Q:Value→Shared→Prop} (hh:A.handled=none) (hr:IsRange s.heap r a b c t u v) (hs:Builtin.Range.small a b c=true) (hn:Builtin.Range.rangeSize a b c=n) (hl:n≤200000)
  (hQ:∀ (h':Heap) (tk:Nat) (acc:Array Value),(∀ b o,s.heap.get? b=some o→h'.get? b=some o)→s.heap.objs.size≤h'.objs.size→ItemsOf (fun i v=>∃ t,v=.int (a + i * c) t) acc n→Q (.ref h'.objs.size) { s with heap:=h'.push { cls:=.type "tuple",data:=.seq acc },toks:=tk }) :
  codeAny (model P w) A (.call (.builtin "tuple.__new__") ⟨[.type "tuple",.ref r],[]⟩) (wants Q E) s:=by
 refine codeAny_of_tree ?_;show wpAny _ A.in1 (do checkBuiltinCall "tuple.__new__" ⟨[.type "tuple",.ref r],[]⟩;again (.builtin "tuple.__new__" ⟨[.type "tuple",.ref r],[]⟩)) _ _ s
 refine wpAny_bind (wpAny_of_eq (PySem.F.newCall_tuple_1 _) (wpAny_pure ⟨plainId_quiet PySem.F.plain_tuple_new _,codeAny_builtin PySem.F.entry_tuple_new ?_⟩));rw [Around.under_plainId PySem.F.plain_tuple_new _]
 have k1:=sub_tuple_self;have k2:=init_tuple_lookup;have k3:=madeHere_tuple
 have k4:s.TypeIs (.ref r) "range":=⟨_,hr,rfl⟩
 wp_walk using wpAny_typeOf k4,G20 (n:=n) (show A.in1.handled=none from hh) hr hs hn (by omega)
 intro h' tk acc hk hz hi
 show wpAny _ _ (Builtin.Tuple.tupleExact acc.toList.toArray >>= fun v=>ret v) _ _ _
 unfold Builtin.Tuple.tupleExact;rw [Array.toArray_toList]
 refine wpAny_bind (wpAny_newObj_type (wpAny_pure (hQ h' tk acc hk hz hi)) (by show acc.size≤_;rw [hi.1,sizeLine_eq];omega))
theorem tuple_range {r:Addr}{a b c:Int}{t u v:Tok}{n:Nat}{Q:Value→Shared→Prop} (hh:A.handled=none) (hr:IsRange s.heap r a b c t u v) (hs:Builtin.Range.small a b c=true) (hn:Builtin.Range.rangeSize a b c=n) (hl:n≤200000)
  (hQ:∀ (h':Heap) (tk:Nat) (acc:Array Value),(∀ b o,s.heap.get? b=some o→h'.get? b=some o)→s.heap.objs.size≤h'.objs.size→ItemsOf (fun i v=>∃ t,v=.int (a + i * c) t) acc n→Q (.ref h'.objs.size) { s with heap:=h'.push { cls:=.type "tuple",data:=.seq acc },toks:=tk }):wpAny (model P w) A (call (.type "tuple") [.ref r]) Q E s:=by
 refine callType_codes (Q₁:=fun obj s₁=>s₁.TypeIs obj "tuple"∧Q obj s₁) PySem.F.called_tuple (PySem.F.typeCall_tuple_1 _) PySem.F.entry_object_init (z30 hh hr hs hn hl fun h' tk acc hk hz hi=>⟨⟨_,Heap.get?_push_size _ rfl,rfl⟩,hQ h' tk acc hk hz hi⟩) fun obj s₁ h₁=>?_
 exact ⟨h₁.1,PySem.F.args_object_init_2 obj _,object_init_meets PySem.F.called_tuple.init.lookup PySem.F.called_tuple.made (by decide) P w A.in1 _ s₁ ⟨h₁.1,rfl,h₁.2⟩⟩
end
end HT
namespace L2
open PySem PySem.Spec PyProof.Rows
theorem h70.there {P:Program}{w:World}{H:Hp}{h:Heap}{a:Addr}{o:HO} (x:h70 P w H h a o):∃ u,h.get? a=some u:=by
 cases o with
 | lst xs=>obtain ⟨_,_,_,_,e⟩:=x;exact ⟨_,e⟩
 | tup xs=>obtain ⟨_,_,_,o,e,_⟩:=x;exact ⟨_,e⟩
 | dK kvs=>obtain ⟨_,_,_,_,o,_,_,e,_⟩:=x;exact ⟨_,e⟩
 | dT kvs=>obtain ⟨_,_,_,_,o,_,_,e,_⟩:=x;exact ⟨_,e⟩
 | set S n=>obtain ⟨o,_,_,_,e,_⟩:=x;exact ⟨_,e⟩
 | ins C dx fs=>obtain ⟨_,_,_,e,_⟩:=x;exact ⟨_,e⟩
 | own y=>obtain ⟨_,e⟩:=x;exact ⟨_,e⟩
 | xd fs=>obtain ⟨_,⟨_,_,_,e,_⟩,_⟩:=x;exact ⟨_,e⟩
 | rng lo hi=>obtain ⟨_,_,_,e⟩:=x;exact ⟨_,e⟩
 | frz ob u=>obtain ⟨e,_⟩:=x;exact ⟨_,e⟩
 | tbl ps=>exact ⟨_,(show h.get? a=some _ from x)⟩
 | met f y=>exact ⟨_,(show h.get? a=some _ from x)⟩
 | ext φ=>obtain ⟨_,⟨_,e⟩,_⟩:=x;exact ⟨_,e⟩
noncomputable def InB (B:Heap) (fs:List Addr) (H':Hp) (h h':Heap):Prop:=∀ b u,h'.get? b=some u→b ∉ fs→((∃ o,h.get? b=some o)∨H' b≠none)→B.get? b=some u
noncomputable def CX1 (P:Program) (w:World):CXT:=fun outer H s E e s'=>∃ (a:Addr) (cls a0:Value) (H':Hp) (B:Heap),e=.ref a∧s'.os=s.os∧AllBare s'.gens∧Un (frs outer) [] H H' s.heap s'.heap∧HOk P w H' s'.heap ∧
 Heap.FlyingW B outer a cls a0 s'.heap∧H' a=none∧InB B (frs outer) H' s.heap s'.heap∧E cls (some a) H'
section
variable {X:Cx}{pins:List (Addr × Obj)}{σ:St}{H H':Hp}{s s':Shared}{B h'':Heap}{a:Addr}{cls a0:Value}{E:XK}
theorem R70 (hS:X.stack=X.env::X.outer) (hx:X.ex=[]) (hf:X.env.frame=some X.env.locals) (I:Inv X pins σ H s) (os:s'.os=s.os) (bare:AllBare s'.gens) (un:Un (frs X.stack) [] H H' s.heap s'.heap) (hok:HOk X.prog X.w H' s'.heap)
  (bB:InB B (frs X.stack) H' s.heap s'.heap) (na:H' a=none) (fl:Heap.FlyingW B X.outer a cls a0 h'') (sm:s'.heap.UpToSlots h'') (he:E cls (some a) H'):CX1 X.prog X.w X.outer X.H₀ X.s₀ E (.ref a) { s' with heap:=h'' }:=by
 have hfs:frs X.stack=X.env.locals::frs X.outer:=by rw [hS];unfold frs;rw [List.filterMap_cons,hf]
 have U1:=I.base
 rw [hx] at U1
 have U:Un (frs X.stack) [] X.H₀ H' X.s₀.heap s'.heap:=(U1.mono (fun b hb=>by rw [hfs];exact List.mem_cons_of_mem _ hb) fun b hb=>hb).trans un
 have nL:∀ b o,X.s₀.heap.get? b=some o→b ∉ frs X.outer→b ∉ frs X.stack:=fun b o e hn hm=>by
  rw [hfs] at hm
  rcases List.mem_cons.mp hm with z | z
  ·exact absurd (Heap.lt_size e) (by rw [z];exact Nat.not_lt.mpr I.ok.above)
  ·exact hn z
 have frN:∀ b∈frs X.stack,H' b=none:=fun b hb=>by
  obtain ⟨_,o,ho,_⟩:=I.stack.mem hb
  exact un.free b o ho (I.t50 b hb) (by simp)
 have old:∀ b o,X.s₀.heap.get? b=some o→b ∉ frs X.outer→∃ u,s'.heap.get? b=some u∧B.get? b=some u:=fun b o e hn=>by
  obtain ⟨o1,e1⟩:=U1.there b o e (by simp)
  obtain ⟨o2,e2⟩:=un.there b o1 e1 (by simp)
  exact ⟨o2,e2,bB b o2 e2 (nL b o e hn) (.inl ⟨o1,e1⟩)⟩
 have trk:∀ b,H' b≠none→∃ u,s'.heap.get? b=some u∧B.get? b=some u:=fun b hb=>by
  obtain ⟨o,e⟩:=Option.ne_none_iff_exists'.mp hb
  obtain ⟨u,eu⟩:=(hok b o e).there
  exact ⟨u,eu,bB b u eu (fun hm=>by rw [frN b hm] at e;cases e) (.inr hb)⟩
 refine ⟨a,cls,a0,H',B,rfl,os.trans I.os,bare,⟨fun b o e n hb _=>?_,fun b o e n hb _=>?_,fun b o e n hb=>U.free b o e n hb,fun b o e _=>?_,U.tups,U.frzs,U.tbls⟩,fun c o e=>?_,fl,na,fun b u e hn hor=>?_,he⟩
 ·obtain ⟨u,e1,e2⟩:=old b o e hb
  have e3:=U.keep b o e n (nL b o e hb) (by simp)
  rw [e1] at e3;cases e3
  exact fl.1 b _ e2
 ·obtain ⟨sl,e1⟩:=U.slot b o e n (by rw [hfs];exact List.mem_cons_of_mem _ hb) (by simp)
  obtain ⟨_,o',ho',hd⟩:=I.ok.a41.mem hb
  rw [e] at ho';cases ho'
  obtain ⟨sl',e2⟩:=sm b _ e1 hd
  exact ⟨sl',e2⟩
 ·by_cases hb:b∈frs X.outer
  ·obtain ⟨_,o',ho',_⟩:=fl.2.2.1.mem hb
   exact ⟨o',ho'⟩
  ·obtain ⟨u,_,e2⟩:=old b o e hb
   exact ⟨u,fl.1 b _ e2⟩
 ·refine (hok c o e).a31 (fun b u hb q=>?_) (fun _ q=>q) fun _ _ q=>q
  have hbn:H' b≠none:=by
   rcases hb with rfl | hb
   ·rw [e];exact fun z=>nomatch z
   ·rw [hb];exact fun z=>nomatch z
  obtain ⟨u',e1,e2⟩:=trk b hbn
  rw [q] at e1;cases e1
  exact fl.1 b _ e2
 ·have:∃ u',B.get? b=some u':=by
   rcases hor with ⟨o,ho⟩ | hor
   ·obtain ⟨u',_,e2⟩:=old b o ho hn
    exact ⟨u',e2⟩
   ·obtain ⟨u',_,e2⟩:=trk b hor
    exact ⟨u',e2⟩
  obtain ⟨u',e2⟩:=this
  have e3:=fl.1 b _ e2
  rw [e] at e3;cases e3
  exact e2
end
section
variable {P:Program}{w:World}{K:PySem.W.Frag}{mg:Str→Option Value}{base:Heap}{N:List Str}{qual:Str}{scope:Scope}{f:Addr}{cd:Value}{A:Around}{outer:List Env}{s₀:Shared}{H₀:Hp}{E:XK}
theorem i61 {pins:List (Addr × Obj)}{σ:St}{H:Hp}{s:Shared}{h':Heap}{e:Addr}{cls:Value}{vs:List Value} (I:Inv (B50 (CX1 P w) P w K mg base N qual scope f cd A outer s₀ H₀ E) pins σ H s) (hx:Heap.MadeExcOf s.heap h' e cls vs) (he:E cls (some e) H) :
  (B50 (CX1 P w) P w K mg base N qual scope f cd A outer s₀ H₀ E).xe (.ref e) { s with heap:=h' }:=by
 have hin:∀ env∈(B50 (CX1 P w) P w K mg base N qual scope f cd A outer s₀ H₀ E).stack,∀ a,env.frame=some a→a∈frs (B50 (CX1 P w) P w K mg base N qual scope f cd A outer s₀ H₀ E).stack:=fun env he a ha=>List.mem_filterMap.mpr ⟨env,he,ha⟩
 have kB:(PySem.W.hideAll s.heap (frs (B50 (CX1 P w) P w K mg base N qual scope f cd A outer s₀ H₀ E).stack)).StaysIn s.heap:=fun b o q=>PySem.W.of_hideAll _ q
 show wpAny _ _ (leaving _ _) _ _ _
 refine wpAny_leaves_madeW (base:=PySem.W.hideAll s.heap (frs (B50 (CX1 P w) P w K mg base N qual scope f cd A outer s₀ H₀ E).stack)) (h:=s.heap) I.ok.frames rfl kB (PySem.W.funFrames_hide I.stack hin) hx fun h'' t fl _ _ sm=>?_
 have na:H e=none:=by
  cases z:H e with
  | none=>rfl
  | some o=>obtain ⟨u,eu⟩:=(I.hok e o z).there;rw [hx.new] at eu;cases eu
 refine R70 (X:=B50 (CX1 P w) P w K mg base N qual scope f cd A outer s₀ H₀ E) (s':={ s with heap:=h' }) rfl rfl rfl I rfl I.bare (Un.kept hx.keeps) (I.hok.kept hx.keeps) (fun b u q hn hor=>?_) na fl sm he
 have:∃ o,s.heap.get? b=some o:=by
  rcases hor with hor | hor
  ·exact hor
  ·obtain ⟨o,z⟩:=Option.ne_none_iff_exists'.mp hor
   exact (I.hok b o z).there
 obtain ⟨o,ho⟩:=this
 have:=hx.keeps b o ho
 have q':h'.get? b=some u:=q
 rw [this] at q';cases q'
 exact PySem.W.hideAll_get _ ho hn
theorem l22:Passes (CX1 P w) (B50 (CX1 P w) P w K mg base N qual scope f cd A outer s₀ H₀ E) E:=by
 intro pins σ H s e s' I h
 obtain ⟨a,cls,a0,H',B,rfl,os,bare,un,hok,fl,na,bB,he⟩:=h
 show wpAny _ _ (leaving _ _) _ _ _
 refine wpAny_leaves_onW I.ok.frames rfl fl fun h'' fl' sm=>?_
 exact R70 (X:=B50 (CX1 P w) P w K mg base N qual scope f cd A outer s₀ H₀ E) (s':=s') rfl rfl rfl I os bare un hok bB na fl' sm he
end
end L2
namespace L2
open PySem PySem.Spec PyProof.Rows
theorem I71 {K:PySem.W.Frag}{h:Heap}{C:Addr}{bmB:List Value}{newId:String} (KX:K.In h) (hq:PySem.W.excIn K C bmB newId=true) :
  ∃ bm N nm q bs hdct sn sub ab col dd k0 k1 k2 k3 k5 mN,h.get? C=some (excClassObj nm q C N bs bm hdct sn sub ab col dd k0 k1 k2 k3 k5 newId)∧h.Ns N mN∧mN "__init__"=none∧OwnTail h bmB bm:=by
 unfold PySem.W.excIn at hq
 split at hq
 case h_2=>cases hq
 case h_1 dd cd sl ho =>
  split at hq
  case h_2=>cases hq
  case h_1 C' bm k0 k1 k2 k3 n k5 hm hs =>
   simp only [Bool.and_eq_true,beq_iff_eq,Bool.not_eq_true'] at hq
   obtain ⟨⟨⟨⟨⟨z1,z2⟩,hdel⟩,ht⟩,hok⟩,hni⟩:=hq
   subst z1 z2
   cases cd with
   | mk nm bs mro ns qn hd sn sub ab col del =>
    dsimp only at hm hdel hok hni
    subst hm hdel
    have esl:sl=#[k0,k1,k2,k3,some (.builtin n),k5]:=by cases sl with | mk l=>simp only at hs;rw [hs]
    subst esl
    refine ⟨bm,ns,nm,qn,bs,hd,sn,sub,ab,col,dd,k0,k1,k2,k3,k5,h.nsMap ns,KX _ _ ho,?_,PySem.W.nsMap_none_of_in KX hok hni,PySem.W.tail_of_in KX ht⟩
    exact .of_isNs (PySem.W.isNs_of_in KX hok)
noncomputable def G30 (X:Cx) (E:XK):Prop:=∀ (pins:List (Addr × Obj)) (σ:St) (H:Hp) (s:Shared) (h':Heap) (e:Addr) (cls:Value) (vs:List Value),Inv X pins σ H s→Heap.MadeExcOf s.heap h' e cls vs→E cls (some e) H→X.xe (.ref e) { s with heap:=h' }
theorem i71 {P:Program}{w:World}{K:PySem.W.Frag}{mg:Str→Option Value}{base:Heap}{N:List Str}{qual:Str}{scope:Scope}{f:Addr}{cd:Value}{A:Around}{outer:List Env}{s₀:Shared}{H₀:Hp}{E:XK} :
  G30 (B50 (CX1 P w) P w K mg base N qual scope f cd A outer s₀ H₀ E) E:=fun _ _ _ _ _ _ _ _ I hx he=>i61 I hx he
noncomputable def W11 (E:XK) (C:Addr) (t:TA):TS:=fun _ σ H=>t σ H fun vs H1=>vs.length≤sizeLine∧∀ e,H1 e=none→E (.ref C) (some e) H1
section
variable {X:Cx}{x:Str}{C:Addr}{E:XK}{e₀:Expr}{rest:List Expr}{t:TA}{np cpos pos:Pos}
theorem w41 (hE:G30 X E) (hc:X.calm=true) (hg:Gl X x) (hm:X.mg x=some (.ref C)) (hq:PySem.W.excIn X.K C [.type "ValueError",.type "Exception",.type "BaseException",.type "object"] "ValueError.__new__"=true) (ha:PA X (e₀::rest) t)
  (hdb:(x == ("__debug__":Str))=false:=by decide) (he:starEach (e₀::rest) X.env=(false,eval e₀ X.env)::starEach rest X.env:=by rfl) (hpl:(backTo cpos (starEach rest X.env)).any (·.1)=false:=by rfl) :
  PS X (.Raise (some (.Call (.Name x np) (e₀::rest) [] cpos)) none pos) (W11 E C t):=by
 intro pins s σ H D I h
 obtain ⟨bm,N,nm,q,bs,hdct,sn,sub,ab,col,dd,k0,k1,k2,k3,k5,mN,hC,hN,hni,T⟩:=I71 I.ok.mod.kin hq
 refine wpAny_Raise_call_subT (C:=C) (nm:=nm) (q:=q) (N:=N) (bs:=bs) (bm:=bm) (hdct:=hdct) (sn:=sn) (sub:=sub) (ab:=ab) (col:=col) (dd:=dd) (k0:=k0) (k1:=k1) (k2:=k2) (k3:=k3) (k5:=k5)
  PySem.F.excBase_ValueError (mN:=mN) (T.hasType PySem.F.excBase_ValueError.hasBase) (I.ok.hd hc) (by rw [he];exact hpl) hni (E40 I hg hm ⟨rfl,?_⟩ hdb)
 have k:=ha cpos pins s σ H _ I h
 rw [he] at k ⊢
 refine Calls.evalArgs_plain (thn k fun us s2 ⟨vs,H2,I2,r,z,q⟩=>⟨rfl,by show us.length≤_;rw [← r.length];exact z,I2.bk _ _ hC,hN.keeps I2.bk,T.keeps I2.bk,fun h' e hx=>?_⟩)
 refine hE pins σ H2 s2 h' e _ us I2 hx (q e ?_)
 cases z:H2 e with
 | none=>rfl
 | some o=>obtain ⟨u,eu⟩:=(I2.hok e o z).there;rw [hx.new] at eu;cases eu
end
section
variable {P:Program}{w:World}{K:PySem.W.Frag}{mg:Str→Option Value}{base:Heap}
end
end L2
namespace L2
open PySem PySem.Spec PyProof.Rows PySem.W PySem.Builtin PySem.Builtin.ObjectAttr PySem.Builtin.Getset_descriptor
section
variable {prog:Program}{w:World}{A:Around}{E:Value→Shared→Prop}{K:PySem.W.Frag}{h:Heap}{gg:Array GenState}{d:Drawn}{t:Nat}{os:OsState}{x D:Addr}{ox:Obj}
structure j30 (K:PySem.W.Frag) (D:Addr):Prop where
 ga:findIn K (.ref D) "__getattribute__"=some (some (.builtin "BaseException.__getattribute__"))
 gh:findIn K (.ref D) "__getattr__"=some none
 mb:mroIn K D (.type "BaseException")=some true
 mo:mroIn K D (.type "object")=some true
 fc:findIn K (.ref D) "__class__"=some (some (.builtin "object.__class__"))
 fg:specialIn K (.builtin "object.__class__") "__get__"=some (some (.builtin "getset_descriptor.__get__"))
 ft:takesIn K (.builtin "object.__class__")=some true
noncomputable def excAt (a D:Addr) (h:Heap):Prop:=∃ ox,h.get? a=some ox∧ox.cls=.ref D
theorem excAt.ty {M:Model}{a D:Addr}{h:Heap} (p:excAt a D h):Looks M h (typeOf (.ref a)) (.ref D):=by
 obtain ⟨ox,e,c⟩:=p
 rw [← c]
 exact (Looks.ld e).andThen .now
theorem w51 {M:Model} (KX:K.In h) (L:j30 K D):Looks M h (find (.ref x) (.ref D) "__class__") (.bind (.builtin "getset_descriptor.__get__") (.builtin "object.__class__")):=by
 have l1:=looks_takesIn (M:=M) KX L.ft
 have l2:Looks M h (dataDescriptor? (some (.builtin "object.__class__")) (some (.builtin "getset_descriptor.__get__"))) (some (.builtin "getset_descriptor.__get__",.builtin "object.__class__")):=l1.andThen .now
 exact (looks_findIn KX L.fc).andThen ((looks_specialIn KX L.fg).andThen (l2.andThen (Looks.tag .now)))
theorem I81 {R:Result→Shared→Prop}{tp:Value} (KX:K.In h) (I:excAt x D h) (hm:mroIn K D (.type "object")=some true) (hq:R (.ok (.ret (.ref D))) ⟨h,gg,d,t,os⟩) :
  codeAny (model prog w) A (.call (.builtin "getset_descriptor.__get__") ⟨[.builtin "object.__class__",.ref x,tp],[]⟩) R ⟨h,gg,d,t,os⟩:=by
 have L0:=I.ty (M:=model prog w)
 have L1:=looks_mroIn (M:=model prog w) KX hm
 (refine codeAny_call_builtin KF.slot_gs.plain KF.entry_gs (KF.slot_gs.check _ _ _ _ _ _ _ _ KF.type_class (KF.args_gs _ _ _) ?_);unfold Builtin.«getset_descriptor.__get__» descrGet;rw [dga_obj];refine wpAny_bind (wpAny_pure ?_);unfold descrGetter descrCheckInstance descrNameAndClass isInstance;simp only [KF.owner_class];repeat lk)
 (refine ⟨Code.quiet_builtin _ (by decide +kernel),codeAny_builtin KF.entry_class ?_⟩;unfold Builtin.«object.__class__» shownTypeOf;repeat lk)
 exact hq
theorem i81 {M:Model}{nameV:Value}{Q:Unit→Shared→Prop} (KX:K.In h) (I:excAt x D h) (L:j30 K D) (hq:Q () ⟨h,gg,d,t,os⟩) :
  wpAny M A (checkBuiltinCall "BaseException.__getattribute__" ⟨[.ref x,nameV],[]⟩) Q E ⟨h,gg,d,t,os⟩:=by
 have hkd:builtinKind "BaseException.__getattribute__"=some .slot:=by decide +kernel
 have hsp:splitId "BaseException.__getattribute__"=some ("BaseException","__getattribute__"):=by decide +kernel
 have L0:=I.ty (M:=M)
 have L1:=looks_mroIn (M:=M) KX L.mb
 have ha:=F.args_bexc_ga (.ref x) nameV
 simp only [checkBuiltinCall,hkd,hsp]
 unfold isInstance
 refine wpAny_bind (wpAny_bind (L0.at (L1.at ?_)))
 repeat (first | assumption | wp_step)
theorem i91 {tk:Tok}{Q:Fin→Shared→Prop} (KX:K.In h) (I:excAt x D h) (L:j30 K D) (hq:Q (.done (.ret (.ref D))) ⟨h,gg,d,t,os⟩) :
  wpAny (model prog w) A (Builtin.«object.__getattribute__» ⟨[.ref x,.str "__class__" tk],[]⟩) Q E ⟨h,gg,d,t,os⟩:=by
 have L0:=I.ty (M:=model prog w)
 have L1:=w51 (M:=model prog w) (x:=x) KX L
 (unfold Builtin.«object.__getattribute__»);refine wpAny_bind (wpAny_pure (wpAny_bind (wpAny_pure (wpAny_bind (L0.at (wpAny_bind (L1.at ?_)))))))
 show wpAny _ _ (holding [Value.builtin "object.__class__"] (call (.builtin "getset_descriptor.__get__") [.builtin "object.__class__",.ref x,.ref D]) >>= _) _ _ _
 refine wpAny_bind (wpAny_holding (wpAny_call (I81 KX I L.mo ?_)))
 exact wpAny_pure hq
theorem w61 {tk:Tok}{R:Result→Shared→Prop} (KX:K.In h) (I:excAt x D h) (L:j30 K D) (hq:R (.ok (.ret (.ref D))) ⟨h,gg,d,t,os⟩) :
  codeAny (model prog w) A (.call (.builtin "BaseException.__getattribute__") ⟨[.ref x,.str "__class__" tk],[]⟩) R ⟨h,gg,d,t,os⟩ :=
 codeAny_call_builtin F.attr_ValueError.ga.plain F.entry_bexc_ga (i81 KX I L (i91 KX I L hq))
theorem W21 {tk:Tok}{fill expr:Bool}{Q:Value→Shared→Prop} (KX:K.In h) (I:excAt x D h) (L:j30 K D) (hq:Q (.ref D) ⟨h,gg,d,t,os⟩) :
  wpAny (model prog w) A (getAttrBy (.ref x) (.str "__class__" tk) fill expr) Q E ⟨h,gg,d,t,os⟩:=by
 have L0:=I.ty (M:=model prog w)
 have L1:=looks_findIn (M:=model prog w) KX L.ga
 have L2:=looks_findIn (M:=model prog w) KX L.gh
 have f3:=F.attr_ValueError.ga.bind (.ref x)
 have hno:(expr&&onTheHeap (Value.builtin "BaseException.__getattribute__"))=false:=by cases expr <;> rfl
 unfold getAttrBy
 (refine wpAny_holding (wpAny_bind (L0.at (wpAny_bind (L1.at ?_)))));
 show wpAny _ _ (getAttrByItsOwn _ _ _ _ _ _) _ _ _
 unfold getAttrByItsOwn hookBefore
 rw [if_pos (show onTheHeap (Value.ref D)=true from rfl)]
 refine wpAny_bind (L2.at ?_)
 unfold callGetattribute
 rw [hno,if_neg (by decide)]
 unfold boundAndCalled
 (refine wpAny_bind (wpAny_attempt (wpAny_holding ?_)))
 repeat (any_goals (first | assumption | (with_reducible refine wpAny_call (w61 KX I L ?_)) | wp_step))
theorem w71 {s:Shared}{Q:Option Value→Shared→Prop} (KX:K.In s.heap) (I:excAt x D s.heap) (L:j30 K D) (hq:Q (some (.ref D)) { s with toks:=s.toks + 1 }):wpAny (model prog w) A (getAttr? (.ref x) "__class__") Q E s:=by
 obtain ⟨h,gg,d,t,os⟩:=s
 unfold getAttr? getAttrBy?
 refine wpAny_bind (wpAny_mkText (wpAny_bind (wpAny_attempt (W21 KX I L ?_))))
 exact wpAny_pure hq
theorem w81 (L:j30 K D) (hd:hasDictIn K D=true):KitX K (.ref x) (.ref D) (excAt x D) where
 ty:=fun _ _ _ I=>I.ty
 it:=fun M h KX _=>by
  obtain ⟨cdD,hcD,_⟩:=any_some hd
  unfold clsIn at hcD
  split at hcD
  case h_2=>cases hcD
  case h_1 ho =>
   intro A' Q' E' s' k q
   unfold isType loadHead
   exact wpAny_bind (wpAny_loadPart (k _ _ (KX _ _ ho)) (wpAny_pure q))
 ne:=fun h tp dd its n sl KX htp=>by
  obtain ⟨cdD,hcD,_⟩:=any_some hd
  refine Bool.eq_false_iff.mpr fun same=>?_
  cases Value.ref.inj (beq_iff_eq.mp same)
  unfold clsIn at hcD
  split at hcD
  case h_2=>cases hcD
  case h_1 ho=>cases (KX _ _ ho).symm.trans htp
 ca:=fun KX I k=>w71 KX I L k
end
noncomputable def W31 (H:Hp) (a D:Addr):Prop:=H a=some (.ext (excAt a D))
theorem b61 {a D:Addr}{h1 h2:Heap} (h:excAt a D h1) (k:∀ o,h1.get? a=some o→h2.get? a=some o):excAt a D h2:=by
 obtain ⟨ox,e,c⟩:=h
 exact ⟨ox,k _ e,c⟩
section
variable {X:Cx}
theorem b71:e70 X (.builtin "isinstance") (fun xs H Q=>∃ (a D:Addr) (c:V) (cv:Value) (b:Bool),xs=[.ref a,c]∧((∃ C,c=.ref C∧cv=.ref C)∨∃ T,c=.ty T∧cv=.type T)∧W31 H a D∧j30 X.K D∧hasDictIn X.K D=true∧kitOne X.K (.ref D) cv=some b∧Q (.bl b) H):=by
 intro pins s σ H xs us Q I r h
 obtain ⟨a,D,c,cv,b,rfl,hc,hx,L,hd,e,q⟩:=h
 obtain ⟨u,w',rfl,rx,rt⟩:=vals2 r
 cases (show u=Value.ref a from rx)
 obtain ⟨hp,_,_⟩:=(show h70 X.prog X.w H s.heap a (.ext (excAt a D)) from I.hok a _ hx)
 have fin:∀ tk,EP X pins σ Q (.bool b) { s with toks:=tk }:=fun tk=>⟨.bl b,H,I.tok tk,rfl,q⟩
 have ew:w'=cv:=by
  rcases hc with ⟨C,rfl,rfl⟩ | ⟨T,rfl,rfl⟩
  ·exact rt
  ·exact rt
 subst ew
 exact kia_one (w81 L hd) I.kIn hp e (fun z=>by rcases hc with ⟨C,_,rfl⟩ | ⟨T,_,rfl⟩ <;> exact nomatch z) fin
end
end L2
namespace L2
open PySem PySem.Spec PyProof.Rows
section
variable {X:Cx}{pins:List (Addr × Obj)}{σ:St}{H H':Hp}{s s':Shared}{B h4:Heap}
theorem C71 (I:Inv X pins σ H s) (os:s'.os=s.os) (bare:AllBare s'.gens) (un:Un (frs X.stack) [] H H' s.heap s'.heap) (hok:HOk X.prog X.w H' s'.heap) (bB:InB B (frs X.stack) H' s.heap s'.heap) (kB:B.StaysIn h4) (sm:s'.heap.UpToSlots h4) :
  Inv X pins σ H' { s' with heap:=h4 }:=by
 have frN:∀ b∈frs X.stack,H' b=none:=fun b hb=>by
  obtain ⟨_,o,ho,_⟩:=I.stack.mem hb
  exact un.free b o ho (I.t50 b hb) (by simp)
 have fr4:∀ b o,s.heap.get? b=some o→b∈frs X.stack→∃ sl,h4.get? b=some { o with slots:=sl }:=fun b o e hb=>by
  obtain ⟨sl,e1⟩:=un.slot b o e (I.t50 b hb) hb (by simp)
  obtain ⟨_,o',ho',hd⟩:=I.stack.mem hb
  rw [e] at ho';cases ho'
  obtain ⟨sl',e2⟩:=sm b _ e1 hd
  exact ⟨sl',e2⟩
 have old:∀ b o,s.heap.get? b=some o→b ∉ frs X.stack→∃ u,s'.heap.get? b=some u∧h4.get? b=some u:=fun b o e hn=>by
  obtain ⟨o2,e2⟩:=un.there b o e (by simp)
  exact ⟨o2,e2,kB b _ (bB b o2 e2 hn (.inl ⟨o,e⟩))⟩
 refine I.S31 (s':={ s' with heap:=h4 }) (ch:=[]) os ⟨fun b o e n hb _=>?_,fun b o e n hb _=>fr4 b o e hb,un.free,fun b o e _=>?_,un.tups,un.frzs,un.tbls⟩ (fun c o e=>?_) bare fun b hb=>absurd hb (by simp)
 ·obtain ⟨u,e1,e2⟩:=old b o e hb
  have e3:=un.keep b o e n hb (by simp)
  rw [e1] at e3;cases e3
  exact e2
 ·by_cases hb:b∈frs X.stack
  ·obtain ⟨sl,e1⟩:=fr4 b o e hb
   exact ⟨_,e1⟩
  ·obtain ⟨u,_,e2⟩:=old b o e hb
   exact ⟨u,e2⟩
 ·refine (hok c o e).a31 (fun b u hb q=>?_) (fun _ q=>q) fun _ _ q=>q
  have hbn:H' b≠none:=by
   rcases hb with rfl | hb
   ·rw [e];exact fun z=>nomatch z
   ·rw [hb];exact fun z=>nomatch z
  exact kB b _ (bB b u q (fun hm=>hbn (frN b hm)) (.inr hbn))
theorem Inv.j01 {h':Heap}{m m':Str→Option Value}{t':Nat} (I:Inv X pins σ H s) (hl:∀ (i:Nat) (x:Str) (v:V),X.N[i]?=some x→σ[i]?=some (some v)→Vis X.env.scope x→∃ u,RelV v u∧Look X.env s.heap m x u)
  (hn':h'.Ns X.env.locals m') (hs:Heap.SameBut X.env.locals s.heap h') (hm:∀ (i:Nat) (x:Str),X.N[i]?=some x→m' x=m x):Inv X pins σ H { s with heap:=h',toks:=t' }:=by
 have oth:∀ b o,b≠X.env.locals→s.heap.get? b=some o→h'.get? b=some o:=fun b o hb e=>(hs.2 b hb).trans e
 have neL:∀ b o,X.s₀.heap.get? b=some o→b≠X.env.locals:=fun b o e=>Nat.ne_of_lt (Nat.lt_of_lt_of_le (Heap.lt_size e) I.ok.above)
 have cel:∀ x c v,X.env.cells.lookup x=some c→s.heap.IsCell c v→h'.IsCell c v:=fun x c v e ⟨o,ho,hd⟩=>⟨o,oth c o (I.cne x c e) ho,hd⟩
 refine ⟨I.ok,I.os,I.bare,⟨fun b o e n hb hx=>oth b o (neL b o e) (I.base.keep b o e n hb hx),fun b o e n hb hx=>?_,I.base.free,fun b o e hx=>?_,I.base.tups,I.base.frzs,I.base.tbls⟩,⟨m',hn',fun i x v e1 e2 e3=>?_⟩,fun x c e=>?_,I.free,I.freeC,fun p hp=>?_,fun c o e=>?_,I.len⟩
 ·obtain ⟨sl,e1⟩:=I.base.slot b o e n hb hx
  exact ⟨sl,oth b _ (neL b o e) e1⟩
 ·obtain ⟨o',e1⟩:=I.base.there b o e hx
  exact ⟨o',oth b _ (neL b o e) e1⟩
 ·obtain ⟨u,r,l⟩:=hl i x v e1 e2 e3
  refine ⟨u,r,?_⟩
  rcases l with ⟨k,z⟩ | ⟨k,c,ec,z⟩
  ·exact .inl ⟨k,(hm i x e1).trans z⟩
  ·exact .inr ⟨k,c,ec,cel x c _ ec z⟩
 ·obtain ⟨v,z⟩:=I.cell x c e
  exact ⟨v,cel x c v e z⟩
 ·obtain ⟨e,n,ne,nf,d⟩:=I.pin p hp
  exact ⟨oth _ _ ne e,n,ne,nf,d⟩
 ·refine (I.hok c o e).a31 (fun b u hb q=>oth b u (fun z=>?_) q) (fun _ q=>q) fun _ _ q=>q
  rcases hb with rfl | hb
  ·rw [z,I.free] at e;cases e
  ·rw [z,I.free] at hb;cases hb
theorem Inv.W41 {T:Addr}{o:HO} (I:Inv X pins σ H s) (nT:H T=none) (n0:X.s₀.heap.get? T=none) (hL:T≠X.env.locals) (hc:∀ x c,X.env.cells.lookup x=some c→c≠T) (hp:∀ p∈X.pn++pins,p.1≠T) (new:h70 X.prog X.w (upd H T o) s.heap T o) :
  Inv X pins σ (upd H T o) s:=by
 have u:=I.base
 refine ⟨I.ok,I.os,I.bare,⟨u.keep,u.slot,fun b ob e n hx=>?_,u.there,fun b xs e=>?_,fun b ob xs e=>?_,fun b ps e=>?_⟩,I.loc,I.cell,?_,fun x c e=>?_,fun p hpp=>?_,fun c v e=>?_,I.len⟩
 ·rw [a30 (fun z=>by rw [z,n0] at e;cases e)];exact u.free b ob e n hx
 ·have z:=u.tups b xs e;rw [a30 (a50 z nT)];exact z
 ·have z:=u.frzs b ob xs e;rw [a30 (a50 z nT)];exact z
 ·obtain ⟨more,z⟩:=u.tbls b ps e
  exact ⟨more,by rw [a30 (a50 z nT)];exact z⟩
 ·rw [a30 hL.symm];exact I.free
 ·rw [a30 (hc x c e)];exact I.freeC x c e
 ·obtain ⟨e,n,r⟩:=I.pin p hpp
  exact ⟨e,by rw [a30 (hp p hpp)];exact n,r⟩
 ·by_cases hcT:c=T
  ·subst hcT;rw [a90] at e;cases e;exact new
  ·rw [a30 hcT] at e
   exact (I.hok c v e).a31 (fun _ _ _ q=>q) (fun b q=>by rw [a30 (a50 q nT)];exact q) fun b xs q=>by rw [a30 (a50 q nT)];exact q
end
end L2
namespace L2
open PySem PySem.Spec PyProof.Rows
structure Thunk (P:Program) (w:World) (K:PySem.W.Frag) (mg:Str→Option Value) (base:Heap) (k:Nat) (f:Addr) (H₀:Hp) (s₀:Shared) (cls:Value):Prop where
 fn:∃ o fd,s₀.heap.get? f=some o∧o.data=.func fd∧H₀ f=none
 run:∀ (A:Around) (outer:List Env) (s:Shared) (H:Hp),w00 k A→C31 P w K mg base A outer s H→Un (frs outer) [] H₀ H s₀.heap s.heap→a00 H₀ H →
  codeAny (model P w) A (.call (.ref f) ⟨[],[]⟩) (CR (CX1 P w) outer P w H s (fun _ _=>False) fun c _ H'=>c=cls∧a00 H H') s
section
variable {X:Cx}{k i j:Nat}{f C D:Addr}{x y z n:Str}{p1 p2 p3 p4 p5 p6 p7 p8 p9:Pos}
end
end L2
namespace L2
open PySem PySem.Spec PyProof.Rows
structure b81 (P:Program) (w:World) (K:PySem.W.Frag) (mg:Str→Option Value) (base:Heap) (CX:CXT) (k:Nat) (f:Addr) (fd:FuncData) (ps:List Str) (sp:Shared→Sp):Prop where
 len:∀ s vs H Q E,sp s vs H Q E→vs.length=ps.length
 run:∀ (A:Around) (outer:List Env) (s:Shared) (H:Hp) (args:Args) (us:List Value) (vs:List V) (Q:VK) (E:XK),w00 k A→C31 P w K mg base A outer s H→BindsTo s fd args (ps.zip us)→Vals vs us→sp s vs H Q E →
  codeAny (model P w) A (.call (.ref f) args) (CR CX outer P w H s Q E) s
theorem W51 {CX:CXT}{P:Program}{w:World}{K:PySem.W.Frag}{mg:Str→Option Value}{base:Heap}{k:Nat}{f:Addr}{name qual:Str}{params:Arguments}{body:List Stmt}{scope:Scope}{dV kV doc pm cdv ct oc:Value}{an od:Option Addr}
  {osl:Array (Option Value)}{N ps:List Str}{sp:Shared→Sp} (lk:K.lookup f=some ⟨oc,od,.func (PySem.W.fnOf name qual params body scope dV kV doc pm an cdv ct),osl⟩) (hcd:PySem.W.codeIn K cdv qual=true) (S:k70 N ps scope)
  (len:∀ s vs H Q E,sp s vs H Q E→vs.length=ps.length)
  (hbody:∀ (A:Around) (outer:List Env) (s:Shared) (H:Hp) (vs:List V) (Q:VK) (E:XK),w00 k (A.deeper (envOfC qual scope s.heap.objs.size f cdv))→sp s vs H Q E →
   ∃ t,PSs (B50 CX P w K mg base N qual scope f cdv A outer s H E) body t∧t { nx:=fun _ H'=>Q .non H',rt:=Q } (start N vs) H) :
  b81 P w K mg base CX (k + 1) f (PySem.W.fnOf name qual params body scope dV kV doc pm an cdv ct) ps sp:=by
 refine ⟨len,fun A outer s H args us vs Q E hr e0 hb r hsp=>?_⟩
 have hl:=len _ _ _ _ _ hsp
 have KX:K.In s.heap:=e0.mod.kin.keeps fun b o e=>(e0.bs b o e).1
 have lim:s.heap.NoLimit:=e0.mod.nolimit.keeps fun b o e=>(e0.bs b o e).1
 have hkind:∀ y∈ps.zip us,scope.names.lookup y.1=some .local∨(scope.names.lookup y.1=some .cell∧((cellsFrom (s.heap.objs.size + 1) scope.names []).lookup y.1).isSome=true):=fun ⟨n,v⟩ hy=>by
  rcases S.par n (List.of_mem_zip hy).1 with q | q
  ·exact .inl q
  ·exact .inr ⟨q,PySem.W.cellsFrom_some _ _ _ (.inl q)⟩
 refine codeAny_call_function hr.depth (KX _ _ lk) rfl S.co S.gen rfl (PySem.W.codeRec_of KX hcd) (hb _ _ _ _ ?_)
 refine wpAny_newFunctionEnv_cells S.kind hkind fun env he s1 x=>?_
 subst he
 refine ⟨lim.keeps x.toInCall.keep,codeAny_func ?_⟩
 obtain ⟨t,ht,hq⟩:=hbody A outer s H vs Q E (hr.deeper _) hsp
 have I:Inv (B50 CX P w K mg base N qual scope f cdv A outer s H E) [] (start N vs) H s1:=K80 S hr.hd e0 hl r x
 refine wpAny_mono (ht [] s1 (start N vs) H _ I hq) (fun fl s' hs=>?_) fun e s' hs=>hs
 have fin:∀ {σ':St}{H':Hp}{v:V}{u:Value},Inv (B50 CX P w K mg base N qual scope f cdv A outer s H E) [] σ' H' s'→RelV v u→Q v H'→CE outer P w H s Q u s' :=
  fun {σ' H' v u} J rv q=>⟨v,H',J.os,J.bare,J.base,J.hok,rv,q⟩
 cases fl with
 | ret u =>
  obtain ⟨v,σ',H',J,rv,q⟩:=hs
  exact fin J rv q
 | next =>
  obtain ⟨σ',H',J,q⟩:=hs
  exact fin (v:=V.non) (u:=Value.none) J rfl q
 | brk =>
  obtain ⟨_,_,_,q⟩:=hs
  exact False.elim q
 | cont =>
  obtain ⟨_,_,_,q⟩:=hs
  exact False.elim q
theorem Fun.okS {P:Program}{w:World}{K:PySem.W.Frag}{mg:Str→Option Value}{base:Heap}{x qual:Str}{st:Stmt}{f:Addr}{fd:FuncData}{N ps:List Str}{k:Nat}{sp:Shared→Sp} (F:Fun K x qual st f fd) (S:k70 N ps (b50 st)) (len:∀ s vs H Q E,sp s vs H Q E→vs.length=ps.length)
  (hb:∀ (cdv:Value) (A:Around) (outer:List Env) (s:Shared) (H:Hp) (vs:List V) (Q:VK) (E:XK),w00 k (A.deeper (envOfC qual (b50 st) s.heap.objs.size f cdv))→sp s vs H Q E →
   ∃ t,PSs (B50 CX0 P w K mg base N qual (b50 st) f cdv A outer s H E).nox (j10 st) t∧t { nx:=fun _ H'=>Q .non H',rt:=Q } (start N vs) H):b81 P w K mg base CX0 (k + 1) f fd ps sp:=by
 obtain ⟨oc,od,kV,doc,pm,an,cdv,ct,osl,rfl,lk,hcd⟩:=F.ex
 refine W51 lk hcd S len fun A outer s H vs Q E hr hsp=>?_
 obtain ⟨t,h,q⟩:=hb cdv A outer s H vs Q E hr hsp
 exact ⟨t,h.nox,q⟩
end L2
namespace L2
open PySem PySem.Spec PyProof.Rows
noncomputable def M10 (P:Program) (w:World) (K:PySem.W.Frag) (mg:Str→Option Value) (base:Heap) (N:List Str) (qual:Str) (scope:Scope) (f:Addr) (cd:Value) (cl:List (Str × Addr)) (A:Around) (outer:List Env) (s:Shared) (H:Hp) (E:XK):Cx where
 prog:=P
 w:=w
 K:=K
 mg:=mg
 base:=base
 A:=A.deeper (PySem.W.envX qual scope s.heap.objs.size f cd cl)
 N:=N
 s₀:=s
 H₀:=H
 env:=PySem.W.envX qual scope s.heap.objs.size f cd cl
 outer:=outer
 stack:=PySem.W.envX qual scope s.heap.objs.size f cd cl::outer
 ex:=[]
 calm:=true
 fn:=fun _=>false
 pn:=[]
 xe:=fun e s'=>wpAny (model P w) (A.deeper (PySem.W.envX qual scope s.heap.objs.size f cd cl)) (leaving (PySem.W.envX qual scope s.heap.objs.size f cd cl) e) (fun _ s''=>CX1 P w outer H s E e s'') (fun e' s''=>CX1 P w outer H s E e' s'') s'
section
variable {P:Program}{w:World}{K:PySem.W.Frag}{mg:Str→Option Value}{base:Heap}{N:List Str}{qual:Str}{scope:Scope}{f:Addr}{cd:Value}{cl:List (Str × Addr)}{A:Around}{outer:List Env}{s₀:Shared}{H₀:Hp}{E:XK}
theorem I91:Passes (CX1 P w) (M10 P w K mg base N qual scope f cd cl A outer s₀ H₀ E) E:=by
 intro pins σ H s e s' I h
 obtain ⟨a,cls,a0,H',B,rfl,os,bare,un,hok,fl,na,bB,he⟩:=h
 show wpAny _ _ (leaving _ _) _ _ _
 refine wpAny_leaves_onW I.ok.frames rfl fl fun h'' fl' sm=>?_
 exact R70 (X:=M10 P w K mg base N qual scope f cd cl A outer s₀ H₀ E) (s':=s') rfl rfl rfl I os bare un hok bB na fl' sm he
structure b91 (scope:Scope) (cl:List (Str × Addr)) (N:List Str) (vs:List V) (H:Hp) (h:Heap):Prop where
 inj:∀ x y c,cl.lookup x=some c→cl.lookup y=some c→x=y
 has:∀ x,(scope.names.lookup x=some .cell∨scope.names.lookup x=some .free)→∃ c,cl.lookup x=some c
 cell:∀ x c,cl.lookup x=some c→∃ v,h.IsCell c v
 free:∀ x c,cl.lookup x=some c→H c=none
 val:∀ (i:Nat) (x:Str) (v:V),N[i]?=some x→vs[i]?=some v→scope.names.lookup x=some .free∧∃ c u,cl.lookup x=some c∧RelV v u∧h.IsCell c (some u)
 len:vs.length=N.length
theorem J01 {vs:List V}{h₁:Heap}{t:Nat} (e0:C31 P w K mg base A outer s₀ H₀) (hd:A.handled=none) (hk:scope.kind=.function) (FR:b91 scope cl N vs H₀ s₀.heap) (hns:h₁.Ns s₀.heap.objs.size fun _=>none)
  (hkp:∀ b o,s₀.heap.get? b=some o→h₁.get? b=some o) :
  Inv (M10 P w K mg base N qual scope f cd cl A outer s₀ H₀ E) [] (vs.map some) H₀ { s₀ with heap:=h₁,toks:=t }:=by
 have noA:∀ b:Addr,b ∉ (M10 P w K mg base N qual scope f cd cl A outer s₀ H₀ E).ex:=fun b z=>absurd (show b∈([]:List Addr) from z) (by simp)
 have cel:∀ c v,s₀.heap.IsCell c v→h₁.IsCell c v:=fun c v ⟨o,ho,hd⟩=>⟨o,hkp c o ho,hd⟩
 refine ⟨⟨e0.mod,hk,rfl,rfl,Nat.le_refl _,FR.inj,FR.has,(fun _ _ z=>nomatch z),(fun _=>hd),Around.frames_deeper e0.frames,.inr ⟨rfl,rfl⟩,fun b z=>absurd z (noA b),e0.bs,e0.bsz,fun b _ _=>noA b,fun b z=>absurd z (noA b),e0.a41,e0.frf⟩,
  rfl,e0.bare,Un.kept hkp,⟨_,hns,fun i x v h1 h2 h3=>?_⟩,fun x c h=>?_,e0.hok.fresh (Nat.le_refl _),FR.free,fun p hp=>absurd (show p∈([]:List (Addr × Obj)) from hp) (by simp),e0.hok.kept hkp,?_⟩
 ·have hv:vs[i]?=some v:=by
   rw [List.getElem?_map] at h2
   cases e:vs[i]? with
   | none=>rw [e] at h2;cases h2
   | some a=>rw [e] at h2;cases h2;rfl
  obtain ⟨k,c,u,ec,r,z⟩:=FR.val i x v h1 hv
  exact ⟨u,r,.inr ⟨.inr k,c,ec,cel c _ z⟩⟩
 ·obtain ⟨v,z⟩:=FR.cell x c h
  exact ⟨v,cel c v z⟩
 ·rw [List.length_map];exact FR.len
end
end L2
namespace L2
open PySem PySem.Spec PyProof.Rows
noncomputable def recAt (c:Addr) (qual:Str):Heap→Prop:=fun h=>h.CodeRec (.ref c) qual
theorem C90 {c:Addr}{qual:Str}{h1 h2:Heap} (h:recAt c qual h1) (k:∀ o,h1.get? c=some o→h2.get? c=some o):recAt c qual h2:=by
 obtain ⟨c',oc,vs,tq,e,ho,hd,hq⟩:=h
 cases e
 exact ⟨c,oc,vs,tq,rfl,k _ ho,hd,hq⟩
section
variable {P:Program}{w:World}{K:PySem.W.Frag}{mg:Str→Option Value}{base:Heap}{N:List Str}{qual:Str}{scope:Scope}{f c':Addr}{cl:List (Str × Addr)}{s₀:Shared}{H₀:Hp}{k:Nat}{pm ctv cls:Value}{params:Arguments}{body:Expr}{vs:List V}
theorem b91.later {outer:List Env}{H:Hp}{s:Shared} (FR:b91 scope cl N vs H₀ s₀.heap) (un:Un (frs outer) [] H₀ H s₀.heap s.heap):b91 scope cl N vs H s.heap:=by
 have cel:∀ x c v,cl.lookup x=some c→s₀.heap.IsCell c v→s.heap.IsCell c v:=fun x c v e ⟨o,ho,hd⟩=>by
  obtain ⟨sl,e1⟩:=un.any ho (FR.free x c e) (by simp)
  exact ⟨_,e1,hd⟩
 refine ⟨FR.inj,FR.has,fun x c e=>?_,fun x c e=>?_,fun i x v h1 h2=>?_,FR.len⟩
 ·obtain ⟨v,z⟩:=FR.cell x c e
  exact ⟨v,cel x c v e z⟩
 ·obtain ⟨v,o,ho,_⟩:=FR.cell x c e
  exact un.free c o ho (FR.free x c e) (by simp)
 ·obtain ⟨k,c,u,ec,r,z⟩:=FR.val i x v h1 h2
  exact ⟨k,c,u,ec,r,cel x c _ ec z⟩
end
end L2
namespace L2
open PySem PySem.Spec PyProof.Rows
noncomputable def Tab (H:Hp) (P:Addr) (qual:Str):Prop:=∃ ps:Array Value,H P=some (.tbl ps)∧TriplesOk ps.toList∧∀ pos c,codeAmong pos ps.toList=some c→∃ c',c=.ref c'∧H c'=some (.ext (recAt c' qual))
theorem c01 {line col:Int}{pos':Pos}{c c2:Value} (tl:List Value) (h:TriplesOk tl) (e:codeAmong pos' (tl++[rawInt line,rawInt col,c])=some c2):c2=c∨codeAmong pos' tl=some c2:=by
 fun_induction TriplesOk tl with
 | case1 =>
  simp only [List.nil_append,codeAmong,rawInt] at e
  split at e
  ·cases e;exact .inl rfl
  ·cases e
 | case2 a t b u x rest ih =>
  simp only [List.cons_append,codeAmong] at e ⊢
  split at e
  ·rename_i hc;rw [if_pos hc];exact .inr e
  ·rename_i hc;rw [if_neg hc];exact ih h e
 | case3 tl h1 h2=>exact h.elim
theorem w91 {env:Env}{lsc:Scope} (hf:∀ y∈lsc.names,y.2=.free→∃ c,env.cells.lookup y.1=some c):∃ cl,closureFor lsc env=pure cl∧(∀ x c,cl.lookup x=some c→env.cells.lookup x=some c)∧∀ y∈lsc.names,y.2=.free→∃ c,cl.lookup y.1=some c:=by
 obtain ⟨cl,e,h1,_,h3⟩:=F00 env lsc.names [] hf (fun x c z=>by simp at z)
 refine ⟨cl,?_,h1,h3⟩
 unfold closureFor
 first
  |(rw [show (forIn lsc.names ([]:List (Str × Addr)) _:Sem _)=_ from e];rfl)
  |(simp only [bind_pure];exact e)
structure G40 (P:Addr) (H H':Hp):Prop where
 same:∀ b o,b≠P→H b=some o→H' b=some o
section
variable {X:Cx}{pins:List (Addr × Obj)}{σ:St}{H:Hp}{s:Shared}{c P:Addr}{qual:Str}{params:Arguments}{body:Expr}{lsc:Scope}{lpos:Pos}{A:Around}{Q:Value→Shared→Prop}{E:Value→Shared→Prop}
theorem x01 (I:Inv X pins σ H s) (hdef:defaultsOf params X.env=([],[])) (hcode:X.env.code=.ref c) (hhd:PySem.W.codeHdIn X.K c P=true) (TB:Tab H P qual) (hqu:X.env.qual++"<lambda>"=qual)
  (hbm:∃ bm ob,X.mg "__builtins__"=some (.ref bm)∧bm≠builtinsNs∧X.base.get? bm=some ob∧ob.cls=.type "module"∧ob.dict=some builtinsNs∧ob.data=.plain)
  (hfr:∀ y∈lsc.names,y.2=.free→∃ c,X.env.cells.lookup y.1=some c)
  (k:∀ (cl:List (Str × Addr)) (f c':Addr) (pm ctv:Value) (h2:Heap) (tk:Tok) (H2:Hp),(∀ x c,cl.lookup x=some c→X.env.cells.lookup x=some c)→(∀ y∈lsc.names,y.2=.free→∃ c,cl.lookup y.1=some c) →
   Inv X pins σ H2 { s with heap:=h2,toks:=tk }→Tab H2 P qual→G40 P H H2→(∃ o,h2.get? f=some o∧o.data=.func (PySem.W.kla_fn "<lambda>" qual params body lsc cl pm (.ref c') ctv))→H2 f=none→H2 c'=some (.ext (recAt c' qual)) →
   Q (.ref f) { s with heap:=h2,toks:=tk }):wpAny (model X.prog X.w) A (eval (.Lambda params body lsc lpos) X.env) Q E s:=by
 refine PySem.W.kla_eval hdef ?_
 rw [hqu]
 obtain ⟨cl,ecl,cl1,cl2⟩:=w91 hfr
 obtain ⟨ps,hP,ht,hall⟩:=TB
 have hPt:s.heap.get? P=some (PySem.W.tabObj ps):=I.hok P _ hP
 have hg:=I.mod.glob.keeps I.bk
 have bsN:∀ b o,X.base.get? b=some o→b≠P:=fun b o e z=>by have:=(I.bs b o e).2;rw [z,hP] at this;cases this
 have hgP:mainGlobals≠P:=by obtain ⟨o,_,_,e,_⟩:=I.mod.glob;exact bsN _ o e
 obtain ⟨bm,ob,b1,b2,b3,b4,b5,b6⟩:=hbm
 have hbGl:bm≠mainGlobals:=fun q=>by
  obtain ⟨o,es,ep,e,hd,_⟩:=I.mod.glob
  rw [q,e] at b3;(cases b3;rw [hd] at b6;cases b6)
 have BA:s.heap.BuiltinsAt X.mg P:=⟨bm,ob,b1,b2,hbGl,bsN _ _ b3,I.bk _ _ b3,b4,b5,b6⟩
 have CH:=PySem.W.codeHd_of_K I.kIn hhd
 cases hca:codeAmong lpos ps.toList with
 | some cv =>
  obtain ⟨c',rfl,hc'⟩:=hall lpos cv hca
  refine PySem.W.kla_makeFunctionHit ecl I.ok.glob hg hcode CH hPt ht hca BA fun ctv h' tk hk hsz=>?_
  have kp:∀ b o,s.heap.get? b=some o→(h'.push { cls:=.type "function",data:=.func (PySem.W.kla_fn "<lambda>" qual params body lsc cl ((X.mg "__name__").getD .none) (.ref c') ctv) }).get? b=some o:=fun b o e=>Heap.get?_push_of_some _ (hk b o e)
  have nf:H h'.objs.size=none:=I.hok.fresh hsz
  exact k cl h'.objs.size c' _ ctv _ tk H cl1 cl2 (I.kept (t':=tk) kp) ⟨ps,hP,ht,hall⟩ ⟨fun _ _ _ e=>e⟩ ⟨_,Heap.get?_push_size _ rfl,rfl⟩ nf hc'
 | none =>
  refine PySem.W.kla_makeFunction ecl I.ok.glob hg hcode CH hPt ht hca hgP BA fun c' ctv h' tk hx hge hlt hrec htb=>?_
  have lP:P < s.heap.objs.size:=Heap.lt_size hPt
  have cP:c'≠P:=Nat.ne_of_gt (Nat.lt_of_lt_of_le lP hge)
  have nC:H c'=none:=I.hok.fresh hge
  have kp:∀ b o,b≠P→s.heap.get? b=some o→(h'.push (PySem.W.kla_obj "<lambda>" qual params body lsc cl ((X.mg "__name__").getD .none) c' ctv)).get? b=some o:=fun b o hb e=>Heap.get?_push_of_some _ (hx b o hb e)
  have tb:(h'.push (PySem.W.kla_obj "<lambda>" qual params body lsc cl ((X.mg "__name__").getD .none) c' ctv)).get? P=some (PySem.W.tabObj (ps++#[rawInt lpos.line,rawInt lpos.col,.ref c'])):=Heap.get?_push_of_some _ htb
  have rc:recAt c' qual (h'.push (PySem.W.kla_obj "<lambda>" qual params body lsc cl ((X.mg "__name__").getD .none) c' ctv)):=C90 hrec fun o q=>Heap.get?_push_of_some _ q
  have h2P:upd (upd H P (.tbl (ps++#[rawInt lpos.line,rawInt lpos.col,.ref c']))) c' (.ext (recAt c' qual)) P=some (.tbl (ps++#[rawInt lpos.line,rawInt lpos.col,.ref c'])):=by rw [a30 cP.symm];exact a90
  have oth:∀ b,b≠P→b≠c'→upd (upd H P (.tbl (ps++#[rawInt lpos.line,rawInt lpos.col,.ref c']))) c' (.ext (recAt c' qual)) b=H b:=fun b h1 h2=>by rw [a30 h2,a30 h1]
  have neC:∀ b o,H b=some o→b≠c':=fun b o e=>a50 e nC
  have I2:Inv X pins σ (upd (upd H P (.tbl (ps++#[rawInt lpos.line,rawInt lpos.col,.ref c']))) c' (.ext (recAt c' qual))) { s with heap:=h'.push (PySem.W.kla_obj "<lambda>" qual params body lsc cl ((X.mg "__name__").getD .none) c' ctv),toks:=tk }:=by
   have nP:∀ b,H b=none→b≠P:=fun b n z=>by rw [z,hP] at n;cases n
   refine I.step (g':=s.gens) (d':=s.drawn) (ch:=[]) (fun b hb=>absurd hb (by simp)) (fun b o _ _ _ e n=>kp b o (nP b n) e) (fun b o _ _ _ e n=>⟨o.slots,kp b o (nP b n) e⟩) (fun b o _ e n=>?_) (fun b o _ e=>?_) (fun b xs e=>?_) (fun b o u e=>?_) (fun b qs e=>?_) (fun m hm=>?_) (fun b u e=>?_) I.bare
   ·rw [oth b (nP b n) (Nat.ne_of_lt (Nat.lt_of_lt_of_le (Heap.lt_size e) hge))];exact n
   ·by_cases hb:b=P
    ·subst hb;exact ⟨_,tb⟩
    ·exact ⟨o,kp b o hb e⟩
   ·rw [oth b (fun z=>by rw [z,hP] at e;cases e) (neC b _ e)];exact e
   ·rw [oth b (fun z=>by rw [z,hP] at e;cases e) (neC b _ e)];exact e
   ·by_cases hb:b=P
    ·subst hb
     rw [hP] at e;cases e
     exact ⟨_,h2P⟩
    ·exact ⟨#[],by rw [oth b hb (neC b _ e),e];simp⟩
   ·obtain ⟨o,es,ep,ho,r⟩:=hm
    exact ⟨o,es,ep,kp _ o (nP _ I.free) ho,r⟩
   ·by_cases hbc:b=c'
    ·subst hbc
     rw [a90] at e;cases e
     obtain ⟨_,oc,_,_,e1,e2,_⟩:=id rc
     cases e1
     exact ⟨rc,⟨oc,e2⟩,fun h1 h2 p kk=>C90 p kk⟩
    ·by_cases hb:b=P
     ·subst hb
      rw [h2P] at e;cases e
      exact tb
     ·rw [oth b hb hbc] at e
      refine (I.hok b u e).a31 (fun b2 u2 hb2 q=>kp b2 u2 (fun z=>?_) q) (fun b2 q=>?_) fun b2 xs q=>?_
      ·rcases hb2 with y | y
       ·exact hb (y.symm.trans z)
       ·rw [z,hP] at y;cases y
      ·rw [oth b2 (fun z=>by rw [z,hP] at q;cases q) (neC b2 _ q)];exact q
      ·rw [oth b2 (fun z=>by rw [z,hP] at q;cases q) (neC b2 _ q)];exact q
  have lf:s.heap.objs.size≤h'.objs.size:=Nat.le_of_lt (Nat.lt_of_le_of_lt hge hlt)
  refine k cl h'.objs.size c' _ ctv _ tk _ cl1 cl2 I2 ⟨_,h2P,?_,fun pos cc e=>?_⟩ ⟨fun b o hb e=>by rw [oth b hb (neC b _ e)];exact e⟩ ⟨_,Heap.get?_push_size _ rfl,rfl⟩ ?_ a90
  ·rw [Array.toList_append];exact TriplesOk_snoc _ _ _ _ ht
  ·rw [Array.toList_append] at e
   rcases c01 _ ht e with z | z
   ·exact ⟨c',z,a90⟩
   ·obtain ⟨c2,rfl,hc2⟩:=hall pos cc z
    exact ⟨c2,rfl,by rw [oth c2 (fun y=>by rw [y,hP] at hc2;cases hc2) (neC c2 _ hc2)];exact hc2⟩
  ·rw [oth _ (Nat.ne_of_gt (Nat.lt_of_lt_of_le lP lf)) (Nat.ne_of_gt hlt)];exact I.hok.fresh lf
end
end L2
namespace L2
open PySem PySem.Spec PyProof.Rows
section
variable {X:Cx}{c P f:Addr}{fd:FuncData}{qual g par:Str}{N:List Str}{params:Arguments}{body:Expr}{lsc:Scope}{lpos p pos:Pos}{k kr:Nat}{cls:Value}{sp:Shared→Sp}
end
end L2
namespace L2
open PySem PySem.Spec PyProof.Rows
noncomputable def BMain (mg:Str→Option Value) (h:Heap):Prop:=∃ bm ob,mg "__builtins__"=some (.ref bm)∧bm≠builtinsNs∧h.get? bm=some ob∧ob.cls=.type "module"∧ob.dict=some builtinsNs∧ob.data=.plain
end L2
namespace L2
open PySem PySem.Spec PyProof.Rows
theorem W61 {P:Program}{w:World}{X:Cx}:Passes (CX1 P w) X (fun _ _ _=>False):=fun _ _ _ _ _ _ _ h=>by
 obtain ⟨_,_,_,_,_,_,_,_,_,_,_,_,_,e⟩:=h
 exact e.elim
theorem Tab.same {H H':Hp}{P:Addr}{q:Str} (t:Tab H P q) (s:a00 H H'):Tab H' P q:=by
 obtain ⟨ps,e,tr,h⟩:=t
 refine ⟨ps,s _ _ e,tr,fun pos c hc=>?_⟩
 obtain ⟨c',e1,e2⟩:=h pos c hc
 exact ⟨c',e1,s _ _ e2⟩
section
variable {K:PySem.W.Frag}{H H':Hp}{P:Addr}{ps:Array Value}
end
end L2
namespace L2
open PySem PySem.Spec PyProof.Rows
structure M20 (P:Program) (w:World) (K:PySem.W.Frag) (mg:Str→Option Value) (base:Heap) (k:Nat) (f:Addr) (H₀:Hp) (s₀:Shared) (cls:Value) (RR:Hp→Prop):Prop where
 fn:∃ o fd,s₀.heap.get? f=some o∧o.data=.func fd∧H₀ f=none
 run:∀ (A:Around) (outer:List Env) (s:Shared) (H:Hp),w00 k A→C31 P w K mg base A outer s H→Un (frs outer) [] H₀ H s₀.heap s.heap→a00 H₀ H →
  codeAny (model P w) A (.call (.ref f) ⟨[],[]⟩) (CR (CX1 P w) outer P w H s (fun _ _=>False) fun c _ H'=>c=cls∧RR H') s
noncomputable def l32 (X:Cx) (i j:Nat) (f C:Addr) (RR:Hp→Prop):TS:=fun D σ H=>σ[i]?=some (some (.ref f))∧a00 X.H₀ H∧∀ a H',RR H'→H' a=none→D.nx (σ.set j (some (.ref a))) (upd H' a (.ext (excAt a C)))
section
variable {X:Cx}{k i j:Nat}{f C D:Addr}{x y z n:Str}{p1 p2 p3 p4 p5 p6 p7 p8 p9:Pos}
theorem j11 {RR:Hp→Prop} (hx0:X.ex=[]) (hS:X.stack=X.env::X.outer) (hf:X.env.frame=some X.env.locals) (hr:w00 k X.A) (th:M20 X.prog X.w X.K X.mg X.base k f X.H₀ X.s₀ (.ref C) RR)
  (hy:X.N[i]?=some y) (vy:Vis X.env.scope y) (dy:(y == ("__debug__":Str))=false) (cy:(y == ("__classdict__":Str))=false)
  (hg:Gl X x) (hm:X.mg x=some (.ref D)) (dx:(x == ("__debug__":Str))=false) (he:PySem.W.exmOne X.K (.ref C) (.ref D)=some true)
  (hn:X.env.kindOf n=some .local) (nN:n ∉ X.N) (dn:(n == ("__debug__":Str))=false) (hN:X.N.Nodup) (hz:X.N[j]?=some z) (lz:Loc X.env.scope z) (hfn:X.fn z=true) :
  PS X (.Try [.Expr (.Call (.Name y p1) [] [] p2) p3] [.ExceptHandler (some (.Name x p4)) (some n) [.Assign [.Name z p5] (.Name n p6) p7] p8] [] [] p9) (l32 X i j f C RR):=by
 intro pins s σ H Dd I h
 obtain ⟨eσ,sH,q⟩:=h
 have U0:Un (frs X.stack) [] X.H₀ H X.s₀.heap s.heap:=by
  have u:=I.base
  rw [hx0] at u
  exact u.mono (fun b hb=>by rw [hS];unfold frs;rw [List.filterMap_cons,hf];exact List.mem_cons_of_mem _ hb) fun b hb=>hb
 obtain ⟨⟨c0,d0,dt0,sl0⟩,fd,ho0,hd0,nf⟩:=th.fn
 have hd0':dt0=.func fd:=hd0
 subst hd0'
 obtain ⟨sl,hof⟩:=U0.any ho0 nf (by simp)
 have hkind:(X.env.scope.kind == .class || (X.env.scope.kind == .module&&X.env.locals != X.env.globals))=false:=by rw [I.ok.kind];rfl
 refine wpAny_Try_except (wpAny_execs_cons ?_)
 refine wpAny_Expr_any ?_ I.quiet rfl
 refine wpAny_Call_Name_kw ?_
 -- the name of the thunk
 have ld:∀ {Q:Value→Shared→Prop}{E:Value→Shared→Prop},Q (.ref f) s→wpAny (model X.prog X.w) X.A (eval (.Name y p1) X.env) Q E s:=fun {Q E} hq=>by
  obtain ⟨m,hnm,hl⟩:=I.loc
  obtain ⟨u,r,l⟩:=hl i y _ hy eσ vy
  cases (show u=Value.ref f from r)
  rcases l with ⟨hk,hv⟩ | ⟨hk,c,hc,hcell⟩
  ·exact wpAny_Name (wpAny_loadName_local I.ok.kind hk hnm hv hq) dy
  ·rcases hk with hk | hk
   ·exact wpAny_Name (wpAny_loadName_cell I.ok.kind hk hc hcell hq) dy
   ·exact wpAny_Name (wpAny_loadName_free I.ok.kind hk hc hcell hq cy) dy
 refine ld ?_
 refine PySem.W.callWith_of (P:=fun h=>h.get? f=some ⟨c0,d0,.func fd,sl⟩) rfl (fun h e=>⟨.frame,.inl rfl,?_⟩) (evalArgs_nil3 ⟨hof,?_⟩)
 ·exact (PySem.W.Looks.ld (part:=none) e).andThen .now
 refine wpAny_call (codeAny_mono (th.run X.A X.stack s H hr I.k12 U0 sH) fun r s1 hq=>?_)
 cases r with
 | ok fl =>
  cases fl with
  | ret u=>obtain ⟨_,_,_,_,_,_,_,z⟩:=hq;exact z.elim
  | next=>exact False.elim hq
  | brk=>exact False.elim hq
  | cont=>exact False.elim hq
 | error e =>
  obtain ⟨a,cls,a0,H1,B,rfl,os1,bare1,un,hok,fl,na,bB,rfl,s1H⟩:=hq
  -- where it stands was free ahead
  have nA:s.heap.get? a=none:=by
   cases ea:s.heap.get? a with
   | none=>rfl
   | some o =>
    exfalso
    obtain ⟨oe,vs,hoe,_,hde,_⟩:=fl.first
    by_cases hb:a∈frs X.stack
    ·obtain ⟨sl',e1⟩:=un.slot a o ea (I.t50 a hb) hb (by simp)
     obtain ⟨_,o',ho',hd'⟩:=I.stack.mem hb
     rw [ea] at ho';cases ho'
     rw [hoe] at e1;cases e1
     exact hd' vs hde
    ·have:=bB a oe hoe hb (.inl ⟨o,ea⟩)
     rw [fl.2.1] at this;cases this
  have n0:X.s₀.heap.get? a=none:=by
   cases ea:X.s₀.heap.get? a with
   | none=>rfl
   | some o =>
    obtain ⟨o',e1⟩:=U0.there a o ea (by simp)
    rw [nA] at e1;cases e1
  have aL:a≠X.env.locals:=fun z=>by
   obtain ⟨m,⟨o,_,_,ho,_⟩,_⟩:=I.loc
   rw [z,ho] at nA;cases nA
  have aC:∀ x c,X.env.cells.lookup x=some c→c≠a:=fun x c e z=>by
   obtain ⟨v,o,ho,_⟩:=I.cell x c e
   rw [z,nA] at ho;cases ho
  have aP:∀ p∈X.pn++pins,p.1≠a:=fun p hp z=>by
   have:=(I.pin p hp).1
   rw [z,nA] at this;cases this
  refine wpAny_looks_onW (I.ok.frames.trans (by rw [hS])) hf (by rw [← hS];exact fl) fun h2 held2 sm2=>?_
  refine wpAny_landsW held2 fun h3 fl3 sm3=>?_
  have I3:Inv X pins σ H1 { s1 with heap:=h3 }:=C71 I os1 bare1 un hok bB fl3.1 (sm2.trans sm3)
  have at3:excAt a C h3:=by obtain ⟨oe,e1,e2⟩:=fl3.there;exact ⟨oe,e1,e2⟩
  refine wpAny_handleBy_cons (codeAny_handlers_test ?_) (fun z=>nomatch z)
  refine Calls.Name_function_global I3.ok.kind hg (Calls.loadGlobal_global (by rw [I3.ok.glob];exact I3.mod.glob.keeps I3.bk) hm ?_) dx
  refine (PySem.W.exm_one (h:=h3) I3.kIn at3.ty he).here ?_
  refine codeAny_handlers_suite_as (lands_againW fl3 fun h4 fl4 sm4=>?_)
  have I4:Inv X pins σ H1 { s1 with heap:=h4 }:=C71 I os1 bare1 un hok bB fl4.1 ((sm2.trans sm3).trans sm4)
  have at4:excAt a C h4:=by obtain ⟨oe,e1,e2⟩:=fl4.there;exact ⟨oe,e1,e2⟩
  obtain ⟨m4,hn4,hl4⟩:=id I4.loc
  refine wpAny_storeName_local hn hn4 (fun h5 hn5 hs5=>?_) hkind
  have offN:∀ (i:Nat) (x:Str),X.N[i]?=some x→x≠n:=fun i x e z=>nN (by rw [← z];exact List.mem_of_getElem? e)
  have I5:Inv X pins σ H1 { s1 with heap:=h5,toks:=s1.toks + 1 }:=Inv.j01 (s:={ s1 with heap:=h4 }) I4 hl4 hn5 hs5 fun i x e=>if_neg (offN i x e)
  refine wpAny_execs_cons (wpAny_Assign_Name ?_ rfl)
  refine wpAny_Name (wpAny_loadName_local I.ok.kind hn hn5 (if_pos rfl) ?_) dn
  refine y40 (v:=.ref a) I5 hN hz lz rfl (fun s6 I6 hsame=>?_) (.inl hfn)
  refine wpAny_execs_nil ?_
  show wpAny _ _ (do bindName X.env n .none;unbindBehindTheSuite X.env n p8) _ _ _
  obtain ⟨m6,hn6,hl6⟩:=id I6.loc
  refine wpAny_nameGoes_keeps hn hn6 hkind fun h7 v7 hn7 hs7=>?_
  have I7:=Inv.j01 (t':=s6.toks + 1) I6 hl6 hn7 hs7 fun i x e=>if_neg (offN i x e)
  have at7:excAt a C h7:=by
   obtain ⟨oe,e1,e2⟩:=at4
   obtain ⟨b6,hb6,hor⟩:=hsame
   have e5:h5.get? a=some oe:=(hs5.2 a aL).trans e1
   have e6:s6.heap.get? a=some oe:=(hb6.2 a (fun z=>by
    rcases hor with y | y
    ·exact aL (z.trans y)
    ·exact aC _ _ y z.symm)).trans e5
   exact ⟨oe,(hs7.2 a aL).trans e6,e2⟩
  have nT:H1 a=none:=na
  have I8:=Inv.W41 (T:=a) (o:=.ext (excAt a C)) I7 nT n0 aL aC aP ⟨at7,by obtain ⟨oe,e1,_⟩:=at7;exact ⟨oe,e1⟩,fun h1 h2 p kk=>b61 p kk⟩
  exact ⟨_,_,I8,q a H1 s1H na⟩
end
end L2
namespace L2
open PySem PySem.Spec PyProof.Rows
section
variable {P:Program}{w:World}{K:PySem.W.Frag}{mg:Str→Option Value}{base:Heap}{N:List Str}{qual:Str}{scope:Scope}{f c':Addr}{cl:List (Str × Addr)}{s₀:Shared}{H₀:Hp}{k:Nat}{pm ctv cls:Value}{params:Arguments}{body:Expr}{vs:List V}
theorem c21 {RR:Hp→Prop} (ho:∃ o,s₀.heap.get? f=some o∧o.data=.func (PySem.W.kla_fn "<lambda>" qual params body scope cl pm (.ref c') ctv)) (nf:H₀ f=none) (hc:H₀ c'=some (.ext (recAt c' qual)))
  (hk:scope.kind=.function) (hco:scope.isCoroutine=false) (hgen:scope.isGenerator=false) (hcell:∀ x∈scope.names,x.2≠.cell)
  (hb:bindArgs (PySem.W.kla_fn "<lambda>" qual params body scope cl pm (.ref c') ctv) ⟨[],[]⟩=pure []) (FR:b91 scope cl N vs H₀ s₀.heap)
  (hbody:∀ (A:Around) (outer:List Env) (s:Shared) (H:Hp),w00 k (A.deeper (PySem.W.envX qual scope s.heap.objs.size f (.ref c') cl))→a00 H₀ H →
   ∃ t,PE (M10 P w K mg base N qual scope f (.ref c') cl A outer s H fun c _ H'=>c=cls∧RR H') body t∧t (vs.map some) H fun _ _=>False) :
  M20 P w K mg base (k + 1) f H₀ s₀ cls RR:=by
 obtain ⟨⟨c0,d0,dt0,sl0⟩,ho,hd⟩:=ho
 have hd':dt0=.func (PySem.W.kla_fn "<lambda>" qual params body scope cl pm (.ref c') ctv):=hd
 subst hd'
 refine ⟨⟨_,_,ho,rfl,nf⟩,fun A outer s H hr e0 un sm=>?_⟩
 obtain ⟨sl,hof⟩:=un.any ho nf (by simp)
 have hrec:s.heap.CodeRec (.ref c') qual:=(e0.hok c' _ (sm _ _ hc)).1
 have lim:s.heap.NoLimit:=e0.mod.nolimit.keeps fun b o e=>(e0.bs b o e).1
 refine PySem.W.kla_callFunE hr.depth hof rfl hco hgen rfl hrec ?_
 rw [hb]
 refine wpAny_pure (wpAny_newFunctionEnv hcell (fun y hy=>absurd hy (by simp)) (fun h₁ hns hsb=>⟨lim.fresh _ hsb,?_⟩) hk)
 show codeAny _ _ (.expr body (PySem.W.envX qual scope s.heap.objs.size f (.ref c') cl)) _ _
 have hkeep1:∀ b o,s.heap.get? b=some o→h₁.get? b=some o:=fun b o e=>hsb.extBut b o (Nat.ne_of_lt (Heap.lt_size e)) (Heap.get?_push_of_some _ e)
 obtain ⟨t,ht,hq⟩:=hbody A outer s H (hr.deeper _) sm
 have I:Inv (M10 P w K mg base N qual scope f (.ref c') cl A outer s H fun c _ H'=>c=cls∧RR H') [] (vs.map some) H { s with heap:=h₁,toks:=s.toks + 0 }:=J01 e0 hr.hd hk (FR.later un) hns hkeep1
 refine PySem.W.kla_codeExpr (wpAny_mono (ht [] _ _ H _ I hq) (fun v s' hv=>?_) fun e s' he=>he)
 obtain ⟨_,_,_,_,z⟩:=hv
 exact z.elim
end
end L2
namespace L2
open PySem PySem.Spec PyProof.Rows
noncomputable def l42 (X:Cx) (P:Addr) (qual:Str) (N:List Str) (lsc:Scope) (body:Expr) (k:Nat) (cls:Value) (RR:Hp→Hp→Prop) (sp:Shared→Sp):TE:=fun σ H Q=>Tab H P qual∧∃ vs:List V,vs.length=N.length ∧
 (∀ (i:Nat) (x:Str) (v:V),N[i]?=some x→vs[i]?=some v→∃ j:Nat,X.N[j]?=some x∧σ[j]?=some (some v)) ∧
 ∀ H2,G40 P H H2→Tab H2 P qual →
  (∀ (f c':Addr) (cl:List (Str × Addr)) (A:Around) (outer:List Env) (s:Shared) (H3:Hp),w00 k (A.deeper (PySem.W.envX qual lsc s.heap.objs.size f (.ref c') cl))→a00 H2 H3 →
   ∃ t,PE (M10 X.prog X.w X.K X.mg X.base N qual lsc f (.ref c') cl A outer s H3 fun c _ H'=>c=cls∧RR H2 H') body t∧t (vs.map some) H3 fun _ _=>False) ∧
  ∀ (s2:Shared) (f:Addr),M20 X.prog X.w X.K X.mg X.base (k + 1) f H2 s2 cls (RR H2)→sp s2 [.ref f] H2 Q fun _ _ _=>False
section
variable {X:Cx}{c P f:Addr}{fd:FuncData}{qual g par:Str}{N:List Str}{params:Arguments}{body:Expr}{lsc:Scope}{lpos p pos:Pos}{k kr:Nat}{cls:Value}{sp:Shared→Sp}
theorem R80 {RR:Hp→Hp→Prop} (F:b81 X.prog X.w X.K X.mg X.base CX0 kr f fd [par] sp) (hr:w00 kr X.A) (hg:Gl X g) (hm:X.mg g=some (.ref f)) (hk:PySem.W.keepIn X.K (.ref f)=true) (hb:Binds X.K fd [par] [])
  (hcode:X.env.code=.ref c) (hhd:PySem.W.codeHdIn X.K c P=true) (hqu:X.env.qual++"<lambda>"=qual)
  (hbm:∃ bm ob,X.mg "__builtins__"=some (.ref bm)∧bm≠builtinsNs∧X.base.get? bm=some ob∧ob.cls=.type "module"∧ob.dict=some builtinsNs∧ob.data=.plain)
  (hfr:∀ y∈lsc.names,y.2=.free→X.env.kindOf y.1=some .cell) (hnc:∀ y∈lsc.names,y.2≠.cell) (hNf:∀ x∈N,lsc.names.lookup x=some .free)
  (lk:lsc.kind=.function) (lco:lsc.isCoroutine=false) (lge:lsc.isGenerator=false) (hdef:defaultsOf params X.env=([],[]))
  (hbd:∀ (cl:List (Str × Addr)) (pm ctv:Value) (c':Addr),bindArgs (PySem.W.kla_fn "<lambda>" qual params body lsc cl pm (.ref c') ctv) ⟨[],[]⟩=pure [])
  (hdb:(g == ("__debug__":Str))=false:=by decide) (he:starEach [.Lambda params body lsc lpos] X.env=[(false,eval (.Lambda params body lsc lpos) X.env)]:=by rfl) :
  PE X (.Call (.Name g p) [.Lambda params body lsc lpos] [] pos) (l42 X P qual N lsc body k cls RR sp):=by
 intro pins s σ H Q I h
 obtain ⟨TB,vs,hlen,hvs,q⟩:=h
 refine wpAny_Call_Name_kw (E40 I hg hm ?_ hdb)
 refine PySem.W.callWith_K (h₀:=X.base) I.ok.mod.kin hk ?_ he rfl
 rw [he]
 refine Calls.spliced_cons (x01 I hdef hcode hhd TB hqu hbm (fun y hy hf=>I.ok.has y.1 (.inl (hfr y hy hf))) fun cl f' c' pm ctv h2 tk H2 cl1 cl2 I2 TB2 KB ho nf hc=>?_)
 have FR:b91 lsc cl N vs H2 h2:=by
  refine ⟨fun x y c e1 e2=>I2.ok.inj x y c (cl1 x c e1) (cl1 y c e2),fun x hx=>?_,fun x c e=>I2.cell x c (cl1 x c e),fun x c e=>I2.freeC x c (cl1 x c e),fun i x v h1 h2=>?_,hlen⟩
  ·rcases hx with hx | hx
   ·exact absurd rfl (hnc _ (PySem.mem_of_lookup hx))
   ·exact cl2 _ (PySem.mem_of_lookup hx) rfl
  ·have hf:=hNf x (List.mem_of_getElem? h1)
   have mem:=PySem.mem_of_lookup hf
   have kc:X.env.kindOf x=some .cell:=hfr _ mem rfl
   obtain ⟨j,e1,e2⟩:=hvs i x v h1 h2
   obtain ⟨m,_,hl⟩:=I2.loc
   obtain ⟨u,r,l⟩:=hl j x v e1 e2 (Or.inr (Or.inl kc))
   obtain ⟨c2,ec2⟩:=cl2 _ mem rfl
   refine ⟨hf,c2,u,ec2,r,?_⟩
   rcases l with ⟨kl,_⟩ | ⟨_,c3,ec3,z⟩
   ·rw [kc] at kl;cases kl
   ·have:=cl1 _ _ ec2
    rw [ec3] at this;cases this
    exact z
 obtain ⟨q1,q2⟩:=q H2 KB TB2
 have th:M20 X.prog X.w X.K X.mg X.base (k + 1) f' H2 { s with heap:=h2,toks:=tk } cls (RR H2):=c21 (s₀:={ s with heap:=h2,toks:=tk }) ho nf hc lk lco lge hnc (hbd cl pm ctv c') FR fun A outer s H3 hr sm=>q1 f' c' cl A outer s H3 hr sm
 refine Calls.spliced_nil ⟨I2.kIn,?_⟩
 have hsp:=q2 { s with heap:=h2,toks:=tk } f' th
 refine wpAny_call (codeAny_mono (F.run X.A X.stack { s with heap:=h2,toks:=tk } H2 ⟨[.ref f'],[]⟩ [.ref f'] [.ref f'] Q _ hr I2.k12 (hb _ [.ref f'] I2.kIn rfl) (.cons rfl .nil) hsp) fun r s' hq=>?_)
 cases r with
 | error e=>exact False.elim hq
 | ok fl =>
  cases fl with
  | ret u=>exact I2.after hq
  | next=>exact False.elim hq
  | brk=>exact False.elim hq
  | cont=>exact False.elim hq
end
end L2
namespace L2
open PySem PySem.Spec PyProof.Rows
noncomputable abbrev h52:List Str:=["_law_call","_law_error","_law_marks"]
noncomputable abbrev W71:Scope:={ kind:=.function,names:=[(".0",.local),("_law_k",.local),("_law_marks",.free)],isGenerator:=false,isCoroutine:=false,more:=[] }
noncomputable abbrev r80:Scope:={ kind:=.function,names:=[("_law_call",.local),("_law_error",.local),("e",.local),("_law_marks",.cell),("ChanceError",.globalImplicit),("isinstance",.globalImplicit),("NoWeb",.globalImplicit),("NoLot",.globalImplicit),("NoPlaces",.globalImplicit),("NoPlace",.globalImplicit),("NoTie",.globalImplicit),("NoChance",.globalImplicit),("NoChances",.globalImplicit),("NoPaper",.globalImplicit),("TooMany",.globalImplicit),("NoText",.globalImplicit),("NoLine",.globalImplicit),("NoDeed",.globalImplicit),("ValueError",.globalImplicit),("range",.globalImplicit)],isGenerator:=false,isCoroutine:=false,more:=[("fast",.str "_law_call"),("fast",.str "_law_error"),("fast",.str "e"),("fast",.str "_law_marks"),("fast",.str "_law_k")] }
noncomputable def R90 (n:Nat):List Stmt:=[.Assign [(.Name "_law_error" ⟨n,4,n,14⟩)] (.Constant .none 0 ⟨n,17,n,21⟩) ⟨n,4,n,21⟩,
   .Try [.Expr (.Call (.Name "_law_call" ⟨n + 2,8,n + 2,17⟩) [] [] ⟨n + 2,8,n + 2,19⟩) ⟨n + 2,8,n + 2,19⟩] [.ExceptHandler (some (.Name "ChanceError" ⟨n + 3,11,n + 3,22⟩)) (some "e") [.Assign [(.Name "_law_error" ⟨n + 4,8,n + 4,18⟩)] (.Name "e" ⟨n + 4,21,n + 4,22⟩) ⟨n + 4,8,n + 4,22⟩] ⟨n + 3,4,n + 4,22⟩] [] [] ⟨n + 1,4,n + 4,22⟩,
   .Assign [(.Name "_law_marks" ⟨n + 5,4,n + 5,14⟩)] (.List [(.Call (.Name "isinstance" ⟨n + 5,18,n + 5,28⟩) [(.Name "_law_error" ⟨n + 5,29,n + 5,39⟩),(.Name "NoWeb" ⟨n + 5,41,n + 5,46⟩)] [] ⟨n + 5,18,n + 5,47⟩),(.Call (.Name "isinstance" ⟨n + 5,49,n + 5,59⟩) [(.Name "_law_error" ⟨n + 5,60,n + 5,70⟩),(.Name "NoLot" ⟨n + 5,72,n + 5,77⟩)] [] ⟨n + 5,49,n + 5,78⟩),(.Call (.Name "isinstance" ⟨n + 5,80,n + 5,90⟩) [(.Name "_law_error" ⟨n + 5,91,n + 5,101⟩),(.Name "NoPlaces" ⟨n + 5,103,n + 5,111⟩)] [] ⟨n + 5,80,n + 5,112⟩)] ⟨n + 5,17,n + 5,113⟩) ⟨n + 5,4,n + 5,113⟩,
   .Assign [(.Name "_law_marks" ⟨n + 6,4,n + 6,14⟩)] (.BinOp (.Name "_law_marks" ⟨n + 6,17,n + 6,27⟩) .Add (.List [(.Call (.Name "isinstance" ⟨n + 6,31,n + 6,41⟩) [(.Name "_law_error" ⟨n + 6,42,n + 6,52⟩),(.Name "NoPlace" ⟨n + 6,54,n + 6,61⟩)] [] ⟨n + 6,31,n + 6,62⟩),(.Call (.Name "isinstance" ⟨n + 6,64,n + 6,74⟩) [(.Name "_law_error" ⟨n + 6,75,n + 6,85⟩),(.Name "NoTie" ⟨n + 6,87,n + 6,92⟩)] [] ⟨n + 6,64,n + 6,93⟩),(.Call (.Name "isinstance" ⟨n + 6,95,n + 6,105⟩) [(.Name "_law_error" ⟨n + 6,106,n + 6,116⟩),(.Name "NoChance" ⟨n + 6,118,n + 6,126⟩)] [] ⟨n + 6,95,n + 6,127⟩)] ⟨n + 6,30,n + 6,128⟩) ⟨n + 6,17,n + 6,128⟩) ⟨n + 6,4,n + 6,128⟩,
   .Assign [(.Name "_law_marks" ⟨n + 7,4,n + 7,14⟩)] (.BinOp (.Name "_law_marks" ⟨n + 7,17,n + 7,27⟩) .Add (.List [(.Call (.Name "isinstance" ⟨n + 7,31,n + 7,41⟩) [(.Name "_law_error" ⟨n + 7,42,n + 7,52⟩),(.Name "NoChances" ⟨n + 7,54,n + 7,63⟩)] [] ⟨n + 7,31,n + 7,64⟩),(.Call (.Name "isinstance" ⟨n + 7,66,n + 7,76⟩) [(.Name "_law_error" ⟨n + 7,77,n + 7,87⟩),(.Name "NoPaper" ⟨n + 7,89,n + 7,96⟩)] [] ⟨n + 7,66,n + 7,97⟩),(.Call (.Name "isinstance" ⟨n + 7,99,n + 7,109⟩) [(.Name "_law_error" ⟨n + 7,110,n + 7,120⟩),(.Name "TooMany" ⟨n + 7,122,n + 7,129⟩)] [] ⟨n + 7,99,n + 7,130⟩)] ⟨n + 7,30,n + 7,131⟩) ⟨n + 7,17,n + 7,131⟩) ⟨n + 7,4,n + 7,131⟩,
   .Assign [(.Name "_law_marks" ⟨n + 8,4,n + 8,14⟩)] (.BinOp (.Name "_law_marks" ⟨n + 8,17,n + 8,27⟩) .Add (.List [(.Call (.Name "isinstance" ⟨n + 8,31,n + 8,41⟩) [(.Name "_law_error" ⟨n + 8,42,n + 8,52⟩),(.Name "NoText" ⟨n + 8,54,n + 8,60⟩)] [] ⟨n + 8,31,n + 8,61⟩),(.Call (.Name "isinstance" ⟨n + 8,63,n + 8,73⟩) [(.Name "_law_error" ⟨n + 8,74,n + 8,84⟩),(.Name "NoLine" ⟨n + 8,86,n + 8,92⟩)] [] ⟨n + 8,63,n + 8,93⟩),(.Call (.Name "isinstance" ⟨n + 8,95,n + 8,105⟩) [(.Name "_law_error" ⟨n + 8,106,n + 8,116⟩),(.Name "NoDeed" ⟨n + 8,118,n + 8,124⟩)] [] ⟨n + 8,95,n + 8,125⟩)] ⟨n + 8,30,n + 8,126⟩) ⟨n + 8,17,n + 8,126⟩) ⟨n + 8,4,n + 8,126⟩,
   .If (.UnaryOp .Not (.Call (.Name "isinstance" ⟨n + 9,11,n + 9,21⟩) [(.Name "_law_error" ⟨n + 9,22,n + 9,32⟩),(.Name "ValueError" ⟨n + 9,34,n + 9,44⟩)] [] ⟨n + 9,11,n + 9,45⟩) ⟨n + 9,7,n + 9,45⟩) [.Return (some (.Constant .none 0 ⟨n + 10,15,n + 10,19⟩)) ⟨n + 10,8,n + 10,19⟩] [] ⟨n + 9,4,n + 10,19⟩,
   .Return (some (.ListComp (.Name "_law_k" ⟨n + 11,12,n + 11,18⟩) [{ target:=(.Name "_law_k" ⟨n + 11,23,n + 11,29⟩),iter:=(.Call (.Name "range" ⟨n + 11,33,n + 11,38⟩) [(.Constant (.int 12) 0 ⟨n + 11,39,n + 11,41⟩)] [] ⟨n + 11,33,n + 11,42⟩),ifs:=[(.Subscript (.Name "_law_marks" ⟨n + 11,46,n + 11,56⟩) (.Name "_law_k" ⟨n + 11,57,n + 11,63⟩) ⟨n + 11,46,n + 11,64⟩)],is_async:=0 }] W71 ⟨n + 11,11,n + 11,65⟩)) ⟨n + 11,4,n + 11,65⟩]
theorem W81:i21 W71 r80 h52 ["_law_k"] [("_law_marks",2)]=true:=by decide +kernel
theorem x11 {X:Cx} (K:PySem.W.Frag) (hK:X.K=K:=by rfl):IxR X (w12 K):=by subst hK;exact R20
noncomputable abbrev names12:List Str:=["NoWeb","NoLot","NoPlaces","NoPlace","NoTie","NoChance","NoChances","NoPaper","TooMany","NoText","NoLine","NoDeed"]
structure M30 (K:PySem.W.Frag) (mg:Str→Option Value) (C:Addr) (j:Nat):Prop where
 cl:∀ (i:Nat) (x:Str),names12[i]?=some x→∃ Ci,mg x=some (.ref Ci)∧PySem.W.kitOne K (.ref C) (.ref Ci)=some (decide (i=j))
 lk:j30 K C
 hd:PySem.W.hasDictIn K C=true
 ve:PySem.W.kitOne K (.ref C) (.type "ValueError")=some true
 nv:mg "ValueError"=none
 ce:∃ D,mg "ChanceError"=some (.ref D)∧PySem.W.exmOne K (.ref C) (.ref D)=some true
 lt:j < 12
theorem M40:bootBuiltins "ValueError"=some (.type "ValueError"):=by decide +kernel
theorem G50:bootBuiltins "isinstance"=some (.builtin "isinstance"):=by decide +kernel
noncomputable def J11 (P:Program) (w:World) (K:PySem.W.Frag) (mg:Str→Option Value) (base:Heap) (k:Nat):Shared→Sp:=fun s vs H Q _=>∃ (f C:Addr) (j:Nat) (RR:Hp→Prop),vs=[.ref f]∧M20 P w K mg base k f H s (.ref C) RR∧M30 K mg C j∧∀ l H1 H',RR H1→a00 H1 H'→H' l=none→Q (.ref l) (upd H' l (.lst [.int j]))
noncomputable abbrev z40 (j:Nat):List V:=[V.bl (decide (0=j)),.bl (decide (1=j)),.bl (decide (2=j))]++[.bl (decide (3=j)),.bl (decide (4=j)),.bl (decide (5=j))]++[.bl (decide (6=j)),.bl (decide (7=j)),.bl (decide (8=j))]++[.bl (decide (9=j)),.bl (decide (10=j)),.bl (decide (11=j))]
theorem x21 {i j:Nat} (h:i < 12):atI (z40 j) (0 + (i:Int))=some (.bl (decide (i=j))):=by
 rw [Int.zero_add]
 refine l80 ?_
 rw [show z40 j=(List.range 12).map fun i=>V.bl (decide (i=j)) from rfl,List.getElem?_map,List.getElem?_range h];rfl
section
variable {P:Program}{w:World}{K:PySem.W.Frag}{mg:Str→Option Value}{base:Heap}
theorem scR:k70 h52 ["_law_call"] r80:=⟨rfl,rfl,rfl,by decide +kernel,rfl,by decide +kernel,by decide +kernel⟩
theorem ndR:(d30 ["_law_k"] [("_law_marks",2)]).Nodup:=by decide +kernel
noncomputable def tIs (K:PySem.W.Frag) (c:V) (cv:Value):TE:=fun σ H Q=>∃ (a C:Addr) (b:Bool),σ[1]?=some (some (.ref a))∧W31 H a C∧j30 K C∧PySem.W.hasDictIn K C=true∧PySem.W.kitOne K (.ref C) cv=some b∧Q (.bl b) H
noncomputable def A02 (K:PySem.W.Frag) (c0 c1 c2:Addr):TE:=fun σ H Q=>∃ (a C:Addr) (b0 b1 b2:Bool),σ[1]?=some (some (.ref a))∧W31 H a C∧j30 K C∧PySem.W.hasDictIn K C=true∧PySem.W.kitOne K (.ref C) (.ref c0)=some b0∧PySem.W.kitOne K (.ref C) (.ref c1)=some b1∧PySem.W.kitOne K (.ref C) (.ref c2)=some b2∧∀ l,H l=none→Q (.ref l) (upd H l (.lst [.bl b0,.bl b1,.bl b2]))
section
variable {X:Cx}{c0 c1 c2:Addr}{x x0 x1 x2:Str}{p p0 p1 p2 p3 q0 q1 q2 q3 r0 r1 r2 r3:Pos}
theorem x31 {c:V}{cv:Value} (hN:X.N[1]?=some ("_law_error":Str)) (hv:Vis X.env.scope "_law_error") (hi:Gl X "isinstance") (Ti:X.mg "isinstance"=none) (hc:PE X (.Name x p2) (tC c)) (hcv:(∃ C,c=.ref C∧cv=.ref C)∨∃ T,c=.ty T∧cv=.type T):PE X (.Call (.Name "isinstance" p0) [.Name "_law_error" p1,.Name x p2] [] p3) (tIs X.K c cv) :=
 fun pins s σ H Q I q=>by
  obtain ⟨a,C,b,e,h1,h2,h3,h4,h5⟩:=q
  have g:=x30 (p:=p0) (pos:=p3) b71 hi Ti G50 (e50 (p50 (i:=1) (pos:=p1) hN hv) (e50 hc r30))
  exact g pins s σ H Q I ⟨_,e,a,C,_,_,b,rfl,hcv,h1,h2,h3,h4,h5⟩
theorem W80 (hN:X.N[1]?=some ("_law_error":Str)) (hv:Vis X.env.scope "_law_error") (hi:Gl X "isinstance") (Ti:X.mg "isinstance"=none) (g0:PE X (.Name x0 p2) (tC (.ref c0))) (g1:PE X (.Name x1 q2) (tC (.ref c1))) (g2:PE X (.Name x2 r2) (tC (.ref c2))) :
  PE X (.List [.Call (.Name "isinstance" p0) [.Name "_law_error" p1,.Name x0 p2] [] p3,.Call (.Name "isinstance" q0) [.Name "_law_error" q1,.Name x1 q2] [] q3,.Call (.Name "isinstance" r0) [.Name "_law_error" r1,.Name x2 r2] [] r3] p) (A02 X.K c0 c1 c2) :=
 fun pins s σ H Q I q=>by
  obtain ⟨a,C,b0,b1,b2,e,h1,h2,h3,k0,k1,k2,h5⟩:=q
  exact C21 (e50 (x31 hN hv hi Ti g0 (.inl ⟨c0,rfl,rfl⟩)) (e50 (x31 hN hv hi Ti g1 (.inl ⟨c1,rfl,rfl⟩)) (e50 (x31 hN hv hi Ti g2 (.inl ⟨c2,rfl,rfl⟩)) r30))) pins s σ H Q I
   ⟨a,C,b0,e,h1,h2,h3,k0,a,C,b1,e,h1,h2,h3,k1,a,C,b2,e,h1,h2,h3,k2,z20 (by show 3≤64;decide),h5⟩
end
theorem W91 {st:Stmt}{f:Addr}{fd:FuncData}{k n:Nat} (F:Fun K "_law_refused" "_law_refused" st f fd) (es:b50 st=r80) (eb:j10 st=R90 n) (Ti:mg "isinstance"=none) (Tr:mg "range"=none):b81 P w K mg base CX0 (k + 1) f fd ["_law_call"] (J11 P w K mg base k):=by
 refine F.okS (by rw [es];exact scR) (fun s vs H Q E h=>?_) (fun cdv A outer s H vs Q E hr h=>?_)
 ·obtain ⟨f,C,j,RR,rfl,_⟩:=h;rfl
 ·obtain ⟨g,C,j,RR,rfl,th,R,q⟩:=h
  have hsc:=W81
  rw [es] at hr
  rw [es,eb]
  unfold R90
  clear eb
  obtain ⟨c0,m0,k0⟩:=R.cl 0 _ rfl
  obtain ⟨c1,m1,k1⟩:=R.cl 1 _ rfl
  obtain ⟨c2,m2,k2⟩:=R.cl 2 _ rfl
  obtain ⟨c3,m3,k3⟩:=R.cl 3 _ rfl
  obtain ⟨c4,m4,k4⟩:=R.cl 4 _ rfl
  obtain ⟨c5,m5,k5⟩:=R.cl 5 _ rfl
  obtain ⟨c6,m6,k6⟩:=R.cl 6 _ rfl
  obtain ⟨c7,m7,k7⟩:=R.cl 7 _ rfl
  obtain ⟨c8,m8,k8⟩:=R.cl 8 _ rfl
  obtain ⟨c9,m9,k9⟩:=R.cl 9 _ rfl
  obtain ⟨c10,m10,k10⟩:=R.cl 10 _ rfl
  obtain ⟨c11,m11,k11⟩:=R.cl 11 _ rfl
  obtain ⟨D,mD,kD⟩:=R.ce
  refine ⟨_,k30 (u80 (i:=1) scR.nd rfl (Or.inl rfl) e61)
   (k30 (j11 (i:=0) (j:=1) (f:=g) (C:=C) (D:=D) (k:=k) rfl rfl rfl hr th rfl (Or.inl rfl) (by decide) (by decide) rfl mD (by decide) kD rfl (by show ¬ (("e":Str)∈h52);decide +kernel) (by decide) scR.nd rfl (Or.inl rfl) rfl)
   (k30 (u80 (i:=2) scR.nd rfl (Or.inr rfl) (W80 rfl (Or.inl rfl) rfl Ti (f60 rfl m0 rfl) (f60 rfl m1 rfl) (f60 rfl m2 rfl)))
   (k30 (u80 (i:=2) scR.nd rfl (Or.inr rfl) (t91 g41 (pv 2) (W80 rfl (Or.inl rfl) rfl Ti (f60 rfl m3 rfl) (f60 rfl m4 rfl) (f60 rfl m5 rfl))))
   (k30 (u80 (i:=2) scR.nd rfl (Or.inr rfl) (t91 g41 (pv 2) (W80 rfl (Or.inl rfl) rfl Ti (f60 rfl m6 rfl) (f60 rfl m7 rfl) (f60 rfl m8 rfl))))
   (k30 (u80 (i:=2) scR.nd rfl (Or.inr rfl) (t91 g41 (pv 2) (W80 rfl (Or.inl rfl) rfl Ti (f60 rfl m9 rfl) (f60 rfl m10 rfl) (f60 rfl m11 rfl))))
   (k30 (T11 (B71 (e71 (x31 (cv:=.type "ValueError") rfl (Or.inl rfl) rfl Ti (E50 (v:=.ty "ValueError") rfl R.nv M40 rfl) (.inr ⟨_,rfl,rfl⟩)))) (e91 (V90 e61)) e81)
   (e91 (V90 (h01 (own:=["_law_k"]) (capt:=[("_law_marks",2)]) rfl (by exact r40.of (scX:=r80) (N:=h52) rfl rfl hsc) (K10 rfl Tr (e50 V80 r30))
    (fun cl C s H fp=>f01 (i:=0) ndR rfl (Or.inl rfl)) (fun cl C s H fp=>g91 (e71 (G81 (x11 K) (pv 1) (pv 0) (fun _ _=>rfl)))) (fun cl C s H fp=>pv 0)))))))))),?_⟩
  refine ⟨rfl,a00.refl H,fun a H1 s1 na=>?_⟩
  have hX:W31 (upd H1 a (.ext (excAt a C))) a C:=a90
  have keep:∀ {H'},a00 (upd H1 a (.ext (excAt a C))) H'→W31 H' a C:=fun sm=>sm _ _ hX
  -- the twelve marks
  refine ⟨a,C,_,_,_,rfl,hX,R.lk,R.hd,k0,k1,k2,fun l1 hl1=>?_⟩
  have t1:=a00.new (.lst [.bl (decide (0=j)),.bl (decide (1=j)),.bl (decide (2=j))]) hl1
  refine ⟨_,rfl,a,C,_,_,_,rfl,keep t1,R.lk,R.hd,k3,k4,k5,fun l2 hl2=>?_⟩
  have t2:=a00.new (.lst [.bl (decide (3=j)),.bl (decide (4=j)),.bl (decide (5=j))]) hl2
  refine ⟨l1,l2,_,_,rfl,rfl,t2 _ _ a90,a90,z20 (by show 3 + 3≤64;decide),fun l3 hl3=>?_⟩
  have t3:=t1.trans (t2.trans (a00.new (.lst ([.bl (decide (0=j)),.bl (decide (1=j)),.bl (decide (2=j))]++[.bl (decide (3=j)),.bl (decide (4=j)),.bl (decide (5=j))])) hl3))
  refine ⟨_,rfl,a,C,_,_,_,rfl,keep t3,R.lk,R.hd,k6,k7,k8,fun l4 hl4=>?_⟩
  have t4:=a00.new (.lst [.bl (decide (6=j)),.bl (decide (7=j)),.bl (decide (8=j))]) hl4
  refine ⟨l3,l4,_,_,rfl,rfl,t4 _ _ a90,a90,z20 (by show 6 + 3≤64;decide),fun l5 hl5=>?_⟩
  have t5:=t3.trans (t4.trans (a00.new (.lst ([.bl (decide (0=j)),.bl (decide (1=j)),.bl (decide (2=j))]++[.bl (decide (3=j)),.bl (decide (4=j)),.bl (decide (5=j))]++[.bl (decide (6=j)),.bl (decide (7=j)),.bl (decide (8=j))])) hl5))
  refine ⟨_,rfl,a,C,_,_,_,rfl,keep t5,R.lk,R.hd,k9,k10,k11,fun l6 hl6=>?_⟩
  have t6:=a00.new (.lst [.bl (decide (9=j)),.bl (decide (10=j)),.bl (decide (11=j))]) hl6
  refine ⟨l5,l6,_,_,rfl,rfl,t6 _ _ a90,a90,z20 (by show 9 + 3≤64;decide),fun l7 hl7=>?_⟩
  have t7:=t5.trans (t6.trans (a00.new (.lst (z40 j)) hl7))
  refine ⟨a,C,_,rfl,keep t7,R.lk,R.hd,R.ve,_,rfl,z42 ?_⟩
  refine ⟨12,rfl,by decide,by decide,w11 (lo:=0) (n:=12) (fun i ys H'=>a00 (upd H1 a (.ext (excAt a C))) H'∧H' l7=some (.lst (z40 j))∧ys=if j < i then [.int j] else []) (z20 (by decide)) ⟨t7,a90,by rw [if_neg (by omega)]⟩ (fun i ys H' p=>by rw [p.2.2];split <;> simp <;> omega) ?_ ?_⟩
  ·rintro i ys H' hi ⟨s8,h8,rfl⟩
   refine gN ?_
   refine ⟨_,rfl,_,rfl,l7,z40 j,0 + (i:Int),.bl (decide (i=j)),rfl,rfl,SqL.of h8,x21 hi,_,rfl,?_⟩
   refine z52 (fun e=>?_) (fun e=>?_)
   ·have ej:i=j:=of_decide_eq_true e
    subst ej
    refine ⟨_,rfl,s8,h8,?_⟩
    rw [if_neg (by omega),if_pos (by omega),Int.zero_add];rfl
   ·have ej:¬ i=j:=fun z=>e (decide_eq_true z)
    refine ⟨s8,h8,?_⟩
    by_cases hj:j < i
    ·rw [if_pos hj,if_pos (by omega)]
    ·rw [if_neg hj,if_neg (by omega)]
  ·rintro ys H' p ⟨s8,_,rfl⟩ hp
   rw [if_pos R.lt]
   exact q p H1 H' s1 ((a00.new _ na).trans s8) hp
end
end L2
namespace Q
open PySem L2
noncomputable abbrev Z:=Option (Int × Bool)
inductive S where
 | d (x:D) | fr (xs:List D) | z
inductive R (α:Type) where
 | ok (a:α) (z:Z) | er (c:Nat) (z:Z)
noncomputable abbrev M (α:Type):=Z→Option (R α)
noncomputable def M.ret {α:Type} (a:α):M α:=fun z=>some (.ok a z)
noncomputable def M.no {α:Type}:M α:=fun _=>none
noncomputable def M.of {α:Type}:Option α→M α
 | some a=>M.ret a
 | none=>M.no
noncomputable def M.bind {α β:Type} (m:M α) (f:α→M β):M β:=fun z=>match m z with
 | some (.ok a z1)=>f a z1
 | some (.er c z1)=>some (.er c z1)
 | none=>none
noncomputable def M.calm {α:Type} (m:M α):M α:=fun z=>match m z with
 | some (.ok a z1)=>some (.ok a z1)
 | _=>none
noncomputable abbrev Env:=List (Option S)
noncomputable def pl:List S→Option D
 | [.d x]=>some x
 | [.fr xs]=>some (.lst xs)
 | _=>none
noncomputable def one:List S→Option S
 | [s]=>some s
 | _=>none
noncomputable def plS:S→S
 | .fr xs=>.d (.lst xs)
 | s=>s
noncomputable def plD:S→Option D
 | .d x=>some x
 | .fr xs=>some (.lst xs)
 | .z=>none
noncomputable def plA:List S→Option (List D)
 | []=>some []
 | .d x::r=>(plA r).map (x::·)
 | .fr xs::r=>(plA r).map (.lst xs::·)
 | .z::_=>none
inductive Bi where
 | add | sub | mul | fdiv | mod | pow | shl | band
inductive Cm where
 | eq | ne | lt | le | gt | ge | is | isnt | mem | nmem
inductive Bf where
 | len | sorted | tuple | list | sum | min | max | abs | all | any | int | sset | V31
inductive Ty where
 | int | bool | tuple | list | str | seq
inductive Pat where
 | v (i:Nat) | tup (ps:Pat) | nil | cons (p r:Pat)
inductive It where
 | seq | rng1 | rng2 | zip | enum
inductive Ex where
 | nil | cons (a r:Ex)
 | var (i:Nat) | con (x:D) | gint (g:Str) (i:Int)
 | tup (as:Ex) | lst (as:Ex)
 | bin (o:Bi) (a b:Ex) | cmp (o:Cm) (a b:Ex) | neg (a:Ex)
 | not (a:Ex) | and (a b:Ex) | or (a b:Ex) | ite (c a b:Ex)
 | ch (o o':Cm) (a b c:Ex)
 | bf (f:Bf) (as:Ex) | isi (t:Ty) (a:Ex)
 | idx (a i:Ex) | sl (a lo hi:Ex)
 | call (f:Nat) (as:Ex)
 | comp (own:Nat) (capt:List Nat) (p:Pat) (it:It) (src cond el:Ex)
 | zget (i k:Nat) | lrng (b:Bool) (as:Ex)
 /- what _law_refused tells of a lambda: the names that it takes along,its expression -/
 | refd (capt:List Nat) (a:Ex)
noncomputable abbrev most:Nat:=100000
noncomputable def c31:Nat:=2 ^ 4000
mutual
noncomputable def eqD:D→D→Bool
 | .non,.non=>true
 | .bl a,.bl b=>a == b
 | .int a,.int b=>a == b
 | .str a,.str b=>a == b
 | .bl a,.int b=>(if a then 1 else 0) == b
 | .int a,.bl b=>a == (if b then 1 else 0)
 | .tup a,.tup b=>J21 a b
 | .lst a,.lst b=>J21 a b
 | .dct,.dct=>true
 | _,_=>false
noncomputable def J21:List D→List D→Bool
 | [],[]=>true
 | a::r,b::q=>eqD a b&&J21 r q
 | _,_=>false
end
mutual
/-- -1,0,1: less,alike,greater;none: not to be compared -/
noncomputable def ltD:D→D→Option Bool
 | .int a,.int b=>some (decide (a < b))
 | .tup a,.tup b=>x41 a b
 | _,_=>none
noncomputable def x41:List D→List D→Option Bool
 | [],[]=>some false
 | [],_::_=>some true
 | _::_,[]=>some false
 | a::r,b::q=>if eqD a b then x41 r q else ltD a b
end
mutual
/-- no dict within,its texts as they should be -/
noncomputable def p10:D→Bool
 | .dct=>false
 | .tup l=>f70 l
 | .lst l=>f70 l
 | .str x=>PyData.strOk x
 | _=>true
noncomputable def f70:List D→Bool
 | []=>true
 | x::r=>p10 x&&f70 r
end
mutual
noncomputable def deep:D→Nat
 | .tup l=>f30 l + 1
 | .lst l=>f30 l + 1
 | _=>0
noncomputable def f30:List D→Nat
 | []=>0
 | x::r=>Nat.max (deep x) (f30 r)
end
noncomputable def okD (d:D):Bool:=p10 d&&decide (deep d≤40)
noncomputable def G60 (l:List D):Bool:=f70 l&&decide (f30 l≤39)
theorem e80 {c:Prop} [Decidable c] {α:Type}{a:Option α}{b:α} (h:(if c then a else none)=some b):c∧a=some b:=by
 by_cases k:c
 ·rw [if_pos k] at h;exact ⟨k,h⟩
 ·rw [if_neg k] at h;cases h
noncomputable def eqO (a b:D):Option Bool:=if okD a&&okD b then some (eqD a b) else none
noncomputable def ltO (a b:D):Option Bool:=if okD a&&okD b then ltD a b else none
noncomputable def memD (x:D) (l:List D):Bool:=l.any fun y=>eqD y x
noncomputable def R01 (x:D) (l:List D):Option Bool:=if okD x&&G60 l then some (memD x l) else none
noncomputable def B60:List D→Option (List Int)
 | []=>some []
 | .int i::r=>(B60 r).map (i::·)
 | _=>none
noncomputable def q40:Bi→D→D→Option S
 | .add,.int i,.int j=>some (.d (.int (i + j)))
 | .add,.tup a,.tup b=>if a.length + b.length≤most then some (.d (.tup (a++b))) else none
 | .add,.lst a,.lst b=>if a.length + b.length≤most then some (.fr (a++b)) else none
 | .sub,.int i,.int j=>some (.d (.int (i - j)))
 | .mul,.int i,.int j=>if i.natAbs < c31∧j.natAbs < c31 then some (.d (.int (i * j))) else none
 | .mul,.tup a,.int j=>if 2≤j∧j.toNat * a.length≤most∧j < 1000000 then some (.d (.tup (List.replicate j.toNat a).flatten)) else none
 | .mul,.lst a,.int j=>if 0≤j∧j.toNat * a.length≤most∧j < 1000000 then some (.fr (List.replicate j.toNat a).flatten) else none
 | .fdiv,.int i,.int j=>if 0 < j∧j.natAbs < c31 then some (.d (.int (i / j))) else none
 | .mod,.int i,.int j=>if 0 < j then some (.d (.int (i % j))) else none
 | .pow,.int i,.int j=>if 0≤j∧j≤1000∧i.natAbs < 2 ^ 64 then some (.d (.int (i ^ j.toNat))) else none
 | .shl,.int i,.int j=>if 0≤j∧j≤1000∧i.natAbs < 2 ^ 64 then some (.d (.int (i * 2 ^ j.toNat))) else none
 | .band,.int i,.int j=>some (.d (.int (Builtin.bitAnd i j)))
 | _,_,_=>none
noncomputable def M50:D→Bool
 | .non=>true
 | _=>false
noncomputable def neO:D→D→Option Bool
 | .dct,.tup _=>some true
 | a,b=>(eqO a b).map (!·)
noncomputable def k80:Cm→D→D→Option Bool
 | .eq,a,b=>eqO a b
 | .ne,a,b=>neO a b
 | .lt,a,b=>ltO a b
 | .gt,.int a,.int b=>some (decide (b < a))
 | .le,.int a,.int b=>some (decide (a≤b))
 | .le,.tup a,.tup b=>(B60 a).bind fun ns=>(B60 b).map fun ms=>HT.leB ns ms
 | .ge,.int a,.int b=>some (decide (b≤a))
 | .is,.bl a,.bl b=>some (a == b)
 | .is,a,.non=>some (M50 a)
 | .isnt,.bl a,.bl b=>some (a != b)
 | .isnt,a,.non=>some (!M50 a)
 | .mem,a,.tup l=>R01 a l
 | .mem,a,.lst l=>R01 a l
 | .nmem,a,.tup l=>(R01 a l).map (!·)
 | .nmem,a,.lst l=>(R01 a l).map (!·)
 | _,_,_=>none
noncomputable def C81:Ty→D→Bool
 | .int,.int _=>true
 | .int,.bl _=>true
 | .bool,.bl _=>true
 | .tuple,.tup _=>true
 | .list,.lst _=>true
 | .str,.str _=>true
 | .seq,.tup _=>true
 | .seq,.lst _=>true
 | _,_=>false
noncomputable def asB:D→Option Bool
 | .bl b=>some b
 | _=>none
noncomputable def asI:D→Option Int
 | .int i=>some i
 | _=>none
noncomputable def Q50:D→Option (List D)
 | .tup l=>some l
 | .lst l=>some l
 | _=>none
mutual
/-- the numbers within,laid flat -/
noncomputable def flt:D→List Int
 | .int i=>[i]
 | .tup l=>e21 l
 | _=>[]
noncomputable def e21:List D→List Int
 | []=>[]
 | x::r=>flt x++e21 r
end
mutual
/-- the same,of numbers and tuples alone -/
noncomputable def eqT:D→D→Bool
 | .int i,.int j=>i == j
 | .tup a,.tup b=>j21 a b
 | _,_=>false
noncomputable def j21:List D→List D→Bool
 | [],[]=>true
 | x::r,y::q=>eqT x y&&j21 r q
 | _,_=>false
end
noncomputable def Q60:D→Nat
 | .int _=>0
 | .tup (.int _::_)=>1
 | .tup (.tup _::_)=>2
 | _=>3
noncomputable def n70 (x y:D):Bool:=Q60 y == Q60 x&&(ltD x y == some (MySort.d70 (flt x) (flt y))&&(eqT x y || !(flt x == flt y)))
noncomputable def z50 (l:List D):Bool:=l.all fun x=>decide (Q60 x < 3)&&(okD x&&l.all (n70 x))
noncomputable def x51 (k:D):List D→List D
 | []=>[k]
 | y::r=>if MySort.d70 (flt y) (flt k) then y::x51 k r else k::y::r
noncomputable def B70:List D→List D
 | []=>[]
 | k::r=>x51 k (B70 r)
noncomputable def sortedS (x:D):Option S:=(Q50 x).bind fun l=>if l.length < 64∧z50 l=true then some (.fr (B70 l)) else none
noncomputable def X01:List D→Option Int
 | []=>some 0
 | .int i::r=>(X01 r).map (i + ·)
 | _=>none
noncomputable def bfD:Bf→List D→Option S
 | .len,[x]=>(Q50 x).map fun l=>.d (.int l.length)
 | .tuple,[x]=>(Q50 x).map fun l=>.d (.tup l)
 | .list,[x]=>(Q50 x).map fun l=>.fr l
 | .all,[.lst l]=>(l.mapM asB).map fun bs=>.d (.bl (bs.all id))
 | .any,[.lst l]=>(l.mapM asB).map fun bs=>.d (.bl (bs.any id))
 | .sorted,[x]=>sortedS x
 | .sum,[x]=>((Q50 x).bind X01).map fun i=>.d (.int i)
 | .min,[.int i,.int j]=>some (.d (.int (if j < i then j else i)))
 | .max,[.int i,.int j]=>some (.d (.int (if j > i then j else i)))
 | .abs,[.int i]=>some (.d (.int (if i < 0 then -i else i)))
 | .int,[.bl b]=>some (.d (.int (if b then 1 else 0)))
 | .int,[.int i]=>some (.d (.int i))
 | _,_=>none
noncomputable def w20:D→D→Option D
 | .tup l,.int i=>atI l i
 | .lst l,.int i=>atI l i
 | _,_=>none
noncomputable def cutD (l:List D) (lo hi:Option Int):List D:=(l.drop (HT.sIx l.length 0 lo)).take (HT.sIx l.length l.length hi - HT.sIx l.length 0 lo)
noncomputable def slD:D→Option Int→Option Int→Option S
 | .tup l,lo,hi=>some (.d (.tup (cutD l lo hi)))
 | .lst l,lo,hi=>some (.fr (cutD l lo hi))
 | _,_,_=>none
noncomputable def M60:List S→Option (Option Int)
 | []=>some none
 | [.d (.int i)]=>some (some i)
 | _=>none
noncomputable def q50:List D→Nat→List D
 | [],_=>[]
 | x::r,i=>.tup [.int i,x]::q50 r (i + 1)
noncomputable def q90:List D→List D→List D
 | x::r,y::q=>.tup [x,y]::q90 r q
 | _,_=>[]
noncomputable def itD:It→List D→Option (List D)
 | .seq,[x]=>Q50 x
 | .rng1,[.int j]=>if -100000 < j∧j < 100000 then some ((List.range j.toNat).map fun (i:Nat)=>D.int i) else none
 | .rng2,[.int i,.int j]=>if -100000 < i∧i < 100000∧-100000 < j∧j < 100000 then some ((List.range (j - i).toNat).map fun (k:Nat)=>D.int (i + k)) else none
 | .zip,[.tup a,.tup b]=>some (q90 a b)
 | .enum,[.tup a]=>some (q50 a 0)
 | _,_=>none
noncomputable def lrS:Bool→List D→S
 | true,xs=>.d (.tup xs)
 | false,xs=>.fr xs
noncomputable def lrN:Bool→Str
 | true=>"tuple"
 | false=>"list"
noncomputable def lrD:List D→Option (List D)
 | [x]=>itD .rng1 [x]
 | l=>itD .rng2 l
mutual
noncomputable def f80:Pat→D→Env→Option Env
 | .v i=>fun x ρ=>some (ρ.set i (some (.d x)))
 | .tup ps=>fun x ρ=>match x with
  | .tup l=>bindL ps l ρ
  | _=>none
 | .nil=>fun _ _=>none
 | .cons _ _=>fun _ _=>none
noncomputable def bindL:Pat→List D→Env→Option Env
 | .nil=>fun l ρ=>match l with
  | []=>some ρ
  | _=>none
 | .cons p r=>fun l ρ=>match l with
  | x::l=>(f80 p x ρ).bind fun ρ=>bindL r l ρ
  | _=>none
 | .v _=>fun _ _=>none
 | .tup _=>fun _ _=>none
end
noncomputable def turns (f:D→M (Option D)):List D→M (List D)
 | []=>M.ret []
 | x::r=>M.bind (f x) fun o=>M.bind (turns f r) fun l=>M.ret (match o with | some y=>y::l | none=>l)
noncomputable def z60 (fc fe:Env→M (List S)) (p:Pat) (ρ0:Env) (x:D):M (Option D):=M.bind (M.of (f80 p x ρ0)) fun ρ'=>M.bind (fc ρ') fun c=>match c with
 | []=>M.bind (fe ρ') fun y=>M.bind (M.of (pl y)) fun y=>M.ret (some y)
 | [.d (.bl true)]=>M.bind (fe ρ') fun y=>M.bind (M.of (pl y)) fun y=>M.ret (some y)
 | [.d (.bl false)]=>M.ret none
 | _=>M.no
noncomputable def S00 (k:Nat):Option (Option S)→Z→Option (R (List S))
 | some (some .z),some p=>if k=0 then some (.ok [.d (.int p.1)] (some p)) else if k=1 then some (.ok [.d (.bl p.2)] (some p)) else none
 | _,_=>none
noncomputable abbrev FT:=Bool→Nat→List S→M S
noncomputable def t80 (F:FT):FT:=fun _=>F true
noncomputable def X11 (o:Option (List S)) (m:Env→M (List S)):M (List S):=fun z=>match o with
 | none=>none
 | some ss=>match m (ss.map some) z with
  | some (.er c z1)=>if c < 12 then some (.ok [.fr [.int c]] z1) else none
  | _=>none
noncomputable def ev:FT→Ex→Env→M (List S)
 | F,.nil=>fun _=>M.ret []
 | F,.cons a r=>fun ρ=>M.bind (ev F a ρ) fun x=>M.bind (M.of (one x)) fun s=>M.bind (ev F r ρ) fun y=>M.ret (s::y)
 | F,.var i=>fun ρ=>match ρ[i]? with
  | some (some s)=>M.ret [plS s]
  | _=>M.no
 | F,.con x=>fun _=>M.ret [.d x]
 | F,.gint _ i=>fun _=>M.ret [.d (.int i)]
 | F,.tup as=>fun ρ=>M.bind (ev F as ρ) fun l=>M.bind (M.of (plA l)) fun ds=>if ds.length≤most then M.ret [.d (.tup ds)] else M.no
 | F,.lst as=>fun ρ=>M.bind (ev F as ρ) fun l=>M.bind (M.of (plA l)) fun ds=>if ds.length≤most then M.ret [.fr ds] else M.no
 | F,.bin o a b=>fun ρ=>M.bind (ev F a ρ) fun x=>M.bind (M.of (pl x)) fun x=>M.bind (ev F b ρ) fun y=>M.bind (M.of (pl y)) fun y=>M.bind (M.of (q40 o x y)) fun s=>M.ret [s]
 | F,.cmp o a b=>fun ρ=>M.bind (ev F a ρ) fun x=>M.bind (M.of (pl x)) fun x=>M.bind (ev F b ρ) fun y=>M.bind (M.of (pl y)) fun y=>M.bind (M.of (k80 o x y)) fun b=>M.ret [.d (.bl b)]
 | F,.neg a=>fun ρ=>M.bind (ev F a ρ) fun x=>M.bind (M.of ((pl x).bind asI)) fun i=>M.ret [.d (.int (-i))]
 | F,.not a=>fun ρ=>M.bind (ev F a ρ) fun x=>M.bind (M.of ((pl x).bind asB)) fun b=>M.ret [.d (.bl !b)]
 | F,.and a b=>fun ρ=>M.bind (ev F a ρ) fun x=>M.bind (M.of ((pl x).bind asB)) fun c=>if c then M.bind (ev F b ρ) fun y=>M.bind (M.of ((pl y).bind asB)) fun c=>M.ret [.d (.bl c)] else M.ret [.d (.bl false)]
 | F,.or a b=>fun ρ=>M.bind (ev F a ρ) fun x=>M.bind (M.of ((pl x).bind asB)) fun c=>if c then M.ret [.d (.bl true)] else M.bind (ev F b ρ) fun y=>M.bind (M.of ((pl y).bind asB)) fun c=>M.ret [.d (.bl c)]
 | F,.ite c a b=>fun ρ=>M.bind (ev F c ρ) fun x=>M.bind (M.of ((pl x).bind asB)) fun c=>if c then ev F a ρ else ev F b ρ
 | F,.ch o o' a b c=>fun ρ=>M.bind (ev F a ρ) fun x=>M.bind (M.of (pl x)) fun x=>M.bind (ev F b ρ) fun y=>M.bind (M.of (pl y)) fun y=>M.bind (M.of (k80 o x y)) fun k =>
   if k then M.bind (ev F c ρ) fun w=>M.bind (M.of (pl w)) fun w=>M.bind (M.of (k80 o' y w)) fun k=>M.ret [.d (.bl k)] else M.ret [.d (.bl false)]
 | F,.bf f as=>fun ρ=>M.bind (ev F as ρ) fun l=>M.bind (M.of (plA l)) fun ds=>M.bind (M.of (bfD f ds)) fun s=>M.ret [s]
 | F,.isi t a=>fun ρ=>M.bind (ev F a ρ) fun x=>M.bind (M.of (pl x)) fun x=>M.ret [.d (.bl (C81 t x))]
 | F,.idx a i=>fun ρ=>M.bind (ev F a ρ) fun x=>M.bind (M.of (pl x)) fun x=>M.bind (ev F i ρ) fun y=>M.bind (M.of (pl y)) fun y=>M.bind (M.of (w20 x y)) fun r=>M.ret [.d r]
 | F,.sl a lo hi=>fun ρ=>M.bind (ev F a ρ) fun x=>M.bind (M.of (pl x)) fun x=>M.bind (ev F lo ρ) fun u=>M.bind (M.of (M60 u)) fun u=>M.bind (ev F hi ρ) fun v=>M.bind (M.of (M60 v)) fun v=>M.bind (M.of (slD x u v)) fun s=>M.ret [s]
 | F,.call f as=>fun ρ=>M.bind (ev F as ρ) fun l=>M.bind (F false f (l.map plS)) fun s=>M.ret [s]
 | F,.comp own capt p it src cond el=>fun ρ=>M.bind (ev F src ρ) fun l=>M.bind (M.of ((plA l).bind (itD it))) fun xs=>if xs.length≤most then M.bind (M.calm (turns (z60 (ev F cond) (ev F el) p (List.replicate own none++capt.map fun i=>(ρ[i]?).getD none)) xs)) fun ys=>M.ret [.fr ys] else M.no
 | F,.zget i k=>fun ρ z=>S00 k ρ[i]? z
 | F,.lrng b as=>fun ρ=>M.bind (ev F as ρ) fun l=>M.bind (M.of ((plA l).bind lrD)) fun xs=>M.ret [lrS b xs]
 | F,.refd capt a=>fun ρ=>X11 (capt.mapM fun i=>(ρ[i]?).getD none) fun ρ'=>ev (t80 F) a ρ'
noncomputable def w30 (ρ:Env):Env:=ρ.map fun o=>match o with
 | some .z=>none
 | o=>o
inductive Sm where
 | nil | seq (s r:Sm)
 | set (p:Pat) (e:Ex) | ret (e:Ex) | iff (c:Ex) (t e:Sm)
 | fr (p:Pat) (it:It) (src:Ex) (b:Sm) | whl (c:Ex) (b:Sm)
 | rais (c:Nat) | exp (e:Ex)
 | app (i:Nat) (e:Ex)
 | newz (i:Nat) (f:Nat) (as:Ex) | zset (i:Nat) (e:Ex) | apop (i j:Nat) (e:Ex)
inductive O where
 | nx (ρ:Env) | rt (s:S)
mutual
/-- no list within -/
noncomputable def bare:D→Bool
 | .lst _=>false
 | .tup l=>d80 l
 | .dct=>false
 | _=>true
noncomputable def d80:List D→Bool
 | []=>true
 | x::r=>bare x&&d80 r
end
noncomputable def S10:S→Bool
 | .d x=>bare x
 | .fr xs=>d80 xs
 | .z=>true
noncomputable def x61 (ρ:Env):Env:=ρ.map fun o=>o.map plS
noncomputable def n10 (s:S) (ρ:Env):Env:=if S10 s then ρ else x61 ρ
noncomputable def M70:Pat→S→Env→Option Env
 | p,.d x,ρ=>f80 p x ρ
 | .v i,s,ρ=>if i < ρ.length then some (ρ.set i (some s)) else none
 | _,_,_=>none
noncomputable def S20 (f:D→Env→M O):List D→Env→M O
 | [],ρ=>M.ret (.nx ρ)
 | x::r,ρ=>M.bind (f x ρ) fun o=>match o with
  | .nx ρ=>S20 f r ρ
  | .rt s=>M.ret (.rt s)
noncomputable def C91 (c:Env→M (List S)) (f:Env→M O):Nat→Env→M O
 | 0,_=>M.no
 | n + 1,ρ=>M.bind (c ρ) fun x=>M.bind (M.of ((pl x).bind asB)) fun k=>if k then M.bind (f ρ) fun o=>match o with
  | .nx ρ=>C91 c f n ρ
  | .rt s=>M.ret (.rt s)
  else M.ret (.nx ρ)
noncomputable def ownAt (ρ:Env) (i:Nat):Option (List D):=match ρ[i]? with
 | some (some (.fr xs))=>some xs
 | _=>none
noncomputable def w32 (xs:List D) (i:Int) (y:D):Option (List D):=(ixN xs.length i).map fun j=>xs.set j y
noncomputable def j31:D→Bool
 | .tup l=>d80 l
 | .lst l=>d80 l
 | _=>true
noncomputable def z70 (l:List S):Bool:=match plA l with
 | some ds=>ds.all j31
 | none=>false
noncomputable def noS:S→Option S
 | .z=>none
 | s=>some s
noncomputable def J31:(it:It)→(e:Ex)→Option {i:Nat // it=.seq∧e=.cons (.var i) .nil}
 | .seq,.cons (.var i) .nil=>some ⟨i,rfl,rfl⟩
 | _,_=>none
noncomputable def w42:(l:List S)→Option {m:List D // l=[.d (.lst m)]}
 | [.d (.lst m)]=>some ⟨m,rfl⟩
 | _=>none
noncomputable def w40 (it:It) (e:Ex) (l:List S) (ρ:Env):Env:=match J31 it e with
 | some i=>ρ.set i.1 ((ρ[i.1]?.getD none).map plS)
 | none=>match w42 l with
  | some _=>x61 ρ
  | none=>ρ
noncomputable abbrev J41:Nat:=20000
noncomputable def j41 (ρ:Env) (i j:Nat) (xs ys:List D) (k:Int):Option O :=
 if i≠j∧0≤k∧k < 100000∧xs.length < most then (ys[k.toNat]?).bind fun y=>if bare y=true then some (.nx ((ρ.set j (some (.fr (ys.eraseIdx k.toNat)))).set i (some (.fr (xs++[y]))))) else none else none
noncomputable def X21 (F:FT) (i j:Nat) (e:Ex):Env→M O:=fun ρ=>M.bind (M.of (ownAt ρ i)) fun xs=>M.bind (M.of (ownAt ρ j)) fun ys=>M.bind (ev F e ρ) fun l=>M.bind (M.of ((pl l).bind asI)) fun k=>M.bind (M.of (j41 ρ i j xs ys k)) fun o=>M.ret o
noncomputable def c41 (tp:Bool) (ρ:Env) (i:Nat):List S→Option (R O)
 | [.fr [.int n,.bl b]]=>if tp then some (.ok (.nx ((w30 ρ).set i (some .z))) (some (n,b))) else none
 | _=>none
noncomputable def c51 (ρ:Env) (v:Int):Option (Option S)→Z→Option (R O)
 | some (some .z),some p=>some (.ok (.nx ρ) (some (v,p.2)))
 | _,_=>none
noncomputable def ex (F:FT) (tp:Bool):Sm→Env→M O
 | .nil=>fun ρ=>M.ret (.nx ρ)
 | .seq s r=>fun ρ=>M.bind (ex F tp s ρ) fun o=>match o with
  | .nx ρ=>ex F tp r ρ
  | .rt s=>M.ret (.rt s)
 | .set p e=>fun ρ=>M.bind (ev F e ρ) fun l=>M.bind (M.of (one l)) fun s=>M.bind (M.of (M70 p s (n10 s ρ))) fun ρ=>M.ret (.nx ρ)
 | .ret e=>fun ρ=>match e with
  | .var i=>(match ρ[i]? with
   | some (some s)=>M.bind (M.of (noS s)) fun s=>M.ret (.rt s)
   | _=>M.no)
  | e=>M.bind (ev F e ρ) fun l=>M.bind (M.of ((one l).bind noS)) fun s=>M.ret (.rt s)
 | .iff c t e=>fun ρ=>M.bind (ev F c ρ) fun x=>M.bind (M.of ((pl x).bind asB)) fun c=>if c then ex F tp t ρ else ex F tp e ρ
 | .fr p it src b=>fun ρ=>M.bind (ev F src ρ) fun l=>M.bind (M.of ((plA l).bind (itD it))) fun xs=>if z70 l=true∧d80 xs=true then S20 (fun x ρ=>M.bind (M.of (f80 p x ρ)) fun ρ=>ex F tp b ρ) xs (w40 it src l ρ) else M.no
 | .whl c b=>fun ρ=>C91 (ev F c) (ex F tp b) J41 ρ
 | .rais c=>fun _ z=>some (.er c z)
 | .exp e=>fun ρ=>M.bind (ev F e ρ) fun l=>M.bind (M.of (one l)) fun _=>M.ret (.nx ρ)
 | .app i e=>fun ρ=>M.bind (M.of (ownAt ρ i)) fun xs=>M.bind (ev F e ρ) fun l=>M.bind (M.of (pl l)) fun x=>if bare x=true∧xs.length < most then M.ret (.nx (ρ.set i (some (.fr (xs++[x]))))) else M.no
 | .newz i f as=>fun ρ=>M.bind (ev F (.call f as) ρ) fun l=>fun _=>c41 tp ρ i l
 | .zset i e=>fun ρ=>M.bind (ev F e ρ) fun l=>M.bind (M.of ((pl l).bind asI)) fun v=>fun z=>c51 ρ v ρ[i]? z
 | .apop i j e=>fun ρ=>X21 F i j e ρ
inductive Df where
 | code (ps ns:Nat) (b:Sm) | prim (f:List S→M S)
noncomputable def S30:Z→Z→Z
 | none,_=>none
 | some _,z=>z
noncomputable def start (ns:Nat) (l:List S):Env:=l.map some++List.replicate (ns - l.length) none
noncomputable def run (F:FT):Df→List S→M S
 | .code ps ns b,l=>fun z=>if l.length=ps∧ps≤ns then (match ex F z.isNone b (start ns (l.map plS)) z with
  | some (.ok (.nx _) z1)=>some (.ok (.d .non) (S30 z z1))
  | some (.ok (.rt s) z1)=>some (.ok s (S30 z z1))
  | some (.er c z1)=>some (.er c (S30 z z1))
  | none=>none) else none
 | .prim f,l=>f l
noncomputable def a80 (T:List Df):Nat→Nat→List S→M S
 | k + 3,f,l=>match T[f]? with
  | some d=>run (fun b g m=>if b then a80 T k g m else a80 T (k + 2) g m) d l
  | none=>M.no
 | _,_,_=>M.no
noncomputable def S40 (T:List Df) (k:Nat):FT:=fun b g m=>if b then a80 T (k - 2) g m else a80 T k g m
theorem S50 (T:List Df) (k f:Nat) (l:List S):a80 T (k + 3) f l=match T[f]? with
  | some d=>run (S40 T (k + 2)) d l
  | none=>M.no:=rfl
end Q
namespace Q
open PySem L2 PySem.Spec PyProof.Rows
noncomputable def r00 (K:PySem.W.Frag) (H:Hp) (a:Addr) (xs:List V):Prop:=Rd H a (.lst xs)∨∃ (its:Array Value) (n:Nat),K.lookup a=some { cls:=.type "list",data:=.seq its n }∧its.size≤sizeLine∧Vals xs its.toList
theorem r00.of {K:PySem.W.Frag}{H:Hp}{a:Addr}{xs:List V} (h:H a=some (.lst xs)):r00 K H a xs:=.inl (.inl h)
theorem r00.sq {K:PySem.W.Frag}{H:Hp}{a:Addr}{xs:List V} (h:r00 K H a xs):SqL K H a xs:=by
 rcases h with h | ⟨its,n,h1,h2,h3⟩
 ·exact .inl h
 ·exact .inr ⟨_,its,n,h1,rfl,rfl,rfl,h2,h3⟩
theorem r00.same {K:PySem.W.Frag}{H H':Hp}{a:Addr}{xs:List V} (h:r00 K H a xs) (e:a00 H H'):r00 K H' a xs:=by
 rcases h with (h | ⟨o,h⟩) | h
 ·exact .inl (.inl (e _ _ h))
 ·exact .inl (.inr ⟨o,e _ _ h⟩)
 ·exact .inr h
theorem r00.mem {X:Cx}{pins:List (Addr × Obj)}{σ:L2.St}{H:Hp}{s:Shared}{a:Addr}{xs:List V} (I:Inv X pins σ H s) (h:r00 X.K H a xs):xs.length≤sizeLine∧∃ (its:List Value) (n:Nat),Vals xs its∧xs.length=its.length∧s.heap.get? a=some { cls:=.type "list",data:=.seq its.toArray n }:=by
 rcases h with (h | ⟨o,h⟩) | ⟨its,n,h1,h2,h3⟩
 ·exact I.H11 h
 ·obtain ⟨e,z,its,n,r,e2⟩:=I.hok a _ h
  exact ⟨z,its,n,r,r.length,e2⟩
 ·refine ⟨by rw [h3.length,Array.length_toList];exact h2,its.toList,n,h3,h3.length,?_⟩
  have:=I.kIn a _ h1
  rw [Array.toArray_toList];exact this
mutual
noncomputable def Hd (K:PySem.W.Frag) (H:Hp):D→V→Prop
 | .non,v=>v=.non
 | .bl b,v=>v=.bl b
 | .int i,v=>v=.int i
 | .str x,v=>v=.str x
 | .tup ds,v=>∃ a xs,v=.ref a∧SqT K H a xs∧HdA K H ds xs
 | .lst ds,v=>∃ a xs,v=.ref a∧r00 K H a xs∧HdA K H ds xs
 | .dct,v=>∃ a kvs,v=.ref a∧H a=some (.dK kvs)
noncomputable def HdA (K:PySem.W.Frag) (H:Hp):List D→List V→Prop
 | [],xs=>xs=[]
 | d::ds,xs=>∃ x r,xs=x::r∧Hd K H d x∧HdA K H ds r
end
section
variable {K:PySem.W.Frag}{H H':Hp}
mutual
theorem Hd.same (e:a00 H H'):∀ {d:D}{v:V},Hd K H d v→Hd K H' d v
 | .non,_,h=>by unfold Hd at h ⊢;exact h
 | .bl _,_,h=>by unfold Hd at h ⊢;exact h
 | .int _,_,h=>by unfold Hd at h ⊢;exact h
 | .str _,_,h=>by unfold Hd at h ⊢;exact h
 | .tup ds,_,h=>by
  unfold Hd at h ⊢
  obtain ⟨a,xs,rfl,h1,h2⟩:=h
  exact ⟨a,xs,rfl,e.sqT h1,HdA.same e h2⟩
 | .lst ds,_,h=>by
  unfold Hd at h ⊢
  obtain ⟨a,xs,rfl,h1,h2⟩:=h
  exact ⟨a,xs,rfl,h1.same e,HdA.same e h2⟩
 | .dct,_,h=>by
  unfold Hd at h ⊢
  obtain ⟨a,kvs,rfl,h1⟩:=h
  exact ⟨a,kvs,rfl,e _ _ h1⟩
theorem HdA.same (e:a00 H H'):∀ {ds:List D}{xs:List V},HdA K H ds xs→HdA K H' ds xs
 | [],_,h=>by unfold HdA at h ⊢;exact h
 | d::ds,_,h=>by
  unfold HdA at h ⊢
  obtain ⟨x,r,rfl,h1,h2⟩:=h
  exact ⟨x,r,rfl,Hd.same e h1,HdA.same e h2⟩
end
mutual
theorem Hd.has:∀ {d:D}{v:V},Hd K H d v→Has K H d v
 | .non,_,h=>by unfold Hd at h;unfold Has;exact h
 | .bl _,_,h=>by unfold Hd at h;unfold Has;exact h
 | .int _,_,h=>by unfold Hd at h;unfold Has;exact h
 | .str _,_,h=>by unfold Hd at h;unfold Has;exact h
 | .tup ds,_,h=>by
  unfold Hd at h;unfold Has
  obtain ⟨a,xs,rfl,h1,h2⟩:=h
  exact ⟨a,xs,rfl,h1,HdA.has h2⟩
 | .lst ds,_,h=>by
  unfold Hd at h;unfold Has
  obtain ⟨a,xs,rfl,h1,h2⟩:=h
  exact ⟨a,xs,rfl,h1.sq,HdA.has h2⟩
 | .dct,_,h=>by unfold Hd at h;unfold Has;exact h
theorem HdA.has:∀ {ds:List D}{xs:List V},HdA K H ds xs→C80 K H ds xs
 | [],_,h=>by unfold HdA at h;unfold C80;exact h
 | d::ds,_,h=>by
  unfold HdA at h;unfold C80
  obtain ⟨x,r,rfl,h1,h2⟩:=h
  exact ⟨x,r,rfl,Hd.has h1,HdA.has h2⟩
end
theorem HdA.nil:HdA K H [] []:=by unfold HdA;rfl
theorem HdA.cons {d:D}{ds:List D}{x:V}{xs:List V} (h:Hd K H d x) (r:HdA K H ds xs):HdA K H (d::ds) (x::xs):=by unfold HdA;exact ⟨x,xs,rfl,h,r⟩
theorem HdA.c00 {d:D}{ds:List D}{xs:List V} (h:HdA K H (d::ds) xs):∃ x r,xs=x::r∧Hd K H d x∧HdA K H ds r:=by unfold HdA at h;exact h
theorem HdA.g90 {xs:List V} (h:HdA K H [] xs):xs=[]:=by unfold HdA at h;exact h
theorem HdA.length:∀ {ds:List D}{xs:List V},HdA K H ds xs→xs.length=ds.length
 | [],_,h=>by rw [h.g90];rfl
 | d::ds,_,h=>by
  obtain ⟨x,r,rfl,_,h2⟩:=h.c00
  simp [h2.length]
theorem HdA.get:∀ {ds:List D}{xs:List V}{i:Nat}{d:D},HdA K H ds xs→ds[i]?=some d→∃ x,xs[i]?=some x∧Hd K H d x
 | [],_,_,_,_,e=>by simp at e
 | d::ds,_,i,d',h,e=>by
  obtain ⟨y,r,rfl,h1,h2⟩:=h.c00
  cases i with
  | zero=>simp at e;subst e;exact ⟨y,rfl,h1⟩
  | succ i =>
   obtain ⟨x',e1,e2⟩:=HdA.get (i:=i) h2 (by simpa using e)
   exact ⟨x',by simpa using e1,e2⟩
theorem HdA.append:∀ {ds es:List D}{xs ys:List V},HdA K H ds xs→HdA K H es ys→HdA K H (ds++es) (xs++ys)
 | [],_,_,_,h,g=>by rw [h.g90];exact g
 | d::ds,_,_,_,h,g=>by
  obtain ⟨x,r,rfl,h1,h2⟩:=h.c00
  exact .cons h1 (HdA.append h2 g)
theorem HdA.take:∀ {ds:List D}{xs:List V} (n:Nat),HdA K H ds xs→HdA K H (ds.take n) (xs.take n)
 | ds,xs,0,_=>by simp;exact .nil
 | [],_,n + 1,h=>by rw [h.g90];simp;exact .nil
 | d::ds,_,n + 1,h=>by
  obtain ⟨x,r,rfl,h1,h2⟩:=h.c00
  exact .cons h1 (HdA.take n h2)
theorem HdA.drop:∀ {ds:List D}{xs:List V} (n:Nat),HdA K H ds xs→HdA K H (ds.drop n) (xs.drop n)
 | ds,xs,0,h=>by simpa using h
 | [],_,n + 1,h=>by rw [h.g90];simp;exact .nil
 | d::ds,_,n + 1,h=>by
  obtain ⟨x,r,rfl,h1,h2⟩:=h.c00
  exact HdA.drop n h2
theorem HdA.reverse:∀ {ds:List D}{xs:List V},HdA K H ds xs→HdA K H ds.reverse xs.reverse
 | [],_,h=>by rw [h.g90];simp;exact .nil
 | d::ds,_,h=>by
  obtain ⟨x,r,rfl,h1,h2⟩:=h.c00
  rw [List.reverse_cons,List.reverse_cons]
  exact (HdA.reverse h2).append (.cons h1 .nil)
theorem HdA.rep {ds:List D}{xs:List V} (h:HdA K H ds xs):∀ n:Nat,HdA K H (List.replicate n ds).flatten (List.replicate n xs).flatten
 | 0=>by simp;exact .nil
 | n + 1=>by rw [List.replicate_succ,List.replicate_succ,List.flatten_cons,List.flatten_cons];exact h.append (h.rep n)
theorem HdA.set:∀ {ds:List D}{xs:List V}{d:D}{x:V} (i:Nat),HdA K H ds xs→Hd K H d x→HdA K H (ds.set i d) (xs.set i x)
 | [],_,_,_,_,h,_=>by rw [h.g90];simp;exact .nil
 | e::ds,_,d,x,i,h,g=>by
  obtain ⟨y,r,rfl,h1,h2⟩:=h.c00
  cases i with
  | zero=>exact .cons g h2
  | succ i=>exact .cons h1 (HdA.set i h2 g)
theorem HdA.ints:∀ ns:List Int,HdA K H (ns.map D.int) (ns.map V.int)
 | []=>.nil
 | n::r=>.cons (by unfold Hd;rfl) (HdA.ints r)
theorem Hd.i50 {i:Int}{v:V} (h:Hd K H (.int i) v):v=.int i:=by unfold Hd at h;exact h
theorem Hd.bl_ {b:Bool}{v:V} (h:Hd K H (.bl b) v):v=.bl b:=by unfold Hd at h;exact h
theorem Hd.X31 {v:V} (h:Hd K H .non v):v=.non:=by unfold Hd at h;exact h
theorem Hd.l52 {x:Str}{v:V} (h:Hd K H (.str x) v):v=.str x:=by unfold Hd at h;exact h
theorem Hd.D00 {ds:List D}{v:V} (h:Hd K H (.tup ds) v):∃ a xs,v=.ref a∧SqT K H a xs∧HdA K H ds xs:=by unfold Hd at h;exact h
theorem Hd.c61 {ds:List D}{v:V} (h:Hd K H (.lst ds) v):∃ a xs,v=.ref a∧r00 K H a xs∧HdA K H ds xs:=by unfold Hd at h;exact h
theorem Hd.int {i:Int}:Hd K H (.int i) (.int i):=by unfold Hd;rfl
theorem Hd.bl {b:Bool}:Hd K H (.bl b) (.bl b):=by unfold Hd;rfl
theorem Hd.non:Hd K H .non .non:=by unfold Hd;rfl
theorem Hd.str {x:Str}:Hd K H (.str x) (.str x):=by unfold Hd;rfl
theorem Hd.tup {a:Addr}{xs:List V}{ds:List D} (h:SqT K H a xs) (r:HdA K H ds xs):Hd K H (.tup ds) (.ref a):=by unfold Hd;exact ⟨a,xs,rfl,h,r⟩
theorem Hd.lst {a:Addr}{xs:List V}{ds:List D} (h:H a=some (.lst xs)) (r:HdA K H ds xs):Hd K H (.lst ds) (.ref a):=by unfold Hd;exact ⟨a,xs,rfl,r00.of h,r⟩
end
noncomputable def noT (H:Hp):Hp:=fun b=>match H b with
 | some (.tbl _)=>none
 | o=>o
theorem M80 {H:Hp}{b:Addr}{o:HO} (h:noT H b=some o):H b=some o∧∀ ps,o≠.tbl ps:=by
 unfold noT at h
 split at h
 ·cases h
 ·rename_i n
  exact ⟨h,fun ps e=>n ps (by rw [h,e])⟩
theorem S60 {H:Hp}{b:Addr}{o:HO} (h:H b=some o) (n:∀ ps,o≠.tbl ps):noT H b=some o:=by
 unfold noT
 split
 ·rename_i ps e
  rw [h] at e
  cases e
  exact absurd rfl (n ps)
 ·exact h
theorem x40 (H:Hp):a00 (noT H) H:=fun _ _ h=>(M80 h).1
theorem W90 {H H':Hp} (e:a00 H H'):a00 (noT H) (noT H'):=fun b o h=>S60 (e b o (M80 h).1) (M80 h).2
noncomputable def hz (zA:Option Addr) (H:Hp):Hp:=match zA with
 | some a=>hide a (noT H)
 | none=>noT H
class Tb where
 tb:List (Addr × Str)
variable [TB:Tb]
noncomputable def zAt (zA:Option Addr) (z:Z) (H:Hp):Prop:=match zA,z with
 | some a,some (n,b)=>H a=some (.lst [.int n,.bl b])
 | none,none=>True
 | _,_=>False
structure d60 (zA:Option Addr) (z:Z) (H:Hp):Prop where
 zat:zAt zA z H
 tab:∀ p∈TB.tb,Tab H p.1 p.2
theorem a10 (zA:Option Addr) (H:Hp):a00 (hz zA H) H:=by
 cases zA with
 | none=>exact x40 H
 | some a=>exact a00.trans (j20 a _) (x40 H)
theorem h30 {zA:Option Addr}{H H':Hp} (e:a00 H H'):a00 (hz zA H) (hz zA H'):=by
 cases zA with
 | none=>exact W90 e
 | some a=>exact z10 fun b o _ h=>W90 e b o h
theorem e00 {zA:Option Addr}{H:Hp}{b:Addr}{o:HO} (h:H b=some o) (n:zA≠some b) (ht:∀ ps,o≠.tbl ps:=by exact fun _ h=>nomatch h):hz zA H b=some o:=by
 cases zA with
 | none=>exact S60 h ht
 | some a=>exact F90 (S60 h ht) fun e=>n (by rw [e])
theorem p20 {zA:Option Addr}{H:Hp}{b:Addr}{o:HO} (h:hz zA H b=some o):H b=some o∧zA≠some b:=by
 cases zA with
 | none=>exact ⟨x40 H b o h,fun e=>nomatch e⟩
 | some a =>
  refine ⟨x40 H b o (j20 a _ b o h),fun e=>?_⟩
  cases e
  have:hide b (noT H) b=some o:=h
  unfold hide at this
  rw [if_pos rfl] at this;cases this
theorem p60 {zA:Option Addr}{H:Hp}{b:Addr}{o:HO} (h:hz zA H b=some o):∀ ps,o≠.tbl ps:=by
 cases zA with
 | none=>exact (M80 h).2
 | some a=>exact (M80 (j20 a _ b o h)).2
structure Ext (zA:Option Addr) (H H':Hp):Prop where
 same:a00 (hz zA H) (hz zA H')
 tbl:∀ b ps,H b=some (.tbl ps)→∃ qs,H' b=some (.tbl qs)
instance {zA:Option Addr}{H H':Hp}:CoeFun (Ext zA H H') (fun _=>∀ b o,hz zA H b=some o→hz zA H' b=some o):=⟨fun x=>x.same⟩
instance {zA:Option Addr}{H H':Hp}:CoeOut (Ext zA H H') (a00 (hz zA H) (hz zA H')):=⟨fun x=>x.same⟩
theorem Ext.refl {zA:Option Addr}{H:Hp}:Ext zA H H:=⟨a00.refl _,fun b ps h=>⟨ps,h⟩⟩
theorem Ext.trans {zA:Option Addr}{H H1 H2:Hp} (a:Ext zA H H1) (b:Ext zA H1 H2):Ext zA H H2:=⟨a00.trans a.same b.same,fun c ps h=>let ⟨qs,h1⟩:=a.tbl c ps h;b.tbl c qs h1⟩
theorem Ext.of {zA:Option Addr}{H H':Hp} (e:a00 H H'):Ext zA H H':=⟨h30 e,fun b ps h=>⟨ps,e b _ h⟩⟩
theorem Ext.at {zA:Option Addr}{H H':Hp} (e:Ext zA H H') {a:Addr}{o:HO} (h:H a=some o) (n:zA≠some a) (ht:∀ ps,o≠.tbl ps:=by exact fun _ h=>nomatch h):H' a=some o:=(p20 (e.same a o (e00 h n ht))).1
theorem Ext.free {zA:Option Addr}{H H':Hp} (e:Ext zA H H') {a:Addr} (h:H' a=none) (n:zA≠some a):H a=none:=by
 cases q:H a with
 | none=>rfl
 | some o =>
  by_cases ht:∃ ps,o=.tbl ps
  ·obtain ⟨ps,rfl⟩:=ht
   obtain ⟨qs,q'⟩:=e.tbl a ps q
   rw [q'] at h;cases h
  ·rw [e.at q n fun ps z=>ht ⟨ps,z⟩] at h;cases h
theorem zAt.same {zA:Option Addr}{z:Z}{H H':Hp} (h:zAt zA z H) (e:a00 H H'):zAt zA z H':=by
 cases zA with
 | none=>cases z with
  | none=>trivial
  | some _=>exact h.elim
 | some a=>cases z with
  | none=>exact h.elim
  | some p=>exact e _ _ h
theorem d60.same {zA:Option Addr}{z:Z}{H H':Hp} (h:d60 zA z H) (e:a00 H H'):d60 zA z H':=⟨h.zat.same e,fun p hp=>(h.tab p hp).same e⟩
theorem Tab.upd {H:Hp}{P a:Addr}{q:Str}{xs:List V}{o:HO} (t:Tab H P q) (h:H a=some (.lst xs)):Tab (upd H a o) P q:=by
 obtain ⟨ps,e,tr,k⟩:=t
 have ne:∀ {b:Addr}{u:HO},H b=some u→(∀ l,u≠.lst l)→b≠a:=fun {b u} e1 e2 z=>by
  subst z
  rw [h] at e1
  cases e1
  exact e2 _ rfl
 refine ⟨ps,by rw [a30 (ne e fun _ z=>nomatch z)];exact e,tr,fun pos c hc=>?_⟩
 obtain ⟨c',e1,e2⟩:=k pos c hc
 exact ⟨c',e1,by rw [a30 (ne e2 fun _ z=>nomatch z)];exact e2⟩
theorem d60.J51 {K:PySem.W.Frag}{zA:Option Addr}{z:Z}{H:Hp} (h:d60 zA z H) {a:Addr}{xs:List V} (t:SqT K H a xs):SqT K (hz zA H) a xs:=by
 have h:=h.zat
 rcases t with (t | ⟨o,t⟩) | t
 ·refine .inl (.inl (e00 t fun e=>?_))
  subst e
  cases z with
  | none=>exact h.elim
  | some p =>
   have h':H a=some (.lst [.int p.1,.bl p.2]):=h
   rw [t] at h';cases h'
 ·refine .inl (.inr ⟨o,e00 t fun e=>?_⟩)
  subst e
  cases z with
  | none=>exact h.elim
  | some p =>
   have h':H a=some (.lst [.int p.1,.bl p.2]):=h
   rw [t] at h';cases h'
 ·exact .inr t
theorem d60.j51 {zA:Option Addr}{z:Z}{H:Hp} (h:d60 zA z H) {a:Addr} (n:H a=none):zA≠some a:=fun e=>by
 have h:=h.zat
 subst e
 cases z with
 | none=>exact h.elim
 | some p =>
  have h':H a=some (.lst [.int p.1,.bl p.2]):=h
  rw [n] at h';cases h'
noncomputable def RvS (K:PySem.W.Frag) (zA:Option Addr) (H0 H:Hp):S→V→Prop
 | .d x,v=>Hd K (hz zA H) x v
 | .fr xs,v=>∃ a ys,v=.ref a∧H0 a=none∧zA≠some a∧H a=some (.lst ys)∧HdA K (hide a (hz zA H)) xs ys
 | .z,v=>∃ a,zA=some a∧v=.ref a
noncomputable def RvP (K:PySem.W.Frag) (zA:Option Addr) (H:Hp):S→V→Prop
 | .d x,v=>Hd K (hz zA H) x v
 | .fr xs,v=>Hd K (hz zA H) (.lst xs) v
 | .z,v=>∃ a,zA=some a∧v=.ref a
section
variable {K:PySem.W.Frag}{zA:Option Addr}{H0 H H':Hp}
theorem RvS.pl {s:S}{v:V} (h:RvS K zA H0 H s v):RvP K zA H s v:=by
 cases s with
 | d x=>exact h
 | z=>exact h
 | fr xs =>
  obtain ⟨a,ys,rfl,_,h2,h3,h4⟩:=h
  exact Hd.lst (e00 h3 h2) (h4.same (j20 a _))
theorem RvP.plS {s:S}{v:V} (h:RvP K zA H s v):RvP K zA H (plS s) v:=by cases s <;> exact h
theorem RvP.mono {s:S}{v:V} (h:RvP K zA H s v) (e:Ext zA H H'):RvP K zA H' s v:=by
 cases s with
 | d x=>exact Hd.same e h
 | z=>exact h
 | fr xs=>exact Hd.same e h
theorem RvS.mono {s:S}{v:V} (h:RvS K zA H0 H s v) (e:Ext zA H H'):RvS K zA H0 H' s v:=by
 cases s with
 | d x=>exact Hd.same e h
 | z=>exact h
 | fr xs =>
  obtain ⟨a,ys,rfl,h1,h2,h3,h4⟩:=h
  exact ⟨a,ys,rfl,h1,h2,e.at h3 h2,h4.same (z10 fun b o _ q=>e b o q)⟩
theorem RvS.from {H1:Hp}{s:S}{v:V} (h:RvS K zA H1 H s v) (e:Ext zA H0 H1):RvS K zA H0 H s v:=by
 cases s with
 | d x=>exact h
 | z=>exact h
 | fr xs =>
  obtain ⟨a,ys,rfl,h1,h2,h3⟩:=h
  exact ⟨a,ys,rfl,e.free h1 h2,h2,h3⟩
theorem RvP.d_ {s:S}{v:V}{x:D} (h:RvP K zA H s v) (e:plD s=some x):Hd K (hz zA H) x v:=by
 cases s with
 | d y=>cases e;exact h
 | fr xs=>cases e;exact h
 | z=>cases e
end
noncomputable abbrev RvA (K:PySem.W.Frag) (zA:Option Addr) (H:Hp):List S→List V→Prop:=Paired (RvP K zA H)
theorem RvA.mono {K:PySem.W.Frag}{zA:Option Addr}{H H':Hp}{l:List S}{vs:List V} (h:RvA K zA H l vs) (e:Ext zA H H'):RvA K zA H' l vs:=Paired.Q81 h fun _ _ q=>q.mono e
theorem RvA.plS {K:PySem.W.Frag}{zA:Option Addr}{H:Hp}:∀ {l:List S}{vs:List V},RvA K zA H l vs→RvA K zA H (l.map plS) vs
 | _,_,.nil=>.nil
 | _,_,.cons r t=>.cons r.plS (RvA.plS t)
theorem RvA.ds {K:PySem.W.Frag}{zA:Option Addr}{H:Hp}:∀ {l:List S}{vs:List V}{ds:List D},RvA K zA H l vs→plA l=some ds→HdA K (hz zA H) ds vs
 | _,_,_,.nil,e=>by cases e;exact .nil
 | .d x::r,_,_,.cons h t,e=>by
  simp only [plA,Option.map_eq_some_iff] at e
  obtain ⟨l,e,rfl⟩:=e
  exact .cons h (RvA.ds t e)
 | .fr x::r,_,_,.cons h t,e=>by
  simp only [plA,Option.map_eq_some_iff] at e
  obtain ⟨l,e,rfl⟩:=e
  exact .cons h (RvA.ds t e)
 | .z::r,_,_,.cons h t,e=>by simp [plA] at e
theorem j40 {l:List S}{x:D} (h:pl l=some x):∃ s,l=[s]∧plD s=some x:=by
 unfold pl at h
 split at h
 ·exact ⟨_,rfl,h⟩
 ·exact ⟨_,rfl,h⟩
 ·cases h
theorem M.bind_some {α β:Type}{m:M α}{f:α→M β}{z:Z}{r:R β} (h:M.bind m f z=some r):(∃ a z1,m z=some (.ok a z1)∧f a z1=some r)∨(∃ c z1,m z=some (.er c z1)∧r=.er c z1):=by
 unfold M.bind at h
 split at h
 ·exact .inl ⟨_,_,by assumption,h⟩
 ·cases h;exact .inr ⟨_,_,by assumption,rfl⟩
 ·cases h
theorem M.a20 {α β:Type}{o:Option α}{f:α→M β}{z:Z}{r:R β} (h:M.bind (M.of o) f z=some r):∃ a,o=some a∧f a z=some r:=by
 cases o with
 | none=>cases h
 | some a=>exact ⟨a,rfl,h⟩
end Q
set_option exponentiation.threshold 5000
namespace Q
open PySem L2 PySem.Spec PyProof.Rows
variable [TB:Tb]
section
variable {K:PySem.W.Frag}{zA:Option Addr}{z:Z}{H:Hp}
theorem x71 {p:Addr}{o:HO} (hp:H p=none):a00 (hz zA H) (hide p (hz zA (upd H p o))):=fun b u e=>by
 obtain ⟨e1,e2⟩:=p20 e
 have hb:b≠p:=fun q=>by subst q;rw [hp] at e1;cases e1
 exact F90 (e00 (by rw [a30 hb];exact e1) e2 (p60 e)) hb
theorem h00 {H0:Hp}{i:Int}:RvS K zA H0 H (.d (.int i)) (.int i):=Hd.int (K:=K) (H:=hz zA H)
theorem h20 {H0:Hp}{b:Bool}:RvS K zA H0 H (.d (.bl b)) (.bl b):=Hd.bl (K:=K) (H:=hz zA H)
theorem t21 {H0:Hp}{x:D}{v:V} (h:Hd K (hz zA H) x v):RvS K zA H0 H (.d x) v:=h
theorem r90 {p:Addr}{xs:List D}{ys:List V} (st:d60 zA z H) (h:HdA K (hz zA H) xs ys) (hp:H p=none):RvS K zA H (upd H p (.lst ys)) (.fr xs) (.ref p) :=
 ⟨p,ys,rfl,hp,st.j51 hp,a90,h.same (x71 hp)⟩
theorem tupQ {xs:List D}{ys:List V}{Q:VK} (st:d60 zA z H) (h:HdA K (hz zA H) xs ys) (q:∀ v H',a00 H H'→RvS K zA H H' (.d (.tup xs)) v→Q v H'):w01 K H ys Q :=
 fun p H' sm hq=>q _ _ sm (t21 (Hd.tup ((st.same sm).J51 hq) (h.same (h30 sm))))
end
noncomputable def rD2 (K:PySem.W.Frag) (f:D→D→Option S):R2:=fun x y H Q=>∃ zA z dx dy s,d60 zA z H∧Hd K (hz zA H) dx x∧Hd K (hz zA H) dy y∧f dx dy=some s∧∀ v H',a00 H H'→RvS K zA H H' s v→Q v H'
noncomputable def rDn (K:PySem.W.Frag) (f:List D→Option S):List V→Hp→VK→Prop:=fun xs H Q=>∃ zA z ds s,d60 zA z H∧HdA K (hz zA H) ds xs∧f ds=some s∧∀ v H',a00 H H'→RvS K zA H H' s v→Q v H'
section
variable {X:Cx}
theorem bits_le {k:Int} (h:k.natAbs < c31):Builtin.Int.intBits k≤4000:=by
 unfold Builtin.Int.intBits
 split
 ·exact Nat.zero_le _
 ·have hn:k.natAbs < 2 ^ 4000:=h
  have:k.natAbs.log2 < 4000:=by
   rcases Nat.eq_zero_or_pos k.natAbs with h0 | hp
   ·rw [h0];decide
   ·exact (Nat.log2_lt (Nat.ne_of_gt hp)).mpr hn
  omega
theorem X41 {i j:Int} (hi:i.natAbs < c31) (hj:j.natAbs < c31):IntMulOk i j:=by
 have h1:=bits_le hi
 have h2:=bits_le hj
 unfold IntMulOk
 intro h
 rw [Bool.and_eq_true] at h
 have h3:=h.2
 unfold Builtin.Int.intTooBig at h3
 simp only [decide_eq_true_eq] at h3
 have:(8000:Nat) < bitsLine:=by decide
 omega
theorem j61 {i j:Int} (hj:j.natAbs < c31):Builtin.divisionGoesByPylong i j=false:=by
 refine PyProof.noPylong_of_log2 ?_
 rcases Nat.eq_zero_or_pos j.natAbs with h0 | hp
 ·rw [h0];decide
 ·have:j.natAbs.log2 < 4000:=(Nat.log2_lt (Nat.ne_of_gt hp)).mpr hj
  omega
theorem e90 {n:Nat} (h:n≤most):n≤sizeLine:=Nat.le_trans h (by rw [sizeLine_eq];decide)
noncomputable def l62 (K:PySem.W.Frag):R2:=fun x y H Q=>∃ l b xs zs,x=.ref l∧y=.ref b∧r00 K H l xs∧r00 K H b zs∧xs.length + zs.length≤sizeLine∧∀ p,H p=none→Q (.ref p) (upd H p (.lst (xs++zs)))
noncomputable def l72 (K:PySem.W.Frag):R2:=fun x y H Q=>∃ l k xs,x=.ref l∧y=.int k∧r00 K H l xs∧-(2 ^ 63)≤k∧k < 2 ^ 63∧xs.length * k.toNat≤sizeLine∧∀ p,H p=none→Q (.ref p) (upd H p (.lst (List.replicate k.toNat xs).flatten))
theorem J61:OpR X (binaryOp .Add) (l62 X.K):=by
 intro pins s σ H x y v u Q I rx ry h
 obtain ⟨l,b,xs,zs,rfl,rfl,hH,hB,hz,q⟩:=h
 cases rx
 cases ry
 obtain ⟨z,its,n,r,hl,e⟩:=hH.mem I
 obtain ⟨z2,its2,n2,r2,hl2,e2⟩:=hB.mem I
 refine PySem.P.add_list e e2 ?_ (by rw [List.size_toArray,List.size_toArray];omega)
 have ea:its.toArray++its2.toArray=(its++its2).toArray:=by simp
 rw [ea]
 exact ⟨.ref _,_,I.k62 (t':=s.toks) (r.append r2) (by rw [List.length_append];omega),rfl,q _ I.fresh⟩
theorem J71:OpR X (binaryOp .Mult) (l72 X.K):=by
 intro pins s σ H x y v u Q I rx ry h
 obtain ⟨l,k,xs,rfl,rfl,hH,h1,h2,hz,q⟩:=h
 cases rx
 obtain ⟨t,rfl⟩:=ry
 obtain ⟨z,its,n,r,hl,e⟩:=hH.mem I
 have hlen:its.toArray.size * k.toNat≤sizeLine:=by rw [List.size_toArray,← hl];exact hz
 have hcap:¬ its.toArray.size * k.toNat > (2 ^ 63 - 1) / 8:=by
  have:(sizeLine:Nat)≤(2 ^ 63 - 1) / 8:=by decide
  omega
 have hfit:¬ (!Builtin.List.listFitsIndex k)=true:=by
  rw [fitsIndex_both h1 h2]
  exact Bool.false_ne_true
 have hlong:¬ Builtin.List.listTooLong (its.toArray.size * k.toNat)=true:=by
  rw [W50 hlen]
  exact Bool.false_ne_true
 have hnew:List.foldl (fun x1 x2=>x1++x2) #[] (List.replicate (if its.toArray.isEmpty=true then 0 else k.toNat) its.toArray)=(List.replicate k.toNat its).flatten.toArray:=by
  have f0:∀ m:Nat,List.foldl (fun x1 x2=>x1++x2) #[] (List.replicate m its.toArray)=(List.replicate m its).flatten.toArray:=fun m=>by
   have:=foldl_rep its m []
   rw [List.nil_append] at this
   exact this
  rw [f0]
  cases its with
  | nil=>simp
  | cons a r'=>rw [if_neg (by simp)]
 refine wpAny_binaryOp_repeat_ref (T:="list") (U:="int") (by decide) ⟨_,e,rfl⟩ (fun s'=>typeIs_int s' k t) noFill_list_mul F.fills_int_mul F.slot_int_rmul repeat_list F.slot_int_index.lookup
  (call_meets F.slot_int_rmul (typeIs_int s k t) F.entry_int_rmul (F.args_int_rmul_2 _ _) (int___rmul___int_list k t l its.toArray n)
   ⟨e,rfl,⟨_,e,rfl⟩,call_meets F.slot_list_mul ⟨_,e,rfl⟩ F.entry_list_mul (F.args_list_mul_2 _ _) (AutoListH.list___mul___list_int_3 l its.toArray n k t hfit hcap hlong) ⟨e,?_⟩⟩)
 rw [hnew]
 exact ⟨.ref _,_,I.k62 (t':=s.toks) (r.rep k.toNat) (by rw [len_rep,Nat.mul_comm];exact hz),rfl,q _ I.fresh⟩
theorem J81:OpR X (binaryOp .Add) (rD2 X.K (q40 .add)):=by
 intro pins s σ H x y v u Q I rx ry h
 obtain ⟨zA,z,dx,dy,w,st,hx,hy,e,q⟩:=h
 cases dx with
 | int i =>
  cases dy with
  | int j =>
   cases e;cases hx.i50;cases hy.i50
   exact T81 pins s σ H _ _ v u Q I rx ry ⟨i,j,rfl,rfl,q _ _ (a00.refl H) h00⟩
  | _=>cases e
 | tup a =>
  cases dy with
  | tup b =>
   obtain ⟨hl,e⟩:=e80 e
   cases e
   obtain ⟨p,xs,rfl,h1,h2⟩:=hx.D00
   obtain ⟨p',ys,rfl,h3,h4⟩:=hy.D00
   exact I01 pins s σ H _ _ v u Q I rx ry ⟨p,p',xs,ys,rfl,rfl,(a10 zA H).sqT h1,(a10 zA H).sqT h3,e90 (by rw [h2.length,h4.length];exact hl),tupQ st (h2.append h4) q⟩
  | _=>cases e
 | lst a =>
  cases dy with
  | lst b =>
   obtain ⟨hl,e⟩:=e80 e
   cases e
   obtain ⟨p,xs,rfl,h1,h2⟩:=hx.c61
   obtain ⟨p',ys,rfl,h3,h4⟩:=hy.c61
   exact J61 pins s σ H _ _ v u Q I rx ry ⟨p,p',xs,ys,rfl,rfl,h1.same (a10 zA H),h3.same (a10 zA H),e90 (by rw [h2.length,h4.length];exact hl),fun r hr=>q _ _ (a00.new _ hr) (r90 st (h2.append h4) hr)⟩
  | _=>cases e
 | _=>cases e
theorem J91:OpR X (binaryOp .Sub) (rD2 X.K (q40 .sub)):=by
 intro pins s σ H x y v u Q I rx ry h
 obtain ⟨zA,z,dx,dy,w,st,hx,hy,e,q⟩:=h
 cases dx with
 | int i =>
  cases dy with
  | int j =>
   cases e;cases hx.i50;cases hy.i50
   exact T91 pins s σ H _ _ v u Q I rx ry ⟨i,j,rfl,rfl,q _ _ (a00.refl H) h00⟩
  | _=>cases e
 | _=>cases e
theorem K01:OpR X (binaryOp .Mult) (rD2 X.K (q40 .mul)):=by
 intro pins s σ H x y v u Q I rx ry h
 obtain ⟨zA,z,dx,dy,w,st,hx,hy,e,q⟩:=h
 cases dx with
 | int i =>
  cases dy with
  | int j =>
   obtain ⟨hl,e⟩:=e80 e
   cases e;cases hx.i50;cases hy.i50
   obtain ⟨t,rfl⟩:=rx
   obtain ⟨t',rfl⟩:=ry
   exact mul_int ⟨.int (i * j),H,I.tok _,⟨_,rfl⟩,q _ _ (a00.refl H) h00⟩ (X41 hl.1 hl.2)
  | _=>cases e
 | tup a =>
  cases dy with
  | int j =>
   obtain ⟨hl,e⟩:=e80 e
   cases e;cases hy.i50
   obtain ⟨p,xs,rfl,h1,h2⟩:=hx.D00
   exact I11 pins s σ H _ _ v u Q I rx ry ⟨p,j,xs,rfl,rfl,(a10 zA H).sqT h1,hl.1,hl.2.2,e90 (by rw [h2.length];exact hl.2.1),tupQ st (h2.rep _) q⟩
  | _=>cases e
 | lst a =>
  cases dy with
  | int j =>
   obtain ⟨hl,e⟩:=e80 e
   cases e;cases hy.i50
   obtain ⟨p,xs,rfl,h1,h2⟩:=hx.c61
   exact J71 pins s σ H _ _ v u Q I rx ry ⟨p,j,xs,rfl,rfl,h1.same (a10 zA H),by omega,by omega,e90 (by rw [h2.length,Nat.mul_comm];exact hl.2.1),fun r hr=>q _ _ (a00.new _ hr) (r90 st (h2.rep _) hr)⟩
  | _=>cases e
 | _=>cases e
theorem x81:OpR X (binaryOp .FloorDiv) (rD2 X.K (q40 .fdiv)):=by
 intro pins s σ H x y v u Q I rx ry h
 obtain ⟨zA,z,dx,dy,w,st,hx,hy,e,q⟩:=h
 cases dx with
 | int i =>
  cases dy with
  | int j =>
   obtain ⟨hl,e⟩:=e80 e
   cases e;cases hx.i50;cases hy.i50
   obtain ⟨t,rfl⟩:=rx
   obtain ⟨t',rfl⟩:=ry
   refine floordiv_int (by omega) ⟨.int (i / j),H,I.tok _,⟨s.toks,?_⟩,q _ _ (a00.refl H) h00⟩ (.inl (j61 hl.2))
   rw [Int.fdiv_eq_ediv_of_nonneg _ (by omega)]
  | _=>cases e
 | _=>cases e
theorem K11:OpR X (binaryOp .Mod) (rD2 X.K (q40 .mod)):=by
 intro pins s σ H x y v u Q I rx ry h
 obtain ⟨zA,z,dx,dy,w,st,hx,hy,e,q⟩:=h
 cases dx with
 | int i =>
  cases dy with
  | int j =>
   obtain ⟨hl,e⟩:=e80 e
   cases e;cases hx.i50;cases hy.i50
   exact U01 pins s σ H _ _ v u Q I rx ry ⟨i,j,rfl,rfl,hl,q _ _ (a00.refl H) h00⟩
  | _=>cases e
 | _=>cases e
theorem K21:OpR X (binaryOp .Pow) (rD2 X.K (q40 .pow)):=by
 intro pins s σ H x y v u Q I rx ry h
 obtain ⟨zA,z,dx,dy,w,st,hx,hy,e,q⟩:=h
 cases dx with
 | int i =>
  cases dy with
  | int j =>
   obtain ⟨hl,e⟩:=e80 e
   cases e;cases hx.i50;cases hy.i50
   exact U11 pins s σ H _ _ v u Q I rx ry ⟨i,j,rfl,rfl,⟨hl.1,by omega,hl.2.2⟩,q _ _ (a00.refl H) h00⟩
  | _=>cases e
 | _=>cases e
theorem K31:OpR X (binaryOp .LShift) (rD2 X.K (q40 .shl)):=by
 intro pins s σ H x y v u Q I rx ry h
 obtain ⟨zA,z,dx,dy,w,st,hx,hy,e,q⟩:=h
 cases dx with
 | int i =>
  cases dy with
  | int j =>
   obtain ⟨hl,e⟩:=e80 e
   cases e;cases hx.i50;cases hy.i50
   exact U21 pins s σ H _ _ v u Q I rx ry ⟨i,j,rfl,rfl,⟨hl.1,by omega,hl.2.2⟩,q _ _ (a00.refl H) h00⟩
  | _=>cases e
 | _=>cases e
theorem x91:OpR X (binaryOp .BitAnd) (rD2 X.K (q40 .band)):=by
 intro pins s σ H x y v u Q I rx ry h
 obtain ⟨zA,z,dx,dy,w,st,hx,hy,e,q⟩:=h
 cases dx with
 | int i =>
  cases dy with
  | int j =>
   cases e;cases hx.i50;cases hy.i50
   exact U31 pins s σ H _ _ v u Q I rx ry ⟨i,j,rfl,rfl,q _ _ (a00.refl H) h00⟩
  | _=>cases e
 | _=>cases e
noncomputable def opB:Bi→Operator
 | .add=>.Add | .sub=>.Sub | .mul=>.Mult | .fdiv=>.FloorDiv | .mod=>.Mod | .pow=>.Pow | .shl=>.LShift | .band=>.BitAnd
theorem opD (o:Bi):OpR X (binaryOp (opB o)) (rD2 X.K (q40 o)):=by
 cases o
 ·exact J81
 ·exact J91
 ·exact K01
 ·exact x81
 ·exact K11
 ·exact K21
 ·exact K31
 ·exact x91
mutual
noncomputable def toP:D→PyData
 | .non=>.none
 | .bl b=>.bool b
 | .int i=>.int i
 | .str x=>.str x
 | .tup l=>.tuple (J90 l)
 | .lst l=>.list (J90 l)
 | .dct=>.none
noncomputable def J90:List D→List PyData
 | []=>[]
 | x::r=>toP x::J90 r
end
end
end Q
namespace Q
open PySem L2 PySem.Spec PyProof.Rows
variable [TB:Tb]
mutual
theorem M90:∀ a b:D,p10 a=true→p10 b=true→PyData.eqv (toP a) (toP b)=eqD a b
 | .non,b,_,h=>by cases b <;> first | rfl | (simp [p10] at h)
 | .bl _,b,_,h=>by cases b <;> first | rfl | (simp [p10] at h)
 | .int _,b,_,h=>by cases b <;> first | rfl | (simp [p10] at h)
 | .str _,b,_,h=>by cases b <;> first | rfl | (simp [p10] at h)
 | .tup l,b,ha,h=>by
  cases b with
  | tup q =>
   exact S70 l q (by simpa [p10] using ha) (by simpa [p10] using h)
  | dct=>simp [p10] at h
  | _=>rfl
 | .lst l,b,ha,h=>by
  cases b with
  | lst q =>
   exact S70 l q (by simpa [p10] using ha) (by simpa [p10] using h)
  | dct=>simp [p10] at h
  | _=>rfl
 | .dct,_,h,_=>by simp [p10] at h
theorem S70:∀ a b:List D,f70 a=true→f70 b=true→PyData.eqvAll (J90 a) (J90 b)=J21 a b
 | [],[],_,_=>rfl
 | [],_::_,_,_=>rfl
 | _::_,[],_,_=>rfl
 | x::r,y::q,ha,hb=>by
  simp only [f70,Bool.and_eq_true] at ha hb
  simp only [J90,PyData.eqvAll,J21]
  rw [M90 x y ha.1 hb.1,S70 r q ha.2 hb.2]
end
mutual
theorem u90:∀ a:D,p10 a=true→(toP a).canLay0=true
 | .non,_=>rfl
 | .bl _,_=>rfl
 | .int _,_=>rfl
 | .str _,h=>h
 | .tup l,h=>q60 l h
 | .lst l,h=>q60 l h
 | .dct,h=>by cases h
theorem q60:∀ a:List D,f70 a=true→PyData.canLayAll0 (J90 a)=true
 | [],_=>rfl
 | x::r,h=>by
  simp only [f70,Bool.and_eq_true] at h
  simp only [J90,PyData.canLayAll0,u90 x h.1,q60 r h.2,Bool.and_self]
end
mutual
theorem G70:∀ a:D,(toP a).depth=deep a
 | .non=>rfl
 | .bl _=>rfl
 | .int _=>rfl
 | .str _=>rfl
 | .tup l=>congrArg (· + 1) (G80 l)
 | .lst l=>congrArg (· + 1) (G80 l)
 | .dct=>rfl
theorem G80:∀ a:List D,PyData.depthAll (J90 a)=f30 a
 | []=>rfl
 | x::r=>by
  simp only [J90,PyData.depthAll,f30]
  rw [G70 x,G80 r]
end
noncomputable def c71 (h:Heap) (u:Value) (d:D):Prop:=p10 d=true∧∃ as,Reads h u (toP d) as
noncomputable def f00 (h:Heap) (us:List Value) (ds:List D):Prop:=f70 ds=true∧∃ as,ReadsAll h us (J90 ds) as
section
variable {X:Cx}{pins:List (Addr × Obj)}{σ:L2.St}{H:Hp}{s:Shared}
mutual
theorem j50 (I:Inv X pins σ H s):∀ {d:D}{v:V}{u:Value},Hd X.K H d v→RelV v u→p10 d=true→∃ as,Reads s.heap u (toP d) as
 | .non,_,_,h,r,_=>by cases h.X31;cases r;exact ⟨_,.none⟩
 | .bl b,_,_,h,r,_=>by cases h.bl_;cases r;exact ⟨_,.bool b⟩
 | .int i,_,_,h,r,_=>by cases h.i50;obtain ⟨t,rfl⟩:=r;exact ⟨_,.int i t⟩
 | .str x,_,_,h,r,_=>by cases h.l52;obtain ⟨t,rfl⟩:=r;exact ⟨_,.str x t⟩
 | .tup l,_,_,h,r,f=>by
  obtain ⟨a,xs,rfl,h1,h2⟩:=h.D00
  cases r
  obtain ⟨its,rv,⟨o,e1,e2,n,e3⟩,_⟩:=I.tuple h1
  obtain ⟨as,ra⟩:=G90 I h2 rv f
  exact ⟨_,.tuple e1 e2 e3 (by simpa using ra)⟩
 | .lst l,_,_,h,r,f=>by
  obtain ⟨a,xs,rfl,h1,h2⟩:=h.c61
  cases r
  obtain ⟨its,rv,⟨o,n,e1,e2,_,e3⟩,_⟩:=I.list h1.sq
  obtain ⟨as,ra⟩:=G90 I h2 rv f
  exact ⟨_,.list e1 e2 e3 (by simpa using ra)⟩
 | .dct,_,_,_,_,f=>by cases f
theorem G90 (I:Inv X pins σ H s):∀ {ds:List D}{vs:List V}{us:List Value},HdA X.K H ds vs→Vals vs us→f70 ds=true→∃ as,ReadsAll s.heap us (J90 ds) as
 | [],_,_,h,r,_=>by cases h.g90;cases r;exact ⟨_,.nil⟩
 | d::ds,_,_,h,r,f=>by
  obtain ⟨x,xs,rfl,h1,h2⟩:=h.c00
  cases r with
  | cons r1 r2 =>
   simp only [f70,Bool.and_eq_true] at f
   obtain ⟨_,a1⟩:=j50 I h1 r1 f.1
   obtain ⟨_,a2⟩:=G90 I h2 r2 f.2
   exact ⟨_,.cons a1 a2⟩
end
end
theorem n80 {d:D} (h:okD d=true):p10 d=true∧SeqAt.shaped (toP d)=true:=by
 unfold okD at h
 rw [Bool.and_eq_true,decide_eq_true_eq] at h
 refine ⟨h.1,?_⟩
 unfold SeqAt.shaped
 rw [u90 d h.1,G70,Bool.true_and,decide_eq_true_eq]
 omega
section
variable {X:Cx}
theorem X51 (hu:X.A.units + 64 < cLine):OpR X (compareOp .Eq) (rD2 X.K fun a b=>(eqO a b).map fun c=>.d (.bl c)):=by
 intro pins s σ H x y v u Q I rx ry h
 obtain ⟨zA,z,dx,dy,w,st,hx,hy,e,q⟩:=h
 unfold eqO at e
 dsimp only at e
 split at e
 ·rename_i ok
  cases e
  rw [Bool.and_eq_true] at ok
  obtain ⟨f1,s1⟩:=n80 ok.1
  obtain ⟨f2,s2⟩:=n80 ok.2
  obtain ⟨as,r1⟩:=j50 I (hx.same (a10 zA H)) rx f1
  obtain ⟨bs,r2⟩:=j50 I (hy.same (a10 zA H)) ry f2
  exact eq_dataH r1 r2 s1 s2 hu ⟨.bl _,H,I,rfl,by rw [M90 dx dy f1 f2];exact q _ _ (a00.refl H) h20⟩
 ·cases e
theorem X61 (hu:X.A.units + 64 < cLine):OpR X (compareOp .NotEq) (rD2 X.K fun a b=>(eqO a b).map fun c=>.d (.bl !c)):=by
 intro pins s σ H x y v u Q I rx ry h
 obtain ⟨zA,z,dx,dy,w,st,hx,hy,e,q⟩:=h
 unfold eqO at e
 dsimp only at e
 split at e
 ·rename_i ok
  cases e
  rw [Bool.and_eq_true] at ok
  obtain ⟨f1,s1⟩:=n80 ok.1
  obtain ⟨f2,s2⟩:=n80 ok.2
  obtain ⟨as,r1⟩:=j50 I (hx.same (a10 zA H)) rx f1
  obtain ⟨bs,r2⟩:=j50 I (hy.same (a10 zA H)) ry f2
  exact ne_dataH r1 r2 s1 s2 hu ⟨.bl _,H,I,rfl,by rw [M90 dx dy f1 f2];exact q _ _ (a00.refl H) h20⟩
 ·cases e
theorem K41 (hu:X.A.units + 64 < cLine):OpR X (compareOp .NotEq) (rD2 X.K fun a b=>(neO a b).map fun c=>.d (.bl c)):=by
 intro pins s σ H x y v u Q I rx ry h
 obtain ⟨zA,z,dx,dy,w,st,hx,hy,e,q⟩:=h
 unfold neO at e
 dsimp only at e
 split at e
 ·cases e
  unfold Hd at hx
  obtain ⟨a,kvs,rfl,h1⟩:=hx
  obtain ⟨b,xs,rfl,h2,_⟩:=hy.D00
  exact I51 hu pins s σ H _ _ v u Q I rx ry ⟨a,b,kvs,xs,rfl,rfl,(p20 h1).1,(a10 zA H).sqT h2,q _ _ (a00.refl H) h20⟩
 ·refine X61 hu pins s σ H _ _ v u Q I rx ry ⟨zA,z,dx,dy,w,st,hx,hy,?_,q⟩
  rw [← e,Option.map_map]
  rfl
end
theorem H00 {l:List D} (h:G60 l=true):f70 l=true∧f30 l≤39:=by
 unfold G60 at h
 rw [Bool.and_eq_true,decide_eq_true_eq] at h
 exact h
theorem H10 {d:D} (h:okD d=true):deep d≤40:=by
 unfold okD at h
 rw [Bool.and_eq_true,decide_eq_true_eq] at h
 exact h.2
theorem z80 (x:D) (fx:p10 x=true):∀ l:List D,f70 l=true→((J90 l).any fun y=>PyData.eqv y (toP x))=memD x l
 | [],_=>rfl
 | y::r,h=>by
  simp only [f70,Bool.and_eq_true] at h
  show (PyData.eqv (toP y) (toP x) || (J90 r).any fun y=>PyData.eqv y (toP x))=(eqD y x || memD x r)
  rw [M90 y x h.1 fx,z80 x fx r h.2]
section
variable {X:Cx}
theorem H20 {x:D}{l:List D}{b:Bool} (h:R01 x l=some b):okD x=true∧G60 l=true∧b=memD x l:=by
 unfold R01 at h
 split at h
 ·rename_i ok
  rw [Bool.and_eq_true] at ok
  cases h
  exact ⟨ok.1,ok.2,rfl⟩
 ·cases h
theorem room_in {A:Around} (hu:A.units + 64 < cLine) {l:List D}{x:D} (h:okD x=true):A.units + 1 + min (PyData.depthAll (J90 l)) (toP x).depth < cLine:=by
 have h1:=H10 h
 have h2:min (PyData.depthAll (J90 l)) (toP x).depth≤(toP x).depth:=Nat.min_le_right _ _
 have h3:=G70 x
 omega
theorem K51 (hu:X.A.units + 64 < cLine):OpR X (compareOp .In) (rD2 X.K fun a b=>(k80 .mem a b).map fun c=>.d (.bl c)):=by
 intro pins s σ H x y v u Q I rx ry h
 obtain ⟨zA,z,dx,dy,w,st,hx,hy,e,q⟩:=h
 cases dy with
 | tup l =>
  obtain ⟨b,e1,e2⟩:=Option.map_eq_some_iff.mp e
  subst e2
  obtain ⟨o1,o2,rfl⟩:=H20 e1
  obtain ⟨f2,_⟩:=H00 o2
  obtain ⟨f1,_⟩:=n80 o1
  obtain ⟨as,r1⟩:=j50 I (hx.same (a10 zA H)) rx f1
  obtain ⟨bs,r2⟩:=j50 I (hy.same (a10 zA H)) ry (by simpa [p10] using f2)
  exact SeqAt.in_tuple_reads r2 r1 (q60 l f2) (u90 dx f1) (room_in hu o1) ⟨.bl _,H,I,rfl,by rw [z80 dx f1 l f2];exact q _ _ (a00.refl H) h20⟩
 | lst l =>
  obtain ⟨b,e1,e2⟩:=Option.map_eq_some_iff.mp e
  subst e2
  obtain ⟨o1,o2,rfl⟩:=H20 e1
  obtain ⟨f2,_⟩:=H00 o2
  obtain ⟨f1,_⟩:=n80 o1
  obtain ⟨as,r1⟩:=j50 I (hx.same (a10 zA H)) rx f1
  obtain ⟨bs,r2⟩:=j50 I (hy.same (a10 zA H)) ry (by simpa [p10] using f2)
  exact SeqAt.in_list_reads r2 r1 (q60 l f2) (u90 dx f1) (room_in hu o1) ⟨.bl _,H,I,rfl,by rw [z80 dx f1 l f2];exact q _ _ (a00.refl H) h20⟩
 | _=>cases e
theorem y01 (hu:X.A.units + 64 < cLine):OpR X (compareOp .NotIn) (rD2 X.K fun a b=>(k80 .nmem a b).map fun c=>.d (.bl c)):=by
 intro pins s σ H x y v u Q I rx ry h
 obtain ⟨zA,z,dx,dy,w,st,hx,hy,e,q⟩:=h
 cases dy with
 | tup l =>
  obtain ⟨b,e1,e2⟩:=Option.map_eq_some_iff.mp e
  subst e2
  obtain ⟨b',e3,rfl⟩:=Option.map_eq_some_iff.mp e1
  obtain ⟨o1,o2,rfl⟩:=H20 e3
  obtain ⟨f2,_⟩:=H00 o2
  obtain ⟨f1,_⟩:=n80 o1
  obtain ⟨as,r1⟩:=j50 I (hx.same (a10 zA H)) rx f1
  obtain ⟨bs,r2⟩:=j50 I (hy.same (a10 zA H)) ry (by simpa [p10] using f2)
  exact SeqAt.notIn_tuple_reads r2 r1 (q60 l f2) (u90 dx f1) (room_in hu o1) ⟨.bl _,H,I,rfl,by rw [z80 dx f1 l f2];exact q _ _ (a00.refl H) h20⟩
 | lst l =>
  obtain ⟨b,e1,e2⟩:=Option.map_eq_some_iff.mp e
  subst e2
  obtain ⟨b',e3,rfl⟩:=Option.map_eq_some_iff.mp e1
  obtain ⟨o1,o2,rfl⟩:=H20 e3
  obtain ⟨f2,_⟩:=H00 o2
  obtain ⟨f1,_⟩:=n80 o1
  obtain ⟨as,r1⟩:=j50 I (hx.same (a10 zA H)) rx f1
  obtain ⟨bs,r2⟩:=j50 I (hy.same (a10 zA H)) ry (by simpa [p10] using f2)
  exact SeqAt.notIn_list_reads r2 r1 (q60 l f2) (u90 dx f1) (room_in hu o1) ⟨.bl _,H,I,rfl,by rw [z80 dx f1 l f2];exact q _ _ (a00.refl H) h20⟩
 | _=>cases e
end
end Q
namespace Q
open PySem L2 PySem.Spec PyProof.Rows
variable [TB:Tb]
noncomputable def l82 (A:Around) (s:Shared) (v u:Value) (b:Bool):Prop:=∀ (P:Program) (w:World) (E:Value→Shared→Prop) (Q:Value→Shared→Prop),Q (.bool b) s→wpAny (model P w) A (richCompare .Lt v u) Q E s
section
open PySem.SeqAt
open PySem.AutoSeq1 (wpAny_loadPart')
open PySem.MeetsSeq PySem.MeetsSeq2 PySem.MeetsSeq3
inductive Lx (A:Around) (s:Shared):List Value→List Value→Bool→Prop
 | nn:Lx A s [] [] false
 | nc {u us}:Lx A s [] (u::us) true
 | cn {v vs}:Lx A s (v::vs) [] false
 | eq {v u vs us b}:EqAt A s v u true→Lx A s vs us b→Lx A s (v::vs) (u::us) b
 | ne {v u vs us b}:EqAt A s v u false→l82 A s v u b→Lx A s (v::vs) (u::us) b
theorem S80 (l b:Addr) (items items2:Array Value) (n n2:Nat) (dd dd2:Option Addr) (sl sl2:Array (Option Value)) (c:Bool) :
  Meets (Builtin.«tuple.__lt__» ⟨[.ref l,.ref b],[]⟩)
   (fun A R s=>s.heap.get? l=some { cls:=.type "tuple",dict:=dd,data:=.seq items n,slots:=sl }∧s.heap.get? b=some { cls:=.type "tuple",dict:=dd2,data:=.seq items2 n2,slots:=sl2 } ∧
    Lx A.in1 s items.toList items2.toList c∧R (.ok (.ret (.bool c))) s) :=
 .of_wp fun prog w A R s h=>by
  obtain ⟨hp,g,d,tk,os⟩:=s;obtain ⟨hl,hb,hx,h⟩:=h
  have f2:=AutoSeq1.sub_tuple_tuple
  wp_walk using wpAny_loadPart' hl,wpAny_loadPart' hb,wpAny_forIn_list _ (fun rest b s'=>b.1=none∧s'=⟨hp,g,d,tk,os⟩∧∃ (vs ws:List Value),rest=vs.zip ws ∧
   vs.length + items2.size=ws.length + items.size∧Lx A.in1 ⟨hp,g,d,tk,os⟩ vs ws c) _
  case turn =>
   rintro ⟨y,x⟩ rest b s' ⟨hb',rfl,vs,ws,hz,hlen,hR⟩
   cases hR with
   | nn=>rw [List.zip_nil_left] at hz;cases hz
   | nc=>rw [List.zip_nil_left] at hz;cases hz
   | cn=>rw [List.zip_nil_right] at hz;cases hz
   | eq he hr =>
    rw [List.zip_cons_cons] at hz
    injection hz with hyx hrest
    injection hyx with hy hx'
    subst hy hx'
    simp only [List.length_cons] at hlen
    refine wpAny_bind (he prog w _ _ ?_)
    wp_walk
    exact ⟨rfl,rfl,_,_,hrest,by omega,hr⟩
   | ne he hr =>
    rw [List.zip_cons_cons] at hz
    injection hz with hyx hrest
    injection hyx with hy hx'
    subst hy hx'
    refine wpAny_bind (he prog w _ _ ?_)
    have hri:=fun E Q q=>hr prog w E Q q
    wp_walk using hri
    exact ⟨_,rfl,by simpa using h⟩
  case fin =>
   rintro ⟨b1,b2⟩ s' ⟨hb',rfl,vs,ws,hz,hlen,hR⟩
   simp only at hb'
   subst hb'
   have hv:c=decide (items.size < items2.size):=by
    cases hR with
    | nn=>simp only [List.length_nil] at hlen;exact (decide_eq_false (by omega)).symm
    | nc=>simp only [List.length_nil,List.length_cons] at hlen;exact (decide_eq_true (by omega)).symm
    | cn=>simp only [List.length_nil,List.length_cons] at hlen;exact (decide_eq_false (by omega)).symm
    | eq he hr=>rw [List.zip_cons_cons] at hz;cases hz
    | ne he hr=>rw [List.zip_cons_cons] at hz;cases hz
   rw [hv] at h
   wp_walk
   exact ⟨_,rfl,by simpa [Builtin.Tuple.tupleCompareSizes] using h⟩
  case h =>
   exact ⟨rfl,rfl,items.toList,items2.toList,rfl,by simp;omega,hx⟩
end
theorem j71 {A:Around}{s:Shared}{l b:Addr}{i1 i2:Array Value}{c:Bool} (hl:IsTup s.heap l i1) (hb:IsTup s.heap b i2) (hu:A.units < cLine) (hx:Lx A.in1 s i1.toList i2.toList c):l82 A s (.ref l) (.ref b) c:=by
 intro P w E Q h
 obtain ⟨⟨cls,dd,data,sl⟩,ho,hc,n,hd⟩:=id hl;obtain ⟨⟨cls2,dd2,data2,sl2⟩,ho2,hc2,n2,hd2⟩:=id hb
 simp only at hc hd hc2 hd2;subst hc hd hc2 hd2
 exact richCompare_meets_room (op:=.Lt) ⟨_,ho,rfl⟩ ⟨_,ho2,rfl⟩ PySem.F.slot_tuple_lt PySem.F.entry_tuple_lt (PySem.F.args_tuple_lt_2 _ _) (S80 l b i1 i2 n n2 dd dd2 sl sl2 c)
  ⟨ho,ho2,hx,show Value.bool c≠Value.notImplemented∧Q (.bool c) s from ⟨(fun x=>nomatch x),h⟩⟩ hu
theorem X71 {A:Around}{s:Shared}{v u:Value}{a b:D} (ha:c71 s.heap v a) (hb:c71 s.heap u b) (hu:A.units + deep a < cLine):SeqAt.EqAt A s v u (eqD a b):=by
 obtain ⟨f1,as,r1⟩:=ha
 obtain ⟨f2,bs,r2⟩:=hb
 rw [← M90 a b f1 f2]
 have h:=G70 a
 have h2:min (toP a).depth (toP b).depth≤(toP a).depth:=Nat.min_le_left _ _
 exact SeqAt.eqAt_reads (toP a) (toP b) A s v u as bs r1 r2 (u90 a f1) (u90 b f2) (by omega)
theorem f00.c00 {h:Heap}{us:List Value}{d:D}{ds:List D} (x:f00 h us (d::ds)):∃ u r,us=u::r∧c71 h u d∧f00 h r ds:=by
 obtain ⟨f,as,r⟩:=x
 simp only [f70,Bool.and_eq_true] at f
 cases r with
 | cons r1 r2=>exact ⟨_,_,rfl,⟨f.1,_,r1⟩,f.2,_,r2⟩
theorem f00.g90 {h:Heap}{us:List Value} (x:f00 h us []):us=[]:=by
 obtain ⟨_,as,r⟩:=x
 cases r;rfl
theorem in1_units (A:Around):A.in1.units=A.units + 1:=rfl
theorem X81:∀ (n:Nat) {A:Around}{s:Shared},
  (∀ (a b:D) (v u:Value) (c:Bool),deep a≤n→c71 s.heap v a→c71 s.heap u b→ltD a b=some c→A.units + n < cLine→l82 A s v u c) ∧
  (∀ (a b:List D) (vs us:List Value) (c:Bool),f30 a < n→f00 s.heap vs a→f00 s.heap us b→x41 a b=some c→A.units + n < cLine→Lx A.in1 s vs us c):=by
 intro n
 induction n with
 | zero =>
  intro A s
  refine ⟨fun a b v u c hd ha hb e hu=>?_,fun a b vs us c hd=>absurd hd (Nat.not_lt_zero _)⟩
  cases a with
  | int i =>
   cases b with
   | int j =>
    cases e
    obtain ⟨_,_,r1⟩:=ha
    obtain ⟨_,_,r2⟩:=hb
    cases r1;cases r2
    exact fun P w E Q h=>HT.W40 A s i _ j _ P w E Q h
   | _=>cases e
  | tup l=>simp [deep] at hd
  | _=>cases e
 | succ n ih =>
  have rows:∀ {A:Around}{s:Shared} (a b:List D) (vs us:List Value) (c:Bool),f30 a < n + 1→f00 s.heap vs a→f00 s.heap us b→x41 a b=some c→A.units + (n + 1) < cLine→Lx A.in1 s vs us c:=by
   intro A s a
   induction a with
   | nil =>
    intro b vs us c _ ha hb e hu
    cases ha.g90
    cases b with
    | nil=>cases hb.g90;cases e;exact .nn
    | cons y q=>obtain ⟨u,r,rfl,_⟩:=hb.c00;cases e;exact .nc
   | cons x r ihr =>
    intro b vs us c hd ha hb e hu
    obtain ⟨v,vs',rfl,a1,a2⟩:=ha.c00
    cases b with
    | nil=>cases hb.g90;cases e;exact .cn
    | cons y q =>
     obtain ⟨u,us',rfl,b1,b2⟩:=hb.c00
     simp only [f30] at hd
     have d1:deep x≤n:=Nat.le_of_lt_succ (Nat.lt_of_le_of_lt (Nat.le_max_left _ _) hd)
     have d2:f30 r < n + 1:=Nat.lt_of_le_of_lt (Nat.le_max_right _ _) hd
     have hu1:A.in1.units + n < cLine:=by rw [in1_units];omega
     have he:=X71 (A:=A.in1) a1 b1 (by omega)
     simp only [x41] at e
     cases hq:eqD x y with
     | true =>
      rw [hq] at he e
      exact .eq he (ihr q vs' us' c d2 a2 b2 (by simpa using e) hu)
     | false =>
      rw [hq] at he e
      exact .ne he ((ih (A:=A.in1) (s:=s)).1 x y v u c d1 a1 b1 (by simpa using e) hu1)
  intro A s
  refine ⟨fun a b v u c hd ha hb e hu=>?_,rows⟩
  cases a with
  | int i =>
   cases b with
   | int j =>
    cases e
    obtain ⟨_,_,r1⟩:=ha
    obtain ⟨_,_,r2⟩:=hb
    cases r1;cases r2
    exact fun P w E Q h=>HT.W40 A s i _ j _ P w E Q h
   | _=>cases e
  | tup l =>
   cases b with
   | tup q =>
    obtain ⟨f1,as,r1⟩:=ha
    obtain ⟨f2,bs,r2⟩:=hb
    simp only [deep] at hd
    cases r1 with
    | tuple k1 k2 k3 k4 =>
     cases r2 with
     | tuple m1 m2 m3 m4 =>
      exact j71 ⟨_,k1,k2,_,k3⟩ ⟨_,m1,m2,_,m3⟩ (by omega) (rows l q _ _ c (by omega) ⟨by simpa [p10] using f1,_,k4⟩ ⟨by simpa [p10] using f2,_,m4⟩ e hu)
   | _=>cases e
  | _=>cases e
section
variable {X:Cx}
theorem X91 {a b:D}{c:Bool} (h:ltO a b=some c):okD a=true∧okD b=true∧ltD a b=some c:=by
 unfold ltO at h
 split at h
 ·rename_i ok
  rw [Bool.and_eq_true] at ok
  exact ⟨ok.1,ok.2,h⟩
 ·cases h
theorem Y01 (hu:X.A.units + 64 < cLine):OpR X (compareOp .Lt) (rD2 X.K fun a b=>(k80 .lt a b).map fun c=>.d (.bl c)):=by
 intro pins s σ H x y v u Q I rx ry h
 obtain ⟨zA,z,dx,dy,w,st,hx,hy,e,q⟩:=h
 obtain ⟨b,e1,e2⟩:=Option.map_eq_some_iff.mp e
 subst e2
 obtain ⟨o1,o2,e3⟩:=X91 (show ltO dx dy=some b from e1)
 obtain ⟨f1,_⟩:=n80 o1
 obtain ⟨f2,_⟩:=n80 o2
 obtain ⟨as,r1⟩:=j50 I (hx.same (a10 zA H)) rx f1
 obtain ⟨bs,r2⟩:=j50 I (hy.same (a10 zA H)) ry f2
 exact (X81 40 (A:=X.A) (s:=s)).1 dx dy v u b (H10 o1) ⟨f1,as,r1⟩ ⟨f2,bs,r2⟩ e3 (by omega) _ _ _ _ ⟨.bl b,H,I,rfl,q _ _ (a00.refl H) h20⟩
theorem S90 {K:PySem.W.Frag}{H:Hp}:∀ {l:List D}{ns:List Int}{vs:List V},B60 l=some ns→HdA K H l vs→vs=ns.map V.int∧l=ns.map D.int
 | [],_,_,e,h=>by cases e;rw [h.g90];exact ⟨rfl,rfl⟩
 | .int i::r,_,_,e,h=>by
  obtain ⟨ms,e1,rfl⟩:=Option.map_eq_some_iff.mp e
  obtain ⟨x,xs,rfl,h1,h2⟩:=h.c00
  cases h1.i50
  obtain ⟨rfl,rfl⟩:=S90 e1 h2
  exact ⟨rfl,rfl⟩
 | .non::_,_,_,e,_=>by cases e
 | .bl _::_,_,_,e,_=>by cases e
 | .str _::_,_,_,e,_=>by cases e
 | .tup _::_,_,_,e,_=>by cases e
 | .lst _::_,_,_,e,_=>by cases e
 | .dct::_,_,_,e,_=>by cases e
theorem Y11 (hu:X.A.units + 64 < cLine):OpR X (compareOp .LtE) (rD2 X.K fun a b=>(k80 .le a b).map fun c=>.d (.bl c)):=by
 intro pins s σ H x y v u Q I rx ry h
 obtain ⟨zA,z,dx,dy,w,st,hx,hy,e,q⟩:=h
 cases dx with
 | int i =>
  cases dy with
  | int j =>
   cases e;cases hx.i50;cases hy.i50
   exact j82 pins s σ H _ _ v u Q I rx ry ⟨i,j,rfl,rfl,q _ _ (a00.refl H) h20⟩
  | _=>cases e
 | tup a =>
  cases dy with
  | tup b =>
   obtain ⟨c,e1,e2⟩:=Option.map_eq_some_iff.mp e
   subst e2
   obtain ⟨ns,n1,e1⟩:=Option.bind_eq_some_iff.mp (show (B60 a).bind _=_ from e1)
   obtain ⟨ms,n2,rfl⟩:=Option.map_eq_some_iff.mp e1
   obtain ⟨p,xs,rfl,h1,h2⟩:=hx.D00
   obtain ⟨p',ys,rfl,h3,h4⟩:=hy.D00
   obtain ⟨rfl,_⟩:=S90 n1 h2
   obtain ⟨rfl,_⟩:=S90 n2 h4
   exact V71 (by omega) pins s σ H _ _ v u Q I rx ry ⟨p,p',ns,ms,rfl,rfl,(a10 zA H).sqT h1,(a10 zA H).sqT h3,q _ _ (a00.refl H) h20⟩
  | _=>cases e
 | _=>cases e
theorem Y21:OpR X (compareOp .Gt) (rD2 X.K fun a b=>(k80 .gt a b).map fun c=>.d (.bl c)):=by
 intro pins s σ H x y v u Q I rx ry h
 obtain ⟨zA,z,dx,dy,w,st,hx,hy,e,q⟩:=h
 cases dx with
 | int i =>
  cases dy with
  | int j =>
   cases e;cases hx.i50;cases hy.i50
   exact j92 pins s σ H _ _ v u Q I rx ry ⟨i,j,rfl,rfl,q _ _ (a00.refl H) h20⟩
  | _=>cases e
 | _=>cases e
theorem Y31:OpR X (compareOp .GtE) (rD2 X.K fun a b=>(k80 .ge a b).map fun c=>.d (.bl c)):=by
 intro pins s σ H x y v u Q I rx ry h
 obtain ⟨zA,z,dx,dy,w,st,hx,hy,e,q⟩:=h
 cases dx with
 | int i =>
  cases dy with
  | int j =>
   cases e;cases hx.i50;cases hy.i50
   exact k02 pins s σ H _ _ v u Q I rx ry ⟨i,j,rfl,rfl,q _ _ (a00.refl H) h20⟩
  | _=>cases e
 | _=>cases e
theorem X00 {K:PySem.W.Frag}{H:Hp}{d:D}{v:V} (h:Hd K H d v):decide (v=.non)=M50 d:=by
 cases d with
 | non=>cases h.X31;rfl
 | bl b=>cases h.bl_;rfl
 | int i=>cases h.i50;rfl
 | str x=>cases h.l52;rfl
 | tup l=>obtain ⟨a,xs,rfl,_⟩:=h.D00;rfl
 | lst l=>obtain ⟨a,xs,rfl,_⟩:=h.c61;rfl
 | dct=>unfold Hd at h;obtain ⟨a,kvs,rfl,_⟩:=h;rfl
theorem Y41:OpR X (compareOp .Is) (rD2 X.K fun a b=>(k80 .is a b).map fun c=>.d (.bl c)):=by
 intro pins s σ H x y v u Q I rx ry h
 obtain ⟨zA,z,dx,dy,w,st,hx,hy,e,q⟩:=h
 cases dy with
 | bl b =>
  cases dx with
  | bl a =>
   cases e;cases hx.bl_;cases hy.bl_
   exact V81 pins s σ H _ _ v u Q I rx ry ⟨a,b,rfl,rfl,q _ _ (a00.refl H) h20⟩
  | _=>cases e
 | non =>
  have e':some (S.d (.bl (M50 dx)))=some w:=by cases dx <;> exact e
  cases e'
  cases hy.X31
  refine U51 pins s σ H _ _ v u Q I rx ry ⟨rfl,?_⟩
  rw [X00 hx]
  exact q _ _ (a00.refl H) h20
 | _=>cases dx <;> cases e
theorem y11:OpR X (compareOp .IsNot) (rD2 X.K fun a b=>(k80 .isnt a b).map fun c=>.d (.bl c)):=by
 intro pins s σ H x y v u Q I rx ry h
 obtain ⟨zA,z,dx,dy,w,st,hx,hy,e,q⟩:=h
 cases dy with
 | bl b =>
  cases dx with
  | bl a =>
   cases e;cases hx.bl_;cases hy.bl_
   exact i01 pins s σ H _ _ v u Q I rx ry ⟨a,b,rfl,rfl,q _ _ (a00.refl H) h20⟩
  | _=>cases e
 | non =>
  have e':some (S.d (.bl (!M50 dx)))=some w:=by cases dx <;> exact e
  cases e'
  cases hy.X31
  refine G01 pins s σ H _ _ v u Q I rx ry ⟨rfl,?_⟩
  rw [X00 hx]
  exact q _ _ (a00.refl H) h20
 | _=>cases dx <;> cases e
noncomputable def opC:Cm→CmpOp
 | .eq=>.Eq | .ne=>.NotEq | .lt=>.Lt | .le=>.LtE | .gt=>.Gt | .ge=>.GtE | .is=>.Is | .isnt=>.IsNot | .mem=>.In | .nmem=>.NotIn
theorem R11 (hu:X.A.units + 64 < cLine) (o:Cm):OpR X (compareOp (opC o)) (rD2 X.K fun a b=>(k80 o a b).map fun c=>.d (.bl c)):=by
 cases o
 ·exact X51 hu
 ·exact K41 hu
 ·exact Y01 hu
 ·exact Y11 hu
 ·exact Y21
 ·exact Y31
 ·exact Y41
 ·exact y11
 ·exact K51 hu
 ·exact y01 hu
end
end Q
namespace Q
open PySem L2 PySem.Spec PyProof.Rows
variable [TB:Tb]
section
variable {X:Cx}
theorem HdA.one {K:PySem.W.Frag}{H:Hp}{d:D}{xs:List V} (h:HdA K H [d] xs):∃ x,xs=[x]∧Hd K H d x:=by
 obtain ⟨x,r,rfl,h1,h2⟩:=h.c00
 rw [h2.g90]
 exact ⟨x,rfl,h1⟩
theorem HdA.two {K:PySem.W.Frag}{H:Hp}{d e:D}{xs:List V} (h:HdA K H [d,e] xs):∃ x y,xs=[x,y]∧Hd K H d x∧Hd K H e y:=by
 obtain ⟨x,r,rfl,h1,h2⟩:=h.c00
 obtain ⟨y,rfl,h3⟩:=h2.one
 exact ⟨x,y,rfl,h1,h3⟩
theorem X10 {K:PySem.W.Frag}{zA:Option Addr}{H:Hp}{d:D}{l:List D}{v:V} (h:Hd K (hz zA H) d v) (e:Q50 d=some l):∃ a xs,v=.ref a∧(SqL K H a xs∨SqT K H a xs)∧HdA K (hz zA H) l xs:=by
 cases d with
 | tup m =>
  cases e
  obtain ⟨a,xs,rfl,h1,h2⟩:=h.D00
  exact ⟨a,xs,rfl,.inr ((a10 zA H).sqT h1),h2⟩
 | lst m =>
  cases e
  obtain ⟨a,xs,rfl,h1,h2⟩:=h.c61
  exact ⟨a,xs,rfl,.inl (h1.same (a10 zA H)).sq,h2⟩
 | _=>cases e
theorem Y51:e70 X (.builtin "len") (rDn X.K (bfD .len)):=by
 intro pins s σ H xs us Q I r h
 obtain ⟨zA,z,ds,w,st,hx,e,q⟩:=h
 match ds,e with
 | [d],e =>
  obtain ⟨l,e1,rfl⟩:=Option.map_eq_some_iff.mp (show (Q50 d).map _=some w from e)
  obtain ⟨x,rfl,h1⟩:=hx.one
  obtain ⟨a,ys,rfl,h2,h3⟩:=X10 h1 e1
  exact L00 pins s σ H _ us Q I r ⟨a,ys,rfl,h2,by rw [h3.length];exact q _ _ (a00.refl H) h00⟩
theorem y21:e70 X (.type "tuple") (rDn X.K (bfD .tuple)):=by
 intro pins s σ H xs us Q I r h
 obtain ⟨zA,z,ds,w,st,hx,e,q⟩:=h
 match ds,e with
 | [d],e =>
  obtain ⟨l,e1,rfl⟩:=Option.map_eq_some_iff.mp (show (Q50 d).map _=some w from e)
  obtain ⟨x,rfl,h1⟩:=hx.one
  obtain ⟨a,ys,rfl,h2,h3⟩:=X10 h1 e1
  refine E80 pins s σ H _ us Q I r ⟨a,ys,rfl,?_⟩
  rcases h2 with h2 | h2
  ·refine .inl ⟨h2,fun p hp=>q _ _ (a00.new _ hp) (t21 (Hd.tup ((st.same (a00.new _ hp)).J51 (SqT.of a90)) (h3.same (h30 (a00.new _ hp)))))⟩
  ·exact .inr ⟨h2,q _ _ (a00.refl H) (t21 (Hd.tup (st.J51 h2) h3))⟩
theorem K61:e70 X (.type "list") (rDn X.K (bfD .list)):=by
 intro pins s σ H xs us Q I r h
 obtain ⟨zA,z,ds,w,st,hx,e,q⟩:=h
 match ds,e with
 | [d],e =>
  obtain ⟨l,e1,rfl⟩:=Option.map_eq_some_iff.mp (show (Q50 d).map _=some w from e)
  obtain ⟨x,rfl,h1⟩:=hx.one
  obtain ⟨a,ys,rfl,h2,h3⟩:=X10 h1 e1
  exact L10 pins s σ H _ us Q I r ⟨a,ys,rfl,h2,fun p hp=>q _ _ (a00.new _ hp) (r90 st h3 hp)⟩
theorem j81 {K:PySem.W.Frag}{H:Hp}:∀ {l:List D}{bs:List Bool}{vs:List V},l.mapM asB=some bs→HdA K H l vs→vs=bs.map V.bl
 | [],_,_,e,h=>by simp at e;subst e;rw [h.g90];rfl
 | x::r,_,_,e,h=>by
  simp only [List.mapM_cons,bind,Option.bind_eq_some_iff] at e
  obtain ⟨b,e1,bs,e2,e3⟩:=e
  cases e3
  obtain ⟨y,ys,rfl,h1,h2⟩:=h.c00
  cases x with
  | bl c=>cases e1;cases h1.bl_;rw [j81 e2 h2];rfl
  | _=>cases e1
theorem Y61 (hc:X.calm=true):e70 X (.builtin "all") (rDn X.K (bfD .all)):=by
 intro pins s σ H xs us Q I r h
 obtain ⟨zA,z,ds,w,st,hx,e,q⟩:=h
 match ds,e with
 | [.lst l],e =>
  obtain ⟨bs,e1,rfl⟩:=Option.map_eq_some_iff.mp (show (l.mapM asB).map _=some w from e)
  obtain ⟨x,rfl,h1⟩:=hx.one
  obtain ⟨a,ys,rfl,h2,h3⟩:=h1.c61
  rw [j81 e1 h3] at h2
  exact v41 hc pins s σ H _ us Q I r ⟨a,bs,rfl,(h2.same (a10 zA H)).sq,q _ _ (a00.refl H) h20⟩
theorem X20:∀ {ns:List Int}{vs:List Value},Vals (ns.map V.int) vs→∃ xs:List (Int × Tok),vs=xs.map (fun p=>.int p.1 p.2)∧xs.map (·.1)=ns
 | [],_,h=>by cases h;exact ⟨[],rfl,rfl⟩
 | n::r,_,h=>by
  cases h with
  | cons h1 h2 =>
   obtain ⟨t,rfl⟩:=h1
   obtain ⟨xs,rfl,e⟩:=X20 h2
   exact ⟨(n,t)::xs,rfl,by rw [List.map_cons,e]⟩
theorem y31 (hc:X.calm=true):e70 X (.builtin "sum") (fun xs H Q=>∃ (a:Addr) (ns:List Int),xs=[.ref a]∧(SqL X.K H a (ns.map V.int)∨SqT X.K H a (ns.map V.int))∧Q (.int ns.sum) H):=by
 intro pins s σ H xs us Q I r h
 obtain ⟨a,ns,rfl,hq,q⟩:=h
 obtain ⟨u,rfl,rx⟩:=vals1 r
 cases rx
 have fin:∀ {its:List Value},Vals (ns.map V.int) its→∃ xs:Array (Int × Tok),its.toArray=intItems xs∧preSum (numAt xs) xs.size=ns.sum:=fun {its} rv=>by
  obtain ⟨xs,rfl,e⟩:=X20 rv
  exact ⟨xs.toArray,by simp [intItems],by rw [preSum_eq,List.take_of_length_le (by simp)];simp [e]⟩
 rcases hq with hq | hq
 ·obtain ⟨its,rv,p,_⟩:=I.list hq
  obtain ⟨xs,e1,e2⟩:=fin rv
  exact sum_intListG (I.ok.hd hc) (e1 ▸ p.isList) fun h' tk t' k=>⟨.int ns.sum,H,I.kept k,by rw [e2];exact ⟨_,rfl⟩,q⟩
 ·obtain ⟨its,rv,p,_⟩:=I.tuple hq
  obtain ⟨xs,e1,e2⟩:=fin rv
  exact W.ktm_sumG (I.ok.hd hc) (e1 ▸ p) fun h' tk t' k=>⟨.int ns.sum,H,I.kept k,by rw [e2];exact ⟨_,rfl⟩,q⟩
theorem D01 {K:PySem.W.Frag}{H:Hp}:∀ {l:List D}{i:Int}{vs:List V},X01 l=some i→HdA K H l vs→∃ ns:List Int,vs=ns.map V.int∧ns.sum=i
 | [],_,_,e,h=>by cases e;rw [h.g90];exact ⟨[],rfl,rfl⟩
 | .int j::r,_,_,e,h=>by
  obtain ⟨k,e1,rfl⟩:=Option.map_eq_some_iff.mp (show (X01 r).map _=_ from e)
  obtain ⟨v,q,rfl,h1,h2⟩:=h.c00
  obtain ⟨ns,rfl,e2⟩:=D01 e1 h2
  cases h1.i50
  exact ⟨j::ns,rfl,by rw [List.sum_cons,e2]⟩
theorem Y71 (hc:X.calm=true):e70 X (.builtin "sum") (rDn X.K (bfD .sum)):=by
 intro pins s σ H xs us Q I r h
 obtain ⟨zA,z,ds,w,st,hx,e,q⟩:=h
 match ds,e with
 | [d],e =>
  obtain ⟨i,e1,rfl⟩:=Option.map_eq_some_iff.mp (show ((Q50 d).bind X01).map _=some w from e)
  obtain ⟨l,e2,e3⟩:=Option.bind_eq_some_iff.mp e1
  obtain ⟨x,rfl,h1⟩:=hx.one
  obtain ⟨a,ys,rfl,h2,h3⟩:=X10 h1 e2
  obtain ⟨ns,rfl,rfl⟩:=D01 e3 h3
  exact y31 hc pins s σ H _ us Q I r ⟨a,ns,rfl,h2,q _ _ (a00.refl H) (show Hd X.K (hz zA H) _ _ from Hd.int)⟩
theorem y41 (hc:X.calm=true):e70 X (.builtin "any") (fun xs H Q=>∃ (a:Addr) (bs:List Bool),xs=[.ref a]∧SqL X.K H a (bs.map V.bl)∧Q (.bl (bs.any id)) H):=by
 intro pins s σ H xs us Q I r h
 obtain ⟨a,bs,rfl,hq,q⟩:=h
 obtain ⟨u,rfl,rx⟩:=vals1 r
 cases rx
 obtain ⟨its,rv,pl,hz⟩:=I.list hq
 have hlt:a < s.heap.objs.size:=by obtain ⟨_,e,_⟩:=pl.isList;exact Heap.lt_size e
 have hlen:its.length=bs.length:=by have:=rv.length;simpa using this.symm
 refine call_any_walk (wpAny_pyIter_list pl.isList ⟨_,_,_,_,_,_,fun i=>(bs[i]?).getD false,rfl,Walks.list (by exact I.ok.hd hc) s.heap.objs.size a (Nat.ne_of_lt hlt) its.toArray,⟨⟨_,Heap.get?_push_size _ rfl,rfl,rfl⟩,pl.isList.push _⟩,?_,?_⟩)
 ·intro i v s' Q' E' hP hQ
  have hP':its[i]?=some v:=by simpa using hP
  have hi:i < bs.length:=by rw [← hlen];exact (List.getElem?_eq_some_iff.mp hP').1
  obtain ⟨v',hv',rv'⟩:=rv.get (i:=i) (x:=.bl bs[i]) (by simp [hi])
  rw [hP'] at hv';cases hv'
  cases (show v=Value.bool _ from rv')
  exact wpAny_truthy_bool (by simpa [hi] using hQ)
 ·intro h' tk kp
  refine ⟨.bl (bs.any id),H,I.kept fun b o e=>kp b o (by simpa using Nat.ne_of_lt (Heap.lt_size e)) (Heap.get?_push_of_some _ e),?_,q⟩
  show Value.bool _=Value.bool _
  rw [List.size_toArray,hlen]
  congr 1
  rw [Bool.eq_iff_iff,List.any_eq_true,List.any_eq_true]
  constructor
  ·rintro ⟨i,h1,h2⟩
   have hi:i < bs.length:=List.mem_range.mp h1
   exact ⟨bs[i],List.getElem_mem hi,by simpa [hi] using h2⟩
  ·rintro ⟨b,h1,h2⟩
   obtain ⟨i,hi,rfl⟩:=List.getElem_of_mem h1
   exact ⟨i,List.mem_range.mpr hi,by simpa [hi] using h2⟩
theorem Y81 (hc:X.calm=true):e70 X (.builtin "any") (rDn X.K (bfD .any)):=by
 intro pins s σ H xs us Q I r h
 obtain ⟨zA,z,ds,w,st,hx,e,q⟩:=h
 match ds,e with
 | [.lst l],e =>
  obtain ⟨bs,e1,rfl⟩:=Option.map_eq_some_iff.mp (show (l.mapM asB).map _=some w from e)
  obtain ⟨x,rfl,h1⟩:=hx.one
  obtain ⟨a,ys,rfl,h2,h3⟩:=h1.c61
  rw [j81 e1 h3] at h2
  exact y41 hc pins s σ H _ us Q I r ⟨a,bs,rfl,(h2.same (a10 zA H)).sq,q _ _ (a00.refl H) h20⟩
theorem Y91 (hc:X.calm=true):e70 X (.builtin "min") (rDn X.K (bfD .min)):=by
 intro pins s σ H xs us Q I r h
 obtain ⟨zA,z,ds,w,st,hx,e,q⟩:=h
 match ds,e with
 | [.int i,.int j],e =>
  cases e
  obtain ⟨x,y,rfl,h1,h2⟩:=hx.two
  cases h1.i50;cases h2.i50
  exact f51 hc pins s σ H _ us Q I r ⟨i,j,rfl,q _ _ (a00.refl H) h00⟩
theorem Z01 (hc:X.calm=true):e70 X (.builtin "max") (rDn X.K (bfD .max)):=by
 intro pins s σ H xs us Q I r h
 obtain ⟨zA,z,ds,w,st,hx,e,q⟩:=h
 match ds,e with
 | [.int i,.int j],e =>
  cases e
  obtain ⟨x,y,rfl,h1,h2⟩:=hx.two
  cases h1.i50;cases h2.i50
  exact f41 hc pins s σ H _ us Q I r ⟨i,j,rfl,q _ _ (a00.refl H) h00⟩
theorem Z11:e70 X (.builtin "abs") (rDn X.K (bfD .abs)):=by
 intro pins s σ H xs us Q I r h
 obtain ⟨zA,z,ds,w,st,hx,e,q⟩:=h
 match ds,e with
 | [.int i],e =>
  cases e
  obtain ⟨x,rfl,h1⟩:=hx.one
  cases h1.i50
  exact u21 pins s σ H _ us Q I r ⟨i,rfl,q _ _ (a00.refl H) h00⟩
theorem Z21:e70 X (.type "int") (rDn X.K (bfD .int)):=by
 intro pins s σ H xs us Q I r h
 obtain ⟨zA,z,ds,w,st,hx,e,q⟩:=h
 match ds,e with
 | [.int i],e =>
  cases e
  obtain ⟨x,rfl,h1⟩:=hx.one
  cases h1.i50
  exact K30 pins s σ H _ us Q I r (.inl ⟨i,rfl,q _ _ (a00.refl H) h00⟩)
 | [.bl b],e =>
  cases e
  obtain ⟨x,rfl,h1⟩:=hx.one
  cases h1.bl_
  exact K30 pins s σ H _ us Q I r (.inr ⟨b,rfl,q _ _ (a00.refl H) h00⟩)
noncomputable def tyN:Ty→String
 | .int=>"int" | .bool=>"bool" | .tuple=>"tuple" | .list=>"list" | .str=>"str" | .seq=>""
theorem H30 (t:Ty) (d:D) (h:t≠.seq) (h2:t≠.str):isB d.ty (tyN t)=C81 t d:=by
 cases t <;> cases d <;> first | rfl | (exact absurd rfl h) | (exact absurd rfl h2) | decide
theorem y51 (d:D):(isB d.ty "tuple" || isB d.ty "list")=C81 .seq d:=by cases d <;> rfl
theorem at_of {K:PySem.W.Frag}{H:Hp}{l:List D}{xs:List V}{i:Int}{d:D} (h:HdA K H l xs) (e:atI l i=some d):∃ v,atI xs i=some v∧Hd K H d v:=by
 unfold atI at e ⊢
 obtain ⟨j,e1,e2⟩:=Option.bind_eq_some_iff.mp e
 rw [h.length,e1]
 exact h.get e2
theorem ixD:IxR X (rD2 X.K fun a b=>(w20 a b).map S.d):=by
 intro value slice pins s σ H x y v u Q I rx ry h hs
 obtain ⟨zA,z,dx,dy,w,st,hx,hy,e,q⟩:=h
 obtain ⟨r,e1,rfl⟩:=Option.map_eq_some_iff.mp e
 cases dx with
 | tup l =>
  cases dy with
  | int i =>
   cases hy.i50
   obtain ⟨a,xs,rfl,h1,h2⟩:=hx.D00
   obtain ⟨v',e2,h3⟩:=at_of h2 e1
   exact V01 value slice pins s σ H _ _ v u Q I rx ry ⟨a,xs,i,v',rfl,rfl,(a10 zA H).sqT h1,e2,q _ _ (a00.refl H) (t21 h3)⟩ hs
  | _=>cases e1
 | lst l =>
  cases dy with
  | int i =>
   cases hy.i50
   obtain ⟨a,xs,rfl,h1,h2⟩:=hx.c61
   obtain ⟨v',e2,h3⟩:=at_of h2 e1
   exact R20 value slice pins s σ H _ _ v u Q I rx ry ⟨a,xs,i,v',rfl,rfl,(h1.same (a10 zA H)).sq,e2,q _ _ (a00.refl H) (t21 h3)⟩ hs
  | _=>cases e1
 | _=>cases e1
theorem D11 {K:PySem.W.Frag}{H:Hp}{l:List D}{xs:List V} (h:HdA K H l xs) (lo hi:Option Int):HdA K H (cutD l lo hi) (u61 xs lo hi):=by
 unfold cutD u61
 rw [h.length]
 exact (h.drop _).take _
noncomputable def A12 (K:PySem.W.Frag):V→Option Int→Option Int→Hp→VK→Prop:=fun x lo hi H Q=>∃ zA z dx s,d60 zA z H∧Hd K (hz zA H) dx x∧slD dx lo hi=some s∧∀ v H',a00 H H'→RvS K zA H H' s v→Q v H'
theorem A22:SlR X (A12 X.K):=by
 intro pins s σ H x v vl vu lo hi sl Q I rx hs pl pu h
 obtain ⟨zA,z,dx,w,st,hx,e,q⟩:=h
 cases dx with
 | tup l =>
  cases e
  obtain ⟨a,xs,rfl,h1,h2⟩:=hx.D00
  exact I21 pins s σ H _ v vl vu lo hi sl Q I rx hs pl pu ⟨a,xs,rfl,(a10 zA H).sqT h1,tupQ st (D11 h2 lo hi) q⟩
 | lst l =>
  cases e
  obtain ⟨a,xs,rfl,h1,h2⟩:=hx.c61
  exact G91 pins s σ H _ v vl vu lo hi sl Q I rx hs pl pu ⟨a,xs,rfl,(h1.same (a10 zA H)).sq,fun p hp=>q _ _ (a00.new _ hp) (r90 st (D11 h2 lo hi) hp)⟩
 | _=>cases e
end
end Q
namespace Q
open PySem L2 PySem.Spec PyProof.Rows
open PySem.W (KatLex KatTups kat_nil kat_cons kat_go kat_yes kat_no kat_one kat_lt kat_kind kas_kind kat_lt_int)
theorem z90 (k:D):∀ l,(x51 k l).Perm (k::l)
 | []=>.refl _
 | y::r=>by
  unfold x51
  split
  ·exact ((z90 k r).cons y).trans (.swap _ _ _)
  ·exact .refl _
theorem l40:∀ l,(B70 l).Perm l
 | []=>.refl _
 | k::r=>(z90 k _).trans ((l40 r).cons k)
theorem j91 (k:D):∀ l,l.Pairwise (fun x y=>MySort.d70 (flt y) (flt x)=false)→(x51 k l).Pairwise (fun x y=>MySort.d70 (flt y) (flt x)=false)
 | [],_=>List.pairwise_singleton _ _
 | y::r,h=>by
  obtain ⟨h1,h2⟩:=List.pairwise_cons.mp h
  unfold x51
  split
  ·rename_i hy
   refine List.pairwise_cons.mpr ⟨fun z hz=>?_,j91 k r h2⟩
   rcases List.mem_cons.mp ((z90 k r).mem_iff.mp hz) with rfl | hz
   ·cases q:MySort.d70 (flt z) (flt y) with
    | false=>rfl
    | true=>have:=MySort.o70 _ _ _ hy q;rw [MySort.m00] at this;cases this
   ·exact h1 z hz
  ·rename_i hy
   refine List.pairwise_cons.mpr ⟨fun z hz=>?_,h⟩
   rcases List.mem_cons.mp hz with rfl | hz
   ·simpa using hy
   ·cases q:MySort.d70 (flt z) (flt k) with
    | false=>rfl
    | true =>
     rcases MySort.F70 _ (flt y) _ q with q | q
     ·rw [h1 z hz] at q;cases q
     ·exact absurd q hy
theorem H40:∀ l,(B70 l).Pairwise (fun x y=>MySort.d70 (flt y) (flt x)=false)
 | []=>.nil
 | k::r=>j91 k _ (H40 r)
mutual
theorem k01:∀ x y:D,eqT x y=true→x=y
 | .int i,y,h=>by
  cases y with
  | int j=>rw [eq_of_beq (show (i == j)=true from h)]
  | _=>cases h
 | .tup a,y,h=>by
  cases y with
  | tup b=>rw [k21 a b h]
  | _=>cases h
 | .non,y,h=>by cases y <;> cases h
 | .bl _,y,h=>by cases y <;> cases h
 | .str _,y,h=>by cases y <;> cases h
 | .lst _,y,h=>by cases y <;> cases h
 | .dct,y,h=>by cases y <;> cases h
theorem k21:∀ x y:List D,j21 x y=true→x=y
 | [],[],_=>rfl
 | [],_::_,h=>by cases h
 | _::_,[],h=>by cases h
 | x::r,y::q,h=>by
  have h:(eqT x y&&j21 r q)=true:=h
  rw [Bool.and_eq_true] at h
  rw [k01 x y h.1,k21 r q h.2]
end
theorem y61 {l l':List D} (hp:l'.Perm l) (hs:l'.Pairwise fun x y=>MySort.d70 (flt y) (flt x)=false) (inj:∀ x∈l,∀ y∈l,flt x=flt y→x=y):B70 l=l' :=
 List.Perm.eq_of_pairwise (le:=fun x y=>MySort.d70 (flt y) (flt x)=false) (fun a b ha hb p q=>inj a ((l40 l).mem_iff.mp ha) b (hp.mem_iff.mp hb) (MySort.l30 _ _ q p)) (H40 l) hs ((l40 l).trans hp.symm)
variable [TB:Tb]
theorem K71 {l:List D}{p:List Nat} (ok:∀ x∈l,∀ y∈l,flt x=flt y→x=y) (h:MySort.sortedBy (l.map flt) p):(p.map fun i=>l.getD i .non)=B70 l:=by
 have h1:=h.1.map fun i=>l.getD i .non
 rw [List.length_map,MySort.range_getD] at h1
 have e:((p.map fun i=>l.getD i .non).map flt)=p.map fun i=>(l.map flt).getD i []:=by
  rw [List.map_map]
  refine List.map_congr_left fun i hi=>?_
  have:i < l.length:=by have:=h.1.mem_iff.mp hi;simpa using this
  simp [this]
 have h2:(p.map fun i=>l.getD i .non).Pairwise fun x y=>MySort.d70 (flt y) (flt x)=false:=by
  have:=h.2
  rw [← e,List.pairwise_map] at this
  exact this
 refine List.Perm.eq_of_pairwise (le:=fun x y=>MySort.d70 (flt y) (flt x)=false) (fun a b ha hb p q=>?_) h2 (H40 l) (h1.trans (l40 l).symm)
 exact ok a (h1.mem_iff.mp ha) b ((l40 l).mem_iff.mp hb) (MySort.l30 _ _ q p)
mutual
theorem y71 {h h':Heap} (kp:MySort.h91 h h'):∀ (d:D) {u:Value}{as:List Addr},eqT d d=true→Reads h u (toP d) as→Reads h' u (toP d) as
 | .int i,_,_,_,r=>by cases r;exact .int _ _
 | .tup l,_,_,e,r=>by
  cases r with
  | tuple k1 k2 k3 k4=>exact .tuple (kp _ _ k1 k2) k2 k3 (s00 kp l e k4)
 | .non,_,_,e,_=>by cases e
 | .bl _,_,_,e,_=>by cases e
 | .str _,_,_,e,_=>by cases e
 | .lst _,_,_,e,_=>by cases e
 | .dct,_,_,e,_=>by cases e
theorem s00 {h h':Heap} (kp:MySort.h91 h h'):∀ (l:List D) {us:List Value}{as:List Addr},j21 l l=true→ReadsAll h us (J90 l) as→ReadsAll h' us (J90 l) as
 | [],_,_,_,r=>by cases r;exact .nil
 | x::q,_,_,e,r=>by
  have e:(eqT x x&&j21 q q)=true:=e
  rw [Bool.and_eq_true] at e
  cases r with
  | cons r1 r2=>exact .cons (y71 kp x e.1 r1) (s00 kp q e.2 r2)
end
theorem f00.get {h:Heap}:∀ {us:List Value}{l:List D}{i:Nat}{d:D},f00 h us l→l[i]?=some d→c71 h (us.getD i Value.none) d
 | _,[],i,d,_,e=>by cases e
 | us,x::r,i,d,hd,e=>by
  obtain ⟨u,q,rfl,h1,h2⟩:=hd.c00
  cases i with
  | zero=>cases e;simpa using h1
  | succ i=>simpa using f00.get h2 (by simpa using e)
theorem f00.len {h:Heap}:∀ {us:List Value}{l:List D},f00 h us l→us.length=l.length
 | _,[],hd=>by rw [hd.g90];rfl
 | us,x::r,hd=>by
  obtain ⟨u,q,rfl,h1,h2⟩:=hd.c00
  simp [f00.len h2]
noncomputable def D21 (l:List D):Prop:=∀ x r,l=x::r→∃ i,x=.int i
theorem w52 {P:Program}{w:World}{A:Around}{s:Shared}{b fin:Bool}{Q:Bool→Shared→Prop} (hu:A.units + 40 < cLine):∀ (a c:List D) {vs us:List Value}{r:Bool} (i:Nat),f00 s.heap vs a→f00 s.heap us c→x41 a c=some r→f30 a≤39 →
  ((b&&i == 0)=true→D21 a∧D21 c)→fin=decide (vs.length < us.length)→Q r s→KatLex P w A b fin Q (vs.zip us) i s
 | [],[],_,_,r,i,ha,hc,e,_,_,hf,q=>by
  cases ha.g90;cases hc.g90;cases e;subst hf;exact kat_nil q
 | [],y::t,_,_,r,i,ha,hc,e,_,_,hf,q=>by
  cases ha.g90
  obtain ⟨u,us,rfl,_,_⟩:=hc.c00
  cases e;subst hf;exact kat_nil q
 | x::l,[],_,_,r,i,ha,hc,e,_,_,hf,q=>by
  cases hc.g90
  obtain ⟨v,vs,rfl,_,_⟩:=ha.c00
  cases e;subst hf;exact kat_nil q
 | x::l,y::t,_,_,r,i,ha,hc,e,hd,hi,hf,q=>by
  obtain ⟨v,vs,rfl,a1,a2⟩:=ha.c00
  obtain ⟨u,us,rfl,c1,c2⟩:=hc.c00
  have d1:deep x≤39:=Nat.le_trans (Nat.le_max_left _ _) hd
  have d2:f30 l≤39:=Nat.le_trans (Nat.le_max_right _ _) hd
  have e:(if eqD x y=true then x41 l t else ltD x y)=some r:=e
  refine kat_cons (X71 (A:=A) a1 c1 (by omega) P w _ _ ?_)
  refine kat_go (fun z=>?_) fun z=>?_
  ·rw [if_pos z] at e
   refine kat_yes (w52 hu l t (i + 1) a2 c2 e d2 (fun k=>?_) (by rw [hf];simp) q)
   simp at k
  ·rw [if_neg (by rw [z];exact Bool.false_ne_true)] at e
   refine kat_no ?_
   cases hb:(b&&i == 0) with
   | true =>
    obtain ⟨f1,f2⟩:=hi hb
    obtain ⟨m,rfl⟩:=f1 x l rfl
    obtain ⟨n,rfl⟩:=f2 y t rfl
    cases e
    obtain ⟨_,_,r1⟩:=a1
    obtain ⟨_,_,r2⟩:=c1
    cases r1;cases r2
    exact oneLt_int q
   | false=>exact kat_one _ _ ((X81 39 (A:=A) (s:=s)).1 x y v u r d1 a1 c1 e (by omega) P w _ _ q)
theorem T00 {x:D} (h:Q60 x=0):∃ i,x=.int i:=by
 cases x with
 | int i=>exact ⟨i,rfl⟩
 | tup l =>
  cases l with
  | nil=>cases h
  | cons y r=>cases y <;> cases h
 | _=>cases h
theorem T10 {x:D}{k:Nat} (h:Q60 x=k) (h1:1≤k) (h3:k < 3):∃ y r,x=.tup (y::r)∧(k=1→∃ i,y=.int i)∧(k=2→∃ l,y=.tup l):=by
 cases x with
 | tup l =>
  cases l with
  | nil=>have:k=3:=h.symm;omega
  | cons y r =>
   refine ⟨y,r,rfl,fun e=>?_,fun e=>?_⟩ <;> subst e <;> cases y <;> first | exact ⟨_,rfl⟩ | cases h
 | int i=>have:k=0:=h.symm;omega
 | _=>have:k=3:=h.symm;omega
theorem K81 {h:Heap}{k:Nat} (h1:1≤k) (h3:k < 3):∀ {us:List Value}{l:List D},f00 h us l→(∀ x∈l,Q60 x=k)→∃ fs,KatTups h us fs∧fs.length=us.length∧∀ v∈fs,(k=1→∃ i t,v=Value.int i t)∧(k=2→∃ a o,v=Value.ref a∧h.get? a=some o∧o.cls=.type "tuple")
 | _,[],hd,_=>by rw [hd.g90];exact ⟨[],.nil,rfl,fun v hv=>absurd hv (by simp)⟩
 | _,x::r,hd,hk=>by
  obtain ⟨u,q,rfl,⟨_,as,r1⟩,h2⟩:=hd.c00
  obtain ⟨fs,t1,t2,t3⟩:=K81 h1 h3 h2 fun y hy=>hk y (List.mem_cons_of_mem _ hy)
  obtain ⟨y,l,rfl,y1,y2⟩:=T10 (hk x List.mem_cons_self) h1 h3
  cases r1 with
  | @tuple a o vs n xs as k1 k2 k3 k4 =>
   cases hv:vs.toList with
   | nil=>rw [hv] at k4;cases k4
   | cons f fr =>
    rw [hv] at k4
    cases k4 with
    | cons f1 f2 =>
     refine ⟨f::fs,.cons k1 k2 k3 (by rw [← Array.getElem?_toList,hv];rfl) t1,by simp [t2],fun v hm=>?_⟩
     rcases List.mem_cons.mp hm with rfl | hm
     ·refine ⟨fun e=>?_,fun e=>?_⟩
      ·obtain ⟨i,rfl⟩:=y1 e
       cases f1;exact ⟨_,_,rfl⟩
      ·obtain ⟨m,rfl⟩:=y2 e
       cases f1 with
       | tuple g1 g2 g3 g4=>exact ⟨_,_,rfl,g1,g2⟩
     ·exact t3 v hm
noncomputable def kdOf:Nat→SortKind
 | 0=>oneType'
 | 1=>tuples' true
 | _=>tuples' false
theorem T20 {x y:D} (h:n70 x y=true):Q60 y=Q60 x∧ltD x y=some (MySort.d70 (flt x) (flt y))∧(flt x=flt y→x=y):=by
 unfold n70 at h
 rw [Bool.and_eq_true,Bool.and_eq_true,Bool.or_eq_true] at h
 refine ⟨eq_of_beq h.1,eq_of_beq h.2.1,fun e=>?_⟩
 rcases h.2.2 with k | k
 ·exact k01 _ _ k
 ·rw [e] at k;simp at k
theorem D31 {P:Program}{w:World}{A:Around}{s:Shared}{us:List Value}{l:List D}{k:Nat} (hd:f00 s.heap us l) (hu:A.units + 40 < cLine) (k3:k < 3) (hk:∀ x∈l,Q60 x=k) (ho:∀ x∈l,okD x=true) (hp:∀ x∈l,∀ y∈l,n70 x y=true):MySort.h42 P w A s us (l.map flt) (kdOf k) where
 kind h2 E Q q:=by
  match k,k3,hk,q with
  | 0,_,hk,q =>
   refine kas_kind h2 (T:=.type "int") (fun v hv=>?_) rfl rfl q
   obtain ⟨i,hi,rfl⟩:=List.mem_iff_getElem.mp hv
   have hi':i < l.length:=by rw [← hd.len];exact hi
   obtain ⟨_,as,r⟩:=hd.get (i:=i) (d:=l[i]) (by simp [hi'])
   obtain ⟨n,hn⟩:=T00 (hk l[i] (List.getElem_mem hi'))
   rw [hn] at r
   have e:us.getD i Value.none=us[i]:=by simp [hi]
   rw [e] at r
   generalize us[i]=v at r
   cases r
   exact PySem.W.Looks.of_pure rfl
  | 1,_,hk,q =>
   obtain ⟨fs,t1,t2,t3⟩:=K81 (by decide) (by decide) hd hk
   exact kat_kind (T:=.type "int") t1 (by omega) (fun v hv=>by obtain ⟨i,t,rfl⟩:=(t3 v hv).1 rfl;exact PySem.W.Looks.of_pure rfl) rfl q
  | 2,_,hk,q =>
   obtain ⟨fs,t1,t2,t3⟩:=K81 (by decide) (by decide) hd hk
   exact kat_kind (T:=.type "tuple") t1 (by omega) (fun v hv=>by
    obtain ⟨a,o,rfl,g1,g2⟩:=(t3 v hv).2 rfl
    rw [← g2];exact (PySem.W.Looks.ld g1).andThen .now) rfl q
 ask i j hi hj E C hC:=by
  have hi':i < l.length:=by rw [← hd.len];exact hi
  have hj':j < l.length:=by rw [← hd.len];exact hj
  have mi:=List.getElem_mem hi'
  have mj:=List.getElem_mem hj'
  obtain ⟨_,h2,_⟩:=T20 (hp _ mi _ mj)
  have a1:=hd.get (i:=i) (d:=l[i]) (by simp [hi'])
  have b1:=hd.get (i:=j) (d:=l[j]) (by simp [hj'])
  have e1:(l.map flt).getD i []=flt l[i]:=by simp [hi']
  have e2:(l.map flt).getD j []=flt l[j]:=by simp [hj']
  rw [e1,e2] at hC
  generalize MySort.d70 (flt l[i]) (flt l[j])=c at h2 hC
  have kx:=hk _ mi
  have ky:=hk _ mj
  have ox:=H10 (ho _ mi)
  generalize l[i]=x at *
  generalize l[j]=y at *
  have tup:∀ b:Bool,1≤k→(b=true→k=1)→wpAny (model P w) A (keyLt' (tuples' b) (us.getD i Value.none) (us.getD j Value.none)) C E s:=fun b h1 hb=>by
   obtain ⟨x1,xr,rfl,x2,_⟩:=T10 kx h1 k3
   obtain ⟨y1,yr,rfl,y2,_⟩:=T10 ky h1 k3
   obtain ⟨f1,as,r1⟩:=a1
   obtain ⟨f2,bs,r2⟩:=b1
   generalize us.getD i Value.none=v at r1
   generalize us.getD j Value.none=u at r2
   cases r1 with
   | tuple p1 p2 p3 p4 =>
    cases r2 with
    | tuple q1 q2 q3 q4 =>
     refine kat_lt p1 p3 q1 q3 (w52 hu (x1::xr) (y1::yr) 0 ⟨f1,_,p4⟩ ⟨f2,_,q4⟩ h2 (by have:deep (.tup (x1::xr))=f30 (x1::xr) + 1:=rfl;omega) (fun z=>?_) (by simp) hC)
     have hb1:=hb (by simpa using z)
     exact ⟨fun a q e=>by cases e;exact x2 hb1,fun a q e=>by cases e;exact y2 hb1⟩
  match k,k3,kx,ky,tup with
  | 0,_,kx,ky,_ =>
   obtain ⟨m,rfl⟩:=T00 kx
   obtain ⟨n,rfl⟩:=T00 ky
   cases h2
   obtain ⟨_,_,r1⟩:=a1
   obtain ⟨_,_,r2⟩:=b1
   generalize us.getD i Value.none=v at r1
   generalize us.getD j Value.none=u at r2
   cases r1;cases r2
   exact kat_lt_int hC
  | 1,_,_,_,tup=>exact tup true (by decide) fun _=>rfl
  | 2,_,_,_,tup=>exact tup false (by decide) fun h=>by cases h
theorem HdA.pick {K:PySem.W.Frag}{H:Hp}{l:List D}{vs:List V} (h:HdA K H l vs):∀ {p:List Nat},(∀ i∈p,i < l.length)→HdA K H (p.map fun i=>l.getD i .non) (p.map fun i=>vs.getD i .non)
 | [],_=>.nil
 | i::p,hp=>by
  have hi:=hp i List.mem_cons_self
  refine .cons ?_ (HdA.pick h fun j hj=>hp j (List.mem_cons_of_mem _ hj))
  obtain ⟨v,e1,e2⟩:=h.get (i:=i) (d:=l[i]) (by simp [hi])
  have g1:l.getD i .non=l[i]:=by simp [hi]
  have g2:vs.getD i .non=v:=by rw [List.getD_eq_getElem?_getD,e1];rfl
  show Hd K H (l.getD i .non) (vs.getD i .non)
  rw [g1,g2];exact e2
section
variable {X:Cx}
theorem K91 {zA:Option Addr}{H:Hp}{l:List D}{xs:List V} (hu:X.A.units + 64 < cLine) (hd:HdA X.K H l xs) (ok:z50 l=true):V91 X H xs (l.map flt):=by
 refine ⟨by rw [List.length_map,hd.length],fun pins σ s us I rv=>?_⟩
 have all:∀ x∈l,Q60 x < 3∧okD x=true∧∀ y∈l,n70 x y=true:=fun x hx=>by
  have:=List.all_eq_true.mp ok x hx
  rw [Bool.and_eq_true,Bool.and_eq_true,decide_eq_true_eq,List.all_eq_true] at this
  exact ⟨this.1,this.2.1,this.2.2⟩
 have hf:f70 l=true:=by
  clear hd
  induction l with
  | nil=>rfl
  | cons x r ih =>
   have h1:=(n80 (all x List.mem_cons_self).2.1).1
   show (p10 x&&f70 r)=true
   rw [h1]
   have ok':z50 r=true:=List.all_eq_true.mpr fun y hy=>by
    obtain ⟨a,b,c⟩:=all y (List.mem_cons_of_mem _ hy)
    rw [Bool.and_eq_true,Bool.and_eq_true,decide_eq_true_eq,List.all_eq_true]
    exact ⟨a,b,fun z hz=>c z (List.mem_cons_of_mem _ hz)⟩
   exact ih ok' fun y hy=>⟨(all y (List.mem_cons_of_mem _ hy)).1,(all y (List.mem_cons_of_mem _ hy)).2.1,fun z hz=>(all y (List.mem_cons_of_mem _ hy)).2.2 z (List.mem_cons_of_mem _ hz)⟩
 obtain ⟨as,ra⟩:=G90 I hd rv hf
 have pure:j21 l l=true:=by
  clear hd ra hf ok
  have:∀ q:List D,(∀ x∈q,eqT x x=true)→j21 q q=true:=fun q=>by
   induction q with
   | nil=>intro _;rfl
   | cons x r ih=>intro h;show (eqT x x&&j21 r r)=true;rw [h x List.mem_cons_self,ih fun y hy=>h y (List.mem_cons_of_mem _ hy)];rfl
  refine this l fun x hx=>?_
  have h:=(all x hx).2.2 x hx
  unfold n70 at h
  rw [Bool.and_eq_true,Bool.and_eq_true,Bool.or_eq_true] at h
  rcases h.2.2 with k | k
  ·exact k
  ·simp at k
 cases l with
 | nil=>exact ⟨kdOf 0,fun h' kp=>D31 ⟨hf,_,s00 kp _ pure ra⟩ (by show X.A.units + 1 + 1 + 40 < cLine;omega) (by decide) (fun x hx=>absurd hx (by simp)) (fun x hx=>absurd hx (by simp)) fun x hx=>absurd hx (by simp)⟩
 | cons x r =>
  have hx:=all x List.mem_cons_self
  exact ⟨kdOf (Q60 x),fun h' kp=>D31 ⟨hf,_,s00 kp _ pure ra⟩ (by show X.A.units + 1 + 1 + 40 < cLine;omega) hx.1 (fun y hy=>(T20 (hx.2.2 y hy)).1) (fun y hy=>(all y hy).2.1) fun y hy=>(all y hy).2.2⟩
theorem k31 (hu:X.A.units + 64 < cLine):e70 X (.builtin "sorted") (rDn X.K (bfD .sorted)):=by
 intro pins s σ H xs us Q I r h
 obtain ⟨zA,z,ds,w,st,hx,e,q⟩:=h
 match ds,e with
 | [x],e =>
  have e:sortedS x=some w:=e
  unfold sortedS at e
  obtain ⟨l,h1,e⟩:=Option.bind_eq_some_iff.mp e
  obtain ⟨⟨h64,ok⟩,e⟩:=e80 e
  cases e
  obtain ⟨v,rfl,hv⟩:=hx.one
  have go:∀ (a:Addr) (ys:List V),v=.ref a→(SqL X.K H a ys∨SqT X.K H a ys)→HdA X.K (hz zA H) l ys→wpAny (model X.prog X.w) X.A (call (.builtin "sorted") us) (EP X pins σ Q) X.xe s:=fun a ys hva hq hd=>by
   subst hva
   refine L90 pins s σ H _ us Q I r ⟨a,ys,l.map flt,rfl,hq,by rw [hd.length];exact h64,K91 (zA:=zA) hu (hd.same (a10 zA H)) ok,fun p lA hp hn=>?_⟩
   have hd2:=hd.pick (p:=p) fun i hi=>by have:=hp.1.mem_iff.mp hi;simpa using this
   rw [K71 (fun x hx y hy=>?_) hp] at hd2
   ·exact q _ _ (a00.new _ hn) (r90 st hd2 hn)
   ·have:=List.all_eq_true.mp ok x hx
    rw [Bool.and_eq_true,Bool.and_eq_true,List.all_eq_true] at this
    exact (T20 (this.2.2 y hy)).2.2
  cases x with
  | tup m =>
   cases h1
   obtain ⟨a,ys,rfl,k1,k2⟩:=hv.D00
   exact go a ys rfl (.inr ((a10 zA H).sqT k1)) k2
  | lst m =>
   cases h1
   obtain ⟨a,ys,rfl,k1,k2⟩:=hv.c61
   exact go a ys rfl (.inl (k1.same (a10 zA H)).sq) k2
  | _=>cases h1
end
end Q
namespace Q
open PySem L2 PySem.Spec PyProof.Rows
variable [TB:Tb]
structure Gs where
 fns:List (Str × List Str)
 nums:List (Str × Int)
 F:FT
 cls:Nat→Addr
 lv:Nat
noncomputable def EPost (G:Gs) (zA:Option Addr) (E:XK) (c:Nat) (z:Z) (H:Hp):Prop:=∀ e H',Ext zA H H'→d60 zA z H'→H' e=none→E (.ref (G.cls c)) (some e) H'
theorem EPost.mono {G:Gs}{zA:Option Addr}{E:XK}{c:Nat}{z:Z}{H H1:Hp} (h:EPost G zA E c z H) (e:Ext zA H H1):EPost G zA E c z H1:=fun a H' x s n=>h a H' (e.trans x) s n
noncomputable def l92 (K:PySem.W.Frag) (G:Gs) (zA:Option Addr) (E:XK) (H:Hp) (Q:VK):R S→Prop
 | .ok s z'=>∀ v H',Ext zA H H'→d60 zA z' H'→RvS K zA H H' s v→Q v H'
 | .er c z'=>EPost G zA E c z' H
noncomputable def k41 (K:PySem.W.Frag) (G:Gs) (zA:Option Addr) (E:XK) (H:Hp) (Q:VK):R (List S)→Prop
 | .ok l z'=>∃ s,l=[s]∧∀ v H',Ext zA H H'→d60 zA z' H'→RvS K zA H H' s v→Q v H'
 | .er c z'=>EPost G zA E c z' H
noncomputable def m02 (K:PySem.W.Frag) (G:Gs) (zA:Option Addr) (E:XK) (H:Hp) (Q:List V→Hp→Prop):R (List S)→Prop
 | .ok l z'=>∀ vs H',Ext zA H H'→d60 zA z' H'→Paired (RvS K zA H H') l vs→Q vs H'
 | .er c z'=>EPost G zA E c z' H
noncomputable def L01 (G:Gs) (zA:Option Addr) (E:XK) (H:Hp) (Q:Bool→Hp→Prop):R (List S)→Prop
 | .ok l z'=>∃ b,l=[.d (.bl b)]∧∀ H',Ext zA H H'→d60 zA z' H'→Q b H'
 | .er c z'=>EPost G zA E c z' H
noncomputable def v00 (K:PySem.W.Frag) (zA:Option Addr) (H:Hp) (ρ:Env) (σ:L2.St):Prop:=∀ (i:Nat) (s:S),ρ[i]?=some (some s)→∃ v,σ[i]?=some (some v)∧RvP K zA H s v
theorem v00.mono {K:PySem.W.Frag}{zA:Option Addr}{H H':Hp}{ρ:Env}{σ:L2.St} (h:v00 K zA H ρ σ) (e:Ext zA H H'):v00 K zA H' ρ σ:=fun i s q=>let ⟨v,a,b⟩:=h i s q;⟨v,a,b.mono e⟩
noncomputable def tI (K:PySem.W.Frag) (G:Gs) (E:XK) (x:Ex):TE:=fun σ H Q=>∃ zA ρ z r,v00 K zA H ρ σ∧d60 zA z H∧ev G.F x ρ z=some r∧k41 K G zA E H Q r
noncomputable def tA (K:PySem.W.Frag) (G:Gs) (E:XK) (x:Ex):TA:=fun σ H Q=>∃ zA ρ z r,v00 K zA H ρ σ∧d60 zA z H∧ev G.F x ρ z=some r∧m02 K G zA E H Q r
noncomputable def tT (K:PySem.W.Frag) (G:Gs) (E:XK) (x:Ex):TT:=fun σ H Q=>∃ zA ρ z r,v00 K zA H ρ σ∧d60 zA z H∧ev G.F x ρ z=some r∧L01 G zA E H Q r
noncomputable def spF (K:PySem.W.Frag) (G:Gs) (f n:Nat):Sp:=fun vs H Q E=>vs.length=n∧∃ zA z ss r,RvA K zA H ss vs∧d60 zA z H∧G.F false f ss z=some r∧l92 K G zA E H Q r
section
variable {K:PySem.W.Frag}{G:Gs}{E:XK}{a x:Ex}{ρ:Env}{z:Z}{zA:Option Addr}{σ:L2.St}{H:Hp}
theorem n90 {α:Type}{k:List S→M α}{r:R α}{Q':VK} (rel:v00 K zA H ρ σ) (st:d60 zA z H) (h:M.bind (ev G.F a ρ) k z=some r) (her:∀ c z1,r=.er c z1→EPost G zA E c z1 H)
  (hok:∀ l z1,k l z1=some r→∃ s,l=[s]∧∀ v H1,Ext zA H H1→d60 zA z1 H1→RvS K zA H H1 s v→Q' v H1):tI K G E a σ H Q':=by
 rcases M.bind_some h with ⟨l,z1,e1,e2⟩ | ⟨c,z1,e1,e2⟩
 ·exact ⟨zA,ρ,z,_,rel,st,e1,hok l z1 e2⟩
 ·exact ⟨zA,ρ,z,_,rel,st,e1,her c z1 e2⟩
theorem c81 {α:Type}{k:List S→M α}{r:R α}{Q':List V→Hp→Prop} (rel:v00 K zA H ρ σ) (st:d60 zA z H) (h:M.bind (ev G.F a ρ) k z=some r) (her:∀ c z1,r=.er c z1→EPost G zA E c z1 H)
  (hok:∀ l z1,k l z1=some r→∀ vs H1,Ext zA H H1→d60 zA z1 H1→Paired (RvS K zA H H1) l vs→Q' vs H1):tA K G E a σ H Q':=by
 rcases M.bind_some h with ⟨l,z1,e1,e2⟩ | ⟨c,z1,e1,e2⟩
 ·exact ⟨zA,ρ,z,_,rel,st,e1,hok l z1 e2⟩
 ·exact ⟨zA,ρ,z,_,rel,st,e1,her c z1 e2⟩
theorem N00 {α:Type}{k:Bool→M α}{r:R α}{Q':Bool→Hp→Prop} (rel:v00 K zA H ρ σ) (st:d60 zA z H) (h:M.bind (ev G.F a ρ) (fun x=>M.bind (M.of ((pl x).bind asB)) k) z=some r) (her:∀ c z1,r=.er c z1→EPost G zA E c z1 H)
  (hok:∀ b z1,k b z1=some r→∀ H1,Ext zA H H1→d60 zA z1 H1→Q' b H1):tT K G E a σ H Q':=by
 rcases M.bind_some h with ⟨l,z1,e1,e2⟩ | ⟨c,z1,e1,e2⟩
 ·obtain ⟨b,e3,e4⟩:=M.a20 e2
  obtain ⟨d,e5,e6⟩:=Option.bind_eq_some_iff.mp e3
  have el:l=[.d (.bl b)]:=by
   obtain ⟨s,rfl,hs⟩:=j40 e5
   cases s with
   | d y=>cases hs;cases d <;> first | (cases e6;rfl) | cases e6
   | fr ys=>cases hs;cases e6
   | z=>cases hs
  exact ⟨zA,ρ,z,_,rel,st,e1,b,el,hok b z1 e4⟩
 ·exact ⟨zA,ρ,z,_,rel,st,e1,her c z1 e2⟩
theorem A00 {l:List S}{s:S} (h:one l=some s):l=[s]:=by
 unfold one at h
 split at h
 ·cases h;rfl
 ·cases h
end
theorem PE.imp {X:Cx}{e:Expr}{t t':TE} (h:PE X e t) (i:∀ σ H Q,t' σ H Q→t σ H Q):PE X e t':=fun pins s σ H Q I q=>h pins s σ H Q I (i _ _ _ q)
theorem PT.imp {X:Cx}{e:Expr}{t t':TT} (h:PT X e t) (i:∀ σ H Q,t' σ H Q→t σ H Q):PT X e t':=fun pins s σ H Q I q=>h pins s σ H Q I (i _ _ _ q)
theorem PW.imp {X:Cx}{e:Expr}{t t':TT} (h:PW X e t) (i:∀ σ H Q,t' σ H Q→t σ H Q):PW X e t':=fun w pins s σ H Q I q=>h w pins s σ H Q I (i _ _ _ q)
theorem PA.imp {X:Cx}{e:List Expr}{t t':TA} (h:PA X e t) (i:∀ σ H Q,t' σ H Q→t σ H Q):PA X e t':=fun p pins s σ H Q I q=>h p pins s σ H Q I (i _ _ _ q)
noncomputable def noStar:Expr→Bool
 | .Starred ..=>false
 | _=>true
theorem c40 {e:Expr} (h:noStar e=true) (es:List Expr) (env:PySem.Env):starEach (e::es) env=(false,eval e env)::starEach es env:=by
 cases e <;> first | rfl | cases h
theorem s10:∀ {es:List Expr} (env:PySem.Env) (pos:Pos),es.all noStar=true→(backTo pos (starEach es env)).any (·.1)=false
 | [],_,_,_=>rfl
 | e::es,env,pos,h=>by
  rw [List.all_cons,Bool.and_eq_true] at h
  rw [c40 h.1]
  show (false || (backTo pos (starEach es env)).any (·.1))=false
  rw [s10 env pos h.2];rfl
noncomputable def plainT:Expr→Bool
 | .UnaryOp .Not _ _=>false
 | .BoolOp ..=>false
 | .IfExp ..=>false
 | .Compare ..=>false
 | _=>true
theorem k51 {e:Expr} (h:plainT e=true) (env:PySem.Env) (whole:Sem Value):isTrue e env whole=(do let v ← whole;standAt e.pos;holding [v] (truthy v)):=by
 cases e with
 | UnaryOp op _ _=>cases op <;> first | rfl | cases h
 | BoolOp _ _ _=>cases h
 | IfExp _ _ _ _=>cases h
 | Compare _ _ _ _=>cases h
 | _=>rfl
noncomputable def T30:Expr→Bool
 | .Slice ..=>false
 | _=>true
theorem D10 {e:Expr} (h:T30 e=true):g21 e:=fun o i=>by
 cases e with
 | Slice _ _ _ _=>cases h
 | _=>rfl
noncomputable def w50:Expr→Bool
 | .Set ..=>false
 | _=>true
theorem k61 {e:Expr} (h:w50 e=true) (op:CmpOp):behindInMarks op e=false:=by
 cases e with
 | Set _ _ _=>cases h
 | _=>rfl
structure b20 (X:Cx) (G:Gs) (E:XK) (x:Ex) (e:Expr):Prop where
 pe:PE X e (tI X.K G E x)
 pt:(∀ t a b p,e≠.IfExp t a b p)→PT X e (tT X.K G E x)
 pw:∀ op vs p,e=.BoolOp op vs p→PW X e (tT X.K G E x)
theorem b00 {X:Cx}{G:Gs}{E:XK}{x:Ex}{e:Expr} (h:PE X e (tI X.K G E x)) (hp:plainT e=true):b20 X G E x e:=by
 refine ⟨h,fun _=>PT.imp (e71 h (k51 hp X.env)) fun σ H Q q=>?_,fun op vs p he=>?_⟩
 ·obtain ⟨zA,ρ,z,r,rel,st,e,po⟩:=q
  refine ⟨zA,ρ,z,r,rel,st,e,?_⟩
  cases r with
  | er c z1=>exact po
  | ok l z1 =>
   obtain ⟨b,rfl,po⟩:=po
   exact ⟨_,rfl,fun v H' ex st' rv=>⟨b,Hd.bl_ (show Hd X.K (hz zA H') (.bl b) v from rv),po H' ex st'⟩⟩
 ·subst he;cases hp
noncomputable def isL:Ex→Bool
 | .nil=>true
 | .cons _ _=>true
 | _=>false
noncomputable def Good (X:Cx) (G:Gs) (E:XK):Ex→List Expr→Prop
 | .nil,es=>es=[]
 | .cons a r,es=>∃ e es',es=e::es'∧noStar e=true∧b20 X G E a e∧isL r=true∧Good X G E r es'
 | x,es=>∃ e,es=[e]∧b20 X G E x e
theorem Good.args {X:Cx}{G:Gs}{E:XK}:∀ {x:Ex}{es:List Expr},isL x=true→Good X G E x es→PA X es (tA X.K G E x)∧es.all noStar=true
 | .nil,es,_,h=>by
  have h:es=[]:=h
  subst h
  refine ⟨PA.imp r30 fun σ H Q q=>?_,rfl⟩
  obtain ⟨zA,ρ,z,r,rel,st,e,po⟩:=q
  cases e
  exact po [] H Ext.refl st .nil
 | .cons a r,es,_,h=>by
  obtain ⟨e,es',rfl,ns,g,lr,gr⟩:=h
  obtain ⟨h1,h2⟩:=Good.args lr gr
  refine ⟨PA.imp (e50 g.pe h1 (c40 ns es' X.env)) fun σ H Q q=>?_,by rw [List.all_cons,ns,h2];rfl⟩
  obtain ⟨zA,ρ,z,rr,rel,st,e,po⟩:=q
  have her:∀ c z1,rr=.er c z1→EPost G zA E c z1 H:=fun c z1 e=>by subst e;exact po
  refine n90 rel st e her fun l z1 e1=>?_
  obtain ⟨s,hs,e2⟩:=M.a20 e1
  refine ⟨s,A00 hs,fun v H1 x1 st1 rv=>?_⟩
  refine c81 (rel.mono x1) st1 e2 (fun c z2 q=>(her c z2 q).mono x1) fun l2 z2 e3 vs H2 x2 st2 rvs=>?_
  cases e3
  exact po (v::vs) H2 (x1.trans x2) st2 (.cons (rv.mono x2) (Paired.Q81 rvs fun _ _ q=>q.from x1))
 | .var _,_,h,_=>by cases h
 | .con _,_,h,_=>by cases h
 | .gint _ _,_,h,_=>by cases h
 | .tup _,_,h,_=>by cases h
 | .lst _,_,h,_=>by cases h
 | .bin _ _ _,_,h,_=>by cases h
 | .cmp _ _ _,_,h,_=>by cases h
 | .neg _,_,h,_=>by cases h
 | .not _,_,h,_=>by cases h
 | .and _ _,_,h,_=>by cases h
 | .or _ _,_,h,_=>by cases h
 | .ite _ _ _,_,h,_=>by cases h
 | .ch _ _ _ _ _,_,h,_=>by cases h
 | .bf _ _,_,h,_=>by cases h
 | .isi _ _,_,h,_=>by cases h
 | .idx _ _,_,h,_=>by cases h
 | .sl _ _ _,_,h,_=>by cases h
 | .call _ _,_,h,_=>by cases h
 | .comp _ _ _ _ _ _ _,_,h,_=>by cases h
 | .zget _ _,_,h,_=>by cases h
 | .lrng _ _,_,h,_=>by cases h
 | .refd _ _,_,h,_=>by cases h
end Q
namespace Q
open PySem L2 PySem.Spec PyProof.Rows
variable [TB:Tb]
noncomputable def L11:List Str:=["len","sorted","tuple","list","sum","min","max","abs","all","any","int","bool","str","isinstance","range","zip","enumerate","set"]
noncomputable def lowG (G:Gs) (k:Nat):Gs:={ G with F:=t80 G.F,lv:=k }
structure m12 (X:Cx) (G:Gs) (sc:Scope) (c P:Addr) (q:Str) (k:Nat) (fR:Addr) (fdR:FuncData):Prop where
 sco:X.env.scope=sc
 code:X.env.code=.ref c
 hd:PySem.W.codeHdIn X.K c P=true
 qual:X.env.qual++"<lambda>"=q
 tb:(P,q)∈TB.tb
 uq:∀ p∈TB.tb,p.1=P→p.2=q
 bm:BMain X.mg X.base
 lv:G.lv=k + 2
 cls:∀ j,j < 12→M30 X.K X.mg (G.cls j) j
 m:X.mg "_law_refused"=some (.ref fR)
 kp:PySem.W.keepIn X.K (.ref fR)=true
 bd:Binds X.K fdR ["_law_call"] []
 fn:b81 X.prog X.w X.K X.mg X.base CX0 (k + 2) fR fdR ["_law_call"] (J11 X.prog X.w X.K X.mg X.base (k + 1))
 low:∀ f nm ps,G.fns[f]?=some (nm,ps)→∃ fa fd,X.mg nm=some (.ref fa)∧PySem.W.keepIn X.K (.ref fa)=true∧Binds X.K fd ps []∧Q40 X.prog X.w X.K X.mg X.base (CX1 X.prog X.w) k fa fd ps (spF X.K (lowG G k) f ps.length)
noncomputable def m22 (X:Cx) (G:Gs) (sc:Scope):Prop:=∃ c P q k fR fdR,m12 X G sc c P q k fR fdR
structure XI (lm:Bool) (X:Cx) (G:Gs) (E:XK) (N:List Str) (sc:Scope):Prop where
 gok:∀ f nm ps,G.fns[f]?=some (nm,ps)→∃ fa fd,X.mg nm=some (.ref fa)∧PySem.W.keepIn X.K (.ref fa)=true∧Binds X.K fd ps []∧Q40 X.prog X.w X.K X.mg X.base (CX1 X.prog X.w) G.lv fa fd ps (spF X.K G f ps.length)
 num:∀ p∈G.nums,∃ t,X.mg p.1=some (.int p.2 t)
 blt:∀ n∈L11,X.mg n=none
 hN:X.N=N
 nd:N.Nodup
 vis:∀ x∈N,Vis X.env.scope x
 glb:∀ x,sc.names.lookup x=some .globalImplicit→Gl X x
 cel:∀ x,(sc.names.lookup x=some .cell∨sc.names.lookup x=some .free)→(X.env.kindOf x=some .cell∨X.env.kindOf x=some .free)
 calm:X.calm=true
 room:w00 G.lv X.A
 pas:Passes (CX1 X.prog X.w) X E
 lam:lm=true→m22 X G sc
noncomputable def glob (sc:Scope) (x:Str):Bool:=sc.names.lookup x == some .globalImplicit&&!(x == ("__debug__":Str))&&!(x == ("__name__":Str))
noncomputable def d10 (x:Str):Bool:=!(x == ("__debug__":Str))&&!(x == ("__classdict__":Str))
noncomputable def Z31:Const→D→Bool
 | .int i,.int j=>i == j
 | .bool a,.bl b=>a == b
 | .str x,.str y=>x == y
 | .none,.non=>true
 | _,_=>false
noncomputable def bfN:Bf→Str × Bool
 | .len=>("len",false) | .sorted=>("sorted",false) | .tuple=>("tuple",true) | .list=>("list",true) | .sum=>("sum",false) | .min=>("min",false) | .max=>("max",false) | .abs=>("abs",false)
 | .all=>("all",false) | .any=>("any",false) | .int=>("int",true) | .sset=>("sorted",false) | .V31=>("len",false)
noncomputable def served:Bf→Bool
 | .len | .tuple | .list | .min | .max | .abs | .all | .any | .int | .sorted | .sum=>true
 | _=>false
noncomputable def isName:Expr→Bool
 | .Name ..=>true
 | _=>false
mutual
noncomputable def k20 (N:List Str) (loc:Str→Bool):Pat→Expr→Bool
 | .v i=>fun e=>match e with
  | .Name x _=>N[i]? == some x&&loc x
  | _=>false
 | .tup ps=>fun e=>match e with
  | .Tuple es _ _=>c91 N loc ps es
  | _=>false
 | .nil=>fun _=>false
 | .cons _ _=>fun _=>false
noncomputable def c91 (N:List Str) (loc:Str→Bool):Pat→List Expr→Bool
 | .nil=>fun es=>es.isEmpty
 | .cons p r=>fun es=>match es with
  | e::es=>noStar e&&k20 N loc p e&&c91 N loc r es
  | []=>false
 | .v _=>fun _=>false
 | .tup _=>fun _=>false
end
noncomputable def n20:Expr→Bool
 | .Tuple ..=>true
 | _=>false
noncomputable def c70:Expr→List Str
 | .Name x _=>[x]
 | .Tuple es _ _=>names es
 | _=>[]
where names:List Expr→List Str
 | []=>[]
 | .Name x _::r=>x::names r
 | .Tuple [.Name a _,.Name b _] _ _::r=>a::b::names r
 | _::r=>names r
noncomputable def X30 (csc sc:Scope) (N own:List Str) (capt:List (Str × Nat)):Bool :=
 csc.kind == .function&&csc.names.all (fun y=>y.2 != .cell)&&csc.names.all (fun y=>y.2 != .local || csc.names.lookup y.1 == some .local) &&
  csc.names.all (fun y=>y.2 != .free || (sc.names.lookup y.1 == some .cell || sc.names.lookup y.1 == some .free))&&capt.all (fun p=>N[p.2]? == some p.1&&csc.names.lookup p.1 == some .free) &&
  own.all (fun x=>csc.names.lookup x == some .local)&&decide (own++capt.map (·.1)).Nodup
noncomputable def b40 (N:List Str):List Nat→List (Str × Nat)
 | []=>[]
 | i::r=>match N[i]? with
  | some x=>(x,i)::b40 N r
  | none=>b40 N r
noncomputable def opt {α:Type} (o:Option α) (f:α→Bool):Bool:=match o with
 | some a=>f a
 | none=>false
theorem a40 {α:Type}{o:Option α}{f:α→Bool} (h:opt o f=true):∃ a,o=some a∧f a=true:=by
 cases o with
 | none=>cases h
 | some a=>exact ⟨a,rfl,h⟩
noncomputable def w62:(e:List Expr)→Option {q:Str × Pos // e=[.Name q.1 q.2]}
 | [.Name n p]=>some ⟨(n,p),rfl⟩
 | _=>none
noncomputable def m32:(e:List Expr)→Option {q:Const × Nat × Pos // e=[.Constant q.1 q.2.1 q.2.2]}
 | [.Constant c k p]=>some ⟨(c,k,p),rfl⟩
 | _=>none
noncomputable def m42:(e:List Expr)→Option {q:Pos // e=[.Dict [] [] q]}
 | [.Dict [] [] p]=>some ⟨p,rfl⟩
 | _=>none
noncomputable def m52:(e:List Expr)→Option {q:List Expr × Nat × Pos // e=[.Tuple q.1 q.2.1 q.2.2]}
 | [.Tuple l k p]=>some ⟨(l,k,p),rfl⟩
 | _=>none
noncomputable def m62:(e:List Expr)→Option {q:List Expr × Pos // e=[.List q.1 q.2]}
 | [.List l p]=>some ⟨(l,p),rfl⟩
 | _=>none
noncomputable def m72:(e:List Expr)→Option {q:Expr × Operator × Expr × Pos // e=[.BinOp q.1 q.2.1 q.2.2.1 q.2.2.2]}
 | [.BinOp l o r p]=>some ⟨(l,o,r,p),rfl⟩
 | _=>none
noncomputable def m82:(e:List Expr)→Option {q:Expr × CmpOp × Expr × Pos // e=[.Compare q.1 [q.2.1] [q.2.2.1] q.2.2.2]}
 | [.Compare l [o] [r] p]=>some ⟨(l,o,r,p),rfl⟩
 | _=>none
noncomputable def m92:(e:List Expr)→Option {q:Expr × Pos // e=[.UnaryOp .USub q.1 q.2]}
 | [.UnaryOp .USub x p]=>some ⟨(x,p),rfl⟩
 | _=>none
noncomputable def n02:(e:List Expr)→Option {q:Expr × Pos // e=[.UnaryOp .Not q.1 q.2]}
 | [.UnaryOp .Not x p]=>some ⟨(x,p),rfl⟩
 | _=>none
noncomputable def n12:(e:List Expr)→Option {q:Expr × Expr × List Expr × Pos // e=[.BoolOp .And (q.1::q.2.1::q.2.2.1) q.2.2.2]}
 | [.BoolOp .And (l::r::v) p]=>some ⟨(l,r,v,p),rfl⟩
 | _=>none
noncomputable def A32:(e:List Expr)→Option {q:Expr × Expr × List Expr × Pos // e=[.BoolOp .Or (q.1::q.2.1::q.2.2.1) q.2.2.2]}
 | [.BoolOp .Or (l::r::v) p]=>some ⟨(l,r,v,p),rfl⟩
 | _=>none
noncomputable def n22:(e:List Expr)→Option {q:Expr × Expr × Expr × Pos // e=[.IfExp q.1 q.2.1 q.2.2.1 q.2.2.2]}
 | [.IfExp t x y p]=>some ⟨(t,x,y,p),rfl⟩
 | _=>none
noncomputable def A42:(e:List Expr)→Option {q:Expr × CmpOp × CmpOp × Expr × Expr × Pos // e=[.Compare q.1 [q.2.1,q.2.2.1] [q.2.2.2.1,q.2.2.2.2.1] q.2.2.2.2.2]}
 | [.Compare l [o,o2] [r,s] p]=>some ⟨(l,o,o2,r,s,p),rfl⟩
 | _=>none
noncomputable def w72:(e:List Expr)→Option {q:Str × Pos × Expr × List Expr × Pos // e=[.Call (.Name q.1 q.2.1) (q.2.2.1::q.2.2.2.1) [] q.2.2.2.2]}
 | [.Call (.Name n q1) (x::l) [] p]=>some ⟨(n,q1,x,l,p),rfl⟩
 | _=>none
noncomputable def n32:(e:List Expr)→Option {q:Str × Pos × Expr × Expr × Pos // e=[.Call (.Name q.1 q.2.1) [q.2.2.1,q.2.2.2.1] [] q.2.2.2.2]}
 | [.Call (.Name n q1) [x,ty] [] p]=>some ⟨(n,q1,x,ty,p),rfl⟩
 | _=>none
noncomputable def A52:(e:List Expr)→Option {q:Expr × Expr × Pos // e=[.Subscript q.1 q.2.1 q.2.2]}
 | [.Subscript v x p]=>some ⟨(v,x,p),rfl⟩
 | _=>none
noncomputable def A62:(e:List Expr)→Option {q:Expr × Option Expr × Option Expr × Pos × Pos // e=[.Subscript q.1 (.Slice q.2.1 q.2.2.1 none q.2.2.2.1) q.2.2.2.2]}
 | [.Subscript v (.Slice l h none q1) p]=>some ⟨(v,l,h,q1,p),rfl⟩
 | _=>none
noncomputable def Z41:(e:List Expr)→Option {q:Expr × Expr × Expr × List Expr × Scope × Pos // e=[.ListComp q.1 [⟨q.2.1,q.2.2.1,q.2.2.2.1,0⟩] q.2.2.2.2.1 q.2.2.2.2.2]}
 | [.ListComp elt [⟨tg,iter,ifs,0⟩] csc p]=>some ⟨(elt,tg,iter,ifs,csc,p),rfl⟩
 | _=>none
noncomputable def R21:(e:Expr)→Option {q:Str × Pos × Expr × Pos // e=.Call (.Name q.1 q.2.1) [q.2.2.1] [] q.2.2.2}
 | .Call (.Name n q1) [a] [] p=>some ⟨(n,q1,a,p),rfl⟩
 | _=>none
noncomputable def R31:(e:Expr)→Option {q:Str × Pos × Expr × Expr × Pos // e=.Call (.Name q.1 q.2.1) [q.2.2.1,q.2.2.2.1] [] q.2.2.2.2}
 | .Call (.Name n q1) [a,b] [] p=>some ⟨(n,q1,a,b,p),rfl⟩
 | _=>none
noncomputable def shN:(e:Expr)→Option {q:Str × Pos // e=.Name q.1 q.2}
 | .Name n p=>some ⟨(n,p),rfl⟩
 | _=>none
noncomputable def w82:(e:Expr)→Option {q:Str × Pos × Str × Pos × Nat × Pos // e=.Tuple [.Name q.1 q.2.1,.Name q.2.2.1 q.2.2.2.1] q.2.2.2.2.1 q.2.2.2.2.2}
 | .Tuple [.Name a q1,.Name b q2] k p=>some ⟨(a,q1,b,q2,k,p),rfl⟩
 | _=>none
noncomputable def A72:(e:List Expr)→Option {q:Str × Pos × Int × Nat × Pos × Pos // e=[.Subscript (.Name q.1 q.2.1) (.Constant (.int q.2.2.1) q.2.2.2.1 q.2.2.2.2.1) q.2.2.2.2.2]}
 | [.Subscript (.Name n p) (.Constant (.int j) c q1) r]=>some ⟨(n,p,j,c,q1,r),rfl⟩
 | _=>none
noncomputable def A82:(e:List Expr)→Option {q:Str × Pos × Str × Pos × List Expr × Pos × Pos // e=[.Call (.Name q.1 q.2.1) [.Call (.Name q.2.2.1 q.2.2.2.1) q.2.2.2.2.1 [] q.2.2.2.2.2.1] [] q.2.2.2.2.2.2]}
 | [.Call (.Name n p) [.Call (.Name m q1) l [] r] [] t]=>some ⟨(n,p,m,q1,l,r,t),rfl⟩
 | _=>none
noncomputable def n42:(e:List Expr)→Option {q:Str × Pos × Expr × Scope × Pos × Pos // e=[.Call (.Name q.1 q.2.1) [.Lambda ⟨[],[],none,[],[],none,[]⟩ q.2.2.1 q.2.2.2.1 q.2.2.2.2.1] [] q.2.2.2.2.2]}
 | [.Call (.Name n p) [.Lambda ⟨[],[],none,[],[],none,[]⟩ b c l] [] t]=>some ⟨(n,p,b,c,l,t),rfl⟩
 | _=>none
noncomputable def tyE (sc:Scope):Ty→Expr→Bool
 | .seq=>fun e=>opt (w82 e) fun q=>q.1.1 == ("tuple":Str)&&q.1.2.2.1 == ("list":Str)&&glob sc "tuple"&&glob sc "list"
 | .int=>fun e=>opt (shN e) fun q=>q.1.1 == ("int":Str)&&glob sc "int"
 | .bool=>fun e=>opt (shN e) fun q=>q.1.1 == ("bool":Str)&&glob sc "bool"
 | .tuple=>fun e=>opt (shN e) fun q=>q.1.1 == ("tuple":Str)&&glob sc "tuple"
 | .list=>fun e=>opt (shN e) fun q=>q.1.1 == ("list":Str)&&glob sc "list"
 | .str=>fun _=>false
noncomputable def Z51:D→Bool
 | .dct=>true
 | _=>false
noncomputable def ifB:Expr→Bool
 | .IfExp ..=>true
 | _=>false
noncomputable def L21 (lsc sc:Scope) (cs:List (Str × Nat)):Bool :=
 lsc.kind == .function&&!lsc.isCoroutine&&!lsc.isGenerator&&lsc.names.all (fun y=>y.2 != .cell)&&lsc.names.all (fun y=>y.2 != .free || sc.names.lookup y.1 == some .cell)&&cs.all (fun p=>lsc.names.lookup p.1 == some .free)&&decide (cs.map (·.1)).Nodup
noncomputable def mt:Bool→List (Str × List Str)→List (Str × Int)→Ex→Scope→List Str→List Expr→Bool
 | lm,fns,nums,.nil=>fun _ _ es=>es.isEmpty
 | lm,fns,nums,.cons a r=>fun sc N es=>match es with
  | e::es=>noStar e&&!isL a&&isL r&&mt lm fns nums a sc N [e]&&mt lm fns nums r sc N es
  | []=>false
 | lm,fns,nums,.var i=>fun _ N es=>opt (w62 es) fun q=>N[i]? == some q.1.1&&d10 q.1.1
 | lm,fns,nums,.con d=>fun _ _ es=>(opt (m32 es) fun q=>Z31 q.1.1 d) || opt (m42 es) fun _=>Z51 d
 | lm,fns,nums,.gint g i=>fun sc _ es=>opt (w62 es) fun q=>q.1.1 == g&&glob sc q.1.1&&nums.contains (g,i)
 | lm,fns,nums,.tup as=>fun sc N es=>opt (m52 es) fun q=>isL as&&mt lm fns nums as sc N q.1.1
 | lm,fns,nums,.lst as=>fun sc N es=>opt (m62 es) fun q=>isL as&&mt lm fns nums as sc N q.1.1
 | lm,fns,nums,.bin o a b=>fun sc N es=>opt (m72 es) fun q=>q.1.2.1 == opB o&&!isL a&&!isL b&&mt lm fns nums a sc N [q.1.1]&&mt lm fns nums b sc N [q.1.2.2.1]
 | lm,fns,nums,.cmp o a b=>fun sc N es=>opt (m82 es) fun q=>q.1.2.1 == opC o&&w50 q.1.2.2.1&&!isL a&&!isL b&&mt lm fns nums a sc N [q.1.1]&&mt lm fns nums b sc N [q.1.2.2.1]
 | lm,fns,nums,.neg a=>fun sc N es=>opt (m92 es) fun q=>!isL a&&mt lm fns nums a sc N [q.1.1]
 | lm,fns,nums,.not a=>fun sc N es=>opt (n02 es) fun q=>!isL a&&!ifB q.1.1&&mt lm fns nums a sc N [q.1.1]
 | lm,fns,nums,.and a b=>fun sc N es=>opt (n12 es) fun q=>!isL a&&!isL b&&!ifB q.1.1&&mt lm fns nums a sc N [q.1.1]&&(if q.1.2.2.1.isEmpty then !ifB q.1.2.1&&mt lm fns nums b sc N [q.1.2.1] else mt lm fns nums b sc N [.BoolOp .And (q.1.2.1::q.1.2.2.1) q.1.2.2.2])
 | lm,fns,nums,.or a b=>fun sc N es=>opt (A32 es) fun q=>!isL a&&!isL b&&!ifB q.1.1&&mt lm fns nums a sc N [q.1.1]&&(if q.1.2.2.1.isEmpty then !ifB q.1.2.1&&mt lm fns nums b sc N [q.1.2.1] else mt lm fns nums b sc N [.BoolOp .Or (q.1.2.1::q.1.2.2.1) q.1.2.2.2])
 | lm,fns,nums,.ite c a b=>fun sc N es=>opt (n22 es) fun q=>!isL c&&!isL a&&!isL b&&!ifB q.1.1&&mt lm fns nums c sc N [q.1.1]&&mt lm fns nums a sc N [q.1.2.1]&&mt lm fns nums b sc N [q.1.2.2.1]
 | lm,fns,nums,.ch o o' a b c=>fun sc N es=>opt (A42 es) fun q=>q.1.2.1 == opC o&&q.1.2.2.1 == opC o'&&w50 q.1.2.2.2.2.1&&!isL a&&!isL b&&!isL c&&mt lm fns nums a sc N [q.1.1]&&mt lm fns nums b sc N [q.1.2.2.2.1]&&mt lm fns nums c sc N [q.1.2.2.2.2.1]
 | lm,fns,nums,.bf f as=>fun sc N es=>opt (w72 es) fun q=>served f&&q.1.1 == (bfN f).1&&glob sc q.1.1&&isL as&&mt lm fns nums as sc N (q.1.2.2.1::q.1.2.2.2.1)
 | lm,fns,nums,.isi t a=>fun sc N es=>opt (n32 es) fun q=>q.1.1 == ("isinstance":Str)&&glob sc q.1.1&&noStar q.1.2.2.1&&!isL a&&mt lm fns nums a sc N [q.1.2.2.1]&&tyE sc t q.1.2.2.2.1
 | lm,fns,nums,.idx a i=>fun sc N es=>opt (A52 es) fun q=>T30 q.1.2.1&&!isL a&&!isL i&&mt lm fns nums a sc N [q.1.1]&&mt lm fns nums i sc N [q.1.2.1]
 | lm,fns,nums,.sl a lo hi=>fun sc N es=>opt (A62 es) fun q=>!isL a&&isL lo&&isL hi&&mt lm fns nums a sc N [q.1.1]&&mt lm fns nums lo sc N q.1.2.1.toList&&mt lm fns nums hi sc N q.1.2.2.1.toList
 | lm,fns,nums,.call f as=>fun sc N es=>opt (w72 es) fun q=>(opt fns[f]? fun p=>p.1 == q.1.1&&p.2.length == q.1.2.2.2.1.length + 1)&&glob sc q.1.1&&isL as&&mt lm fns nums as sc N (q.1.2.2.1::q.1.2.2.2.1)
 | lm,fns,nums,.comp own capt p it src cond el=>fun sc N es=>opt (Z41 es) fun q =>
   (c70 q.1.2.1).length == own&&(b40 N capt).length == capt.length&&X30 q.1.2.2.2.2.1 sc N (c70 q.1.2.1) (b40 N capt)&&k20 (c70 q.1.2.1++(b40 N capt).map (·.1)) (fun x=>(c70 q.1.2.1).contains x) p q.1.2.1&&isL src&&!isL el&&isL cond&&q.1.2.2.2.1.length≤1&&noStar q.1.1&&w50 q.1.2.2.1 &&
    q.1.2.2.2.1.all (fun c=>!ifB c) &&
    (match it with
    | .seq=>mt lm fns nums src sc N [q.1.2.2.1]
    | .rng1=>opt (R21 q.1.2.2.1) fun r=>r.1.1 == ("range":Str)&&glob sc r.1.1&&mt lm fns nums src sc N [r.1.2.2.1]
    | .rng2=>opt (R31 q.1.2.2.1) fun r=>r.1.1 == ("range":Str)&&glob sc r.1.1&&mt lm fns nums src sc N [r.1.2.2.1,r.1.2.2.2.1]
    | .zip=>opt (R31 q.1.2.2.1) fun r=>r.1.1 == ("zip":Str)&&glob sc r.1.1&&n20 q.1.2.1&&mt lm fns nums src sc N [r.1.2.2.1,r.1.2.2.2.1]
    | .enum=>opt (R21 q.1.2.2.1) fun r=>r.1.1 == ("enumerate":Str)&&glob sc r.1.1&&n20 q.1.2.1&&mt lm fns nums src sc N [r.1.2.2.1])&&mt false fns nums cond q.1.2.2.2.2.1 (c70 q.1.2.1++(b40 N capt).map (·.1)) q.1.2.2.2.1&&mt false fns nums el q.1.2.2.2.2.1 (c70 q.1.2.1++(b40 N capt).map (·.1)) [q.1.1]
 | lm,fns,nums,.lrng b as=>fun sc N es=>opt (A82 es) fun q=>q.1.1 == lrN b&&q.1.2.2.1 == ("range":Str)&&glob sc (lrN b)&&glob sc "range"&&isL as&&decide (1≤q.1.2.2.2.2.1.length∧q.1.2.2.2.2.1.length≤2)&&mt lm fns nums as sc N q.1.2.2.2.2.1
 | lm,fns,nums,.zget i k=>fun _ N es=>opt (A72 es) fun q=>N[i]? == some q.1.1&&d10 q.1.1&&q.1.2.2.1 == (k:Int)
 | lm,fns,nums,.refd capt a=>fun sc N es=>opt (n42 es) fun q=>lm&&q.1.1 == ("_law_refused":Str)&&glob sc "_law_refused"&&(b40 N capt).length == capt.length&&L21 q.1.2.2.2.1 sc (b40 N capt)&&!isL a&&mt false fns nums a q.1.2.2.2.1 ((b40 N capt).map (·.1)) [q.1.2.2.1]
theorem d40 {sc:Scope}{x:Str} (h:glob sc x=true):sc.names.lookup x=some .globalImplicit∧(x == ("__debug__":Str))=false∧x≠"__name__":=by
 unfold glob at h
 simp only [Bool.and_eq_true,Bool.not_eq_true',beq_iff_eq] at h
 refine ⟨h.1.1,h.1.2,fun e=>?_⟩
 subst e
 simp at h
section
variable {lm:Bool}{X:Cx}{G:Gs}{E:XK}{N:List Str}{sc:Scope}
theorem Z61 {K:PySem.W.Frag}{zA:Option Addr}{H0 H:Hp}{s:S}{v:V} (h:RvP K zA H s v):RvS K zA H0 H (plS s) v:=by cases s <;> exact h
theorem L31 {e:Expr} (h:(!ifB e)=true):∀ t a b p,e≠.IfExp t a b p:=by
 intro t a b p he
 subst he
 cases h
theorem b10 {x:Ex}{e:Expr} (hL:isL x=false) (h:Good X G E x [e]):b20 X G E x e:=by
 cases x with
 | nil=>cases hL
 | cons _ _=>cases hL
 | _ =>
  obtain ⟨e',h1,h2⟩:=(show ∃ e',[e]=[e']∧b20 X G E _ e' from h)
  cases h1
  exact h2
theorem b80 {x:Ex}{e:Expr} (hL:isL x=false) (h:b20 X G E x e):Good X G E x [e]:=by
 cases x with
 | nil=>cases hL
 | cons _ _=>cases hL
 | _=>exact ⟨e,rfl,h⟩
theorem h90 {zA:Option Addr}{H:Hp}{Q:VK}{r:R (List S)} (po:k41 X.K G zA E H Q r):∀ c z1,r=.er c z1→EPost G zA E c z1 H:=fun c z1 e=>by subst e;exact po
theorem N10 {zA:Option Addr}{H:Hp}{Q:Bool→Hp→Prop}{r:R (List S)} (po:L01 G zA E H Q r):∀ c z1,r=.er c z1→EPost G zA E c z1 H:=fun c z1 e=>by subst e;exact po
theorem n52 (x:XI lm X G E N sc) {i:Nat}{n:Str}{pos:Pos} (h1:N[i]?=some n) (h2:d10 n=true):b20 X G E (.var i) (.Name n pos):=by
 unfold d10 at h2
 simp only [Bool.and_eq_true,Bool.not_eq_true'] at h2
 refine b00 (PE.imp (p50 (i:=i) (by rw [x.hN];exact h1) (x.vis n (List.mem_of_getElem? h1)) h2.1 h2.2) fun σ H Q q=>?_) rfl
 obtain ⟨zA,ρ,z,r,rel,st,e,po⟩:=q
 have e':(match ρ[i]? with | some (some s)=>M.ret [plS s] | _=>M.no) z=some r:=e
 cases hs:ρ[i]? with
 | none=>rw [hs] at e';cases e'
 | some o =>
  cases o with
  | none=>rw [hs] at e';cases e'
  | some s =>
   rw [hs] at e'
   cases e'
   obtain ⟨v,hv,rv⟩:=rel i s hs
   obtain ⟨s',e',po⟩:=po
   cases e'
   exact ⟨v,hv,po v H Ext.refl st (Z61 rv)⟩
theorem n62 {c:Const}{d:D}{j:Nat}{pos:Pos} (h:Z31 c d=true):b20 X G E (.con d) (.Constant c j pos):=by
 refine b00 ?_ rfl
 have fin:∀ {v:V},(∀ H,Hd X.K H d v)→∀ σ H Q,tI X.K G E (.con d) σ H Q→tC v σ H Q:=fun {v} hd σ H Q q=>by
  obtain ⟨zA,ρ,z,r,rel,st,e,po⟩:=q
  cases e
  obtain ⟨s',e',po⟩:=po
  cases e'
  exact po v H Ext.refl st (t21 (hd _))
 cases c with
 | int i=>cases d <;> first | (simp only [Z31,beq_iff_eq] at h;subst h;exact PE.imp V80 (fin fun H=>Hd.int)) | (cases h)
 | bool b=>cases d <;> first | (simp only [Z31,beq_iff_eq] at h;subst h;exact PE.imp i32 (fin fun H=>Hd.bl)) | (cases h)
 | str y=>cases d <;> first | (simp only [Z31,beq_iff_eq] at h;subst h;exact PE.imp B61 (fin fun H=>Hd.str)) | (cases h)
 | none=>cases d <;> first | exact PE.imp e61 (fin fun H=>Hd.non) | (cases h)
 | _=>cases h
theorem n72 {pos:Pos}:b20 X G E (.con .dct) (.Dict [] [] pos):=by
 refine b00 (PE.imp I31 fun σ H Q q=>?_) rfl
 obtain ⟨zA,ρ,z,r,rel,st,e,po⟩:=q
 cases e
 obtain ⟨s',e',po⟩:=po
 cases e'
 intro p hp
 refine po _ _ (Ext.of (a00.new _ hp)) (st.same (a00.new _ hp)) (t21 ?_)
 unfold Hd
 exact ⟨p,[],rfl,e00 a90 (st.j51 hp)⟩
theorem Z71 (x:XI lm X G E N sc) {g:Str}{i:Int}{pos:Pos} (h1:glob sc g=true) (h2:(g,i)∈G.nums):b20 X G E (.gint g i) (.Name g pos):=by
 obtain ⟨k1,k2,_⟩:=d40 h1
 obtain ⟨t,ht⟩:=x.num _ h2
 refine b00 (PE.imp (f60 (v:=.int i) (x.glb g k1) ht ⟨t,rfl⟩ k2) fun σ H Q q=>?_) rfl
 obtain ⟨zA,ρ,z,r,rel,st,e,po⟩:=q
 cases e
 obtain ⟨s',e',po⟩:=po
 cases e'
 exact po _ H Ext.refl st h00
theorem H50 {K:PySem.W.Frag}{zA:Option Addr}{H0 H:Hp}{l:List S}{vs:List V}{ds:List D} (h:Paired (RvS K zA H0 H) l vs) (e:plA l=some ds):HdA K (hz zA H) ds vs:=RvA.ds (Paired.Q81 h fun _ _ q=>q.pl) e
theorem n82 {as:Ex}{l:List Expr}{k:Nat}{pos:Pos} (hL:isL as=true) (g:Good X G E as l):b20 X G E (.tup as) (.Tuple l k pos):=by
 refine b00 (PE.imp (C11 (g.args hL).1) fun σ H Q q=>?_) rfl
 obtain ⟨zA,ρ,z,r,rel,st,e,po⟩:=q
 refine c81 rel st e (h90 po) fun l z1 e1 vs H1 x1 st1 rvs=>?_
 obtain ⟨ds,hd,e2⟩:=M.a20 e1
 split at e2
 ·rename_i hm
  cases e2
  obtain ⟨s',e',po⟩:=po
  cases e'
  have h:=H50 rvs hd
  exact ⟨e90 (by rw [h.length];exact hm),fun p hp=>po _ _ (x1.trans (Ext.of (a00.new _ hp))) (st1.same (a00.new _ hp)) (t21 (Hd.tup ((st1.same (a00.new _ hp)).J51 (SqT.of a90)) (h.same (h30 (a00.new _ hp)))))⟩
 ·cases e2
theorem n92 {as:Ex}{l:List Expr}{pos:Pos} (hL:isL as=true) (g:Good X G E as l):b20 X G E (.lst as) (.List l pos):=by
 refine b00 (PE.imp (C21 (g.args hL).1) fun σ H Q q=>?_) rfl
 obtain ⟨zA,ρ,z,r,rel,st,e,po⟩:=q
 refine c81 rel st e (h90 po) fun l z1 e1 vs H1 x1 st1 rvs=>?_
 obtain ⟨ds,hd,e2⟩:=M.a20 e1
 split at e2
 ·rename_i hm
  cases e2
  obtain ⟨s',e',po⟩:=po
  cases e'
  have h:=H50 rvs hd
  exact ⟨e90 (by rw [h.length];exact hm),fun p hp=>po _ _ (x1.trans (Ext.of (a00.new _ hp))) (st1.same (a00.new _ hp)) ((r90 st1 h hp).from x1)⟩
 ·cases e2
theorem X40 {α:Type}{a b:Ex}{k:D→D→M α}{zA:Option Addr}{ρ:Env}{z:Z}{r:R α}{σ:L2.St}{H:Hp}{Q:V→V→Hp→Prop} (rel:v00 X.K zA H ρ σ) (st:d60 zA z H)
  (h:M.bind (ev G.F a ρ) (fun x=>M.bind (M.of (pl x)) fun x=>M.bind (ev G.F b ρ) fun y=>M.bind (M.of (pl y)) fun y=>k x y) z=some r) (her:∀ c z1,r=.er c z1→EPost G zA E c z1 H)
  (hk:∀ dx dy z2 v w H2,k dx dy z2=some r→Ext zA H H2→d60 zA z2 H2→Hd X.K (hz zA H2) dx v→Hd X.K (hz zA H2) dy w→Q v w H2) :
  tI X.K G E a σ H fun v H1=>tI X.K G E b σ H1 fun w H2=>Q v w H2:=by
 refine n90 rel st h her fun l z1 e1=>?_
 obtain ⟨dx,p1,e2⟩:=M.a20 e1
 obtain ⟨s1,rfl,q1⟩:=j40 p1
 refine ⟨s1,rfl,fun v H1 x1 st1 rv=>?_⟩
 refine n90 (rel.mono x1) st1 e2 (fun c z2 q=>(her c z2 q).mono x1) fun m z2 e3=>?_
 obtain ⟨dy,p2,e4⟩:=M.a20 e3
 obtain ⟨s2,rfl,q2⟩:=j40 p2
 exact ⟨s2,rfl,fun w H2 x2 st2 rw'=>hk dx dy z2 v w H2 e4 (x1.trans x2) st2 ((rv.pl.mono x2).d_ q1) (rw'.pl.d_ q2)⟩
theorem h60 {zA:Option Addr}{H H2:Hp}{z2:Z}{s:S}{Q:VK} (po:k41 X.K G zA E H Q (.ok [s] z2)) (x:Ext zA H H2) (st:d60 zA z2 H2):∀ v H',a00 H2 H'→RvS X.K zA H2 H' s v→Q v H':=fun v H' sm rv=>by
 obtain ⟨s',e',po⟩:=po
 cases e'
 exact po v H' (x.trans (Ext.of sm)) (st.same sm) (rv.from x)
theorem o02 {o:Bi}{a b:Ex}{l r:Expr}{pos:Pos} (ga:b20 X G E a l) (gb:b20 X G E b r):b20 X G E (.bin o a b) (.BinOp l (opB o) r pos):=by
 refine b00 (PE.imp (t91 (opD o) ga.pe gb.pe) fun σ H Q q=>?_) rfl
 obtain ⟨zA,ρ,z,rr,rel,st,e,po⟩:=q
 refine X40 rel st e (h90 po) fun dx dy z2 v w H2 e2 x2 st2 h1 h2=>?_
 obtain ⟨s,hs,e3⟩:=M.a20 e2
 cases e3
 exact ⟨zA,z2,dx,dy,s,st2,h1,h2,hs,h60 po x2 st2⟩
theorem D41 {zA:Option Addr}{H:Hp}{Q:Bool→Hp→Prop}{r:R (List S)} (po:L01 G zA E H Q r):k41 X.K G zA E H (fun x H'=>∃ k,x=.bl k∧Q k H') r:=by
 cases r with
 | er c z1=>exact po
 | ok l z1 =>
  obtain ⟨b,rfl,po⟩:=po
  exact ⟨_,rfl,fun v H' ex st' rv=>⟨b,Hd.bl_ (show Hd X.K (hz zA H') (.bl b) v from rv),po H' ex st'⟩⟩
theorem o12 (x:XI lm X G E N sc) {o:Cm}{a b:Ex}{l r:Expr}{pos:Pos} (hs:w50 r=true) (ga:b20 X G E a l) (gb:b20 X G E b r):b20 X G E (.cmp o a b) (.Compare l [opC o] [r] pos):=by
 have key:∀ σ H Q,tI X.K G E (.cmp o a b) σ H Q→tOp (rD2 X.K fun a b=>(k80 o a b).map fun c=>.d (.bl c)) (tI X.K G E a) (tI X.K G E b) σ H Q:=fun σ H Q q=>by
  obtain ⟨zA,ρ,z,rr,rel,st,e,po⟩:=q
  refine X40 rel st e (h90 po) fun dx dy z2 v w H2 e2 x2 st2 h1 h2=>?_
  obtain ⟨c,hc,e3⟩:=M.a20 e2
  cases e3
  exact ⟨zA,z2,dx,dy,_,st2,h1,h2,by show Option.map _ (k80 o dx dy)=_;rw [hc];rfl,h60 po x2 st2⟩
 refine ⟨PE.imp (G11 (R11 x.room.units o) ga.pe gb.pe (k61 hs _)) key,fun _=>PT.imp (G21 (R11 x.room.units o) ga.pe gb.pe (k61 hs _)) fun σ H Q q=>?_,fun op vs p h=>by cases h⟩
 obtain ⟨zA,ρ,z,rr,rel,st,e,po⟩:=q
 exact key σ H _ ⟨zA,ρ,z,rr,rel,st,e,D41 po⟩
theorem o22 {a:Ex}{l:Expr}{pos:Pos} (ga:b20 X G E a l):b20 X G E (.neg a) (.UnaryOp .USub l pos):=by
 refine b00 (PE.imp (j52 U41 ga.pe) fun σ H Q q=>?_) rfl
 obtain ⟨zA,ρ,z,rr,rel,st,e,po⟩:=q
 refine n90 rel st e (h90 po) fun m z1 e1=>?_
 obtain ⟨i,p1,e2⟩:=M.a20 e1
 obtain ⟨d,p2,p3⟩:=Option.bind_eq_some_iff.mp p1
 obtain ⟨s1,rfl,q1⟩:=j40 p2
 cases e2
 refine ⟨s1,rfl,fun v H1 x1 st1 rv=>?_⟩
 have hd:=rv.pl.d_ q1
 cases d with
 | int j =>
  cases p3
  exact ⟨i,hd.i50,h60 po x1 st1 _ _ (a00.refl H1) h00⟩
 | _=>cases p3
theorem o32 {a:Ex}{l:Expr}{pos:Pos} (ga:b20 X G E a l) (hn:∀ t x y p,l≠.IfExp t x y p):b20 X G E (.not a) (.UnaryOp .Not l pos):=by
 refine ⟨PE.imp (S91 ga.pe) fun σ H Q q=>?_,fun _=>PT.imp (B71 (ga.pt hn)) fun σ H Q q=>?_,fun op vs p h=>by cases h⟩
 ·obtain ⟨zA,ρ,z,rr,rel,st,e,po⟩:=q
  refine n90 rel st e (h90 po) fun m z1 e1=>?_
  obtain ⟨b,p1,e2⟩:=M.a20 e1
  obtain ⟨d,p2,p3⟩:=Option.bind_eq_some_iff.mp p1
  obtain ⟨s1,rfl,q1⟩:=j40 p2
  cases e2
  refine ⟨s1,rfl,fun v H1 x1 st1 rv=>?_⟩
  have hd:=rv.pl.d_ q1
  cases d with
  | bl c =>
   cases p3
   exact ⟨b,hd.bl_,h60 po x1 st1 _ _ (a00.refl H1) h20⟩
  | _=>cases p3
 ·obtain ⟨zA,ρ,z,rr,rel,st,e,po⟩:=q
  refine N00 rel st e (N10 po) fun b z1 e1 H1 x1 st1=>?_
  cases e1
  obtain ⟨b',e',po⟩:=po
  cases e'
  exact po H1 x1 st1
end
end Q
namespace Q
open PySem L2 PySem.Spec PyProof.Rows
variable [TB:Tb]
section
variable {lm:Bool}{X:Cx}{G:Gs}{E:XK}{N:List Str}{sc:Scope}
theorem H60 {a:Ex}{k:Bool→M (List S)}{zA:Option Addr}{ρ:Env}{z:Z}{r:R (List S)}{σ:L2.St}{H:Hp}{Q':VK} (rel:v00 X.K zA H ρ σ) (st:d60 zA z H)
  (h:M.bind (ev G.F a ρ) (fun x=>M.bind (M.of ((pl x).bind asB)) k) z=some r) (her:∀ c z1,r=.er c z1→EPost G zA E c z1 H)
  (hok:∀ b z1,k b z1=some r→∀ H1,Ext zA H H1→d60 zA z1 H1→Q' (.bl b) H1):tI X.K G E a σ H Q':=by
 refine n90 rel st h her fun m z1 e1=>?_
 obtain ⟨b,p1,e2⟩:=M.a20 e1
 obtain ⟨d,p2,p3⟩:=Option.bind_eq_some_iff.mp p1
 obtain ⟨s1,rfl,q1⟩:=j40 p2
 refine ⟨s1,rfl,fun v H1 x1 st1 rv=>?_⟩
 have hd:=rv.pl.d_ q1
 cases d with
 | bl c =>
  cases p3
  rw [hd.bl_]
  exact hok b z1 e2 H1 x1 st1
 | _=>cases p3
theorem o42 {a b:Ex}{l r:Expr}{vs:List Expr}{p:Pos} (ga:b20 X G E a l) (hl:∀ t x y p,l≠.IfExp t x y p)
  (gb:b20 X G E b (.BoolOp .And (r::vs) p)):b20 X G E (.and a b) (.BoolOp .And (l::r::vs) p):=by
 have pw:PW X (.BoolOp .And (l::r::vs) p) (tT X.K G E (.and a b)):=by
  refine PW.imp (S61 (ga.pt hl) (gb.pw _ _ _ rfl)) fun σ H Q q=>?_
  obtain ⟨zA,ρ,z,rr,rel,st,e,po⟩:=q
  refine N00 rel st e (N10 po) fun c z1 e1 H1 x1 st1=>?_
  cases c with
  | true =>
   rw [if_pos rfl]
   rw [if_pos rfl] at e1
   refine N00 (rel.mono x1) st1 e1 (fun c z2 q=>((N10 po) c z2 q).mono x1) fun c z2 e2 H2 x2 st2=>?_
   cases e2
   obtain ⟨b',e',po⟩:=po
   cases e'
   exact po H2 (x1.trans x2) st2
  | false =>
   rw [if_neg Bool.false_ne_true]
   rw [if_neg Bool.false_ne_true] at e1
   cases e1
   obtain ⟨b',e',po⟩:=po
   cases e'
   exact po H1 x1 st1
 refine ⟨PE.imp (S81 ga.pe gb.pe) fun σ H Q q=>?_,fun _=>pw.pt,fun op vs p h=>pw⟩
 obtain ⟨zA,ρ,z,rr,rel,st,e,po⟩:=q
 refine H60 rel st e (h90 po) fun c z1 e1 H1 x1 st1=>⟨c,rfl,?_⟩
 cases c with
 | true =>
  rw [if_pos rfl]
  rw [if_pos rfl] at e1
  refine H60 (rel.mono x1) st1 e1 (fun c z2 q=>((h90 po) c z2 q).mono x1) fun c z2 e2 H2 x2 st2=>?_
  cases e2
  exact h60 po (x1.trans x2) st2 _ _ (a00.refl H2) h20
 | false =>
  rw [if_neg Bool.false_ne_true]
  rw [if_neg Bool.false_ne_true] at e1
  cases e1
  exact h60 po x1 st1 _ _ (a00.refl H1) h20
theorem A92 {a b:Ex}{l r:Expr}{vs:List Expr}{p:Pos} (ga:b20 X G E a l) (hl:∀ t x y p,l≠.IfExp t x y p)
  (gb:b20 X G E b (.BoolOp .Or (r::vs) p)):b20 X G E (.or a b) (.BoolOp .Or (l::r::vs) p):=by
 have pw:PW X (.BoolOp .Or (l::r::vs) p) (tT X.K G E (.or a b)):=by
  refine PW.imp (i42 (ga.pt hl) (gb.pw _ _ _ rfl)) fun σ H Q q=>?_
  obtain ⟨zA,ρ,z,rr,rel,st,e,po⟩:=q
  refine N00 rel st e (N10 po) fun c z1 e1 H1 x1 st1=>?_
  cases c with
  | false =>
   rw [if_neg Bool.false_ne_true]
   rw [if_neg Bool.false_ne_true] at e1
   refine N00 (rel.mono x1) st1 e1 (fun c z2 q=>((N10 po) c z2 q).mono x1) fun c z2 e2 H2 x2 st2=>?_
   cases e2
   obtain ⟨b',e',po⟩:=po
   cases e'
   exact po H2 (x1.trans x2) st2
  | true =>
   rw [if_pos rfl]
   rw [if_pos rfl] at e1
   cases e1
   obtain ⟨b',e',po⟩:=po
   cases e'
   exact po H1 x1 st1
 refine ⟨PE.imp (i72 ga.pe gb.pe) fun σ H Q q=>?_,fun _=>pw.pt,fun op vs p h=>pw⟩
 obtain ⟨zA,ρ,z,rr,rel,st,e,po⟩:=q
 refine H60 rel st e (h90 po) fun c z1 e1 H1 x1 st1=>⟨c,rfl,?_⟩
 cases c with
 | false =>
  rw [if_neg Bool.false_ne_true]
  rw [if_neg Bool.false_ne_true] at e1
  refine H60 (rel.mono x1) st1 e1 (fun c z2 q=>((h90 po) c z2 q).mono x1) fun c z2 e2 H2 x2 st2=>?_
  cases e2
  exact h60 po (x1.trans x2) st2 _ _ (a00.refl H2) h20
 | true =>
  rw [if_pos rfl]
  rw [if_pos rfl] at e1
  cases e1
  exact h60 po x1 st1 _ _ (a00.refl H1) h20
theorem Z81 {op:BoolOp}{b:Ex}{r:Expr}{p:Pos} (gb:b20 X G E b r) (hr:∀ t x y p,r≠.IfExp t x y p):b20 X G E b (.BoolOp op [r] p):=by
 have pw:PW X (.BoolOp op [r] p) (tT X.K G E b):=by
  cases op with
  | And=>exact F61 (gb.pt hr)
  | Or=>exact S51 (gb.pt hr)
 exact ⟨S71 gb.pe,fun _=>pw.pt,fun _ _ _ _=>pw⟩
theorem o52 {c a b:Ex}{t x y:Expr}{p:Pos} (gc:b20 X G E c t) (ht:∀ a b d p,t≠.IfExp a b d p) (ga:b20 X G E a x) (gb:b20 X G E b y):b20 X G E (.ite c a b) (.IfExp t x y p):=by
 refine ⟨PE.imp (t51 (gc.pt ht) ga.pe gb.pe) fun σ H Q q=>?_,fun h=>absurd rfl (h t x y p),fun op vs p h=>by cases h⟩
 obtain ⟨zA,ρ,z,rr,rel,st,e,po⟩:=q
 refine N00 rel st e (h90 po) fun k z1 e1 H1 x1 st1=>?_
 have po1:k41 X.K G zA E H1 Q rr:=by
  cases rr with
  | er c z1=>exact EPost.mono po x1
  | ok l z2 =>
   obtain ⟨s,e',po⟩:=po
   exact ⟨s,e',fun v H' x' st' rv=>po v H' (x1.trans x') st' (rv.from x1)⟩
 cases k with
 | true =>
  rw [if_pos rfl]
  rw [if_pos rfl] at e1
  exact ⟨zA,ρ,z1,rr,rel.mono x1,st1,e1,po1⟩
 | false =>
  rw [if_neg Bool.false_ne_true]
  rw [if_neg Bool.false_ne_true] at e1
  exact ⟨zA,ρ,z1,rr,rel.mono x1,st1,e1,po1⟩
theorem B02 (x:XI lm X G E N sc) {o o':Cm}{a b c:Ex}{l r s:Expr}{pos:Pos} (hs:w50 s=true) (ga:b20 X G E a l) (gb:b20 X G E b r) (gc:b20 X G E c s):b20 X G E (.ch o o' a b c) (.Compare l [opC o,opC o'] [r,s] pos):=by
 have hm:lastMarks [opC o,opC o'] [r,s]=false:=k61 hs _
 have key:∀ σ H Q,tI X.K G E (.ch o o' a b c) σ H Q→f31 (rD2 X.K fun a b=>(k80 o a b).map fun c=>.d (.bl c)) (rD2 X.K fun a b=>(k80 o' a b).map fun c=>.d (.bl c)) (tI X.K G E a) (tI X.K G E b) (tI X.K G E c) σ H Q:=fun σ H Q q=>by
  obtain ⟨zA,ρ,z,rr,rel,st,e,po⟩:=q
  refine X40 rel st e (h90 po) fun dx dy z2 v w H2 e2 x2 st2 h1 h2=>?_
  obtain ⟨k,hk,e3⟩:=M.a20 e2
  refine ⟨zA,z2,dx,dy,.d (.bl k),st2,h1,h2,by show Option.map _ (k80 o dx dy)=_;rw [hk];rfl,fun v3 H3 sm rv=>⟨k,Hd.bl_ (show Hd X.K (hz zA H3) (.bl k) v3 from rv),?_⟩⟩
  have x3:=x2.trans (Ext.of sm)
  have st3:=st2.same sm
  cases k with
  | true =>
   rw [if_pos rfl]
   rw [if_pos rfl] at e3
   refine n90 (rel.mono x3) st3 e3 (fun c z2 q=>((h90 po) c z2 q).mono x3) fun m z4 e4=>?_
   obtain ⟨dw,p1,e5⟩:=M.a20 e4
   obtain ⟨k',hk',e6⟩:=M.a20 e5
   obtain ⟨s1,rfl,q1⟩:=j40 p1
   cases e6
   refine ⟨s1,rfl,fun v4 H4 x4 st4 rv4=>?_⟩
   exact ⟨zA,z4,dy,dw,_,st4,(h2.same (a00.trans (h30 sm) x4)),rv4.pl.d_ q1,by show Option.map _ (k80 o' dy dw)=_;rw [hk'];rfl,h60 po (x3.trans x4) st4⟩
  | false =>
   rw [if_neg Bool.false_ne_true]
   rw [if_neg Bool.false_ne_true] at e3
   cases e3
   exact h60 po x3 st3 _ _ (a00.refl H3) h20
 refine ⟨PE.imp (u01 (R11 x.room.units o) (R11 x.room.units o') ga.pe gb.pe gc.pe hm) key,fun _=>PT.imp (u11 (R11 x.room.units o) (R11 x.room.units o') ga.pe gb.pe gc.pe hm) fun σ H Q q=>?_,fun op vs p h=>by cases h⟩
 obtain ⟨zA,ρ,z,rr,rel,st,e,po⟩:=q
 exact key σ H _ ⟨zA,ρ,z,rr,rel,st,e,D41 po⟩
theorem D51 {f:Bf}{as:Ex}:∀ σ H Q,tI X.K G E (.bf f as) σ H Q→tCB (rDn X.K (bfD f)) (tA X.K G E as) σ H Q:=fun σ H Q q=>by
 obtain ⟨zA,ρ,z,rr,rel,st,e,po⟩:=q
 refine c81 rel st e (h90 po) fun l z1 e1 vs H1 x1 st1 rvs=>?_
 obtain ⟨ds,hd,e2⟩:=M.a20 e1
 obtain ⟨s,hs,e3⟩:=M.a20 e2
 cases e3
 exact ⟨zA,z1,ds,s,st1,H50 rvs hd,hs,h60 po x1 st1⟩
theorem N20 (x:XI lm X G E N sc) {f:Bf}{as:Ex}{n:Str}{id:String}{e:Expr}{l:List Expr}{p pos:Pos} (hc:e70 X (.builtin id) (rDn X.K (bfD f))) (hb:n∈L11) (hv:bootBuiltins n=some (.builtin id)) (hg:glob sc n=true) (hL:isL as=true) (g:Good X G E as (e::l)):b20 X G E (.bf f as) (.Call (.Name n p) (e::l) [] pos):=by
 obtain ⟨k1,k2,k3⟩:=d40 hg
 obtain ⟨ha,hs⟩:=g.args hL
 rw [List.all_cons,Bool.and_eq_true] at hs
 exact b00 (PE.imp (x30 hc (x.glb n k1) (x.blt n hb) hv ha k3 k2 (c40 hs.1 l X.env) (s10 X.env pos hs.2)) D51) rfl
theorem L41 (x:XI lm X G E N sc) {f:Bf}{as:Ex}{n:Str}{T:String}{e:Expr}{l:List Expr}{p pos:Pos} (hc:e70 X (.type T) (rDn X.K (bfD f))) (hb:n∈L11) (hv:bootBuiltins n=some (.type T)) (hg:glob sc n=true) (hL:isL as=true) (g:Good X G E as (e::l)):b20 X G E (.bf f as) (.Call (.Name n p) (e::l) [] pos):=by
 obtain ⟨k1,k2,k3⟩:=d40 hg
 obtain ⟨ha,hs⟩:=g.args hL
 rw [List.all_cons,Bool.and_eq_true] at hs
 exact b00 (PE.imp (f71 hc (x.glb n k1) (x.blt n hb) hv ha k3 k2 (c40 hs.1 l X.env) (s10 X.env pos hs.2)) D51) rfl
theorem Z91:bootBuiltins "len"=some (.builtin "len"):=by decide +kernel
theorem k71:bootBuiltins "sorted"=some (.builtin "sorted"):=by decide +kernel
theorem a02:bootBuiltins "all"=some (.builtin "all"):=by decide +kernel
theorem a12:bootBuiltins "any"=some (.builtin "any"):=by decide +kernel
theorem a22:bootBuiltins "sum"=some (.builtin "sum"):=by decide +kernel
theorem a32:bootBuiltins "min"=some (.builtin "min"):=by decide +kernel
theorem a42:bootBuiltins "max"=some (.builtin "max"):=by decide +kernel
theorem a52:bootBuiltins "abs"=some (.builtin "abs"):=by decide +kernel
theorem s20:bootBuiltins "isinstance"=some (.builtin "isinstance"):=by decide +kernel
theorem D61:bootBuiltins "int"=some (.type "int"):=by decide +kernel
theorem L51:bootBuiltins "bool"=some (.type "bool"):=by decide +kernel
theorem x50:bootBuiltins "tuple"=some (.type "tuple"):=by decide +kernel
theorem H70:bootBuiltins "list"=some (.type "list"):=by decide +kernel
theorem B12 (x:XI lm X G E N sc) {f:Bf}{as:Ex}{n:Str}{e:Expr}{l:List Expr}{p pos:Pos} (hf:served f=true) (hn:n=(bfN f).1) (hg:glob sc n=true) (hL:isL as=true) (g:Good X G E as (e::l)):b20 X G E (.bf f as) (.Call (.Name n p) (e::l) [] pos):=by
 subst hn
 cases f with
 | len=>exact N20 x Y51 (by decide) Z91 hg hL g
 | tuple=>exact L41 x y21 (by decide) x50 hg hL g
 | list=>exact L41 x K61 (by decide) H70 hg hL g
 | min=>exact N20 x (Y91 x.calm) (by decide) a32 hg hL g
 | max=>exact N20 x (Z01 x.calm) (by decide) a42 hg hL g
 | abs=>exact N20 x Z11 (by decide) a52 hg hL g
 | all=>exact N20 x (Y61 x.calm) (by decide) a02 hg hL g
 | any=>exact N20 x (Y81 x.calm) (by decide) a12 hg hL g
 | int=>exact L41 x Z21 (by decide) D61 hg hL g
 | sorted=>exact N20 x (k31 x.room.units) (by decide) k71 hg hL g
 | sum=>exact N20 x (Y71 x.calm) (by decide) a22 hg hL g
 | _=>cases hf
theorem X50 (x:XI lm X G E N sc) {t:Ty}{a:Ex}{n:Str}{e:Expr}{p pos p2:Pos} (hb:(Str.ofString (tyN t))∈L11) (hv:bootBuiltins (Str.ofString (tyN t))=some (.type (tyN t))) (ht:tyN t∈["int","bool","tuple","list"]) (hT:∀ d:D,isB d.ty (tyN t)=C81 t d)
  (hg2:glob sc (Str.ofString (tyN t))=true) (hn:n="isinstance") (hg:glob sc n=true) (ns:noStar e=true) (ga:b20 X G E a e):b20 X G E (.isi t a) (.Call (.Name n p) [e,.Name (Str.ofString (tyN t)) p2] [] pos):=by
 subst hn
 obtain ⟨k1,k2,k3⟩:=d40 hg
 obtain ⟨m1,m2,m3⟩:=d40 hg2
 refine b00 (PE.imp (x30 w21 (x.glb _ k1) (x.blt _ (by decide)) s20 (e50 ga.pe (e50 (E50 (v:=.ty (tyN t)) (x.glb _ m1) (x.blt _ hb) hv rfl m3 m2) r30) (c40 ns _ _)) k3 k2 (c40 ns _ _) rfl) fun σ H Q q=>?_) rfl
 obtain ⟨zA,ρ,z,rr,rel,st,e,po⟩:=q
 refine n90 rel st e (h90 po) fun m z1 e1=>?_
 obtain ⟨d,p1,e2⟩:=M.a20 e1
 obtain ⟨s1,rfl,q1⟩:=j40 p1
 cases e2
 refine ⟨s1,rfl,fun v H1 x1 st1 rv=>⟨d,v,tyN t,rfl,((rv.pl.d_ q1).same (a10 zA H1)).has,ht,?_⟩⟩
 rw [hT d]
 exact h60 po x1 st1 _ _ (a00.refl H1) h20
theorem a62 (x:XI lm X G E N sc) {a:Ex}{n:Str}{e:Expr}{p pos p1 p2 p3:Pos}{k:Nat} (hg2:glob sc "tuple"=true) (hg3:glob sc "list"=true) (hn:n="isinstance") (hg:glob sc n=true) (ns:noStar e=true) (ga:b20 X G E a e) :
  b20 X G E (.isi .seq a) (.Call (.Name n p) [e,.Tuple [.Name "tuple" p1,.Name "list" p2] k p3] [] pos):=by
 subst hn
 obtain ⟨k1,k2,k3⟩:=d40 hg
 obtain ⟨m1,m2,m3⟩:=d40 hg2
 obtain ⟨l1,l2,l3⟩:=d40 hg3
 refine b00 (PE.imp (x30 i31 (x.glb _ k1) (x.blt _ (by decide)) s20 (e50 ga.pe (e50 (C11 (e50 (E50 (v:=.ty "tuple") (x.glb _ m1) (x.blt _ (by decide)) x50 rfl m3 m2)
  (e50 (E50 (v:=.ty "list") (x.glb _ l1) (x.blt _ (by decide)) H70 rfl l3 l2) r30))) r30) (c40 ns _ _)) k3 k2 (c40 ns _ _) rfl) fun σ H Q q=>?_) rfl
 obtain ⟨zA,ρ,z,rr,rel,st,e,po⟩:=q
 refine n90 rel st e (h90 po) fun m z1 e1=>?_
 obtain ⟨d,p1,e2⟩:=M.a20 e1
 obtain ⟨s1,rfl,q1⟩:=j40 p1
 cases e2
 refine ⟨s1,rfl,fun v H1 x1 st1 rv=>⟨by show 2≤sizeLine;rw [sizeLine_eq];decide,fun t ht=>?_⟩⟩
 have sm:a00 H1 (upd H1 t (.tup [.ty "tuple",.ty "list"])):=a00.new _ ht
 refine ⟨d,v,t,rfl,((rv.pl.d_ q1).same (a00.trans (a10 zA H1) sm)).has,SqT.of a90,?_⟩
 rw [y51 d]
 exact h60 po x1 st1 _ _ sm h20
theorem o62 {a i:Ex}{v x:Expr}{pos:Pos} (hs:T30 x=true) (ga:b20 X G E a v) (gi:b20 X G E i x):b20 X G E (.idx a i) (.Subscript v x pos):=by
 refine b00 (PE.imp (G81 ixD ga.pe gi.pe (D10 hs)) fun σ H Q q=>?_) rfl
 obtain ⟨zA,ρ,z,rr,rel,st,e,po⟩:=q
 refine X40 rel st e (h90 po) fun dx dy z2 v w H2 e2 x2 st2 h1 h2=>?_
 obtain ⟨c,hc,e3⟩:=M.a20 e2
 cases e3
 exact ⟨zA,z2,dx,dy,_,st2,h1,h2,by show Option.map _ (w20 dx dy)=_;rw [hc];rfl,h60 po x2 st2⟩
theorem a72 (x:XI lm X G E N sc) {i k:Nat}{n:Str}{c:Nat}{p q pos:Pos} (h1:N[i]?=some n) (h2:d10 n=true):b20 X G E (.zget i k) (.Subscript (.Name n p) (.Constant (.int k) c q) pos):=by
 unfold d10 at h2
 simp only [Bool.and_eq_true,Bool.not_eq_true'] at h2
 refine b00 (PE.imp (G81 R20 (p50 (i:=i) (by rw [x.hN];exact h1) (x.vis n (List.mem_of_getElem? h1)) h2.1 h2.2) V80 (D10 rfl)) fun σ H Q qq=>?_) rfl
 obtain ⟨zA,ρ,z,rr,rel,st,e,po⟩:=qq
 have e0:S00 k ρ[i]? z=some rr:=e
 unfold S00 at e0
 split at e0
 ·rename_i p hs
  obtain ⟨v,hv,a,hz',rfl⟩:=rel i .z hs
  subst hz'
  have st':H a=some (.lst [.int p.1,.bl p.2]):=st.zat
  refine ⟨_,hv,a,[.int p.1,.bl p.2],(k:Int),?_⟩
  split at e0
  ·rename_i hk
   subst hk
   cases e0
   obtain ⟨s',e',po⟩:=po
   cases e'
   exact ⟨_,rfl,rfl,SqL.of st',rfl,po _ H Ext.refl st h00⟩
  ·split at e0
   ·rename_i hk
    subst hk
    cases e0
    obtain ⟨s',e',po⟩:=po
    cases e'
    exact ⟨_,rfl,rfl,SqL.of st',rfl,po _ H Ext.refl st (t21 Hd.bl)⟩
   ·cases e0
 ·cases e0
end
section
variable {lm:Bool}{X:Cx}{G:Gs}{E:XK}{N:List Str}{sc:Scope}
theorem X60 (a:Int):∀ (n:Nat) {its:List Value},its.length=n→(∀ i,i < n→∃ v t,its[i]?=some v∧v=.int (a + (i:Nat)) t)→Vals ((List.range n).map fun (k:Nat)=>V.int (a + k)) its:=by
 intro n its hl h
 have:∀ (m:Nat) (l:List Value) (o:Nat),l.length=m→(∀ i,i < m→∃ v t,l[i]?=some v∧v=.int (a + (o + i:Nat)) t)→Vals ((List.range' o m 1).map fun (k:Nat)=>V.int (a + k)) l:=by
  intro m
  induction m with
  | zero =>
   intro l o hl _
   rw [List.length_eq_zero_iff.mp hl]
   exact .nil
  | succ m ih =>
   intro l o hl h
   cases l with
   | nil=>cases hl
   | cons x r =>
    obtain ⟨v,t,e1,e2⟩:=h 0 (Nat.succ_pos m)
    simp only [List.getElem?_cons_zero,Option.some.injEq] at e1
    subst e1
    rw [List.range'_succ,List.map_cons]
    refine .cons ⟨t,by rw [e2];simp⟩ (ih r (o + 1) (by simpa using hl) fun i hi=>?_)
    obtain ⟨v,t,e1,e2⟩:=h (i + 1) (Nat.succ_lt_succ hi)
    exact ⟨v,t,by simpa using e1,by rw [e2];congr 1;omega⟩
 rw [List.range_eq_range']
 exact this n its 0 hl fun i hi=>by
  obtain ⟨v,t,e1,e2⟩:=h i hi
  exact ⟨v,t,e1,by rw [e2];simp⟩
theorem k81:bootBuiltins "range"=some (.type "range"):=by decide +kernel
noncomputable def lrV:List V→Option (Int × Int)
 | [.int j]=>some (0,j)
 | [.int i,.int j]=>some (i,j)
 | _=>none
noncomputable def lrO:Bool→List V→HO
 | true=>HO.tup
 | false=>HO.lst
noncomputable def lrT:Bool→String
 | true=>"tuple"
 | false=>"list"
noncomputable def o72 (b:Bool) (ta:TA):TE:=fun σ H Q=>ta σ H fun vs H1=>∃ i j:Int,lrV vs=some (i,j)∧-100000 < i∧i < 100000∧-100000 < j∧j < 100000∧∀ l,H1 l=none→Q (.ref l) (upd H1 l (lrO b ((List.range (j - i).toNat).map fun (k:Nat)=>V.int (i + k))))
theorem a82 {pins:List (Addr × Obj)}{σ:L2.St}{H1:Hp}{s1:Shared}{r:Addr}{i j:Int}{t u v:Tok}{Q:VK} (hc:X.calm=true) (I2:Inv X pins σ H1 s1) (hr:IsRange s1.heap r i j 1 t u v) (i1:-100000 < i) (i2:i < 100000) (j1:-100000 < j) (j2:j < 100000)
  (q:∀ l,H1 l=none→Q (.ref l) (upd H1 l (.lst ((List.range (j - i).toNat).map fun (k:Nat)=>V.int (i + k))))):wpAny (model X.prog X.w) X.A (call (.type "list") [.ref r]) (EP X pins σ Q) X.xe s1:=by
 have hz:Builtin.Range.rangeSize i j 1=(((j - i).toNat:Nat):Int):=by rw [rangeSize_one];split <;> omega
 refine call_list_range (n:=(j - i).toNat) (I2.ok.hd hc) hr (small_one (by omega) (by omega) (by omega) (by omega)) hz (by omega) fun h' tk acc' c' kp hS hacc=>?_
 have rv:Vals ((List.range (j - i).toNat).map fun (k:Nat)=>V.int (i + k)) acc'.toList:=by
  refine X60 i (j - i).toNat ?_ fun i hi=>?_
  ·rw [Array.length_toList];exact hacc.1
  ·have hlt:i < acc'.size:=by rw [hacc.1];exact hi
   obtain ⟨t,e⟩:=hacc.2 i acc'[i] (Array.getElem?_eq_getElem hlt)
   exact ⟨acc'[i],t,by rw [Array.getElem?_toList];exact Array.getElem?_eq_getElem hlt,by rw [e];simp⟩
 have hlen:((List.range (j - i).toNat).map fun (k:Nat)=>V.int (i + k)).length≤sizeLine:=by rw [List.length_map,List.length_range,sizeLine_eq];omega
 have hn:=I2.hok.fresh (Nat.le_refl _)
 exact ⟨.ref _,_,I2.laid (t':=tk) kp (Nat.le_refl _) (show h70 X.prog X.w _ h' _ (.lst _) from ⟨hlen,acc'.toList,c',rv,by rw [Array.toArray_toList];exact hS⟩),rfl,q _ hn⟩
theorem L61 {pins:List (Addr × Obj)}{σ:L2.St}{H1:Hp}{s1:Shared}{r:Addr}{i j:Int}{t u v:Tok}{Q:VK} (hc:X.calm=true) (I2:Inv X pins σ H1 s1) (hr:IsRange s1.heap r i j 1 t u v) (i1:-100000 < i) (i2:i < 100000) (j1:-100000 < j) (j2:j < 100000)
  (q:∀ l,H1 l=none→Q (.ref l) (upd H1 l (.tup ((List.range (j - i).toNat).map fun (k:Nat)=>V.int (i + k))))):wpAny (model X.prog X.w) X.A (call (.type "tuple") [.ref r]) (EP X pins σ Q) X.xe s1:=by
 have hz:Builtin.Range.rangeSize i j 1=(((j - i).toNat:Nat):Int):=by rw [rangeSize_one];split <;> omega
 refine HT.tuple_range (n:=(j - i).toNat) (I2.ok.hd hc) hr (small_one (by omega) (by omega) (by omega) (by omega)) hz (by omega) fun h' tk acc' kp hsz hacc=>?_
 have rv:Vals ((List.range (j - i).toNat).map fun (k:Nat)=>V.int (i + k)) acc'.toList:=by
  refine X60 i (j - i).toNat ?_ fun i hi=>?_
  ·rw [Array.length_toList];exact hacc.1
  ·have hlt:i < acc'.size:=by rw [hacc.1];exact hi
   obtain ⟨t,e⟩:=hacc.2 i acc'[i] (Array.getElem?_eq_getElem hlt)
   exact ⟨acc'[i],t,by rw [Array.getElem?_toList];exact Array.getElem?_eq_getElem hlt,by rw [e];simp⟩
 have hlen:((List.range (j - i).toNat).map fun (k:Nat)=>V.int (i + k)).length≤sizeLine:=by rw [List.length_map,List.length_range,sizeLine_eq];omega
 exact ⟨.ref _,_,I2.laid (t':=tk) (fun b o e=>Heap.get?_push_of_some _ (kp b o e)) hsz (show h70 X.prog X.w _ _ _ (.tup _) from ⟨hlen,acc'.toList,rv,⟨_,Heap.get?_push_size _ rfl,rfl,0,by rw [Array.toArray_toList]⟩⟩),rfl,q _ (I2.hok.fresh hsz)⟩
theorem k91 (b:Bool) {pins:List (Addr × Obj)}{σ:L2.St}{H1:Hp}{s1:Shared}{r:Addr}{i j:Int}{t u v:Tok}{Q:VK} (hc:X.calm=true) (I2:Inv X pins σ H1 s1) (hr:IsRange s1.heap r i j 1 t u v) (i1:-100000 < i) (i2:i < 100000) (j1:-100000 < j) (j2:j < 100000)
  (q:∀ l,H1 l=none→Q (.ref l) (upd H1 l (lrO b ((List.range (j - i).toNat).map fun (k:Nat)=>V.int (i + k))))):wpAny (model X.prog X.w) X.A (call (.type (lrT b)) [.ref r]) (EP X pins σ Q) X.xe s1:=by
 cases b with
 | true=>exact L61 hc I2 hr i1 i2 j1 j2 q
 | false=>exact a82 hc I2 hr i1 i2 j1 j2 q
theorem o82 (b:Bool):bootBuiltins (lrN b)=some (.type (lrT b)):=by
 cases b with
 | true=>exact x50
 | false=>exact H70
theorem l01 (b:Bool) {e:Expr}{l:List Expr}{ta:TA}{p p2 pos pos2:Pos} (hc:X.calm=true) (hg:Gl X (lrN b)) (hm:X.mg (lrN b)=none) (hg2:Gl X "range") (hm2:X.mg "range"=none) (ha:PA X (e::l) ta) (hs:noStar e=true) (hs2:l.all noStar=true) :
  PE X (.Call (.Name (lrN b) p) [.Call (.Name "range" p2) (e::l) [] pos2] [] pos) (o72 b ta):=by
 intro pins s σ H Q I h
 refine Call_ (r10 I hg hm (o82 b) (PyProof.Rows.callWith_type1 (Calls.spliced_cons ?_) rfl rfl) (by cases b <;> decide) (by cases b <;> decide))
 refine Call_ (r10 I hg2 hm2 k81 (PyProof.Rows.callWith_type1 (thn (ha pos2 pins s σ H _ I h) fun us s1 ⟨vs,H1,I1,r1,q1⟩=>?_) (c40 hs l X.env) (s10 X.env pos2 hs2)))
 obtain ⟨i,j,hv,i1,i2,j1,j2,q⟩:=q1
 match vs,hv with
 | [.int _],hv =>
  cases hv
  obtain ⟨u,rfl,r⟩:=vals1 r1
  obtain ⟨t,rfl⟩:=r
  exact call_range_1 (Calls.spliced_nil (k91 b hc (I1.kept fun b o e=>Heap.get?_push_of_some _ e) (IsRange.new ..) i1 i2 j1 j2 q))
 | [.int _,.int _],hv =>
  cases hv
  obtain ⟨u,u',rfl,r,r'⟩:=vals2 r1
  obtain ⟨t,rfl⟩:=r
  obtain ⟨t',rfl⟩:=r'
  exact call_range_2 (Calls.spliced_nil (k91 b hc (I1.kept fun b o e=>Heap.get?_push_of_some _ e) (IsRange.new ..) i1 i2 j1 j2 q))
theorem y81:∀ {ds xs:List D},lrD ds=some xs→∃ i j:Int,((ds=[.int j]∧i=0)∨ds=[.int i,.int j])∧-100000 < i∧i < 100000∧-100000 < j∧j < 100000∧xs=(List.range (j - i).toNat).map fun (k:Nat)=>D.int (i + k)
 | [],_,h=>by cases h
 | [x],xs,h=>by
  cases x with
  | int j =>
   obtain ⟨hj,h⟩:=e80 h
   exact ⟨0,j,.inl ⟨rfl,rfl⟩,by omega,by omega,hj.1,hj.2,by cases h;simp⟩
  | _=>cases h
 | [x,y],xs,h=>by
  cases x with
  | int i =>
   cases y with
   | int j =>
    obtain ⟨hj,h⟩:=e80 h
    exact ⟨i,j,.inr rfl,hj.1,hj.2.1,hj.2.2.1,hj.2.2.2,by cases h;rfl⟩
   | _=>cases h
  | _=>cases h
 | x::y::_::_,_,h=>by
  cases x with
  | int i=>cases y <;> cases h
  | _=>cases h
theorem a92 (x:XI lm X G E N sc) {b:Bool}{as:Ex}{a:Expr}{l:List Expr}{p p2 pos pos2:Pos} (h1:glob sc (lrN b)=true) (h2:glob sc "range"=true) (hL:isL as=true) (g:Good X G E as (a::l)):b20 X G E (.lrng b as) (.Call (.Name (lrN b) p) [.Call (.Name "range" p2) (a::l) [] pos2] [] pos):=by
 obtain ⟨k1,_,_⟩:=d40 h1
 obtain ⟨m1,_,_⟩:=d40 h2
 obtain ⟨ha,hs⟩:=g.args hL
 rw [List.all_cons,Bool.and_eq_true] at hs
 refine b00 (PE.imp (l01 b x.calm (x.glb _ k1) (x.blt _ (by cases b <;> decide)) (x.glb _ m1) (x.blt _ (by decide)) ha hs.1 hs.2) fun σ H Q q=>?_) rfl
 obtain ⟨zA,ρ,z,rr,rel,st,e,po⟩:=q
 refine c81 rel st e (h90 po) fun l z1 e1 vs H1 x1 st1 rvs=>?_
 obtain ⟨xs,hx,e2⟩:=M.a20 e1
 cases e2
 obtain ⟨s',e',po⟩:=po
 cases e'
 obtain ⟨ds,h3,h4⟩:=Option.bind_eq_some_iff.mp hx
 have hd:=H50 rvs h3
 have fin:∀ i j:Int,xs=(List.range (j - i).toNat).map (fun (k:Nat)=>D.int (i + k))→∀ lA,H1 lA=none→Q (.ref lA) (upd H1 lA (lrO b ((List.range (j - i).toNat).map fun (k:Nat)=>V.int (i + k)))):=fun i j ex lA hn=>by
  subst ex
  have hI:=HdA.ints (K:=X.K) (H:=hz zA H1) ((List.range (j - i).toNat).map fun (k:Nat)=>i + (k:Int))
  rw [List.map_map,List.map_map] at hI
  cases b with
  | false=>exact po _ _ (x1.trans (Ext.of (a00.new _ hn))) (st1.same (a00.new _ hn)) ((r90 st1 hI hn).from x1)
  | true=>exact po _ _ (x1.trans (Ext.of (a00.new _ hn))) (st1.same (a00.new _ hn)) (t21 (Hd.tup ((st1.same (a00.new _ hn)).J51 (SqT.of a90)) (hI.same (h30 (a00.new _ hn)))))
 obtain ⟨i,j,hds,j1,j2,j3,j4,ex⟩:=y81 h4
 refine ⟨i,j,?_,j1,j2,j3,j4,fin i j ex⟩
 rcases hds with ⟨rfl,rfl⟩ | rfl
 ·obtain ⟨v,rfl,h5⟩:=hd.one
  cases h5.i50
  rfl
 ·obtain ⟨v,w,rfl,h5,h6⟩:=hd.two
  cases h5.i50;cases h6.i50
  rfl
end
end Q
namespace Q
open PySem L2 PySem.Spec PyProof.Rows
variable [TB:Tb]
section
variable {lm:Bool}{X:Cx}{G:Gs}{E:XK}{N:List Str}{sc:Scope}
noncomputable def tPO (K:PySem.W.Frag) (G:Gs) (E:XK) (x:Ex):TO:=fun σ H Q=>∃ zA ρ z r,v00 K zA H ρ σ∧d60 zA z H∧ev G.F x ρ z=some r∧(match r with
 | .ok l z'=>∃ o,M60 l=some o∧∀ H',Ext zA H H'→d60 zA z' H'→Q o H'
 | .er c z'=>EPost G zA E c z' H)
theorem b02 {x:Ex}{e:Option Expr} (hL:isL x=true) (g:Good X G E x e.toList):PO X e (tPO X.K G E x):=by
 cases e with
 | none =>
  cases x with
  | nil =>
   refine fun pins s σ H Q I q=>G61 pins s σ H Q I ?_
   obtain ⟨zA,ρ,z,r,rel,st,e,po⟩:=q
   cases e
   obtain ⟨o,e',po⟩:=po
   cases e'
   exact po H Ext.refl st
  | cons a r=>obtain ⟨e,es,h,_⟩:=g;cases h
  | _=>cases hL
 | some e =>
  cases x with
  | nil=>cases (show [e]=[] from g)
  | cons a r =>
   obtain ⟨e',es,h,ns,ga,lr,gr⟩:=g
   cases h
   refine fun pins s σ H Q I q=>G71 ga.pe pins s σ H Q I ?_
   obtain ⟨zA,ρ,z,rr,rel,st,e,po⟩:=q
   have her:∀ c z1,rr=.er c z1→EPost G zA E c z1 H:=fun c z1 e=>by subst e;exact po
   have rn:r=.nil:=by
    cases r with
    | nil=>rfl
    | cons b q=>obtain ⟨e,es,h,_⟩:=gr;cases h
    | _=>cases lr
   subst rn
   refine n90 rel st e her fun l z1 e1=>?_
   obtain ⟨s,hs,e2⟩:=M.a20 e1
   cases e2
   obtain ⟨o,e',po⟩:=po
   refine ⟨s,A00 hs,fun v H1 x1 st1 rv=>?_⟩
   cases s with
   | d y =>
    cases y with
    | int i =>
     cases e'
     exact ⟨i,Hd.i50 (show Hd X.K (hz zA H1) (.int i) v from rv),po H1 x1 st1⟩
    | _=>cases e'
   | fr ys=>cases e'
   | z=>cases e'
  | _=>cases hL
theorem B22 {a lo hi:Ex}{v:Expr}{l h:Option Expr}{p pos:Pos} (ga:b20 X G E a v) (hl:isL lo=true) (hh:isL hi=true) (gl:Good X G E lo l.toList) (gh:Good X G E hi h.toList):b20 X G E (.sl a lo hi) (.Subscript v (.Slice l h none p) pos):=by
 refine b00 (PE.imp (u51 A22 ga.pe (b02 hl gl) (b02 hh gh)) fun σ H Q q=>?_) rfl
 obtain ⟨zA,ρ,z,rr,rel,st,e,po⟩:=q
 refine n90 rel st e (h90 po) fun m z1 e1=>?_
 obtain ⟨dx,p1,e2⟩:=M.a20 e1
 obtain ⟨s1,rfl,q1⟩:=j40 p1
 refine ⟨s1,rfl,fun w H1 x1 st1 rv=>?_⟩
 rcases M.bind_some e2 with ⟨u,z2,e3,e4⟩ | ⟨c,z2,e3,e4⟩
 ·obtain ⟨o,ho,e5⟩:=M.a20 e4
  refine ⟨zA,ρ,z1,_,rel.mono x1,st1,e3,o,ho,fun H2 x2 st2=>?_⟩
  rcases M.bind_some e5 with ⟨u',z3,e6,e7⟩ | ⟨c,z3,e6,e7⟩
  ·obtain ⟨o',ho',e8⟩:=M.a20 e7
   refine ⟨zA,ρ,z2,_,(rel.mono x1).mono x2,st2,e6,o',ho',fun H3 x3 st3=>?_⟩
   obtain ⟨s,hs,e9⟩:=M.a20 e8
   cases e9
   exact ⟨zA,z3,dx,s,st3,((rv.pl.mono (x2.trans x3)).d_ q1),hs,h60 po ((x1.trans x2).trans x3) st3⟩
  ·exact ⟨zA,ρ,z2,_,(rel.mono x1).mono x2,st2,e6,((h90 po) c z3 e7).mono (x1.trans x2)⟩
 ·exact ⟨zA,ρ,z1,_,rel.mono x1,st1,e3,((h90 po) c z2 e4).mono x1⟩
theorem D71 {ρ:Env}:∀ {x:Ex}{es:List Expr}{z z1:Z}{l:List S},isL x=true→Good X G E x es→ev G.F x ρ z=some (.ok l z1)→l.length=es.length
 | .nil,es,z,z1,l,_,h,e=>by
  have h:es=[]:=h
  subst h
  cases e
  rfl
 | .cons a r,es,z,z1,l,_,h,e=>by
  obtain ⟨e',es',rfl,ns,g,lr,gr⟩:=h
  rcases M.bind_some e with ⟨m,z2,e1,e2⟩ | ⟨c,z2,e1,e2⟩
  ·obtain ⟨s,hs,e3⟩:=M.a20 e2
   rcases M.bind_some e3 with ⟨m',z3,e4,e5⟩ | ⟨c,z3,e4,e5⟩
   ·cases e5
    rw [List.length_cons,List.length_cons,D71 lr gr e4]
   ·cases e5
  ·cases e2
 | .var _,_,_,_,_,h,_,_=>by cases h
 | .con _,_,_,_,_,h,_,_=>by cases h
 | .gint _ _,_,_,_,_,h,_,_=>by cases h
 | .tup _,_,_,_,_,h,_,_=>by cases h
 | .lst _,_,_,_,_,h,_,_=>by cases h
 | .bin _ _ _,_,_,_,_,h,_,_=>by cases h
 | .cmp _ _ _,_,_,_,_,h,_,_=>by cases h
 | .neg _,_,_,_,_,h,_,_=>by cases h
 | .not _,_,_,_,_,h,_,_=>by cases h
 | .and _ _,_,_,_,_,h,_,_=>by cases h
 | .or _ _,_,_,_,_,h,_,_=>by cases h
 | .ite _ _ _,_,_,_,_,h,_,_=>by cases h
 | .ch _ _ _ _ _,_,_,_,_,h,_,_=>by cases h
 | .bf _ _,_,_,_,_,h,_,_=>by cases h
 | .isi _ _,_,_,_,_,h,_,_=>by cases h
 | .idx _ _,_,_,_,_,h,_,_=>by cases h
 | .sl _ _ _,_,_,_,_,h,_,_=>by cases h
 | .call _ _,_,_,_,_,h,_,_=>by cases h
 | .comp _ _ _ _ _ _ _,_,_,_,_,h,_,_=>by cases h
 | .zget _ _,_,_,_,_,h,_,_=>by cases h
 | .lrng _ _,_,_,_,_,h,_,_=>by cases h
 | .refd _ _,_,_,_,_,h,_,_=>by cases h
theorem s_call (x:XI lm X G E N sc) {f:Nat}{as:Ex}{n:Str}{ps:List Str}{e:Expr}{l:List Expr}{p pos:Pos} (hf:G.fns[f]?=some (n,ps)) (hl:ps.length=l.length + 1) (hg:glob sc n=true) (hL:isL as=true) (g:Good X G E as (e::l)) :
  b20 X G E (.call f as) (.Call (.Name n p) (e::l) [] pos):=by
 obtain ⟨k1,k2,k3⟩:=d40 hg
 obtain ⟨fa,fd,m1,m2,m3,F⟩:=x.gok f n ps hf
 obtain ⟨ha,hs⟩:=g.args hL
 rw [List.all_cons,Bool.and_eq_true] at hs
 refine b00 (PE.imp (G31 F x.room (x.glb n k1) m1 m2 m3 .nil x.pas ha k2 (c40 hs.1 l X.env) (s10 X.env pos hs.2)) fun σ H Q q=>?_) rfl
 obtain ⟨zA,ρ,z,rr,rel,st,e,po⟩:=q
 have e0:M.bind (ev G.F as ρ) (fun l=>M.bind (G.F false f (l.map plS)) fun s=>M.ret [s]) z=some rr:=e
 rcases M.bind_some e0 with ⟨m,z1,e1,e2⟩ | ⟨c,z1,e1,e2⟩
 ·refine ⟨zA,ρ,z,_,rel,st,e1,fun vs H1 x1 st1 rvs=>?_⟩
  have hv:vs.length=ps.length:=by rw [← rvs.length,D71 hL g e1,hl];rfl
  show spF X.K G f ps.length (vs++[]) H1 Q E
  rw [List.append_nil]
  refine ⟨hv,zA,z1,m.map plS,?_⟩
  have ra:RvA X.K zA H1 (m.map plS) vs:=RvA.plS (Paired.Q81 rvs fun _ _ q=>q.pl)
  rcases M.bind_some e2 with ⟨s,z2,e3,e4⟩ | ⟨c,z2,e3,e4⟩
  ·cases e4
   refine ⟨_,ra,st1,e3,fun v H2 x2 st2 rv=>?_⟩
   obtain ⟨s',e',po⟩:=po
   cases e'
   exact po v H2 (x1.trans x2) st2 (rv.from x1)
  ·exact ⟨_,ra,st1,e3,((h90 po) c z2 e4).mono x1⟩
 ·exact ⟨zA,ρ,z,_,rel,st,e1,(h90 po) c z1 e2⟩
noncomputable def h62:Pat→Nat
 | .nil=>0
 | .cons _ r=>h62 r + 1
 | _=>0
mutual
noncomputable def gP (K:PySem.W.Frag):Pat→TG
 | .v i=>Q90 i
 | .tup ps=>v72 K (h62 ps) (gL K ps)
 | .nil=>fun _ _ _ _=>False
 | .cons _ _=>fun _ _ _ _=>False
noncomputable def gL (K:PySem.W.Frag):Pat→TGs
 | .nil=>v62
 | .cons p r=>T21 (gP K p) (gL K r)
 | .v _=>fun _ _ _ _=>False
 | .tup _=>fun _ _ _ _=>False
end
end
end Q
namespace Q
open PySem L2 PySem.Spec PyProof.Rows
variable [TB:Tb]
theorem D81 {e:Expr} (h:noStar e=true) (es:List Expr) (env:PySem.Env):assignEach (e::es) env=(false,assign e env)::assignEach es env:=by
 cases e <;> first | rfl | cases h
structure y91 (X:Cx) (N:List Str) (loc:Str→Bool):Prop where
 hN:X.N=N
 nd:N.Nodup
 lc:∀ x,loc x=true→Loc X.env.scope x
 fn:∀ x,loc x=true→(X.fn x=true∨X.env.scope.names.lookup x=some .local)
 calm:X.calm=true
theorem D20:∀ {es:List Expr} (env:PySem.Env),es.all noStar=true→(assignEach es env).length=es.length∧(assignEach es env).findIdx? (·.1)=none
 | [],_,_=>⟨rfl,rfl⟩
 | e::es,env,h=>by
  rw [List.all_cons,Bool.and_eq_true] at h
  obtain ⟨h1,h2⟩:=D20 env h.2
  rw [D81 h.1]
  refine ⟨by rw [List.length_cons,List.length_cons,h1],?_⟩
  rw [List.findIdx?_cons,h2];rfl
theorem X70 {N:List Str}{loc:Str→Bool}:∀ {r:Pat}{es:List Expr},c91 N loc r es=true→es.length=h62 r∧es.all noStar=true
 | .nil,es,h=>by
  unfold c91 at h
  have:es=[]:=List.isEmpty_iff.mp h
  subst this
  exact ⟨rfl,rfl⟩
 | .cons p r,es,h=>by
  unfold c91 at h
  cases es with
  | nil=>cases h
  | cons e es =>
   rw [Bool.and_eq_true,Bool.and_eq_true] at h
   obtain ⟨h1,h2⟩:=X70 (r:=r) h.2
   exact ⟨by rw [List.length_cons,h1];rfl,by rw [List.all_cons,h.1.1,h2];rfl⟩
 | .v _,_,h=>by unfold c91 at h;cases h
 | .tup _,_,h=>by unfold c91 at h;cases h
mutual
theorem l11 {X:Cx}{N:List Str}{loc:Str→Bool} (L:y91 X N loc):∀ {p:Pat}{e:Expr},k20 N loc p e=true→PG X e (gP X.K p)
 | .v i,e,h=>by
  unfold k20 at h
  cases e with
  | Name x pos =>
   rw [Bool.and_eq_true,beq_iff_eq] at h
   unfold gP
   exact f01 (by rw [L.hN];exact L.nd) (by rw [L.hN];exact h.1) (L.lc x h.2) (L.fn x h.2)
  | _=>cases h
 | .tup ps,e,h=>by
  unfold k20 at h
  cases e with
  | Tuple es k pos =>
   obtain ⟨h1,h2⟩:=X70 h
   obtain ⟨h3,h4⟩:=D20 X.env h2
   unfold gP
   exact T31 L.calm (D91 L h) (by rw [h3,h1]) h4
  | _=>cases h
 | .nil,e,h=>by unfold k20 at h;cases h
 | .cons _ _,e,h=>by unfold k20 at h;cases h
theorem D91 {X:Cx}{N:List Str}{loc:Str→Bool} (L:y91 X N loc):∀ {r:Pat}{es:List Expr},c91 N loc r es=true→PGs X es (gL X.K r)
 | .nil,es,h=>by
  unfold c91 at h
  have:es=[]:=List.isEmpty_iff.mp h
  subst this
  unfold gL
  exact F81
 | .cons p r,es,h=>by
  unfold c91 at h
  cases es with
  | nil=>cases h
  | cons e es =>
   rw [Bool.and_eq_true,Bool.and_eq_true] at h
   unfold gL
   exact t71 (l11 L h.1.2) (D91 L h.2) (by rw [D81 h.1.1];rfl)
 | .v _,_,h=>by unfold c91 at h;cases h
 | .tup _,_,h=>by unfold c91 at h;cases h
end
section
variable {K:PySem.W.Frag}{zA:Option Addr}{H:Hp}
theorem v00.set {ρ:Env}{σ:L2.St}{i:Nat}{s:S}{v:V} (h:v00 K zA H ρ σ) (hl:ρ.length=σ.length) (r:RvP K zA H s v):v00 K zA H (ρ.set i (some s)) (σ.set i (some v)):=by
 intro j t e
 by_cases hj:j=i
 ·subst hj
  have hlt:j < ρ.length:=by
   have:=(List.getElem?_eq_some_iff.mp e).1
   simpa using this
  rw [List.getElem?_set_self hlt] at e
  cases e
  exact ⟨v,List.getElem?_set_self (by rw [← hl];exact hlt),r⟩
 ·rw [List.getElem?_set_ne (Ne.symm hj)] at e
  obtain ⟨w,h1,h2⟩:=h j t e
  exact ⟨w,by rw [List.getElem?_set_ne (Ne.symm hj)];exact h1,h2⟩
theorem A10:∀ {r:Pat}{l:List D}{ρ ρ':Env},bindL r l ρ=some ρ'→l.length=h62 r
 | .nil,l,ρ,ρ',e=>by
  unfold bindL at e
  cases l with
  | nil=>rfl
  | cons x l=>cases e
 | .cons p r,l,ρ,ρ',e=>by
  unfold bindL at e
  cases l with
  | nil=>cases e
  | cons x l =>
   obtain ⟨ρ1,e1,e2⟩:=Option.bind_eq_some_iff.mp e
   rw [List.length_cons,A10 e2];rfl
 | .v _,_,_,_,e=>by unfold bindL at e;cases e
 | .tup _,_,_,_,e=>by unfold bindL at e;cases e
mutual
theorem l21:∀ {p:Pat}{d:D}{ρ ρ':Env},f80 p d ρ=some ρ'→∀ {σ:L2.St}{v:V}{R:L2.St→Hp→Prop},v00 K zA H ρ σ→ρ.length=σ.length→Hd K (hz zA H) d v →
  (∀ σ',v00 K zA H ρ' σ'→ρ'.length=σ'.length→R σ' H)→gP K p v σ H R
 | .v i,d,ρ,ρ',e,σ,v,R,rel,hl,hd,k=>by
  unfold f80 at e
  cases e
  unfold gP
  exact k _ (rel.set hl (show RvP K zA H (.d d) v from hd)) (by rw [List.length_set,List.length_set,hl])
 | .tup ps,d,ρ,ρ',e,σ,v,R,rel,hl,hd,k=>by
  unfold f80 at e
  cases d with
  | tup l =>
   obtain ⟨a,xs,rfl,h1,h2⟩:=hd.D00
   unfold gP
   exact ⟨a,xs,rfl,(a10 zA H).sqT h1,by rw [h2.length];exact A10 e,X80 e rel hl h2 k⟩
  | _=>cases e
 | .nil,_,_,_,e,_,_,_,_,_,_,_=>by unfold f80 at e;cases e
 | .cons _ _,_,_,_,e,_,_,_,_,_,_,_=>by unfold f80 at e;cases e
theorem X80:∀ {r:Pat}{l:List D}{ρ ρ':Env},bindL r l ρ=some ρ'→∀ {σ:L2.St}{vs:List V}{R:L2.St→Hp→Prop},v00 K zA H ρ σ→ρ.length=σ.length→HdA K (hz zA H) l vs →
  (∀ σ',v00 K zA H ρ' σ'→ρ'.length=σ'.length→R σ' H)→gL K r vs σ H R
 | .nil,l,ρ,ρ',e,σ,vs,R,rel,hl,hd,k=>by
  unfold bindL at e
  cases l with
  | nil =>
   cases e
   unfold gL
   exact ⟨hd.g90,k σ rel hl⟩
  | cons x l=>cases e
 | .cons p r,l,ρ,ρ',e,σ,vs,R,rel,hl,hd,k=>by
  unfold bindL at e
  cases l with
  | nil=>cases e
  | cons x l =>
   obtain ⟨ρ1,e1,e2⟩:=Option.bind_eq_some_iff.mp e
   obtain ⟨v,ws,rfl,h1,h2⟩:=hd.c00
   unfold gL
   exact ⟨v,ws,rfl,l21 e1 rel hl h1 fun σ' r' l'=>X80 e2 r' l' h2 k⟩
 | .v _,_,_,_,e,_,_,_,_,_,_,_=>by unfold bindL at e;cases e
 | .tup _,_,_,_,e,_,_,_,_,_,_,_=>by unfold bindL at e;cases e
end
end
end Q
namespace Q
open PySem L2 PySem.Spec PyProof.Rows
variable [TB:Tb]
structure o92 (K:PySem.W.Frag) (zA:Option Addr) (J:L2.It) (xs:List D) (H1:Hp):Prop where
 go:∀ i H,Ext zA H1 H→i < xs.length→J.go i H
 yld:∀ i H x H' z d,Ext zA H1 H→d60 zA z H→J.yld i H x H'→xs[i]?=some d→a00 H H'∧Hd K (hz zA H') d x
 stop:∀ H,Ext zA H1 H→J.stop xs.length H
structure ItB (K:PySem.W.Frag) (J:L2.It) (xs:List D) (B:Hp):Prop where
 go:∀ i H,a00 B H→i < xs.length→J.go i H
 yld:∀ i H x H' zA z d,a00 B (hz zA H)→d60 zA z H→J.yld i H x H'→xs[i]?=some d→a00 H H'∧Hd K (hz zA H') d x
 stop:∀ H,a00 B H→J.stop xs.length H
section
variable {K:PySem.W.Frag}{B:Hp}
theorem ItB.ok {zA:Option Addr}{H1:Hp}{J:L2.It}{xs:List D} (h:ItB K J xs (hz zA H1)):o92 K zA J xs H1 :=
 ⟨fun i H x=>h.go i H (a00.trans x (a10 zA H)),fun i H x H' z d e st=>h.yld i H x H' zA z d e st,fun H x=>h.stop H (a00.trans x (a10 zA H))⟩
theorem X90 {a:Addr}{xs:List D}{ys:List V} (h:r00 K B a ys) (r:HdA K B xs ys):ItB K (Itl K a) xs B where
 go:=fun i H x hi=>⟨ys,ys[i]'(by rw [r.length];exact hi),(h.same x).sq,by simp⟩
 yld:=fun i H v H' zA z d x st y e=>by
  obtain ⟨rfl,y⟩:=y
  have y1:=y ys ((h.same x).same (a10 zA _)).sq
  obtain ⟨w,e1,e2⟩:=r.get e
  rw [y1] at e1;cases e1
  exact ⟨a00.refl _,e2.same x⟩
 stop:=fun H x=>⟨ys,(h.same x).sq,by rw [r.length];exact Nat.le_refl _⟩
theorem l31 {a:Addr}{xs:List D}{ys:List V} (h:SqT K B a ys) (r:HdA K B xs ys):ItB K (Itt K a) xs B where
 go:=fun i H x hi=>⟨ys,ys[i]'(by rw [r.length];exact hi),a00.sqT x h,by simp⟩
 yld:=fun i H v H' zA z d x st y e=>by
  obtain ⟨rfl,y⟩:=y
  have y1:=y ys ((a10 zA _).sqT (a00.sqT x h))
  obtain ⟨w,e1,e2⟩:=r.get e
  rw [y1] at e1;cases e1
  exact ⟨a00.refl _,e2.same x⟩
 stop:=fun H x=>⟨ys,a00.sqT x h,by rw [r.length];exact Nat.le_refl _⟩
theorem l41 (lo:Int) (n:Nat):ItB K (Itr lo n) ((List.range n).map fun (k:Nat)=>D.int (lo + k)) B where
 go:=fun i H x hi=>by show i < n;simpa using hi
 yld:=fun i H v H' zA z d x st y e=>by
  obtain ⟨rfl,rfl⟩:=y
  rw [List.getElem?_map] at e
  obtain ⟨k,e1,rfl⟩:=Option.map_eq_some_iff.mp e
  obtain ⟨h1,h2⟩:=List.getElem?_eq_some_iff.mp e1
  rw [List.getElem_range] at h2
  subst h2
  exact ⟨a00.refl _,Hd.int⟩
 stop:=fun H x=>by show n≤_;simp
end
section
variable {K:PySem.W.Frag}{zA:Option Addr}{H1:Hp}
theorem zip_get:∀ {a b:List D}{i:Nat}{d:D},(q90 a b)[i]?=some d→∃ x y,a[i]?=some x∧b[i]?=some y∧d=.tup [x,y]
 | [],_,_,_,e=>by simp [q90] at e
 | _::_,[],_,_,e=>by simp [q90] at e
 | x::r,y::q,0,d,e=>by simp [q90] at e;exact ⟨x,y,rfl,rfl,e.symm⟩
 | x::r,y::q,i + 1,d,e=>by
  obtain ⟨u,v,h1,h2,h3⟩:=zip_get (a:=r) (b:=q) (i:=i) (by simpa [q90] using e)
  exact ⟨u,v,by simpa using h1,by simpa using h2,h3⟩
theorem T40:∀ (a b:List D),(q90 a b).length=min a.length b.length
 | [],_=>by simp [q90]
 | _::_,[]=>by simp [q90]
 | x::r,y::q=>by simp only [q90,List.length_cons,T40 r q];omega
theorem L71 {B:Hp}{a b:Addr}{xs ys:List D}{us ws:List V} (h:SqT K B a us) (r:HdA K B xs us) (h':SqT K B b ws) (r':HdA K B ys ws):ItB K (Itz K a b) (q90 xs ys) B where
 go:=fun i H x hi=>by
  rw [T40] at hi
  exact ⟨us,ws,us[i]'(by rw [r.length];omega),ws[i]'(by rw [r'.length];omega),a00.sqT x h,a00.sqT x h',by simp,by simp⟩
 yld:=fun i H v H' zA z d x st y e=>by
  obtain ⟨T,rfl,hT,y⟩:=y
  obtain ⟨d1,d2,e1,e2,rfl⟩:=zip_get e
  obtain ⟨w1,f1,g1⟩:=r.get e1
  obtain ⟨w2,f2,g2⟩:=r'.get e2
  have y1:=y us ws w1 w2 ((a10 zA H).sqT (a00.sqT x h)) ((a10 zA H).sqT (a00.sqT x h')) f1 f2
  subst y1
  have sm:a00 H (upd H T (.tup [w1,w2])):=a00.new _ hT
  exact ⟨sm,Hd.tup ((st.same sm).J51 (SqT.of a90)) (.cons (g1.same (a00.trans x (h30 sm))) (.cons (g2.same (a00.trans x (h30 sm))) .nil))⟩
 stop:=fun H x=>⟨us,ws,a00.sqT x h,a00.sqT x h',by rw [T40,r.length,r'.length];omega⟩
end
noncomputable def PX (P:D→Prop):D→Prop
 | .tup l=>∀ y∈l,P y
 | .lst l=>∀ y∈l,P y
 | _=>True
noncomputable def ItX (K:PySem.W.Frag) (zA:Option Addr) (H H':Hp) (l:List S) (J:L2.It) (xs:List D):Prop :=
 ∀ (P:D→Prop) (B:Hp),a00 B (hz zA H')→(∀ a ys,SqT K (hz zA H') a ys→SqT K B a ys)→(∀ d v,P d→Hd K (hz zA H') d v→Hd K B d v)→(∀ ds,plA l=some ds→∀ d∈ds,PX P d) →
  (∀ a ys,r00 K (hz zA H') a ys→((H a=none∧H' a=some (.lst ys))∨∃ x,l=[.d (.lst x)])→r00 K B a ys)→ItB K J xs B
theorem HdA.move {K:PySem.W.Frag}{H B:Hp}{P:D→Prop} (mv:∀ d v,P d→Hd K H d v→Hd K B d v):∀ {ds:List D}{vs:List V},(∀ y∈ds,P y)→HdA K H ds vs→HdA K B ds vs
 | [],_,_,h=>by rw [h.g90];exact .nil
 | d::ds,_,p,h=>by
  obtain ⟨x,r,rfl,h1,h2⟩:=h.c00
  exact .cons (mv d x (p d List.mem_cons_self) h1) (HdA.move mv (fun y hy=>p y (List.mem_cons_of_mem _ hy)) h2)
theorem ItX.ok {K:PySem.W.Frag}{zA:Option Addr}{H H':Hp}{l:List S}{J:L2.It}{xs:List D} (h:ItX K zA H H' l J xs):o92 K zA J xs H':=by
 refine (h (fun _=>True) (hz zA H') (a00.refl _) (fun _ _ q=>q) (fun _ _ _ q=>q) (fun ds _ d _=>?_) fun _ _ q _=>q).ok
 cases d <;> first | trivial | exact fun _ _=>trivial
noncomputable def tIt (K:PySem.W.Frag) (G:Gs) (E:XK) (it:It) (src:Ex):TI:=fun σ H R=>∃ zA ρ z r,v00 K zA H ρ σ∧d60 zA z H∧ev G.F src ρ z=some r∧(match r with
 | .ok l z'=>∃ xs,(plA l).bind (itD it)=some xs∧∀ J H',Ext zA H H'→d60 zA z' H'→ItX K zA H H' l J xs→R J H'
 | .er c z'=>EPost G zA E c z' H)
section
variable {lm:Bool}{X:Cx}{G:Gs}{E:XK}{N:List Str}{sc:Scope}
theorem b12 {zA:Option Addr}{H:Hp}{it:It}{P:L2.It→Hp→Prop}{r:R (List S)} (po:(match r with | .ok l z'=>∃ xs,(plA l).bind (itD it)=some xs∧∀ J H',Ext zA H H'→d60 zA z' H'→ItX X.K zA H H' l J xs→P J H' | .er c z'=>EPost G zA E c z' H)):∀ c z1,r=.er c z1→EPost G zA E c z1 H:=fun c z1 e=>by subst e;exact po
theorem l51 {s:S}{ds:List D} (h:plA [s]=some ds):∃ d,ds=[d]∧plD s=some d:=by
 cases s with
 | d x=>cases h;exact ⟨x,rfl,rfl⟩
 | fr xs=>cases h;exact ⟨_,rfl,rfl⟩
 | z=>cases h
theorem E01 {tg e:Expr}{a:Ex} (g:b20 X G E a e):PI X tg e (tIt X.K G E .seq (.cons a .nil)):=by
 intro pins s σ H R I q
 obtain ⟨zA,ρ,z,rr,rel,st,ee,po⟩:=q
 have e0:M.bind (ev G.F a ρ) (fun x=>M.bind (M.of (one x)) fun s=>M.bind (ev G.F .nil ρ) fun y=>M.ret (s::y)) z=some rr:=ee
 rcases M.bind_some e0 with ⟨m,z1,e1,e2⟩ | ⟨c,z1,e1,e2⟩
 ·obtain ⟨t,ht,e3⟩:=M.a20 e2
  cases e3
  have hm:=A00 ht
  subst hm
  obtain ⟨xs,hx,po⟩:=po
  obtain ⟨ds,h1,h2⟩:=Option.bind_eq_some_iff.mp hx
  obtain ⟨d,rfl,h3⟩:=l51 h1
  cases d with
  | tup l =>
   cases h2
   refine B91 g.pe pins s σ H R I ⟨zA,ρ,z,_,rel,st,e1,t,rfl,fun v H1 x1 st1 rv=>?_⟩
   obtain ⟨b,ys,rfl,k1,k2⟩:=(rv.pl.d_ h3).D00
   exact ⟨b,rfl,⟨ys,(a10 zA H1).sqT k1⟩,po _ H1 x1 st1 fun P B sub tup mv pa sf=>l31 (tup _ _ k1) (HdA.move mv (show ∀ y∈xs,P y from pa _ h1 _ List.mem_cons_self) k2)⟩
  | lst l =>
   cases h2
   refine R00 g.pe pins s σ H R I ⟨zA,ρ,z,_,rel,st,e1,t,rfl,fun v H1 x1 st1 rv=>?_⟩
   have fin:∀ {b:Addr}{ys:List V},r00 X.K (hz zA H1) b ys→HdA X.K (hz zA H1) xs ys→((H b=none∧H1 b=some (.lst ys))∨∃ x,[t]=[.d (.lst x)])→∃ a,V.ref b=.ref a∧(∃ xs,SqL X.K H1 a xs)∧R (Itl X.K a) H1:=fun {b ys} k1 k2 k5=>by
    exact ⟨b,rfl,⟨ys,(k1.same (a10 zA H1)).sq⟩,po _ H1 x1 st1 fun P B sub tup mv pa sf=>X90 (sf _ _ k1 k5) (HdA.move mv (show ∀ y∈xs,P y from pa _ h1 _ List.mem_cons_self) k2)⟩
   cases t with
   | z=>cases h3
   | d x =>
    cases h3
    obtain ⟨b,ys,rfl,k1,k2⟩:=Hd.c61 (show Hd X.K (hz zA H1) (.lst xs) v from rv)
    exact fin k1 k2 (.inr ⟨xs,rfl⟩)
   | fr x =>
    cases h3
    obtain ⟨b,ys,rfl,k0,k1,k2,k3⟩:=rv
    exact fin (r00.of (e00 k2 k1)) (k3.same (j20 b _)) (.inl ⟨k0,k2⟩)
  | _=>cases h2
 ·exact R00 g.pe pins s σ H R I ⟨zA,ρ,z,_,rel,st,e1,(b12 po) c z1 e2⟩
theorem H80 {l:List S}{it:It}{xs:List D} (h:(plA l).bind (itD it)=some xs):∃ ds,plA l=some ds∧itD it ds=some xs:=Option.bind_eq_some_iff.mp h
theorem l61 (x:XI lm X G E N sc) {tg a:Expr}{as:Ex}{n:Str}{p pos:Pos} (hn:n="range") (hg:glob sc n=true) (hL:isL as=true) (g:Good X G E as [a]):PI X tg (.Call (.Name n p) [a] [] pos) (tIt X.K G E .rng1 as):=by
 subst hn
 obtain ⟨k1,k2,k3⟩:=d40 hg
 obtain ⟨ha,hs⟩:=g.args hL
 rw [List.all_cons,Bool.and_eq_true] at hs
 intro pins s σ H R I q
 refine K10 (x.glb _ k1) (x.blt _ (by decide)) ha (c40 hs.1 [] X.env) pins s σ H R I ?_
 obtain ⟨zA,ρ,z,rr,rel,st,ee,po⟩:=q
 refine ⟨zA,ρ,z,rr,rel,st,ee,?_⟩
 cases rr with
 | er c z1=>exact po
 | ok l z1 =>
  obtain ⟨xs,hx,po⟩:=po
  intro vs H1 x1 st1 rvs
  obtain ⟨ds,h1,h2⟩:=H80 hx
  have hd:=H50 rvs h1
  match ds,h2 with
  | [.int j],h2 =>
   obtain ⟨hj,h2⟩:=e80 h2
   cases h2
   obtain ⟨v,rfl,h3⟩:=hd.one
   cases h3.i50
   refine ⟨j,rfl,by omega,by omega,po _ H1 x1 st1 fun P B sub tup mv pa sf=>?_⟩
   have:=l41 (K:=X.K) (B:=B) 0 j.toNat
   simpa using this
theorem l71 (x:XI lm X G E N sc) {tg a b:Expr}{as:Ex}{n:Str}{p pos:Pos} (hn:n="range") (hg:glob sc n=true) (hL:isL as=true) (g:Good X G E as [a,b]):PI X tg (.Call (.Name n p) [a,b] [] pos) (tIt X.K G E .rng2 as):=by
 subst hn
 obtain ⟨k1,k2,k3⟩:=d40 hg
 obtain ⟨ha,hs⟩:=g.args hL
 rw [List.all_cons,List.all_cons,Bool.and_eq_true,Bool.and_eq_true] at hs
 intro pins s σ H R I q
 refine f21 (x.glb _ k1) (x.blt _ (by decide)) ha (by rw [c40 hs.1,c40 hs.2.1];rfl) (c40 hs.2.1 [] X.env) pins s σ H R I ?_
 obtain ⟨zA,ρ,z,rr,rel,st,ee,po⟩:=q
 refine ⟨zA,ρ,z,rr,rel,st,ee,?_⟩
 cases rr with
 | er c z1=>exact po
 | ok l z1 =>
  obtain ⟨xs,hx,po⟩:=po
  intro vs H1 x1 st1 rvs
  obtain ⟨ds,h1,h2⟩:=H80 hx
  have hd:=H50 rvs h1
  match ds,h2 with
  | [.int i,.int j],h2 =>
   obtain ⟨hj,h2⟩:=e80 h2
   cases h2
   obtain ⟨v,w,rfl,h3,h4⟩:=hd.two
   cases h3.i50;cases h4.i50
   exact ⟨i,j,rfl,by omega,po _ H1 x1 st1 fun P B sub tup mv pa sf=>l41 i (j - i).toNat⟩
theorem l81 (x:XI lm X G E N sc) {tg a b:Expr}{as:Ex}{n:Str}{p pos:Pos} (ht:n20 tg=true) (hn:n="zip") (hg:glob sc n=true) (hL:isL as=true) (g:Good X G E as [a,b]):PI X tg (.Call (.Name n p) [a,b] [] pos) (tIt X.K G E .zip as):=by
 subst hn
 obtain ⟨k1,k2,k3⟩:=d40 hg
 obtain ⟨ha,hs⟩:=g.args hL
 rw [List.all_cons,List.all_cons,Bool.and_eq_true,Bool.and_eq_true] at hs
 cases tg with
 | Tuple es ek ep =>
  intro pins s σ H R I q
  refine V51 (x.glb _ k1) (x.blt _ (by decide)) ha (by rw [c40 hs.1,c40 hs.2.1];rfl) (c40 hs.2.1 [] X.env) pins s σ H R I ?_
  obtain ⟨zA,ρ,z,rr,rel,st,ee,po⟩:=q
  refine ⟨zA,ρ,z,rr,rel,st,ee,?_⟩
  cases rr with
  | er c z1=>exact po
  | ok l z1 =>
   obtain ⟨xs,hx,po⟩:=po
   intro vs H1 x1 st1 rvs
   obtain ⟨ds,h1,h2⟩:=H80 hx
   have hd:=H50 rvs h1
   match ds,h2 with
   | [.tup a,.tup b],h2 =>
    cases h2
    obtain ⟨v,w,rfl,h3,h4⟩:=hd.two
    obtain ⟨p1,us,rfl,m1,m2⟩:=h3.D00
    obtain ⟨p2,ws,rfl,m3,m4⟩:=h4.D00
    exact ⟨p1,p2,rfl,⟨us,(a10 zA H1).sqT m1⟩,⟨ws,(a10 zA H1).sqT m3⟩,po _ H1 x1 st1 fun P B sub tup mv pa sf=>L71 (tup _ _ m1) (HdA.move mv (show ∀ y∈a,P y from pa _ h1 _ List.mem_cons_self) m2) (tup _ _ m3) (HdA.move mv (show ∀ y∈b,P y from pa _ h1 _ (List.mem_cons_of_mem _ List.mem_cons_self)) m4)⟩
 | _=>cases ht
theorem Y00:∀ {a:List D}{i n:Nat}{d:D},(q50 a n)[i]?=some d→∃ x,a[i]?=some x∧d=.tup [.int ((n + i:Nat):Int),x]
 | [],_,_,_,e=>by simp [q50] at e
 | x::r,0,n,d,e=>by simp [q50] at e;exact ⟨x,rfl,e.symm⟩
 | x::r,i + 1,n,d,e=>by
  obtain ⟨u,h1,h2⟩:=Y00 (a:=r) (i:=i) (n:=n + 1) (by simpa [q50] using e)
  exact ⟨u,by simpa using h1,by rw [h2,show n + 1 + i=n + (i + 1) by omega]⟩
theorem m20:∀ (a:List D) (n:Nat),(q50 a n).length=a.length
 | [],_=>rfl
 | x::r,n=>by simp only [q50,List.length_cons,m20 r]
theorem z01 {B:Hp}{a:Addr}{xs:List D}{us:List V} (h:SqT X.K B a us) (r:HdA X.K B xs us):ItB X.K (Ite X.K a) (q50 xs 0) B where
 go:=fun i H x hi=>by
  rw [m20] at hi
  exact ⟨us,us[i]'(by rw [r.length];omega),a00.sqT x h,by simp⟩
 yld:=fun i H v H' zA z d x st y e=>by
  obtain ⟨T,rfl,hT,y⟩:=y
  obtain ⟨d1,e1,rfl⟩:=Y00 e
  obtain ⟨w1,f1,g1⟩:=r.get e1
  have y1:=y us w1 ((a10 zA H).sqT (a00.sqT x h)) f1
  subst y1
  have sm:a00 H (upd H T (.tup [.int i,w1])):=a00.new _ hT
  exact ⟨sm,Hd.tup ((st.same sm).J51 (SqT.of a90)) (.cons (by rw [Nat.zero_add];exact Hd.int) (.cons (g1.same (a00.trans x (h30 sm))) .nil))⟩
 stop:=fun H x=>⟨us,a00.sqT x h,by rw [m20,r.length]⟩
theorem Y10 (x:XI lm X G E N sc) {tg a:Expr}{as:Ex}{n:Str}{p pos:Pos} (ht:n20 tg=true) (hn:n="enumerate") (hg:glob sc n=true) (hL:isL as=true) (g:Good X G E as [a]):PI X tg (.Call (.Name n p) [a] [] pos) (tIt X.K G E .enum as):=by
 subst hn
 obtain ⟨k1,k2,k3⟩:=d40 hg
 obtain ⟨ha,hs⟩:=g.args hL
 rw [List.all_cons,Bool.and_eq_true] at hs
 cases tg with
 | Tuple es ek ep =>
  intro pins s σ H R I q
  refine I61 (x.glb _ k1) (x.blt _ (by decide)) ha (c40 hs.1 [] X.env) pins s σ H R I ?_
  obtain ⟨zA,ρ,z,rr,rel,st,ee,po⟩:=q
  refine ⟨zA,ρ,z,rr,rel,st,ee,?_⟩
  cases rr with
  | er c z1=>exact po
  | ok l z1 =>
   obtain ⟨xs,hx,po⟩:=po
   intro vs H1 x1 st1 rvs
   obtain ⟨ds,h1,h2⟩:=H80 hx
   have hd:=H50 rvs h1
   match ds,h2 with
   | [.tup a],h2 =>
    cases h2
    obtain ⟨v,rfl,h3⟩:=hd.one
    obtain ⟨p1,us,rfl,m1,m2⟩:=h3.D00
    exact ⟨p1,rfl,⟨us,(a10 zA H1).sqT m1⟩,po _ H1 x1 st1 fun P B sub tup mv pa sf=>z01 (tup _ _ m1) (HdA.move mv (show ∀ y∈a,P y from pa _ h1 _ List.mem_cons_self) m2)⟩
 | _=>cases ht
noncomputable abbrev EF:XK:=fun _ _ _=>False
noncomputable def ttC (K:PySem.W.Frag) (G:Gs):Ex→TT
 | .nil=>u91
 | .cons c _=>tT K G EF c
 | _=>fun _ _ _=>False
theorem d01 {f:D→M (Option D)}{x:D}{r ys:List D}{z z2:Z} (h:turns f (x::r) z=some (.ok ys z2)):∃ o z1 l,f x z=some (.ok o z1)∧turns f r z1=some (.ok l z2)∧ys=(match o with | some y=>y::l | none=>l):=by
 rcases M.bind_some (show M.bind (f x) _ z=_ from h) with ⟨o,z1,e1,e2⟩ | ⟨c,z1,e1,e2⟩
 ·rcases M.bind_some e2 with ⟨l,z3,e3,e4⟩ | ⟨c,z3,e3,e4⟩
  ·cases e4
   exact ⟨o,z1,l,e1,e3,rfl⟩
  ·cases e4
 ·cases e2
theorem L81 {zA:Option Addr}{J:L2.It}{xs ys:List D}{H1:Hp}{z1 z2:Z}{p:Pat}{cond el:Ex}{ρ0:Env}{σ0:L2.St}{Q:VK} (IT:o92 X.K zA J xs H1) (hm:xs.length≤most) (rel0:v00 X.K zA H1 ρ0 σ0) (len:ρ0.length=σ0.length) (st1:d60 zA z1 H1)
  (hc:cond=.nil∨∃ c,cond=.cons c .nil) (e:turns (z60 (ev G.F cond) (ev G.F el) p ρ0) xs z1=some (.ok ys z2))
  (fin:∀ H2 vs l,Ext zA H1 H2→d60 zA z2 H2→HdA X.K (hz zA H2) ys vs→H2 l=none→Q (.ref l) (upd H2 l (.lst vs))):v01 J σ0 H1 (gP X.K p) (ttC X.K G cond) (tI X.K G EF el) Q:=by
 refine ⟨fun i m vs H=>m=xs.length - i∧i≤xs.length∧vs.length≤i∧∃ yd z rest,Ext zA H1 H∧d60 zA z H∧HdA X.K (hz zA H) yd vs∧turns (z60 (ev G.F cond) (ev G.F el) p ρ0) (xs.drop i) z=some (.ok rest z2)∧ys=yd++rest,
  ⟨xs.length,rfl,Nat.zero_le _,Nat.zero_le _,[],z1,ys,Ext.refl,st1,.nil,by simpa using e,rfl⟩,?_⟩
 rintro i m vs H ⟨rfl,hi,hv,yd,z,rest,x,st,hd,et,ey⟩
 by_cases hlt:i < xs.length
 ·refine .inr ⟨IT.go i H x hlt,Nat.lt_of_le_of_lt hv (Nat.lt_of_lt_of_le hlt (e90 hm)),
   fun ws H'=>ws.length≤i + 1∧∃ yd z rest,Ext zA H1 H'∧d60 zA z H'∧HdA X.K (hz zA H') yd ws∧turns (z60 (ev G.F cond) (ev G.F el) p ρ0) (xs.drop (i + 1)) z=some (.ok rest z2)∧ys=yd++rest,
   fun ws H' q=>⟨xs.length - (i + 1),by omega,rfl,hlt,q.1,q.2⟩,fun v H' y=>?_⟩
  obtain ⟨sm,hx⟩:=IT.yld i H v H' z xs[i] x st y (by simp [hlt])
  rw [List.drop_eq_getElem_cons hlt] at et
  obtain ⟨o,z3,l,f1,f2,f3⟩:=d01 et
  obtain ⟨ρ',b1,f4⟩:=M.a20 (show M.bind (M.of (f80 p xs[i] ρ0)) _ z=_ from f1)
  have x':Ext zA H1 H':=x.trans (Ext.of sm)
  have st':=st.same sm
  refine l21 b1 (rel0.mono x') len hx fun σ' rel' len'=>?_
  have yes:∀ {za:Z}{Ha:Hp},Ext zA H' Ha→d60 zA za Ha→M.bind (ev G.F el ρ') (fun y=>M.bind (M.of (pl y)) fun y=>M.ret (some y)) za=some (.ok o z3)→tI X.K G EF el σ' Ha (fun y H4=>(vs++[y]).length≤i + 1∧∃ yd z rest,Ext zA H1 H4∧d60 zA z H4∧HdA X.K (hz zA H4) yd (vs++[y])∧turns (z60 (ev G.F cond) (ev G.F el) p ρ0) (xs.drop (i + 1)) z=some (.ok rest z2)∧ys=yd++rest):=fun {za Ha} xa sta ea=>by
   refine n90 (rel'.mono xa) sta ea (fun c z1 h=>by cases h) fun m z4 e4=>?_
   obtain ⟨d,p1,e5⟩:=M.a20 e4
   obtain ⟨s1,rfl,q1⟩:=j40 p1
   cases e5
   refine ⟨s1,rfl,fun w H4 x4 st4 rv=>⟨by rw [List.length_append];simp;omega,yd++[d],z3,l,(x'.trans xa).trans x4,st4,?_,f2,by rw [ey,f3,List.append_assoc];rfl⟩⟩
   exact (hd.same (a00.trans (h30 sm) (a00.trans xa.same x4.same))).append (.cons (rv.pl.d_ q1) .nil)
  rcases hc with rfl | ⟨c,rfl⟩
  ·have f5:M.bind (ev G.F el ρ') (fun y=>M.bind (M.of (pl y)) fun y=>M.ret (some y)) z=some (.ok o z3):=f4
   have ty:ttC X.K G .nil=u91:=rfl
   rw [ty]
   refine w31 ?_
   dsimp only
   rw [if_pos rfl]
   exact yes Ext.refl st' f5
  ·rcases M.bind_some (show M.bind (ev G.F (.cons c .nil) ρ') _ z=_ from f4) with ⟨m,za,e1,e2⟩ | ⟨q,za,e1,e2⟩
   ·rcases M.bind_some (show M.bind (ev G.F c ρ') _ z=_ from e1) with ⟨m',zb,e3,e4⟩ | ⟨q,zb,e3,e4⟩
    ·obtain ⟨s,hs,e5⟩:=M.a20 e4
     cases e5
     have hm':=A00 hs
     subst hm'
     show tT X.K G EF c σ' H' _
     have tb:∃ b,s=.d (.bl b):=by
      cases s with
      | d y=>cases y with
       | bl b=>exact ⟨b,rfl⟩
       | _=>cases e2
      | fr _=>cases e2
      | z=>cases e2
     obtain ⟨b,rfl⟩:=tb
     refine ⟨zA,ρ',z,_,rel',st',e3,b,rfl,fun Ha xa sta=>?_⟩
     cases b with
     | true =>
      rw [if_pos rfl]
      exact yes xa sta e2
     | false =>
      rw [if_neg Bool.false_ne_true]
      cases e2
      exact ⟨Nat.le_trans hv (Nat.le_succ _),yd,z3,l,x'.trans xa,sta,hd.same (a00.trans (h30 sm) xa),f2,by rw [ey,f3]⟩
    ·cases e4
   ·cases e2
 ·have hi':i=xs.length:=by omega
  subst hi'
  rw [List.drop_length] at et
  cases et
  refine .inl ⟨IT.stop H x,fun l hl=>fin H vs l x st (by rw [ey,List.append_nil];exact hd) hl⟩
end
end Q
namespace Q
open PySem L2 PySem.Spec PyProof.Rows
variable [TB:Tb]
section
variable {K:PySem.W.Frag}{zA:Option Addr}{z:Z}{H H2:Hp}{P:Addr}{q:Str}
theorem z11 (KB:G40 P H H2) (t:Tab H P q) (t2:Tab H2 P q):Ext zA H H2:=by
 refine ⟨fun b o h=>?_,fun b ps h=>?_⟩
 ·obtain ⟨h1,h2⟩:=p20 h
  have nt:=p60 h
  obtain ⟨ps,hp,_⟩:=t
  have hb:b≠P:=fun z=>by
   subst z
   rw [hp] at h1
   cases h1
   exact nt _ rfl
  exact e00 (KB.same b o hb h1) h2 nt
 ·by_cases hb:b=P
  ·subst hb
   obtain ⟨qs,e,_⟩:=t2
   exact ⟨qs,e⟩
  ·exact ⟨ps,KB.same b _ hb h⟩
theorem L91 (KB:G40 P H H2) (t:Tab H P q) (t2:Tab H2 P q) (uq:∀ p∈TB.tb,p.1=P→p.2=q) (st:d60 zA z H):d60 zA z H2:=by
 obtain ⟨ps,hp,_⟩:=t
 have ne:∀ {b:Addr}{o:HO},H b=some o→(∀ l,o≠.tbl l)→b≠P:=fun {b o} e1 e2 z=>by
  subst z
  rw [hp] at e1
  cases e1
  exact e2 _ rfl
 refine ⟨?_,fun p hq=>?_⟩
 ·have h:=st.zat
  cases zA with
  | none=>cases z with
   | none=>trivial
   | some _=>exact h.elim
  | some a=>cases z with
   | none=>exact h.elim
   | some pr =>
    have h':H a=some (.lst [.int pr.1,.bl pr.2]):=h
    exact KB.same _ _ (ne h' fun _ z=>nomatch z) h'
 ·by_cases hb:p.1=P
  ·rw [uq p hq hb,hb];exact t2
  ·obtain ⟨qs,e,tr,k⟩:=st.tab p hq
   refine ⟨qs,KB.same _ _ hb e,tr,fun pos c hc=>?_⟩
   obtain ⟨c',e1,e2⟩:=k pos c hc
   exact ⟨c',e1,KB.same _ _ (ne e2 fun _ z=>nomatch z) e2⟩
theorem l91 {N:List Str}:∀ l:List Nat,(b40 N l).length≤l.length
 | []=>Nat.le_refl _
 | j::q=>by
  have ih:=l91 (N:=N) q
  unfold b40
  split
  ·rw [List.length_cons,List.length_cons];omega
  ·rw [List.length_cons];omega
theorem N30 {ρ:Env}{σ:L2.St} (rel:v00 K zA H ρ σ) {N:List Str}:∀ {capt:List Nat}{ss:List S},(capt.mapM fun i=>(ρ[i]?).getD none)=some ss→(b40 N capt).length=capt.length →
  ∃ vs,RvA K zA H ss vs∧vs.length=(b40 N capt).length∧∀ (i:Nat) (x:Str) (v:V),((b40 N capt).map (·.1))[i]?=some x→vs[i]?=some v→∃ j:Nat,N[j]?=some x∧σ[j]?=some (some v)
 | [],ss,h,_=>by
  have:ss=[]:=by simpa using h.symm
  subst this
  exact ⟨[],.nil,rfl,fun i x v h=>by simp [b40] at h⟩
 | i::capt,ss,h,hl=>by
  rw [List.mapM_cons] at h
  obtain ⟨s,h1,h2⟩:=Option.bind_eq_some_iff.mp h
  obtain ⟨r,h3,h4⟩:=Option.bind_eq_some_iff.mp h2
  cases h4
  have le:=l91 (N:=N) capt
  have e2:ρ[i]?=some (some s):=by
   cases hr:ρ[i]? with
   | none=>rw [hr] at h1;cases h1
   | some o=>rw [hr] at h1;exact congrArg some h1
  obtain ⟨v,k1,k2⟩:=rel i s e2
  cases hN:N[i]? with
  | none =>
   unfold b40 at hl
   rw [hN] at hl
   simp only [List.length_cons] at hl
   omega
  | some y =>
   unfold b40 at hl ⊢
   rw [hN] at hl ⊢
   simp only [List.length_cons] at hl
   obtain ⟨vs,a1,a2,a3⟩:=N30 rel (N:=N) (capt:=capt) h3 (by omega)
   refine ⟨v::vs,.cons k2 a1,by simp [a2],fun j x u b1 b2=>?_⟩
   cases j with
   | zero =>
    simp only [List.map_cons,List.getElem?_cons_zero,Option.some.injEq] at b1 b2
    subst b1;subst b2
    exact ⟨i,hN,k1⟩
   | succ j=>exact a3 j x u (by simpa using b1) (by simpa using b2)
theorem Y20:∀ {ss:List S}{vs:List V},RvA K zA H ss vs→v00 K zA H (ss.map some) (vs.map some)
 | [],_,h,i,s,e=>by simp at e
 | a::ss,_,h,i,s,e=>by
  cases h with
  | cons h1 h2 =>
   cases i with
   | zero =>
    simp only [List.map_cons,List.getElem?_cons_zero,Option.some.injEq] at e
    subst e
    exact ⟨_,rfl,h1⟩
   | succ i =>
    obtain ⟨v,k1,k2⟩:=Y20 h2 i s (by simpa using e)
    exact ⟨v,by simpa using k1,k2⟩
end
section
variable {lm:Bool}{X:Cx}{G:Gs}{E:XK}{N:List Str}{sc:Scope}
theorem b22 (x:XI lm X G E N sc) (hlm:lm=true) {capt:List Nat}{a:Ex}{body:Expr}{lsc:Scope}{p lpos pos:Pos} (hg:glob sc "_law_refused"=true) (hc:(b40 N capt).length=capt.length) (hs:L21 lsc sc (b40 N capt)=true) (hL:isL a=false)
  (ih:∀ (k:Nat) {X:Cx}{E:XK},XI false X (lowG G k) E ((b40 N capt).map (·.1)) lsc→Good X (lowG G k) E a [body]):b20 X G E (.refd capt a) (.Call (.Name "_law_refused" p) [.Lambda ⟨[],[],none,[],[],none,[]⟩ body lsc lpos] [] pos):=by
 obtain ⟨c,P,q,k,fR,fdR,L⟩:=x.lam hlm
 obtain ⟨k1,k2,k3⟩:=d40 hg
 unfold L21 at hs
 simp only [Bool.and_eq_true,Bool.not_eq_true',beq_iff_eq,List.all_eq_true,decide_eq_true_eq] at hs
 obtain ⟨⟨⟨⟨⟨⟨s1,s2⟩,s3⟩,s4⟩,s5⟩,s6⟩,s7⟩:=hs
 refine b00 (fun pins s σ H Q I qq=>?_) rfl
 obtain ⟨zA,ρ,z,rr,rel,st,e,po⟩:=qq
 have e0:X11 (capt.mapM fun i=>(ρ[i]?).getD none) (fun ρ'=>ev (t80 G.F) a ρ') z=some rr:=e
 unfold X11 at e0
 split at e0
 ·cases e0
 ·rename_i ss hss
  split at e0
  ·rename_i cc z1 he
   split at e0
   ·rename_i hc12
    cases e0
    obtain ⟨vs,ra,hvl,hvs⟩:=N30 rel hss hc
    have tab:=st.tab _ L.tb
    have hfree:∀ y∈(b40 N capt).map (·.1),lsc.names.lookup y=some .free:=fun y hy=>by
     obtain ⟨pr,h1,rfl⟩:=List.mem_map.mp hy
     exact s6 pr h1
    refine R80 (RR:=fun H2 H'=>Ext zA H2 H'∧d60 zA z1 H') (cls:=.ref (G.cls cc)) (N:=(b40 N capt).map (·.1)) (k:=k) (P:=P) (qual:=q) L.fn (by rw [← L.lv];exact x.room) (x.glb _ k1) L.m L.kp L.bd L.code L.hd L.qual L.bm (fun y hy hf=>?_) (fun y hy=>by simpa using s4 y hy) hfree s1 s2 s3 rfl (fun _ _ _ _=>rfl) k2 rfl pins s σ H Q I ?_
    ·have:=s5 y hy
     rw [hf] at this
     unfold Env.kindOf
     rw [L.sco]
     simpa using this
    ·refine ⟨tab,vs,by rw [List.length_map];exact hvl,fun i y v h1 h2=>by rw [x.hN];exact hvs i y v h1 h2,fun H2 KB TB2=>?_⟩
     have x2:Ext zA H H2:=z11 KB tab TB2
     have st2:d60 zA z H2:=L91 KB tab TB2 L.uq st
     refine ⟨fun f c' cl A outer s3 H3 hr sm=>?_,fun s2 f th=>?_⟩
     ·have XL:XI false (M10 X.prog X.w X.K X.mg X.base ((b40 N capt).map (·.1)) q lsc f (.ref c') cl A outer s3 H3 fun c _ H'=>c=.ref (G.cls cc)∧Ext zA H2 H'∧d60 zA z1 H') (lowG G k) (fun c _ H'=>c=.ref (G.cls cc)∧Ext zA H2 H'∧d60 zA z1 H') ((b40 N capt).map (·.1)) lsc :=
       { gok:=L.low,num:=x.num,blt:=x.blt,hN:=rfl,nd:=s7,vis:=fun y hy=>.inr (.inr (hfree y hy)),glb:=fun y h=>h,cel:=fun y h=>h,calm:=rfl,room:=hr,pas:=I91,lam:=fun h=>nomatch h }
      refine ⟨_,(b10 hL (ih k XL)).pe,?_⟩
      refine ⟨zA,ss.map some,z,_,Y20 (RvA.mono ra (x2.trans (Ext.of sm))),st2.same sm,he,fun ea H' xx stt hn=>?_⟩
      exact ⟨rfl,(Ext.of sm).trans xx,stt⟩
     ·refine ⟨f,G.cls cc,cc,_,rfl,th,L.cls cc hc12,fun l H1 H' hRR sm hl=>?_⟩
      obtain ⟨x1,st1⟩:=hRR
      obtain ⟨s',e',po⟩:=po
      cases e'
      have xx:Ext zA H H':=(x2.trans x1).trans (Ext.of sm)
      have stt:=st1.same sm
      exact po _ _ (xx.trans (Ext.of (a00.new _ hl))) (stt.same (a00.new _ hl)) ((r90 stt (HdA.cons Hd.int HdA.nil) hl).from xx)
   ·cases e0
  ·cases e0
end
end Q
namespace Q
open PySem L2 PySem.Spec PyProof.Rows
variable [TB:Tb]
theorem i60 {env:PySem.Env}{k0:NameKind} (hk:k0≠.free):∀ {names:List (Str × NameKind)}{x:Str},names.lookup x=some k0 →
  (names.map fun (n,k)=>if (k == NameKind.free&&env.scope.kind == .function&&env.kindOf n == some .cell) then (n,NameKind.cell) else (n,k)).lookup x=some k0
 | [],_,h=>by simp at h
 |(n,k)::r,x,h=>by
  have ih:=@i60 env k0 hk r x
  show List.lookup x ((if (k == NameKind.free&&env.scope.kind == .function&&env.kindOf n == some .cell)=true then (n,NameKind.cell) else (n,k))::_)=_
  cases hx:x == n with
  | true =>
   simp only [List.lookup_cons,hx] at h
   cases h
   have:(k0 == NameKind.free)=false:=by simpa using hk
   rw [this,Bool.false_and,Bool.false_and,if_neg Bool.false_ne_true]
   simp only [List.lookup_cons,hx]
  | false =>
   simp only [List.lookup_cons,hx] at h
   by_cases hq:(k == NameKind.free&&env.scope.kind == .function&&env.kindOf n == some .cell)=true
   ·rw [if_pos hq];simp only [List.lookup_cons,hx];exact ih h
   ·rw [if_neg hq];simp only [List.lookup_cons,hx];exact ih h
section
variable {lm:Bool}{X:Cx}{G:Gs}{E:XK}{N:List Str}{sc csc:Scope}{on:List Str}{cs:List (Str × Nat)}
structure b32 (csc sc:Scope) (N on:List Str) (cs:List (Str × Nat)):Prop where
 kind:csc.kind=.function
 nocell:∀ y∈csc.names,y.2≠.cell
 locs:∀ y∈csc.names,y.2=.local→csc.names.lookup y.1=some .local
 frees:∀ y∈csc.names,y.2=.free→(sc.names.lookup y.1=some .cell∨sc.names.lookup y.1=some .free)
 captd:∀ p∈cs,N[p.2]?=some p.1∧csc.names.lookup p.1=some .free
 own:∀ x∈on,csc.names.lookup x=some .local
 nd:(on++cs.map (·.1)).Nodup
theorem p02 (h:X30 csc sc N on cs=true):b32 csc sc N on cs:=by
 unfold X30 at h
 simp only [Bool.and_eq_true] at h
 obtain ⟨⟨⟨⟨⟨⟨h1,h2⟩,h3⟩,h4⟩,h5⟩,h6⟩,h7⟩:=h
 rw [List.all_eq_true] at h2 h3 h4 h5 h6
 refine ⟨by simpa using h1,fun y hy=>by simpa using h2 y hy,fun y hy hl=>?_,fun y hy hf=>?_,fun p hp=>by simpa using h5 p hp,fun x hx=>by simpa using h6 x hx,of_decide_eq_true h7⟩
 ·have:=h3 y hy;rw [hl] at this;simpa using this
 ·have:=h4 y hy
  rw [hf] at this
  simpa using this
theorem M01 (x:XI lm X G E N sc) (c:b32 csc sc N on cs):r40 X csc on cs:=⟨c.kind,c.nocell,c.locs,fun y hy hf=>x.cel _ (c.frees y hy hf),fun p hp=>by rw [x.hN];exact c.captd p hp⟩
theorem m01 (x:XI lm X G E N sc) (c:b32 csc sc N on cs) (cl:List (Str × Addr)) (C:Addr) (s:Shared) (H:Hp) (fp:List Addr):XI false (c30 X (d30 on cs) csc cl C s H fp) G EF (on++cs.map (·.1)) csc where
 gok:=x.gok
 num:=x.num
 blt:=x.blt
 hN:=rfl
 nd:=c.nd
 vis:=fun y hy=>by
  rcases List.mem_append.mp hy with h | h
  ·exact .inl (i60 (by decide) (c.own y h))
  ·obtain ⟨p,hp,rfl⟩:=List.mem_map.mp h
   rcases o40 (env:=X.env) (c.captd p hp).2 with h | h
   ·exact .inr (.inl h)
   ·exact .inr (.inr h)
 glb:=fun y hy=>i60 (by decide) hy
 cel:=fun y hy=>by
  rcases hy with h | h
  ·exact .inl (i60 (by decide) h)
  ·exact o40 (env:=X.env) h
 calm:=x.calm
 room:=x.room
 pas:=W61
 lam:=fun h=>nomatch h
theorem z21 (x:XI lm X G E N sc) (c:b32 csc sc N on cs) (cl:List (Str × Addr)) (C:Addr) (s:Shared) (H:Hp) (fp:List Addr):y91 (c30 X (d30 on cs) csc cl C s H fp) (on++cs.map (·.1)) (fun y=>on.contains y) where
 hN:=rfl
 nd:=c.nd
 lc:=fun y hy=>.inl (i60 (by decide) (c.own y (by simpa using hy)))
 fn:=fun y hy=>.inr (i60 (by decide) (c.own y (by simpa using hy)))
 calm:=x.calm
theorem Y30 {N:List Str}:∀ {capt:List Nat},(b40 N capt).length=capt.length→(b40 N capt).map (·.2)=capt
 | [],_=>rfl
 | i::r,h=>by
  have le:∀ l:List Nat,(b40 N l).length≤l.length:=by
   intro l
   induction l with
   | nil=>exact Nat.le_refl _
   | cons j q ih =>
    unfold b40
    split
    ·rw [List.length_cons,List.length_cons];omega
    ·rw [List.length_cons];omega
  unfold b40 at h ⊢
  split at h
  ·rename_i y hy
   rw [List.length_cons,List.length_cons] at h
   rw [List.map_cons,Y30 (by omega)]
  ·have:=le r
   rw [List.length_cons] at h
   omega
theorem z31 {zA:Option Addr}{H:Hp}{ρ:Env}{σ:L2.St}{capt:List Nat} (rel:v00 X.K zA H ρ σ) (h:cs.map (·.2)=capt):v00 X.K zA H (List.replicate on.length none++capt.map fun i=>(ρ[i]?).getD none) (q20 on cs σ) ∧
  (List.replicate on.length (none:Option S)++capt.map fun i=>(ρ[i]?).getD none).length=(q20 on cs σ).length:=by
 subst h
 constructor
 ·intro j s e
  unfold q20
  by_cases hj:j < on.length
  ·rw [List.getElem?_append_left (by simpa using hj)] at e
   simp [List.getElem?_replicate,hj] at e
  ·rw [List.getElem?_append_right (by simpa using hj),List.length_replicate,List.getElem?_map,List.getElem?_map] at e
   rw [List.getElem?_append_right (by simpa using hj),List.length_map,List.getElem?_map]
   cases hp:cs[j - on.length]? with
   | none=>rw [hp] at e;simp at e
   | some p =>
    rw [hp] at e
    simp only [Option.map_some,Option.some.injEq] at e
    have e2:ρ[p.2]?=some (some s):=by
     cases hr:ρ[p.2]? with
     | none=>rw [hr] at e;cases e
     | some o=>rw [hr] at e;exact congrArg some e
    obtain ⟨v,h1,h2⟩:=rel p.2 s e2
    exact ⟨v,by simp [h1],h2⟩
 ·unfold q20
  simp
theorem m21 {e:Expr} (h:w50 e=true) (env:PySem.Env) (x:Value):foldedSetIterable e env x=pure x:=by
 cases e with
 | Set _ _ _=>cases h
 | _=>rfl
noncomputable def D30 (X:Cx) (G:Gs) (E:XK) (x:Ex) (elt tg iter:Expr) (ifs:List Expr) (csc:Scope):Prop:=∃ (own:List Str) (capt:List (Str × Nat)) (wi:TI) (g:TG) (tt:TT) (te:TE),r40 X csc own capt∧PI X tg iter wi ∧
 (∀ cl C s H fp,PG (c30 X (d30 own capt) csc cl C s H fp) tg g)∧(∀ cl C s H fp,PTs (c30 X (d30 own capt) csc cl C s H fp) ifs tt)∧(∀ cl C s H fp,PE (c30 X (d30 own capt) csc cl C s H fp) elt te) ∧
 (∀ x,foldedSetIterable iter X.env x=pure x)∧∀ σ H Q,tI X.K G E x σ H Q→H51 own capt wi g tt te σ H Q
theorem p12 (x:XI lm X G E N sc) {p:Pat}{it:It}{src cond el:Ex}{capt:List Nat}{elt tg iter:Expr}{ifs:List Expr} (c:b32 csc sc N on cs) (hcap:cs.map (·.2)=capt) (hp:k20 (on++cs.map (·.1)) (fun y=>on.contains y) p tg=true)
  (hi:PI X tg iter (tIt X.K G E it src)) (hns:w50 iter=true) (hc:(cond=.nil∧ifs=[])∨∃ q f,cond=.cons q .nil∧ifs=[f]∧∀ cl C s H fp,PT (c30 X (d30 on cs) csc cl C s H fp) f (tT X.K G EF q))
  (he:∀ cl C s H fp,PE (c30 X (d30 on cs) csc cl C s H fp) elt (tI X.K G EF el)):D30 X G E (.comp on.length capt p it src cond el) elt tg iter ifs csc:=by
 have ht:∀ cl C s H fp,PTs (c30 X (d30 on cs) csc cl C s H fp) ifs (ttC X.K G cond):=by
  rcases hc with ⟨rfl,rfl⟩ | ⟨q,f,rfl,rfl,h⟩
  ·exact fun cl C s H fp=>H31
  ·exact fun cl C s H fp=>g91 (h cl C s H fp)
 refine ⟨on,cs,tIt X.K G E it src,gP X.K p,ttC X.K G cond,tI X.K G EF el,M01 x c,hi,fun cl C s H fp=>l11 (z21 x c cl C s H fp) hp,ht,he,m21 hns X.env,fun σ H Q q=>?_⟩
 obtain ⟨zA,ρ,z,rr,rel,st,e,po⟩:=q
 have e0:M.bind (ev G.F src ρ) (fun l=>M.bind (M.of ((plA l).bind (itD it))) fun xs=>if xs.length≤most then M.bind (M.calm (turns (z60 (ev G.F cond) (ev G.F el) p (List.replicate on.length none++capt.map fun i=>(ρ[i]?).getD none)) xs)) fun ys=>M.ret [.fr ys] else M.no) z=some rr:=e
 rcases M.bind_some e0 with ⟨m,z1,e1,e2⟩ | ⟨k,z1,e1,e2⟩
 ·obtain ⟨xs,hx,e3⟩:=M.a20 e2
  refine ⟨zA,ρ,z,_,rel,st,e1,xs,hx,fun J H1 x1 st1 IT'=>?_⟩
  have IT:=IT'.ok
  split at e3
  ·rename_i hm
   rcases M.bind_some e3 with ⟨ys,z2,e4,e5⟩ | ⟨k,z2,e4,e5⟩
   ·cases e5
    have e6:turns (z60 (ev G.F cond) (ev G.F el) p (List.replicate on.length none++capt.map fun i=>(ρ[i]?).getD none)) xs z1=some (.ok ys z2):=by
     unfold M.calm at e4
     split at e4
     ·rename_i h;cases e4;exact h
     ·cases e4
    obtain ⟨r1,r2⟩:=z31 (on:=on) (rel.mono x1) hcap
    refine L81 IT hm r1 r2 st1 (by rcases hc with ⟨h,_⟩ | ⟨q,_,h,_⟩;exact .inl h;exact .inr ⟨q,h⟩) e6 fun H2 vs l x2 st2 hd hl=>?_
    exact h60 po (x1.trans x2) st2 _ _ (a00.new _ hl) (r90 st2 hd hl)
   ·unfold M.calm at e4
    split at e4 <;> cases e4
  ·cases e3
 ·exact ⟨zA,ρ,z,_,rel,st,e1,(h90 po) k z1 e2⟩
theorem D30.good {x:Ex}{elt tg iter:Expr}{ifs:List Expr}{csc:Scope}{pos:Pos} (hc:X.calm=true) (h:D30 X G E x elt tg iter ifs csc):b20 X G E x (.ListComp elt [⟨tg,iter,ifs,0⟩] csc pos):=by
 obtain ⟨own,capt,wi,g,tt,te,h1,h2,h3,h4,h5,h6,h7⟩:=h
 exact b00 (PE.imp (h01 hc h1 h2 h3 h4 h5 h6) h7) rfl
theorem b70 {x:Ex} (h:(!isL x)=true):isL x=false:=by simpa using h
theorem m31 {x:Ex}{e:Expr} (hL:isL x=true) (g:Good X G E x [e]):∃ a,x=.cons a .nil∧b20 X G E a e:=by
 cases x with
 | nil=>cases (show [e]=[] from g)
 | cons a r =>
  obtain ⟨e',es,h,ns,ga,lr,gr⟩:=g
  cases h
  cases r with
  | nil=>exact ⟨a,rfl,ga⟩
  | cons b q=>obtain ⟨e,es,h,_⟩:=gr;cases h
  | _=>cases lr
 | _=>cases hL
theorem N40 {lm:Bool}{G:Gs}{own:Nat}{capt:List Nat}{p:Pat}{it:It}{src cond el:Ex} (ihs:(∀ {X:Cx}{E:XK}{N:List Str}{sc:Scope},XI lm X G E N sc→∀ {es:List Expr},mt lm G.fns G.nums src sc N es=true→Good X G E src es)) (ihc:(∀ {X:Cx}{E:XK}{N:List Str}{sc:Scope},XI false X G E N sc→∀ {es:List Expr},mt false G.fns G.nums cond sc N es=true→Good X G E cond es)) (ihe:(∀ {X:Cx}{E:XK}{N:List Str}{sc:Scope},XI false X G E N sc→∀ {es:List Expr},mt false G.fns G.nums el sc N es=true→Good X G E el es))
  {X:Cx}{E:XK}{N:List Str}{sc:Scope} (x:XI lm X G E N sc) {elt tg iter:Expr}{ifs:List Expr}{csc:Scope} (h:(c70 tg).length == own&&(b40 N capt).length == capt.length&&X30 csc sc N (c70 tg) (b40 N capt)&&k20 (c70 tg++(b40 N capt).map (·.1)) (fun x=>(c70 tg).contains x) p tg&&isL src&&!isL el&&isL cond&&ifs.length≤1&&noStar elt&&w50 iter&&ifs.all (fun c=>!ifB c) &&
    (match it with
    | .seq=>mt lm G.fns G.nums src sc N [iter]
    | .rng1=>opt (R21 iter) fun r=>r.1.1 == ("range":Str)&&glob sc r.1.1&&mt lm G.fns G.nums src sc N [r.1.2.2.1]
    | .rng2=>opt (R31 iter) fun r=>r.1.1 == ("range":Str)&&glob sc r.1.1&&mt lm G.fns G.nums src sc N [r.1.2.2.1,r.1.2.2.2.1]
    | .zip=>opt (R31 iter) fun r=>r.1.1 == ("zip":Str)&&glob sc r.1.1&&n20 tg&&mt lm G.fns G.nums src sc N [r.1.2.2.1,r.1.2.2.2.1]
    | .enum=>opt (R21 iter) fun r=>r.1.1 == ("enumerate":Str)&&glob sc r.1.1&&n20 tg&&mt lm G.fns G.nums src sc N [r.1.2.2.1])&&mt false G.fns G.nums cond csc (c70 tg++(b40 N capt).map (·.1)) ifs&&mt false G.fns G.nums el csc (c70 tg++(b40 N capt).map (·.1)) [elt]):D30 X G E (.comp own capt p it src cond el) elt tg iter ifs csc:=by
 simp only [Bool.and_eq_true,beq_iff_eq,decide_eq_true_eq] at h
 obtain ⟨⟨⟨⟨⟨⟨⟨⟨⟨⟨⟨⟨⟨h1,h2⟩,h3⟩,h4⟩,h5⟩,h6⟩,h7⟩,h8⟩,h9⟩,h10⟩,h11⟩,h12⟩,h13⟩,h14⟩:=h
 subst h1
 have c:=p02 h3
 have hi:PI X tg iter (tIt X.K G E it src):=by
  cases it with
  | seq =>
   obtain ⟨a,rfl,ga⟩:=m31 h5 (ihs x h12)
   exact E01 ga
  | rng1 =>
   obtain ⟨⟨⟨n,_,a,_⟩,rfl⟩,-,h12⟩:=a40 h12
   simp only [Bool.and_eq_true,beq_iff_eq] at h12
   exact l61 x h12.1.1 h12.1.2 h5 (ihs x h12.2)
  | rng2 =>
   obtain ⟨⟨⟨n,_,a,b,_⟩,rfl⟩,-,h12⟩:=a40 h12
   simp only [Bool.and_eq_true,beq_iff_eq] at h12
   exact l71 x h12.1.1 h12.1.2 h5 (ihs x h12.2)
  | zip =>
   obtain ⟨⟨⟨n,_,a,b,_⟩,rfl⟩,-,h12⟩:=a40 h12
   simp only [Bool.and_eq_true,beq_iff_eq] at h12
   exact l81 x h12.1.2 h12.1.1.1 h12.1.1.2 h5 (ihs x h12.2)
  | enum =>
   obtain ⟨⟨⟨n,_,a,_⟩,rfl⟩,-,h12⟩:=a40 h12
   simp only [Bool.and_eq_true,beq_iff_eq] at h12
   exact Y10 x h12.1.2 h12.1.1.1 h12.1.1.2 h5 (ihs x h12.2)
 have hc:(cond=.nil∧ifs=[])∨∃ q f,cond=.cons q .nil∧ifs=[f]∧∀ cl C s H fp,PT (c30 X (d30 (c70 tg) (b40 N capt)) csc cl C s H fp) f (tT X.K G EF q):=by
  match ifs,h8,h11,h13 with
  | [],_,_,h13 =>
   cases cond with
   | nil=>exact .inl ⟨rfl,rfl⟩
   | cons a r=>cases h13
   | _=>cases h7
  | [f],_,h11,h13 =>
   cases cond with
   | nil=>cases h13
   | cons a r =>
    have h13':(noStar f&&!isL a&&isL r&&mt false G.fns G.nums a csc (c70 tg++(b40 N capt).map (·.1)) [f]&&mt false G.fns G.nums r csc (c70 tg++(b40 N capt).map (·.1)) [])=true:=h13
    simp only [Bool.and_eq_true] at h13'
    have rn:r=.nil:=by
     cases r with
     | nil=>rfl
     | cons b q=>cases h13'.2
     | _=>cases h13'.1.1.2
    subst rn
    simp only [List.all_cons,List.all_nil,Bool.and_true] at h11
    refine .inr ⟨a,f,rfl,rfl,fun cl C s H fp=>?_⟩
    obtain ⟨e',es,he,ns,ga,lr,gr⟩:=ihc (m01 x c cl C s H fp) h13
    cases he
    exact ga.pt (L31 h11)
   | _=>cases h7
 refine p12 x c (Y30 h2) h4 hi h10 hc fun cl C s H fp=>?_
 exact (b10 (b70 h6) (ihe (m01 x c cl C s H fp) h14)).pe
theorem b42:∀ (t:Ex) {lm:Bool}{G:Gs}{X:Cx}{E:XK}{N:List Str}{sc:Scope},XI lm X G E N sc→∀ {es:List Expr},mt lm G.fns G.nums t sc N es=true→Good X G E t es:=by
 intro t
 induction t with
 | nil =>
  intro lm G X E N sc x es h
  exact List.isEmpty_iff.mp h
 | cons a r iha ihr =>
  intro lm G X E N sc x es h
  cases es with
  | nil=>cases h
  | cons e es =>
   have h:(noStar e&&!isL a&&isL r&&mt lm G.fns G.nums a sc N [e]&&mt lm G.fns G.nums r sc N es)=true:=h
   simp only [Bool.and_eq_true] at h
   obtain ⟨⟨⟨⟨h1,h2⟩,h3⟩,h4⟩,h5⟩:=h
   exact ⟨e,es,rfl,h1,b10 (b70 h2) (iha x h4),h3,ihr x h5⟩
 | var i =>
  intro lm G X E N sc x es h
  obtain ⟨⟨q,rfl⟩,-,h⟩:=a40 h
  simp only [Bool.and_eq_true,beq_iff_eq] at h
  exact b80 rfl (n52 x h.1 h.2)
 | con d =>
  intro lm G X E N sc x es h
  rcases (Bool.or_eq_true _ _).mp h with h | h
  ·obtain ⟨⟨q,rfl⟩,-,h⟩:=a40 h
   exact b80 rfl (n62 h)
  ·obtain ⟨⟨p,rfl⟩,-,h⟩:=a40 h
   cases d with
   | dct=>exact b80 rfl n72
   | _=>cases h
 | gint g i =>
  intro lm G X E N sc x es h
  obtain ⟨⟨⟨n,p⟩,rfl⟩,-,h⟩:=a40 h
  simp only [Bool.and_eq_true,beq_iff_eq,List.contains_iff_mem] at h
  obtain ⟨⟨rfl,h2⟩,h3⟩:=h
  exact b80 rfl (Z71 x h2 h3)
 | tup as ih =>
  intro lm G X E N sc x es h
  obtain ⟨⟨q,rfl⟩,-,h⟩:=a40 h
  simp only [Bool.and_eq_true] at h
  exact b80 rfl (n82 h.1 (ih x h.2))
 | lst as ih =>
  intro lm G X E N sc x es h
  obtain ⟨⟨q,rfl⟩,-,h⟩:=a40 h
  simp only [Bool.and_eq_true] at h
  exact b80 rfl (n92 h.1 (ih x h.2))
 | bin o a b iha ihb =>
  intro lm G X E N sc x es h
  obtain ⟨⟨⟨l,op,r,p⟩,rfl⟩,-,h⟩:=a40 h
  simp only [Bool.and_eq_true,beq_iff_eq] at h
  obtain ⟨⟨⟨⟨rfl,h2⟩,h3⟩,h4⟩,h5⟩:=h
  exact b80 rfl (o02 (b10 (b70 h2) (iha x h4)) (b10 (b70 h3) (ihb x h5)))
 | cmp o a b iha ihb =>
  intro lm G X E N sc x es h
  obtain ⟨⟨⟨l,op,r,p⟩,rfl⟩,-,h⟩:=a40 h
  simp only [Bool.and_eq_true,beq_iff_eq] at h
  obtain ⟨⟨⟨⟨⟨rfl,h1⟩,h2⟩,h3⟩,h4⟩,h5⟩:=h
  exact b80 rfl (o12 x h1 (b10 (b70 h2) (iha x h4)) (b10 (b70 h3) (ihb x h5)))
 | neg a ih =>
  intro lm G X E N sc x es h
  obtain ⟨⟨q,rfl⟩,-,h⟩:=a40 h
  simp only [Bool.and_eq_true] at h
  exact b80 rfl (o22 (b10 (b70 h.1) (ih x h.2)))
 | not a ih =>
  intro lm G X E N sc x es h
  obtain ⟨⟨q,rfl⟩,-,h⟩:=a40 h
  simp only [Bool.and_eq_true] at h
  obtain ⟨⟨h1,h2⟩,h3⟩:=h
  exact b80 rfl (o32 (b10 (b70 h1) (ih x h3)) (L31 h2))
 | and a b iha ihb =>
  intro lm G X E N sc x es h
  obtain ⟨⟨⟨l,r,vs,p⟩,rfl⟩,-,h⟩:=a40 h
  simp only [Bool.and_eq_true] at h
  obtain ⟨⟨⟨⟨h1,h2⟩,h3⟩,h4⟩,h5⟩:=h
  refine b80 rfl (o42 (b10 (b70 h1) (iha x h4)) (L31 h3) ?_)
  cases vs with
  | nil =>
   rw [if_pos (show ([]:List Expr).isEmpty=true from rfl),Bool.and_eq_true] at h5
   exact Z81 (b10 (b70 h2) (ihb x h5.2)) (L31 h5.1)
  | cons v vs =>
   rw [if_neg (by exact Bool.false_ne_true)] at h5
   exact b10 (b70 h2) (ihb x h5)
 | or a b iha ihb =>
  intro lm G X E N sc x es h
  obtain ⟨⟨⟨l,r,vs,p⟩,rfl⟩,-,h⟩:=a40 h
  simp only [Bool.and_eq_true] at h
  obtain ⟨⟨⟨⟨h1,h2⟩,h3⟩,h4⟩,h5⟩:=h
  refine b80 rfl (A92 (b10 (b70 h1) (iha x h4)) (L31 h3) ?_)
  cases vs with
  | nil =>
   rw [if_pos (show ([]:List Expr).isEmpty=true from rfl),Bool.and_eq_true] at h5
   exact Z81 (b10 (b70 h2) (ihb x h5.2)) (L31 h5.1)
  | cons v vs =>
   rw [if_neg (by exact Bool.false_ne_true)] at h5
   exact b10 (b70 h2) (ihb x h5)
 | ite c a b ihc iha ihb =>
  intro lm G X E N sc x es h
  obtain ⟨⟨q,rfl⟩,-,h⟩:=a40 h
  simp only [Bool.and_eq_true] at h
  obtain ⟨⟨⟨⟨⟨⟨h1,h2⟩,h3⟩,h4⟩,h5⟩,h6⟩,h7⟩:=h
  exact b80 rfl (o52 (b10 (b70 h1) (ihc x h5)) (L31 h4) (b10 (b70 h2) (iha x h6)) (b10 (b70 h3) (ihb x h7)))
 | ch o o' a b c iha ihb ihc =>
  intro lm G X E N sc x es h
  obtain ⟨⟨⟨l,op,op',r,s,p⟩,rfl⟩,-,h⟩:=a40 h
  simp only [Bool.and_eq_true,beq_iff_eq] at h
  obtain ⟨⟨⟨⟨⟨⟨⟨⟨rfl,rfl⟩,h1⟩,h2⟩,h3⟩,h4⟩,h5⟩,h6⟩,h7⟩:=h
  exact b80 rfl (B02 x h1 (b10 (b70 h2) (iha x h5)) (b10 (b70 h3) (ihb x h6)) (b10 (b70 h4) (ihc x h7)))
 | bf f as ih =>
  intro lm G X E N sc x es h
  obtain ⟨⟨q,rfl⟩,-,h⟩:=a40 h
  simp only [Bool.and_eq_true,beq_iff_eq] at h
  obtain ⟨⟨⟨⟨h1,h2⟩,h3⟩,h4⟩,h5⟩:=h
  exact b80 rfl (B12 x h1 h2 h3 h4 (ih x h5))
 | isi t a ih =>
  intro lm G X E N sc x es h
  obtain ⟨⟨⟨n,q,e,ty,p⟩,rfl⟩,-,h⟩:=a40 h
  simp only [Bool.and_eq_true,beq_iff_eq] at h
  obtain ⟨⟨⟨⟨⟨h1,h2⟩,h3⟩,h4⟩,h5⟩,h6⟩:=h
  have g:=b10 (b70 h4) (ih x h5)
  refine b80 rfl ?_
  cases t with
  | seq =>
   obtain ⟨⟨⟨a,_,b,_,_,_⟩,rfl⟩,-,h6⟩:=a40 h6
   simp only [Bool.and_eq_true,beq_iff_eq] at h6
   obtain ⟨⟨⟨rfl,rfl⟩,k1⟩,k2⟩:=h6
   exact a62 x k1 k2 h1 h2 h3 g
  | int =>
   obtain ⟨⟨⟨a,_⟩,rfl⟩,-,h6⟩:=a40 h6
   simp only [Bool.and_eq_true,beq_iff_eq] at h6
   obtain ⟨rfl,k1⟩:=h6
   exact X50 (t:=.int) x (by decide) D61 (by decide) (fun d=>H30 .int d (by intro h;cases h) (by intro h;cases h)) k1 h1 h2 h3 g
  | bool =>
   obtain ⟨⟨⟨a,_⟩,rfl⟩,-,h6⟩:=a40 h6
   simp only [Bool.and_eq_true,beq_iff_eq] at h6
   obtain ⟨rfl,k1⟩:=h6
   exact X50 (t:=.bool) x (by decide) L51 (by decide) (fun d=>H30 .bool d (by intro h;cases h) (by intro h;cases h)) k1 h1 h2 h3 g
  | tuple =>
   obtain ⟨⟨⟨a,_⟩,rfl⟩,-,h6⟩:=a40 h6
   simp only [Bool.and_eq_true,beq_iff_eq] at h6
   obtain ⟨rfl,k1⟩:=h6
   exact X50 (t:=.tuple) x (by decide) x50 (by decide) (fun d=>H30 .tuple d (by intro h;cases h) (by intro h;cases h)) k1 h1 h2 h3 g
  | list =>
   obtain ⟨⟨⟨a,_⟩,rfl⟩,-,h6⟩:=a40 h6
   simp only [Bool.and_eq_true,beq_iff_eq] at h6
   obtain ⟨rfl,k1⟩:=h6
   exact X50 (t:=.list) x (by decide) H70 (by decide) (fun d=>H30 .list d (by intro h;cases h) (by intro h;cases h)) k1 h1 h2 h3 g
  | str=>cases h6
 | idx a i iha ihi =>
  intro lm G X E N sc x es h
  obtain ⟨⟨q,rfl⟩,-,h⟩:=a40 h
  simp only [Bool.and_eq_true] at h
  obtain ⟨⟨⟨⟨h1,h2⟩,h3⟩,h4⟩,h5⟩:=h
  exact b80 rfl (o62 h1 (b10 (b70 h2) (iha x h4)) (b10 (b70 h3) (ihi x h5)))
 | sl a lo hi iha ihl ihh =>
  intro lm G X E N sc x es h
  obtain ⟨⟨q,rfl⟩,-,h⟩:=a40 h
  simp only [Bool.and_eq_true] at h
  obtain ⟨⟨⟨⟨⟨h1,h2⟩,h3⟩,h4⟩,h5⟩,h6⟩:=h
  exact b80 rfl (B22 (b10 (b70 h1) (iha x h4)) h2 h3 (ihl x h5) (ihh x h6))
 | call f as ih =>
  intro lm G X E N sc x es h
  obtain ⟨⟨⟨n,q,e,l,p⟩,rfl⟩,-,h⟩:=a40 h
  simp only [Bool.and_eq_true] at h
  obtain ⟨⟨⟨h1,h2⟩,h3⟩,h4⟩:=h
  obtain ⟨pr,hf,h1'⟩:=a40 h1
  simp only [Bool.and_eq_true,beq_iff_eq] at h1'
  obtain ⟨rfl,h7⟩:=h1'
  exact b80 rfl (s_call x hf h7 h2 h3 (ih x h4))
 | comp own capt p it src cond el ihs ihc ihe =>
  intro lm G X E N sc x es h
  obtain ⟨⟨q,rfl⟩,-,h⟩:=a40 h
  exact b80 rfl ((N40 ihs ihc ihe x h).good x.calm)
 | lrng b as ih =>
  intro lm G X E N sc x es h
  obtain ⟨⟨⟨n,p,m,q,a,r,t⟩,rfl⟩,-,h⟩:=a40 h
  simp only [Bool.and_eq_true,beq_iff_eq] at h
  obtain ⟨⟨⟨⟨⟨⟨h1,h2⟩,h3⟩,h4⟩,h5⟩,h7⟩,h6⟩:=h
  subst h1;subst h2
  cases a with
  | nil=>simp at h7
  | cons a l=>exact b80 rfl (a92 x h3 h4 h5 (ih x h6))
 | zget i k =>
  intro lm G X E N sc x es h
  obtain ⟨⟨⟨n,p,j,c,q,r⟩,rfl⟩,-,h⟩:=a40 h
  simp only [Bool.and_eq_true,beq_iff_eq] at h
  obtain ⟨⟨h1,h2⟩,h3⟩:=h
  have h3:j=(k:Int):=h3
  subst h3
  exact b80 rfl (a72 x h1 h2)
 | refd capt a ih =>
  intro lm G X E N sc x es h
  obtain ⟨⟨⟨n,p,body,lsc,lpos,pos⟩,rfl⟩,-,h⟩:=a40 h
  simp only [Bool.and_eq_true,beq_iff_eq] at h
  obtain ⟨⟨⟨⟨⟨⟨h1,h2⟩,h3⟩,h4⟩,h5⟩,h6⟩,h7⟩:=h
  have h2:n="_law_refused":=h2
  subst h2
  exact b80 rfl (b22 x h1 h3 h4 h5 (b70 h6) fun k X E xl=>ih xl h7)
theorem sound (G:Gs) (t:Ex) {lm:Bool}{X:Cx}{E:XK}{N:List Str}{sc:Scope} (x:XI lm X G E N sc) {es:List Expr} (h:mt lm G.fns G.nums t sc N es=true):Good X G E t es:=b42 t x h
end
end Q
namespace Q
open PySem L2 PySem.Spec PyProof.Rows
variable [TB:Tb]
open Classical in
noncomputable def hw (ow:Nat→Option Addr) (H:Hp):Hp:=fun b=>if ∃ i,ow i=some b then none else H b
section
variable {K:PySem.W.Frag}{ow:Nat→Option Addr}{H H':Hp}
theorem k90:a00 (hw ow H) H:=fun b o e=>by
 unfold hw at e
 split at e
 ·cases e
 ·exact e
theorem j60 {b:Addr}{o:HO} (h:H b=some o) (n:∀ i,ow i≠some b):hw ow H b=some o:=by
 unfold hw
 rw [if_neg (fun ⟨i,e⟩=>n i e)]
 exact h
theorem A20 {b:Addr}{o:HO} (h:hw ow H b=some o):H b=some o∧∀ i,ow i≠some b:=by
 refine ⟨k90 b o h,fun i e=>?_⟩
 unfold hw at h
 rw [if_pos ⟨i,e⟩] at h
 cases h
theorem d50 (e:a00 H H'):a00 (hw ow H) (hw ow H'):=fun b o h=>by
 obtain ⟨h1,h2⟩:=A20 h
 exact j60 (e b o h1) h2
theorem t90:hw (fun _=>none) H=H:=by
 funext b
 unfold hw
 rw [if_neg (fun ⟨i,e⟩=>by cases e)]
theorem E11 {a:Addr}{xs:List V} (h:SqT K H a xs) (hl:∀ i b,ow i=some b→∃ ys,H b=some (.lst ys)):SqT K (hw ow H) a xs:=by
 rcases h with (h | ⟨o,h⟩) | h
 ·refine .inl (.inl (j60 h fun i e=>?_))
  obtain ⟨ys,q⟩:=hl i a e
  rw [h] at q;cases q
 ·refine .inl (.inr ⟨o,j60 h fun i e=>?_⟩)
  obtain ⟨ys,q⟩:=hl i a e
  rw [h] at q;cases q
 ·exact .inr h
mutual
theorem A30 (hl:∀ i b,ow i=some b→∃ ys,H b=some (.lst ys)):∀ {d:D}{v:V},bare d=true→Hd K H d v→Hd K (hw ow H) d v
 | .non,_,_,h=>by rw [h.X31];exact Hd.non
 | .bl _,_,_,h=>by rw [h.bl_];exact Hd.bl
 | .int _,_,_,h=>by rw [h.i50];exact Hd.int
 | .str _,_,_,h=>by rw [h.l52];exact Hd.str
 | .tup l,_,b,h=>by
  obtain ⟨a,xs,rfl,h1,h2⟩:=h.D00
  exact Hd.tup (E11 h1 hl) (x60 hl (by simpa [bare] using b) h2)
 | .lst _,_,b,_=>by cases b
 | .dct,_,b,_=>by cases b
theorem x60 (hl:∀ i b,ow i=some b→∃ ys,H b=some (.lst ys)):∀ {ds:List D}{vs:List V},d80 ds=true→HdA K H ds vs→HdA K (hw ow H) ds vs
 | [],_,_,h=>by rw [h.g90];exact .nil
 | d::ds,_,b,h=>by
  obtain ⟨x,r,rfl,h1,h2⟩:=h.c00
  simp only [d80,Bool.and_eq_true] at b
  exact .cons (A30 hl b.1 h1) (x60 hl b.2 h2)
end
end
noncomputable def RvW (K:PySem.W.Frag) (zA:Option Addr) (ow:Nat→Option Addr) (H:Hp) (i:Nat):S→V→Prop
 | .d x,v=>ow i=none∧Hd K (hw ow (hz zA H)) x v
 | .fr xs,v=>∃ a ys,ow i=some a∧v=.ref a∧H a=some (.lst ys)∧HdA K (hw ow (hz zA H)) xs ys
 | .z,v=>ow i=none∧∃ a,zA=some a∧v=.ref a
structure RW (K:PySem.W.Frag) (H0:Hp) (zE zA:Option Addr) (ow:Nat→Option Addr) (H:Hp) (ρ:Env) (σ:L2.St):Prop where
 len:ρ.length=σ.length
 inj:∀ i j a,ow i=some a→ow j=some a→i=j
 zne:∀ i a,ow i=some a→zA≠some a
 own:∀ i a,ow i=some a→∃ xs,ρ[i]?=some (some (.fr xs))
 wor:∀ i s,ρ[i]?=some (some s)→∃ v,σ[i]?=some (some v)∧RvW K zA ow H i s v
 ext:Ext zE H0 H
 zok:zA=zE∨(zE=none∧∀ a,zA=some a→H0 a=none)
 new:∀ i a,ow i=some a→H0 a=none
section
variable {K:PySem.W.Frag}{H0 H H':Hp}{zE zA:Option Addr}{ow:Nat→Option Addr}{ρ:Env}{σ:L2.St}
theorem RW.lst (r:RW K H0 zE zA ow H ρ σ):∀ i a,ow i=some a→∃ ys,H a=some (.lst ys):=fun i a e=>by
 obtain ⟨xs,h⟩:=r.own i a e
 obtain ⟨v,h1,a',ys,h2,h3,h4,h5⟩:=r.wor i _ h
 rw [e] at h2;cases h2
 exact ⟨ys,h4⟩
theorem RW.M11 (r:RW K H0 zE zA ow H ρ σ):∀ i a,ow i=some a→∃ ys,hz zA H a=some (.lst ys):=fun i a e=>by
 obtain ⟨ys,h⟩:=r.lst i a e
 exact ⟨ys,e00 h (r.zne i a e)⟩
theorem RvW.pl {i:Nat}{s:S}{v:V} (h:RvW K zA ow H i s v) (hz':∀ a,ow i=some a→zA≠some a):RvP K zA H s v:=by
 cases s with
 | d x=>exact h.2.same k90
 | z=>exact h.2
 | fr xs =>
  obtain ⟨a,ys,h1,rfl,h3,h4⟩:=h
  exact Hd.lst (e00 h3 (hz' a h1)) (h4.same k90)
theorem RW.Q70 (r:RW K H0 zE zA ow H ρ σ):v00 K zA H ρ σ:=fun i s e=>by
 obtain ⟨v,h1,h2⟩:=r.wor i s e
 exact ⟨v,h1,h2.pl fun a q=>r.zne i a q⟩
theorem RvW.mono {i:Nat}{s:S}{v:V} (h:RvW K zA ow H i s v) (hz':∀ a,ow i=some a→zA≠some a) (x:Ext zA H H'):RvW K zA ow H' i s v:=by
 cases s with
 | d y=>exact ⟨h.1,h.2.same (d50 x)⟩
 | z=>exact h
 | fr xs =>
  obtain ⟨a,ys,h1,rfl,h3,h4⟩:=h
  exact ⟨a,ys,h1,rfl,x.at h3 (hz' a h1),h4.same (d50 x)⟩
theorem E21 (zA:Option Addr) (H:Hp):a00 (hz zA H) (hz none H):=fun _ _ h=>e00 (p20 h).1 (fun q=>nomatch q) (p60 h)
theorem m41 (e:Ext zE H0 H) (zok:zA=zE∨(zE=none∧∀ a,zA=some a→H0 a=none)) (x:Ext zA H H'):Ext zE H0 H':=by
 rcases zok with rfl | ⟨rfl,hn⟩
 ·exact e.trans x
 ·refine ⟨fun b o h=>?_,fun b ps h=>let ⟨qs,q⟩:=e.tbl b ps h;x.tbl b qs q⟩
  have h1:=e.same b o h
  refine e00 (x.at (p20 h1).1 (fun q=>?_) (p60 h1)) (fun q=>nomatch q) (p60 h1)
  have h0:=(p20 h).1
  rw [hn b q] at h0;cases h0
theorem RW.mono (r:RW K H0 zE zA ow H ρ σ) (x:Ext zA H H'):RW K H0 zE zA ow H' ρ σ :=
 ⟨r.len,r.inj,r.zne,r.own,fun i s e=>let ⟨v,h1,h2⟩:=r.wor i s e;⟨v,h1,h2.mono (fun a q=>r.zne i a q) x⟩,m41 r.ext r.zok x,r.zok,r.new⟩
theorem RW.young (r:RW K H0 zE zA ow H ρ σ) {a:Addr} (h:H a=none) (n:zA≠some a):H0 a=none∧zE≠some a:=by
 have hE:zE≠some a:=fun q=>by
  rcases r.zok with rfl | ⟨rfl,_⟩
  ·exact n q
  ·cases q
 exact ⟨r.ext.free h hE,hE⟩
theorem RW.out (r:RW K H0 zE zA ow H ρ σ) {s:S}{v:V} (hs:s≠.z) (x:Ext zA H H') (h:RvS K zA H H' s v):RvS K zE H0 H' s v:=by
 have sm:a00 (hz zA H') (hz zE H'):=by
  rcases r.zok with rfl | ⟨rfl,_⟩
  ·exact a00.refl _
  ·exact E21 _ _
 cases s with
 | d y=>exact Hd.same sm h
 | z=>exact absurd rfl hs
 | fr xs =>
  obtain ⟨a,ys,rfl,h1,h2,h3,h4⟩:=h
  obtain ⟨k1,k2⟩:=r.young h1 h2
  exact ⟨a,ys,rfl,k1,k2,h3,h4.same (z10 fun b o _ q=>sm b o q)⟩
theorem RW.B32 (r:RW K H0 zE zA ow H ρ σ) {i:Nat}{s:S} (hs:s≠.z) (e:ρ[i]?=some (some s)):∃ v,σ[i]?=some (some v)∧RvS K zE H0 H s v:=by
 obtain ⟨v,h1,h2⟩:=r.wor i s e
 have sm:a00 (hz zA H) (hz zE H):=by
  rcases r.zok with rfl | ⟨rfl,_⟩
  ·exact a00.refl _
  ·exact E21 _ _
 refine ⟨v,h1,?_⟩
 cases s with
 | d y=>exact Hd.same (a00.trans k90 sm) h2.2
 | z=>exact absurd rfl hs
 | fr xs =>
  obtain ⟨a,ys,k1,rfl,k3,k4⟩:=h2
  have n:=r.zne i a k1
  have hE:zE≠some a:=fun q=>by
   rcases r.zok with rfl | ⟨rfl,_⟩
   ·exact n q
   ·cases q
  refine ⟨a,ys,rfl,r.new i a k1,hE,k3,k4.same fun b o q=>?_⟩
  obtain ⟨q1,q2⟩:=A20 q
  exact F90 (sm b o q1) fun z=>q2 i (by rw [z];exact k1)
theorem RW.x61 (r:RW K H0 zE zA ow H ρ σ):RW K H0 zE zA (fun _=>none) H (x61 ρ) σ:=by
 refine ⟨by unfold Q.x61;rw [List.length_map];exact r.len,fun i j a h=>(by cases h),fun i a h=>(by cases h),fun i a h=>(by cases h),fun i s e=>?_,r.ext,r.zok,fun i a h=>(by cases h)⟩
 unfold Q.x61 at e
 rw [List.getElem?_map] at e
 obtain ⟨o,e1,e2⟩:=Option.map_eq_some_iff.mp e
 cases o with
 | none=>cases e2
 | some s0 =>
  cases e2
  obtain ⟨v,h1,h2⟩:=r.Q70 i s0 e1
  refine ⟨v,h1,?_⟩
  cases s0 with
  | d y=>exact ⟨rfl,by rw [t90];exact h2⟩
  | fr xs=>exact ⟨rfl,by rw [t90];exact h2⟩
  | z=>exact ⟨rfl,h2⟩
noncomputable def ow0 (ow:Nat→Option Addr) (i:Nat):Nat→Option Addr:=fun j=>if j=i then none else ow j
noncomputable def ow1 (ow:Nat→Option Addr) (i:Nat) (a:Addr):Nat→Option Addr:=fun j=>if j=i then some a else ow j
theorem RvW.move {ow':Nat→Option Addr}{j:Nat}{s:S}{v:V} (h:RvW K zA ow H j s v) (e:ow' j=ow j) (sm:a00 (hw ow (hz zA H)) (hw ow' (hz zA H'))) (hk:∀ a,ow j=some a→H' a=H a):RvW K zA ow' H' j s v:=by
 cases s with
 | d y=>exact ⟨by rw [e];exact h.1,h.2.same sm⟩
 | z=>exact ⟨by rw [e];exact h.1,h.2⟩
 | fr xs =>
  obtain ⟨a,ys,h1,rfl,h3,h4⟩:=h
  exact ⟨a,ys,by rw [e];exact h1,rfl,by rw [hk a h1];exact h3,h4.same sm⟩
theorem getElem?_set' {α:Type}{l:List α}{i j:Nat}{x y:α} (h:(l.set i x)[j]?=some y):(j=i∧y=x∧i < l.length)∨(j≠i∧l[j]?=some y):=by
 by_cases hj:j=i
 ·subst hj
  have hlt:j < l.length:=by
   have:=(List.getElem?_eq_some_iff.mp h).1
   simpa using this
  rw [List.getElem?_set_self hlt] at h
  cases h
  exact .inl ⟨rfl,rfl,hlt⟩
 ·rw [List.getElem?_set_ne (Ne.symm hj)] at h
  exact .inr ⟨hj,h⟩
theorem RW.B42 (r:RW K H0 zE zA ow H ρ σ) {i:Nat}{x:D}{v:V} (h:Hd K (hw ow (hz zA H)) x v):RW K H0 zE zA (ow0 ow i) H (ρ.set i (some (.d x))) (σ.set i (some v)):=by
 have sub:∀ j a,ow0 ow i j=some a→j≠i∧ow j=some a:=fun j a e=>by
  unfold ow0 at e
  split at e
  ·cases e
  ·rename_i n;exact ⟨n,e⟩
 have sm:a00 (hw ow (hz zA H)) (hw (ow0 ow i) (hz zA H)):=fun b o e=>by
  obtain ⟨e1,e2⟩:=A20 e
  exact j60 e1 fun j q=>e2 j (sub j b q).2
 refine ⟨by rw [List.length_set,List.length_set];exact r.len,fun j k a h1 h2=>r.inj j k a (sub j a h1).2 (sub k a h2).2,fun j a h1=>r.zne j a (sub j a h1).2,fun j a h1=>?_,fun j s e=>?_,r.ext,r.zok,fun j a h1=>r.new j a (sub j a h1).2⟩
 ·obtain ⟨n,h2⟩:=sub j a h1
  obtain ⟨xs,h3⟩:=r.own j a h2
  exact ⟨xs,by rw [List.getElem?_set_ne (Ne.symm n)];exact h3⟩
 ·rcases getElem?_set' e with ⟨rfl,e1,hlt⟩ | ⟨n,e1⟩
  ·cases e1
   exact ⟨v,List.getElem?_set_self (by rw [← r.len];exact hlt),by unfold ow0;exact if_pos rfl,h.same sm⟩
  ·obtain ⟨w,h1,h2⟩:=r.wor j s e1
   exact ⟨w,by rw [List.getElem?_set_ne (Ne.symm n)];exact h1,h2.move (by unfold ow0;exact if_neg n) sm fun _ _=>rfl⟩
theorem RW.B52 (r:RW K H0 zE zA ow H ρ σ) {i:Nat}{v:V} (h:∃ a,zA=some a∧v=.ref a):RW K H0 zE zA (ow0 ow i) H (ρ.set i (some .z)) (σ.set i (some v)):=by
 have sub:∀ j a,ow0 ow i j=some a→j≠i∧ow j=some a:=fun j a e=>by
  unfold ow0 at e
  split at e
  ·cases e
  ·rename_i n;exact ⟨n,e⟩
 have sm:a00 (hw ow (hz zA H)) (hw (ow0 ow i) (hz zA H)):=fun b o e=>by
  obtain ⟨e1,e2⟩:=A20 e
  exact j60 e1 fun j q=>e2 j (sub j b q).2
 refine ⟨by rw [List.length_set,List.length_set];exact r.len,fun j k a h1 h2=>r.inj j k a (sub j a h1).2 (sub k a h2).2,fun j a h1=>r.zne j a (sub j a h1).2,fun j a h1=>?_,fun j s e=>?_,r.ext,r.zok,fun j a h1=>r.new j a (sub j a h1).2⟩
 ·obtain ⟨n,h2⟩:=sub j a h1
  obtain ⟨xs,h3⟩:=r.own j a h2
  exact ⟨xs,by rw [List.getElem?_set_ne (Ne.symm n)];exact h3⟩
 ·rcases getElem?_set' e with ⟨rfl,e1,hlt⟩ | ⟨n,e1⟩
  ·cases e1
   exact ⟨v,List.getElem?_set_self (by rw [← r.len];exact hlt),by unfold ow0;exact if_pos rfl,h⟩
  ·obtain ⟨w,h1,h2⟩:=r.wor j s e1
   exact ⟨w,by rw [List.getElem?_set_ne (Ne.symm n)];exact h1,h2.move (by unfold ow0;exact if_neg n) sm fun _ _=>rfl⟩
theorem RW.B62 (r:RW K H0 zE zA ow H ρ σ) {i:Nat}{xs:List D}{a:Addr}{ys:List V} (x:Ext zA H H') (hn:H a=none) (za:zA≠some a) (hl:H' a=some (.lst ys)) (h:HdA K (hw (ow1 ow i a) (hz zA H')) xs ys) (hi:i < ρ.length) :
  RW K H0 zE zA (ow1 ow i a) H' (ρ.set i (some (.fr xs))) (σ.set i (some (.ref a))):=by
 have r':=r.mono x
 have old:∀ j b,ow j=some b→b≠a:=fun j b e q=>by
  obtain ⟨zs,h1⟩:=r.lst j b e
  rw [q,hn] at h1;cases h1
 have sub:∀ j b,ow1 ow i a j=some b→(j=i∧b=a)∨(j≠i∧ow j=some b):=fun j b e=>by
  unfold ow1 at e
  split at e
  ·rename_i n;cases e;exact .inl ⟨n,rfl⟩
  ·rename_i n;exact .inr ⟨n,e⟩
 have sm:a00 (hw ow (hz zA H)) (hw (ow1 ow i a) (hz zA H')):=fun b o e=>by
  obtain ⟨e1,e2⟩:=A20 e
  have e3:=(p20 e1).1
  have hb:b≠a:=fun q=>by rw [q,hn] at e3;cases e3
  refine j60 (x b o e1) fun j q=>?_
  rcases sub j b q with ⟨_,q⟩ | ⟨_,q⟩
  ·exact hb q
  ·exact e2 j q
 refine ⟨by rw [List.length_set,List.length_set];exact r.len,fun j k b h1 h2=>?_,fun j b h1=>?_,fun j b h1=>?_,fun j s e=>?_,r'.ext,r.zok,fun j b h1=>?_⟩
 ·rcases sub j b h1 with ⟨q1,q2⟩ | ⟨q1,q2⟩
  ·rcases sub k b h2 with ⟨p1,p2⟩ | ⟨p1,p2⟩
   ·rw [q1,p1]
   ·exact absurd q2 (old k b p2)
  ·rcases sub k b h2 with ⟨p1,p2⟩ | ⟨p1,p2⟩
   ·exact absurd p2 (old j b q2)
   ·exact r.inj j k b q2 p2
 ·rcases sub j b h1 with ⟨_,q2⟩ | ⟨_,q2⟩
  ·rw [q2];exact za
  ·exact r.zne j b q2
 ·rcases sub j b h1 with ⟨q1,q2⟩ | ⟨q1,q2⟩
  ·rw [q1];exact ⟨xs,List.getElem?_set_self hi⟩
  ·obtain ⟨zs,h3⟩:=r.own j b q2
   exact ⟨zs,by rw [List.getElem?_set_ne (Ne.symm q1)];exact h3⟩
 ·rcases getElem?_set' e with ⟨rfl,e1,hlt⟩ | ⟨n,e1⟩
  ·cases e1
   exact ⟨.ref a,List.getElem?_set_self (by rw [← r.len];exact hlt),a,ys,by unfold ow1;exact if_pos rfl,rfl,hl,h⟩
  ·obtain ⟨w,h1,h2⟩:=r.wor j s e1
   refine ⟨w,by rw [List.getElem?_set_ne (Ne.symm n)];exact h1,h2.move (by unfold ow1;exact if_neg n) sm fun b q=>?_⟩
   obtain ⟨zs,k⟩:=r.lst j b q
   rw [k]
   exact x.at k (r.zne j b q)
 ·rcases sub j b h1 with ⟨_,q2⟩ | ⟨_,q2⟩
  ·rw [q2];exact (r.young hn za).1
  ·exact r.new j b q2
theorem RW.upd (r:RW K H0 zE zA ow H ρ σ) {i:Nat}{a:Addr}{xs:List D}{ys:List V} (e:ow i=some a) (h:HdA K (hw ow (hz zA H)) xs ys):RW K H0 zE zA ow (upd H a (.lst ys)) (ρ.set i (some (.fr xs))) σ:=by
 have za:=r.zne i a e
 have sm:a00 (hw ow (hz zA H)) (hw ow (hz zA (L2.upd H a (.lst ys)))):=fun b o q=>by
  obtain ⟨e1,e2⟩:=A20 q
  obtain ⟨e3,e4⟩:=p20 e1
  have hb:b≠a:=fun z=>e2 i (by rw [z];exact e)
  exact j60 (e00 (by rw [a30 hb];exact e3) e4 (p60 e1)) e2
 obtain ⟨xs0,h0⟩:=r.own i a e
 have hi:i < ρ.length:=(List.getElem?_eq_some_iff.mp h0).1
 obtain ⟨v0,s0,a0,ys0,q1,q2,q3,q4⟩:=r.wor i _ h0
 rw [e] at q1;cases q1
 refine ⟨by rw [List.length_set];exact r.len,r.inj,r.zne,fun j b h1=>?_,fun j s q=>?_,⟨fun b o q=>?_,fun b ps q=>?_⟩,r.zok,r.new⟩
 ·by_cases hj:j=i
  ·subst hj;exact ⟨xs,List.getElem?_set_self hi⟩
  ·obtain ⟨zs,h3⟩:=r.own j b h1
   exact ⟨zs,by rw [List.getElem?_set_ne (Ne.symm hj)];exact h3⟩
 ·rcases getElem?_set' q with ⟨rfl,e1,hlt⟩ | ⟨n,e1⟩
  ·cases e1
   exact ⟨v0,s0,a,ys,e,q2,a90,h.same sm⟩
  ·obtain ⟨w,h1,h2⟩:=r.wor j s e1
   refine ⟨w,h1,h2.move rfl sm fun b q=>?_⟩
   have hb:b≠a:=fun z=>n (r.inj j i b q (by rw [z];exact e))
   exact a30 hb
 ·obtain ⟨e1,e2⟩:=p20 (r.ext b o q)
  have hb:b≠a:=fun z=>by
   have:=(p20 q).1
   rw [z,r.new i a e] at this;cases this
  exact e00 (by rw [a30 hb];exact e1) e2 (p60 q)
 ·obtain ⟨qs,e1⟩:=r.ext.tbl b ps q
  have hb:b≠a:=fun z=>by rw [z,q3] at e1;cases e1
  exact ⟨qs,by rw [a30 hb];exact e1⟩
end
end Q
namespace Q
open PySem L2 PySem.Spec PyProof.Rows
variable [TB:Tb]
noncomputable def h72:Option Addr→Z→Z
 | none,_=>none
 | some _,z=>z
noncomputable def p30 (K:PySem.W.Frag) (G:Gs) (E:XK) (H0:Hp) (zE:Option Addr) (B:Hp) (D:Ends):R O→Prop
 | .ok (.nx ρ) z=>∀ zA ow σ H,RW K H0 zE zA ow H ρ σ→d60 zA z H→a00 B (hw ow (hz zA H))→D.nx σ H
 | .ok (.rt s) z=>∀ v H,s≠.z→Ext zE H0 H→d60 zE (h72 zE z) H→RvS K zE H0 H s v→D.rt v H
 | .er c z=>∀ e H,Ext zE H0 H→d60 zE (h72 zE z) H→H e=none→E (.ref (G.cls c)) (some e) H
noncomputable def tX (K:PySem.W.Frag) (G:Gs) (E:XK) (H0:Hp) (zE:Option Addr) (x:Sm):TS:=fun D σ H=>∃ zA ow ρ z r,RW K H0 zE zA ow H ρ σ∧d60 zA z H∧ex G.F zE.isNone x ρ z=some r∧p30 K G E H0 zE (hw ow (hz zA H)) D r
section
variable {K:PySem.W.Frag}{G:Gs}{E:XK}{H0 H H':Hp}{zE zA:Option Addr}{ow:Nat→Option Addr}{ρ:Env}{σ:L2.St}{Dn:Ends}{z:Z}
theorem R41 (zok:zA=zE∨(zE=none∧∀ a,zA=some a→H0 a=none)) (st:d60 zA z H):d60 zE (h72 zE z) H:=by
 cases zE with
 | none=>exact ⟨trivial,st.tab⟩
 | some a =>
  rcases zok with rfl | ⟨h,_⟩
  ·exact st
  ·cases h
theorem p30.er_ {B:Hp}{c:Nat} (po:p30 K G E H0 zE B Dn (.er c z)) (r:RW K H0 zE zA ow H ρ σ):EPost G zA E c z H:=fun e H' x st n=>po e H' (m41 r.ext r.zok x) (R41 r.zok st) n
theorem p30.ers {B:Hp}{rr:R O} (po:p30 K G E H0 zE B Dn rr) (r:RW K H0 zE zA ow H ρ σ):∀ c z1,rr=.er c z1→EPost G zA E c z1 H:=fun c z1 e=>by subst e;exact po.er_ r
theorem p30.mono {B B':Hp}{rr:R O} (po:p30 K G E H0 zE B Dn rr) (h:a00 B B'):p30 K G E H0 zE B' Dn rr:=by
 match rr,po with
 | .ok (.nx _) _,po=>exact fun zA ow σ H r st sm=>po zA ow σ H r st (a00.trans h sm)
 | .ok (.rt _) _,po=>exact po
 | .er _ _,po=>exact po
theorem x70 {H:Hp} (ow:Nat→Option Addr) (i:Nat):a00 (hw ow H) (hw (ow0 ow i) H):=fun b o e=>by
 obtain ⟨e1,e2⟩:=A20 e
 refine j60 e1 fun j q=>?_
 unfold ow0 at q
 split at q
 ·cases q
 ·exact e2 j q
theorem N50 {H:Hp} (ow:Nat→Option Addr):a00 (hw ow H) (hw (fun _=>none) H):=fun b o e=>j60 (A20 e).1 fun j q=>nomatch q
theorem z41 {a:Addr} (x:Ext zA H H') (hn:H a=none) (i:Nat):a00 (hw ow (hz zA H)) (hw (ow1 ow i a) (hz zA H')):=fun b o e=>by
 obtain ⟨e1,e2⟩:=A20 e
 have e3:=(p20 e1).1
 have hb:b≠a:=fun q=>by rw [q,hn] at e3;cases e3
 refine j60 (x b o e1) fun j q=>?_
 unfold ow1 at q
 split at q
 ·cases q;exact hb rfl
 ·exact e2 j q
theorem T50 {a:Addr}{o:HO}{i:Nat} (e:ow i=some a):a00 (hw ow (hz zA H)) (hw ow (hz zA (upd H a o))):=fun b u q=>by
 obtain ⟨e1,e2⟩:=A20 q
 obtain ⟨e3,e4⟩:=p20 e1
 have hb:b≠a:=fun w=>e2 i (by rw [w];exact e)
 exact j60 (e00 (by rw [a30 hb];exact e3) e4 (p60 e1)) e2
mutual
theorem z51:∀ {p:Pat}{d:D}{ρ ρ':Env},f80 p d ρ=some ρ'→∀ {ow:Nat→Option Addr}{σ:L2.St}{v:V}{R:L2.St→Hp→Prop},RW K H0 zE zA ow H ρ σ→Hd K (hw ow (hz zA H)) d v →
  (∀ ow' σ',RW K H0 zE zA ow' H ρ' σ'→a00 (hw ow (hz zA H)) (hw ow' (hz zA H))→R σ' H)→gP K p v σ H R
 | .v i,d,ρ,ρ',e,ow,σ,v,R,r,hd,k=>by
  unfold f80 at e
  cases e
  unfold gP
  exact k _ _ (r.B42 hd) (x70 ow i)
 | .tup ps,d,ρ,ρ',e,ow,σ,v,R,r,hd,k=>by
  unfold f80 at e
  cases d with
  | tup l =>
   obtain ⟨a,xs,rfl,h1,h2⟩:=hd.D00
   unfold gP
   exact ⟨a,xs,rfl,(a10 zA H).sqT (a00.sqT k90 h1),by rw [h2.length];exact A10 e,m51 e r h2 k⟩
  | _=>cases e
 | .nil,_,_,_,e,_,_,_,_,_,_,_=>by unfold f80 at e;cases e
 | .cons _ _,_,_,_,e,_,_,_,_,_,_,_=>by unfold f80 at e;cases e
theorem m51:∀ {r:Pat}{l:List D}{ρ ρ':Env},bindL r l ρ=some ρ'→∀ {ow:Nat→Option Addr}{σ:L2.St}{vs:List V}{R:L2.St→Hp→Prop},RW K H0 zE zA ow H ρ σ→HdA K (hw ow (hz zA H)) l vs →
  (∀ ow' σ',RW K H0 zE zA ow' H ρ' σ'→a00 (hw ow (hz zA H)) (hw ow' (hz zA H))→R σ' H)→gL K r vs σ H R
 | .nil,l,ρ,ρ',e,ow,σ,vs,R,r,hd,k=>by
  unfold bindL at e
  cases l with
  | nil =>
   cases e
   unfold gL
   exact ⟨hd.g90,k ow σ r (a00.refl _)⟩
  | cons x l=>cases e
 | .cons p q,l,ρ,ρ',e,ow,σ,vs,R,r,hd,k=>by
  unfold bindL at e
  cases l with
  | nil=>cases e
  | cons x l =>
   obtain ⟨ρ1,e1,e2⟩:=Option.bind_eq_some_iff.mp e
   obtain ⟨v,ws,rfl,h1,h2⟩:=hd.c00
   unfold gL
   exact ⟨v,ws,rfl,z51 e1 r h1 fun ow' σ' r' sm=>m51 e2 r' (h2.same sm) fun ow2 σ2 r2 sm2=>k ow2 σ2 r2 (a00.trans sm sm2)⟩
 | .v _,_,_,_,e,_,_,_,_,_,_,_=>by unfold bindL at e;cases e
 | .tup _,_,_,_,e,_,_,_,_,_,_,_=>by unfold bindL at e;cases e
end
theorem m61 (r:RW K H0 zE zA ow H ρ σ) (s:S):∃ ow',RW K H0 zE zA ow' H (n10 s ρ) σ∧a00 (hw ow (hz zA H)) (hw ow' (hz zA H))∧(S10 s=true∨∀ i,ow' i=none):=by
 unfold n10
 cases hb:S10 s with
 | true=>exact ⟨ow,r,a00.refl _,.inl rfl⟩
 | false=>exact ⟨_,r.x61,N50 ow,.inr fun _=>rfl⟩
theorem z61 {p:Pat}{s:S}{v:V}{ρ':Env}{R:L2.St→Hp→Prop} (r:RW K H0 zE zA ow H ρ σ) (x:Ext zA H H') (rv:RvS K zA H H' s v) (e:M70 p s (n10 s ρ)=some ρ')
  (k:∀ ow' σ',RW K H0 zE zA ow' H' ρ' σ'→a00 (hw ow (hz zA H)) (hw ow' (hz zA H'))→R σ' H'):gP K p v σ H' R:=by
 obtain ⟨owk,r1,s1,b1⟩:=m61 r s
 have r2:=r1.mono x
 have s2:a00 (hw ow (hz zA H)) (hw owk (hz zA H')):=a00.trans s1 (d50 x)
 cases s with
 | d y =>
  have e':f80 p y (n10 (.d y) ρ)=some ρ':=by cases p <;> exact e
  refine z51 e' r2 ?_ fun ow' σ' r3 s3=>k ow' σ' r3 (a00.trans s2 s3)
  rcases b1 with b1 | b1
  ·exact A30 r2.M11 b1 rv
  ·have:owk=fun _=>none:=funext b1
   subst this
   rw [t90];exact rv
 | z =>
  cases p with
  | v i =>
   simp only [M70] at e
   split at e
   ·cases e
    unfold gP
    exact k _ _ (r2.B52 rv) (a00.trans s2 (x70 owk i))
   ·cases e
  | _=>cases e
 | fr xs =>
  cases p with
  | v i =>
   simp only [M70] at e
   split at e
   ·rename_i hi
    cases e
    unfold gP
    obtain ⟨a,ys,rfl,h1,h2,h3,h4⟩:=rv
    refine k _ _ (r1.B62 x h1 h2 h3 ?_ hi) (a00.trans s1 (z41 x h1 i))
    rcases b1 with b1 | b1
    ·refine x60 (fun j b q=>?_) b1 (h4.same (j20 a _))
     unfold ow1 at q
     split at q
     ·cases q;exact ⟨ys,e00 h3 h2⟩
     ·exact r2.M11 j b q
    ·refine h4.same fun b o q=>?_
     have hb:b≠a:=fun w=>by subst w;unfold hide at q;rw [if_pos rfl] at q;cases q
     refine j60 (j20 a _ b o q) fun j w=>?_
     unfold ow1 at w
     split at w
     ·cases w;exact hb rfl
     ·rw [b1 j] at w;cases w
   ·cases e
  | _=>cases e
end
end Q
namespace Q
open PySem L2 PySem.Spec PyProof.Rows
variable [TB:Tb]
theorem M21 {tg v:Expr}{env:PySem.Env} (h:n20 v=false):swappedStores [tg] v env=pure none:=by
 cases v <;> first | (cases h;done) | (cases tg <;> rfl)
theorem M31 {ts vs:List Expr}{k k':Nat}{p p':Pos}{env:PySem.Env} (h:vs.all (foldedForSure 8)=true):swappedStores [.Tuple ts k p] (.Tuple vs k' p') env=pure none:=by
 unfold swappedStores
 simp only [h,if_true]
 split
 ·rfl
 ·split
  ·rfl
  ·split
   ·rfl
   ·rfl
noncomputable def m71 (look:Str→Option NameKind):Expr→Bool
 | .Name id _=>look id != some .local
 | _=>true
theorem M41 {ts vs:List Expr}{k k':Nat}{p p':Pos}{env:PySem.Env} (h:ts.any (m71 env.kindOf)=true):swappedStores [.Tuple ts k p] (.Tuple vs k' p') env=pure none:=by
 have hl:∀ (l:Nat) (ts:List Expr),ts.any (m71 env.kindOf)=true→(ts.filterMap fun
   | .Name id pos=>if env.kindOf id == some .local&&pos.line == l then some id else none
   | _=>none).length < ts.length:=by
  intro l ts
  induction ts with
  | nil=>intro h;cases h
  | cons e r ih =>
   intro h
   have le:=List.length_filterMap_le (fun
    | .Name id pos=>if env.kindOf id == some .local&&pos.line == l then some id else none
    | _=>none:Expr→Option Str) r
   rw [List.any_cons,Bool.or_eq_true] at h
   rw [List.filterMap_cons]
   split
   ·rw [List.length_cons];omega
   ·rename_i b hb
    rcases h with h | h
    ·exfalso
     cases e with
     | Name id pos =>
      have h':(env.kindOf id != some .local)=true:=h
      simp only [bne_iff_ne,ne_eq] at h'
      simp [h'] at hb
     | _=>cases hb
    ·have:=ih h
     rw [List.length_cons,List.length_cons];omega
 unfold swappedStores
 dsimp only
 split
 ·rfl
 ·split
  ·rfl
  ·have:=hl ((ts.head?.map (·.pos.line)).getD 0) ts h
   rw [if_pos]
   simp only [Bool.or_eq_true,bne_iff_ne,ne_eq]
   exact .inl (Nat.ne_of_lt this)
theorem b52 {x y:Str}{a b:Expr}{px py pt pt2:Pos}{k k2:Nat}{env:PySem.Env} (hb:env.blockKind=.function) (hx:env.kindOf x=some .local) (hy:env.kindOf y=some .local) (hxy:(x == y)=false) (hl:(py.line == px.line)=true)
  (ha:noStar a=true) (hb':noStar b=true) (hf:[a,b].all (foldedForSure 8)=false) (hc:[a,b].all (constantsAlone 8)=false) :
  swappedStores [.Tuple [.Name x px,.Name y py] k pt] (.Tuple [a,b] k2 pt2) env=pure (some [x,y]):=by
 have hbk:(env.blockKind != .function)=false:=by rw [hb];rfl
 have e1:(x == x)=true:=beq_self_eq_true x
 have hyx:(y == x)=false:=by
  cases h:y == x with
  | false=>rfl
  | true=>rw [beq_iff_eq] at h;subst h;rw [e1] at hxy;cases hxy
 have hl2:(Expr.Name x px).pos.line=px.line:=rfl
 have hl3:(Expr.Name y py).pos.line=py.line:=rfl
 have hl':py.line=px.line:=by simpa using hl
 unfold swappedStores
 simp only [List.filterMap,List.head?,Option.map,Option.getD,hx,hy,hf,hc,hbk,hl2,hl']
 simp [List.eraseDups,List.eraseDupsBy,List.eraseDupsBy.loop,hyx,hxy]
 intro h
 rcases h with h | h
 ·cases a <;> first | (cases h;done) | (cases ha;done)
 ·cases b <;> first | (cases h;done) | (cases hb';done)
noncomputable def N60:Expr→Bool
 | .ListComp ..=>false
 | .SetComp ..=>false
 | .DictComp ..=>false
 | _=>true
theorem s30 {v:Expr}{n:Nat}{env:PySem.Env} (h:N60 v=true) (t:Option Expr):swapsWith v t n env=pure false:=by
 cases v <;> first | rfl | (cases h;done)
theorem N70 {v tg:Expr}{n:Nat}{env:PySem.Env} (h:(match tg with | .Name ..=>true | _=>false)=false):swapsWith v (some tg) n env=pure false:=by
 cases v <;> first | rfl | (cases tg <;> first | rfl | (cases h;done))
theorem z71 {el:Expr}{gs:List Comprehension}{sc:Scope}{p px:Pos}{t:Str}{n:Nat}{env:PySem.Env}:∃ b,swapsWith (.ListComp el gs sc p) (some (.Name t px)) n env=pure b:=⟨_,rfl⟩
structure XS (lm:Bool) (X:Cx) (G:Gs) (E:XK) (N:List Str) (sc:Scope) (cn:List Str):Prop extends XI lm X G E N sc where
 sco:X.env.scope=sc
 fnk:sc.kind=.function
 own:PassesOwn (model X.prog X.w) X.A X.env X.xe
 can:G30 X E
 fnx:∀ x,X.fn x=true
 cls:∀ c x,cn[c]?=some x→X.mg x=some (.ref (G.cls c))∧PySem.W.excIn X.K (G.cls c) [.type "ValueError",.type "Exception",.type "BaseException",.type "object"] "ValueError.__new__"=true
noncomputable def N80 (sc:Scope) (x:Str):Bool:=sc.names.lookup x == some .local || sc.names.lookup x == some .cell
section
variable {lm:Bool}{X:Cx}{G:Gs}{E:XK}{N:List Str}{sc:Scope}{cn:List Str}{H0:Hp}{zE:Option Addr}
theorem XS.loc (x:XS lm X G E N sc cn):y91 X N (N80 sc):=by
 refine ⟨x.hN,x.nd,fun y h=>?_,fun y _=>.inl (x.fnx y),x.calm⟩
 unfold N80 at h
 rw [Bool.or_eq_true,beq_iff_eq,beq_iff_eq] at h
 rw [x.sco];exact h
theorem XS.bk (x:XS lm X G E N sc cn):X.env.blockKind=.function:=by
 unfold Env.blockKind
 rw [x.sco,x.fnk];rfl
theorem PS.imp {st:Stmt}{t t':TS} (h:PS X st t) (i:∀ D σ H,t' D σ H→t D σ H):PS X st t':=fun pins s σ H D I q=>h pins s σ H D I (i _ _ _ q)
theorem PSs.imp {st:List Stmt}{t t':TS} (h:PSs X st t) (i:∀ D σ H,t' D σ H→t D σ H):PSs X st t':=fun pins s σ H D I q=>h pins s σ H D I (i _ _ _ q)
theorem PI.imp {tg e:Expr}{t t':TI} (h:PI X tg e t) (i:∀ σ H R,t' σ H R→t σ H R):PI X tg e t':=fun pins s σ H R I q=>h pins s σ H R I (i _ _ _ q)
theorem p22:PSs X [] (tX X.K G E H0 zE .nil):=PSs.imp e81 fun D σ H q=>by
 obtain ⟨zA,ow,ρ,z,r,rw,st,e,po⟩:=q
 cases e
 exact po zA ow σ H rw st (a00.refl _)
theorem p32 {s r:Sm}{st:Stmt}{rest:List Stmt} (h1:PS X st (tX X.K G E H0 zE s)) (h2:PSs X rest (tX X.K G E H0 zE r)):PSs X (st::rest) (tX X.K G E H0 zE (.seq s r)):=PSs.imp (k30 h1 h2) fun D σ H q=>by
 obtain ⟨zA,ow,ρ,z,rr,rw,st,e,po⟩:=q
 have e0:M.bind (ex G.F zE.isNone s ρ) (fun o=>match o with | .nx ρ=>ex G.F zE.isNone r ρ | .rt s=>M.ret (.rt s)) z=some rr:=e
 rcases M.bind_some e0 with ⟨o,z1,e1,e2⟩ | ⟨c,z1,e1,e2⟩
 ·refine ⟨zA,ow,ρ,z,_,rw,st,e1,?_⟩
  cases o with
  | nx ρ1=>exact fun zA' ow' σ' H' rw' st' sm=>⟨zA',ow',ρ1,z1,rr,rw',st',e2,po.mono sm⟩
  | rt s=>cases e2;exact po
 ·subst e2
  exact ⟨zA,ow,ρ,z,_,rw,st,e1,po⟩
theorem E31 {p:Pat}{e:Ex}{D:Ends}{σ:L2.St}{H:Hp} (q:tX X.K G E H0 zE (.set p e) D σ H):T51 (tI X.K G E e) (gP X.K p) D σ H:=by
 obtain ⟨zA,ow,ρ,z,rr,rw,st,ee,po⟩:=q
 refine n90 rw.Q70 st ee (po.ers rw) fun l z1 e1=>?_
 obtain ⟨s,hs,e2⟩:=M.a20 e1
 refine ⟨s,A00 hs,fun v H1 x1 st1 rv=>?_⟩
 obtain ⟨ρ',hb,e3⟩:=M.a20 e2
 cases e3
 exact z61 rw x1 rv hb fun ow' σ' r' sm=>po zA ow' σ' H1 r' st1 sm
theorem B72 {K:PySem.W.Frag}{i:Nat}:gP K (.v i)=Q90 i:=by unfold gP;rfl
theorem p42 (x:XS lm X G E N sc cn) {i:Nat}{e:Ex}{y:Str}{v:Expr}{px pos:Pos} (hi:N[i]?=some y) (hl:N80 sc y=true) (g:b20 X G E e v)
  (hc:∀ elt gs csc q,v=.ListComp elt gs csc q→∃ tg iter ifs,gs=[⟨tg,iter,ifs,0⟩]∧D30 X G E e elt tg iter ifs csc) (hno:∀ a b c d,v≠.SetComp a b c d) (hnd:∀ a b c d f,v≠.DictComp a b c d f) :
  PS X (.Assign [.Name y px] v pos) (tX X.K G E H0 zE (.set (.v i) e)):=by
 have L:=x.loc
 refine PS.imp (t:=T51 (tI X.K G E e) (Q90 i)) ?_ fun D σ H q=>by rw [← B72 (K:=X.K)];exact E31 q
 have h1:X.N.Nodup:=by rw [x.hN];exact x.nd
 have h2:X.N[i]?=some y:=by rw [x.hN];exact hi
 by_cases hv:∃ elt gs csc q,v=.ListComp elt gs csc q
 ·obtain ⟨elt,gs,csc,q,rfl⟩:=hv
  obtain ⟨b,hb⟩:=z71 (el:=elt) (gs:=gs) (sc:=csc) (p:=q) (px:=px) (t:=y) (n:=pos.line) (env:=X.env)
  cases b with
  | false=>exact u80 h1 h2 (L.lc y hl) g.pe hb (L.fn y hl)
  | true =>
   obtain ⟨tg,iter,ifs,rfl,own,capt,wi,gg,tt,te,k1,k2,k3,k4,k5,k6,k7⟩:=hc elt gs csc q rfl
   refine PS.imp (H61 h1 h2 (L.lc y hl) hb x.calm k1 k2 k3 k4 k5 k6 (L.fn y hl)) fun D σ H q=>k7 _ _ _ q
 ·exact u80 h1 h2 (L.lc y hl) g.pe (s30 (by cases v <;> first | rfl | exact absurd rfl (hno _ _ _ _) | exact absurd rfl (hnd _ _ _ _ _) | exact absurd ⟨_,_,_,_,rfl⟩ hv) _) (L.fn y hl)
theorem m81 (x:XS lm X G E N sc cn) {p:Pat}{e:Ex}{tg v:Expr}{pos:Pos} (hp:k20 N (N80 sc) p tg=true) (g:b20 X G E e v) (ht:n20 tg=true) (hv:swappedStores [tg] v X.env=pure none) :
  PS X (.Assign [tg] v pos) (tX X.K G E H0 zE (.set p e)):=by
 refine PS.imp (B81 g.pe (l11 x.loc hp) ?_ hv ?_) fun D σ H q=>E31 q
 ·exact N70 (by cases tg <;> first | rfl | (cases ht;done))
 ·cases tg <;> first | rfl | (cases ht;done)
theorem p52 (x:XS lm X G E N sc cn) {i j:Nat}{ea eb:Ex}{a b:Expr}{y w:Str}{px py pt pt2 pos:Pos}{k k2:Nat} (hi:N[i]?=some y) (hj:N[j]?=some w) (hyw:(y == w)=false) (hy:sc.names.lookup y=some .local) (hw':sc.names.lookup w=some .local)
  (g:Good X G E (.cons ea (.cons eb .nil)) [a,b]) (hs:swappedStores [.Tuple [.Name y px,.Name w py] k pt] (.Tuple [a,b] k2 pt2) X.env=pure (some [y,w])) :
  PS X (.Assign [.Tuple [.Name y px,.Name w py] k pt] (.Tuple [a,b] k2 pt2) pos) (tX X.K G E H0 zE (.set (.tup (.cons (.v i) (.cons (.v j) .nil))) (.tup (.cons ea (.cons eb .nil))))):=by
 have hij:i≠j:=fun h=>by
  subst h
  rw [hi] at hj;cases hj
  rw [beq_self_eq_true] at hyw;cases hyw
 refine PS.imp (T61 x.calm (by rw [x.hN];exact x.nd) (by rw [x.hN];exact hi) (by rw [x.hN];exact hj) hij (by rw [x.sco];exact hy) (by rw [x.sco];exact hw') (g.args rfl).1 hs rfl) fun D σ H q=>?_
 obtain ⟨zA,ow,ρ,z,rr,rw,st,ee,po⟩:=q
 have e0:M.bind (M.bind (ev G.F (.cons ea (.cons eb .nil)) ρ) fun l=>M.bind (M.of (plA l)) fun ds=>if ds.length≤most then M.ret [S.d (.tup ds)] else M.no) (fun l=>M.bind (M.of (one l)) fun s=>M.bind (M.of (M70 (.tup (.cons (.v i) (.cons (.v j) .nil))) s (n10 s ρ))) fun ρ=>M.ret (O.nx ρ)) z=some rr:=ee
 rcases M.bind_some e0 with ⟨l0,z0,e1,e2⟩ | ⟨c,z1,e1,e2⟩
 ·rcases M.bind_some e1 with ⟨l,z1,e3,e4⟩ | ⟨c,z1,e3,e4⟩
  ·obtain ⟨ds,hds,e5⟩:=M.a20 e4
   split at e5
   ·cases e5
    obtain ⟨s,hs',e6⟩:=M.a20 e2
    cases hs'
    obtain ⟨ρ',hb,e7⟩:=M.a20 e6
    cases e7
    refine ⟨zA,ρ,z,_,rw.Q70,st,e3,fun vs H1 x1 st1 rvs=>?_⟩
    have hd:=H50 rvs hds
    obtain ⟨owk,r1,s1,b1⟩:=m61 rw (.d (.tup ds))
    have hb':bindL (.cons (.v i) (.cons (.v j) .nil)) ds (n10 (.d (.tup ds)) ρ)=some ρ':=by
     have:f80 (.tup (.cons (.v i) (.cons (.v j) .nil))) (.tup ds) (n10 (.d (.tup ds)) ρ)=some ρ':=hb
     unfold f80 at this;exact this
    have r2:=r1.mono x1
    have hd2:HdA X.K (hw owk (hz zA H1)) ds vs:=by
     rcases b1 with b1 | b1
     ·exact x60 r2.M11 (by simpa [S10,bare] using b1) hd
     ·have:owk=fun _=>none:=funext b1
      subst this
      rw [t90];exact hd
    have:=m51 hb' (R:=D.nx) r2 hd2 fun ow' σ' r' sm=>po zA ow' σ' H1 r' st1 (a00.trans s1 (a00.trans (d50 x1) sm))
    unfold gL at this
    obtain ⟨v,vr,rfl,this⟩:=this
    unfold gP gL at this
    obtain ⟨u,ur,rfl,this⟩:=this
    unfold gP gL at this
    obtain ⟨rfl,this⟩:=this
    exact ⟨v,u,rfl,this⟩
   ·cases e5
  ·cases e4
 ·subst e2
  rcases M.bind_some e1 with ⟨l,z2,e3,e4⟩ | ⟨c,z2,e3,e4⟩
  ·obtain ⟨ds,hds,e5⟩:=M.a20 e4
   split at e5 <;> cases e5
  ·cases e4
   exact ⟨zA,ρ,z,_,rw.Q70,st,e3,po.er_ rw⟩
theorem E41 {s t:S} (h:noS s=some t):s=t∧t≠.z:=by
 cases s with
 | z=>cases h
 | d _=>cases h;exact ⟨rfl,fun h=>nomatch h⟩
 | fr _=>cases h;exact ⟨rfl,fun h=>nomatch h⟩
theorem b62 (x:XS lm X G E N sc cn) {i:Nat}{n:Str}{p pos:Pos} (h1:N[i]?=some n) (h2:d10 n=true):PS X (.Return (some (.Name n p)) pos) (tX X.K G E H0 zE (.ret (.var i))):=by
 unfold d10 at h2
 simp only [Bool.and_eq_true,Bool.not_eq_true'] at h2
 refine PS.imp (V90 (p50 (i:=i) (by rw [x.hN];exact h1) (x.vis n (List.mem_of_getElem? h1)) h2.1 h2.2)) fun D σ H q=>?_
 obtain ⟨zA,ow,ρ,z,rr,rw,st,ee,po⟩:=q
 have e0:(match ρ[i]? with | some (some s)=>M.bind (M.of (noS s)) fun s=>M.ret (O.rt s) | _=>M.no) z=some rr:=ee
 cases hs:ρ[i]? with
 | none=>rw [hs] at e0;cases e0
 | some o =>
  cases o with
  | none=>rw [hs] at e0;cases e0
  | some s =>
   rw [hs] at e0
   obtain ⟨t,ht,e1⟩:=M.a20 e0
   cases e1
   obtain ⟨rfl,nz⟩:=E41 ht
   obtain ⟨v,k1,k2⟩:=rw.B32 nz hs
   exact ⟨v,k1,po v H nz rw.ext (R41 rw.zok st) k2⟩
theorem p62 {e:Ex}{v:Expr}{pos:Pos} (hv:∀ i,e≠.var i) (g:b20 X G E e v):PS X (.Return (some v) pos) (tX X.K G E H0 zE (.ret e)):=by
 refine PS.imp (V90 g.pe) fun D σ H q=>?_
 obtain ⟨zA,ow,ρ,z,rr,rw,st,ee,po⟩:=q
 have e0:M.bind (ev G.F e ρ) (fun l=>M.bind (M.of ((one l).bind noS)) fun s=>M.ret (O.rt s)) z=some rr:=by
  cases e <;> first | exact ee | exact absurd rfl (hv _)
 refine n90 rw.Q70 st e0 (po.ers rw) fun l z1 e1=>?_
 obtain ⟨t,ht,e2⟩:=M.a20 e1
 cases e2
 obtain ⟨s,hs,hn⟩:=Option.bind_eq_some_iff.mp ht
 obtain ⟨rfl,nz⟩:=E41 hn
 exact ⟨s,A00 hs,fun v H1 x1 st1 rv=>po v H1 nz (m41 rw.ext rw.zok x1) (R41 rw.zok st1) (rw.out nz x1 rv)⟩
theorem B82 {c:Ex}{t u:Sm}{ce:Expr}{a b:List Stmt}{pos:Pos} (g:b20 X G E c ce) (hn:∀ t a b p,ce≠.IfExp t a b p) (ha:PSs X a (tX X.K G E H0 zE t)) (hb:PSs X b (tX X.K G E H0 zE u)) :
  PS X (.If ce a b pos) (tX X.K G E H0 zE (.iff c t u)):=by
 refine PS.imp (T11 (g.pt hn) ha hb) fun D σ H q=>?_
 obtain ⟨zA,ow,ρ,z,rr,rw,st,ee,po⟩:=q
 refine N00 rw.Q70 st ee (po.ers rw) fun b z1 e1 H1 x1 st1=>?_
 have r1:=rw.mono x1
 have sm:a00 (hw ow (hz zA H)) (hw ow (hz zA H1)):=d50 x1
 cases b with
 | true=>exact ⟨zA,ow,ρ,z1,rr,r1,st1,e1,po.mono sm⟩
 | false=>exact ⟨zA,ow,ρ,z1,rr,r1,st1,e1,po.mono sm⟩
theorem p72 {e:Ex}{v:Expr}{pos:Pos} (g:b20 X G E e v) (h:N60 v=true):PS X (.Expr v pos) (tX X.K G E H0 zE (.exp e)):=by
 refine PS.imp (Q80 g.pe (s30 h none)) fun D σ H q=>?_
 obtain ⟨zA,ow,ρ,z,rr,rw,st,ee,po⟩:=q
 have e0:M.bind (ev G.F e ρ) (fun l=>M.bind (M.of (one l)) fun _=>M.ret (O.nx ρ)) z=some rr:=ee
 refine n90 rw.Q70 st e0 (po.ers rw) fun l z1 e1=>?_
 obtain ⟨s,hs,e2⟩:=M.a20 e1
 cases e2
 exact ⟨s,A00 hs,fun v H1 x1 st1 rv=>po zA ow σ H1 (rw.mono x1) st1 (d50 x1)⟩
theorem x_raise (x:XS lm X G E N sc cn) {c:Nat}{n:Str}{y:Str}{k:Nat}{p1 p2 p3 p4:Pos} (hc:cn[c]?=some n) (hg:glob sc n=true):PS X (.Raise (some (.Call (.Name n p1) [.Constant (.str y) k p2] [] p3)) none p4) (tX X.K G E H0 zE (.rais c)):=by
 obtain ⟨k1,k2,_⟩:=d40 hg
 obtain ⟨m1,m2⟩:=x.cls c n hc
 refine PS.imp (w41 x.can x.calm (x.glb n k1) m1 m2 (e50 B61 r30) k2 rfl rfl) fun D σ H q=>?_
 obtain ⟨zA,ow,ρ,z,rr,rw,st,ee,po⟩:=q
 cases ee
 exact ⟨by show 1≤sizeLine;decide,fun e hn=>po e H rw.ext (R41 rw.zok st) hn⟩
end
end Q
namespace Q
open PySem L2 PySem.Spec PyProof.Rows
variable [TB:Tb]
section
variable {K:PySem.W.Frag}{H0 H H':Hp}{zE zA:Option Addr}{ow:Nat→Option Addr}{ρ:Env}{σ:L2.St}
theorem h40 {i j:Nat}{a:Addr} (e:ow0 ow i j=some a):j≠i∧ow j=some a:=by
 unfold ow0 at e
 split at e
 ·cases e
 ·rename_i n;exact ⟨n,e⟩
theorem x80 {i:Nat}:ow0 ow i i=none:=if_pos rfl
theorem m91 {i j:Nat} (h:j≠i):ow0 ow i j=ow j:=if_neg h
theorem z81 {ρ:Env}{j:Nat}{s:S} (h:(w30 ρ)[j]?=some (some s)):ρ[j]?=some (some s)∧s≠.z:=by
 unfold w30 at h
 rw [List.getElem?_map] at h
 obtain ⟨o,e1,e2⟩:=Option.map_eq_some_iff.mp h
 cases o with
 | none=>cases e2
 | some t =>
  cases t with
  | z=>cases e2
  | d x=>cases e2;exact ⟨e1,fun h=>nomatch h⟩
  | fr x=>cases e2;exact ⟨e1,fun h=>nomatch h⟩
theorem M51 {ρ:Env}{j:Nat}{xs:List D} (h:ρ[j]?=some (some (.fr xs))):(w30 ρ)[j]?=some (some (.fr xs)):=by
 unfold w30
 rw [List.getElem?_map,h];rfl
theorem RW.B92 (r:RW K H0 none zA ow H ρ σ) {i:Nat}{a:Addr}{ys:List V} (x:Ext zA H H') (hn:H a=none) (za:zA≠some a) (hl:H' a=some (.lst ys)) :
  RW K H0 none (some a) (ow0 ow i) H' ((w30 ρ).set i (some .z)) (σ.set i (some (.ref a)))∧a00 (hw ow (hz zA H)) (hw (ow0 ow i) (hz (some a) H')):=by
 have r':=r.mono x
 have old:∀ j b,ow j=some b→b≠a:=fun j b e q=>by
  obtain ⟨zs,h1⟩:=r.lst j b e
  rw [q,hn] at h1;cases h1
 have sm:a00 (hw ow (hz zA H)) (hw (ow0 ow i) (hz (some a) H')):=fun b o e=>by
  obtain ⟨e1,e2⟩:=A20 e
  have hb:b≠a:=fun q=>by
   have e3:H b=some o:=(p20 e1).1
   rw [q,hn] at e3;cases e3
  exact j60 (e00 (p20 (x b o e1)).1 (fun q=>by cases q;exact hb rfl) (p60 e1)) fun j q=>e2 j (h40 q).2
 have dl:(w30 ρ).length=ρ.length:=by unfold w30;rw [List.length_map]
 refine ⟨⟨by rw [List.length_set,List.length_set,dl];exact r.len,fun j k b h1 h2=>r.inj j k b (h40 h1).2 (h40 h2).2,fun j b h1 q=>?_,fun j b h1=>?_,fun j s e=>?_,r'.ext,.inr ⟨rfl,fun b q=>?_⟩,fun j b h1=>r.new j b (h40 h1).2⟩,sm⟩
 ·cases q
  exact old j _ (h40 h1).2 rfl
 ·obtain ⟨n,h2⟩:=h40 h1
  obtain ⟨xs,h3⟩:=r.own j b h2
  exact ⟨xs,by rw [List.getElem?_set_ne (Ne.symm n)];exact M51 h3⟩
 ·rcases getElem?_set' e with ⟨rfl,e1,hlt⟩ | ⟨n,e1⟩
  ·cases e1
   exact ⟨.ref a,List.getElem?_set_self (by rw [← r.len,← dl];exact hlt),x80,a,rfl,rfl⟩
  ·obtain ⟨e1,nz⟩:=z81 e1
   obtain ⟨w,h1,h2⟩:=r.wor j s e1
   refine ⟨w,by rw [List.getElem?_set_ne (Ne.symm n)];exact h1,?_⟩
   cases s with
   | d y=>exact ⟨by rw [m91 n];exact h2.1,h2.2.same sm⟩
   | z=>exact absurd rfl nz
   | fr xs =>
    obtain ⟨b,zs,k1,rfl,k3,k4⟩:=h2
    exact ⟨b,zs,by rw [m91 n];exact k1,rfl,x.at k3 (r.zne j b k1),k4.same sm⟩
 ·cases q
  exact (r.young hn za).1
theorem RW.plain (r:RW K H0 zE zA ow H ρ σ) (i:Nat):RW K H0 zE zA (ow0 ow i) H (ρ.set i ((ρ[i]?.getD none).map plS)) σ:=by
 have sm:=x70 (H:=hz zA H) ow i
 refine ⟨by rw [List.length_set];exact r.len,fun j k b h1 h2=>r.inj j k b (h40 h1).2 (h40 h2).2,fun j b h1=>r.zne j b (h40 h1).2,fun j b h1=>?_,fun j s e=>?_,r.ext,r.zok,fun j b h1=>r.new j b (h40 h1).2⟩
 ·obtain ⟨n,h2⟩:=h40 h1
  obtain ⟨xs,h3⟩:=r.own j b h2
  exact ⟨xs,by rw [List.getElem?_set_ne (Ne.symm n)];exact h3⟩
 ·rcases getElem?_set' e with ⟨rfl,e1,hlt⟩ | ⟨n,e1⟩
  ·cases hs:ρ[j]? with
   | none=>rw [hs] at e1;cases e1
   | some o =>
    rw [hs] at e1
    cases o with
    | none=>cases e1
    | some s0 =>
     cases e1
     obtain ⟨w,h1,h2⟩:=r.wor j s0 hs
     refine ⟨w,h1,?_⟩
     cases s0 with
     | d y=>exact ⟨x80,h2.2.same sm⟩
     | z=>exact ⟨x80,h2.2⟩
     | fr xs =>
      obtain ⟨b,zs,k1,rfl,k3,k4⟩:=h2
      refine ⟨x80,Hd.lst (j60 (e00 k3 (r.zne j b k1)) fun k q=>?_) (k4.same sm)⟩
      obtain ⟨q1,q2⟩:=h40 q
      exact q1 (r.inj k j b q2 k1)
  ·obtain ⟨w,h1,h2⟩:=r.wor j s e1
   exact ⟨w,h1,h2.move (m91 n) sm fun _ _=>rfl⟩
end
theorem HdA.eraseIdx {K:PySem.W.Frag}{H:Hp}:∀ {ds:List D}{vs:List V} (n:Nat),HdA K H ds vs→HdA K H (ds.eraseIdx n) (vs.eraseIdx n)
 | [],_,n,h=>by rw [h.g90];exact .nil
 | d::ds,_,0,h=>by
  obtain ⟨x,r,rfl,h1,h2⟩:=h.c00
  exact h2
 | d::ds,_,n + 1,h=>by
  obtain ⟨x,r,rfl,h1,h2⟩:=h.c00
  exact .cons h1 (HdA.eraseIdx n h2)
section
variable {lm:Bool}{X:Cx}{G:Gs}{E:XK}{N:List Str}{sc:Scope}{cn:List Str}{H0:Hp}{zE:Option Addr}
theorem n01 {α β:Type}{R:α→β→Prop}{a:α}{vs:List β} (h:Paired R [a] vs):∃ v,vs=[v]∧R a v:=by
 cases h with
 | cons h1 h2=>cases h2;exact ⟨_,rfl,h1⟩
theorem d60.a30 {zA:Option Addr}{z:Z}{H:Hp}{a:Addr}{o:HO}{xs:List V} (st:d60 zA z H) (n:zA≠some a) (h:H a=some (.lst xs)):d60 zA z (upd H a o):=by
 refine ⟨?_,fun p hp=>Tab.upd (st.tab p hp) h⟩
 have st:=st.zat
 cases zA with
 | none=>cases z <;> exact st
 | some b =>
  cases z with
  | none=>exact st
  | some p =>
   have hb:b≠a:=fun q=>n (by rw [q])
   exact (L2.a30 hb).trans st
theorem n11 {ρ:Env}{i:Nat}{xs:List D} (h:ownAt ρ i=some xs):ρ[i]?=some (some (.fr xs)):=by
 unfold ownAt at h
 split at h
 ·rename_i h1;cases h;exact h1
 ·cases h
theorem M61 {K:PySem.W.Frag}{zA:Option Addr}{H0 H:Hp}{s:S}{v:V}{x:D} (h:RvS K zA H0 H s v) (e:plD s=some x):Hd K (hz zA H) x v:=h.pl.d_ e
theorem p82 (x:XS lm X G E N sc cn) {i:Nat}{n:Str}{e:Ex}{v:Expr}{p apos cpos pos:Pos} (h1:N[i]?=some n) (h2:d10 n=true) (ns:noStar v=true) (g:b20 X G E e v) (hl:(apos.endLine == cpos.line)=true) :
  PS X (.Expr (.Call (.Attribute (.Name n p) "append" apos) [v] [] cpos) pos) (tX X.K G E H0 zE (.app i e)):=by
 unfold d10 at h2
 simp only [Bool.and_eq_true,Bool.not_eq_true'] at h2
 have ga:Good X G E (.cons e .nil) [v]:=⟨v,[],rfl,ns,g,rfl,rfl⟩
 have hs:=c40 ns [] X.env
 refine PS.imp (Q80 (H01 PySem.F.plainAttrs_list PySem.F.slot_list_append PySem.F.type_list_append L30 (p50 (i:=i) (by rw [x.hN];exact h1) (x.vis n (List.mem_of_getElem? h1)) h2.1 h2.2) (ga.args rfl).1 rfl (by rw [hs];rfl) hl hs rfl) (s30 rfl none)) fun D σ H q=>?_
 obtain ⟨zA,ow,ρ,z,rr,rw,st,ee,po⟩:=q
 obtain ⟨xs,hx,e1⟩:=M.a20 ee
 have ho:=n11 hx
 obtain ⟨w,k1,a,ys,k2,rfl,k3,k4⟩:=rw.wor i _ ho
 refine ⟨_,k1,.inl ⟨rfl,ys,SqL.of k3⟩,?_⟩
 have e2:M.bind (ev G.F (.cons e .nil) ρ) (fun m=>M.bind (M.of (pl m)) fun x=>if bare x=true∧xs.length < most then M.ret (O.nx (ρ.set i (some (.fr (xs++[x]))))) else M.no) z=some rr∨∃ c z1,ev G.F e ρ z=some (.er c z1)∧rr=.er c z1:=by
  rcases M.bind_some e1 with ⟨l,z1,e3,e4⟩ | ⟨c,z1,e3,e4⟩
  ·obtain ⟨y,hy,e5⟩:=M.a20 e4
   obtain ⟨s,rfl,hs⟩:=j40 hy
   refine .inl ?_
   show M.bind (M.bind (ev G.F e ρ) fun x=>M.bind (M.of (one x)) fun s=>M.bind (ev G.F .nil ρ) fun y=>M.ret (s::y)) _ z=some rr
   simp only [M.bind,e3,M.of,one,M.ret,ev,hy]
   exact e5
  ·exact .inr ⟨c,z1,e3,e4⟩
 rcases e2 with e2 | ⟨c,z1,e3,rfl⟩
 ·refine c81 rw.Q70 st e2 (po.ers rw) fun l z1 e3 vs H1 x1 st1 rvs=>?_
  obtain ⟨y,hy,e5⟩:=M.a20 e3
  obtain ⟨s,rfl,hs⟩:=j40 hy
  split at e5
  ·rename_i hb
   cases e5
   obtain ⟨u,rfl,ru⟩:=n01 rvs
   have r1:=rw.mono x1
   have k3':=x1.at k3 (rw.zne i a k2)
   have k4':HdA X.K (hw ow (hz zA H1)) xs ys:=k4.same (d50 x1)
   have hd:=A30 r1.M11 hb.1 (M61 ru hs)
   refine ⟨a,ys,u,rfl,rfl,k3',Nat.lt_of_lt_of_le (by rw [k4.length];exact hb.2) (e90 (Nat.le_refl _)),?_⟩
   refine po zA ow σ _ (r1.upd k2 (k4'.append (.cons hd .nil))) ?_ (a00.trans (d50 x1) (T50 k2))
   exact st1.a30 (rw.zne i a k2) k3'
  ·cases e5
 ·refine ⟨zA,ρ,z,.er c z1,rw.Q70,st,?_,po.er_ rw⟩
  show M.bind (ev G.F e ρ) _ z=_
  simp only [M.bind,e3]
theorem b72 (x:XS lm X G E N sc cn) {i f:Nat}{as:Ex}{y:Str}{v:Expr}{px pos:Pos} (hi:N[i]?=some y) (hl:N80 sc y=true) (g:b20 X G E (.call f as) v) (hv:N60 v=true) :
  PS X (.Assign [.Name y px] v pos) (tX X.K G E H0 zE (.newz i f as)):=by
 have L:=x.loc
 refine PS.imp (u80 (i:=i) (by rw [x.hN];exact x.nd) (by rw [x.hN];exact hi) (L.lc y hl) g.pe (s30 hv _) (L.fn y hl)) fun D σ H q=>?_
 obtain ⟨zA,ow,ρ,z,rr,rw,st,ee,po⟩:=q
 refine n90 rw.Q70 st ee (po.ers rw) fun l z1 e1=>?_
 have e2:c41 zE.isNone ρ i l=some rr:=e1
 unfold c41 at e2
 split at e2
 ·split at e2
  ·rename_i m b hz'
   cases e2
   have zn:zE=none:=by
    cases zE with
    | none=>rfl
    | some _=>cases hz'
   subst zn
   refine ⟨_,rfl,fun u H1 x1 st1 rv=>?_⟩
   obtain ⟨a,ys,rfl,k1,k2,k3,k4⟩:=rv
   obtain ⟨v1,v2,rfl,h3,h4⟩:=k4.two
   cases h3.i50;cases h4.bl_
   obtain ⟨r1,sm⟩:=rw.B92 (i:=i) x1 k1 k2 k3
   exact po (some a) _ _ H1 r1 ⟨k3,st1.tab⟩ sm
  ·cases e2
 ·cases e2
theorem b82 (x:XS lm X G E N sc cn) {i:Nat}{n:Str}{e:Ex}{v:Expr}{c:Nat}{p q tp pos:Pos} (h1:N[i]?=some n) (h2:d10 n=true) (g:b20 X G E e v) :
  PS X (.Assign [.Subscript (.Name n p) (.Constant (.int 0) c q) tp] v pos) (tX X.K G E H0 zE (.zset i e)):=by
 unfold d10 at h2
 simp only [Bool.and_eq_true,Bool.not_eq_true'] at h2
 refine PS.imp (B81 g.pe (T41 (p50 (i:=i) (by rw [x.hN];exact h1) (x.vis n (List.mem_of_getElem? h1)) h2.1 h2.2) V80 set_list (by intro u;rfl)) (show swapsWith v (some (.Subscript (.Name n p) (.Constant (.int 0) c q) tp)) pos.line X.env=pure false from N70 rfl) (by cases v <;> rfl)) fun D σ H q=>?_
 obtain ⟨zA,ow,ρ,z,rr,rw,st,ee,po⟩:=q
 refine n90 rw.Q70 st ee (po.ers rw) fun l z1 e1=>?_
 obtain ⟨y,hy,e2⟩:=M.a20 e1
 obtain ⟨dy,hy1,hy2⟩:=Option.bind_eq_some_iff.mp hy
 obtain ⟨s,rfl,hs⟩:=j40 hy1
 refine ⟨s,rfl,fun u H1 x1 st1 rv=>?_⟩
 have e3:c51 ρ y ρ[i]? z1=some rr:=e2
 unfold c51 at e3
 split at e3
 ·rename_i p' hsl
  cases e3
  have r1:=rw.mono x1
  obtain ⟨w,k1,k2,a,rfl,rfl⟩:=r1.wor i .z hsl
  have hu:u=.int y:=by
   have:=M61 rv hs
   cases dy <;> first | (cases hy2;exact this.i50) | (cases hy2;done)
  subst hu
  have st':H1 a=some (.lst [.int p'.1,.bl p'.2]):=st1.zat
  refine ⟨_,k1,a,[.int p'.1,.bl p'.2],0,0,rfl,rfl,st',rfl,?_⟩
  have x2:Ext (some a) H1 (upd H1 a (.lst [.int y,.bl p'.2])):=by
   refine ⟨fun b o h=>?_,fun b ps h=>⟨ps,by rw [a30 (fun z=>by rw [z,st'] at h;cases h)];exact h⟩⟩
   obtain ⟨h3,h4⟩:=p20 h
   exact e00 (by rw [a30 (fun z=>h4 (by rw [z]))];exact h3) h4 (p60 h)
  exact po (some a) ow σ _ (r1.mono x2) ⟨a90,fun p hp=>Tab.upd (st1.tab p hp) st'⟩ (a00.trans (d50 x1.same) (d50 x2.same))
 ·cases e3
theorem p92 (x:XS lm X G E N sc cn) {c:Ex}{b:Sm}{ce:Expr}{body:List Stmt}{pos:Pos} (g:b20 X G E c ce) (hn:∀ t a b p,ce≠.IfExp t a b p) (hb:PSs X body (tX X.K G E H0 zE b)):PS X (.While ce body [] pos) (tX X.K G E H0 zE (.whl c b)):=by
 refine PS.imp (t81 x.own (g.pt hn) hb) fun D σ H q=>?_
 obtain ⟨zA,ow,ρ,z,rr,rw,st,ee,po⟩:=q
 refine ⟨fun m σ H=>∃ zA ow ρ z r,RW X.K H0 zE zA ow H ρ σ∧d60 zA z H∧C91 (ev G.F c) (ex G.F zE.isNone b) m ρ z=some r∧p30 X.K G E H0 zE (hw ow (hz zA H)) D r,⟨J41,zA,ow,ρ,z,rr,rw,st,ee,po⟩,?_⟩
 rintro m σ H ⟨zA,ow,ρ,z,rr,rw,st,ee,po⟩
 cases m with
 | zero=>cases ee
 | succ m =>
  refine N00 rw.Q70 st ee (po.ers rw) fun k z1 e1 H1 x1 st1=>?_
  have r1:=rw.mono x1
  have sm:a00 (hw ow (hz zA H)) (hw ow (hz zA H1)):=d50 x1
  cases k with
  | false =>
   cases e1
   exact po zA ow σ H1 r1 st1 sm
  | true =>
   rw [if_pos rfl]
   have e2:M.bind (ex G.F zE.isNone b ρ) (fun o=>match o with | .nx ρ=>C91 (ev G.F c) (ex G.F zE.isNone b) m ρ | .rt s=>M.ret (.rt s)) z1=some rr:=e1
   refine ⟨fun σ' H'=>∃ zA ow ρ z r,RW X.K H0 zE zA ow H' ρ σ'∧d60 zA z H'∧C91 (ev G.F c) (ex G.F zE.isNone b) m ρ z=some r∧p30 X.K G E H0 zE (hw ow (hz zA H')) D r,fun σ' H' h=>⟨m,Nat.lt_succ_self m,h⟩,?_⟩
   rcases M.bind_some e2 with ⟨o,z2,e3,e4⟩ | ⟨k,z2,e3,e4⟩
   ·refine ⟨zA,ow,ρ,z1,_,r1,st1,e3,?_⟩
    cases o with
    | nx ρ1=>exact fun zA' ow' σ' H' rw' st' sm'=>⟨zA',ow',ρ1,z2,rr,rw',st',e4,po.mono (a00.trans sm sm')⟩
    | rt s=>cases e4;exact po
   ·subst e4
    exact ⟨zA,ow,ρ,z1,_,r1,st1,e3,po⟩
theorem M71 {i j:Nat}{e:Ex}{D:Ends}{σ:L2.St}{H:Hp}{zA:Option Addr}{ow:Nat→Option Addr}{ρ:Env}{z:Z}{rr:R O} (rw:RW X.K H0 zE zA ow H ρ σ) (st:d60 zA z H) (ee:X21 G.F i j e ρ z=some rr) (po:p30 X.K G E H0 zE (hw ow (hz zA H)) D rr) :
  T01 (tBM X.K "list" g31 (S41 i) (U71 (tBM X.K "list" C41 (S41 j) (tA X.K G E (.cons e .nil))) v92)) D σ H:=by
 obtain ⟨xs,hx,e1⟩:=M.a20 ee
 obtain ⟨ys,hy,e1⟩:=M.a20 e1
 have ho:=n11 hx
 have hp:=n11 hy
 obtain ⟨w,k1,a,us,k2,rfl,k3,k4⟩:=rw.wor i _ ho
 obtain ⟨w',m1,b,ws,m2,rfl,m3,m4⟩:=rw.wor j _ hp
 refine ⟨_,k1,.inl ⟨rfl,us,SqL.of k3⟩,⟨_,m1,.inl ⟨rfl,ws,SqL.of m3⟩,?_⟩⟩
 rcases M.bind_some e1 with ⟨l,z1,e3,e4⟩ | ⟨c,z1,e3,e4⟩
 ·obtain ⟨k,hk,e5⟩:=M.a20 e4
  obtain ⟨dk,hk1,hk2⟩:=Option.bind_eq_some_iff.mp hk
  obtain ⟨s,rfl,hs⟩:=j40 hk1
  obtain ⟨o,hv,e6⟩:=M.a20 e5
  cases e6
  refine ⟨zA,ρ,z,.ok [s] z1,rw.Q70,st,?_,fun vs H1 x1 st1 rvs=>?_⟩
  ·show M.bind (ev G.F e ρ) _ z=_
   simp only [M.bind,e3,M.of,one,M.ret,ev]
  obtain ⟨u,rfl,ru⟩:=n01 rvs
  have hu:u=.int k:=by
   have:=M61 ru hs
   cases dk <;> first | (cases hk2;exact this.i50) | (cases hk2;done)
  subst hu
  unfold j41 at hv
  split at hv
  ·rename_i hb
   obtain ⟨y,hy1,hv⟩:=Option.bind_eq_some_iff.mp hv
   split at hv
   ·rename_i hby
    cases hv
    have r1:=rw.mono x1
    have m4':HdA X.K (hw ow (hz zA H1)) ys ws:=m4.same (d50 x1)
    have k4':HdA X.K (hw ow (hz zA H1)) xs us:=k4.same (d50 x1)
    obtain ⟨yv,g1,g2⟩:=m4'.get hy1
    have hlt:k.toNat < ws.length:=(List.getElem?_eq_some_iff.mp g1).1
    have hab:a≠b:=fun q=>hb.1 (rw.inj i j a k2 (by rw [q];exact m2))
    refine ⟨b,ws,k,k.toNat,yv,rfl,rfl,x1.at m3 (rw.zne j b m2),by omega,by omega,?_,g1,?_⟩
    ·have h0:(0:Int)≤k:=hb.2.1
     exact seqIndex_of h0 (by omega)
    ·have r2:=r1.upd m2 (m4'.eraseIdx k.toNat)
     have sm2:=T50 (H:=H1) (zA:=zA) (o:=.lst (ws.eraseIdx k.toNat)) m2
     refine ⟨a,us,yv,rfl,rfl,?_,?_,?_⟩
     ·rw [a30 hab];exact x1.at k3 (rw.zne i a k2)
     ·exact Nat.lt_of_lt_of_le (by rw [k4.length];exact hb.2.2.2) (e90 (Nat.le_refl _))
     ·exact po zA ow σ _ (r2.upd k2 ((k4'.same sm2).append (.cons (g2.same sm2) .nil))) ((st1.a30 (rw.zne j b m2) (x1.at m3 (rw.zne j b m2))).a30 (rw.zne i a k2) (by rw [a30 hab];exact x1.at k3 (rw.zne i a k2))) (a00.trans (d50 x1) (a00.trans sm2 (T50 k2)))
   ·cases hv
  ·cases hv
 ·subst e4
  refine ⟨zA,ρ,z,.er c z1,rw.Q70,st,?_,po.er_ rw⟩
  show M.bind (ev G.F e ρ) _ z=_
  simp only [M.bind,e3]
theorem b92 (x:XS lm X G E N sc cn) {i j:Nat}{n m:Str}{e:Ex}{v:Expr}{p p' apos cpos apos' cpos' pos:Pos} (h1:N[i]?=some n) (h2:d10 n=true) (h3:N[j]?=some m) (h4:d10 m=true) (ns:noStar v=true) (g:b20 X G E e v) (hl:(apos.endLine == cpos.line)=true) (hl':(apos'.endLine == cpos'.line)=true) :
  PS X (.Expr (.Call (.Attribute (.Name n p) "append" apos) [.Call (.Attribute (.Name m p') "pop" apos') [v] [] cpos'] [] cpos) pos) (tX X.K G E H0 zE (.apop i j e)):=by
 unfold d10 at h2 h4
 simp only [Bool.and_eq_true,Bool.not_eq_true'] at h2 h4
 have ga:Good X G E (.cons e .nil) [v]:=⟨v,[],rfl,ns,g,rfl,rfl⟩
 have hs:=c40 ns [] X.env
 refine PS.imp (Q80 (H01 PySem.F.plainAttrs_list PySem.F.slot_list_append PySem.F.type_list_append L30 (p50 (i:=i) (by rw [x.hN];exact h1) (x.vis n (List.mem_of_getElem? h1)) h2.1 h2.2)
  (e50 (H01 PySem.F.plainAttrs_list PySem.F.slot_list_pop PySem.F.type_list_pop u71 (p50 (i:=j) (by rw [x.hN];exact h3) (x.vis m (List.mem_of_getElem? h3)) h4.1 h4.2) (ga.args rfl).1 rfl (by rw [hs];rfl) hl' hs rfl) r30) rfl rfl hl rfl rfl) (s30 rfl none)) fun D σ H q=>?_
 obtain ⟨zA,ow,ρ,z,rr,rw,st,ee,po⟩:=q
 exact M71 rw st ee po
end
end Q
namespace Q
open PySem L2 PySem.Spec PyProof.Rows
variable [TB:Tb]
section
variable {lm:Bool}{X:Cx}{G:Gs}{E:XK}{N:List Str}{sc:Scope}{cn:List Str}{H0:Hp}{zE:Option Addr}
noncomputable def q02 (K:PySem.W.Frag) (i:Nat):TI:=fun σ H R=>∃ a,σ[i]?=some (some (.ref a))∧((∃ ys,SqT K H a ys)∧R (Itt K a) H∨(∃ ys,SqL K H a ys)∧R (Itl K a) H)
theorem c02 (x:XI lm X G E N sc) {tg:Expr}{i:Nat}{n:Str}{pos:Pos} (h1:N[i]?=some n) (h2:d10 n=true):PI X tg (.Name n pos) (q02 X.K i):=by
 unfold d10 at h2
 simp only [Bool.and_eq_true,Bool.not_eq_true'] at h2
 have hv:PE X (.Name n pos) (S41 i):=p50 (i:=i) (by rw [x.hN];exact h1) (x.vis n (List.mem_of_getElem? h1)) h2.1 h2.2
 intro pins s σ H R I q
 obtain ⟨a,k,q | q⟩:=q
 ·exact B91 hv pins s σ H R I ⟨_,k,a,rfl,q.1,q.2⟩
 ·exact R00 hv pins s σ H R I ⟨_,k,a,rfl,q.1,q.2⟩
noncomputable def fBody (F:FT) (tp:Bool) (p:Pat) (b:Sm):D→Env→M O:=fun x ρ=>M.bind (M.of (f80 p x ρ)) fun ρ=>ex F tp b ρ
theorem s40:∀ {l:List D}{d:D},d80 l=true→d∈l→bare d=true
 | x::r,d,h,hd=>by
  simp only [d80,Bool.and_eq_true] at h
  rcases List.mem_cons.mp hd with rfl | hd
  ·exact h.1
  ·exact s40 h.2 hd
theorem Y40 {p:Pat}{b:Sm}{J:L2.It}{xs:List D}{B:Hp}{D:Ends}{σ:L2.St}{H:Hp}{zA:Option Addr}{ow:Nat→Option Addr}{ρ:Env}{z:Z}{rr:R O} (IT:ItB X.K J xs B) (hb:d80 xs=true)
  (rw:RW X.K H0 zE zA ow H ρ σ) (st:d60 zA z H) (sm:a00 B (hw ow (hz zA H))) (ee:S20 (fBody G.F zE.isNone p b) xs ρ z=some rr) (po:p30 X.K G E H0 zE (hw ow (hz zA H)) D rr) :
  ∃ W:Nat→Nat→L2.St→Hp→Prop,(∃ m,W 0 m σ H)∧∀ i m σ H,W i m σ H →
   (J.stop i H∧D.nx σ H)∨(J.go i H∧∃ Nn:L2.St→Hp→Prop,(∀ σ' H',Nn σ' H'→∃ m',m' < m∧W (i + 1) m' σ' H')∧∀ x H',J.yld i H x H'→gP X.K p x σ H' fun σ2 H2=>tX X.K G E H0 zE b { D with nx:=Nn,ct:=Nn,bk:=D.nx } σ2 H2):=by
 refine ⟨fun i m σ H=>m=xs.length - i∧i≤xs.length∧∃ zA ow ρ z r,RW X.K H0 zE zA ow H ρ σ∧d60 zA z H∧a00 B (hw ow (hz zA H))∧S20 (fBody G.F zE.isNone p b) (xs.drop i) ρ z=some r∧p30 X.K G E H0 zE (hw ow (hz zA H)) D r,
  ⟨xs.length,by simp,Nat.zero_le _,zA,ow,ρ,z,rr,rw,st,sm,by simpa using ee,po⟩,?_⟩
 rintro i m σ H ⟨rfl,hi,zA,ow,ρ,z,rr,rw,st,sm,ee,po⟩
 have sH:a00 B H:=a00.trans sm (a00.trans k90 (a10 zA H))
 by_cases hlt:i < xs.length
 ·refine .inr ⟨IT.go i H sH hlt,fun σ' H'=>∃ zA ow ρ z r,RW X.K H0 zE zA ow H' ρ σ'∧d60 zA z H'∧a00 B (hw ow (hz zA H'))∧S20 (fBody G.F zE.isNone p b) (xs.drop (i + 1)) ρ z=some r∧p30 X.K G E H0 zE (hw ow (hz zA H')) D r,
   fun σ' H' h=>⟨xs.length - (i + 1),by omega,rfl,hlt,h⟩,fun x H' y=>?_⟩
  have hd0:xs[i]?=some xs[i]:=List.getElem?_eq_getElem hlt
  obtain ⟨s1,hd⟩:=IT.yld i H x H' zA z _ (a00.trans sm k90) st y hd0
  rw [List.drop_eq_getElem_cons hlt] at ee
  have e0:M.bind (fBody G.F zE.isNone p b xs[i] ρ) (fun o=>match o with | .nx ρ=>S20 (fBody G.F zE.isNone p b) (xs.drop (i + 1)) ρ | .rt s=>M.ret (.rt s)) z=some rr:=ee
  have r1:=rw.mono (Ext.of s1)
  have st1:=st.same s1
  have sm1:a00 (hw ow (hz zA H)) (hw ow (hz zA H')):=d50 (h30 s1)
  have hd1:=A30 r1.M11 (s40 hb (List.getElem_mem hlt)) hd
  have fin:∀ {ρ1:Env}{o:O}{z1:Z},f80 p xs[i] ρ=some ρ1→ex G.F zE.isNone b ρ1 z=some (.ok o z1)→(match o with | .nx ρ=>S20 (fBody G.F zE.isNone p b) (xs.drop (i + 1)) ρ | .rt s=>M.ret (.rt s)) z1=some rr→gP X.K p x σ H' fun σ2 H2=>tX X.K G E H0 zE b { D with nx:=fun σ' H'=>∃ zA ow ρ z r,RW X.K H0 zE zA ow H' ρ σ'∧d60 zA z H'∧a00 B (hw ow (hz zA H'))∧S20 (fBody G.F zE.isNone p b) (xs.drop (i + 1)) ρ z=some r∧p30 X.K G E H0 zE (hw ow (hz zA H')) D r,ct:=fun σ' H'=>∃ zA ow ρ z r,RW X.K H0 zE zA ow H' ρ σ'∧d60 zA z H'∧a00 B (hw ow (hz zA H'))∧S20 (fBody G.F zE.isNone p b) (xs.drop (i + 1)) ρ z=some r∧p30 X.K G E H0 zE (hw ow (hz zA H')) D r,bk:=D.nx } σ2 H2:=fun {ρ1 o z1} hbp e1 e2=>by
   refine z51 hbp r1 hd1 fun ow' σ' r2 sm2=>⟨zA,ow',ρ1,z,_,r2,st1,e1,?_⟩
   cases o with
   | nx ρ2=>exact fun zA3 ow3 σ3 H3 r3 st3 sm3=>⟨zA3,ow3,ρ2,z1,rr,r3,st3,a00.trans sm (a00.trans sm1 (a00.trans sm2 sm3)),e2,po.mono (a00.trans sm1 (a00.trans sm2 sm3))⟩
   | rt s=>cases e2;exact po
  rcases M.bind_some e0 with ⟨o,z1,e1,e2⟩ | ⟨c,z1,e1,e2⟩
  ·obtain ⟨ρ1,hbp,e3⟩:=M.a20 e1
   exact fin hbp e3 e2
  ·subst e2
   obtain ⟨ρ1,hbp,e3⟩:=M.a20 e1
   exact z51 hbp r1 hd1 fun ow' σ' r2 sm2=>⟨zA,ow',ρ1,z,_,r2,st1,e3,po⟩
 ·have e:i=xs.length:=by omega
  subst e
  rw [List.drop_length] at ee
  cases ee
  exact .inl ⟨IT.stop H sH,po zA ow σ H rw st (a00.refl _)⟩
theorem c22 (x:XS lm X G E N sc cn) {p:Pat}{i:Nat}{n:Str}{b:Sm}{tg:Expr}{body:List Stmt}{np pos:Pos} (hp:k20 N (N80 sc) p tg=true) (h1:N[i]?=some n) (h2:d10 n=true) (hb:PSs X body (tX X.K G E H0 zE b)) :
  PS X (.For tg (.Name n np) body [] pos) (tX X.K G E H0 zE (.fr p .seq (.cons (.var i) .nil) b)):=by
 refine PS.imp (C01 x.own x.calm (c02 x.toXI h1 h2) (l11 x.loc hp) hb (fun _=>rfl)) fun D σ H q=>?_
 obtain ⟨zA,ow,ρ,z,rr,rw,st,ee,po⟩:=q
 have e0:M.bind (M.bind (match ρ[i]? with | some (some s)=>M.ret [plS s] | _=>M.no) fun x=>M.bind (M.of (one x)) fun s=>M.bind (ev G.F .nil ρ) fun y=>M.ret (s::y)) (fun l=>M.bind (M.of ((plA l).bind (itD .seq))) fun xs=>if z70 l=true∧d80 xs=true then S20 (fBody G.F zE.isNone p b) xs (w40 .seq (.cons (.var i) .nil) l ρ) else M.no) z=some rr:=ee
 cases hs:ρ[i]? with
 | none=>rw [hs] at e0;cases e0
 | some o =>
  cases o with
  | none=>rw [hs] at e0;cases e0
  | some s =>
   rw [hs] at e0
   have e1:M.bind (M.of ((plA [plS s]).bind (itD .seq))) (fun xs=>if z70 [plS s]=true∧d80 xs=true then S20 (fBody G.F zE.isNone p b) xs (ρ.set i ((ρ[i]?.getD none).map plS)) else M.no) z=some rr:=e0
   obtain ⟨xs,hx,e2⟩:=M.a20 e1
   split at e2
   ·rename_i hbb
    have r1:=rw.plain i
    have sm:=x70 (H:=hz zA H) ow i
    have hi:i < ρ.length:=(List.getElem?_eq_some_iff.mp hs).1
    have hsl:(ρ.set i ((ρ[i]?.getD none).map plS))[i]?=some (some (plS s)):=by rw [List.getElem?_set_self hi,hs];rfl
    obtain ⟨w,k1,k2⟩:=r1.wor i _ hsl
    obtain ⟨ds,h3,h4⟩:=Option.bind_eq_some_iff.mp hx
    obtain ⟨d,rfl,h5⟩:=l51 h3
    have hd:Hd X.K (hw (ow0 ow i) (hz zA H)) d w:=by
     cases s with
     | d y=>cases h5;exact k2.2
     | fr ys=>cases h5;exact k2.2
     | z=>cases h5
    cases d with
    | tup l =>
     cases h4
     obtain ⟨a,ys,rfl,m1,m2⟩:=hd.D00
     exact ⟨a,k1,.inl ⟨⟨ys,(a10 zA H).sqT (a00.sqT k90 m1)⟩,Y40 (l31 m1 m2) hbb.2 r1 st (a00.refl _) e2 (po.mono sm)⟩⟩
    | lst l =>
     cases h4
     obtain ⟨a,ys,rfl,m1,m2⟩:=hd.c61
     exact ⟨a,k1,.inr ⟨⟨ys,((m1.same k90).same (a10 zA H)).sq⟩,Y40 (X90 m1 m2) hbb.2 r1 st (a00.refl _) e2 (po.mono sm)⟩⟩
    | _=>cases h4
   ·cases e2
theorem q12 (x:XS lm X G E N sc cn) {p:Pat}{it:It}{src:Ex}{b:Sm}{tg iter:Expr}{body:List Stmt}{pos:Pos} (hp:k20 N (N80 sc) p tg=true) (hi:PI X tg iter (tIt X.K G E it src)) (hns:w50 iter=true) (hv:J31 it src=none) (hb:PSs X body (tX X.K G E H0 zE b)) :
  PS X (.For tg iter body [] pos) (tX X.K G E H0 zE (.fr p it src b)):=by
 refine PS.imp (C01 x.own x.calm hi (l11 x.loc hp) hb (m21 hns X.env)) fun D σ H q=>?_
 obtain ⟨zA,ow,ρ,z,rr,rw,st,ee,po⟩:=q
 have e0:M.bind (ev G.F src ρ) (fun l=>M.bind (M.of ((plA l).bind (itD it))) fun xs=>if z70 l=true∧d80 xs=true then S20 (fBody G.F zE.isNone p b) xs (w40 it src l ρ) else M.no) z=some rr:=ee
 rcases M.bind_some e0 with ⟨l,z1,e1,e2⟩ | ⟨c,z1,e1,e2⟩
 ·obtain ⟨xs,hx,e3⟩:=M.a20 e2
  split at e3
  ·rename_i hbb
   refine ⟨zA,ρ,z,_,rw.Q70,st,e1,xs,hx,fun J H1 x1 st1 IT=>?_⟩
   have r1:=rw.mono x1
   have pa:∀ ds,plA l=some ds→∀ d∈ds,PX (fun y=>bare y=true) d:=fun ds hds d hd=>by
    have h:=hbb.1
    unfold z70 at h
    rw [hds] at h
    have:=List.all_eq_true.mp h d hd
    cases d with
    | tup m=>exact fun y hy=>s40 this hy
    | lst m=>exact fun y hy=>s40 this hy
    | _=>trivial
   cases hl:w42 l with
   | some q =>
    obtain ⟨m,rfl⟩:=q
    have he:w40 it src [.d (.lst m)] ρ=x61 ρ:=by
     unfold w40;rw [hv];rfl
    rw [he] at e3
    have r2:=r1.x61
    refine Y40 (IT (fun _=>True) (hz zA H1) (a00.refl _) (fun _ _ q=>q) (fun _ _ _ q=>q) (fun ds hds d hd=>?_) fun _ _ q _=>q) hbb.2 r2 st1 ?_ e3 (po.mono (a00.trans (d50 x1) (N50 ow)))
    ·cases d <;> first | trivial | exact fun _ _=>trivial
    ·rw [t90];exact a00.refl _
   | none =>
    have he:w40 it src l ρ=ρ:=by
     unfold w40;rw [hv,hl]
    rw [he] at e3
    refine Y40 (IT (fun y=>bare y=true) (hw ow (hz zA H1)) k90 (fun a ys q=>E11 q r1.M11) (fun d v hd q=>A30 r1.M11 hd q) pa fun a ys q hor=>?_) hbb.2 r1 st1 (a00.refl _) e3 (po.mono (d50 x1))
    rcases hor with ⟨hn,hm1⟩ | hm
    ·refine r00.of (j60 (e00 hm1 (st.j51 hn)) fun j w=>?_)
     obtain ⟨zs,k⟩:=rw.lst j a w
     rw [hn] at k;cases k
    ·obtain ⟨m,rfl⟩:=hm;cases hl
  ·cases e3
 ·subst e2
  exact ⟨zA,ρ,z,_,rw.Q70,st,e1,po.er_ rw⟩
end
end Q
namespace Q
open PySem L2 PySem.Spec PyProof.Rows
variable [TB:Tb]
noncomputable def isQ:Sm→Bool
 | .nil=>true
 | .seq _ _=>true
 | _=>false
noncomputable def M81:Expr→Bool
 | .IfExp ..=>false
 | _=>true
noncomputable def C02:Expr→Bool
 | .SetComp ..=>false
 | .DictComp ..=>false
 | _=>true
noncomputable def mtI (lm:Bool) (fns:List (Str × List Str)) (nums:List (Str × Int)) (it:It) (src:Ex) (sc:Scope) (N:List Str) (tg iter:Expr):Bool:=match it with
 | .seq=>mt lm fns nums src sc N [iter]
 | .rng1=>opt (R21 iter) fun r=>r.1.1 == ("range":Str)&&glob sc r.1.1&&mt lm fns nums src sc N [r.1.2.2.1]
 | .rng2=>opt (R31 iter) fun r=>r.1.1 == ("range":Str)&&glob sc r.1.1&&mt lm fns nums src sc N [r.1.2.2.1,r.1.2.2.2.1]
 | .zip=>opt (R31 iter) fun r=>r.1.1 == ("zip":Str)&&glob sc r.1.1&&n20 tg&&mt lm fns nums src sc N [r.1.2.2.1,r.1.2.2.2.1]
 | .enum=>opt (R21 iter) fun r=>r.1.1 == ("enumerate":Str)&&glob sc r.1.1&&n20 tg&&mt lm fns nums src sc N [r.1.2.2.1]
noncomputable def C12:(p:Pat)→Option {q:Nat × Nat // p=.tup (.cons (.v q.1) (.cons (.v q.2) .nil))}
 | .tup (.cons (.v i) (.cons (.v j) .nil))=>some ⟨(i,j),rfl⟩
 | _=>none
noncomputable def C22:(e:Ex)→Option {q:Ex × Ex // e=.tup (.cons q.1 (.cons q.2 .nil))}
 | .tup (.cons a (.cons b .nil))=>some ⟨(a,b),rfl⟩
 | _=>none
noncomputable def C32:(e:Expr)→Option {q:Expr × Expr × Nat × Pos // e=.Tuple [q.1,q.2.1] q.2.2.1 q.2.2.2}
 | .Tuple [a,b] k p=>some ⟨(a,b,k,p),rfl⟩
 | _=>none
noncomputable def C42 (sc:Scope) (p:Pat) (e:Ex) (tg v:Expr):Bool:=opt (C12 p) fun _=>opt (C22 e) fun _=>opt (w82 tg) fun t=>opt (C32 v) fun u =>
  !(t.1.1 == t.1.2.2.1)&&sc.names.lookup t.1.1 == some .local&&sc.names.lookup t.1.2.2.1 == some .local&&t.1.2.2.2.1.line == t.1.2.1.line&&noStar u.1.1&&noStar u.1.2.1&&!([u.1.1,u.1.2.1].all (foldedForSure 8))&&!([u.1.1,u.1.2.1].all (constantsAlone 8))
noncomputable def isNm:Expr→Bool
 | .Name ..=>true
 | _=>false
noncomputable def setB (sc:Scope) (p:Pat) (e:Ex) (tg v:Expr):Bool :=
 if isNm tg then C02 v else if n20 tg then (if n20 v then (match v with | .Tuple vs _ _=>vs.all (foldedForSure 8) | _=>false) || (match tg with | .Tuple ts _ _=>ts.any (m71 fun y=>sc.names.lookup y) | _=>false) || C42 sc p e tg v else true) else false
noncomputable def M91:(e:List Stmt)→Option {q:Expr × Expr × Pos // e=[.Assign [q.1] q.2.1 q.2.2]}
 | [.Assign [tg] v p]=>some ⟨(tg,v,p),rfl⟩
 | _=>none
noncomputable def q22:(e:List Stmt)→Option {q:Option Expr × Pos // e=[.Return q.1 q.2]}
 | [.Return v p]=>some ⟨(v,p),rfl⟩
 | _=>none
noncomputable def C52:(e:List Stmt)→Option {q:Expr × List Stmt × List Stmt × Pos // e=[.If q.1 q.2.1 q.2.2.1 q.2.2.2]}
 | [.If c a b p]=>some ⟨(c,a,b,p),rfl⟩
 | _=>none
noncomputable def q32:(e:List Stmt)→Option {q:Expr × Expr × List Stmt × Pos // e=[.For q.1 q.2.1 q.2.2.1 [] q.2.2.2]}
 | [.For tg iter body [] p]=>some ⟨(tg,iter,body,p),rfl⟩
 | _=>none
noncomputable def q42:(e:List Stmt)→Option {q:Expr × List Stmt × Pos // e=[.While q.1 q.2.1 [] q.2.2]}
 | [.While c body [] p]=>some ⟨(c,body,p),rfl⟩
 | _=>none
noncomputable def c32:(e:List Stmt)→Option {q:Expr × Pos // e=[.Raise (some q.1) none q.2]}
 | [.Raise (some x) none p]=>some ⟨(x,p),rfl⟩
 | _=>none
noncomputable def N01:(e:List Stmt)→Option {q:Expr × Pos // e=[.Expr q.1 q.2]}
 | [.Expr v p]=>some ⟨(v,p),rfl⟩
 | _=>none
noncomputable def q52:(e:Expr)→Option {q:Str × Pos × Str × Nat × Pos × Pos // e=.Call (.Name q.1 q.2.1) [.Constant (.str q.2.2.1) q.2.2.2.1 q.2.2.2.2.1] [] q.2.2.2.2.2}
 | .Call (.Name n p1) [.Constant (.str y) k p2] [] p3=>some ⟨(n,p1,y,k,p2,p3),rfl⟩
 | _=>none
noncomputable def N11:(e:Expr)→Option {q:Str × Pos × Str × Pos × Expr × Pos // e=.Call (.Attribute (.Name q.1 q.2.1) q.2.2.1 q.2.2.2.1) [q.2.2.2.2.1] [] q.2.2.2.2.2}
 | .Call (.Attribute (.Name n p) a ap) [v] [] cp=>some ⟨(n,p,a,ap,v,cp),rfl⟩
 | _=>none
noncomputable def C62:(e:Expr)→Option {q:Str × Pos × Nat × Pos × Pos // e=.Subscript (.Name q.1 q.2.1) (.Constant (.int 0) q.2.2.1 q.2.2.2.1) q.2.2.2.2}
 | .Subscript (.Name n p) (.Constant (.int 0) c q1) tp=>some ⟨(n,p,c,q1,tp),rfl⟩
 | _=>none
noncomputable def C72:(e:Expr)→Option {q:Str × Pos × Expr × Pos // e=.Subscript (.Name q.1 q.2.1) q.2.2.1 q.2.2.2}
 | .Subscript (.Name n p) w tp=>some ⟨(n,p,w,tp),rfl⟩
 | _=>none
noncomputable def C82:(e:Expr)→Option {q:Str × Pos // e=.Name q.1 q.2}
 | .Name n p=>some ⟨(n,p),rfl⟩
 | _=>none
noncomputable def z91:Ex→Bool
 | .con .non=>true
 | _=>false
noncomputable def mtS (lm:Bool) (fns:List (Str × List Str)) (nums:List (Str × Int)) (cn:List Str) (sc:Scope) (N:List Str):Sm→List Stmt→Bool
 | .nil,ss=>ss.isEmpty
 | .seq s r,ss=>opt ss.head? fun st=>!isQ s&&isQ r&&mtS lm fns nums cn sc N s [st]&&mtS lm fns nums cn sc N r ss.tail
 | .set p e,ss=>opt (M91 ss) fun q=>!isL e&&k20 N (N80 sc) p q.1.1&&mt lm fns nums e sc N [q.1.2.1]&&setB sc p e q.1.1 q.1.2.1
 | .ret e,ss=>opt (q22 ss) fun q=>match q.1.1 with
  | some v=>!isL e&&mt lm fns nums e sc N [v]
  | none=>z91 e
 | .iff c t u,ss=>opt (C52 ss) fun q=>!isL c&&M81 q.1.1&&isQ t&&isQ u&&mt lm fns nums c sc N [q.1.1]&&mtS lm fns nums cn sc N t q.1.2.1&&mtS lm fns nums cn sc N u q.1.2.2.1
 | .fr p it src b,ss=>opt (q32 ss) fun q=>k20 N (N80 sc) p q.1.1&&isL src&&w50 q.1.2.1&&isQ b&&mtI lm fns nums it src sc N q.1.1 q.1.2.1&&mtS lm fns nums cn sc N b q.1.2.2.1
 | .whl c b,ss=>opt (q42 ss) fun q=>!isL c&&M81 q.1.1&&isQ b&&mt lm fns nums c sc N [q.1.1]&&mtS lm fns nums cn sc N b q.1.2.1
 | .rais c,ss=>opt (c32 ss) fun q=>opt (q52 q.1.1) fun r=>cn[c]? == some r.1.1&&glob sc r.1.1
 | .exp e,ss=>opt (N01 ss) fun q=>N60 q.1.1&&!isL e&&mt lm fns nums e sc N [q.1.1]
 | .app i e,ss=>opt (N01 ss) fun q=>opt (N11 q.1.1) fun r=>r.1.2.2.1 == ("append":Str)&&N[i]? == some r.1.1&&d10 r.1.1&&noStar r.1.2.2.2.2.1&&!isL e&&r.1.2.2.2.1.endLine == r.1.2.2.2.2.2.line&&mt lm fns nums e sc N [r.1.2.2.2.2.1]
 | .newz i f as,ss=>opt (M91 ss) fun q=>opt (C82 q.1.1) fun r=>N[i]? == some r.1.1&&N80 sc r.1.1&&N60 q.1.2.1&&mt lm fns nums (.call f as) sc N [q.1.2.1]
 | .zset i e,ss=>opt (M91 ss) fun q=>opt (C62 q.1.1) fun r=>N[i]? == some r.1.1&&d10 r.1.1&&!isL e&&mt lm fns nums e sc N [q.1.2.1]
 | .apop i j e,ss=>opt (N01 ss) fun q=>opt (N11 q.1.1) fun r=>opt (N11 r.1.2.2.2.2.1) fun t=>r.1.2.2.1 == ("append":Str)&&t.1.2.2.1 == ("pop":Str)&&N[i]? == some r.1.1&&d10 r.1.1&&N[j]? == some t.1.1&&d10 t.1.1&&noStar t.1.2.2.2.2.1&&!isL e&&r.1.2.2.2.1.endLine == r.1.2.2.2.2.2.line&&t.1.2.2.2.1.endLine == t.1.2.2.2.2.2.line&&mt lm fns nums e sc N [t.1.2.2.2.2.1]
section
variable {lm:Bool}{X:Cx}{G:Gs}{E:XK}{N:List Str}{sc:Scope}{cn:List Str}{H0:Hp}{zE:Option Addr}
theorem q62 (x:XI lm X G E N sc) {it:It}{src:Ex}{tg iter:Expr} (hL:isL src=true) (h:mtI lm G.fns G.nums it src sc N tg iter=true):PI X tg iter (tIt X.K G E it src):=by
 cases it with
 | seq =>
  obtain ⟨a,rfl,ga⟩:=m31 hL (sound G src x h)
  exact E01 ga
 | rng1 =>
  obtain ⟨⟨⟨n,_,a,_⟩,rfl⟩,-,h⟩:=a40 h
  simp only [Bool.and_eq_true,beq_iff_eq] at h
  exact l61 x h.1.1 h.1.2 hL (sound G src x h.2)
 | rng2 =>
  obtain ⟨⟨⟨n,_,a,b,_⟩,rfl⟩,-,h⟩:=a40 h
  simp only [Bool.and_eq_true,beq_iff_eq] at h
  exact l71 x h.1.1 h.1.2 hL (sound G src x h.2)
 | zip =>
  obtain ⟨⟨⟨n,_,a,b,_⟩,rfl⟩,-,h⟩:=a40 h
  simp only [Bool.and_eq_true,beq_iff_eq] at h
  exact l81 x h.1.2 h.1.1.1 h.1.1.2 hL (sound G src x h.2)
 | enum =>
  obtain ⟨⟨⟨n,_,a,_⟩,rfl⟩,-,h⟩:=a40 h
  simp only [Bool.and_eq_true,beq_iff_eq] at h
  exact Y10 x h.1.2 h.1.1.1 h.1.1.2 hL (sound G src x h.2)
theorem Y50 {e:Expr} (h:M81 e=true):∀ t a b p,e≠.IfExp t a b p:=by
 intro t a b p he
 subst he
 cases h
noncomputable def GS (X:Cx) (G:Gs) (E:XK) (H0:Hp) (zE:Option Addr) (s:Sm) (ss:List Stmt):Prop:=(isQ s=true→PSs X ss (tX X.K G E H0 zE s))∧(isQ s=false→∃ st,ss=[st]∧PS X st (tX X.K G E H0 zE s))
theorem o00 {s:Sm}{st:Stmt} (hq:isQ s=false) (h:PS X st (tX X.K G E H0 zE s)):GS X G E H0 zE s [st]:=⟨fun k=>(by rw [hq] at k;cases k),fun _=>⟨st,rfl,h⟩⟩
theorem N21 {x:XI lm X G E N sc}{e:Ex}{elt:Expr}{gs:List Comprehension}{csc:Scope}{q:Pos} (h:mt lm G.fns G.nums e sc N [.ListComp elt gs csc q]=true) (hL:isL e=false):∃ tg iter ifs,gs=[⟨tg,iter,ifs,0⟩]∧D30 X G E e elt tg iter ifs csc:=by
 cases e with
 | comp own capt p it src cond el =>
  match gs,h with
  | [⟨tg,iter,ifs,0⟩],h=>exact ⟨tg,iter,ifs,rfl,N40 (fun x _=>sound G src x) (fun x _=>sound G cond x) (fun x _=>sound G el x) x h⟩
 | nil=>cases hL
 | cons _ _=>cases hL
 | _=>cases h
theorem q72 (x:XS lm X G E N sc cn) {p:Pat}{e:Ex}{tg v:Expr}{pos:Pos} (h1:(!isL e)=true) (h2:k20 N (N80 sc) p tg=true) (h3:mt lm G.fns G.nums e sc N [v]=true) (h4:setB sc p e tg v=true):PS X (.Assign [tg] v pos) (tX X.K G E H0 zE (.set p e)):=by
 have g:=b10 (b70 h1) (sound G e x.toXI h3)
 unfold setB at h4
 split at h4
 ·rename_i hn
  cases tg with
  | Name y px =>
   cases p with
   | v i =>
    unfold k20 at h2
    rw [Bool.and_eq_true,beq_iff_eq] at h2
    refine p42 x h2.1 h2.2 g (fun elt gs csc q hv=>?_) (fun a b c d hv=>?_) (fun a b c d f hv=>?_)
    ·subst hv;exact N21 (x:=x.toXI) h3 (b70 h1)
    ·subst hv;cases h4
    ·subst hv;cases h4
   | tup _=>unfold k20 at h2;cases h2
   | nil=>unfold k20 at h2;cases h2
   | cons _ _=>unfold k20 at h2;cases h2
  | _=>cases hn
 ·split at h4
  ·rename_i ht
   split at h4
   ·rename_i hv
    rw [Bool.or_eq_true,Bool.or_eq_true] at h4
    rcases h4 with (h4 | h4) | h4
    ·cases tg with
     | Tuple ts k tp =>
      cases v with
      | Tuple vs k' vp=>exact m81 x h2 g rfl (M31 h4)
      | _=>cases hv
     | _=>cases ht
    ·cases tg with
     | Tuple ts k tp =>
      cases v with
      | Tuple vs k' vp =>
       refine m81 x h2 g rfl (M41 ?_)
       have e:X.env.kindOf=fun y=>sc.names.lookup y:=by funext y;unfold Env.kindOf;rw [x.sco]
       rw [e];exact h4
      | _=>cases hv
     | _=>cases ht
    ·obtain ⟨⟨⟨i,j⟩,rfl⟩,-,h4⟩:=a40 h4
     obtain ⟨⟨⟨ea,eb⟩,rfl⟩,-,h4⟩:=a40 h4
     obtain ⟨⟨⟨y,px,w,py,kt,tp⟩,rfl⟩,-,h4⟩:=a40 h4
     obtain ⟨⟨⟨a,b,kv,vp⟩,rfl⟩,-,h4⟩:=a40 h4
     simp only [Bool.and_eq_true,Bool.not_eq_true',beq_iff_eq] at h4
     obtain ⟨⟨⟨⟨⟨⟨⟨k1,k2⟩,k3⟩,k4⟩,k5⟩,k6⟩,k7⟩,k8⟩:=h4
     unfold k20 at h2
     simp only [c91,k20,Bool.and_eq_true,beq_iff_eq] at h2
     obtain ⟨⟨_,h21,_⟩,⟨_,h22,_⟩,_⟩:=h2
     have h3':(isL (.cons ea (.cons eb .nil))&&mt lm G.fns G.nums (.cons ea (.cons eb .nil)) sc N [a,b])=true:=h3
     rw [Bool.and_eq_true] at h3'
     have ga:Good X G E (.cons ea (.cons eb .nil)) [a,b]:=sound G (.cons ea (.cons eb .nil)) x.toXI h3'.2
     refine p52 x h21 h22 (by simpa using k1) k2 k3 ga (b52 x.bk ?_ ?_ (by simpa using k1) (by rw [k4];exact beq_self_eq_true _) k5 k6 k7 k8)
     ·unfold Env.kindOf;rw [x.sco];exact k2
     ·unfold Env.kindOf;rw [x.sco];exact k3
   ·rename_i hv
    exact m81 x h2 g ht (M21 (by simpa using hv))
  ·cases h4
theorem n21 {e:Ex} (h:z91 e=true):e=.con .non:=by
 unfold z91 at h
 split at h
 ·rfl
 ·cases h
theorem q82 (x:XS lm X G E N sc cn) {e:Ex}{o:Option Expr}{pos:Pos} (h:(match o with | some v=>!isL e&&mt lm G.fns G.nums e sc N [v] | none=>z91 e)=true):PS X (.Return o pos) (tX X.K G E H0 zE (.ret e)):=by
 cases o with
 | some v =>
  have h:(!isL e&&mt lm G.fns G.nums e sc N [v])=true:=h
  rw [Bool.and_eq_true] at h
  by_cases hv:∃ i,e=.var i
  ·obtain ⟨i,rfl⟩:=hv
   have h2:=h.2
   cases v with
   | Name n p =>
    have h2:(N[i]? == some n&&d10 n)=true:=h2
    rw [Bool.and_eq_true,beq_iff_eq] at h2
    exact b62 x h2.1 h2.2
   | _=>cases h2
  ·exact p62 (fun i hi=>hv ⟨i,hi⟩) (b10 (b70 h.1) (sound G e x.toXI h.2))
 | none =>
  have he:=n21 h
  subst he
  refine PS.imp F71 fun D σ H q=>?_
  obtain ⟨zA,ow,ρ,z,rr,rw,st,ee,po⟩:=q
  cases ee
  exact po .non H (fun k=>nomatch k) rw.ext (R41 rw.zok st) (show Hd X.K (hz zE H) .non .non from Hd.non)
theorem C92 (x:XS lm X G E N sc cn) {p:Pat}{it:It}{src:Ex}{b:Sm}{tg iter:Expr}{body:List Stmt}{pos:Pos} (h1:k20 N (N80 sc) p tg=true) (h2:isL src=true) (h3:w50 iter=true) (h5:mtI lm G.fns G.nums it src sc N tg iter=true) (hb:PSs X body (tX X.K G E H0 zE b)) :
  PS X (.For tg iter body [] pos) (tX X.K G E H0 zE (.fr p it src b)):=by
 cases hv:J31 it src with
 | some q =>
  obtain ⟨i,rfl,rfl⟩:=q
  have h5':(noStar iter&&!isL (.var i)&&isL .nil&&mt lm G.fns G.nums (.var i) sc N [iter]&&mt lm G.fns G.nums .nil sc N [])=true:=h5
  simp only [Bool.and_eq_true] at h5'
  have h7:=h5'.1.2
  cases iter with
  | Name n np =>
   have h7:(N[i]? == some n&&d10 n)=true:=h7
   rw [Bool.and_eq_true,beq_iff_eq] at h7
   exact c22 x h1 h7.1 h7.2 hb
  | _=>cases h7
 | none=>exact q12 x h1 (q62 x.toXI h2 h5) h3 hv hb
theorem c42 (x:XS lm X G E N sc cn):∀ (s:Sm) {ss:List Stmt},mtS lm G.fns G.nums cn sc N s ss=true→GS X G E H0 zE s ss:=by
 intro s
 induction s with
 | nil =>
  intro ss h
  have:ss=[]:=List.isEmpty_iff.mp h
  subst this
  exact ⟨fun _=>p22,fun k=>by cases k⟩
 | seq s r ihs ihr =>
  intro ss h
  obtain ⟨st,h0,h⟩:=a40 h
  cases ss with
  | nil=>cases h0
  | cons st' rest =>
   cases h0
   simp only [Bool.and_eq_true,Bool.not_eq_true',List.tail_cons] at h
   obtain ⟨⟨⟨h1,h2⟩,h3⟩,h4⟩:=h
   obtain ⟨st',he,hs⟩:=(ihs h3).2 h1
   cases he
   exact ⟨fun _=>p32 hs ((ihr h4).1 h2),fun k=>by cases k⟩
 | set p e =>
  intro ss h
  obtain ⟨⟨q,rfl⟩,-,h⟩:=a40 h
  simp only [Bool.and_eq_true] at h
  exact o00 rfl (q72 x h.1.1.1 h.1.1.2 h.1.2 h.2)
 | ret e =>
  intro ss h
  obtain ⟨⟨q,rfl⟩,-,h⟩:=a40 h
  exact o00 rfl (q82 x h)
 | iff c t u iht ihu =>
  intro ss h
  obtain ⟨⟨q,rfl⟩,-,h⟩:=a40 h
  simp only [Bool.and_eq_true] at h
  obtain ⟨⟨⟨⟨⟨⟨h1,h2⟩,h3⟩,h4⟩,h5⟩,h6⟩,h7⟩:=h
  exact o00 rfl (B82 (b10 (b70 h1) (sound G c x.toXI h5)) (Y50 h2) ((iht h6).1 h3) ((ihu h7).1 h4))
 | fr p it src b ih =>
  intro ss h
  obtain ⟨⟨q,rfl⟩,-,h⟩:=a40 h
  simp only [Bool.and_eq_true] at h
  obtain ⟨⟨⟨⟨⟨h1,h2⟩,h3⟩,h4⟩,h5⟩,h6⟩:=h
  exact o00 rfl (C92 x h1 h2 h3 h5 ((ih h6).1 h4))
 | whl c b ih =>
  intro ss h
  obtain ⟨⟨q,rfl⟩,-,h⟩:=a40 h
  simp only [Bool.and_eq_true] at h
  obtain ⟨⟨⟨⟨h1,h2⟩,h3⟩,h4⟩,h5⟩:=h
  exact o00 rfl (p92 x (b10 (b70 h1) (sound G c x.toXI h4)) (Y50 h2) ((ih h5).1 h3))
 | rais c =>
  intro ss h
  obtain ⟨⟨⟨e,pos⟩,rfl⟩,-,h⟩:=a40 h
  dsimp only at h
  obtain ⟨⟨⟨n,p1,y,k,p2,p3⟩,rfl⟩,-,h⟩:=a40 h
  simp only [Bool.and_eq_true,beq_iff_eq] at h
  exact o00 rfl (x_raise x h.1 h.2)
 | exp e =>
  intro ss h
  obtain ⟨⟨q,rfl⟩,-,h⟩:=a40 h
  simp only [Bool.and_eq_true] at h
  exact o00 rfl (p72 (b10 (b70 h.1.2) (sound G e x.toXI h.2)) h.1.1)
 | app i e =>
  intro ss h
  obtain ⟨⟨⟨v0,pos⟩,rfl⟩,-,h⟩:=a40 h
  dsimp only at h
  obtain ⟨⟨⟨n,p1,a,apos,v,cpos⟩,rfl⟩,-,h⟩:=a40 h
  simp only [Bool.and_eq_true,beq_iff_eq] at h
  obtain ⟨⟨⟨⟨⟨⟨h7,h8⟩,h2⟩,h3⟩,h4⟩,h5⟩,h6⟩:=h
  subst h7
  exact o00 rfl (p82 x h8 h2 h3 (b10 (b70 h4) (sound G e x.toXI h6)) (by rw [h5];exact beq_self_eq_true _))
 | newz i f as =>
  intro ss h
  obtain ⟨⟨⟨tg,v,pos⟩,rfl⟩,-,h⟩:=a40 h
  dsimp only at h
  obtain ⟨⟨⟨y,p1⟩,rfl⟩,-,h⟩:=a40 h
  simp only [Bool.and_eq_true,beq_iff_eq] at h
  obtain ⟨⟨⟨h1,h2⟩,h3⟩,h4⟩:=h
  exact o00 rfl (b72 x h1 h2 (b10 rfl (sound G (.call f as) x.toXI h4)) h3)
 | zset i e =>
  intro ss h
  obtain ⟨⟨⟨tg,v,pos⟩,rfl⟩,-,h⟩:=a40 h
  dsimp only at h
  obtain ⟨⟨⟨n,p1,c,p2,p3⟩,rfl⟩,-,h⟩:=a40 h
  simp only [Bool.and_eq_true,beq_iff_eq] at h
  exact o00 rfl (b82 x h.1.1.1 h.1.1.2 (b10 (b70 h.1.2) (sound G e x.toXI h.2)))
 | apop i j e =>
  intro ss h
  obtain ⟨⟨⟨v0,pos⟩,rfl⟩,-,h⟩:=a40 h
  dsimp only at h
  obtain ⟨⟨⟨n,p1,a,apos,v1,cpos⟩,rfl⟩,-,h⟩:=a40 h
  dsimp only at h
  obtain ⟨⟨⟨m,p2,b,apos',v,cpos'⟩,rfl⟩,-,h⟩:=a40 h
  simp only [Bool.and_eq_true,beq_iff_eq] at h
  obtain ⟨⟨⟨⟨⟨⟨⟨⟨⟨⟨g1,g2⟩,g3⟩,g4⟩,g5⟩,g6⟩,g7⟩,g8⟩,g9⟩,g10⟩,g11⟩:=h
  subst g1;subst g2
  exact o00 rfl (b92 x g3 g4 g5 g6 g7 (b10 (b70 g8) (sound G e x.toXI g11)) (by rw [g9];exact beq_self_eq_true _) (by rw [g10];exact beq_self_eq_true _))
end
end Q
namespace Q
open PySem L2 PySem.Spec PyProof.Rows
variable [TB:Tb]
structure GX (P:Program) (w:World) (K:PySem.W.Frag) (mg:Str→Option Value) (base:Heap) (G:Gs) (cn:List Str):Prop where
 gok:∀ f nm ps,G.fns[f]?=some (nm,ps)→∃ fa fd,mg nm=some (.ref fa)∧PySem.W.keepIn K (.ref fa)=true∧Binds K fd ps []∧Q40 P w K mg base (CX1 P w) G.lv fa fd ps (spF K G f ps.length)
 num:∀ p∈G.nums,∃ t,mg p.1=some (.int p.2 t)
 blt:∀ n∈L11,mg n=none
 cls:∀ c x,cn[c]?=some x→mg x=some (.ref (G.cls c))∧PySem.W.excIn K (G.cls c) [.type "ValueError",.type "Exception",.type "BaseException",.type "object"] "ValueError.__new__"=true
section
variable {P:Program}{w:World}{K:PySem.W.Frag}{mg:Str→Option Value}{base:Heap}{G:Gs}{cn:List Str}
structure h82 (P:Program) (w:World) (K:PySem.W.Frag) (mg:Str→Option Value) (base:Heap) (cls:Nat→Addr) (fR:Addr) (fdR:FuncData):Prop where
 bm:BMain mg base
 cls:∀ j,j < 12→M30 K mg (cls j) j
 m:mg "_law_refused"=some (.ref fR)
 kp:PySem.W.keepIn K (.ref fR)=true
 bd:Binds K fdR ["_law_call"] []
 fn:∀ k,b81 P w K mg base CX0 (k + 2) fR fdR ["_law_call"] (J11 P w K mg base (k + 1))
noncomputable def h92 (K:PySem.W.Frag) (nm:Str) (fd:FuncData):Prop:=∃ (c P:Addr) (q:Str),fd.code=.ref c∧PySem.W.codeHdIn K c P=true∧(∀ sc n f cd,(envOfC nm sc n f cd).qual++"<lambda>"=q)∧(P,q)∈TB.tb∧∀ p∈TB.tb,p.1=P→p.2=q
noncomputable def Low (P:Program) (w:World) (K:PySem.W.Frag) (mg:Str→Option Value) (base:Heap) (G:Gs) (k:Nat):Prop:=∀ f nm ps,G.fns[f]?=some (nm,ps)→∃ fa fd,mg nm=some (.ref fa)∧PySem.W.keepIn K (.ref fa)=true∧Binds K fd ps []∧Q40 P w K mg base (CX1 P w) k fa fd ps (spF K (lowG G k) f ps.length)
theorem c52 (g:GX P w K mg base G cn) {lm:Bool}{N ps:List Str}{qual:Str}{sc:Scope}{f:Addr}{fd:FuncData}{cd:Value}{A:Around}{outer:List PySem.Env}{s:Shared}{H:Hp}{E:XK} (S:k70 N ps sc) (hl:N.all (N80 sc)=true)
  (hr:w00 G.lv (A.deeper (envOfC qual sc s.heap.objs.size f cd))) (hc:fd.code=cd) (hlam:lm=true→∃ k fR fdR,G.lv=k + 2∧h82 P w K mg base G.cls fR fdR∧h92 K qual fd∧Low P w K mg base G k):XS lm (B50 (CX1 P w) P w K mg base N qual sc f cd A outer s H E) G E N sc cn where
 gok:=g.gok
 num:=g.num
 blt:=g.blt
 hN:=rfl
 nd:=S.nd
 vis:=fun x hx=>by
  have:=List.all_eq_true.mp hl x hx
  unfold N80 at this
  rw [Bool.or_eq_true,beq_iff_eq,beq_iff_eq] at this
  rcases this with h | h
  ·exact .inl h
  ·exact .inr (.inl h)
 glb:=fun x h=>h
 cel:=fun x h=>h
 calm:=rfl
 room:=hr
 pas:=l22
 lam:=fun h=>by
  obtain ⟨k,fR,fdR,e1,L,⟨c,P',q,d1,d2,d3,d4,d5⟩,lo⟩:=hlam h
  exact ⟨c,P',q,k,fR,fdR,rfl,hc.symm.trans d1,d2,d3 _ _ _ _,d4,d5,L.bm,e1,L.cls,L.m,L.kp,L.bd,L.fn k,lo⟩
 sco:=rfl
 fnk:=S.kind
 own:=PassesOwn.leaving
 can:=i71
 fnx:=fun _=>rfl
 cls:=g.cls
theorem D02 {x qual:Str}{st:Stmt}{f:Addr}{fd:FuncData}{N ps:List Str}{k:Nat}{sp:Sp} (F:Fun K x qual st f fd) (S:k70 N ps (b50 st)) (len:∀ vs H Q E,sp vs H Q E→vs.length=ps.length)
  (hb:∀ (cdv:Value),fd.code=cdv→∀ (A:Around) (outer:List PySem.Env) (s:Shared) (H:Hp) (vs:List V) (Q:VK) (E:XK),w00 k (A.deeper (envOfC qual (b50 st) s.heap.objs.size f cdv))→sp vs H Q E →
   ∃ t,PSs (B50 (CX1 P w) P w K mg base N qual (b50 st) f cdv A outer s H E) (j10 st) t∧t { nx:=fun _ H'=>Q .non H',rt:=Q } (L2.start N vs) H):Q40 P w K mg base (CX1 P w) (k + 1) f fd ps sp:=by
 obtain ⟨oc,od,kV,doc,pm,an,cdv,ct,osl,rfl,lk,hcd⟩:=F.ex
 exact k32 lk hcd S len fun A outer s H vs Q E hr hsp=>hb cdv rfl A outer s H vs Q E hr hsp
theorem Y60 {K:PySem.W.Frag}{zA:Option Addr}{H:Hp}:∀ {ss:List S}{vs:List V}{i:Nat}{s:S}{n:Nat},RvA K zA H ss vs→(ss.map some++List.replicate n none)[i]?=some (some s)→∃ v,(vs.map some++List.replicate n none)[i]?=some (some v)∧RvP K zA H s v
 | [],_,i,s,n,h,e=>by
  cases h
  simp only [List.map_nil,List.nil_append] at e
  rw [List.getElem?_replicate] at e
  split at e <;> cases e
 | a::ss,_,0,s,n,h,e=>by
  cases h with
  | cons h1 h2 =>
   simp only [List.map_cons,List.cons_append,List.getElem?_cons_zero] at e
   cases e
   exact ⟨_,rfl,h1⟩
 | a::ss,_,i + 1,s,n,h,e=>by
  cases h with
  | cons h1 h2 =>
   obtain ⟨v,k1,k2⟩:=Y60 (i:=i) (s:=s) (n:=n) h2 (by simpa using e)
   exact ⟨v,by simpa using k1,k2⟩
theorem Paired.len {α β:Type}{R:α→β→Prop}:∀ {l:List α}{m:List β},Paired R l m→l.length=m.length
 | [],_,h=>by cases h;rfl
 | _::_,_,h=>by
  cases h with
  | cons h1 h2=>simp [Paired.len h2]
theorem A01 {K:PySem.W.Frag}{zA:Option Addr}{H:Hp}{ss:List S}{vs:List V}{N:List Str} (h:RvA K zA H ss vs) (hn:∀ s∈ss,∀ xs,s≠.fr xs):RW K H zA zA (fun _=>none) H (Q.start N.length ss) (L2.start N vs):=by
 have hl:ss.length=vs.length:=Paired.len h
 refine ⟨?_,fun i j a e=>(nomatch e),fun i a e=>(nomatch e),fun i a e=>(nomatch e),fun i s e=>?_,Ext.refl,.inl rfl,fun i a e=>(nomatch e)⟩
 ·unfold Q.start L2.start
  simp [hl]
 ·unfold Q.start at e
  obtain ⟨v,k1,k2⟩:=Y60 h e
  refine ⟨v,?_,?_⟩
  ·unfold L2.start
   rw [← hl];exact k1
  ·cases s with
   | d x=>exact ⟨rfl,by rw [t90];exact k2⟩
   | z=>exact ⟨rfl,k2⟩
   | fr xs =>
    rcases List.mem_append.mp (List.mem_of_getElem? e) with q | q
    ·obtain ⟨s',q1,q2⟩:=List.mem_map.mp q
     cases q2
     exact absurd rfl (hn _ q1 xs)
    ·cases List.eq_of_mem_replicate q
theorem N31 {zA:Option Addr}{z z1:Z}{H:Hp} (st:d60 zA z H):h72 zA z1=S30 z z1:=by
 have st:=st.zat
 cases zA with
 | none =>
  cases z with
  | none=>rfl
  | some p=>exact st.elim
 | some a =>
  cases z with
  | none=>exact st.elim
  | some p=>rfl
theorem n31 {zA:Option Addr}{z:Z}{H:Hp} (st:d60 zA z H):z.isNone=zA.isNone:=by
 have st:=st.zat
 cases zA with
 | none =>
  cases z with
  | none=>rfl
  | some p=>exact st.elim
 | some a =>
  cases z with
  | none=>exact st.elim
  | some p=>rfl
theorem n41 (g:GX P w K mg base G cn) {lm:Bool}{N ps:List Str}{nm:Str}{st:Stmt}{fa:Addr}{fd:FuncData}{b:Sm}{f:Nat}{F':FT} (Fn:Fun K nm nm st fa fd) (Sc:k70 N ps (b50 st)) (hl:N.all (N80 (b50 st))=true)
  (ch:mtS lm G.fns G.nums cn (b50 st) N b (j10 st)=true) (hq:isQ b=true) (hlam:lm=true→∃ k fR fdR,G.lv=k + 2∧h82 P w K mg base G.cls fR fdR∧h92 K nm fd∧Low P w K mg base G k)
  (hF:∀ l z,F' false f l z=run G.F (.code ps.length N.length b) l z):Q40 P w K mg base (CX1 P w) (G.lv + 1) fa fd ps (spF K { G with F:=F',lv:=G.lv + 1 } f ps.length):=by
 refine D02 Fn Sc (fun vs H Q E h=>h.1) fun cdv hcd A outer s H vs Qv E hr hsp=>?_
 obtain ⟨hlen,zA,z,ss,r,rv,st',e,po⟩:=hsp
 refine ⟨_,(c42 (H0:=H) (zE:=zA) (c52 g Sc hl hr hcd hlam) b ch).1 hq,?_⟩
 have e0:(if ss.length=ps.length∧ps.length≤N.length then (match ex G.F z.isNone b (Q.start N.length (ss.map plS)) z with
  | some (.ok (.nx _) z1)=>some (R.ok (S.d .non) (S30 z z1))
  | some (.ok (.rt s) z1)=>some (R.ok s (S30 z z1))
  | some (.er c z1)=>some (R.er c (S30 z z1))
  | none=>none) else none)=some r:=by
  have:=hF ss z
  exact this.symm.trans e
 rw [n31 st'] at e0
 split at e0
 ·have rw0:RW K H zA zA (fun _=>none) H (Q.start N.length (ss.map plS)) (L2.start N vs):=A01 rv.plS fun s hs xs=>by
   obtain ⟨s',_,rfl⟩:=List.mem_map.mp hs
   cases s' <;> exact fun h=>nomatch h
  split at e0
  ·rename_i ρ z1 e1
   cases e0
   refine ⟨zA,_,_,z,_,rw0,st',e1,fun zA' ow' σ' H' r' st1 _=>?_⟩
   refine po .non H' r'.ext ?_ (show Hd K (hz zA H') .non .non from Hd.non)
   rw [← N31 st'];exact R41 r'.zok st1
  ·rename_i s1 z1 e1
   cases e0
   refine ⟨zA,_,_,z,_,rw0,st',e1,fun v H' nz x st1 rv'=>?_⟩
   exact po v H' x (by rw [← N31 st'];exact st1) rv'
  ·rename_i c z1 e1
   cases e0
   refine ⟨zA,_,_,z,_,rw0,st',e1,fun e H' x st1 hn=>?_⟩
   exact po e H' x (by rw [← N31 st'];exact st1) hn
  ·cases e0
 ·cases e0
noncomputable def lev (G:Gs) (T:List Df) (k:Nat):Gs:={ G with F:=S40 T k,lv:=k }
theorem c62 {T:List Df} (num:∀ p∈G.nums,∃ t,mg p.1=some (.int p.2 t)) (blt:∀ n∈L11,mg n=none)
  (cls:∀ c x,cn[c]?=some x→mg x=some (.ref (G.cls c))∧PySem.W.excIn K (G.cls c) [.type "ValueError",.type "Exception",.type "BaseException",.type "object"] "ValueError.__new__"=true)
  (hd:∀ (f:Nat) (nm:Str) (ps:List Str),G.fns[f]?=some (nm,ps)→∃ (fa:Addr) (fd:FuncData),mg nm=some (.ref fa)∧PySem.W.keepIn K (.ref fa)=true∧Binds K fd ps [] ∧
   ((∃ (lm:Bool) (N:List Str) (st:Stmt) (b:Sm),T[f]?=some (Df.code ps.length N.length b)∧Fun K nm nm st fa fd∧k70 N ps (b50 st)∧N.all (N80 (b50 st))=true∧isQ b=true∧mtS lm G.fns G.nums cn (b50 st) N b (j10 st)=true∧(lm=true→∃ fR fdR,h82 P w K mg base G.cls fR fdR∧h92 K nm fd)) ∨
    T[f]?=none)):∀ k,GX P w K mg base (lev G T k) cn:=by
 have zero:∀ k,k < 3→GX P w K mg base (lev G T k) cn:=fun k hk=>by
  refine ⟨fun f nm ps h=>?_,num,blt,cls⟩
  obtain ⟨fa,fd,h1,h2,h3,_⟩:=hd f nm ps h
  refine ⟨fa,fd,h1,h2,h3,fun vs H Q E q=>q.1,fun A outer s H args us vs Q E hr he hb hv hs=>?_⟩
  obtain ⟨_,zA,z,ss,r,_,_,e,_⟩:=hs
  match k,hk with
  | 0,_=>cases e
  | 1,_=>cases e
  | 2,_=>cases e
 intro k
 induction k using Nat.strongRecOn with
 | ind k ih =>
  match k,ih with
  | 0,_=>exact zero 0 (by decide)
  | 1,_=>exact zero 1 (by decide)
  | 2,_=>exact zero 2 (by decide)
  | k + 3,ih =>
   refine ⟨fun f nm ps h=>?_,num,blt,cls⟩
   obtain ⟨fa,fd,h1,h2,h3,h4⟩:=hd f nm ps h
   refine ⟨fa,fd,h1,h2,h3,?_⟩
   rcases h4 with ⟨lm,N,st,b,k1,k2,k3,k4,k5,k6,k7⟩ | h4
   ·refine n41 (G:=lev G T (k + 2)) (F':=S40 T (k + 3)) (ih (k + 2) (by omega)) k2 k3 k4 k6 k5 (fun hlm=>?_) fun l z=>?_
    ·obtain ⟨fR,fdR,L,D⟩:=k7 hlm
     exact ⟨k,fR,fdR,rfl,L,D,fun f nm ps h=>(ih k (by omega)).gok f nm ps h⟩
    ·show (match T[f]? with | some d=>run (S40 T (k + 2)) d l | none=>M.no) z=_
     rw [k1];rfl
   ·refine ⟨fun vs H Q E q=>q.1,fun A outer s H args us vs Q E hr he hb hv hs=>?_⟩
    obtain ⟨_,zA,z,ss,r,_,_,e,_⟩:=hs
    have e':(match T[f]? with | some d=>run (S40 T (k + 2)) d ss | none=>M.no) z=some r:=e
    rw [h4] at e'
    cases e'
end
end Q
namespace L2
open PySem PySem.W PySem.Calls PyProof.Rows
noncomputable def A40 (thr sok:Thread→Bool) (stp:SharedT→Thread→Option (SharedT × Thread)):Nat→SharedT→Thread→Option SharedT
 | 0,_,_=>none
 | n + 1,s,t=>match thr t with
  | true=>some s
  | false=>match sok t with
   | false=>none
   | true=>match stp s t with
    | some (s',t')=>A40 thr sok stp n s' t'
    | none=>none
theorem N90 {tb:String→Option Builtin}{p:Program}{w:World}{n₀:Nat}{ann:Option Value}:∀ {n:Nat}{s s':SharedT}{t:Thread},A40 through (stepOk n₀ ann) (stepT (denote tb) p w) n s t=some s'→topRun tb p w n₀ ann n s.abs t=some s'.abs
 | 0,_,_,_,h=>by cases h
 | n + 1,s,s',t,h=>by
  unfold A40 at h
  unfold topRun
  cases ht:through t with
  | true=>rw [ht] at h;cases h;rfl
  | false =>
   rw [ht] at h
   cases hok:stepOk n₀ ann t with
   | false=>rw [hok] at h;cases h
   | true =>
    rw [hok] at h
    cases hst:stepT (denote tb) p w s t with
    | none=>rw [hst] at h;cases h
    | some r=>obtain ⟨s₂,t₂⟩:=r;rw [hst] at h;rw [stepT_spec hst];exact N90 h
noncomputable def grow:List Obj→Nat→BT→BT
 | [],_,t=>t
 | o::r,i,t=>grow r (i + 1) (t.ins i o)
noncomputable def N41 (w:World) (os:OsState):SharedT:=⟨grow (boot_heap w.params).objs.toList 0 .nil,11,(boot_heap w.params).life,Array.mk [],boot_drawn,boot_toks,os⟩
theorem n51:∀ (w:World) (os:OsState),(N41 w os).abs=⟨boot_heap w.params,Array.mk [],boot_drawn,boot_toks,os⟩:=fun w os=>by kernel_rfl
theorem n61:∀ w:World,((boot_heap w.params).isNs mainGlobals&&(Array.mk []:Array GenState).size == 0,(boot_heap w.params).objs.size,(boot_heap w.params).nsMap mainGlobals "__annotations__")=(true,11,some (.ref 6)):=fun w=>by kernel_rfl
theorem N51 {p q:Program}{loose:List Str}{Xt:Shared→Bool}{α:Type}{Yf:Shared→α}{Ya:World→α}{N:Nat}
  (e:opening p=plainProg p.main.scope.names) (hN:Nat.ble 600 N=true) (f:∀ s,fenceModules? p s=some s)
  (run:∀ (w:World) (os:OsState),(A40 through (stepOk 11 (some (.ref 6))) (stepT (denote treeTable) p w) N (N41 w os) (topStub p)).map (fun s =>
   (staticsOk (importedModules p.main.body) (boot_heap w.params) s.abs.heap&&namesBound p s.abs.heap&&gensDone s.abs&&laidKept (boot_heap w.params) s.abs.heap,
    openSeen q loose (importedModules p.main.body) Xt true s.abs,Yf s.abs))=some (true,openGood q loose,Ya w)):LeftO p q loose Xt Yf Ya N:=fun w=>by
 obtain ⟨⟨h,gs,d,k,os⟩,e1,e2⟩:=Option.map_eq_some_iff.mp (boot_open (N:=N) e hN f w)
 obtain ⟨rfl,rfl,rfl,rfl⟩:h=boot_heap w.params∧gs=Array.mk []∧d=boot_drawn∧k=boot_toks:=by simpa using e2
 obtain ⟨z1,z2,z3⟩:_∧_∧_:=by simpa only [Prod.mk.injEq] using n61 w
 obtain ⟨s1,r1,r2⟩:=Option.map_eq_some_iff.mp (run w os)
 obtain ⟨l1,l2,l3⟩:_∧_∧_:=by simpa only [Prod.mk.injEq] using r2
 have r:=N90 r1
 rw [n51] at r
 unfold openEnds
 rw [e1]
 show Option.map _ (topFrom treeTable p w N _)=_
 unfold topFrom
 dsimp only
 rw [z1,z2,z3,r]
 show Option.map _ (match staticsOk (importedModules p.main.body) (boot_heap w.params) s1.abs.heap&&namesBound p s1.abs.heap&&gensDone s1.abs&&laidKept (boot_heap w.params) s1.abs.heap with | true=>_ | false=>_)=_
 rw [l1]
 exact congrArg Option.some (Prod.ext l2 l3)
end L2
namespace L2
open PySem PySem.W PySem.Calls PyProof.Rows
noncomputable def O00 (o:Obj):Bool:=match o with
 | ⟨.none,none,.fields vs,sl⟩=>vs.isEmpty&&sl.isEmpty
 | _=>false
noncomputable def q92 (h:Heap) (a:Addr):Option Obj:=match h.get? a with
 | some o=>if O00 o then none else some o
 | none=>none
noncomputable def fragOf (h:Heap):Frag:=(List.range h.objs.size).filterMap fun a=>(q92 h a).map fun o=>(a,o)
theorem s50 (g:Addr→Option Obj) (a:Addr):∀ l:List Addr,(l.filterMap fun a=>(g a).map fun o=>(a,o)).lookup a=if a∈l then g a else none
 | []=>rfl
 | b::r=>by
  by_cases hb:a=b
  ·subst hb
   rw [if_pos List.mem_cons_self]
   cases hg:g a with
   | none =>
    rw [List.filterMap_cons,hg]
    show (r.filterMap fun a=>(g a).map fun o=>(a,o)).lookup a=none
    rw [s50 g a r]
    split
    ·exact hg
    ·rfl
   | some o =>
    rw [List.filterMap_cons,hg]
    show List.lookup a ((a,o)::_)=some o
    rw [List.lookup_cons_self]
  ·have hm:(a∈b::r)↔a∈r:=by rw [List.mem_cons];exact ⟨fun h=>h.resolve_left hb,Or.inr⟩
   have ih:=s50 g a r
   have e:(if a∈b::r then g a else none)=if a∈r then g a else none:=by simp only [hm]
   rw [e,← ih]
   cases hg:g b with
   | none=>rw [List.filterMap_cons,hg];rfl
   | some o =>
    rw [List.filterMap_cons,hg]
    show List.lookup a ((b,o)::_)=_
    have:(a == b)=false:=by simpa using hb
    simp only [List.lookup,this]
theorem n71 (h:Heap):(fragOf h).In h:=fun a o e=>by
 unfold fragOf at e
 rw [s50] at e
 split at e
 ·unfold q92 at e
  cases hg:h.get? a with
  | none=>rw [hg] at e;cases e
  | some u =>
   rw [hg] at e
   dsimp only at e
   split at e
   ·cases e
   ·exact e
 ·cases e
theorem N61 {o:Obj} (h:O00 o=true):o=tabObj #[]:=by
 unfold O00 at h
 split at h
 ·rename_i vs sl
  rw [Bool.and_eq_true,Array.isEmpty_iff,Array.isEmpty_iff] at h
  obtain ⟨rfl,rfl⟩:=h
  rfl
 ·cases h
theorem d11 {h:Heap}{a:Addr}{o:Obj} (e:h.get? a=some o) (t:O00 o=true):(fragOf h).lookup a=none:=by
 unfold fragOf
 rw [s50]
 split
 ·unfold q92;rw [e];exact if_pos t
 ·rfl
noncomputable def n81 (K:Frag) (x:Str):Option (Str × Str × Arguments × FuncBody × Scope × Addr × List (Str × Addr) × Value × Addr × Bool):=match nsIn K mainGlobals x with
 | some (some (.ref at0))=>(match K.lookup at0 with
  | some ⟨_,_,.func fd,_⟩=>some (fd.name,fd.qualname,fd.params,fd.body,fd.scope,fd.globals,fd.closure,fd.defaults,fd.builtins,codeIn K fd.code x)
  | _=>none)
 | _=>none
noncomputable def N71 (x:Str) (st:Stmt):Option (Str × Str × Arguments × FuncBody × Scope × Addr × List (Str × Addr) × Value × Addr × Bool):=some (x,x,E90 st,.stmts (j10 st),b50 st,mainGlobals,[],.none,builtinsNs,true)
theorem T60 {K:Frag}{x:Str}{st:Stmt} (e:n81 K x=N71 x st):∃ f fd,nsIn K mainGlobals x=some (some (.ref f))∧Fun K x x st f fd∧∃ oc od sl,K.lookup f=some ⟨oc,od,.func fd,sl⟩:=by
 unfold n81 N71 at e
 split at e
 ·rename_i f hf
  split at e
  ·rename_i oc od fd sl hl
   obtain ⟨nm,qn,pm,bd,sc,gl,cl,df,kd,dc,py,an,cd,ct,bl⟩:=fd
   simp only [Prod.mk.injEq,Option.some.injEq] at e
   obtain ⟨rfl,rfl,rfl,rfl,rfl,rfl,rfl,rfl,rfl,hc⟩:=e
   exact ⟨f,_,hf,⟨⟨oc,od,kd,dc,py,an,cd,ct,sl,rfl,hl,hc⟩,by simp only [keepIn,hl]⟩,oc,od,sl,hl⟩
  ·cases e
 ·cases e
noncomputable def tab0At (h:Heap) (T:Addr):Bool:=match h.get? T with
 | some o=>O00 o
 | none=>false
theorem n91 {h:Heap}{T:Addr} (e:tab0At h T=true):h.get? T=some (tabObj #[]):=by
 unfold tab0At at e
 split at e
 ·rename_i o ho
  rw [ho,N61 e]
 ·cases e
noncomputable def o01 (h:Heap) (K:Frag) (x:Str):Option Addr:=match nsIn K mainGlobals x with
 | some (some (.ref at0))=>(match K.lookup at0 with
  | some ⟨_,_,.func fn0,_⟩=>(match fn0.code with
   | .ref c=>(match K.lookup c with
    | some ⟨_,_,.fields vs,_⟩=>(match (vs[11]?:Option Value) with
     | some (.ref T)=>if codeHdIn K c T&&tab0At h T then some T else none
     | _=>none)
    | _=>none)
   | _=>none)
  | _=>none)
 | _=>none
theorem d21 {h:Heap}{K:Frag}{x:Str}{T:Addr} (e:o01 h K x=some T):h.get? T=some (tabObj #[])∧∃ f oc od fd sl c,nsIn K mainGlobals x=some (some (.ref f))∧K.lookup f=some ⟨oc,od,.func fd,sl⟩∧fd.code=.ref c∧codeHdIn K c T=true:=by
 unfold o01 at e
 split at e
 ·rename_i f hf
  split at e
  ·rename_i oc od fd sl hl
   split at e
   ·rename_i c hc
    split at e
    ·split at e
     ·rename_i T' _
      split at e
      ·rename_i q
       cases e
       rw [Bool.and_eq_true] at q
       obtain ⟨q1,q2⟩:=q
       exact ⟨n91 q2,f,oc,od,fd,sl,c,hf,hl,hc,q1⟩
      ·cases e
     ·cases e
    ·cases e
   ·cases e
  ·cases e
 ·cases e
noncomputable def i00:List Str:=["NoWeb","NoLot","NoPlaces","NoPlace","NoTie","NoChance","NoChances","NoPaper","TooMany","NoText","NoLine","NoDeed"]
noncomputable def O10 (K:Frag) (x:Str):Option Addr:=match nsIn K mainGlobals x with
 | some (some (.ref f))=>some f
 | _=>none
theorem H90 {K:Frag}{x:Str}{f:Addr} (e:O10 K x=some f):nsIn K mainGlobals x=some (some (.ref f)):=by
 unfold O10 at e
 split at e
 ·cases e;assumption
 ·cases e
noncomputable abbrev w92:=Option (Option Value) × Option (Option Value) × Option Bool × Option Bool × Option (Option Value) × Bool × Option Bool × Option Bool × Bool × List (Option Bool)
noncomputable def T70 (K:Frag) (C:Addr):w92:=(findIn K (.ref C) "__getattribute__",findIn K (.ref C) "__getattr__",mroIn K C (.type "BaseException"),mroIn K C (.type "object"),findIn K (.ref C) "__class__",hasDictIn K C,kitOne K (.ref C) (.type "ValueError"),
 (O10 K "ChanceError").bind fun D=>exmOne K (.ref C) (.ref D),excIn K C [.type "ValueError",.type "Exception",.type "BaseException",.type "object"] "ValueError.__new__",i00.map fun y=>(O10 K y).bind fun B=>kitOne K (.ref C) (.ref B))
noncomputable def o11 (x:Str):w92:=(some (some (Value.builtin "BaseException.__getattribute__")),some (none:Option Value),some true,some true,some (some (Value.builtin "object.__class__")),true,some true,some true,true,i00.map fun y=>some (decide (x=y)))
noncomputable def T80 (K:Frag) (x:Str):Option Int:=match nsIn K mainGlobals x with
 | some (some (.int i _))=>some i
 | _=>none
theorem T90 {K:Frag}{x:Str}{i:Int} (e:T80 K x=some i):∃ t,nsIn K mainGlobals x=some (some (.int i t)):=by
 unfold T80 at e
 split at e
 ·rename_i t h;cases e;exact ⟨t,h⟩
 ·cases e
noncomputable def U00 (K:Frag) (x:Str):Bool:=match nsIn K mainGlobals x with
 | some none=>true
 | _=>false
theorem U10 {K:Frag}{x:Str} (e:U00 K x=true):nsIn K mainGlobals x=some none:=by
 unfold U00 at e
 split at e
 ·assumption
 ·cases e
structure n60 where
 ds:List (Str × Stmt)
 is:List (Str × Int)
 ns:List Str
 ms:List Str
 cs:List Str
noncomputable def n60.obs (q:n60) (s:Shared) :=
 let K:=fragOf s.heap
 (q.ds.map fun d=>n81 K d.1,q.is.map fun d=>T80 K d.1,q.ns.map (U00 K),q.ms.map fun x=>(o01 s.heap K x).isSome,q.cs.map fun x=>(O10 K x).map (T70 K),
  (specialIn K (.builtin "object.__class__") "__get__",takesIn K (.builtin "object.__class__")))
noncomputable def n60.due (q:n60) (_:World) :=
 (q.ds.map fun d=>N71 d.1 d.2,q.is.map fun d=>some d.2,q.ns.map fun _=>true,q.ms.map fun _=>true,q.cs.map fun x=>some (o11 x),
  (some (some (Value.builtin "getset_descriptor.__get__")),some true))
structure Facts (q:n60) (K:Frag) (h:Heap):Prop where
 fn:∀ d∈q.ds,∃ f fd,nsIn K mainGlobals d.1=some (some (.ref f))∧Fun K d.1 d.1 d.2 f fd∧∃ oc od sl,K.lookup f=some ⟨oc,od,.func fd,sl⟩
 it:∀ d∈q.is,∃ t,nsIn K mainGlobals d.1=some (some (.int d.2 t))
 no:∀ x∈q.ns,nsIn K mainGlobals x=some none
 mt:∀ x∈q.ms,∃ T,h.get? T=some (tabObj #[])∧K.lookup T=none∧∃ f oc od fd sl c,nsIn K mainGlobals x=some (some (.ref f))∧K.lookup f=some ⟨oc,od,.func fd,sl⟩∧fd.code=.ref c∧codeHdIn K c T=true
 cl:∀ x∈q.cs,∃ C,nsIn K mainGlobals x=some (some (.ref C))∧T70 K C=o11 x
 sp:specialIn K (.builtin "object.__class__") "__get__"=some (some (Value.builtin "getset_descriptor.__get__"))
 tk:takesIn K (.builtin "object.__class__")=some true
theorem D40 {α β:Type}{f g:α→β}:∀ {l:List α},l.map f=l.map g→∀ a∈l,f a=g a:=fun {l} h a ha=>List.map_inj_left.mp h a ha
theorem n60.facts (q:n60) (w:World) (s:Shared) (e:q.obs s=q.due w):Facts q (fragOf s.heap) s.heap:=by
 unfold n60.obs n60.due at e
 simp only [Prod.mk.injEq] at e
 obtain ⟨e1,e2,e3,e4,e5,e6,e7⟩:=e
 refine ⟨fun d hd=>T60 (D40 e1 d hd),fun d hd=>T90 (D40 e2 d hd),fun x hx=>U10 (D40 e3 x hx),fun x hx=>?_,fun x hx=>?_,e6,e7⟩
 ·obtain ⟨T,hT⟩:=Option.isSome_iff_exists.mp (D40 e4 x hx)
  obtain ⟨h1,h2⟩:=d21 hT
  exact ⟨T,h1,d11 h1 rfl,h2⟩
 ·obtain ⟨C,h1,h2⟩:=Option.map_eq_some_iff.mp (D40 e5 x hx)
  exact ⟨C,H90 h1,h2⟩
noncomputable def n60.hook (q:n60):Hook where
 α:=_
 obs:=q.obs
 val:=q.due
 says:=fun _ h=>∃ K:Frag,K.In h∧Facts q K h
 of:=fun w s e=>⟨_,n71 _,q.facts w s e⟩
 keeps:=fun _ h h' ⟨K,X,F⟩ k=>⟨K,X.keeps k,⟨F.fn,F.it,F.no,fun x hx=>let ⟨T,a,b⟩:=F.mt x hx;⟨T,k _ _ a,b⟩,F.cl,F.sp,F.tk⟩⟩
end L2
namespace L2
open PySem PySem.W PySem.Calls PyProof.Rows
end L2
namespace Q
open PySem L2 PySem.Spec PyProof.Rows
structure Row where
 nm:Str
 ps:List Str
 st:Stmt
 N:List Str
 b:Sm
 lm:Bool
noncomputable def o21 (N ps:List Str) (sc:Scope):Bool:=sc.kind == .function&&!sc.isCoroutine&&!sc.isGenerator&&decide N.Nodup&&N.take ps.length == ps&&ps.all (fun x=>sc.names.lookup x == some .local || sc.names.lookup x == some .cell)&&sc.names.all fun y=>y.2 != .free
theorem Y70 {N ps:List Str}{sc:Scope} (h:o21 N ps sc=true):k70 N ps sc:=by
 unfold o21 at h
 simp only [Bool.and_eq_true,Bool.not_eq_true',beq_iff_eq,List.all_eq_true,decide_eq_true_eq,Bool.or_eq_true] at h
 obtain ⟨⟨⟨⟨⟨⟨h1,h2⟩,h3⟩,h4⟩,h5⟩,h6⟩,h7⟩:=h
 exact ⟨h1,h2,h3,h4,h5,h6,fun y hy=>by simpa using h7 y hy⟩
noncomputable def o31 (r:Row):Prop:=∀ (kV doc pm:Value) (an:Option Addr) (cdv ct:Value) (us:List Value),us.length=r.ps.length→bindArgs (PySem.W.fnOf r.nm r.nm (E90 r.st) (j10 r.st) (b50 r.st) .none kV doc pm an cdv ct) ⟨us,[]⟩=pure (r.ps.zip us)
noncomputable def o20:List Row→Prop
 | []=>True
 | r::l=>o31 r∧o20 l
theorem o20.at:∀ {l:List Row}{r:Row},o20 l→r∈l→o31 r
 | _::_,_,h,.head _=>h.1
 | _::_,_,h,.tail _ m=>o20.at h.2 m
theorem us1 {us:List Value} (h:us.length=1):∃ a,us=[a]:=List.length_eq_one_iff.mp h
theorem us2 {us:List Value} (h:us.length=2):∃ a b,us=[a,b]:=by
 match us,h with
 | [a,b],_=>exact ⟨a,b,rfl⟩
theorem us3 {us:List Value} (h:us.length=3):∃ a b c,us=[a,b,c]:=by
 match us,h with
 | [a,b,c],_=>exact ⟨a,b,c,rfl⟩
theorem us4 {us:List Value} (h:us.length=4):∃ a b c d,us=[a,b,c,d]:=by
 match us,h with
 | [a,b,c,d],_=>exact ⟨a,b,c,d,rfl⟩
noncomputable def R51 (fns:List (Str × List Str)) (nums:List (Str × Int)) (r:Row):Bool:=mtS r.lm fns nums i00 (b50 r.st) r.N r.b (j10 r.st)&&isQ r.b&&r.N.all (N80 (b50 r.st))&&o21 r.N r.ps (b50 r.st)
noncomputable def B80 (rows:List Row):List (Str × List Str):=rows.map fun r=>(r.nm,r.ps)
noncomputable def tabOf (rows:List Row):List Df:=rows.map fun r=>Df.code r.ps.length r.N.length r.b
noncomputable def D50 (rows:List Row) (nums:List (Str × Int)) (mn:List Str) (ex:List (Str × Stmt)):n60:=⟨rows.map (fun r=>(r.nm,r.st))++ex,nums,"ValueError"::L11,mn,i00⟩
noncomputable def clsAt (K:PySem.W.Frag) (c:Nat):Addr:=(O10 K (i00.getD c "")).getD 0
theorem c72 {K:PySem.W.Frag}{C:Addr}{c:Nat}{x:Str} (hc:i00[c]?=some x) (h:PySem.W.nsIn K mainGlobals x=some (some (.ref C))):clsAt K c=C:=by
 unfold clsAt
 rw [List.getD_eq_getElem?_getD,hc]
 show (O10 K x).getD 0=C
 unfold O10
 rw [h];rfl
theorem c82 {K:PySem.W.Frag}{h:Heap}{mg:Str→Option Value}{q:n60}{x:Str}{j:Nat} (X:K.In h) (G:h.Ns mainGlobals mg) (F:Facts q K h) (hx:x∈q.cs) (hj:names12[j]?=some x) (hv:("ValueError":Str)∈q.ns):∃ C,PySem.W.nsIn K mainGlobals x=some (some (.ref C))∧M30 K mg C j∧PySem.W.excIn K C [.type "ValueError",.type "Exception",.type "BaseException",.type "object"] "ValueError.__new__"=true:=by
 obtain ⟨C,hC,e⟩:=F.cl x hx
 unfold T70 o11 at e
 simp only [Prod.mk.injEq] at e
 obtain ⟨u1,u2,u3,u4,u5,hd,ve,ce,ex,ys⟩:=e
 obtain ⟨D,hD,ce⟩:=Option.bind_eq_some_iff.mp ce
 have lt:j < 12:=(List.getElem?_eq_some_iff.mp hj).1
 refine ⟨C,hC,⟨fun i y hy=>?_,⟨u1,u2,u3,u4,u5,F.sp,F.tk⟩,hd,ve,PySem.W.mg_none_of X G (F.no _ hv),⟨D,PySem.W.mg_of X G (H90 hD),ce⟩,lt⟩,ex⟩
 have hm:=D40 ys y (List.mem_of_getElem? hy)
 obtain ⟨B,hB,hk⟩:=Option.bind_eq_some_iff.mp hm
 refine ⟨B,PySem.W.mg_of X G (H90 hB),hk.trans (congrArg some (decide_eq_decide.mpr ⟨fun q=>?_,fun q=>?_⟩))⟩
 ·subst q
  have nd:names12.Nodup:=by decide +kernel
  exact (List.getElem?_inj (List.getElem?_eq_some_iff.mp hy).1 nd).mp (hy.trans hj.symm)
 ·subst q
  rw [hj] at hy;cases hy;rfl
section
variable {P:Program}{w:World}{K:PySem.W.Frag}{mg:Str→Option Value}{base:Heap}
theorem ok0 {k:Nat}{f:Addr}{fd:FuncData}{ps:List Str}{sp:Sp} (F:Q40 P w K mg base (CX1 P w) k f fd ps sp):Q40 P w K mg base CX0 k f fd ps (fun vs H Q _=>sp vs H Q fun _ _ _=>False) :=
 ⟨fun vs H Q E h=>F.len _ _ _ _ h,fun A outer s H args us vs Q E hr he hb hv hs=>codeAny_mono (F.run A outer s H args us vs Q _ hr he hb hv hs) fun r s' h=>by
  cases r with
  | error e =>
   obtain ⟨_,_,_,_,_,_,_,_,_,_,_,_,_,hE⟩:=h
   exact hE.elim
  | ok fl=>cases fl <;> exact h⟩
theorem D12:TriplesOk (#[]:Array Value).toList:=by first | trivial | (unfold TriplesOk;trivial)
theorem r00.noT [TB:Tb] {H:Hp}{a:Addr}{xs:List V} (h:r00 K H a xs):r00 K (hz none H) a xs:=by
 rcases h with (h | ⟨o,h⟩) | h
 ·exact .inl (.inl (e00 h (fun q=>nomatch q)))
 ·exact .inl (.inr ⟨o,e00 h (fun q=>nomatch q)⟩)
 ·exact .inr h
theorem c92 [TB:Tb] {G:Gs}{T:List Df}{k f:Nat}{H:Hp}{a:Addr}{ns:List Int} (pure:a80 T k f [.d (.lst (ns.map D.int))] none=some (.ok (.d (.bl true)) none)) (hH:∀ p∈TB.tb,H p.1=some (.tbl #[])) (hS:r00 K H a (ns.map V.int)) :
  spF K (lev G T k) f 1 [.ref a] H (fun v _=>v=.bl true) fun _ _ _=>False:=by
 refine ⟨rfl,none,none,[.d (.lst (ns.map D.int))],_,.cons ?_ .nil,⟨trivial,fun p hp=>⟨#[],hH p hp,D12,fun pos c e=>nomatch e⟩⟩,pure,fun v H' x st rv=>Hd.bl_ (show Hd K (hz none H') (.bl true) v from rv)⟩
 show Hd K (hz none H) (.lst (ns.map D.int)) (.ref a)
 unfold Hd
 exact ⟨a,ns.map V.int,rfl,hS.noT,HdA.ints ns⟩
end
noncomputable def x02 (nm:Str):Str:=(envOfC nm ⟨.function,[],false,false,[]⟩ 0 0 .none).qual++"<lambda>"
theorem d02 {rows:List Row}{f:Nat}{nm:Str}{ps:List Str} (h:(B80 rows)[f]?=some (nm,ps)):∃ r∈rows,rows[f]?=some r∧r.nm=nm∧r.ps=ps:=by
 unfold B80 at h
 rw [List.getElem?_map] at h
 obtain ⟨r,h1,h2⟩:=Option.map_eq_some_iff.mp h
 cases h2
 exact ⟨r,List.mem_of_getElem? h1,h1,rfl,rfl⟩
section
variable [TB:Tb] {P:Program}{w:World}{K:PySem.W.Frag}{h:Heap}{mg:Str→Option Value}{base:Heap}{rows:List Row}{nums:List (Str × Int)}{mn:List Str}{ex:List (Str × Stmt)}
noncomputable def d12 (rows:List Row) (mn:List Str) (ex:List (Str × Stmt)):Prop:=∀ r∈rows,r.lm=true→r.nm∈mn∧∃ (sR:Stmt) (n:Nat),(("_law_refused":Str),sR)∈ex∧b50 sR=r80∧j10 sR=R90 n∧o31 ⟨"_law_refused",["_law_call"],sR,[],.nil,false⟩
noncomputable def r02 [TB:Tb] (K:PySem.W.Frag) (rows:List Row):Prop:=∀ r∈rows,r.lm=true→∀ fd,(∃ f oc od sl,PySem.W.nsIn K mainGlobals r.nm=some (some (.ref f))∧K.lookup f=some ⟨oc,od,.func fd,sl⟩)→h92 K r.nm fd
theorem o41 (X:K.In h) (Gn:h.Ns mainGlobals mg) (Q:Facts (D50 rows nums mn ex) K h):∀ c x,i00[c]?=some x→PySem.W.nsIn K mainGlobals x=some (some (.ref (clsAt K c)))∧M30 K mg (clsAt K c) c∧PySem.W.excIn K (clsAt K c) [.type "ValueError",.type "Exception",.type "BaseException",.type "object"] "ValueError.__new__"=true:=fun c x hc=>by
 obtain ⟨C,h1,h2,h3⟩:=c82 (x:=x) (j:=c) X Gn Q (List.mem_of_getElem? hc) hc List.mem_cons_self
 rw [c72 hc h1]
 exact ⟨h1,h2,h3⟩
theorem o51 (X:K.In h) (Gn:h.Ns mainGlobals mg) (Q:Facts (D50 rows nums mn ex) K h) (bm:BMain mg base) (hR:d12 rows mn ex) {r:Row} (hr:r∈rows) (hlm:r.lm=true):∃ fR fdR,h82 P w K mg base (clsAt K) fR fdR:=by
 obtain ⟨hmn,sR,n,g1,g2,g3,g4⟩:=hR r hr hlm
 obtain ⟨fR,fdR,a2,F2,oc2,od2,sl2,lk2⟩:=Q.fn ("_law_refused",sR) (List.mem_append_right _ g1)
 refine ⟨fR,fdR,bm,fun j hj=>?_,PySem.W.mg_of X Gn a2,F2.kp,F2.binds g4,fun k=>W91 F2 g2 g3 (PySem.W.mg_none_of X Gn (Q.no _ (List.mem_cons_of_mem _ (by decide)))) (PySem.W.mg_none_of X Gn (Q.no _ (List.mem_cons_of_mem _ (by decide))))⟩
 have hx:∃ x,i00[j]?=some x:=⟨_,List.getElem?_eq_getElem (by exact hj)⟩
 obtain ⟨x,hx⟩:=hx
 exact (o41 X Gn Q j x hx).2.1
theorem N81 (X:K.In h) (Gn:h.Ns mainGlobals mg) (Q:Facts (D50 rows nums mn ex) K h) (ok:rows.all (R51 (B80 rows) nums)=true) (bd:o20 rows) (bm:BMain mg base) (hR:d12 rows mn ex) (hT:r02 K rows) (F0:FT):∀ k,GX P w K mg base (lev ⟨B80 rows,nums,F0,clsAt K,0⟩ (tabOf rows) k) i00:=by
 refine c62 (fun p hp=>?_) (fun n hn=>?_) (fun c x hc=>?_) fun f nm ps hf=>?_
 ·obtain ⟨t,e⟩:=Q.it p hp
  exact ⟨t,PySem.W.mg_of X Gn e⟩
 ·exact PySem.W.mg_none_of X Gn (Q.no n (List.mem_cons_of_mem _ hn))
 ·obtain ⟨h1,_,h3⟩:=o41 X Gn Q c x hc
  exact ⟨PySem.W.mg_of X Gn h1,h3⟩
 ·obtain ⟨r,hr,hr2,rfl,rfl⟩:=d02 hf
  obtain ⟨fa,fd,a1,F1,oc,od,sl,lk⟩:=Q.fn (r.nm,r.st) (List.mem_append_left _ (List.mem_map.mpr ⟨r,hr,rfl⟩))
  have rb:=List.all_eq_true.mp ok r hr
  unfold R51 at rb
  simp only [Bool.and_eq_true] at rb
  obtain ⟨⟨⟨b1,b2⟩,b3⟩,b4⟩:=rb
  refine ⟨fa,fd,PySem.W.mg_of X Gn a1,F1.kp,F1.binds (bd.at hr),.inl ⟨r.lm,r.N,r.st,r.b,?_,F1,Y70 b4,b3,b2,b1,fun hlm=>?_⟩⟩
  ·unfold tabOf
   rw [List.getElem?_map,hr2];rfl
  ·obtain ⟨fR,fdR,L⟩:=o51 (P:=P) (w:=w) X Gn Q bm hR hr hlm
   exact ⟨fR,fdR,L,hT r hr hlm fd ⟨fa,oc,od,sl,a1,lk⟩⟩
theorem d22 (X:K.In h) (Gn:h.Ns mainGlobals mg) (Q:Facts (D50 rows nums mn ex) K h) (ok:rows.all (R51 (B80 rows) nums)=true) (bd:o20 rows) (bm:BMain mg base) (hR:d12 rows mn ex) (hT:r02 K rows) (F0:FT) (k:Nat) {i:Nat}{r:Row} (hi:rows[i]?=some r) {fa:Addr}{fd:FuncData} (F1:Fun K r.nm r.nm r.st fa fd)
  (hfd:∃ f oc od sl,PySem.W.nsIn K mainGlobals r.nm=some (some (.ref f))∧K.lookup f=some ⟨oc,od,.func fd,sl⟩):Q40 P w K mg base (CX1 P w) (k + 3) fa fd r.ps (spF K (lev ⟨B80 rows,nums,F0,clsAt K,0⟩ (tabOf rows) (k + 3)) i r.ps.length):=by
 have hr:=List.mem_of_getElem? hi
 have rb:=List.all_eq_true.mp ok r hr
 unfold R51 at rb
 simp only [Bool.and_eq_true] at rb
 obtain ⟨⟨⟨b1,b2⟩,b3⟩,b4⟩:=rb
 have all:=N81 (P:=P) (w:=w) X Gn Q ok bd bm hR hT F0
 refine n41 (G:=lev ⟨B80 rows,nums,F0,clsAt K,0⟩ (tabOf rows) (k + 2)) (F':=S40 (tabOf rows) (k + 3)) (all (k + 2)) F1 (Y70 b4) b3 b1 b2 (fun hlm=>?_) fun l z=>?_
 ·obtain ⟨fR,fdR,L⟩:=o51 (P:=P) (w:=w) X Gn Q bm hR hr hlm
  exact ⟨k,fR,fdR,rfl,L,hT r hr hlm fd hfd,fun f nm ps h=>(all k).gok f nm ps h⟩
 ·show (match (tabOf rows)[i]? with | some d=>run (S40 (tabOf rows) (k + 2)) d l | none=>M.no) z=_
  unfold tabOf
  rw [List.getElem?_map,hi];rfl
end
end Q
namespace Q
open PySem L2 PySem.Spec PyProof.Rows
theorem o61 {P:Program}{w:World}{K:PySem.W.Frag}{mg mb:Str→Option Value}{k:Nat}{fa a:Addr}{fd:FuncData}{x:Str}{sp:Sp}{s₁:Shared}{vs:List Value}{ns:List Int}{ts:List Addr}
  (KX:K.In s₁.heap) (hns:s₁.heap.Ns mainGlobals mg) (hb:s₁.heap.Ns builtinsNs mb) (hbb:∀ x:Str,x≠"__name__"→mb x=bootBuiltins x) (hlim:s₁.heap.NoLimit) (hg:s₁.gens=#[])
  (ha:s₁.heap.get? a=some { cls:=.type "list",data:=.seq vs.toArray }) (hi:IntsAre vs ns) (hl:ns.length≤sizeLine) (hr:w00 k callerA)
  (hT:∀ Pt∈ts,s₁.heap.get? Pt=some (PySem.W.tabObj #[])∧K.lookup Pt=none∧∃ c,PySem.W.codeHdIn K c Pt=true) (bmn:BMain mg s₁.heap)
  (F:∀ base:Heap,K.In base→base.Ns mainGlobals mg→BMain mg base→Q40 P w K mg base CX0 k fa fd [x] sp) (hbind:∀ (s:Shared) (u:Value),BindsTo s fd ⟨[u],[]⟩ [(x,u)])
  (hsp:∀ H:Hp,(∀ Pt∈ts,H Pt=some (.tbl #[]))→r00 K H a (ns.map V.int)→sp [.ref a] H (fun v _=>v=.bl true) fun _ _ _=>False) :
  codeAny (model P w) callerA (.call (.ref fa) ⟨[.ref a],[]⟩) (fun r s'=>r=.ok (.ret (.bool true))∧OldK s₁.heap s'.heap∧s'.os=s₁.os∧AllBare s'.gens) s₁:=by
 have rv:=L40 hi
 have lenV:=hi.length
 have naT:a ∉ ts:=fun h=>by have:=(hT a h).1;rw [ha] at this;cases this
 have core:∀ H:Hp,(∀ Pt∈ts,H Pt=some (.tbl #[]))→(∀ b,H b=none∨b∈ts∨(b=a∧∃ xs,H b=some (.frz { cls:=.type "list",data:=.seq vs.toArray } (.lst xs))))→r00 K H a (ns.map V.int)→HOk P w H s₁.heap→(H a≠none→K.lookup a=none) →
   codeAny (model P w) callerA (.call (.ref fa) ⟨[.ref a],[]⟩) (fun r s'=>r=.ok (.ret (.bool true))∧OldK s₁.heap s'.heap∧s'.os=s₁.os∧AllBare s'.gens) s₁:=by
  intro H hH hO hS hok hK
  have plainN:∀ {b:Addr}{o:Obj},s₁.heap.get? b=some o→(∀ xs n,o.data≠.seq xs n)→(∀ xs,o.data≠.fields xs)→H b=none:=fun {b o} e d1 d2=>by
   rcases hO b with z | z | ⟨z,_⟩
   ·exact z
   ·have:=(hT b z).1
    rw [e] at this;cases this
    exact absurd rfl (d2 _)
   ·rw [z,ha] at e;cases e
    exact absurd rfl (d1 _ _)
  have nsK:∀ {b:Addr}{m:Str→Option Value},s₁.heap.Ns b m→(t41 s₁.heap H).Ns b m:=fun {b m} ⟨o,es,ep,e,d,r⟩=>⟨o,es,ep,E30 e (plainN e (fun xs n z=>by rw [d] at z;cases z) fun xs z=>by rw [d] at z;cases z),d,r⟩
  have hKb:K.In (t41 s₁.heap H):=fun b o e=>E30 (KX b o e) (by
   rcases hO b with z | z | ⟨z,xs,z2⟩
   ·exact z
   ·rw [(hT b z).2.1] at e;cases e
   ·rw [z] at e z2
    rw [hK (by rw [z2];exact fun y=>nomatch y)] at e;cases e)
  have hM:Mod K mg (t41 s₁.heap H):=⟨hKb,nsK hns,⟨mb,nsK hb,hbb⟩,let ⟨mc,h1,h2⟩:=hlim;⟨mc,nsK h1,h2⟩⟩
  have hBM:BMain mg (t41 s₁.heap H):=by
   obtain ⟨bm,ob,b1,b2,b3,b4,b5,b6⟩:=bmn
   exact ⟨bm,ob,b1,b2,E30 b3 (plainN b3 (fun xs n z=>by rw [b6] at z;cases z) fun xs z=>by rw [b6] at z;cases z),b4,b5,b6⟩
  have e0:C31 P w K mg (t41 s₁.heap H) callerA [] s₁ H:=⟨rfl,hM,fun b o e=>F41 e,Nat.le_of_eq (e41 _ _),trivial,fun b hb=>absurd (show b∈([]:List Addr) from hb) (by simp),hok,.of_eq hg⟩
  refine codeAny_mono ((F _ hKb (nsK hns) hBM).run callerA [] s₁ H ⟨[.ref a],[]⟩ [.ref a] [.ref a] _ _ hr e0 (hbind s₁ (.ref a)) (.cons rfl .nil) (hsp H hH hS)) fun r s' h=>?_
  cases r with
  | error e=>exact False.elim h
  | ok fl =>
   cases fl with
   | next=>exact False.elim h
   | brk=>exact False.elim h
   | cont=>exact False.elim h
   | ret u =>
    obtain ⟨v,H',os,bare,un,hok',r',q⟩:=h
    have q':v=.bl true:=q
    subst q'
    obtain rfl:u=Value.bool true:=r'
    refine ⟨rfl,⟨fun b o e=>?_,fun b o e=>un.there b o e (by simp)⟩,os,bare⟩
    rcases hO b with z | z | ⟨z,xs,z2⟩
    ·exact .inl (un.keep b o e z (by intro y;exact absurd (show b∈([]:List Addr) from y) (by simp)) (by simp))
    ·obtain ⟨t1,_,c,t2⟩:=hT b z
     rw [e] at t1;cases t1
     obtain ⟨more,m1⟩:=un.tbls b _ (hH b z)
     have m2:s'.heap.get? b=some { cls:=.none,data:=.fields (#[]++more) }:=hok' b _ m1
     have CH:=PySem.W.codeHd_of_K KX t2
     exact .inr (.inl ⟨(CH.tab e).isCodeTable,rfl,#[],more,rfl,m2⟩)
    ·have z3:=un.frzs b _ _ z2
     obtain ⟨e1,_⟩:=hok b _ z2
     obtain ⟨e2,_⟩:=hok' b _ z3
     rw [e] at e1;cases e1
     exact .inl e2
 cases hk:K.lookup a with
 | some o =>
  have e:=KX a o hk
  rw [ha] at e
  cases e
  refine core (fun b=>if b∈ts then some (.tbl #[]) else none) (fun Pt h=>if_pos h) (fun b=>?_) (.inr ⟨vs.toArray,_,hk,by rw [List.size_toArray,lenV];exact hl,by simpa using rv⟩) (fun b u z=>?_) fun z=>absurd (if_neg naT) z
  ·by_cases h:b∈ts
   ·exact .inr (.inl h)
   ·exact .inl (if_neg h)
  ·by_cases h:b∈ts
   ·have z':=(if_pos h).symm.trans z
    cases z'
    exact (hT b h).1
   ·have z':=(if_neg h).symm.trans z
    cases z'
 | none =>
  refine core (fun b=>if b=a then some (.frz { cls:=.type "list",data:=.seq vs.toArray } (.lst (ns.map V.int))) else if b∈ts then some (.tbl #[]) else none) (fun Pt h=>?_) (fun b=>?_) (.inl (.inr ⟨{ cls:=.type "list",data:=.seq vs.toArray },if_pos rfl⟩)) (fun b u z=>?_) fun _=>hk
  ·rw [if_neg (fun y=>naT (by rw [← y];exact h)),if_pos h]
  ·by_cases hb:b=a
   ·exact .inr (.inr ⟨hb,_,if_pos hb⟩)
   ·by_cases h:b∈ts
    ·exact .inr (.inl h)
    ·exact .inl (by rw [if_neg hb,if_neg h])
  ·by_cases hb:b=a
   ·have z':=(if_pos hb).symm.trans z
    cases z'
    subst hb
    exact ⟨ha,by rw [List.length_map];exact hl,vs,_,rv,ha⟩
   ·replace z:=(if_neg hb).symm.trans z
    by_cases h:b∈ts
    ·have z':=(if_pos h).symm.trans z
     cases z'
     exact (hT b h).1
    ·have z':=(if_neg h).symm.trans z
     cases z'
theorem A11 {l:PySem.W.OpenLaw}{n k:Nat}{q:Program}{loose:List Str}{XP:(Str→Option Value)→Heap→Prop}{d:DefRec}{A:n60}{x:Str}
  (hn:l.most=some n) (hn2:n≤sizeLine) (hdf:d.params.defaults=[]) (hr:w00 k callerA)
  (F:∀ (w:World) (mg:Str→Option Value) (fa:Addr) (h:Heap) (K:PySem.W.Frag),Facts A K h→K.In h→h.Ns mainGlobals mg→mg d.name=some (.ref fa) →
   ∃ (fd:FuncData) (ts:List Addr) (sp:Sp),(∀ Pt∈ts,h.get? Pt=some (PySem.W.tabObj #[])∧K.lookup Pt=none∧∃ c,PySem.W.codeHdIn K c Pt=true)∧(∀ (s:Shared) (u:Value),BindsTo s fd ⟨[u],[]⟩ [(x,u)]) ∧
    (∀ base:Heap,K.In base→base.Ns mainGlobals mg→BMain mg base→Q40 l.prog w K mg base CX0 k fa fd [x] sp) ∧
    ∀ (H:Hp) (a:Addr) (ns:List Int),ns.length≤n→(∀ Pt∈ts,H Pt=some (.tbl #[]))→r00 K H a (ns.map V.int)→sp [.ref a] H (fun v _=>v=.bl true) fun _ _ _=>False) :
  PySem.W.WalkO q loose XP A.hook.says l.row.toRowW d [] (fun f vs=>PySem.call f vs):=by
 refine Att.R30 hn hdf fun w s₀ s₁ mg mb fa o pm cd doc a vs ns G Y ho hd hcd hmg hobj hints hlen hg=>?_
 obtain ⟨K,KX,FX⟩:=Y
 obtain ⟨fd,ts,sp,hT,hb,hF,hsp⟩:=F w mg fa _ K FX KX G.T.g hmg
 exact o61 KX G.T.g G.T.b G.T.builtins G.T.nolimit hg hobj hints (Nat.le_trans hlen hn2) hr hT G.T.bmain hF hb fun H hH hS=>hsp H a ns hlen hH hS
theorem N91 {l:PySem.W.OpenLaw}{rows:List Row}{nums:List (Str × Int)}{mn:List Str}{ex:List (Str × Stmt)}{k iL n:Nat}{rL:Row} (ok:rows.all (R51 (B80 rows) nums)=true) (bd:o20 rows) (hL:rows[iL]?=some rL) (hn:rL.nm="law") (hp:rL.ps=[("_law_script":Str)]) (hmn:mn.length≤1) (hR:d12 rows mn ex)
  (pure:∀ ns:List Int,ns.length≤n→a80 (tabOf rows) (k + 3) iL [.d (.lst (ns.map D.int))] none=some (.ok (.d (.bl true)) none)) (w:World) (mg:Str→Option Value) (fa:Addr) (h:Heap) (K:PySem.W.Frag) (Q:Facts (D50 rows nums mn ex) K h) (X:K.In h) (Gn:h.Ns mainGlobals mg) (hfa:mg "law"=some (.ref fa)) :
   ∃ (fd:FuncData) (ts:List Addr) (sp:Sp),(∀ Pt∈ts,h.get? Pt=some (PySem.W.tabObj #[])∧K.lookup Pt=none∧∃ c,PySem.W.codeHdIn K c Pt=true)∧(∀ (s:Shared) (u:Value),BindsTo s fd ⟨[u],[]⟩ [("_law_script",u)]) ∧
    (∀ base:Heap,K.In base→base.Ns mainGlobals mg→BMain mg base→Q40 l.prog w K mg base CX0 (k + 3) fa fd ["_law_script"] sp) ∧
    ∀ (H:Hp) (a:Addr) (ns:List Int),ns.length≤n→(∀ Pt∈ts,H Pt=some (.tbl #[]))→r00 K H a (ns.map V.int)→sp [.ref a] H (fun v _=>v=.bl true) fun _ _ _=>False:=by
 have hrL:rL∈rows:=List.mem_of_getElem? hL
 obtain ⟨fL,fdL,aL,FL,ocL,odL,slL,lkL⟩:=Q.fn (rL.nm,rL.st) (List.mem_append_left _ (List.mem_map.mpr ⟨rL,hrL,rfl⟩))
 have bL:=bd.at hrL
 have e:=hfa.symm.trans (PySem.W.mg_of X Gn (by rw [← hn];exact aL))
 cases e
 have bT:∀ (s:Shared) (u:Value),BindsTo s fdL ⟨[u],[]⟩ [("_law_script",u)]:=by
  obtain ⟨_,_,kV,doc,pm,an,cdv,ct,_,e,_,_⟩:=FL.ex
  subst e
  intro s u
  have:=bL kV doc pm an cdv ct [u] (by rw [hp];rfl)
  rw [hp] at this
  exact .of_eq this
 have fin:∀ (TB:Tb) (ts:List Addr),(∀ p∈TB.tb,p.1∈ts)→(∀ Pt∈ts,h.get? Pt=some (PySem.W.tabObj #[])∧K.lookup Pt=none∧∃ c,PySem.W.codeHdIn K c Pt=true)→r02 K rows →
   ∃ (fd:FuncData) (ts:List Addr) (sp:Sp),(∀ Pt∈ts,h.get? Pt=some (PySem.W.tabObj #[])∧K.lookup Pt=none∧∃ c,PySem.W.codeHdIn K c Pt=true)∧(∀ (s:Shared) (u:Value),BindsTo s fd ⟨[u],[]⟩ [("_law_script",u)]) ∧
    (∀ base:Heap,K.In base→base.Ns mainGlobals mg→BMain mg base→Q40 l.prog w K mg base CX0 (k + 3) fa fd ["_law_script"] sp) ∧
    ∀ (H:Hp) (a:Addr) (ns:List Int),ns.length≤n→(∀ Pt∈ts,H Pt=some (.tbl #[]))→r00 K H a (ns.map V.int)→sp [.ref a] H (fun v _=>v=.bl true) fun _ _ _=>False:=fun TB ts h1 h2 h3=>by
  refine ⟨fdL,ts,fun vs H Q _=>spF K (lev ⟨B80 rows,nums,fun _ _ _=>M.no,clsAt K,0⟩ (tabOf rows) (k + 3)) iL 1 vs H Q fun _ _ _=>False,h2,bT,fun base kb nb bm=>?_,fun H a ns hl hH hS=>c92 (pure ns hl) (fun p hp=>hH p.1 (h1 p hp)) hS⟩
  have F:=ok0 (d22 (P:=l.prog) (w:=w) X Gn Q ok bd bm hR h3 (fun _ _ _=>M.no) k hL FL ⟨fa,ocL,odL,slL,aL,lkL⟩)
  rw [hp] at F
  exact F
 match mn,hmn,Q with
 | [],_,Q =>
  exact fin ⟨[]⟩ [] (fun p hp=>by cases hp) (fun p hp=>by cases hp) fun r hr hlm=>by
   have:=(hR r hr hlm).1
   cases this
 | [m],_,Q =>
  obtain ⟨T,t1,t2,f,oc,od,fd,sl,c,t3,t4,t5,t6⟩:=Q.mt m (.head _)
  refine fin ⟨[(T,x02 m)]⟩ [T] (fun p hp=>?_) (fun p hp=>?_) fun r hr hlm fd' h'=>?_
  ·cases List.mem_singleton.mp hp
   exact .head _
  ·cases List.mem_singleton.mp hp
   exact ⟨t1,t2,c,t6⟩
  ·have hm:r.nm=m:=List.mem_singleton.mp (hR r hr hlm).1
   rw [hm] at h' ⊢
   obtain ⟨f',oc',od',sl',e1,e2⟩:=h'
   rw [t3] at e1;cases e1
   rw [t4] at e2;cases e2
   exact ⟨c,T,x02 m,t5,t6,fun _ _ _ _=>rfl,.head _,fun p hp _=>by cases List.mem_singleton.mp hp;rfl⟩
end Q
namespace Q
open L2 (D)
open PySem (Paired)
noncomputable def v40:Ex→Bool
 | .var _=>false
 | _=>true
noncomputable def r12:Ex→Env→Option (Option S)
 | .var i,ρ=>ρ[i]?
 | _,_=>none
noncomputable def i02:Option (Option S)→Option S
 | some (some s)=>noS s
 | _=>none
noncomputable def blS:S→Option Bool
 | .d (.bl b)=>some b
 | _=>none
noncomputable abbrev Du {α:Type} (_:α→Z→Prop) (_:Nat→Z→Prop):Type:=Unit
noncomputable abbrev Dv {α:Type} (_:α→Prop):Type:=Unit
noncomputable def W {α:Type} (m:M α) (z:Z) (Q:α→Z→Prop) (E:Nat→Z→Prop) (_:Du Q E:=()):Prop:=∃ r,m z=some r∧match r with
 | .ok a z1=>Q a z1
 | .er c z1=>E c z1
noncomputable abbrev NE:Nat→Z→Prop:=fun _ _=>False
noncomputable def Get {α:Type} (o:Option α) (P:α→Prop) (_:Dv P:=()):Prop:=∃ a,o=some a∧P a
theorem O20 {α:Type}{a:α}{P:α→Prop}:Get (some a) P↔P a:=⟨fun ⟨_,e,h⟩=>by cases e;exact h,fun h=>⟨a,rfl,h⟩⟩
theorem w60 {α:Type}{P:α→Prop}:Get none P↔False:=⟨fun ⟨_,e,_⟩=>(by cases e),False.elim⟩
theorem d32 {α:Type}{o:Option α}{a:α}{P:α→Prop} (h:o=some a) (hp:P a):Get o P:=⟨a,h,hp⟩
theorem o71 {α:Type}{o:Option α}{P P':α→Prop} (h:∀ a,P a↔P' a):Get o P↔Get o P':=⟨fun ⟨a,e,x⟩=>⟨a,e,(h a).mp x⟩,fun ⟨a,e,x⟩=>⟨a,e,(h a).mpr x⟩⟩
section
variable {α β:Type}{m:M α}{z z1:Z}{Q Q':α→Z→Prop}{E E':Nat→Z→Prop}
theorem W.mono (h:W m z Q E) (hq:∀ a z,Q a z→Q' a z) (he:∀ c z,E c z→E' c z):W m z Q' E':=by
 obtain ⟨r,e,h⟩:=h
 refine ⟨r,e,?_⟩
 cases r with
 | ok a z1=>exact hq _ _ h
 | er c z1=>exact he _ _ h
theorem W.imp (h:W m z Q NE) (hq:∀ a z,Q a z→Q' a z):W m z Q' E':=h.mono hq fun _ _ h=>h.elim
theorem W.ok {a:α} (h:W m z (fun b z2=>b=a∧z2=z1) NE):m z=some (.ok a z1):=by
 obtain ⟨r,e,h⟩:=h
 cases r with
 | ok b z2=>obtain ⟨rfl,rfl⟩:=h;exact e
 | er c z2=>exact h.elim
theorem W.er {c:Nat} (h:W m z (fun _ _=>False) (fun d z2=>d=c∧z2=z1)):m z=some (.er c z1):=by
 obtain ⟨r,e,h⟩:=h
 cases r with
 | ok b z2=>exact h.elim
 | er d z2=>obtain ⟨rfl,rfl⟩:=h;exact e
theorem w70 {a:α} (h:m z=some (.ok a z1)):W m z Q E↔Q a z1:=by
 unfold W
 constructor
 ·rintro ⟨r,e,q⟩
  rw [h] at e;cases e
  exact q
 ·exact fun q=>⟨_,h,q⟩
theorem D22 {c:Nat} (h:m z=some (.er c z1)):W m z Q E↔E c z1:=by
 unfold W
 constructor
 ·rintro ⟨r,e,q⟩
  rw [h] at e;cases e
  exact q
 ·exact fun q=>⟨_,h,q⟩
theorem B90 {a:α}:W (M.ret a) z Q E↔Q a z:=w70 rfl
theorem O01:W (M.no:M α) z Q E↔False:=⟨fun ⟨_,e,_⟩=>(by cases e),False.elim⟩
theorem v50 {f:α→M β}{Q:β→Z→Prop}:W (M.bind m f) z Q E↔W m z (fun a z1=>W (f a) z1 Q E) E:=by
 constructor
 ·rintro ⟨r,e,q⟩
  unfold M.bind at e
  split at e
  ·rename_i a z1 e1
   exact ⟨_,e1,r,e,q⟩
  ·rename_i c z1 e1
   cases e
   exact ⟨_,e1,q⟩
  ·cases e
 ·rintro ⟨r,e,q⟩
  cases r with
  | ok a z1 =>
   obtain ⟨r,e2,q⟩:=q
   refine ⟨r,?_,q⟩
   unfold M.bind;rw [e];exact e2
  | er c z1 =>
   refine ⟨.er c z1,?_,q⟩
   unfold M.bind;rw [e]
theorem d42:W (M.calm m) z Q E↔W m z Q NE:=by
 unfold W M.calm
 constructor
 ·rintro ⟨r,e,q⟩
  split at e
  ·rename_i a z1 e1
   cases e
   exact ⟨_,e1,q⟩
  ·cases e
 ·rintro ⟨r,e,q⟩
  cases r with
  | ok a z1=>exact ⟨.ok a z1,by rw [e],q⟩
  | er c z1=>exact q.elim
theorem O11 (h:∀ a z,Q a z↔Q' a z):W m z Q E↔W m z Q' E:=⟨fun x=>x.mono (fun a z=>(h a z).mp) fun _ _ h=>h,fun x=>x.mono (fun a z=>(h a z).mpr) fun _ _ h=>h⟩
theorem wR {a:α}:Q a z↔W (M.ret a) z Q E:=B90.symm
theorem wN:False↔W (M.no:M α) z Q E:=O01.symm
theorem wT {c:Prop} [Decidable c] {a b:M α}{A B:Prop} (h1:A↔W a z Q E) (h2:B↔W b z Q E):(if c then A else B)↔W (if c then a else b) z Q E:=by
 split <;> assumption
theorem wA {c:Prop} [Decidable c]:(c∧W m z Q E)↔W (if c then m else M.no) z Q E:=by
 by_cases h:c
 ·rw [if_pos h];exact ⟨And.right,fun x=>⟨h,x⟩⟩
 ·rw [if_neg h];exact ⟨fun x=>absurd x.1 h,fun x=>(O01.mp x).elim⟩
theorem wG {o:Option β}{f:β→M α}{K:β→Prop} (h:∀ a,K a↔W (f a) z Q E):Get o K↔W (M.bind (M.of o) f) z Q E:=by
 cases o with
 | none=>exact w60.trans O01.symm
 | some a=>exact O20.trans (h a)
theorem wB {m:M β}{f:β→M α}{V:Prop}{K:β→Z→Prop} (h1:V↔W m z K E) (h2:∀ a z1,K a z1↔W (f a) z1 Q E):V↔W (M.bind m f) z Q E:=h1.trans ((O11 h2).trans v50.symm)
end
noncomputable def Vr (o:Option (Option S)) (z:Z) (Q:List S→Z→Prop) (_:Du Q NE:=()):Prop:=match o with
 | some (some s)=>Q [plS s] z
 | _=>False
noncomputable def WV:FT→Ex→Env→Z→(List S→Z→Prop)→(Nat→Z→Prop)→Prop
 | F,.nil=>fun ρ z Q E=>Q [] z
 | F,.cons a r=>fun ρ z Q E=>WV F a ρ z (fun x z1=>Get (one x) fun s=>WV F r ρ z1 (fun y z2=>Q (s::y) z2) E) E
 | F,.con x=>fun ρ z Q E=>Q [.d x] z
 | F,.gint g i=>fun ρ z Q E=>Q [.d (.int i)] z
 | F,.tup as=>fun ρ z Q E=>WV F as ρ z (fun l z1=>Get (plA l) fun ds=>if ds.length≤most then Q [.d (.tup ds)] z1 else False) E
 | F,.lst as=>fun ρ z Q E=>WV F as ρ z (fun l z1=>Get (plA l) fun ds=>if ds.length≤most then Q [.fr ds] z1 else False) E
 | F,.bin o a b=>fun ρ z Q E=>WV F a ρ z (fun x z1=>Get (pl x) fun dx=>WV F b ρ z1 (fun y z2=>Get (pl y) fun dy=>Get (q40 o dx dy) fun s=>Q [s] z2) E) E
 | F,.cmp o a b=>fun ρ z Q E=>WV F a ρ z (fun x z1=>Get (pl x) fun dx=>WV F b ρ z1 (fun y z2=>Get (pl y) fun dy=>Get (k80 o dx dy) fun t=>Q [.d (.bl t)] z2) E) E
 | F,.neg a=>fun ρ z Q E=>WV F a ρ z (fun x z1=>Get ((pl x).bind asI) fun i=>Q [.d (.int (-i))] z1) E
 | F,.not a=>fun ρ z Q E=>WV F a ρ z (fun x z1=>Get ((pl x).bind asB) fun b=>Q [.d (.bl !b)] z1) E
 | F,.and a b=>fun ρ z Q E=>WV F a ρ z (fun x z1=>Get ((pl x).bind asB) fun c=>if c then WV F b ρ z1 (fun y z2=>Get ((pl y).bind asB) fun c=>Q [.d (.bl c)] z2) E else Q [.d (.bl false)] z1) E
 | F,.or a b=>fun ρ z Q E=>WV F a ρ z (fun x z1=>Get ((pl x).bind asB) fun c=>if c then Q [.d (.bl true)] z1 else WV F b ρ z1 (fun y z2=>Get ((pl y).bind asB) fun c=>Q [.d (.bl c)] z2) E) E
 | F,.ite c a b=>fun ρ z Q E=>WV F c ρ z (fun x z1=>Get ((pl x).bind asB) fun c=>if c then WV F a ρ z1 Q E else WV F b ρ z1 Q E) E
 | F,.ch o o' a b c=>fun ρ z Q E=>WV F a ρ z (fun x z1=>Get (pl x) fun dx=>WV F b ρ z1 (fun y z2=>Get (pl y) fun dy=>Get (k80 o dx dy) fun t=>if t then WV F c ρ z2 (fun w z3=>Get (pl w) fun dw=>Get (k80 o' dy dw) fun t=>Q [.d (.bl t)] z3) E else Q [.d (.bl false)] z2) E) E
 | F,.bf f as=>fun ρ z Q E=>WV F as ρ z (fun l z1=>Get (plA l) fun ds=>Get (bfD f ds) fun s=>Q [s] z1) E
 | F,.isi t a=>fun ρ z Q E=>WV F a ρ z (fun x z1=>Get (pl x) fun x=>Q [.d (.bl (C81 t x))] z1) E
 | F,.idx a i=>fun ρ z Q E=>WV F a ρ z (fun x z1=>Get (pl x) fun dx=>WV F i ρ z1 (fun y z2=>Get (pl y) fun dy=>Get (w20 dx dy) fun r=>Q [.d r] z2) E) E
 | F,.sl a lo hi=>fun ρ z Q E=>WV F a ρ z (fun x z1=>Get (pl x) fun dx=>WV F lo ρ z1 (fun u z2=>Get (M60 u) fun u=>WV F hi ρ z2 (fun v z3=>Get (M60 v) fun v=>Get (slD dx u v) fun s=>Q [s] z3) E) E) E
 | F,.call f as=>fun ρ z Q E=>WV F as ρ z (fun l z1=>W (F false f (l.map plS)) z1 (fun s z2=>Q [s] z2) E) E
 | F,.comp own capt p it src cond el=>fun ρ z Q E=>WV F src ρ z (fun l z1=>Get ((plA l).bind (itD it)) fun xs=>if xs.length≤most then W (turns (z60 (ev F cond) (ev F el) p (List.replicate own none++capt.map fun i=>(ρ[i]?).getD none)) xs) z1 (fun ys z2=>Q [.fr ys] z2) NE else False) E
 | F,.lrng b as=>fun ρ z Q E=>WV F as ρ z (fun l z1=>Get ((plA l).bind lrD) fun xs=>Q [lrS b xs] z1) E
 | F,.refd capt a=>fun ρ z Q E=>Get (capt.mapM fun i=>(ρ[i]?).getD none) fun ss=>WV (t80 F) a (ss.map some) z (fun _ _=>False) (fun c z1=>if c < 12 then Q [.fr [.int c]] z1 else False)
 | F,.var i=>fun ρ z Q E=>Vr ρ[i]? z Q
 | F,.zget i k=>fun ρ z Q E=>W (S00 k ρ[i]?) z Q E
noncomputable def WE (F:FT) (e:Ex) (ρ:Env) (z:Z) (Q:List S→Z→Prop) (E:Nat→Z→Prop) (_:Du Q E:=()):Prop:=WV F e ρ z Q E
noncomputable def WX (F:FT) (tp:Bool):Sm→Env→Z→(O→Z→Prop)→(Nat→Z→Prop)→Prop
 | .nil=>fun ρ z Q E=>Q (.nx ρ) z
 | .seq s r=>fun ρ z Q E=>WX F tp s ρ z (fun o z1=>match o with
  | .nx ρ=>WX F tp r ρ z1 Q E
  | .rt s=>Q (.rt s) z1) E
 | .set p e=>fun ρ z Q E=>WE F e ρ z (fun l z1=>Get (one l) fun s=>Get (M70 p s (n10 s ρ)) fun ρ'=>Q (.nx ρ') z1) E
 | .ret e=>fun ρ z Q E=>if v40 e then WE F e ρ z (fun l z1=>Get ((one l).bind noS) fun s=>Q (.rt s) z1) E else Get (i02 (r12 e ρ)) fun s=>Q (.rt s) z
 | .iff c t e=>fun ρ z Q E=>WE F c ρ z (fun x z1=>Get ((pl x).bind asB) fun b=>if b then WX F tp t ρ z1 Q E else WX F tp e ρ z1 Q E) E
 | .exp e=>fun ρ z Q E=>WE F e ρ z (fun l z1=>Get (one l) fun _=>Q (.nx ρ) z1) E
 | .rais c=>fun ρ z Q E=>E c z
 | .fr p it src b=>fun ρ z Q E=>WE F src ρ z (fun l z1=>Get ((plA l).bind (itD it)) fun xs=>(z70 l=true∧d80 xs=true)∧W (S20 (fun x ρ=>M.bind (M.of (f80 p x ρ)) fun ρ=>ex F tp b ρ) xs (w40 it src l ρ)) z1 Q E) E
 | .whl c b=>fun ρ z Q E=>W (C91 (ev F c) (ex F tp b) J41 ρ) z Q E
 | .zset i e=>fun ρ z Q E=>WE F e ρ z (fun l z1=>Get ((pl l).bind asI) fun v=>W (c51 ρ v ρ[i]?) z1 Q E) E
 | .app i e=>fun ρ z Q E=>Get (ownAt ρ i) fun xs=>WE F e ρ z (fun l z1=>Get (pl l) fun x=>if bare x=true∧xs.length < most then Q (.nx (ρ.set i (some (.fr (xs++[x]))))) z1 else False) E
 | .apop i j e=>fun ρ z Q E=>Get (ownAt ρ i) fun xs=>Get (ownAt ρ j) fun ys=>WE F e ρ z (fun l z1=>Get ((pl l).bind asI) fun k=>Get (j41 ρ i j xs ys k) fun o=>Q o z1) E
 | .newz i f as=>fun ρ z Q E=>WE F (.call f as) ρ z (fun l z1=>W (fun _=>c41 tp ρ i l) z1 Q E) E
noncomputable def WS (F:FT) (tp:Bool) (s:Sm) (ρ:Env) (z:Z) (Q:O→Z→Prop) (E:Nat→Z→Prop) (_:Du Q E:=()):Prop:=WX F tp s ρ z Q E
theorem d52 {F:FT}{ρ:Env}{z:Z}{Q:List S→Z→Prop}{E:Nat→Z→Prop}{a:Ex}{capt:List Nat}:W (ev F (.refd capt a) ρ) z Q E↔Get (capt.mapM fun i=>(ρ[i]?).getD none) fun ss=>W (ev (t80 F) a (ss.map some)) z (fun _ _=>False) (fun c z1=>if c < 12 then Q [.fr [.int c]] z1 else False):=by
 show W (X11 (capt.mapM fun i=>(ρ[i]?).getD none) fun ρ'=>ev (t80 F) a ρ') z Q E↔_
 unfold W Get X11
 constructor
 ·rintro ⟨r,e,q⟩
  split at e
  ·cases e
  ·rename_i ss h1
   split at e
   ·rename_i c z1 h2
    split at e
    ·rename_i h3
     cases e
     refine ⟨ss,h1,_,h2,?_⟩
     dsimp only
     rw [if_pos h3];exact q
    ·cases e
   ·cases e
 ·rintro ⟨ss,h1,r,h2,q⟩
  cases r with
  | ok a z1=>exact q.elim
  | er c z1 =>
   dsimp only at q
   split at q
   ·rename_i h3
    refine ⟨.ok [.fr [.int c]] z1,?_,q⟩
    rw [h1]
    dsimp only
    rw [h2]
    dsimp only
    rw [if_pos h3]
   ·exact q.elim
theorem d62:∀ (e:Ex) {F:FT}{ρ:Env}{z:Z}{Q:List S→Z→Prop}{E:Nat→Z→Prop},WV F e ρ z Q E↔W (ev F e ρ) z Q E:=by
 intro e
 induction e with
 | nil=>intros;exact wR
 | cons a r ha hr=>intros;exact wB ha fun x z1=>wG fun s=>wB hr fun y z2=>wR
 | var i =>
  intro F ρ z Q E
  show Vr ρ[i]? z Q↔W (match ρ[i]? with | some (some s)=>M.ret [plS s] | _=>M.no) z Q E
  generalize ρ[i]?=o
  match o with
  | some (some s)=>exact wR
  | some none=>exact wN
  | none=>exact wN
 | con x=>intros;exact wR
 | gint g i=>intros;exact wR
 | tup a ha=>intros;exact wB ha fun l z1=>wG fun ds=>wT wR wN
 | lst a ha=>intros;exact wB ha fun l z1=>wG fun ds=>wT wR wN
 | bin o a b ha hb=>intros;exact wB ha fun x z1=>wG fun dx=>wB hb fun y z2=>wG fun dy=>wG fun s=>wR
 | cmp o a b ha hb=>intros;exact wB ha fun x z1=>wG fun dx=>wB hb fun y z2=>wG fun dy=>wG fun s=>wR
 | neg a ha=>intros;exact wB ha fun x z1=>wG fun i=>wR
 | not a ha=>intros;exact wB ha fun x z1=>wG fun i=>wR
 | and a b ha hb=>intros;exact wB ha fun x z1=>wG fun c=>wT (wB hb fun y z2=>wG fun c=>wR) wR
 | or a b ha hb=>intros;exact wB ha fun x z1=>wG fun c=>wT wR (wB hb fun y z2=>wG fun c=>wR)
 | ite c a b hc ha hb=>intros;exact wB hc fun x z1=>wG fun c=>wT ha hb
 | ch o o' a b c ha hb hc=>intros;exact wB ha fun x z1=>wG fun dx=>wB hb fun y z2=>wG fun dy=>wG fun t=>wT (wB hc fun w z3=>wG fun dw=>wG fun t=>wR) wR
 | bf f a ha=>intros;exact wB ha fun l z1=>wG fun ds=>wG fun s=>wR
 | isi t a ha=>intros;exact wB ha fun x z1=>wG fun x=>wR
 | idx a i ha hi=>intros;exact wB ha fun x z1=>wG fun dx=>wB hi fun y z2=>wG fun dy=>wG fun r=>wR
 | sl a l h ha hl hh=>intros;exact wB ha fun x z1=>wG fun dx=>wB hl fun u z2=>wG fun u=>wB hh fun v z3=>wG fun v=>wG fun s=>wR
 | call f a ha=>intros;exact wB ha fun l z1=>wB Iff.rfl fun s z2=>wR
 | comp own capt p it src cond el hs hc he=>intros;exact wB hs fun l z1=>wG fun xs=>wT (wB d42.symm fun ys z2=>wR) wN
 | zget i k=>intros;exact Iff.rfl
 | lrng b a ha=>intros;exact wB ha fun l z1=>wG fun xs=>wR
 | refd capt a ha=>intros;exact (o71 fun ss=>ha).trans d52.symm
theorem l50 {e:Ex}{F:FT}{ρ:Env}{z:Z}{Q:List S→Z→Prop}{E:Nat→Z→Prop}:WE F e ρ z Q E↔W (ev F e ρ) z Q E:=d62 e
theorem D32 {e:Ex}{F:FT}{ρ:Env}{z:Z}{Q:List S→Z→Prop}{E:Nat→Z→Prop}:W (ev F e ρ) z Q E↔WE F e ρ z Q E:=l50.symm
theorem r22 {F:FT}{tp:Bool}{ρ:Env}{e:Ex} (h:v40 e=true):ex F tp (.ret e) ρ=M.bind (ev F e ρ) fun l=>M.bind (M.of ((one l).bind noS)) fun s=>M.ret (.rt s):=by
 cases e with
 | var i=>cases h
 | _=>rfl
theorem d72 {F:FT}{tp:Bool}:∀ (s:Sm) {ρ:Env}{z:Z}{Q:O→Z→Prop}{E:Nat→Z→Prop},WX F tp s ρ z Q E↔W (ex F tp s ρ) z Q E:=by
 intro s
 induction s with
 | nil=>intros;exact wR
 | seq s r hs hr =>
  intros
  refine wB hs fun o z1=>?_
  cases o with
  | nx ρ=>exact hr
  | rt s=>exact wR
 | set p e=>intros;exact wB l50 fun l z1=>wG fun s=>wG fun ρ'=>wR
 | ret e =>
  intro ρ z Q E
  show (if v40 e then _ else _)↔_
  cases h:v40 e with
  | true =>
   refine (iff_of_eq (if_pos rfl)).trans ?_
   rw [r22 h]
   exact wB l50 fun l z1=>wG fun s=>wR
  | false =>
   cases e with
   | var i =>
    refine (iff_of_eq (if_neg Bool.false_ne_true)).trans ?_
    show Get (i02 ρ[i]?) _↔W (match ρ[i]? with | some (some s)=>M.bind (M.of (noS s)) fun s=>M.ret (O.rt s) | _=>M.no) z Q E
    generalize ρ[i]?=o
    match o with
    | some (some s)=>exact wG fun s=>wR
    | some none=>exact w60.trans wN
    | none=>exact w60.trans wN
   | _=>cases h
 | iff c t u ht hu=>intros;exact wB l50 fun x z1=>wG fun c=>wT ht hu
 | exp e=>intros;exact wB l50 fun l z1=>wG fun s=>wR
 | rais c=>intros;exact (D22 rfl).symm
 | fr p it src b ih=>intros;exact wB l50 fun l z1=>wG fun xs=>wA
 | whl c b ih=>intros;exact Iff.rfl
 | zset i e=>intros;exact wB l50 fun l z1=>wG fun v=>Iff.rfl
 | app i e=>intros;exact wG fun xs=>wB l50 fun l z1=>wG fun x=>wT wR wN
 | apop i j e=>intros;exact wG fun xs=>wG fun ys=>wB l50 fun l z1=>wG fun k=>wG fun o=>wR
 | newz i f as=>intros;exact wB l50 fun l z1=>Iff.rfl
theorem O30 {F:FT}{tp:Bool}{s:Sm}{ρ:Env}{z:Z}{Q:O→Z→Prop}{E:Nat→Z→Prop}:WS F tp s ρ z Q E↔W (ex F tp s ρ) z Q E:=d72 s
theorem D42 {F:FT}{tp:Bool}{s:Sm}{ρ:Env}{z:Z}{Q:O→Z→Prop}{E:Nat→Z→Prop}:W (ex F tp s ρ) z Q E↔WS F tp s ρ z Q E:=O30.symm
theorem WS.mono {s:Sm}{F:FT}{tp:Bool}{ρ:Env}{z:Z}{Q Q':O→Z→Prop}{E E':Nat→Z→Prop} (h:WS F tp s ρ z Q E) (hq:∀ a z,Q a z→Q' a z) (he:∀ c z,E c z→E' c z):WS F tp s ρ z Q' E':=O30.mpr (W.mono (O30.mp h) hq he)
section
variable {F:FT}{tp:Bool}{ρ:Env}{z:Z}{Q:O→Z→Prop}{E:Nat→Z→Prop}
theorem r32:WS F tp .nil ρ z Q E=Q (.nx ρ) z:=rfl
theorem o81 {s r:Sm}:WS F tp (.seq s r) ρ z Q E=WS F tp s ρ z (fun o z1=>match o with
  | .nx ρ=>WS F tp r ρ z1 Q E
  | .rt s=>Q (.rt s) z1) E:=rfl
theorem r42 {p:Pat}{e:Ex}:WS F tp (.set p e) ρ z Q E=WE F e ρ z (fun l z1=>Get (one l) fun s=>Get (M70 p s (n10 s ρ)) fun ρ'=>Q (.nx ρ') z1) E:=rfl
theorem d82 {e:Ex}:WS F tp (.ret e) ρ z Q E=if v40 e then WE F e ρ z (fun l z1=>Get ((one l).bind noS) fun s=>Q (.rt s) z1) E else Get (i02 (r12 e ρ)) fun s=>Q (.rt s) z:=rfl
theorem D52 {c:Ex}{t e:Sm}:WS F tp (.iff c t e) ρ z Q E=WE F c ρ z (fun x z1=>Get ((pl x).bind asB) fun b=>if b then WS F tp t ρ z1 Q E else WS F tp e ρ z1 Q E) E:=rfl
theorem r52 {e:Ex}:WS F tp (.exp e) ρ z Q E=WE F e ρ z (fun l z1=>Get (one l) fun _=>Q (.nx ρ) z1) E:=rfl
theorem d92 {c:Nat}:WS F tp (.rais c) ρ z Q E=E c z:=rfl
end
theorem e02 {α β:Type}{a:α}{f:α→M β}{z:Z}{Q:β→Z→Prop}{E:Nat→Z→Prop}:W (M.bind (M.of (some a)) f) z Q E↔W (f a) z Q E:=Iff.rfl
theorem U20 {F:FT}{tp:Bool}{ρ:Env}{z:Z}{Q:O→Z→Prop}{E:Nat→Z→Prop}{s r:Sm} (Mid:Env→Z→Prop) (h:WS F tp s ρ z (fun o z1=>match o with
  | .nx ρ=>Mid ρ z1
  | .rt s=>Q (.rt s) z1) E) (h2:∀ ρ z,Mid ρ z→WS F tp r ρ z Q E):WS F tp (.seq s r) ρ z Q E:=by
 rw [o81]
 refine h.mono (fun o z1 h=>?_) fun _ _ h=>h
 cases o with
 | nx ρ=>exact h2 ρ z1 h
 | rt s=>exact h
section
variable {T:List Df}{k f ps ns:Nat}{b:Sm}{l:List S}{z:Z}{Q:S→Z→Prop}{E:Nat→Z→Prop}
theorem b30 (h:T[f]?=some (.code ps ns b)) (hl:l.length=ps) (hn:ps≤ns):W (a80 T (k + 3) f l) z Q E↔WS (S40 T (k + 2)) z.isNone b (start ns (l.map plS)) z (fun o z1=>match o with
  | .nx _=>Q (.d .non) (S30 z z1)
  | .rt s=>Q s (S30 z z1)) fun c z1=>E c (S30 z z1):=by
 refine Iff.trans ?_ O30.symm
 rw [S50,h]
 show W (fun z=>if l.length=ps∧ps≤ns then (match ex (S40 T (k + 2)) z.isNone b (start ns (l.map plS)) z with
  | some (.ok (.nx _) z1)=>some (R.ok (S.d .non) (S30 z z1))
  | some (.ok (.rt s) z1)=>some (.ok s (S30 z z1))
  | some (.er c z1)=>some (.er c (S30 z z1))
  | none=>none) else none) z Q E↔_
 unfold W
 constructor
 ·rintro ⟨r,e,q⟩
  dsimp only at e
  rw [if_pos ⟨hl,hn⟩] at e
  split at e
  ·rename_i ρ z1 e1
   cases e
   exact ⟨_,e1,q⟩
  ·rename_i s z1 e1
   cases e
   exact ⟨_,e1,q⟩
  ·rename_i c z1 e1
   cases e
   exact ⟨_,e1,q⟩
  ·cases e
 ·rintro ⟨r,e,q⟩
  dsimp only
  rw [if_pos ⟨hl,hn⟩,e]
  match r,q with
  | .ok (.nx ρ) z1,q=>exact ⟨_,rfl,q⟩
  | .ok (.rt s) z1,q=>exact ⟨_,rfl,q⟩
  | .er c z1,q=>exact ⟨_,rfl,q⟩
theorem r62:S40 T k false f l=a80 T k f l:=rfl
end
section
variable {F:FT}{tp:Bool}{ρ:Env}{z:Z}{E:Nat→Z→Prop}
theorem c20 {f:D→M (Option D)}{o:D→Option D}:∀ {xs:List D}{Q:List D→Z→Prop},(∀ x∈xs,f x z=some (.ok (o x) z))→(W (turns f xs) z Q E↔Q (xs.filterMap o) z)
 | [],Q,_=>B90
 | x::r,Q,h=>by
  show W (M.bind (f x) _) z Q E↔_
  rw [v50,w70 (h x List.mem_cons_self),v50,c20 fun y hy=>h y (List.mem_cons_of_mem _ hy),B90]
  rw [List.filterMap_cons]
  cases o x <;> rfl
theorem Y80 {f:D→M (Option D)}{I:Z→Prop}{P:D→D→Prop}:∀ {xs:List D}{z:Z}{Q:List D→Z→Prop},I z→(∀ x∈xs,∀ z,I z→W (f x) z (fun o z1=>I z1∧∃ y,o=some y∧P x y) NE)→(∀ ys z1,I z1→Paired P xs ys→Q ys z1)→W (turns f xs) z Q E
 | [],z,Q,hi,_,q=>B90.mpr (q [] z hi .nil)
 | x::r,z,Q,hi,h,q=>by
  show W (M.bind (f x) _) z Q E
  rw [v50]
  refine (h x List.mem_cons_self z hi).imp fun o z1 ⟨hi1,y,e,hp⟩=>?_
  subst e
  rw [v50]
  refine Y80 hi1 (fun x' hx'=>h x' (List.mem_cons_of_mem _ hx')) fun ys z2 hi2 hps=>?_
  exact B90.mpr (q _ _ hi2 (.cons hp hps))
theorem O40 {f:D→Env→M O}{Q:O→Z→Prop} (I:List D→Env→Z→Prop):∀ (xs:List D) {ρ:Env}{z:Z},I xs ρ z→(∀ x r ρ z,I (x::r) ρ z→W (f x ρ) z (fun o z1=>match o with
  | .nx ρ=>I r ρ z1
  | .rt s=>Q (.rt s) z1) E)→(∀ ρ z,I [] ρ z→Q (.nx ρ) z)→W (S20 f xs ρ) z Q E
 | [],ρ,z,hi,_,q=>B90.mpr (q _ _ hi)
 | x::r,ρ,z,hi,h,q=>by
  show W (M.bind (f x ρ) _) z Q E
  rw [v50]
  refine (h x r ρ z hi).mono (fun o z1 ho=>?_) fun _ _ h=>h
  cases o with
  | nx ρ1=>exact O40 I r ho h q
  | rt s=>exact B90.mpr ho
theorem D62 {p:Pat}{it:It}{src:Ex}{b:Sm}{Q:O→Z→Prop}:WS F tp (.fr p it src b) ρ z Q E=WE F src ρ z (fun l z1=>Get ((plA l).bind (itD it)) fun xs=>(z70 l=true∧d80 xs=true)∧W (S20 (fun x ρ=>M.bind (M.of (f80 p x ρ)) fun ρ=>ex F tp b ρ) xs (w40 it src l ρ)) z1 Q E) E:=rfl
theorem e12 {p:Pat}{b:Sm}{x:D}{Q:O→Z→Prop}:W (M.bind (M.of (f80 p x ρ)) fun ρ=>ex F tp b ρ) z Q E↔Get (f80 p x ρ) fun ρ=>WS F tp b ρ z Q E:=(wG fun ρ=>O30).symm
theorem o91 {c:Env→M (List S)}{f:Env→M O}{Q:O→Z→Prop} (I:Nat→Env→Z→Prop) (step:∀ n ρ z,I n ρ z→W (c ρ) z (fun x z1=>Get ((pl x).bind asB) fun k=>if k then W (f ρ) z1 (fun o z2=>match o with
  | .nx ρ=>∃ m,m < n∧I m ρ z2
  | .rt s=>Q (.rt s) z2) E else Q (.nx ρ) z1) E):∀ (n m:Nat) {ρ:Env}{z:Z},I n ρ z→n < m→W (C91 c f m ρ) z Q E:=by
 intro n
 induction n using Nat.strongRecOn with
 | ind n ih =>
  intro m ρ z hi hm
  cases m with
  | zero=>omega
  | succ m =>
   show W (M.bind (c ρ) _) z Q E
   rw [v50]
   refine (step n ρ z hi).mono (fun x z1 ⟨k,e,h⟩=>?_) fun _ _ h=>h
   refine (wG (K:=fun k=>if k=true then W (M.bind (f ρ) _) z1 Q E else W (M.ret (O.nx ρ)) z1 Q E) fun k=>wT Iff.rfl Iff.rfl).mp ⟨k,e,?_⟩
   cases k with
   | true =>
    rw [if_pos rfl] at h ⊢
    rw [v50]
    refine h.mono (fun o z2 h=>?_) fun _ _ h=>h
    cases o with
    | nx ρ1 =>
     obtain ⟨j,hj,hi⟩:=h
     exact ih j hj m hi (by omega)
    | rt s=>exact B90.mpr h
   | false =>
    rw [if_neg Bool.false_ne_true] at h ⊢
    exact B90.mpr h
end
section
variable {F:FT}{ρ:Env}{z:Z}{Q:List S→Z→Prop}{E:Nat→Z→Prop}{a b c as:Ex}
theorem D72 {s:S}:Vr (some (some s)) z Q=Q [plS s] z:=rfl
theorem r72:WE F .nil ρ z Q E=Q [] z:=rfl
theorem e22 {r:Ex}:WE F (.cons a r) ρ z Q E=WE F a ρ z (fun x z1=>Get (one x) fun s=>WE F r ρ z1 (fun y z2=>Q (s::y) z2) E) E:=rfl
theorem r82 {i:Nat}:WE F (.var i) ρ z Q E=Vr ρ[i]? z Q:=rfl
theorem r92 {x:D}:WE F (.con x) ρ z Q E=Q [.d x] z:=rfl
theorem e32 {g:PySem.Str}{i:Int}:WE F (.gint g i) ρ z Q E=Q [.d (.int i)] z:=rfl
theorem s02:WE F (.tup as) ρ z Q E↔WE F as ρ z (fun l z1=>Get (plA l) fun ds=>if ds.length≤most then Q [.d (.tup ds)] z1 else False) E:=Iff.rfl
theorem s12:WE F (.lst as) ρ z Q E↔WE F as ρ z (fun l z1=>Get (plA l) fun ds=>if ds.length≤most then Q [.fr ds] z1 else False) E:=Iff.rfl
theorem s22 {o:Bi}:WE F (.bin o a b) ρ z Q E=WE F a ρ z (fun x z1=>Get (pl x) fun dx=>WE F b ρ z1 (fun y z2=>Get (pl y) fun dy=>Get (q40 o dx dy) fun s=>Q [s] z2) E) E:=rfl
theorem s32 {o:Cm}:WE F (.cmp o a b) ρ z Q E=WE F a ρ z (fun x z1=>Get (pl x) fun dx=>WE F b ρ z1 (fun y z2=>Get (pl y) fun dy=>Get (k80 o dx dy) fun t=>Q [.d (.bl t)] z2) E) E:=rfl
theorem s42:WE F (.neg a) ρ z Q E=WE F a ρ z (fun x z1=>Get ((pl x).bind asI) fun i=>Q [.d (.int (-i))] z1) E:=rfl
theorem s52:WE F (.not a) ρ z Q E=WE F a ρ z (fun x z1=>Get ((pl x).bind asB) fun b=>Q [.d (.bl !b)] z1) E:=rfl
theorem s62:WE F (.and a b) ρ z Q E=WE F a ρ z (fun x z1=>Get ((pl x).bind asB) fun c=>if c then WE F b ρ z1 (fun y z2=>Get ((pl y).bind asB) fun c=>Q [.d (.bl c)] z2) E else Q [.d (.bl false)] z1) E:=rfl
theorem D82:WE F (.or a b) ρ z Q E=WE F a ρ z (fun x z1=>Get ((pl x).bind asB) fun c=>if c then Q [.d (.bl true)] z1 else WE F b ρ z1 (fun y z2=>Get ((pl y).bind asB) fun c=>Q [.d (.bl c)] z2) E) E:=rfl
theorem s72:WE F (.ite c a b) ρ z Q E=WE F c ρ z (fun x z1=>Get ((pl x).bind asB) fun c=>if c then WE F a ρ z1 Q E else WE F b ρ z1 Q E) E:=rfl
theorem D92 {o o':Cm}:WE F (.ch o o' a b c) ρ z Q E=WE F a ρ z (fun x z1=>Get (pl x) fun dx=>WE F b ρ z1 (fun y z2=>Get (pl y) fun dy=>Get (k80 o dx dy) fun t =>
  if t then WE F c ρ z2 (fun w z3=>Get (pl w) fun dw=>Get (k80 o' dy dw) fun t=>Q [.d (.bl t)] z3) E else Q [.d (.bl false)] z2) E) E:=rfl
theorem E02 {f:Bf}:WE F (.bf f as) ρ z Q E=WE F as ρ z (fun l z1=>Get (plA l) fun ds=>Get (bfD f ds) fun s=>Q [s] z1) E:=rfl
theorem s82 {t:Ty}:WE F (.isi t a) ρ z Q E=WE F a ρ z (fun x z1=>Get (pl x) fun x=>Q [.d (.bl (C81 t x))] z1) E:=rfl
theorem s92 {i:Ex}:WE F (.idx a i) ρ z Q E=WE F a ρ z (fun x z1=>Get (pl x) fun dx=>WE F i ρ z1 (fun y z2=>Get (pl y) fun dy=>Get (w20 dx dy) fun r=>Q [.d r] z2) E) E:=rfl
theorem E12 {lo hi:Ex}:WE F (.sl a lo hi) ρ z Q E=WE F a ρ z (fun x z1=>Get (pl x) fun dx=>WE F lo ρ z1 (fun u z2=>Get (M60 u) fun u=>WE F hi ρ z2 (fun v z3=>Get (M60 v) fun v=>Get (slD dx u v) fun s=>Q [s] z3) E) E) E:=rfl
mutual
noncomputable def cE:D→Ex
 | .tup l=>.tup (cEs l)
 | .lst l=>.lst (cEs l)
 | .int i=>if i < 0 then .neg (.con (.int (-i))) else .con (.int i)
 | x=>.con x
noncomputable def cEs:List D→Ex
 | []=>.nil
 | x::r=>.cons (cE x) (cEs r)
end
mutual
noncomputable def okC:D→Bool
 | .tup l=>decide (l.length≤most)&&O21 l
 | .lst l=>decide (l.length≤most)&&O21 l
 | _=>true
noncomputable def O21:List D→Bool
 | []=>true
 | x::r=>okC x&&O21 r
end
noncomputable def R61:D→S
 | .lst l=>.fr l
 | x=>.d x
theorem U30:∀ l:List D,plA (l.map R61)=some l
 | []=>rfl
 | x::r=>by
  cases x with
  | _=>show (plA (r.map R61)).map _=_;rw [U30 r];rfl
mutual
theorem x12:∀ (d:D) {F:FT}{ρ:Env}{z:Z}{Q:List S→Z→Prop}{E:Nat→Z→Prop},okC d=true→(WE F (cE d) ρ z Q E↔Q [R61 d] z)
 | .tup l,F,ρ,z,Q,E,h=>by
  have h:(decide (l.length≤most)&&O21 l)=true:=h
  rw [Bool.and_eq_true,decide_eq_true_eq] at h
  refine (O31 l h.2).trans ?_
  rw [U30,O20,if_pos h.1];rfl
 | .lst l,F,ρ,z,Q,E,h=>by
  have h:(decide (l.length≤most)&&O21 l)=true:=h
  rw [Bool.and_eq_true,decide_eq_true_eq] at h
  refine (O31 l h.2).trans ?_
  rw [U30,O20,if_pos h.1];rfl
 | .int i,F,ρ,z,Q,E,_=>by
  show WE F (if i < 0 then _ else _) ρ z Q E↔_
  split
  ·show Get (some (-i)) (fun i=>Q [.d (.int (-i))] z)↔_
   rw [O20,Int.neg_neg];rfl
  ·exact Iff.rfl
 | .non,F,ρ,z,Q,E,_=>Iff.rfl
 | .bl _,F,ρ,z,Q,E,_=>Iff.rfl
 | .str _,F,ρ,z,Q,E,_=>Iff.rfl
 | .dct,F,ρ,z,Q,E,_=>Iff.rfl
theorem O31:∀ (l:List D) {F:FT}{ρ:Env}{z:Z}{Q:List S→Z→Prop}{E:Nat→Z→Prop},O21 l=true→(WE F (cEs l) ρ z Q E↔Q (l.map R61) z)
 | [],F,ρ,z,Q,E,_=>Iff.rfl
 | x::r,F,ρ,z,Q,E,h=>by
  have h:(okC x&&O21 r)=true:=h
  rw [Bool.and_eq_true] at h
  exact (x12 x h.1).trans (O20.trans (O31 r h.2))
end
noncomputable def cX (d:D) (_:okC d=true):Ex:=cE d
theorem t02 {d:D}{h:okC d=true}:v40 (cX d h)=true:=by
 cases d with
 | int i =>
  show v40 (if i < 0 then _ else _)=true
  split <;> rfl
 | _=>rfl
theorem E22 {d:D}{h:okC d=true}:WE F (cX d h) ρ z Q E↔Q [R61 d] z:=x12 d h
theorem e42 {f:Nat}:WE F (.call f as) ρ z Q E=WE F as ρ z (fun l z1=>W (F false f (l.map plS)) z1 (fun s z2=>Q [s] z2) E) E:=rfl
theorem e52 {own:Nat}{capt:List Nat}{p:Pat}{it:It}{src cond el:Ex}:WE F (.comp own capt p it src cond el) ρ z Q E=WE F src ρ z (fun l z1=>Get ((plA l).bind (itD it)) fun xs=>if xs.length≤most then
  W (turns (z60 (ev F cond) (ev F el) p (List.replicate own none++capt.map fun i=>(ρ[i]?).getD none)) xs) z1 (fun ys z2=>Q [.fr ys] z2) NE else False) E:=rfl
theorem e62 {b:Bool}:WE F (.lrng b as) ρ z Q E=WE F as ρ z (fun l z1=>Get ((plA l).bind lrD) fun xs=>Q [lrS b xs] z1) E:=rfl
theorem e72 {i k:Nat}:WE F (.zget i k) ρ z Q E=W (S00 k ρ[i]?) z Q E:=rfl
theorem O50 {capt:List Nat}:WE F (.refd capt a) ρ z Q E=Get (capt.mapM fun i=>(ρ[i]?).getD none) fun ss=>WE (t80 F) a (ss.map some) z (fun _ _=>False) (fun c z1=>if c < 12 then Q [.fr [.int c]] z1 else False):=rfl
variable {p:Pat}{ρ0:Env}{x:D}{Q1:Option D→Z→Prop}
theorem O41:W (z60 (ev F .nil) (ev F a) p ρ0 x) z Q1 E↔Get (f80 p x ρ0) fun ρ=>WE F a ρ z (fun y z1=>Get (pl y) fun d=>Q1 (some d) z1) E :=
 (wG fun ρ=>show _↔W (M.bind (ev F a ρ) fun y=>M.bind (M.of (pl y)) fun y=>M.ret (some y)) z Q1 E from wB l50 fun y z1=>wG fun d=>wR).symm
theorem e82 {l:List S}{m:M (List S)}{V:Prop} (h:V↔W (M.bind m fun y=>M.bind (M.of (pl y)) fun y=>M.ret (some y)) z Q1 E):(match l with | [s]=>Get (blS s) fun b=>if b then V else Q1 none z | _=>l=[]∧V)↔W (match l with
  | []=>M.bind m fun y=>M.bind (M.of (pl y)) fun y=>M.ret (some y)
  | [.d (.bl true)]=>M.bind m fun y=>M.bind (M.of (pl y)) fun y=>M.ret (some y)
  | [.d (.bl false)]=>M.ret none
  | _=>M.no) z Q1 E:=by
 match l with
 | []=>exact ⟨fun x=>h.mp x.2,fun x=>⟨rfl,h.mpr x⟩⟩
 | [.d (.bl true)]=>exact O20.trans ((iff_of_eq (if_pos rfl)).trans h)
 | [.d (.bl false)]=>exact O20.trans ((iff_of_eq (if_neg Bool.false_ne_true)).trans wR)
 | [.d .non]=>exact w60.trans wN
 | [.d (.int _)]=>exact w60.trans wN
 | [.d (.str _)]=>exact w60.trans wN
 | [.d (.tup _)]=>exact w60.trans wN
 | [.d (.lst _)]=>exact w60.trans wN
 | [.d .dct]=>exact w60.trans wN
 | [.fr _]=>exact w60.trans wN
 | [.z]=>exact w60.trans wN
 | s::_::_ =>
  refine ⟨fun x=>(by cases x.1),fun x=>?_⟩
  cases s with
  | d y =>
   cases y with
   | bl b=>cases b <;> exact (O01.mp x).elim
   | _=>exact (O01.mp x).elim
  | _=>exact (O01.mp x).elim
theorem O51:W (z60 (ev F (.cons c .nil)) (ev F a) p ρ0 x) z Q1 E↔Get (f80 p x ρ0) fun ρ=>WE F c ρ z (fun y z1=>Get (one y) fun s=>Get (blS s) fun b=>if b then WE F a ρ z1 (fun y z2=>Get (pl y) fun d=>Q1 (some d) z2) E else Q1 none z1) E:=by
 refine Iff.symm (wG fun ρ=>?_)
 refine wB (l50 (F:=F) (e:=.cons c .nil) (ρ:=ρ) (Q:=fun l z1=>match l with | [s]=>Get (blS s) fun b=>if b then WE F a ρ z1 (fun y z2=>Get (pl y) fun d=>Q1 (some d) z2) E else Q1 none z1 | _=>l=[]∧WE F a ρ z1 (fun y z2=>Get (pl y) fun d=>Q1 (some d) z2) E)) fun l z1=>?_
 exact e82 (wB l50 fun y z1=>wG fun d=>wR)
theorem V_t {m:M (List S)}:W (M.bind m fun y=>M.bind (M.of (pl y)) fun y=>M.ret (some y)) z Q1 E↔W m z (fun y z1=>Get (pl y) fun d=>Q1 (some d) z1) E:=by
 refine Iff.symm (wB Iff.rfl fun y z1=>?_)
 exact wG fun d=>wR
end
end Q
namespace K3
open PySem L2 Q
noncomputable def top (i:Nat):Stmt:=PySem.Challenge.pw_tiechances_k86_ties_in_a_row_made_one.main.body.getD i (.Pass ⟨0,0,0,0⟩)
noncomputable def nums:List (Str × Int):=[(("MOST_PLACES":Str),(6:Int)),(("MOST_TIES":Str),(8:Int)),(("MOST_BOTTOM":Str),(1000:Int))]
noncomputable abbrev e10:Nat:=0
noncomputable abbrev Y90:Nat:=1
noncomputable abbrev p01:Nat:=2
noncomputable abbrev i70:Nat:=3
noncomputable abbrev l60:Nat:=4
noncomputable abbrev I00:Nat:=5
noncomputable abbrev u00:Nat:=6
noncomputable abbrev I10:Nat:=7
noncomputable abbrev A50:Nat:=8
noncomputable abbrev s60:Nat:=9
noncomputable abbrev I20:Nat:=10
noncomputable abbrev O60:Nat:=11
noncomputable abbrev m30:Nat:=12
noncomputable abbrev m40:Nat:=13
noncomputable abbrev m50:Nat:=14
noncomputable abbrev p70:Nat:=15
noncomputable abbrev j70:Nat:=16
noncomputable abbrev q70:Nat:=17
noncomputable abbrev h50:Nat:=18
noncomputable abbrev a70:Nat:=19
noncomputable abbrev l00:Nat:=20
noncomputable abbrev v60:Nat:=21
noncomputable abbrev n30:Nat:=22
noncomputable abbrev p80:Nat:=23
noncomputable abbrev p90:Nat:=24
noncomputable abbrev v70:Nat:=25
noncomputable abbrev a60:Nat:=26
noncomputable abbrev v80:Nat:=27
noncomputable abbrev D60:Nat:=28
noncomputable abbrev s70:Nat:=29
noncomputable abbrev q00:Nat:=30
noncomputable abbrev f90:Nat:=31
noncomputable abbrev q10:Nat:=32
noncomputable abbrev k40:Nat:=33
noncomputable abbrev i80:Nat:=34
noncomputable abbrev e92:Nat:=35
noncomputable def e20:Sm:=(.seq (.whl (.cmp .gt (.var 1) (.con (.int 0))) (.seq (.set (.tup (.cons (.v 0) (.cons (.v 1) .nil))) (.tup (.cons (.var 1) (.cons (.bin .mod (.var 0) (.var 1)) .nil)))) .nil)) (.seq (.ret (.var 0)) .nil))
noncomputable def x90:Sm:=(.seq (.set (.v 2) (.call e10 (.cons (.var 0) (.cons (.var 1) .nil)))) (.seq (.ret (.tup (.cons (.bin .fdiv (.var 0) (.var 2)) (.cons (.bin .fdiv (.var 1) (.var 2)) .nil)))) .nil))
noncomputable def I30:Sm:=(.seq (.ret (.call Y90 (.cons (.bin .mul (.idx (.var 0) (.con (.int 0))) (.idx (.var 1) (.con (.int 0)))) (.cons (.bin .mul (.idx (.var 0) (.con (.int 1))) (.idx (.var 1) (.con (.int 1)))) .nil)))) .nil)
noncomputable def D70:Sm:=(.seq (.ret (.and (.isi .int (.var 0)) (.not (.isi .bool (.var 0))))) .nil)
noncomputable def o80:Sm:=(.seq (.ret (.and (.call i70 (.cons (.var 0) .nil)) (.ch .le .lt (.con (.int 0)) (.var 0) (.var 1)))) .nil)
noncomputable def y00:Sm:=(.seq (.iff (.or (.not (.isi .tuple (.var 0))) (.cmp .ne (.bf .len (.cons (.var 0) .nil)) (.con (.int 2)))) (.seq (.ret (.con (.bl false))) .nil) .nil) (.seq (.set (.tup (.cons (.v 2) (.cons (.v 3) .nil))) (.var 0)) (.seq (.ret (.and (.call l60 (.cons (.var 2) (.cons (.var 1) .nil))) (.and (.call l60 (.cons (.var 3) (.cons (.var 1) .nil))) (.cmp .lt (.var 2) (.var 3))))) .nil)))
noncomputable def i90:Sm:=(.seq (.iff (.or (.not (.isi .tuple (.var 0))) (.cmp .gt (.bf .len (.cons (.var 0) .nil)) (.gint "MOST_TIES" 8))) (.seq (.ret (.con (.bl false))) .nil) .nil) (.seq (.iff (.not (.bf .all (.cons (.comp 1 [1] (.v 0) .seq (.cons (.var 0) .nil) .nil (.call I00 (.cons (.var 0) (.cons (.var 1) .nil)))) .nil))) (.seq (.ret (.con (.bl false))) .nil) .nil) (.seq (.ret (.bf .all (.cons (.comp 2 [] (.tup (.cons (.v 0) (.cons (.v 1) .nil))) .zip (.cons (.var 0) (.cons (.sl (.var 0) (.cons (.con (.int 1)) .nil) .nil) .nil)) .nil (.cmp .le (.var 0) (.var 1))) .nil))) .nil)))
noncomputable def o90:Sm:=(.seq (.iff (.or (.not (.isi .tuple (.var 0))) (.cmp .ne (.bf .len (.cons (.var 0) .nil)) (.con (.int 2)))) (.seq (.ret (.con (.bl false))) .nil) .nil) (.seq (.set (.tup (.cons (.v 1) (.cons (.v 2) .nil))) (.var 0)) (.seq (.ret (.and (.call i70 (.cons (.var 1) .nil)) (.and (.ch .le .le (.con (.int 1)) (.var 1) (.gint "MOST_PLACES" 6)) (.call u00 (.cons (.var 2) (.cons (.var 1) .nil)))))) .nil)))
noncomputable def m60:Sm:=(.seq (.iff (.not (.call I10 (.cons (.var 0) .nil))) (.seq (.rais 0) .nil) .nil) .nil)
noncomputable def i10:Sm:=(.seq (.iff (.not (.call l60 (.cons (.var 1) (.cons (.idx (.var 0) (.con (.int 0))) .nil)))) (.seq (.rais 3) .nil) .nil) .nil)
noncomputable def y10:Sm:=(.seq (.ret (.tup (.cons (.bf .min (.cons (.var 0) (.cons (.var 1) .nil))) (.cons (.bf .max (.cons (.var 0) (.cons (.var 1) .nil))) .nil)))) .nil)
noncomputable def s80:Sm:=(.seq (.set (.tup (.cons (.v 2) (.cons (.v 3) .nil))) (.var 0)) (.seq (.ret (.call I20 (.cons (.idx (.var 1) (.var 2)) (.cons (.idx (.var 1) (.var 3)) .nil)))) .nil))
noncomputable def j80:Sm:=(.seq (.ret (.ite (.cmp .gt (.var 0) (.var 1)) (.bin .sub (.var 0) (.con (.int 1))) (.var 0))) .nil)
noncomputable def m70:Sm:=(.seq (.iff (.or (.not (.isi .tuple (.var 0))) (.cmp .ne (.bf .len (.cons (.var 0) .nil)) (.con (.int 2)))) (.seq (.ret (.con (.bl false))) .nil) .nil) (.seq (.set (.tup (.cons (.v 1) (.cons (.v 2) .nil))) (.var 0)) (.seq (.iff (.or (.not (.call i70 (.cons (.var 1) .nil))) (.not (.call i70 (.cons (.var 2) .nil)))) (.seq (.ret (.con (.bl false))) .nil) .nil) (.seq (.iff (.or (.not (.ch .le .le (.con (.int 1)) (.var 2) (.gint "MOST_BOTTOM" 1000))) (.not (.ch .le .le (.con (.int 0)) (.var 1) (.var 2)))) (.seq (.ret (.con (.bl false))) .nil) .nil) (.seq (.ret (.cmp .eq (.call e10 (.cons (.var 1) (.cons (.var 2) .nil))) (.con (.int 1)))) .nil)))))
noncomputable def d90:Sm:=(.seq (.exp (.call A50 (.cons (.var 0) .nil))) (.seq (.iff (.or (.not (.isi .tuple (.var 1))) (.cmp .ne (.bf .len (.cons (.var 1) .nil)) (.bf .len (.cons (.idx (.var 0) (.con (.int 1))) .nil)))) (.seq (.ret (.con (.bl false))) .nil) .nil) (.seq (.ret (.bf .all (.cons (.comp 1 [] (.v 0) .seq (.cons (.var 1) .nil) .nil (.call m40 (.cons (.var 0) .nil))) .nil))) .nil)))
noncomputable def g20:Sm:=(.seq (.iff (.not (.call m40 (.cons (.var 0) .nil))) (.seq (.rais 5) .nil) .nil) .nil)
noncomputable def c50:Sm:=(.seq (.iff (.not (.call m50 (.cons (.var 0) (.cons (.var 1) .nil)))) (.seq (.rais 6) .nil) .nil) .nil)
noncomputable def m80:Sm:=(.seq (.set (.tup (.cons (.v 4) (.cons (.v 5) .nil))) (.var 0)) (.seq (.set (.v 6) (.bf .len (.cons (.comp 1 [2] (.v 0) .seq (.cons (.var 5) .nil) (.cons (.cmp .le (.var 0) (.var 1)) .nil) (.var 0)) .nil))) (.seq (.ret (.tup (.cons (.tup (.cons (.var 4) (.cons (.bin .add (.bin .add (.sl (.var 5) .nil (.cons (.var 6) .nil)) (.tup (.cons (.var 2) .nil))) (.sl (.var 5) (.cons (.var 6) .nil) .nil)) .nil))) (.cons (.bin .add (.bin .add (.sl (.var 1) .nil (.cons (.var 6) .nil)) (.tup (.cons (.var 3) .nil))) (.sl (.var 1) (.cons (.var 6) .nil) .nil)) .nil)))) .nil)))
noncomputable def e30:Sm:=(.seq (.set (.tup (.cons (.v 3) (.cons (.v 4) .nil))) (.var 0)) (.seq (.set (.v 5) (.comp 1 [2] (.v 0) .rng1 (.cons (.var 3) .nil) .nil (.call m30 (.cons (.var 0) (.cons (.var 1) .nil))))) (.seq (.set (.v 6) (.comp 2 [2] (.tup (.cons (.v 0) (.cons (.v 1) .nil))) .enum (.cons (.var 4) .nil) (.cons (.cmp .nmem (.var 2) (.var 1)) .nil) (.var 0))) (.seq (.set (.v 7) (.tup (.cons (.bin .sub (.var 3) (.con (.int 1))) (.cons (.bf .tuple (.cons (.comp 1 [4,5] (.v 0) .seq (.cons (.var 6) .nil) .nil (.call O60 (.cons (.idx (.var 1) (.var 0)) (.cons (.var 2) .nil)))) .nil)) .nil)))) (.seq (.ret (.tup (.cons (.var 7) (.cons (.bf .tuple (.cons (.comp 1 [1] (.v 0) .seq (.cons (.var 6) .nil) .nil (.idx (.var 1) (.var 0))) .nil)) .nil)))) .nil)))))
noncomputable def c80:Sm:=(.seq (.exp (.call j70 (.cons (.var 0) (.cons (.var 1) .nil)))) (.seq (.exp (.call s60 (.cons (.var 0) (.cons (.var 2) .nil)))) (.seq (.set (.v 3) (.comp 2 [2] (.tup (.cons (.v 0) (.cons (.v 1) .nil))) .enum (.cons (.idx (.var 0) (.con (.int 1))) .nil) (.cons (.cmp .mem (.var 2) (.var 1)) .nil) (.var 0))) (.seq (.set (.v 4) (.comp 1 [0,2] (.v 0) .seq (.cons (.var 3) .nil) .nil (.bin .sub (.bf .sum (.cons (.idx (.idx (.var 1) (.con (.int 1))) (.var 0)) .nil)) (.var 2)))) (.seq (.iff (.or (.cmp .ne (.bf .len (.cons (.var 4) .nil)) (.con (.int 2))) (.cmp .eq (.idx (.var 4) (.con (.int 0))) (.idx (.var 4) (.con (.int 1))))) (.seq (.rais 4) .nil) .nil) (.seq (.set (.v 5) (.call p01 (.cons (.idx (.var 1) (.idx (.var 3) (.con (.int 0)))) (.cons (.idx (.var 1) (.idx (.var 3) (.con (.int 1)))) .nil)))) (.seq (.exp (.call p70 (.cons (.var 5) .nil))) (.seq (.set (.tup (.cons (.v 6) (.cons (.v 7) .nil))) (.call h50 (.cons (.var 0) (.cons (.var 1) (.cons (.var 2) .nil))))) (.seq (.set (.v 8) (.call I20 (.cons (.call m30 (.cons (.idx (.var 4) (.con (.int 0))) (.cons (.var 2) .nil))) (.cons (.call m30 (.cons (.idx (.var 4) (.con (.int 1))) (.cons (.var 2) .nil))) .nil)))) (.seq (.ret (.call q70 (.cons (.var 6) (.cons (.var 7) (.cons (.var 8) (.cons (.var 5) .nil)))))) .nil))))))))))
noncomputable def g30:Sm:=(.seq (.set (.tup (.cons (.v 2) (.cons (.v 3) .nil))) (.tup (.cons (.bf .abs (.cons (.var 0) .nil)) (.cons (.var 1) .nil)))) (.seq (.whl (.cmp .ne (.var 3) (.con (.int 0))) (.seq (.set (.tup (.cons (.v 2) (.cons (.v 3) .nil))) (.tup (.cons (.var 3) (.cons (.bin .mod (.var 2) (.var 3)) .nil)))) .nil)) (.seq (.ret (.tup (.cons (.bin .fdiv (.var 0) (.var 2)) (.cons (.bin .fdiv (.var 1) (.var 2)) .nil)))) .nil)))
noncomputable def k50:Sm:=(.seq (.ret (.call l00 (.cons (.bin .mul (.idx (.var 0) (.con (.int 0))) (.idx (.var 1) (.con (.int 0)))) (.cons (.bin .mul (.idx (.var 0) (.con (.int 1))) (.idx (.var 1) (.con (.int 1)))) .nil)))) .nil)
noncomputable def e40:Sm:=(.seq (.ret (.cmp .le (.idx (.var 0) (.con (.int 1))) (.con (.int 1000)))) .nil)
noncomputable def g40:Sm:=(.seq (.set (.v 4) (.bin .add (.comp 1 [0,1] (.v 0) .rng1 (.cons (.bf .len (.cons (.idx (.var 0) (.con (.int 1))) .nil)) .nil) .nil (.tup (.cons (.idx (.idx (.var 1) (.con (.int 1))) (.var 0)) (.cons (.con (.int 0)) (.cons (.var 0) (.cons (.idx (.var 2) (.var 0)) .nil)))))) (.lst (.cons (.tup (.cons (.var 2) (.cons (.con (.int 1)) (.cons (.con (.int 0)) (.cons (.var 3) .nil))))) .nil)))) (.seq (.set (.v 4) (.bf .sorted (.cons (.var 4) .nil))) (.seq (.ret (.tup (.cons (.tup (.cons (.idx (.var 0) (.con (.int 0))) (.cons (.bf .tuple (.cons (.comp 1 [] (.v 0) .seq (.cons (.var 4) .nil) .nil (.idx (.var 0) (.con (.int 0)))) .nil)) .nil))) (.cons (.bf .tuple (.cons (.comp 1 [] (.v 0) .seq (.cons (.var 4) .nil) .nil (.idx (.var 0) (.con (.int 3)))) .nil)) .nil)))) .nil)))
noncomputable def c90:Sm:=(.seq (.iff (.cmp .lt (.var 1) (.bf .len (.cons (.var 0) .nil))) (.seq (.ret (.idx (.var 0) (.var 1))) .nil) .nil) (.seq (.ret (.con (.int 0))) .nil))
noncomputable def e60:Sm:=(.seq (.set (.v 2) (.call p90 (.cons (.var 0) (.cons (.var 1) .nil)))) (.seq (.iff (.cmp .ge (.var 2) (.bin .pow (.con (.int 10)) (.con (.int 18)))) (.seq (.ret (.lst (.cons (.bin .sub (.var 2) (.bin .pow (.con (.int 10)) (.con (.int 18)))) (.cons (.con (.bl true)) .nil)))) .nil) .nil) (.seq (.ret (.lst (.cons (.bin .mod (.var 2) (.con (.int 2147483647))) (.cons (.con (.bl false)) .nil)))) .nil)))
noncomputable def j90:Sm:=(.seq (.iff (.zget 0 1) (.seq (.set (.v 2) (.bin .mod (.zget 0 0) (.var 1))) (.seq (.zset 0 (.bin .fdiv (.zget 0 0) (.var 1))) (.seq (.ret (.var 2)) .nil))) .nil) (.seq (.zset 0 (.bin .mod (.bin .add (.bin .mul (.zget 0 0) (.con (.int 48271))) (.con (.int 29))) (.con (.int 2147483647)))) (.seq (.set (.v 3) (.bin .mod (.bin .add (.bin .add (.bin .mul (.zget 0 0) (.zget 0 0)) (.bin .mul (.con (.int 39373)) (.zget 0 0))) (.con (.int 7))) (.con (.int 2147483629)))) (.seq (.set (.v 3) (.bin .mod (.bin .add (.bin .mul (.var 3) (.var 3)) (.bin .mul (.con (.int 16807)) (.var 3))) (.con (.int 2147483587)))) (.seq (.ret (.bin .mod (.bin .fdiv (.var 3) (.con (.int 8))) (.var 1))) .nil)))))
noncomputable def k60:Sm:=(.seq (.set (.v 2) (.lrng false (.cons (.var 1) .nil))) (.seq (.set (.v 3) (.lst .nil)) (.seq (.whl (.cmp .ne (.var 2) (.lst .nil)) (.seq (.apop 3 2 (.call a60 (.cons (.var 0) (.cons (.bf .len (.cons (.var 2) .nil)) .nil)))) .nil)) (.seq (.ret (.bf .tuple (.cons (.var 3) .nil))) .nil))))
noncomputable def j00:Sm:=(.seq (.set (.v 2) (.idx (cX (.lst [(.int 5),(.int 4),(.int 6),(.int 3),(.int 4),(.int 2),(.int 6),(.int 1)]) (by decide)) (.call a60 (.cons (.var 0) (.cons (.con (.int 8)) .nil))))) (.seq (.set (.v 3) (.call v80 (.cons (.var 0) (.cons (.var 2) .nil)))) (.seq (.set (.v 4) (.call a60 (.cons (.var 0) (.cons (.con (.int 6)) .nil)))) (.seq (.set (.v 5) (.lst .nil)) (.seq (.fr (.v 6) .rng2 (.cons (.con (.int 1)) (.cons (.var 2) .nil)) (.seq (.app 5 (.tup (.cons (.idx (.var 3) (.var 6)) (.cons (.idx (.var 3) (.idx (.lst (.cons (.bin .sub (.var 6) (.con (.int 1))) (.cons (.bin .sub (.var 6) (.con (.int 1))) (.cons (.con (.int 0)) (.cons (.bin .fdiv (.var 6) (.con (.int 2))) (.cons (.bin .sub (.var 6) (.con (.int 1))) (.cons (.con (.int 0)) .nil))))))) (.var 4))) .nil)))) .nil)) (.seq (.iff (.and (.cmp .eq (.var 4) (.con (.int 0))) (.cmp .gt (.var 2) (.con (.int 2)))) (.seq (.app 5 (.tup (.cons (.idx (.var 3) (.con (.int 0))) (.cons (.idx (.var 3) (.bin .sub (.var 2) (.con (.int 1)))) .nil)))) .nil) .nil) (.seq (.iff (.cmp .eq (.var 4) (.con (.int 4))) (.seq (.set (.v 5) (.sl (.var 5) (.cons (.con (.int 1)) .nil) .nil)) .nil) .nil) (.seq (.fr (.v 7) .rng1 (.cons (.call a60 (.cons (.var 0) (.cons (.con (.int 5)) .nil))) .nil) (.seq (.set (.tup (.cons (.v 8) (.cons (.v 9) .nil))) (.tup (.cons (.call a60 (.cons (.var 0) (.cons (.var 2) .nil))) (.cons (.call a60 (.cons (.var 0) (.cons (.var 2) .nil))) .nil)))) (.seq (.iff (.cmp .ne (.var 8) (.var 9)) (.seq (.app 5 (.tup (.cons (.var 8) (.cons (.var 9) .nil)))) .nil) .nil) .nil))) (.seq (.iff (.and (.cmp .ne (.var 5) (.lst .nil)) (.cmp .eq (.call a60 (.cons (.var 0) (.cons (.con (.int 3)) .nil))) (.con (.int 0)))) (.seq (.app 5 (.idx (.var 5) (.call a60 (.cons (.var 0) (.cons (.bf .len (.cons (.var 5) .nil)) .nil))))) .nil) .nil) (.seq (.set (.v 5) (.sl (.var 5) .nil (.cons (.var 1) .nil))) (.seq (.ret (.tup (.cons (.var 2) (.cons (.bf .tuple (.cons (.bf .sorted (.cons (.comp 2 [] (.tup (.cons (.v 0) (.cons (.v 1) .nil))) .seq (.cons (.var 5) .nil) .nil (.tup (.cons (.bf .min (.cons (.var 0) (.cons (.var 1) .nil))) (.cons (.bf .max (.cons (.var 0) (.cons (.var 1) .nil))) .nil)))) .nil)) .nil)) .nil)))) .nil)))))))))))
noncomputable def i20:Sm:=(.seq (.set (.v 1) (.call a60 (.cons (.var 0) (.cons (.con (.int 8)) .nil)))) (.seq (.iff (.cmp .lt (.var 1) (.con (.int 2))) (.seq (.ret (.idx (cX (.lst [(.tup [(.int 0),(.int 1)]),(.tup [(.int 1),(.int 1)])]) (by decide)) (.var 1))) .nil) .nil) (.seq (.set (.v 2) (.idx (.lst (.cons (.con (.int 2)) (.cons (.con (.int 3)) (.cons (.con (.int 4)) (.cons (.bin .add (.con (.int 1)) (.call a60 (.cons (.var 0) (.cons (.con (.int 12)) .nil)))) (.cons (.bin .add (.con (.int 1)) (.call a60 (.cons (.var 0) (.cons (.con (.int 1000)) .nil)))) (.cons (.con (.int 1000)) .nil))))))) (.bin .sub (.var 1) (.con (.int 2))))) (.seq (.ret (.call l00 (.cons (.call a60 (.cons (.var 0) (.cons (.bin .add (.var 2) (.con (.int 1))) .nil))) (.cons (.var 2) .nil)))) .nil))))
noncomputable def g50:Sm:=(.seq (.ret (.bf .tuple (.cons (.comp 1 [0] (.v 0) .seq (.cons (.idx (.var 1) (.con (.int 1))) .nil) .nil (.call s70 (.cons (.var 1) .nil))) .nil))) .nil)
noncomputable def b90:Sm:=(.seq (.iff (.isi .seq (.var 1)) (.seq (.iff (.or (.cmp .ne (.isi .tuple (.var 0)) (.isi .tuple (.var 1))) (.cmp .ne (.isi .list (.var 0)) (.isi .list (.var 1)))) (.seq (.ret (.con (.bl false))) .nil) .nil) (.seq (.iff (.cmp .ne (.bf .len (.cons (.var 0) .nil)) (.bf .len (.cons (.var 1) .nil))) (.seq (.ret (.con (.bl false))) .nil) .nil) (.seq (.ret (.bf .all (.cons (.comp 2 [] (.tup (.cons (.v 0) (.cons (.v 1) .nil))) .zip (.cons (.var 0) (.cons (.var 1) .nil)) .nil (.call f90 (.cons (.var 0) (.cons (.var 1) .nil)))) .nil))) .nil))) .nil) (.seq (.ret (.and (.cmp .eq (.var 0) (.var 1)) (.cmp .eq (.isi .bool (.var 0)) (.isi .bool (.var 1))))) .nil))
noncomputable def g60:Sm:=(.seq (.set (.v 1) (cX (.lst [.non,(.int 0),(.tup []),(.tup [(.int 0),(.tup [])]),(.tup [(.int 7),(.tup [])]),(.tup [(.bl true),(.tup [])]),(.tup [(.int 2),(.lst [])]),(.lst [(.int 2),(.tup [])]),(.tup [(.int 2),(.tup [(.tup [(.int 1),(.int 0)])])]),(.tup [(.int 2),(.tup [(.tup [(.int 0),(.int 0)])])])]) (by decide))) (.seq (.set (.v 1) (.bin .add (.var 1) (cX (.lst [(.tup [(.int 2),(.tup [(.tup [(.int 0),(.int 2)])])]),(.tup [(.int 3),(.tup [(.tup [(.int 1),(.int 2)]),(.tup [(.int 0),(.int 1)])])]),(.tup [(.int 2),(.tup [(.tup [(.int 0),(.int 1),(.int 1)])])]),(.tup [(.int 2),(.tup [(.tup [(.int 0),(.bl true)])])]),(.tup [(.int 2)]),(.str "2:")]) (by decide)))) (.seq (.set (.v 1) (.bin .add (.var 1) (.lst (.cons (.tup (.cons (.con (.int 2)) (.cons (.bin .mul (cX (.tup [(.tup [(.int 0),(.int 1)])]) (by decide)) (.con (.int 9))) .nil))) (.cons (.con .dct) (.cons (cX (.tup [(.int 2),(.tup [(.lst [(.int 0),(.int 1)])])]) (by decide)) (.cons (cX (.tup [(.int 2),(.tup []),(.tup [])]) (by decide)) (.cons (cX (.tup [(.int 2),.non]) (by decide)) (.cons (cX (.tup [(.str "2"),(.tup [])]) (by decide)) .nil))))))))) (.seq (.ret (.idx (.var 1) (.call a60 (.cons (.var 0) (.cons (.con (.int 22)) .nil))))) .nil))))
noncomputable def d20:Sm:=(.seq (.set (.v 3) (.call a60 (.cons (.var 0) (.cons (.bin .add (.bf .len (.cons (.var 2) .nil)) (.con (.int 1))) .nil)))) (.seq (.set (.v 4) (cX (.lst [(.tup [(.int 2),(.int 4)]),(.tup [(.int 1),(.int 0)]),(.tup [(.int 3),(.int 2)]),(.tup [(.int (-1)),(.int 2)]),(.tup [(.int 1),(.int 1001)]),(.tup [(.bl true),(.int 2)]),.non,(.str "1/2"),(.tup [(.int 1)]),(.tup [(.int 1),(.int 2),(.int 2)]),(.lst [(.int 1),(.int 2)]),(.int 1),(.tup [(.int 0),(.int 2)])]) (by decide))) (.seq (.set (.v 4) (.idx (.var 4) (.call a60 (.cons (.var 0) (.cons (.con (.int 13)) .nil))))) (.seq (.set (.v 5) (.lst (.cons (.bin .add (.bin .add (.sl (.var 2) .nil (.cons (.var 3) .nil)) (.tup (.cons (.var 4) .nil))) (.sl (.var 2) (.cons (.bin .add (.var 3) (.con (.int 1))) .nil) .nil)) (.cons (.bin .add (.var 2) (cX (.tup [(.tup [(.int 1),(.int 2)])]) (by decide))) (.cons (.bf .list (.cons (.var 2) .nil)) (.cons (.con .non) (.cons (.con .dct) .nil))))))) (.seq (.set (.v 5) (.bin .add (.var 5) (.lst (.cons (.bin .add (.bin .add (.sl (.var 2) .nil (.cons (.var 3) .nil)) (.tup (.cons (.var 4) .nil))) (.sl (.var 2) (.cons (.var 3) .nil) .nil)) (.cons (.ite (.cmp .ne (.var 2) (.tup .nil)) (.sl (.var 2) (.cons (.con (.int 1)) .nil) .nil) (.con .non)) .nil))))) (.seq (.ret (.idx (.var 5) (.idx (cX (.lst [(.int 0),(.int 0),(.int 0),(.int 0),(.int 1),(.int 2),(.int 3),(.int 4),(.int 5),(.int 6)]) (by decide)) (.call a60 (.cons (.var 0) (.cons (.con (.int 10)) .nil)))))) .nil))))))
noncomputable def p00:Sm:=(.seq (.set (.v 3) (.comp 1 [0,2] (.v 0) .rng1 (.cons (.bf .len (.cons (.idx (.var 0) (.con (.int 1))) .nil)) .nil) (.cons (.cmp .mem (.var 2) (.idx (.idx (.var 1) (.con (.int 1))) (.var 0))) .nil) (.var 0))) (.seq (.set (.v 4) (.comp 1 [0,2] (.v 0) .seq (.cons (.var 3) .nil) .nil (.bin .sub (.bf .sum (.cons (.idx (.idx (.var 1) (.con (.int 1))) (.var 0)) .nil)) (.var 2)))) (.seq (.iff (.or (.cmp .ne (.bf .len (.cons (.var 3) .nil)) (.con (.int 2))) (.cmp .eq (.idx (.var 4) (.con (.int 0))) (.idx (.var 4) (.con (.int 1))))) (.seq (.ret (cX (.lst [(.int 4)]) (by decide))) .nil) .nil) (.seq (.set (.v 5) (.call v60 (.cons (.idx (.var 1) (.idx (.var 3) (.con (.int 0)))) (.cons (.idx (.var 1) (.idx (.var 3) (.con (.int 1)))) .nil)))) (.seq (.iff (.not (.call n30 (.cons (.var 5) .nil))) (.seq (.ret (cX (.lst [(.int 5)]) (by decide))) .nil) .nil) (.seq (.set (.v 6) (.comp 1 [3] (.v 0) .rng1 (.cons (.bf .len (.cons (.idx (.var 0) (.con (.int 1))) .nil)) .nil) (.cons (.cmp .nmem (.var 0) (.var 1)) .nil) (.var 0))) (.seq (.set (.v 7) (.bin .add (.bin .add (.lrng false (.cons (.var 2) .nil)) (cX (.lst [.non]) (by decide))) (.lrng false (.cons (.var 2) (.cons (.bin .sub (.idx (.var 0) (.con (.int 0))) (.con (.int 1))) .nil))))) (.seq (.set (.v 8) (.bf .tuple (.cons (.comp 1 [0,7] (.v 0) .seq (.cons (.var 6) .nil) .nil (.tup (.cons (.idx (.var 2) (.idx (.idx (.idx (.var 1) (.con (.int 1))) (.var 0)) (.con (.int 0)))) (.cons (.idx (.var 2) (.idx (.idx (.idx (.var 1) (.con (.int 1))) (.var 0)) (.con (.int 1)))) .nil)))) .nil))) (.seq (.set (.v 9) (.bf .tuple (.cons (.bf .sorted (.cons (.comp 1 [7] (.v 0) .seq (.cons (.var 4) .nil) .nil (.idx (.var 1) (.var 0))) .nil)) .nil))) (.seq (.ret (.call p80 (.cons (.tup (.cons (.bin .sub (.idx (.var 0) (.con (.int 0))) (.con (.int 1))) (.cons (.var 8) .nil))) (.cons (.comp 1 [1] (.v 0) .seq (.cons (.var 6) .nil) .nil (.idx (.var 1) (.var 0))) (.cons (.var 9) (.cons (.var 5) .nil)))))) .nil))))))))))
noncomputable def A21:Sm:=(.seq (.fr (.v 1) .rng1 (.cons (.bf .max (.cons (.con (.int 1)) (.cons (.bf .min (.cons (.bf .len (.cons (.var 0) .nil)) (.cons (.con (.int 8)) .nil))) .nil))) .nil) (.seq (.newz 2 v70 (.cons (.var 0) (.cons (.var 1) .nil))) (.seq (.set (.v 3) (.call D60 (.cons (.var 2) (.cons (.idx (cX (.lst [(.int 8),(.int 6),(.int 5)]) (by decide)) (.call a60 (.cons (.var 2) (.cons (.con (.int 3)) .nil)))) .nil)))) (.seq (.set (.v 4) (.call q00 (.cons (.var 2) (.cons (.var 3) .nil)))) (.seq (.fr (.v 5) .rng1 (.cons (.idx (.var 3) (.con (.int 0))) .nil) (.seq (.set (.v 6) (.call i80 (.cons (.var 3) (.cons (.var 4) (.cons (.var 5) .nil))))) (.seq (.iff (.isi .list (.var 6)) (.seq (.iff (.cmp .ne (.refd [3,4,5] (.call a70 (.cons (.var 0) (.cons (.var 1) (.cons (.var 2) .nil))))) (.var 6)) (.seq (.ret (.con (.bl false))) .nil) .nil) .nil) (.seq (.iff (.not (.call f90 (.cons (.call a70 (.cons (.var 3) (.cons (.var 4) (.cons (.var 5) .nil)))) (.cons (.var 6) .nil)))) (.seq (.ret (.con (.bl false))) .nil) .nil) .nil)) .nil))) (.seq (.set (.tup (.cons (.v 7) (.cons (.v 8) .nil))) (.tup (.cons (.call q10 (.cons (.var 2) .nil)) (.cons (.idx (.lst (.cons (.idx (.var 3) (.con (.int 0))) (.cons (.neg (.con (.int 1))) (.cons (.con (.bl true)) (.cons (.con .non) (.cons (.con (.str "0")) (.cons (cX (.tup [(.int 0)]) (by decide)) (.cons (.bin .pow (.con (.int 10)) (.con (.int 29))) (.cons (.con (.bl false)) .nil))))))))) (.call a60 (.cons (.var 2) (.cons (.con (.int 8)) .nil)))) .nil)))) (.seq (.set (.v 9) (.call k40 (.cons (.var 2) (.cons (.var 3) (.cons (.var 4) .nil))))) (.seq (.iff (.cmp .ne (.refd [3,4,8] (.call a70 (.cons (.var 0) (.cons (.var 1) (.cons (.var 2) .nil))))) (cX (.lst [(.int 3)]) (by decide))) (.seq (.ret (.con (.bl false))) .nil) .nil) (.seq (.iff (.and (.cmp .ne (.var 9) (.var 4)) (.cmp .ne (.refd [3,8,9] (.call a70 (.cons (.var 0) (.cons (.var 2) (.cons (.var 1) .nil))))) (cX (.lst [(.int 6)]) (by decide)))) (.seq (.ret (.con (.bl false))) .nil) .nil) (.seq (.iff (.cmp .ne (.refd [7,8,9] (.call a70 (.cons (.var 0) (.cons (.var 2) (.cons (.var 1) .nil))))) (cX (.lst [(.int 0)]) (by decide))) (.seq (.ret (.con (.bl false))) .nil) .nil) .nil)))))))))) (.seq (.set (.tup (.cons (.v 3) (.cons (.v 10) .nil))) (cX (.tup [(.tup [(.int 3),(.tup [(.tup [(.int 0),(.int 1)]),(.tup [(.int 1),(.int 2)])])]),(.tup [(.tup [(.int 999),(.int 1000)]),(.tup [(.int 1),(.int 2)])])]) (by decide))) (.seq (.iff (.cmp .ne (.refd [3,10] (.call a70 (.cons (.var 0) (.cons (.var 1) (.cons (.con (.int 1)) .nil))))) (cX (.lst [(.int 5)]) (by decide))) (.seq (.ret (.con (.bl false))) .nil) .nil) (.seq (.ret (.cmp .eq (.call a70 (.cons (.var 3) (.cons (cX (.tup [(.tup [(.int 1),(.int 2)]),(.tup [(.int 2),(.int 3)])]) (by decide)) (.cons (.con (.int 1)) .nil)))) (cX (.tup [(.tup [(.int 2),(.tup [(.tup [(.int 0),(.int 1)])])]),(.tup [(.tup [(.int 1),(.int 3)])])]) (by decide)))) .nil))))
noncomputable def rows:List Row:=[(⟨"common_divisor",["one","other"],top 15,["one","other"],e20,false⟩:Row),
 (⟨"lowest",["top","bottom"],top 16,["top","bottom","divisor"],x90,false⟩:Row),
 (⟨"times",["one","other"],top 17,["one","other"],I30,false⟩:Row),
 (⟨"is_whole",["thing"],top 21,["thing"],D70,false⟩:Row),
 (⟨"is_below",["thing","many"],top 22,["thing","many"],o80,false⟩:Row),
 (⟨"is_tie",["thing","many"],top 23,["thing","many","a","b"],y00,false⟩:Row),
 (⟨"are_ties",["thing","many"],top 24,["thing","many"],i90,false⟩:Row),
 (⟨"is_web",["thing"],top 25,["thing","many","ties"],o90,false⟩:Row),
 (⟨"check_web",["thing"],top 26,["thing"],m60,false⟩:Row),
 (⟨"check_place",["web","thing"],top 27,["web","thing"],i10,false⟩:Row),
 (⟨"tie_of",["one","other"],top 28,["one","other"],y10,false⟩:Row),
 (⟨"renamed",["tie","names"],top 29,["tie","names","a","b"],s80,false⟩:Row),
 (⟨"closed_up",["place","gone"],top 30,["place","gone"],j80,false⟩:Row),
 (⟨"is_chance",["thing"],top 33,["thing","top","bottom"],m70,false⟩:Row),
 (⟨"are_chances",["web","thing"],top 34,["web","thing"],d90,false⟩:Row),
 (⟨"check_chance",["thing"],top 35,["thing"],g20,false⟩:Row),
 (⟨"check_chances",["web","thing"],top 36,["web","thing"],c50,false⟩:Row),
 (⟨"tie_added",["web","chances","tie","chance"],top 38,["web","chances","tie","chance","many","ties","at"],m80,false⟩:Row),
 (⟨"place_left_out",["web","chances","place"],top 39,["web","chances","place","many","ties","names","kept","fewer"],e30,false⟩:Row),
 (⟨"row_made",["web","chances","place"],top 40,["web","chances","place","numbers","ends","chance","fewer","left","tie"],c80,false⟩:Row),
 (⟨"_law_divided",["_law_top","_law_bottom"],top 42,["_law_top","_law_bottom","_law_one","_law_other"],g30,false⟩:Row),
 (⟨"_law_times",["_law_one","_law_other"],top 43,["_law_one","_law_other"],k50,false⟩:Row),
 (⟨"_law_is_chance",["_law_thing"],top 44,["_law_thing"],e40,false⟩:Row),
 (⟨"_law_tie_put",["_law_web_here","_law_chances_here","_law_tie","_law_chance_here"],top 45,["_law_web_here","_law_chances_here","_law_tie","_law_chance_here","_law_rows"],g40,false⟩:Row),
 (⟨"_law_cell_at",["_law_script","_law_k"],top 46,["_law_script","_law_k"],c90,false⟩:Row),
 (⟨"_law_state",["_law_script","_law_k"],top 47,["_law_script","_law_k","_law_cell"],e60,false⟩:Row),
 (⟨"_law_take",["_law_state_here","_law_many"],top 48,["_law_state_here","_law_many","_law_found","_law_stirred"],j90,false⟩:Row),
 (⟨"_law_mixed",["_law_state_here","_law_many"],top 49,["_law_state_here","_law_many","_law_left","_law_found"],k60,false⟩:Row),
 (⟨"_law_web",["_law_state_here","_law_most"],top 50,["_law_state_here","_law_most","_law_many","_law_names","_law_way","_law_ties","_law_at","_law_turn","_law_one","_law_other"],j00,false⟩:Row),
 (⟨"_law_chance",["_law_state_here"],top 51,["_law_state_here","_law_way","_law_bottom"],i20,false⟩:Row),
 (⟨"_law_chances",["_law_state_here","_law_web_here"],top 52,["_law_state_here","_law_web_here"],g50,false⟩:Row),
 (⟨"_law_same",["_law_found","_law_due_here"],top 54,["_law_found","_law_due_here"],b90,false⟩:Row),
 (⟨"_law_bad_web",["_law_state_here"],top 55,["_law_state_here","_law_some"],g60,false⟩:Row),
 (⟨"_law_bad_chances",["_law_state_here","_law_web_here","_law_chances_here"],top 56,["_law_state_here","_law_web_here","_law_chances_here","_law_at","_law_odd","_law_some"],d20,false⟩:Row),
 (⟨"_law_due",["_law_web_here","_law_chances_here","_law_place"],top 57,["_law_web_here","_law_chances_here","_law_place","_law_own","_law_ends","_law_chance_here","_law_rest","_law_names","_law_ties","_law_tie"],p00,false⟩:Row),
 (⟨"law",["_law_script"],top 58,["_law_script","_law_k","_law_state_here","_law_web_here","_law_chances_here","_law_place","_law_due_here","_law_bad","_law_none","_law_odd","_law_small"],A21,true⟩:Row)]
noncomputable def T:List Df:=[(Df.code 2 2 e20:Df),(Df.code 2 3 x90:Df),(Df.code 2 2 I30:Df),(Df.code 1 1 D70:Df),(Df.code 2 2 o80:Df),(Df.code 2 4 y00:Df),(Df.code 2 2 i90:Df),(Df.code 1 3 o90:Df),(Df.code 1 1 m60:Df),(Df.code 2 2 i10:Df),(Df.code 2 2 y10:Df),(Df.code 2 4 s80:Df),(Df.code 2 2 j80:Df),(Df.code 1 3 m70:Df),(Df.code 2 2 d90:Df),(Df.code 1 1 g20:Df),(Df.code 2 2 c50:Df),(Df.code 4 7 m80:Df),(Df.code 3 8 e30:Df),(Df.code 3 9 c80:Df),(Df.code 2 4 g30:Df),(Df.code 2 2 k50:Df),(Df.code 1 1 e40:Df),(Df.code 4 5 g40:Df),(Df.code 2 2 c90:Df),(Df.code 2 3 e60:Df),(Df.code 2 4 j90:Df),(Df.code 2 4 k60:Df),(Df.code 2 10 j00:Df),(Df.code 1 3 i20:Df),(Df.code 2 2 g50:Df),(Df.code 2 2 b90:Df),(Df.code 1 2 g60:Df),(Df.code 3 6 d20:Df),(Df.code 3 10 p00:Df),(Df.code 1 11 A21:Df)]
theorem E32:tabOf rows=T:=rfl
end K3
namespace K3
open Q
open L2 (D)
theorem p11 (z:Z):S30 z z=z:=by cases z <;> rfl
section
variable (a b:Int)
theorem E42:k80 .lt (.int a) (.int b)=some (decide (a < b)):=rfl
theorem E52:k80 .le (.int a) (.int b)=some (decide (a≤b)):=rfl
theorem E62:k80 .gt (.int a) (.int b)=some (decide (b < a)):=rfl
theorem E72:k80 .ge (.int a) (.int b)=some (decide (b≤a)):=rfl
theorem E82:k80 .eq (.int a) (.int b)=some (a == b):=rfl
theorem E92:k80 .ne (.int a) (.int b)=some (!(a == b)):=rfl
end
theorem F02 {x:D}:itD .seq [x]=Q50 x:=rfl
theorem F12 {a b:List D}:itD .zip [.tup a,.tup b]=some (q90 a b):=rfl
theorem F22 {a:List D}:itD .enum [.tup a]=some (q50 a 0):=rfl
theorem t12 {a b:List D}:k80 .le (.tup a) (.tup b)=(B60 a).bind fun ns=>(B60 b).map fun ms=>HT.leB ns ms:=rfl
section
variable {e a:Ex}{ρ:Env}{i j:Int}{l:List D}
theorem F32:w40 .rng1 e [.d (.int i)] ρ=ρ:=rfl
theorem F42:w40 .rng2 e [.d (.int i),.d (.int j)] ρ=ρ:=rfl
theorem F52:w40 .seq (.cons (.idx a e) .nil) [.d (.tup l)] ρ=ρ:=rfl
end
theorem lr1 {x:D}:lrD [x]=itD .rng1 [x]:=rfl
theorem t22 {x:D}:bfD .len [x]=(Q50 x).map fun l=>.d (.int l.length):=rfl
theorem O61 {x:D}:bfD .tuple [x]=(Q50 x).map fun l=>.d (.tup l):=rfl
theorem f02 {x:D}:bfD .list [x]=(Q50 x).map fun l=>.fr l:=rfl
theorem t32 {i j:Int}:bfD .min [.int i,.int j]=some (.d (.int (if j < i then j else i))):=rfl
theorem t42 {i j:Int}:bfD .max [.int i,.int j]=some (.d (.int (if j > i then j else i))):=rfl
theorem t52 {i:Int}:bfD .abs [.int i]=some (.d (.int (if i < 0 then -i else i))):=rfl
theorem f12 {a:D}{l:List D}:w20 (.tup (a::l)) (.int 0)=some a:=by
 show L2.atI (a::l) 0=some a
 exact L2.l80 (j:=0) rfl
theorem p21 {a b:D}{l:List D}:w20 (.tup (a::b::l)) (.int 1)=some b:=by
 show L2.atI (a::b::l) 1=some b
 exact L2.l80 (j:=1) rfl
theorem x22 {a:D}{l:List D}:w20 (.lst (a::l)) (.int 0)=some a:=by
 show L2.atI (a::l) 0=some a
 exact L2.l80 (j:=0) rfl
theorem x32 {a b:D}{l:List D}:w20 (.lst (a::b::l)) (.int 1)=some b:=by
 show L2.atI (a::b::l) 1=some b
 exact L2.l80 (j:=1) rfl
theorem nI0:((0:Nat):Int)=0:=rfl
theorem nI1:((1:Nat):Int)=1:=rfl
theorem nI2:((2:Nat):Int)=2:=rfl
theorem nI3:((3:Nat):Int)=3:=rfl
theorem nI4:((4:Nat):Int)=4:=rfl
theorem nI5:((5:Nat):Int)=5:=rfl
theorem nI6:((6:Nat):Int)=6:=rfl
noncomputable def C00 (b:Bool) (o:Option S):Option S:=if b then o else o.map plS
noncomputable def keepR (b:Bool) (ρ:Env):Env:=ρ.map (C00 b)
theorem f22 {s:S}{ρ:Env}:n10 s ρ=keepR (S10 s) ρ:=by
 unfold n10 keepR C00
 cases S10 s with
 | true=>simp
 | false=>rfl
section
variable {b:Bool}{ρ:Env}{o:Option S}
theorem F62:keepR b []=[]:=rfl
theorem F72:keepR b (o::ρ)=C00 b o::keepR b ρ:=rfl
theorem F82:keepR true ρ=ρ:=by unfold keepR C00;simp
theorem F92:C00 true o=o:=rfl
theorem G02 {x:D}:C00 b (some (.d x))=some (.d x):=by cases b <;> rfl
theorem G12:C00 b none=none:=by cases b <;> rfl
theorem G22:C00 b (some .z)=some .z:=by cases b <;> rfl
theorem G32 {xs:List D}:C00 false (some (.fr xs))=some (.d (.lst xs)):=rfl
theorem G42 {xs:List D}:C00 b (some (.fr xs))=some (if b=true then .fr xs else .d (.lst xs)):=by cases b <;> rfl
end
noncomputable def dz:Option S→Option S
 | some .z=>none
 | o=>o
section
variable {ρ:Env}{o:Option S}
theorem G52 {x:D}:dz (some (.d x))=some (.d x):=rfl
theorem G62:dz none=none:=rfl
theorem G72:w30 []=[]:=rfl
theorem G82:w30 (o::ρ)=dz o::w30 ρ:=by
 show _::_=_::_
 congr 1
end
theorem t62 {α:Type}{m:M α}{z z1:Z}{a:α}{Q:α→Z→Prop}{E:Nat→Z→Prop} (h:m z=some (.ok a z1)):W m z Q E↔Q a z1:=w70 h
section
variable {F:FT}{tp:Bool}{ρ:Env}{z:Z}{p:Int × Bool}{Q:O→Z→Prop}{Ql:List S→Z→Prop}{E:Nat→Z→Prop}
theorem t72 {c:Ex}{b:Sm}:WS F tp (.whl c b) ρ z Q E=W (C91 (ev F c) (ex F tp b) J41 ρ) z Q E:=rfl
theorem t82:W (S00 0 (some (some .z))) (some p) Ql E↔Ql [.d (.int p.1)] (some p):=w70 rfl
theorem t92:W (S00 1 (some (some .z))) (some p) Ql E↔Ql [.d (.bl p.2)] (some p):=w70 rfl
theorem f32 {i:Nat}{e:Ex}:WS F tp (.zset i e) ρ z Q E=WE F e ρ z (fun l z1=>Get ((pl l).bind asI) fun v=>W (c51 ρ v ρ[i]?) z1 Q E) E:=rfl
theorem G92 {v:Int}:W (c51 ρ v (some (some .z))) (some p) Q E↔Q (.nx ρ) (some (v,p.2)):=w70 rfl
theorem u02 {i:Nat}{e:Ex}:WS F tp (.app i e) ρ z Q E=Get (ownAt ρ i) fun xs=>WE F e ρ z (fun l z1=>Get (pl l) fun x=>if bare x=true∧xs.length < most then Q (.nx (ρ.set i (some (.fr (xs++[x]))))) z1 else False) E:=rfl
theorem f42 {i j:Nat}{e:Ex}:WS F tp (.apop i j e) ρ z Q E=Get (ownAt ρ i) fun xs=>Get (ownAt ρ j) fun ys=>WE F e ρ z (fun l z1=>Get ((pl l).bind asI) fun k=>Get (j41 ρ i j xs ys k) fun o=>Q o z1) E:=rfl
theorem f52 {i f:Nat}{as:Ex}:WS F tp (.newz i f as) ρ z Q E=WE F (.call f as) ρ z (fun l z1=>W (fun _=>c41 tp ρ i l) z1 Q E) E:=rfl
theorem H02 {i:Nat}{n:Int}{b:Bool}:W (fun _=>c41 true ρ i [.fr [.int n,.bl b]]) z Q E↔Q (.nx ((w30 ρ).set i (some .z))) (some (n,b)):=w70 rfl
end
theorem f62 {i j:Int}:q40 .add (.int i) (.int j)=some (.d (.int (i + j))):=rfl
theorem u12 {i j:Int}:q40 .sub (.int i) (.int j)=some (.d (.int (i - j))):=rfl
theorem O70 {i j:Int} (hj:0 < j):q40 .mod (.int i) (.int j)=some (.d (.int (i % j))):=by
 show (if 0 < j then some (S.d (.int (i % j))) else none)=_
 rw [if_pos hj]
set_option hygiene false
local macro_rules
 | `(tactic| simp! [$args,*])=>`(tactic| simp -dsimp -dsimp only [↓D32,↓D42,↓r32,↓o81,↓r42,↓D52,↓r52,↓d92,↓d82,↓B90,↓O01,↓f32,↓G92,↓u02,↓f42,↓f52,↓H02,↓t72,↓D62,↓e12,↓r72,↓e22,↓E22,↓t02,R61,↓r82,↓r92,↓e32,↓s02,↓s12,↓s22,↓s32,↓s42,↓s52,↓s62,↓D82,↓s72,↓D92,↓E02,↓s82,↓s92,↓E12,↓e42,↓e52,↓e62,↓e72,↓O41,↓O51,↓V_t,D72,t82,t92,O20,w60,r62,v40,i02,start,one,pl,plA,plS,plD,lrS,noS,asB,asI,blS,List.map_cons,List.map_nil,List.length_cons,List.length_nil,List.getElem?_cons_zero,List.getElem?_cons_succ,List.set_cons_zero,List.set_cons_succ,Option.bind_some,Option.bind_none,Option.map_some,Option.map_none,Option.getD,M70,f80,bindL,C81,if_true,if_false,Bool.false_eq_true,and_true,true_and,false_and,and_false,List.replicate,List.append_nil,List.nil_append,List.cons_append,p11,Nat.reduceSub,Nat.reduceLeDiff,Nat.reduceAdd,Nat.reduceLT,↓reduceIte,Q50,Bool.not_true,Bool.not_false,Bool.true_and,Bool.and_true,Bool.false_and,Bool.and_false,Bool.or_true,Bool.true_or,Bool.or_false,Bool.false_or,E42,E52,E62,E72,E82,E92,f22,F82,F62,F72,G02,G12,G22,F92,G32,G42,lr1,F02,F12,F22,t12,F32,F42,F52,t22,O61,f02,t32,t42,t52,nI0,nI1,nI2,nI3,nI4,nI5,nI6,beq_self_eq_true,Int.reduceBEq,Int.reduceLT,Int.reduceLE,decide_true,decide_false,ownAt,f12,p21,x22,x32,M60,f62,u12,most,S10,bare,d80,r12,ne_eq,reduceCtorEq,not_false_eq_true,implies_true,forall_const,imp_false,false_implies,e02,G82,G72,G52,G62,$args,*])
 | `(tactic| simp!)=>`(tactic| simp! [e02])
set_option hygiene true
noncomputable def s90:D→Bool
 | .int _=>true
 | _=>false
theorem A60 (k:Nat) (x:D) (z:Z):a80 T (k + 3) i70 [.d x] z=some (.ok (.d (.bl (s90 x))) z):=by
 cases z <;> cases x <;> rfl
noncomputable def f40 (x:D) (m:Int):Bool:=match x with
 | .int i=>decide (0≤i)&&decide (i < m)
 | _=>false
theorem U40 (k:Nat) (x:D) (m:Int) (z:Z):a80 T (k + 4) l60 [.d x,.d (.int m)] z=some (.ok (.d (.bl (f40 x m))) z):=by
 cases x with
 | int i =>
  apply W.ok
  rw [b30 (ps:=2) (ns:=2) (b:=o80) rfl rfl (by decide)]
  simp! [o80,t62 (A60 _ _ _)]
  simp! [s90,f40]
  cases decide (0≤i) <;> simp!
 | _=>cases z <;> rfl
theorem D80 (k:Nat) (x:D) (m:Int) (z:Z) {Q:S→Z→Prop}{E:Nat→Z→Prop}:W (a80 T (k + 4) l60 [.d x,.d (.int m)]) z Q E↔Q (.d (.bl (f40 x m))) z:=w70 (U40 k x m z)
noncomputable def d31 (x:D) (m:Int):Bool:=match x with
 | .tup [a,b]=>f40 a m&&(f40 b m&&(match a,b with
  | .int i,.int j=>decide (i < j)
  | _,_=>false))
 | _=>false
theorem t00 {x:D}{m:Int} (h:f40 x m=true):∃ i,x=.int i∧0≤i∧i < m:=by
 cases x with
 | int i =>
  unfold f40 at h
  simp -dsimp only [Bool.and_eq_true,decide_eq_true_eq] at h
  exact ⟨i,rfl,h⟩
 | _=>cases h
theorem p31 (k:Nat) (x:D) (m:Int) (z:Z):a80 T (k + 5) I00 [.d x,.d (.int m)] z=some (.ok (.d (.bl (d31 x m))) z):=by
 cases x with
 | tup l =>
  match l with
  | [a,b] =>
   apply W.ok
   rw [b30 (ps:=2) (ns:=4) (b:=y00) rfl rfl (by decide)]
   simp! [y00,D80,d31]
   cases h1:f40 a m with
   | false=>simp! [d31,h1]
   | true =>
    cases h2:f40 b m with
    | false=>simp! [d31,h1,h2]
    | true =>
     obtain ⟨i,rfl,_⟩:=t00 h1
     obtain ⟨j,rfl,_⟩:=t00 h2
     simp! [d31,h1,h2]
  | []=>cases z <;> rfl
  | [_]=>cases z <;> rfl
  | _::_::_::_=>cases z <;> rfl
 | _=>cases z <;> rfl
theorem A31 (k:Nat) (x:D) (m:Int) (z:Z) {Q:S→Z→Prop}{E:Nat→Z→Prop}:W (a80 T (k + 5) I00 [.d x,.d (.int m)]) z Q E↔Q (.d (.bl (d31 x m))) z:=w70 (p31 k x m z)
theorem Z00 (l:List D) (p:D→Bool):bfD .all [.lst (l.filterMap fun x=>some (D.bl (p x)))]=some (.d (.bl (l.all p))):=by
 have h:(l.filterMap fun x=>some (D.bl (p x))).mapM asB=some (l.map p):=by
  induction l with
  | nil=>rfl
  | cons x r ih =>
   rw [List.filterMap_cons]
   show (D.bl (p x)::r.filterMap fun x=>some (D.bl (p x))).mapM asB=_
   rw [List.mapM_cons,ih];rfl
 show ((l.filterMap fun x=>some (D.bl (p x))).mapM asB).map _=_
 rw [h]
 simp [List.all_map]
theorem f72 (l:List D):cutD l (some 1) none=l.drop 1:=by
 have h1:HT.sIx l.length 0 (some (1:Int))=min 1 l.length:=HT.R10 l.length 0 1
 unfold cutD
 rw [h1]
 show ((l.drop (min 1 l.length)).take (l.length - min 1 l.length))=_
 cases l with
 | nil=>rfl
 | cons x r =>
  have:min 1 (x::r).length=1:=by simp
  rw [this]
  simp
theorem f82 (l:List D):slD (.tup l) (some 1) none=some (.d (.tup (l.drop 1))):=by
 show some (S.d (D.tup (cutD l (some 1) none)))=_
 rw [f72]
theorem I40:∀ a b:List D,(q90 a b).length≤a.length
 | [],_=>by simp [q90]
 | _::_,[]=>by simp [q90]
 | x::r,y::q=>by
  have:=I40 r q
  simp -dsimp only [q90,List.length_cons];omega
noncomputable def leD:D→Bool
 | .tup [.tup a,.tup b]=>(match B60 a,B60 b with
  | some ns,some ms=>HT.leB ns ms
  | _,_=>false)
 | _=>false
noncomputable def Z10 (l:List D):Bool:=(q90 l (l.drop 1)).all leD
noncomputable def C10 (x:D) (m:Int):Bool:=match x with
 | .tup l=>decide (l.length≤8)&&(l.all (fun t=>d31 t m)&&Z10 l)
 | _=>false
theorem O80 {x:D}{m:Int} (h:d31 x m=true):∃ i j,x=.tup [.int i,.int j]∧0≤i∧i < j∧j < m:=by
 cases x with
 | tup l =>
  match l,h with
  | [a,b],h =>
   unfold d31 at h
   simp -dsimp only [Bool.and_eq_true] at h
   obtain ⟨h1,h2,h3⟩:=h
   obtain ⟨i,rfl,i1,i2⟩:=t00 h1
   obtain ⟨j,rfl,j1,j2⟩:=t00 h2
   exact ⟨i,j,rfl,i1,of_decide_eq_true h3,j2⟩
 | _=>cases h
theorem p41:∀ {a b:List D}{d:D},d∈q90 a b→∃ x∈a,∃ y∈b,d=.tup [x,y]
 | [],_,d,h=>by simp [q90] at h
 | _::_,[],d,h=>by simp [q90] at h
 | x::r,y::q,d,h=>by
  simp -dsimp only [q90,List.mem_cons] at h
  rcases h with h | h
  ·exact ⟨x,List.mem_cons_self,y,List.mem_cons_self,h⟩
  ·obtain ⟨u,hu,v,hv,e⟩:=p41 h
   exact ⟨u,List.mem_cons_of_mem _ hu,v,List.mem_cons_of_mem _ hv,e⟩
theorem U50 (k:Nat) (x:D) (m:Int) (z:Z):a80 T (k + 6) u00 [.d x,.d (.int m)] z=some (.ok (.d (.bl (C10 x m))) z):=by
 apply W.ok
 rw [b30 (ps:=2) (ns:=2) (b:=i90) rfl rfl (by decide)]
 cases x with
 | tup l =>
  by_cases h:l.length≤8
  ·have e:decide ((8:Int) < (l.length:Int))=false:=by
    rw [decide_eq_false_iff_not];omega
   simp! [i90,e]
   rw [if_pos (Nat.le_trans h (by decide))]
   rw [c20 (o:=fun x=>some (.bl (d31 x m)))]
   ·simp! [Z00,C10,decide_eq_true h]
    cases h2:l.all (fun t=>d31 t m) with
    | false=>simp! [C10,h2,decide_eq_true h]
    | true =>
     simp! [f82]
     rw [if_pos (Nat.le_trans (I40 _ _) (Nat.le_trans h (by decide)))]
     rw [c20 (o:=fun x=>some (.bl (leD x)))]
     ·simp! [Z00,C10,Z10,h2,decide_eq_true h]
     ·intro d hd
      obtain ⟨u,hu,v,hv,rfl⟩:=p41 hd
      rw [List.all_eq_true] at h2
      obtain ⟨i,j,rfl,_⟩:=O80 (h2 u hu)
      obtain ⟨i',j',rfl,_⟩:=O80 (h2 v (List.mem_of_mem_drop hv))
      apply W.ok
      simp! [B60,leD]
   ·intro d hd
    apply W.ok
    simp! [A31]
  ·have e:decide ((8:Int) < (l.length:Int))=true:=by
    rw [decide_eq_true_eq];omega
   have e2:decide (l.length≤8)=false:=by
    rw [decide_eq_false_iff_not];exact h
   simp! [i90,e,C10,e2]
 | _=>simp! [i90,C10]
theorem d41 (k:Nat) (x:D) (m:Int) (z:Z) {Q:S→Z→Prop}{E:Nat→Z→Prop}:W (a80 T (k + 6) u00 [.d x,.d (.int m)]) z Q E↔Q (.d (.bl (C10 x m))) z:=w70 (U50 k x m z)
theorem D90 (k:Nat) (x:D) (z:Z) {Q:S→Z→Prop}{E:Nat→Z→Prop}:W (a80 T (k + 3) i70 [.d x]) z Q E↔Q (.d (.bl (s90 x))) z:=w70 (A60 k x z)
noncomputable def E51 (a t:D):Bool:=match a with
 | .int m=>decide (1≤m)&&(decide (m≤6)&&C10 t m)
 | _=>false
noncomputable def C20 (x:D):Bool:=match x with
 | .tup [a,t]=>E51 a t
 | _=>false
theorem p51 (k:Nat) (x:D) (z:Z):a80 T (k + 7) I10 [.d x] z=some (.ok (.d (.bl (C20 x))) z):=by
 apply W.ok
 rw [b30 (ps:=1) (ns:=3) (b:=o90) rfl rfl (by decide)]
 cases x with
 | tup l =>
  by_cases h:l.length=2
  ·match l,h with
   | [a,t],_ =>
    simp! [o90,D90]
    cases a with
    | int m =>
     simp! [s90,C20,E51]
     cases g1:decide (1≤m) with
     | false=>simp! [C20,E51,g1]
     | true =>
      cases g2:decide (m≤6) with
      | false=>simp! [C20,E51,g1,g2]
      | true=>simp! [d41,C20,E51,g1,g2]
    | _=>simp! [s90,C20,E51]
  ·have e:((l.length:Int) == 2)=false:=by
    rw [beq_eq_false_iff_ne];omega
   have e2:C20 (.tup l)=false:=by
    match l,h with
    | [],_=>rfl
    | [_],_=>rfl
    | [_,_],h=>exact absurd rfl h
    | _::_::_::_,_=>rfl
   simp! [o90,e,e2]
 | _=>simp! [o90,C20]
theorem A41 (k:Nat) (x:D) (z:Z) {Q:S→Z→Prop}{E:Nat→Z→Prop}:W (a80 T (k + 7) I10 [.d x]) z Q E↔Q (.d (.bl (C20 x))) z:=w70 (p51 k x z)
theorem A70 (k:Nat) (x:D) (z:Z) {Q:S→Z→Prop}{E:Nat→Z→Prop}:W (a80 T (k + 8) A50 [.d x]) z Q E↔if C20 x then Q (.d .non) z else E 0 z:=by
 rw [b30 (ps:=1) (ns:=1) (b:=m60) rfl rfl (by decide)]
 simp! [m60,A41]
 cases C20 x <;> simp!
set_option exponentiation.threshold 5000
noncomputable def GT (n:Nat) (a b:Int):Prop:=0≤b∧((∃ k:Nat,n=2 * k + 1∧b < 2 ^ k)∨∃ k:Nat,n=2 * k∧b < a∧a < 2 ^ k)
theorem GT.step {n:Nat}{a b:Int} (h:GT n a b) (hb:0 < b):∃ m,m < n∧GT m b (a % b):=by
 obtain ⟨h0,h⟩:=h
 have r0:=Int.emod_nonneg a (show b≠0 by omega)
 have r1:=Int.emod_lt_of_pos a hb
 rcases h with ⟨k,rfl,hk⟩ | ⟨k,rfl,hba,hk⟩
 ·exact ⟨2 * k,by omega,r0,.inr ⟨k,rfl,r1,hk⟩⟩
 ·cases k with
  | zero=>simp at hk;omega
  | succ k =>
   refine ⟨2 * k + 1,by omega,r0,.inl ⟨k,rfl,?_⟩⟩
   have e:=Int.emod_add_mul_ediv a b
   have q1:1≤a / b:=Int.le_ediv_of_mul_le hb (by omega)
   have:b * 1≤b * (a / b):=Int.mul_le_mul_of_nonneg_left q1 (by omega)
   have h2:(2:Int) ^ (k + 1)=2 * 2 ^ k:=by rw [Int.pow_succ,Int.mul_comm]
   rw [h2] at hk
   omega
theorem p61 (a b:Int):Int.gcd b (a % b)=Int.gcd a b:=by
 rw [Int.emod_def,Int.gcd_sub_mul_left_right,Int.gcd_comm]
noncomputable def big (b:Int):Prop:=b < 2 ^ 4000
theorem O71 {b:Int} (h0:0≤b) (h:big b):b.natAbs < c31:=by
 have h:b < 2 ^ 4000:=h
 have e:((2 ^ 4000:Nat):Int)=2 ^ 4000:=by rw [Int.natCast_pow];rfl
 show b.natAbs < 2 ^ 4000
 omega
theorem A80 {b:Int} (h:b≤2 ^ 64):big b:=Int.lt_of_le_of_lt h (by decide)
theorem u10 (k:Nat) (a b:Int) (z:Z) (h0:0 < b) (h1:big b):a80 T (k + 3) e10 [.d (.int a),.d (.int b)] z=some (.ok (.d (.int (Int.gcd a b))) z):=by
 apply W.ok
 rw [b30 (ps:=2) (ns:=2) (b:=e20) rfl rfl (by decide)]
 simp! [e20]
 refine o91 (fun n ρ z1=>z1=z∧∃ c d:Int,ρ=[some (.d (.int c)),some (.d (.int d))]∧GT n c d∧Int.gcd c d=Int.gcd a b∧(d=0→0≤c)) ?_ (2 * 4000 + 1) J41 ⟨rfl,a,b,rfl,⟨by omega,.inl ⟨4000,rfl,h1⟩⟩,rfl,fun h=>by omega⟩ (by decide)
 rintro n ρ z1 ⟨rfl,c,d,rfl,g,hg,hc⟩
 simp!
 by_cases hd:0 < d
 ·simp! [decide_eq_true hd,O70 hd]
  obtain ⟨m,hm,g'⟩:=g.step hd
  exact ⟨m,hm,d,c % d,by first | rfl | exact ⟨rfl,rfl⟩,g',(p61 c d).trans hg,fun _=>by omega⟩
 ·have hz:d=0:=by have:=g.1;omega
  subst hz
  simp! [decide_eq_false hd]
  rw [Int.gcd_zero_right] at hg
  have:=hc rfl
  rw [← hg,show ((c.natAbs:Nat):Int)=c by omega]
theorem n40 (k:Nat) (a b:Int) (z:Z) (h0:0 < b) (h1:big b) {Q:S→Z→Prop}{E:Nat→Z→Prop}:W (a80 T (k + 3) e10 [.d (.int a),.d (.int b)]) z Q E↔Q (.d (.int (Int.gcd a b))) z:=w70 (u10 k a b z h0 h1)
noncomputable def chI (t b:Int):Bool:=(decide (1≤b)&&decide (b≤1000))&&((decide (0≤t)&&decide (t≤b))&&(((Int.gcd t b:Nat):Int) == 1))
noncomputable def chP:D→D→Bool
 | .int t,.int b=>chI t b
 | _,_=>false
noncomputable def chD:D→Bool
 | .tup [d,e]=>chP d e
 | _=>false
theorem O90 (k:Nat) (x:D) (z:Z):a80 T (k + 4) m40 [.d x] z=some (.ok (.d (.bl (chD x))) z):=by
 cases x with
 | tup l =>
  match l with
  | [a,b] =>
   apply W.ok
   rw [b30 (ps:=1) (ns:=3) (b:=m70) rfl rfl (by decide)]
   simp! [m70,D90]
   have hw:(∃ t u,a=.int t∧b=.int u)∨((s90 a=false∨s90 b=false)∧chP a b=false):=by
    cases a <;> cases b <;> first | exact .inl ⟨_,_,rfl,rfl⟩ | exact .inr ⟨.inl rfl,rfl⟩ | exact .inr ⟨.inr rfl,rfl⟩
   rcases hw with ⟨t,u,rfl,rfl⟩ | ⟨h,e⟩
   ·simp! [s90,chD,chP]
    by_cases h1:1≤u
    ·by_cases h2:u≤1000
     ·by_cases h3:0≤t
      ·by_cases h4:t≤u
       ·simp! [decide_eq_true h1,decide_eq_true h2,decide_eq_true h3,decide_eq_true h4]
        rw [n40 k t u z (by omega) (A80 (by omega))]
        simp! [chD,chP,chI,decide_eq_true h1,decide_eq_true h2,decide_eq_true h3,decide_eq_true h4]
       ·simp! [decide_eq_true h1,decide_eq_true h2,decide_eq_true h3,decide_eq_false h4,chD,chP,chI]
      ·simp! [decide_eq_true h1,decide_eq_true h2,decide_eq_false h3,chD,chP,chI]
     ·simp! [decide_eq_true h1,decide_eq_false h2,chD,chP,chI]
    ·simp! [decide_eq_false h1,chD,chP,chI]
   ·rcases h with h | h
    ·simp! [h,chD,e]
    ·cases hh:s90 a <;> simp! [h,chD,e]
  | []=>cases z <;> rfl
  | [_]=>cases z <;> rfl
  | _::_::_::_=>cases z <;> rfl
 | _=>cases z <;> rfl
theorem A90 (k:Nat) (x:D) (z:Z) {Q:S→Z→Prop}{E:Nat→Z→Prop}:W (a80 T (k + 4) m40 [.d x]) z Q E↔Q (.d (.bl (chD x))) z:=w70 (O90 k x z)
theorem C30 (k:Nat) (x:D) (z:Z) {Q:S→Z→Prop}{E:Nat→Z→Prop}:W (a80 T (k + 5) p70 [.d x]) z Q E↔if chD x then Q (.d .non) z else E 5 z:=by
 rw [b30 (ps:=1) (ns:=1) (b:=g20) rfl rfl (by decide)]
 simp! [g20,A90]
 cases chD x <;> simp!
theorem p71 {x:D} (h:C20 x=true):∃ m ts,x=.tup [.int m,.tup ts]∧1≤m∧m≤6∧ts.length≤8∧(∀ t∈ts,d31 t m=true)∧Z10 ts=true:=by
 cases x with
 | tup l =>
  match l,h with
  | [a,t],h =>
   unfold C20 E51 at h
   cases a with
   | int m =>
    simp -dsimp only [Bool.and_eq_true,decide_eq_true_eq] at h
    obtain ⟨h1,h2,h3⟩:=h
    unfold C10 at h3
    cases t with
    | tup ts =>
     simp -dsimp only [Bool.and_eq_true,decide_eq_true_eq,List.all_eq_true] at h3
     exact ⟨m,ts,rfl,h1,h2,h3.1,h3.2.1,h3.2.2⟩
    | _=>cases h3
   | _=>cases h
 | _=>cases h
noncomputable def K00 (n:Nat):D→Bool
 | .tup l=>(l.length == n)&&l.all chD
 | _=>false
theorem I50 (k:Nat) {m:Int}{ts:List D} (hw:C20 (.tup [.int m,.tup ts])=true) (x:D) (z:Z) {Q:S→Z→Prop}{E:Nat→Z→Prop}:W (a80 T (k + 9) m50 [.d (.tup [.int m,.tup ts]),.d x]) z Q E↔Q (.d (.bl (K00 ts.length x))) z:=by
 obtain ⟨m',ts',e,_,_,h8,_⟩:=p71 hw
 cases e
 apply w70
 apply W.ok
 rw [b30 (ps:=2) (ns:=2) (b:=d90) rfl rfl (by decide)]
 simp! [d90,A70,hw]
 cases x with
 | tup l =>
  by_cases h:l.length=ts.length
  ·have e:((l.length:Int) == (ts.length:Int))=true:=by rw [beq_iff_eq];omega
   have e2:(l.length == ts.length)=true:=by rw [beq_iff_eq];exact h
   simp! [p21,e]
   rw [if_pos (by rw [h];exact Nat.le_trans h8 (by decide))]
   rw [c20 (o:=fun x=>some (.bl (chD x)))]
   ·simp! [Z00,K00,e2]
   ·intro d hd
    apply W.ok
    simp! [A90]
  ·have e:((l.length:Int) == (ts.length:Int))=false:=by rw [beq_eq_false_iff_ne];omega
   have e2:(l.length == ts.length)=false:=by rw [beq_eq_false_iff_ne];exact h
   simp! [p21,e,K00,e2]
 | _=>simp! [p21,K00]
theorem k00 (k:Nat) {m:Int}{ts:List D} (hw:C20 (.tup [.int m,.tup ts])=true) (x:D) (z:Z) {Q:S→Z→Prop}{E:Nat→Z→Prop}:W (a80 T (k + 10) j70 [.d (.tup [.int m,.tup ts]),.d x]) z Q E↔if K00 ts.length x then Q (.d .non) z else E 6 z:=by
 rw [b30 (ps:=2) (ns:=2) (b:=c50) rfl rfl (by decide)]
 simp! [c50,I50 _ hw]
 cases K00 ts.length x <;> simp!
theorem w80 (k:Nat) {w:D} (hw:C20 w=false) (x:D) (z:Z) {Q:S→Z→Prop}{E:Nat→Z→Prop}:W (a80 T (k + 10) j70 [.d w,.d x]) z Q E↔E 0 z:=by
 have h:∀ {Q':S→Z→Prop}{E':Nat→Z→Prop},W (a80 T (k + 9) m50 [.d w,.d x]) z Q' E'↔E' 0 z:=fun {Q' E'}=>by
  rw [b30 (ps:=2) (ns:=2) (b:=d90) rfl rfl (by decide)]
  simp! [d90,A70,hw]
 rw [b30 (ps:=2) (ns:=2) (b:=c50) rfl rfl (by decide)]
 simp! [c50,h]
set_option exponentiation.threshold 5000
noncomputable def ZI (z:Z):Prop:=∃ n b,z=some (n,b)∧0≤n∧(b=false→n < 2147483647)
theorem B00 {T:List Df}{k f ps ns:Nat}{b:Sm}{l:List S}{z:Z}{Q:S→Z→Prop}{E:Nat→Z→Prop} (hz:ZI z) (h:T[f]?=some (.code ps ns b)) (hl:l.length=ps) (hn:ps≤ns):W (a80 T (k + 3) f l) z Q E↔WS (S40 T (k + 2)) false b (start ns (l.map plS)) z (fun o z1=>match o with
  | .nx _=>Q (.d .non) z1
  | .rt s=>Q s z1) E:=by
 obtain ⟨n,c,rfl,_⟩:=hz
 rw [b30 h hl hn]
 constructor
 ·refine fun h=>h.mono (fun o z1 h=>?_) fun _ _ h=>h
  cases o <;> exact h
 ·refine fun h=>h.mono (fun o z1 h=>?_) fun _ _ h=>h
  cases o <;> exact h
theorem p81 {a:Int}{n:Nat} (h:a.natAbs < n) (hn:n≤2 ^ 64:=by decide):a.natAbs < c31:=Nat.lt_of_lt_of_le h (Nat.le_trans hn (by decide))
theorem I60 {i j:Int} (hi:i.natAbs < 2 ^ 64) (hj:j.natAbs < 2 ^ 64):q40 .mul (.int i) (.int j)=some (.d (.int (i * j))):=by
 show (if i.natAbs < c31∧j.natAbs < c31 then some (S.d (.int (i * j))) else none)=_
 rw [if_pos ⟨p81 hi,p81 hj⟩]
theorem O81 {i j:Int} (hj:0 < j) (hb:j.natAbs < 2 ^ 64):q40 .fdiv (.int i) (.int j)=some (.d (.int (i / j))):=by
 show (if 0 < j∧j.natAbs < c31 then some (S.d (.int (i / j))) else none)=_
 rw [if_pos ⟨hj,p81 hb⟩]
theorem f50 (k:Nat) {m:Int}{z:Z} (hz:ZI z) (m0:0 < m) (m1:m < 2 ^ 32):W (a80 T (k + 3) a60 [.z,.d (.int m)]) z (fun s z1=>ZI z1∧∃ r:Int,s=.d (.int r)∧0≤r∧r < m) NE:=by
 obtain ⟨n,b,rfl,n0,n1⟩:=hz
 rw [b30 (ps:=2) (ns:=4) (b:=j90) rfl rfl (by decide)]
 cases b with
 | true =>
  simp! [j90,O70 m0,O81 (i:=n) m0 (by omega)]
  exact ⟨⟨n / m,true,rfl,Int.ediv_nonneg n0 (by omega),fun h=>nomatch h⟩,n % m,rfl,Int.emod_nonneg _ (by omega),Int.emod_lt_of_pos _ m0⟩
 | false =>
  have n1:=n1 rfl
  have e1:∀ a:Int,0≤a % 2147483647∧a % 2147483647 < 2147483647:=fun a=>⟨Int.emod_nonneg _ (by decide),Int.emod_lt_of_pos _ (by decide)⟩
  have e2:∀ a:Int,0≤a % 2147483629∧a % 2147483629 < 2147483629:=fun a=>⟨Int.emod_nonneg _ (by decide),Int.emod_lt_of_pos _ (by decide)⟩
  have s1:∀ a:Int,(a % 2147483647).natAbs < 2 ^ 64:=fun a=>by have:=e1 a;omega
  have s2:∀ a:Int,(a % 2147483629).natAbs < 2 ^ 64:=fun a=>by have:=e2 a;omega
  simp! [j90]
  simp! [I60 (i:=n) (j:=48271) (by omega) (by decide),f62,O70 (show (0:Int) < 2147483647 by decide),I60 (s1 _) (s1 _),I60 (show (39373:Int).natAbs < 2 ^ 64 by decide) (s1 _),O70 (show (0:Int) < 2147483629 by decide),I60 (s2 _) (s2 _),I60 (show (16807:Int).natAbs < 2 ^ 64 by decide) (s2 _),O70 (show (0:Int) < 2147483587 by decide),O81 (show (0:Int) < 8 by decide) (by decide),O70 m0]
  exact ⟨⟨_,false,rfl,(e1 _).1,fun _=>(e1 _).2⟩,_,rfl,Int.emod_nonneg _ (by omega),Int.emod_lt_of_pos _ m0⟩
set_option exponentiation.threshold 5000
theorem f92 {ns:List Int}{j:Nat} (h:j < ns.length):L2.atI (ns.map D.int) (j:Int)=some (.int ns[j]):=L2.l80 (by simp [h])
theorem p91 (k:Nat) (ns:List Int) (j:Nat) (z:Z):∃ c:Int,∀ {Q:S→Z→Prop}{E:Nat→Z→Prop},W (a80 T (k + 3) p90 [.d (.lst (ns.map D.int)),.d (.int j)]) z Q E↔Q (.d (.int c)) z:=by
 by_cases h:j < ns.length
 ·refine ⟨ns[j],fun {Q E}=>?_⟩
  rw [b30 (ps:=2) (ns:=2) (b:=c90) rfl rfl (by decide)]
  have e:decide ((j:Int) < ((ns.map D.int).length:Int))=true:=by simp [h]
  simp! [c90,e,w20,f92 h]
 ·refine ⟨0,fun {Q E}=>?_⟩
  rw [b30 (ps:=2) (ns:=2) (b:=c90) rfl rfl (by decide)]
  have e:decide ((j:Int) < ((ns.map D.int).length:Int))=false:=by simp;omega
  simp! [c90,e]
theorem E61:q40 .pow (.int 10) (.int 18)=some (.d (.int (10 ^ 18))):=rfl
theorem O91 (k:Nat) (ns:List Int) (j:Nat) (z:Z):∃ (n:Int) (b:Bool),ZI (some (n,b))∧∀ {Q:S→Z→Prop}{E:Nat→Z→Prop},W (a80 T (k + 4) v70 [.d (.lst (ns.map D.int)),.d (.int j)]) z Q E↔Q (.fr [.int n,.bl b]) z:=by
 obtain ⟨c,hc⟩:=p91 k ns j z
 by_cases h:(10 ^ 18:Int)≤c
 ·refine ⟨c - 10 ^ 18,true,⟨_,_,rfl,by omega,fun h=>nomatch h⟩,fun {Q E}=>?_⟩
  rw [b30 (ps:=2) (ns:=3) (b:=e60) rfl rfl (by decide)]
  simp! [e60,hc,E61,decide_eq_true h]
 ·refine ⟨c % 2147483647,false,⟨_,_,rfl,Int.emod_nonneg _ (by decide),fun _=>Int.emod_lt_of_pos _ (by decide)⟩,fun {Q E}=>?_⟩
  rw [b30 (ps:=2) (ns:=3) (b:=e60) rfl rfl (by decide)]
  simp! [e60,hc,E61,decide_eq_false h,O70 (show (0:Int) < 2147483647 by decide)]
theorem P00 {m:Int} (h0:0≤m) (h1:m < 100000):itD .rng1 [.int m]=some ((List.range m.toNat).map fun (i:Nat)=>D.int i):=by
 show (if -100000 < m∧m < 100000 then _ else none)=_
 rw [if_pos ⟨by omega,h1⟩]
theorem ne_nil {l:List D} (h:okD (.lst l)=true):k80 .ne (.lst l) (.lst [])=some (!l.isEmpty):=by
 show (eqO (.lst l) (.lst [])).map (!·)=_
 unfold eqO
 rw [h]
 cases l <;> rfl
theorem U60:∀ l:List Int,f70 (l.map D.int)=true∧f30 (l.map D.int)=0
 | []=>⟨rfl,rfl⟩
 | x::r=>by
  obtain ⟨h1,h2⟩:=U60 r
  simp -dsimp only [List.map_cons,f70,f30,p10,deep,h1,h2]
  exact ⟨rfl,rfl⟩
theorem q01 (l:List Int):okD (.lst (l.map D.int))=true:=by
 obtain ⟨h1,h2⟩:=U60 l
 unfold okD
 simp -dsimp only [p10,deep,h1,h2]
 rfl
theorem m90 (n:Nat):(List.range n).map (fun (i:Nat)=>D.int i)=((List.range n).map fun (i:Nat)=>(i:Int)).map D.int:=by
 rw [List.map_map];rfl
theorem v90 {α β:Type} (f:α→β):∀ (l:List α) (i:Nat),(l.map f).eraseIdx i=(l.eraseIdx i).map f
 | [],_=>rfl
 | x::r,0=>rfl
 | x::r,i + 1=>by simp [List.eraseIdx,v90 f r i]
theorem E00 {α:Type}:∀ (l:List α) (j:Nat) (h:j < l.length),(l[j]::l.eraseIdx j).Perm l
 | x::r,0,_=>.refl _
 | x::r,j + 1,h=>by
  have ih:=E00 r j (by simpa using h)
  exact (List.Perm.swap _ _ _).trans (ih.cons x)
theorem P01 (k:Nat) {m:Int}{z:Z} (hz:ZI z) (m0:1≤m) (m1:m≤100):W (a80 T (k + 4) v80 [.z,.d (.int m)]) z (fun s z1=>ZI z1∧∃ l:List Int,s=.d (.tup (l.map D.int))∧(l.length:Int)=m∧(∀ x∈l,0≤x∧x < m)∧l.Nodup) NE:=by
 rw [b30 (ps:=2) (ns:=4) (b:=k60) rfl rfl (by decide)]
 simp! [k60,P00 (show 0≤m by omega) (show m < 100000 by omega)]
 rw [m90]
 refine o91 (fun n ρ z1=>ZI z1∧∃ left found:List Int,ρ=[some .z,some (.d (.int m)),some (.fr (left.map D.int)),some (.fr (found.map D.int))]∧n=left.length∧(left++found).Nodup∧(∀ x∈left++found,0≤x∧x < m)∧((left.length + found.length:Nat):Int)=m) ?_ m.toNat J41 ?_ (by show m.toNat < 20000;omega)
 ·rintro n ρ z1 ⟨hz1,left,found,rfl,rfl,nd,hm,hl⟩
  simp! [ne_nil (q01 left)]
  cases left with
  | nil =>
   simp! [List.isEmpty_nil]
   have e:S30 z z1=z1:=by
    obtain ⟨_,_,rfl,_⟩:=hz
    rfl
   rw [e]
   exact ⟨hz1,found,rfl,by simpa using hl,fun x hx=>hm x (by simpa using hx),by simpa using nd⟩
  | cons x r =>
   simp! [List.isEmpty_cons]
   have hlen:0 < (((x::r).map D.int).length:Int):=by rw [List.length_map,List.length_cons];omega
   simp -dsimp only [List.map_cons,List.length_cons,List.length_map] at hlen ⊢
   refine (f50 k hz1 hlen (by simp -dsimp only [List.length_cons] at hl;omega)).imp fun s z2 ⟨hz2,v,e,v0,v1⟩=>?_
   subst e
   obtain ⟨j,rfl⟩:=Int.eq_ofNat_of_zero_le v0
   have hj:j < (x::r).length:=by simp;omega
   have hget:(D.int x::List.map D.int r)[j]?=some (.int ((x::r)[j])):=by
    have:((x::r).map D.int)[j]?=some (.int ((x::r)[j])):=by rw [List.getElem?_map,List.getElem?_eq_getElem hj];rfl
    exact this
   have hf:found.length < 100000:=by simp -dsimp only [List.length_cons] at hl;omega
   simp! [j41,Int.toNat_natCast]
   rw [if_pos ⟨by decide,by omega,by omega,by rw [List.length_map];exact hf⟩,hget]
   simp!
   refine ⟨((x::r).eraseIdx j).length,?_,hz2,(x::r).eraseIdx j,found++[(x::r)[j]],?_,rfl,?_,?_,?_⟩
   ·rw [List.length_eraseIdx_of_lt hj];simp
   ·have:=v90 D.int (x::r) j
    simp -dsimp only [List.map_cons] at this
    simp -dsimp only [this,List.map_append,List.map_cons,List.map_nil]
   ·have hp:(((x::r).eraseIdx j)++(found++[(x::r)[j]])).Perm ((x::r)++found):=by
     have h1:((x::r)[j]::(x::r).eraseIdx j).Perm (x::r):=E00 _ _ hj
     have h2:(((x::r).eraseIdx j)++(found++[(x::r)[j]])).Perm ((x::r)[j]::((x::r).eraseIdx j++found)):=by
      rw [← List.append_assoc]
      exact List.perm_append_singleton _ _
     exact h2.trans (h1.append_right found)
    exact hp.nodup_iff.mpr nd
   ·intro y hy
    refine hm y ?_
    simp -dsimp only [List.mem_append,List.mem_singleton] at hy ⊢
    rcases hy with hy | hy | hy
    ·exact .inl (List.mem_of_mem_eraseIdx hy)
    ·exact .inr hy
    ·exact .inl (by rw [hy];exact List.getElem_mem hj)
   ·rw [List.length_eraseIdx_of_lt hj,List.length_append]
    simp -dsimp only [List.length_cons,List.length_nil] at hl ⊢
    omega
 ·refine ⟨hz,(List.range m.toNat).map fun (i:Nat)=>(i:Int),[],rfl,by simp,?_,?_,by simp;omega⟩
  ·rw [List.append_nil]
   exact List.pairwise_map.mpr (List.nodup_range.imp fun h e=>h (Int.ofNat_inj.mp e))
  ·intro x hx
   rw [List.append_nil] at hx
   obtain ⟨i,hi,rfl⟩:=List.mem_map.mp hx
   have:=List.mem_range.mp hi
   omega
noncomputable def pr (p:Int × Int):D:=.tup [.int p.1,.int p.2]
noncomputable def ky (p:Int × Int):List Int:=[p.1,p.2]
theorem x42 (a b c d:Int):MySort.d70 [a,b] [c,d]=if a=c then (if b=d then false else decide (b < d)) else decide (a < c):=rfl
noncomputable def Ch:List (Int × Int)→Prop
 | a::b::r=>HT.leB (ky a) (ky b)=true∧Ch (b::r)
 | _=>True
theorem I70 {p q:Int × Int} (h:MySort.d70 (ky p) (ky q)=true):HT.leB (ky p) (ky q)=true:=by
 unfold HT.leB
 unfold ky at h ⊢
 rw [x42] at h ⊢
 by_cases h1:p.1=q.1
 ·rw [if_pos h1] at h
  rw [if_pos h1.symm]
  by_cases h2:p.2=q.2
  ·rw [if_pos h2] at h;cases h
  ·rw [if_neg h2] at h
   rw [if_neg (Ne.symm h2)]
   simp -dsimp only [decide_eq_true_eq] at h
   simp;omega
 ·rw [if_neg h1] at h
  rw [if_neg (Ne.symm h1)]
  simp -dsimp only [decide_eq_true_eq] at h
  simp;omega
noncomputable def t31 (k:Int × Int):List (Int × Int)→List (Int × Int)
 | []=>[k]
 | y::r=>if MySort.d70 (ky y) (ky k) then y::t31 k r else k::y::r
noncomputable def q11:List (Int × Int)→List (Int × Int)
 | []=>[]
 | k::r=>t31 k (q11 r)
theorem P10 (k:Int × Int):∀ l,(t31 k l).Perm (k::l)
 | []=>.refl _
 | y::r=>by
  unfold t31
  split
  ·exact ((P10 k r).cons y).trans (.swap _ _ _)
  ·exact .refl _
theorem E10:∀ l,(q11 l).Perm l
 | []=>.refl _
 | k::r=>(P10 k _).trans ((E10 r).cons k)
theorem q21 (k:Int × Int):∀ l,Ch l→Ch (t31 k l)
 | [],_=>trivial
 | [y],_=>by
  unfold t31
  split
  ·rename_i h;exact ⟨I70 h,trivial⟩
  ·rename_i h
   refine ⟨?_,trivial⟩
   unfold HT.leB
   simpa using h
 | y::x::r,h=>by
  obtain ⟨h1,h2⟩:=h
  have ih:=q21 k (x::r) h2
  unfold t31
  split
  ·rename_i hy
   unfold t31 at ih ⊢
   split at ih
   ·rename_i hx
    rw [if_pos hx]
    exact ⟨h1,ih⟩
   ·rename_i hx
    rw [if_neg hx]
    exact ⟨I70 hy,ih⟩
  ·rename_i hy
   refine ⟨?_,h1,h2⟩
   unfold HT.leB
   simpa using hy
theorem Z20:∀ l,Ch (q11 l)
 | []=>trivial
 | k::r=>q21 k _ (Z20 r)
theorem Z30 (k:Int × Int):∀ l:List (Int × Int),x51 (pr k) (l.map pr)=(t31 k l).map pr
 | []=>rfl
 | y::r=>by
  unfold t31
  show (if MySort.d70 (ky y) (ky k) then pr y::x51 (pr k) (r.map pr) else pr k::pr y::r.map pr)=_
  split
  ·rw [Z30 k r];rfl
  ·rfl
theorem P20:∀ l:List (Int × Int),B70 (l.map pr)=(q11 l).map pr
 | []=>rfl
 | k::r=>by
  show x51 (pr k) (B70 (r.map pr))=_
  rw [P20 r,Z30];rfl
theorem u22 (p q:Int × Int):ltD (pr p) (pr q)=some (MySort.d70 (ky p) (ky q)):=by
 show (if (p.1 == q.1)=true then (if (p.2 == q.2)=true then some false else some (decide (p.2 < q.2))) else some (decide (p.1 < q.1)))=some (if p.1=q.1 then (if p.2=q.2 then false else decide (p.2 < q.2)) else decide (p.1 < q.1))
 simp -dsimp only [beq_iff_eq]
 split
 ·split <;> rfl
 ·rfl
theorem P11 (p q:Int × Int):n70 (pr p) (pr q)=true:=by
 unfold n70
 rw [u22]
 show (true&&((some (MySort.d70 (ky p) (ky q)) == some (MySort.d70 (ky p) (ky q)))&&(((p.1 == q.1)&&((p.2 == q.2)&&true)) || !([p.1,p.2] == [q.1,q.2]))))=true
 rw [beq_self_eq_true,Bool.true_and,Bool.true_and,Bool.and_true]
 by_cases h1:p.1=q.1 <;> by_cases h2:p.2=q.2 <;> simp [h1,h2]
theorem q31 (l:List (Int × Int)):z50 (l.map pr)=true:=by
 refine List.all_eq_true.mpr fun x hx=>?_
 obtain ⟨p,_,rfl⟩:=List.mem_map.mp hx
 show (true&&(true&&(l.map pr).all (n70 (pr p))))=true
 refine List.all_eq_true.mpr fun y hy=>?_
 obtain ⟨q,_,rfl⟩:=List.mem_map.mp hy
 exact P11 p q
theorem q41 {l:List (Int × Int)} (h:l.length < 64):bfD .sorted [.lst (l.map pr)]=some (.fr ((q11 l).map pr)):=by
 show (if (l.map pr).length < 64∧z50 (l.map pr)=true then some (S.fr (B70 (l.map pr))) else none)=_
 rw [if_pos ⟨by rw [List.length_map];exact h,q31 l⟩,P20]
theorem Z40:∀ {l:List (Int × Int)},Ch l→Z10 (l.map pr)=true
 | [],_=>rfl
 | [_],_=>rfl
 | a::b::r,h=>by
  have ih:=Z40 h.2
  show ((q90 (pr a::pr b::r.map pr) (pr b::r.map pr)).all leD)=true
  have e:q90 (pr a::pr b::r.map pr) (pr b::r.map pr)=.tup [pr a,pr b]::q90 (pr b::r.map pr) (r.map pr):=rfl
  rw [e,List.all_cons,Bool.and_eq_true]
  exact ⟨h.1,ih⟩
theorem U70 (p:Int × Int):bare (pr p)=true:=rfl
theorem f10:∀ l:List (Int × Int),d80 (l.map pr)=true
 | []=>rfl
 | _::r=>by
  show (bare _&&d80 (r.map pr))=true
  rw [f10 r];rfl
theorem P21:∀ l:List (Int × Int),f70 (l.map pr)=true∧f30 (l.map pr)≤1
 | []=>⟨rfl,by decide⟩
 | p::r=>by
  obtain ⟨h1,h2⟩:=P21 r
  refine ⟨?_,?_⟩
  ·show (p10 (pr p)&&f70 (r.map pr))=true
   rw [h1];rfl
  ·show Nat.max (deep (pr p)) (f30 (r.map pr))≤1
   have:deep (pr p)=1:=rfl
   rw [this]
   exact Nat.max_le.mpr ⟨Nat.le_refl _,h2⟩
theorem q51 (l:List (Int × Int)):okD (.lst (l.map pr))=true:=by
 obtain ⟨h1,h2⟩:=P21 l
 unfold okD
 rw [Bool.and_eq_true,decide_eq_true_eq]
 refine ⟨h1,?_⟩
 show f30 (l.map pr) + 1≤40
 omega
theorem q61 (l:List (Int × Int)):okD (.tup (l.map pr))=true:=q51 l
noncomputable def P30 (m:Int) (ps:List (Int × Int)):D:=.tup [.int m,.tup (ps.map pr)]
structure p40 (m:Int) (ps:List (Int × Int)):Prop where
 m1:1≤m
 m6:m≤6
 len:ps.length≤8
 tie:∀ p∈ps,0≤p.1∧p.1 < p.2∧p.2 < m
 ch:Ch ps
theorem p40.web {m:Int}{ps:List (Int × Int)} (g:p40 m ps):C20 (P30 m ps)=true:=by
 unfold P30 C20 E51 C10
 simp -dsimp only [Bool.and_eq_true,decide_eq_true_eq,List.all_eq_true,List.length_map]
 refine ⟨g.m1,g.m6,g.len,fun t ht=>?_,Z40 g.ch⟩
 obtain ⟨p,hp,rfl⟩:=List.mem_map.mp ht
 obtain ⟨h1,h2,h3⟩:=g.tie p hp
 unfold pr d31 f40
 simp -dsimp only [Bool.and_eq_true,decide_eq_true_eq]
 omega
set_option exponentiation.threshold 5000
noncomputable def OkP (m:Int) (p:Int × Int):Prop:=0≤p.1∧p.1 < m∧0≤p.2∧p.2 < m∧p.1≠p.2
theorem g02 {m:Int} (h1:1≤m) (h:m < 100000):itD .rng2 [.int 1,.int m]=some ((List.range (m - 1).toNat).map fun (k:Nat)=>D.int (1 + k)):=by
 show (if -100000 < (1:Int)∧(1:Int) < 100000∧-100000 < m∧m < 100000 then _ else none)=_
 rw [if_pos ⟨by decide,by decide,by omega,h⟩]
theorem C40 {l:List D}{j:Nat}{x:D} (h:l[j]?=some x):w20 (.lst l) (.int j)=some x:=L2.l80 h
theorem q71 {l:List D}{j:Nat}{x:D} (h:l[j]?=some x):w20 (.tup l) (.int j)=some x:=L2.l80 h
theorem d00:∀ l:List Int,d80 (l.map D.int)=true
 | []=>rfl
 | _::r=>by
  show (bare _&&d80 (r.map D.int))=true
  rw [d00 r];rfl
theorem u32 (n:Nat) (h:n < 8):∃ m:Int,[D.int 5,.int 4,.int 6,.int 3,.int 4,.int 2,.int 6,.int 1][n]?=some (.int m)∧1≤m∧m≤6:=by
 match n,h with
 | 0,_=>exact ⟨5,rfl,by decide,by decide⟩
 | 1,_=>exact ⟨4,rfl,by decide,by decide⟩
 | 2,_=>exact ⟨6,rfl,by decide,by decide⟩
 | 3,_=>exact ⟨3,rfl,by decide,by decide⟩
 | 4,_=>exact ⟨4,rfl,by decide,by decide⟩
 | 5,_=>exact ⟨2,rfl,by decide,by decide⟩
 | 6,_=>exact ⟨6,rfl,by decide,by decide⟩
 | 7,_=>exact ⟨1,rfl,by decide,by decide⟩
theorem six (a:Int) (h1:1≤a) (n:Nat) (h:n < 6):∃ v:Nat,[D.int (a - 1),.int (a - 1),.int 0,.int (a / 2),.int (a - 1),.int 0][n]?=some (.int (v:Int))∧(v:Int) < a:=by
 have e1:a - 1=((a - 1).toNat:Int):=by omega
 have e2:a / 2=((a / 2).toNat:Int):=by omega
 match n,h with
 | 0,_=>exact ⟨(a - 1).toNat,by rw [← e1];rfl,by omega⟩
 | 1,_=>exact ⟨(a - 1).toNat,by rw [← e1];rfl,by omega⟩
 | 2,_=>exact ⟨0,rfl,by omega⟩
 | 3,_=>exact ⟨(a / 2).toNat,by rw [← e2];rfl,by omega⟩
 | 4,_=>exact ⟨(a - 1).toNat,by rw [← e1];rfl,by omega⟩
 | 5,_=>exact ⟨0,rfl,by omega⟩
theorem u20 {l:List Int}{j:Nat} (h:j < l.length):(l.map D.int)[j]?=some (.int l[j]):=by rw [List.getElem?_map,List.getElem?_eq_getElem h];rfl
theorem E71 {l:List Int} (nd:l.Nodup) {i j:Nat} (hi:i < l.length) (hj:j < l.length) (h:i≠j):l[i]≠l[j]:=fun e=>h ((List.getElem_inj nd).mp e)
theorem E81 (l:List D) {n:Int} (h:0≤n):cutD l none (some n)=l.take n.toNat:=by
 obtain ⟨k,rfl⟩:=Int.eq_ofNat_of_zero_le h
 have h1:HT.sIx l.length l.length (some (k:Int))=min k l.length:=HT.R10 _ _ k
 unfold cutD
 rw [h1]
 show (l.drop 0).take (min k l.length - 0)=_
 rw [List.drop_zero,Nat.sub_zero,Int.toNat_natCast]
 rcases Nat.le_total k l.length with h | h
 ·rw [Nat.min_eq_left h]
 ·rw [Nat.min_eq_right h,List.take_length,List.take_of_length_le h]
theorem I80 {m:Int}{ps:List (Int × Int)}{p:Int × Int} (h:∀ p∈ps,OkP m p) (hp:OkP m p):∀ q∈ps++[p],OkP m q:=fun q hq=>by
 rcases List.mem_append.mp hq with hq | hq
 ·exact h q hq
 ·rw [List.mem_singleton.mp hq];exact hp
noncomputable def Z50:Sm:=match j00 with
 | .seq _ (.seq _ (.seq _ (.seq _ (.seq _ (.seq _ (.seq _ r))))))=>r
 | _=>.nil
theorem E91 (a b:Int):(if b < a then b else a)=min a b∧(if b > a then b else a)=max a b:=by
 constructor <;> (split <;> omega)
theorem d51 {T':List Df} (hT:T'=T) (k:Nat) (mo:Int) (h0:0≤mo) (h8:mo≤8) (l:List Int) (wn:Nat) {m:Int} (m1:1≤m) (m6:m≤6) {tp:Bool}{z:Z} (hz:ZI z) {Q:O→Z→Prop}
  (hq:∀ qs z1,ZI z1→p40 m qs→(qs.length:Int)≤mo→Q (.rt (.d (P30 m qs))) z1) (ps:List (Int × Int)) (o6:Option S) (hp:∀ p∈ps,OkP m p) (hl:ps.length≤7) :
  WS (S40 T' (k + 2 + 2)) tp Z50 [some .z,some (.d (.int mo)),some (.d (.int m)),some (.d (.tup (l.map D.int))),some (.d (.int wn)),some (.fr (ps.map pr)),o6,none,none,none] z Q NE:=by
 subst hT
 simp! [Z50,j00]
 refine (f50 _ hz (by decide) (by decide)).imp fun s z1 ⟨hz1,v,e,v0,v1⟩=>?_
 subst e
 simp! [P00 v0 (show v < 100000 by omega),z70,j31,List.all_cons,List.all_nil]
 rw [m90,d00,← m90]
 simp!
 refine O40 (fun xs ρ z=>ZI z∧∃ (ps:List (Int × Int)) (o6 o7 o8 o9:Option S),ρ=[some .z,some (.d (.int mo)),some (.d (.int m)),some (.d (.tup (l.map D.int))),some (.d (.int wn)),some (.fr (ps.map pr)),o6,o7,o8,o9]∧(∀ p∈ps,OkP m p)∧ps.length + xs.length≤11) _ ?_ ?_ ?_
 ·exact ⟨hz1,ps,_,_,_,_,rfl,hp,by simp;omega⟩
 ·rintro x r ρ z2 ⟨hz2,ps,o6,o7,o8,o9,rfl,hp,hl⟩
  simp!
  refine (f50 _ hz2 (show 0 < m by omega) (by omega)).imp fun s z3 ⟨hz3,a,e,a0,a1⟩=>?_
  subst e
  simp!
  refine (f50 _ hz3 (show 0 < m by omega) (by omega)).imp fun s z4 ⟨hz4,b,e,b0,b1⟩=>?_
  subst e
  simp!
  cases hab:(a == b) with
  | true =>
   simp!
   exact ⟨hz4,ps,_,_,_,_,rfl,hp,by simp -dsimp only [List.length_cons] at hl;omega⟩
  | false =>
   simp!
   rw [List.length_map,if_pos (by simp -dsimp only [List.length_cons] at hl;omega)]
   refine ⟨hz4,ps++[(a,b)],_,_,_,_,by rw [List.map_append];rfl,I80 hp ⟨a0,a1,b0,b1,by simpa using hab⟩,?_⟩
   simp -dsimp only [List.length_append,List.length_cons,List.length_nil] at hl ⊢;omega
 ·rintro ρ z2 ⟨hz2,ps,o6,o7,o8,o9,rfl,hp,hl⟩
  have fin:∀ (ps:List (Int × Int)) (z3:Z),ZI z3→(∀ p∈ps,OkP m p)→ps.length≤12→WS (S40 T (k + 2 + 2)) tp (.seq (.set (.v 5) (.sl (.var 5) .nil (.cons (.var 1) .nil))) (.seq (.ret (.tup (.cons (.var 2) (.cons (.bf .tuple (.cons (.bf .sorted (.cons (.comp 2 [] (.tup (.cons (.v 0) (.cons (.v 1) .nil))) .seq (.cons (.var 5) .nil) .nil (.tup (.cons (.bf .min (.cons (.var 0) (.cons (.var 1) .nil))) (.cons (.bf .max (.cons (.var 0) (.cons (.var 1) .nil))) .nil)))) .nil)) .nil)) .nil)))) .nil))
    [some .z,some (.d (.int mo)),some (.d (.int m)),some (.d (.tup (l.map D.int))),some (.d (.int wn)),some (.fr (ps.map pr)),o6,o7,o8,o9] z3 Q NE:=fun ps z3 hz3 hp hl=>by
   have e:slD (.lst (ps.map pr)) none (some mo)=some (.fr ((ps.take mo.toNat).map pr)):=by
    show some (S.fr (cutD (ps.map pr) none (some mo)))=_
    rw [E81 _ h0,List.map_take]
   simp! [e,f10]
   rw [List.length_map,if_pos (by rw [List.length_take];omega)]
   rw [c20 (o:=fun x=>match x with | .tup [.int a,.int b]=>some (pr (min a b,max a b)) | _=>none)]
   ·have e2:List.filterMap (fun x=>match x with | D.tup [D.int a,D.int b]=>some (pr (min a b,max a b)) | _=>none) ((ps.take mo.toNat).map pr)=((ps.take mo.toNat).map fun p=>(min p.1 p.2,max p.1 p.2)).map pr:=by
     rw [List.filterMap_map,List.map_map]
     exact congrFun (List.filterMap_eq_map (f:=fun p:Int × Int=>pr (min p.1 p.2,max p.1 p.2))) _
    rw [e2]
    simp! [q41 (l:=(ps.take mo.toNat).map fun p=>(min p.1 p.2,max p.1 p.2)) (by rw [List.length_map,List.length_take];omega)]
    have hperm:=E10 ((ps.take mo.toNat).map fun p=>(min p.1 p.2,max p.1 p.2))
    have hlen:=hperm.length_eq
    rw [List.length_map,List.length_take] at hlen
    refine hq _ _ hz3 ⟨m1,m6,by omega,fun q hq=>?_,Z20 _⟩ (by omega)
    obtain ⟨p,hp',rfl⟩:=List.mem_map.mp (hperm.mem_iff.mp hq)
    obtain ⟨a0,a1,b0,b1,hab⟩:=hp p (List.mem_of_mem_take hp')
    dsimp only
    omega
   ·intro d hd
    obtain ⟨p,hp',rfl⟩:=List.mem_map.mp hd
    apply W.ok
    simp! [pr,E91]
  refine U20 (fun ρ z3=>∃ ps:List (Int × Int),ρ=[some .z,some (.d (.int mo)),some (.d (.int m)),some (.d (.tup (l.map D.int))),some (.d (.int wn)),some (.fr (ps.map pr)),o6,o7,o8,o9]∧ZI z3∧(∀ p∈ps,OkP m p)∧ps.length≤12) ?_ fun ρ z3 ⟨ps,e,hz3,hp,hl⟩=>by subst e;exact fin ps z3 hz3 hp hl
  simp! [ne_nil (q51 ps)]
  cases ps with
  | nil =>
   simp! [List.isEmpty_nil]
   exact ⟨[],rfl,hz2,hp,by simp⟩
  | cons p r =>
   simp! [List.isEmpty_cons]
   refine (f50 _ hz2 (by decide) (by decide)).imp fun s z3 ⟨hz3,a,e,a0,a1⟩=>?_
   subst e
   simp!
   cases ha:(a == 0) with
   | false =>
    simp!
    exact ⟨p::r,rfl,hz3,hp,by simp -dsimp only [List.length_nil] at hl;omega⟩
   | true =>
    simp! [List.length_map]
    refine (f50 _ hz3 (show (0:Int) < ((r.length + 1:Nat):Int) by omega) (by simp -dsimp only [List.length_cons,List.length_nil] at hl;omega)).imp fun s z4 ⟨hz4,b,e,b0,b1⟩=>?_
    subst e
    obtain ⟨j,rfl⟩:=Int.eq_ofNat_of_zero_le b0
    have hj:j < (p::r).length:=by simp -dsimp only [List.length_cons];omega
    have hg:(pr p::r.map pr)[j]?=some (pr ((p::r)[j])):=by
     have:((p::r).map pr)[j]?=some (pr ((p::r)[j])):=by rw [List.getElem?_map,List.getElem?_eq_getElem hj];rfl
     exact this
    simp! [C40 hg]
    have hb:bare (pr (p::r)[j])=true:=rfl
    simp! [hb,List.length_map]
    rw [if_pos (by simp -dsimp only [List.length_cons,List.length_nil] at hl;omega)]
    exact ⟨(p::r)++[(p::r)[j]],by rw [List.map_append];rfl,hz4,I80 hp (hp _ (List.getElem_mem hj)),by simp -dsimp only [List.length_append,List.length_cons,List.length_nil] at hl ⊢;omega⟩
theorem q81 (k:Nat) {mo:Int}{z:Z} (hz:ZI z) (h0:0≤mo) (h8:mo≤8):W (a80 T (k + 5) D60 [.z,.d (.int mo)]) z (fun s z1=>ZI z1∧∃ m ps,s=.d (P30 m ps)∧p40 m ps∧(ps.length:Int)≤mo) NE:=by
 rw [B00 (ps:=2) (ns:=10) (b:=j00) hz rfl rfl (by decide)]
 simp! [j00]
 refine (f50 _ hz (by decide) (by decide)).imp fun s z1 ⟨hz1,v,e,v0,v1⟩=>?_
 subst e
 obtain ⟨n,rfl⟩:=Int.eq_ofNat_of_zero_le v0
 obtain ⟨m,em,m1,m6⟩:=u32 n (by omega)
 simp! [C40 em]
 refine (P01 k hz1 m1 (by omega)).imp fun s z2 ⟨hz2,l,e,ll,lm,nd⟩=>?_
 subst e
 simp!
 refine (f50 _ hz2 (by decide) (by decide)).imp fun s z3 ⟨hz3,w,e,w0,w1⟩=>?_
 subst e
 obtain ⟨wn,rfl⟩:=Int.eq_ofNat_of_zero_le w0
 simp! [z70,j31,List.all_cons,List.all_nil,g02 m1 (show m < 100000 by omega)]
 have hbr:∀ n:Nat,d80 ((List.range n).map fun (k:Nat)=>D.int (1 + k))=true:=fun n=>by
  have:(List.range n).map (fun (k:Nat)=>D.int (1 + k))=((List.range n).map fun (k:Nat)=>(1 + k:Int)).map D.int:=by rw [List.map_map];rfl
  rw [this];exact d00 _
 simp! [hbr]
 refine O40 (fun xs ρ z=>ZI z∧(∀ x∈xs,∃ a:Int,x=.int a∧1≤a∧a < m)∧∃ (ps:List (Int × Int)) (o6:Option S),ρ=[some .z,some (.d (.int mo)),some (.d (.int m)),some (.d (.tup (l.map D.int))),some (.d (.int wn)),some (.fr (ps.map pr)),o6,none,none,none]∧(∀ p∈ps,OkP m p)∧ps.length + xs.length≤6) _ ?_ ?_ ?_
 ·refine ⟨hz3,fun x hx=>?_,[],none,rfl,(fun p hp=>absurd hp (by simp)),?_⟩
  ·obtain ⟨i,hi,rfl⟩:=List.mem_map.mp hx
   have:=List.mem_range.mp hi
   exact ⟨1 + i,rfl,by omega,by omega⟩
  ·simp;omega
 ·rintro x r ρ z4 ⟨hz4,hx,ps,o6,rfl,hp,hl⟩
  obtain ⟨a,rfl,a1,a2⟩:=hx x List.mem_cons_self
  obtain ⟨v,hv,va⟩:=six a a1 wn (by omega)
  obtain ⟨an,rfl⟩:=Int.eq_ofNat_of_zero_le (show 0≤a by omega)
  have ha:an < l.length:=by omega
  have hvl:v < l.length:=by omega
  simp! [q71 (u20 ha),O81 (show (0:Int) < 2 by decide) (by decide),C40 hv,q71 (u20 hvl)]
  rw [List.length_map,if_pos (by simp -dsimp only [List.length_cons] at hl;omega)]
  refine ⟨hz4,fun x hx'=>hx x (List.mem_cons_of_mem _ hx'),ps++[(l[an],l[v])],_,by rw [List.map_append];rfl,I80 hp ?_,?_⟩
  ·have h1:=lm _ (List.getElem_mem ha)
   have h2:=lm _ (List.getElem_mem hvl)
   exact ⟨h1.1,h1.2,h2.1,h2.2,E71 nd ha hvl (by omega)⟩
  ·simp -dsimp only [List.length_append,List.length_cons,List.length_nil] at hl ⊢;omega
 ·rintro ρ z4 ⟨hz4,_,ps,o6,rfl,hp,hl⟩
  have hll:1≤l.length:=by omega
  have hl':ps.length≤6:=by simp at hl;exact hl
  refine U20 (fun ρ z5=>z5=z4∧∃ ps:List (Int × Int),ρ=[some .z,some (.d (.int mo)),some (.d (.int m)),some (.d (.tup (l.map D.int))),some (.d (.int wn)),some (.fr (ps.map pr)),o6,none,none,none]∧(∀ p∈ps,OkP m p)∧ps.length≤7) ?_ ?_
  ·simp!
   cases h1:((wn:Int) == 0) with
   | false =>
    simp!
    exact ⟨ps,rfl,hp,by omega⟩
   | true =>
    simp!
    by_cases h2:2 < m
    ·have i1:0 < l.length:=by omega
     obtain ⟨mn,rfl⟩:=Int.eq_ofNat_of_zero_le (show 0≤m by omega)
     have e2:(mn:Int) - 1=((mn - 1:Nat):Int):=by omega
     have i2:mn - 1 < l.length:=by omega
     simp! [decide_eq_true h2,e2,q71 (u20 i2),show w20 (.tup (l.map D.int)) (.int 0)=some (.int l[0]) from q71 (j:=0) (u20 i1)]
     rw [List.length_map,if_pos (by omega)]
     have h3:=lm _ (List.getElem_mem i1)
     have h4:=lm _ (List.getElem_mem i2)
     exact ⟨ps++[(l[0],l[mn - 1])],by rw [List.map_append];rfl,I80 hp ⟨h3.1,h3.2,h4.1,h4.2,E71 nd i1 i2 (by omega)⟩,by simp;omega⟩
    ·simp! [decide_eq_false h2]
     exact ⟨ps,rfl,hp,by omega⟩
  ·rintro ρ z5 ⟨rfl,ps,rfl,hp,hl⟩
   refine U20 (fun ρ z6=>z6=z5∧∃ ps:List (Int × Int),ρ=[some .z,some (.d (.int mo)),some (.d (.int m)),some (.d (.tup (l.map D.int))),some (.d (.int wn)),some (.fr (ps.map pr)),o6,none,none,none]∧(∀ p∈ps,OkP m p)∧ps.length≤7) ?_ ?_
   ·simp!
    cases hw:((wn:Int) == 4) with
    | false =>
     simp!
     exact ⟨ps,rfl,hp,hl⟩
    | true =>
     have e:slD (.lst (ps.map pr)) (some 1) none=some (.fr ((ps.drop 1).map pr)):=by
      show some (S.fr (cutD (ps.map pr) (some 1) none))=_
      rw [f72,List.map_drop]
     simp! [e,f10]
     exact ⟨_,rfl,fun p hp'=>hp p (List.mem_of_mem_drop hp'),by rw [List.length_drop];omega⟩
   ·rintro ρ z6 ⟨rfl,ps,rfl,hp,hl⟩
    exact d51 (T':=T) rfl k mo h0 h8 l wn m1 m6 hz4 (fun qs z5 hz5 hg hq=>⟨hz5,m,qs,rfl,hg,hq⟩) ps o6 hp hl
set_option exponentiation.threshold 5000
theorem g12 {i j:Int} (hj:0 < j) (hb:big j):q40 .fdiv (.int i) (.int j)=some (.d (.int (i / j))):=by
 show (if 0 < j∧j.natAbs < c31 then some (S.d (.int (i / j))) else none)=_
 rw [if_pos ⟨hj,O71 (by omega) hb⟩]
theorem U80 {t b:Int} (h:0 < b):0 < ((Int.gcd t b:Nat):Int):=by
 have:=Int.gcd_pos_of_ne_zero_right (a:=t) (b:=b) (by omega)
 omega
theorem g22 {t b:Int} (h:0 < b):((Int.gcd t b:Nat):Int)≤b:=by
 have:=Int.le_of_dvd h (Int.gcd_dvd_right t b)
 exact this
theorem q91 {t b:Int} (h:0 < b) (hb:big b):big (Int.gcd t b:Int):=Int.lt_of_le_of_lt (g22 h) hb
noncomputable def t80 (t b:Int):Int × Int:=(t / Int.gcd t b,b / Int.gcd t b)
theorem P40 (k:Nat) (t b:Int) (z:Z) (h0:0 < b) (h1:big b) {Q:S→Z→Prop}{E:Nat→Z→Prop}:W (a80 T (k + 3) l00 [.d (.int t),.d (.int b)]) z Q E↔Q (.d (pr (t80 t b))) z:=by
 apply w70
 apply W.ok
 rw [b30 (ps:=2) (ns:=4) (b:=g30) rfl rfl (by decide)]
 simp! [g30]
 refine o91 (fun n ρ z1=>z1=z∧∃ c d:Int,ρ=[some (.d (.int t)),some (.d (.int b)),some (.d (.int c)),some (.d (.int d))]∧GT n c d∧Int.gcd c d=Int.gcd t b∧(d=0→0≤c)) ?_ (2 * 4000 + 1) J41 ⟨rfl,_,b,rfl,⟨by omega,.inl ⟨4000,rfl,h1⟩⟩,?_,fun h=>by omega⟩ (by decide)
 ·rintro n ρ z1 ⟨rfl,c,d,rfl,g,hg,hc⟩
  simp!
  by_cases hd:d=0
  ·subst hd
   simp!
   rw [Int.gcd_zero_right] at hg
   have e:c=((Int.gcd t b:Nat):Int):=by have:=hc rfl;omega
   rw [e]
   simp! [g12 (U80 h0) (q91 h0 h1),pr,t80]
  ·have hd':0 < d:=by have:=g.1;omega
   have e:(d == 0)=false:=by rw [beq_eq_false_iff_ne];exact hd
   simp! [e,O70 hd']
   obtain ⟨m,hm,g'⟩:=g.step hd'
   exact ⟨m,hm,d,c % d,rfl,g',(p61 c d).trans hg,fun _=>by omega⟩
 ·split
  ·rw [Int.neg_gcd]
  ·rfl
theorem A51 (k:Nat) (t b:Int) (z:Z) (h0:0 < b) (h1:big b) {Q:S→Z→Prop}{E:Nat→Z→Prop}:W (a80 T (k + 4) Y90 [.d (.int t),.d (.int b)]) z Q E↔Q (.d (pr (t80 t b))) z:=by
 apply w70
 apply W.ok
 rw [b30 (ps:=2) (ns:=3) (b:=x90) rfl rfl (by decide)]
 simp! [x90,n40 _ t b _ h0 h1,g12 (U80 h0) (q91 h0 h1),pr,t80]
theorem r01 {a b:Int} (ha:0≤a) (hb:0≤b) (h1:a≤2 ^ 32) (h2:b≤2 ^ 32):big (a * b):=by
 refine A80 ?_
 have:=Int.mul_le_mul h1 h2 hb (by decide)
 exact Int.le_trans this (by decide)
theorem small {a:Int} (h0:-(2 ^ 32)≤a) (h:a≤2 ^ 32):a.natAbs < 2 ^ 64:=by omega
noncomputable def Sm2 (c:Int × Int):Prop:=-(2 ^ 32)≤c.1∧c.1≤2 ^ 32∧0 < c.2∧c.2≤2 ^ 32
noncomputable def I90 (c d:Int × Int):Int × Int:=t80 (c.1 * d.1) (c.2 * d.2)
theorem P31 (k:Nat) {c d:Int × Int} (hc:Sm2 c) (hd:Sm2 d) (z:Z) {Q:S→Z→Prop}{E:Nat→Z→Prop}:W (a80 T (k + 5) p01 [.d (pr c),.d (pr d)]) z Q E↔Q (.d (pr (I90 c d))) z:=by
 obtain ⟨c1,c2,c3,c4⟩:=hc
 obtain ⟨d1,d2,d3,d4⟩:=hd
 apply w70
 apply W.ok
 rw [b30 (ps:=2) (ns:=2) (b:=I30) rfl rfl (by decide)]
 simp! [I30,pr,I60 (small c1 c2) (small d1 d2),I60 (small (show -(2 ^ 32)≤c.2 by omega) c4) (small (show -(2 ^ 32)≤d.2 by omega) d4),A51 _ (c.1 * d.1) (c.2 * d.2) _ (Int.mul_pos c3 d3) (r01 (by omega) (by omega) c4 d4),I90]
theorem A61 (k:Nat) {c d:Int × Int} (hc:Sm2 c) (hd:Sm2 d) (z:Z) {Q:S→Z→Prop}{E:Nat→Z→Prop}:W (a80 T (k + 4) v60 [.d (pr c),.d (pr d)]) z Q E↔Q (.d (pr (I90 c d))) z:=by
 obtain ⟨c1,c2,c3,c4⟩:=hc
 obtain ⟨d1,d2,d3,d4⟩:=hd
 apply w70
 apply W.ok
 rw [b30 (ps:=2) (ns:=2) (b:=k50) rfl rfl (by decide)]
 simp! [k50,pr,I60 (small c1 c2) (small d1 d2),I60 (small (show -(2 ^ 32)≤c.2 by omega) c4) (small (show -(2 ^ 32)≤d.2 by omega) d4),P40 _ (c.1 * d.1) (c.2 * d.2) _ (Int.mul_pos c3 d3) (r01 (by omega) (by omega) c4 d4),I90]
theorem P50 (k:Nat) (c:Int × Int) (z:Z) {Q:S→Z→Prop}{E:Nat→Z→Prop}:W (a80 T (k + 3) n30 [.d (pr c)]) z Q E↔Q (.d (.bl (decide (c.2≤1000)))) z:=by
 apply w70
 apply W.ok
 rw [b30 (ps:=1) (ns:=1) (b:=e40) rfl rfl (by decide)]
 simp! [e40,pr]
noncomputable def IsC (c:Int × Int):Prop:=1≤c.2∧c.2≤1000∧0≤c.1∧c.1≤c.2∧Int.gcd c.1 c.2=1
theorem IsC.ch {c:Int × Int} (h:IsC c):chD (pr c)=true:=by
 obtain ⟨h1,h2,h3,h4,h5⟩:=h
 show chI c.1 c.2=true
 unfold chI
 rw [h5]
 simp -dsimp only [Bool.and_eq_true,decide_eq_true_eq]
 exact ⟨⟨h1,h2⟩,⟨h3,h4⟩,rfl⟩
theorem IsC.of {c:Int × Int} (h:chD (pr c)=true):IsC c:=by
 have h:chI c.1 c.2=true:=h
 unfold chI at h
 simp -dsimp only [Bool.and_eq_true,decide_eq_true_eq,beq_iff_eq] at h
 obtain ⟨⟨h1,h2⟩,⟨h3,h4⟩,h5⟩:=h
 exact ⟨h1,h2,h3,h4,by omega⟩
theorem IsC.sm {c:Int × Int} (h:IsC c):Sm2 c:=by
 obtain ⟨h1,h2,h3,h4,h5⟩:=h
 exact ⟨by omega,by omega,by omega,by omega⟩
theorem F01 {t b:Int} (h0:0 < b) (h1:0≤t) (h2:t≤b):0 < (t80 t b).2∧0≤(t80 t b).1∧(t80 t b).1≤(t80 t b).2∧Int.gcd (t80 t b).1 (t80 t b).2=1∧(t80 t b).2≤b:=by
 have g0:=U80 (t:=t) h0
 obtain ⟨x,hx⟩:=Int.gcd_dvd_right t b
 obtain ⟨y,hy⟩:=Int.gcd_dvd_left t b
 have e1:(t80 t b).2=x:=by
  show b / Int.gcd t b=x
  conv=>lhs;lhs;rw [hx]
  exact Int.mul_ediv_cancel_left _ (by omega)
 have e2:(t80 t b).1=y:=by
  show t / Int.gcd t b=y
  conv=>lhs;lhs;rw [hy]
  exact Int.mul_ediv_cancel_left _ (by omega)
 have gg:Int.gcd (t80 t b).1 (t80 t b).2=1:=Int.gcd_ediv_gcd_ediv_gcd_of_ne_zero_right (by omega)
 rw [e1,e2] at gg ⊢
 have x0:0 < x:=by
  rcases Int.lt_trichotomy x 0 with h | h | h
  ·have:=Int.mul_neg_of_pos_of_neg g0 h;omega
  ·rw [h,Int.mul_zero] at hx;omega
  ·exact h
 have y0:0≤y:=by
  rcases Int.lt_or_le y 0 with h | h
  ·have:=Int.mul_neg_of_pos_of_neg g0 h;omega
  ·exact h
 have yx:y≤x:=by
  rcases Int.lt_or_le x y with h | h
  ·have:=Int.mul_lt_mul_of_pos_left h g0;omega
  ·exact h
 have xb:x≤b:=by
  have:1 * x≤(Int.gcd t b:Int) * x:=Int.mul_le_mul_of_nonneg_right (by omega) (by omega)
  omega
 exact ⟨x0,y0,yx,gg,xb⟩
theorem P41 {t b:Int} (h0:0 < b) (hb:b≤1000) (h1:0≤t) (h2:t≤b):IsC (t80 t b):=by
 obtain ⟨x0,y0,yx,gg,xb⟩:=F01 h0 h1 h2
 exact ⟨by omega,by omega,y0,yx,gg⟩
set_option exponentiation.threshold 5000
theorem H12 (a b:Int) (a0:0≤a) (a1:a < 12) (b0:0≤b) (b1:b < 1000) (n:Nat) (h:n < 6):∃ u:Int,[D.int 2,.int 3,.int 4,.int (1 + a),.int (1 + b),.int 1000][n]?=some (.int u)∧1≤u∧u≤1000:=by
 match n,h with
 | 0,_=>exact ⟨2,rfl,by decide,by decide⟩
 | 1,_=>exact ⟨3,rfl,by decide,by decide⟩
 | 2,_=>exact ⟨4,rfl,by decide,by decide⟩
 | 3,_=>exact ⟨1 + a,rfl,by omega,by omega⟩
 | 4,_=>exact ⟨1 + b,rfl,by omega,by omega⟩
 | 5,_=>exact ⟨1000,rfl,by decide,by decide⟩
theorem P60 (k:Nat) {z:Z} (hz:ZI z):W (a80 T (k + 4) s70 [.z]) z (fun s z1=>ZI z1∧∃ c,s=.d (pr c)∧IsC c) NE:=by
 rw [B00 (ps:=1) (ns:=3) (b:=i20) hz rfl rfl (by decide)]
 simp! [i20]
 refine (f50 _ hz (by decide) (by decide)).imp fun s z1 ⟨hz1,v,e,v0,v1⟩=>?_
 subst e
 simp!
 by_cases h2:v < 2
 ·simp! [decide_eq_true h2]
  have:v=0∨v=1:=by omega
  rcases this with rfl | rfl
  ·have e:w20 (.lst [.tup [.int 0,.int 1],.tup [.int 1,.int 1]]) (.int 0)=some (pr (0,1)):=rfl
   simp! [e,pr]
   exact ⟨hz1,(0,1),rfl,by decide,by decide,by decide,by decide,by decide⟩
  ·have e:w20 (.lst [.tup [.int 0,.int 1],.tup [.int 1,.int 1]]) (.int 1)=some (pr (1,1)):=rfl
   simp! [e,pr]
   exact ⟨hz1,(1,1),rfl,by decide,by decide,by decide,by decide,by decide⟩
 ·simp! [decide_eq_false h2]
  refine (f50 _ hz1 (by decide) (by decide)).imp fun s z2 ⟨hz2,a,e,a0,a1⟩=>?_
  subst e
  simp!
  refine (f50 _ hz2 (by decide) (by decide)).imp fun s z3 ⟨hz3,b,e,b0,b1⟩=>?_
  subst e
  obtain ⟨u,hu,u1,u2⟩:=H12 a b a0 a1 b0 b1 (v - 2).toNat (by omega)
  have e2:v - 2=((v - 2).toNat:Int):=by omega
  have e3:w20 (.lst [D.int 2,.int 3,.int 4,.int (1 + a),.int (1 + b),.int 1000]) (.int (v - 2))=some (.int u):=by rw [e2];exact C40 hu
  simp! [e3]
  refine (f50 _ hz3 (show 0 < u + 1 by omega) (by omega)).imp fun s z4 ⟨hz4,t,e,t0,t1⟩=>?_
  subst e
  simp!
  rw [P40 _ _ _ _ (by omega) (A80 (by omega))]
  simp! [pr]
  exact ⟨hz4,t80 t u,rfl,P41 (by omega) u2 t0 (by omega)⟩
theorem P70 {P:Int × Int→Prop}:∀ {xs ys:List D},PySem.Paired (fun _ y=>∃ c,y=pr c∧P c) xs ys→∃ cs:List (Int × Int),ys=cs.map pr∧cs.length=xs.length∧∀ c∈cs,P c
 | [],_,h=>by cases h;exact ⟨[],rfl,rfl,fun c hc=>absurd hc (by simp)⟩
 | x::r,_,h=>by
  cases h with
  | cons h1 h2 =>
   obtain ⟨c,rfl,hc⟩:=h1
   obtain ⟨cs,rfl,hl,ha⟩:=P70 h2
   refine ⟨c::cs,rfl,by simp [hl],fun d hd=>?_⟩
   rcases List.mem_cons.mp hd with rfl | hd
   ·exact hc
   ·exact ha d hd
theorem J00 (k:Nat) {m:Int}{ts:List D}{z:Z} (hz:ZI z) (hl:ts.length≤8):W (a80 T (k + 5) q00 [.z,.d (.tup [.int m,.tup ts])]) z (fun s z1=>ZI z1∧∃ cs:List (Int × Int),s=.d (.tup (cs.map pr))∧cs.length=ts.length∧∀ c∈cs,IsC c) NE:=by
 rw [B00 (ps:=2) (ns:=2) (b:=g50) hz rfl rfl (by decide)]
 simp! [g50]
 rw [if_pos (by omega)]
 refine Y80 (I:=ZI) (P:=fun _ y=>∃ c,y=pr c∧IsC c) hz (fun x hx z1 hz1=>?_) fun ys z1 hz1 hp=>?_
 ·simp!
  refine (P60 _ hz1).imp fun s z2 ⟨hz2,c,e,hc⟩=>?_
  subst e
  simp!
  exact ⟨hz2,_,rfl,c,rfl,hc⟩
 ·obtain ⟨cs,rfl,hl,ha⟩:=P70 hp
  simp!
  exact ⟨hz1,cs,rfl,hl,ha⟩
theorem F11 {cs:List (Int × Int)}{n:Nat} (h:cs.length=n) (ha:∀ c∈cs,IsC c):K00 n (.tup (cs.map pr))=true:=by
 unfold K00
 rw [Bool.and_eq_true,beq_iff_eq,List.length_map,List.all_eq_true]
 refine ⟨h,fun d hd=>?_⟩
 obtain ⟨c,hc,rfl⟩:=List.mem_map.mp hd
 exact (ha c hc).ch
set_option exponentiation.threshold 5000
theorem B10 {L:List D}{n:Nat}{P:D→Prop} (p:D→Bool) (h:n < L.length) (hp:L.all p=true) (q:∀ x,p x=true→P x):Get (w20 (.lst L) (.int n)) P :=
 d32 (C40 (List.getElem?_eq_getElem h)) (q _ (List.all_eq_true.mp hp _ (List.getElem_mem h)))
theorem add_l {a b:List D}:q40 .add (.lst a) (.lst b)=if a.length + b.length≤100000 then some (.fr (a++b)) else none:=rfl
theorem u42 {a b:List D}:q40 .add (.tup a) (.tup b)=if a.length + b.length≤100000 then some (.d (.tup (a++b))) else none:=rfl
theorem u52 {a:D}:q40 .mul (.tup [a]) (.int 9)=some (.d (.tup [a,a,a,a,a,a,a,a,a])):=rfl
theorem r11 (k:Nat) {z:Z} (hz:ZI z):W (a80 T (k + 4) q10 [.z]) z (fun s z1=>ZI z1∧∃ x,s=.d x∧C20 x=false) NE:=by
 rw [B00 (ps:=1) (ns:=2) (b:=g60) hz rfl rfl (by decide)]
 simp! [g60,add_l,u52]
 refine (f50 _ hz (by decide) (by decide)).imp fun s z1 ⟨hz1,v,e,v0,v1⟩=>?_
 subst e
 obtain ⟨n,rfl⟩:=Int.eq_ofNat_of_zero_le v0
 simp!
 refine B10 (fun x=>!C20 x) (by simp -dsimp only [List.length_cons,List.length_nil];omega) (by decide +kernel) fun x hx=>?_
 simp!
 exact ⟨hz1,x,rfl,by simpa using hx⟩
theorem g32:q40 .pow (.int 10) (.int 29)=some (.d (.int (10 ^ 29))):=rfl
theorem P51 {l:List D}{n:Nat}:slD (.tup l) none (some (n:Int))=some (.d (.tup (l.take n))):=by
 show some (S.d (.tup (cutD l none (some (n:Int)))))=_
 rw [E81 _ (by omega),Int.toNat_natCast]
theorem A71 (l:List D) (n:Nat):cutD l (some (n:Int)) none=l.drop n:=by
 have h1:HT.sIx l.length 0 (some (n:Int))=min n l.length:=HT.R10 l.length 0 n
 unfold cutD
 rw [h1]
 show ((l.drop (min n l.length)).take (l.length - min n l.length))=_
 rcases Nat.le_total n l.length with h | h
 ·rw [Nat.min_eq_left h,List.take_of_length_le (by rw [List.length_drop];omega)]
 ·rw [Nat.min_eq_right h,List.drop_length,List.take_nil,List.drop_of_length_le h]
theorem U90 {l:List D}{n:Nat}:slD (.tup l) (some (n:Int)) none=some (.d (.tup (l.drop n))):=by
 show some (S.d (.tup (cutD l (some (n:Int)) none)))=_
 rw [A71]
theorem A81 {l:List D}{n:Nat}:slD (.tup l) (some ((n:Int) + 1)) none=some (.d (.tup (l.drop (n + 1)))):=U90 (n:=n + 1)
theorem g42 {a b:List D} (h:a.length + b.length≤1000):q40 .add (.tup a) (.tup b)=some (.d (.tup (a++b))):=by
 rw [u42,if_pos (by omega)]
noncomputable def d61 (x:D):Prop:=x=.dct∨okD x=true
theorem u62 {x:D}{l:List D} (h:d61 x) (hl:okD (.tup l)=true):∃ b,k80 .ne x (.tup l)=some b:=by
 rcases h with rfl | h
 ·exact ⟨true,rfl⟩
 ·show ∃ b,neO x (.tup l)=some b
  unfold neO
  split
  ·exact ⟨_,rfl⟩
  ·unfold eqO
   rw [h,hl]
   exact ⟨_,rfl⟩
theorem P80:∀ {a b:List D},f70 (a++b)=(f70 a&&f70 b)
 | [],b=>by simp [f70]
 | x::a,b=>by simp -dsimp only [List.cons_append,f70,P80,Bool.and_assoc]
theorem P90:∀ {a b:List D},f30 (a++b)=Nat.max (f30 a) (f30 b)
 | [],b=>by
  show f30 b=Nat.max 0 (f30 b)
  exact (Nat.zero_max _).symm
 | x::a,b=>by
  show Nat.max (deep x) (f30 (a++b))=Nat.max (Nat.max (deep x) (f30 a)) (f30 b)
  rw [P90]
  exact (Nat.max_assoc _ _ _).symm
theorem t10 {a b:List D} (ha:G60 a=true) (hb:G60 b=true):G60 (a++b)=true:=by
 unfold G60 at ha hb ⊢
 rw [Bool.and_eq_true,decide_eq_true_eq] at ha hb ⊢
 rw [P80,P90,ha.1,hb.1]
 exact ⟨rfl,Nat.max_le.mpr ⟨ha.2,hb.2⟩⟩
theorem J10 (l:List (Int × Int)):G60 (l.map pr)=true:=by
 obtain ⟨h1,h2⟩:=P21 l
 unfold G60
 rw [h1,Bool.true_and,decide_eq_true_eq]
 omega
theorem r21 {l:List D} (h:G60 l=true):okD (.tup l)=true:=by
 unfold G60 at h
 unfold okD
 rw [Bool.and_eq_true,decide_eq_true_eq] at h ⊢
 exact ⟨h.1,by show f30 l + 1≤40;omega⟩
theorem u72 {l:List D} (h:G60 l=true):okD (.lst l)=true:=r21 h
theorem A91 {x:D} (h:p10 x=true) (h2:deep x≤39):G60 [x]=true:=by
 unfold G60
 rw [Bool.and_eq_true,decide_eq_true_eq]
 refine ⟨by show (p10 x&&true)=true;rw [h];rfl,?_⟩
 show Nat.max (deep x) 0≤39
 exact Nat.max_le.mpr ⟨h2,by omega⟩
theorem r31 {n:Nat}{l:List D} (h:l.length≠n):K00 n (.tup l)=false:=by
 unfold K00
 rw [Bool.and_eq_false_iff]
 exact .inl (beq_eq_false_iff_ne.mpr h)
theorem r41 {n:Nat}{a b:List D}{x:D} (h:chD x=false):K00 n (.tup (a++[x]++b))=false:=by
 unfold K00
 rw [Bool.and_eq_false_iff]
 refine .inr ?_
 rw [List.all_append,List.all_append]
 simp [h]
theorem J20 (k:Nat) {w:D}{cs:List (Int × Int)} (hl:cs.length≤8) {z:Z} (hz:ZI z):W (a80 T (k + 4) k40 [.z,.d w,.d (.tup (cs.map pr))]) z (fun s z1=>ZI z1∧∃ x,s=.d x∧K00 cs.length x=false∧d61 x) NE:=by
 rw [B00 (ps:=3) (ns:=6) (b:=d20) hz rfl rfl (by decide)]
 simp! [d20,List.length_map]
 refine (f50 _ hz (show (0:Int) < (cs.length:Int) + 1 by omega) (by omega)).imp fun s z1 ⟨hz1,a,e,a0,a1⟩=>?_
 subst e
 obtain ⟨an,rfl⟩:=Int.eq_ofNat_of_zero_le a0
 simp!
 refine (f50 _ hz1 (by decide) (by decide)).imp fun s z2 ⟨hz2,v,e,v0,v1⟩=>?_
 subst e
 obtain ⟨n,rfl⟩:=Int.eq_ofNat_of_zero_le v0
 simp!
 refine B10 (fun x=>!chD x&&(p10 x&&decide (deep x≤39))) (by simp -dsimp only [List.length_cons,List.length_nil];omega) (by decide +kernel) fun x hx=>?_
 simp -dsimp only [Bool.and_eq_true,Bool.not_eq_true',decide_eq_true_eq] at hx
 obtain ⟨x1,x2,x3⟩:=hx
 have hll:(cs.map pr).length=cs.length:=List.length_map _
 have ht:((cs.map pr).take an).length≤8:=by rw [List.length_take];omega
 have hd:∀ j,((cs.map pr).drop j).length≤8:=fun j=>by rw [List.length_drop];omega
 have t1:q40 .add (.tup ((cs.map pr).take an)) (.tup [x])=some (.d (.tup ((cs.map pr).take an++[x]))):=g42 (by simp -dsimp only [List.length_cons,List.length_nil];omega)
 have t2:∀ j,q40 .add (.tup ((cs.map pr).take an++[x])) (.tup ((cs.map pr).drop j))=some (.d (.tup ((cs.map pr).take an++[x]++(cs.map pr).drop j))):=fun j=>g42 (by rw [List.length_append];simp -dsimp only [List.length_cons,List.length_nil];have:=hd j;omega)
 have t3:∀ y,q40 .add (.tup (cs.map pr)) (.tup [y])=some (.d (.tup (cs.map pr++[y]))):=fun y=>g42 (by simp -dsimp only [List.length_cons,List.length_nil];omega)
 have o1:=J10 (cs.take an)
 rw [List.map_take] at o1
 have o2:∀ j,G60 ((cs.map pr).drop j)=true:=fun j=>by
  have:=J10 (cs.drop j)
  rwa [List.map_drop] at this
 have ox:=A91 x2 x3
 have n1:k80 .ne (.tup (cs.map pr)) (.tup [])=some (!(cs.map pr).isEmpty):=by
  show (eqO (.tup (cs.map pr)) (.tup [])).map (!·)=_
  unfold eqO
  rw [q61]
  cases cs <;> rfl
 simp! [-o81]
 have pre:∀ q∈[D.tup ((cs.map pr).take an++[x]++(cs.map pr).drop (an + 1)),.tup (cs.map pr++[.tup [.int 1,.int 2]]),.lst (cs.map pr),.non,.dct,.tup ((cs.map pr).take an++[x]++(cs.map pr).drop an)],K00 cs.length q=false∧d61 q:=by
  intro q hq
  simp -dsimp only [List.mem_cons,List.not_mem_nil,or_false] at hq
  rcases hq with rfl | rfl | rfl | rfl | rfl | rfl
  ·exact ⟨r41 x1,.inr (r21 (t10 (t10 o1 ox) (o2 _)))⟩
  ·exact ⟨r31 (by rw [List.length_append,hll];simp),.inr (r21 (t10 (J10 cs) (by decide)))⟩
  ·exact ⟨rfl,.inr (u72 (J10 cs))⟩
  ·exact ⟨rfl,.inr rfl⟩
  ·exact ⟨rfl,.inl rfl⟩
  ·exact ⟨r41 x1,.inr (r21 (t10 (t10 o1 ox) (o2 _)))⟩
 refine U20 (fun ρ z3=>z3=z2∧ρ=[some .z,some (.d w),some (.d (.tup (cs.map pr))),some (.d (.int an)),some (.d x),some (.fr [D.tup ((cs.map pr).take an++[x]++(cs.map pr).drop (an + 1)),.tup (cs.map pr++[.tup [.int 1,.int 2]]),.lst (cs.map pr),.non,.dct])]) ?_ ?_
 ·simp! [P51,A81,t1,t2,t3]
 ·rintro ρ z3 ⟨rfl,rfl⟩
  refine U20 (fun ρ z4=>z4=z3∧∃ (L:List D) (o5:Option S),ρ=[some .z,some (.d w),some (.d (.tup (cs.map pr))),some (.d (.int an)),some (.d x),some (.fr L)]∧L.length=7∧∀ q∈L,K00 cs.length q=false∧d61 q) ?_ ?_
  ·simp! [P51,U90,t1,t2,n1]
   have fin:∀ y,K00 cs.length y=false→d61 y→∀ q∈[D.tup ((cs.map pr).take an++[x]++(cs.map pr).drop (an + 1)),.tup (cs.map pr++[.tup [.int 1,.int 2]]),.lst (cs.map pr),.non,.dct,.tup ((cs.map pr).take an++[x]++(cs.map pr).drop an),y],K00 cs.length q=false∧d61 q:=fun y y1 y2 q hq=>by
    have hq:q∈[D.tup ((cs.map pr).take an++[x]++(cs.map pr).drop (an + 1)),.tup (cs.map pr++[.tup [.int 1,.int 2]]),.lst (cs.map pr),.non,.dct,.tup ((cs.map pr).take an++[x]++(cs.map pr).drop an)]++[y]:=hq
    rcases List.mem_append.mp hq with hq | hq
    ·exact pre q hq
    ·rw [List.mem_singleton.mp hq];exact ⟨y1,y2⟩
   cases he:(cs.map pr).isEmpty with
   | true =>
    simp! [add_l]
    exact ⟨_,none,rfl,rfl,fin .non rfl (.inr rfl)⟩
   | false =>
    simp! [add_l,f82]
    refine ⟨_,none,rfl,rfl,fin _ (r31 ?_) (.inr (r21 (o2 1)))⟩
    have:0 < (cs.map pr).length:=by
     cases h:cs.map pr with
     | nil=>rw [h] at he;cases he
     | cons a r=>simp
    rw [List.length_drop];omega
  ·rintro ρ z4 ⟨rfl,L,_,rfl,hL,all⟩
   simp!
   refine (f50 _ hz2 (by decide) (by decide)).imp fun s z3 ⟨hz3,u,e,u0,u1⟩=>?_
   subst e
   obtain ⟨un,rfl⟩:=Int.eq_ofNat_of_zero_le u0
   simp!
   refine B10 (fun x=>match x with | .int i=>decide (0≤i)&&decide (i < 7) | _=>false) (by simp -dsimp only [List.length_cons,List.length_nil];omega) (by decide) fun j hj=>?_
   cases j with
   | int i =>
    simp -dsimp only [Bool.and_eq_true,decide_eq_true_eq] at hj
    obtain ⟨i,rfl⟩:=Int.eq_ofNat_of_zero_le hj.1
    have hlt:i < L.length:=by omega
    simp! [C40 (List.getElem?_eq_getElem hlt)]
    have:=all _ (List.getElem_mem hlt)
    exact ⟨hz3,_,rfl,this.1,this.2⟩
   | _=>cases hj
set_option exponentiation.threshold 5000
noncomputable def lk (c:Int × Int):Int × Int:=(c.2 - c.1,c.2)
theorem n50 {l:List (Int × Int)}{n:Nat} (h:n < l.length):w20 (.tup (l.map pr)) (.int n)=some (pr l[n]):=q71 (by rw [List.getElem?_map,List.getElem?_eq_getElem h];rfl)
section
variable {m:Int}{ps cs:List (Int × Int)}{n:Nat}{z:Z}{Q:S→Z→Prop}{E:Nat→Z→Prop}
end
set_option exponentiation.threshold 5000
noncomputable def cu (p g:Int):Int:=if g < p then p - 1 else p
noncomputable def V00 (a b:Int):Int × Int:=(min a b,max a b)
section
variable {z:Z}{Q:S→Z→Prop}{E:Nat→Z→Prop}
theorem B20 (k:Nat) (p g:Int):W (a80 T (k + 3) m30 [.d (.int p),.d (.int g)]) z Q E↔Q (.d (.int (cu p g))) z:=by
 rw [b30 (ps:=2) (ns:=2) (b:=j80) rfl rfl (by decide)]
 unfold cu
 by_cases h:g < p
 ·simp! [j80,decide_eq_true h,if_pos h]
 ·simp! [j80,decide_eq_false h,if_neg h]
theorem Z60 (k:Nat) (a b:Int):W (a80 T (k + 3) I20 [.d (.int a),.d (.int b)]) z Q E↔Q (.d (pr (V00 a b))) z:=by
 rw [b30 (ps:=2) (ns:=2) (b:=y10) rfl rfl (by decide)]
 simp! [y10,E91,pr,V00]
theorem r51 (k:Nat) {p:Int × Int}{ns:List Int}{i j:Nat} (hi:p.1=i) (hj:p.2=j) (h1:i < ns.length) (h2:j < ns.length):W (a80 T (k + 4) O60 [.d (pr p),.d (.lst (ns.map D.int))]) z Q E↔Q (.d (pr (V00 ns[i] ns[j]))) z:=by
 rw [b30 (ps:=2) (ns:=4) (b:=s80) rfl rfl (by decide)]
 simp! [s80,pr,hi,hj,C40 (u20 h1),C40 (u20 h2),Z60]
theorem t20 (k:Nat) {m:Int}{ts:D} (x:D):W (a80 T (k + 5) s60 [.d (.tup [.int m,ts]),.d x]) z Q E↔if f40 x m then Q (.d .non) z else E 3 z:=by
 rw [b30 (ps:=2) (ns:=2) (b:=i10) rfl rfl (by decide)]
 simp! [i10,D80]
 cases f40 x m <;> simp!
end
noncomputable def b60 (n:Int) (p:Int × Int):Bool:=p.1 == n || p.2 == n
theorem F21 (n:Int) (p:Int × Int):k80 .mem (.int n) (pr p)=some (b60 n p):=by
 show some ((p.1 == n) || ((p.2 == n) || false))=_
 rw [Bool.or_false];rfl
theorem P61 (n:Int) (p:Int × Int):k80 .nmem (.int n) (pr p)=some (!b60 n p):=by
 show some (!((p.1 == n) || ((p.2 == n) || false)))=_
 rw [Bool.or_false];rfl
noncomputable def idxs (f:Int × Int→Bool):List (Int × Int)→Nat→List Nat
 | [],_=>[]
 | p::r,i=>if f p then i::idxs f r (i + 1) else idxs f r (i + 1)
theorem J30 {f:Int × Int→Bool}:∀ {r:List (Int × Int)}{s i:Nat},i∈idxs f r s→∃ j p,i=s + j∧r[j]?=some p∧f p=true
 | [],s,i,h=>by cases h
 | p::r,s,i,h=>by
  unfold idxs at h
  split at h
  ·rename_i hp
   rcases List.mem_cons.mp h with rfl | h
   ·exact ⟨0,p,rfl,rfl,hp⟩
   ·obtain ⟨j,q,e,h1,h2⟩:=J30 h
    exact ⟨j + 1,q,by omega,h1,h2⟩
  ·obtain ⟨j,q,e,h1,h2⟩:=J30 h
   exact ⟨j + 1,q,by omega,h1,h2⟩
theorem t30 {f:Int × Int→Bool}:∀ (r:List (Int × Int)) (s:Nat),(idxs f r s).length≤r.length
 | [],s=>Nat.le_refl _
 | p::r,s=>by
  have:=t30 (f:=f) r (s + 1)
  unfold idxs
  split <;> simp -dsimp only [List.length_cons] <;> omega
noncomputable def f20 (l:List Nat):List D:=l.map fun (i:Nat)=>D.int i
noncomputable def oE (f:Int × Int→Bool):D→Option D
 | .tup [i,.tup [.int a,.int b]]=>if f (a,b) then some i else none
 | _=>none
theorem J40 (f:Int × Int→Bool):∀ (r:List (Int × Int)) (s:Nat),(q50 (r.map pr) s).filterMap (oE f)=f20 (idxs f r s)
 | [],s=>rfl
 | p::r,s=>by
  show (D.tup [.int s,pr p]::q50 (r.map pr) (s + 1)).filterMap (oE f)=_
  unfold idxs
  rw [List.filterMap_cons,J40 f r (s + 1)]
  have e:oE f (.tup [.int s,pr p])=if f p then some (D.int s) else none:=rfl
  rw [e]
  by_cases h:f p=true
  ·rw [if_pos h,if_pos h];rfl
  ·rw [if_neg h,if_neg h]
theorem J50:∀ {r:List (Int × Int)}{s:Nat}{d:D},d∈q50 (r.map pr) s→∃ (i:Nat) (p:Int × Int),d=.tup [.int i,pr p]
 | [],s,d,h=>by cases h
 | p::r,s,d,h=>by
  rcases List.mem_cons.mp h with rfl | h
  ·exact ⟨s,p,rfl⟩
  ·exact J50 h
theorem m20:∀ (r:List D) (s:Nat),(q50 r s).length=r.length
 | [],s=>rfl
 | _::r,s=>by show (q50 r (s + 1)).length + 1=_;rw [m20 r];rfl
theorem l70 (l:List Nat):d80 (f20 l)=true:=by
 have:f20 l=(l.map fun (i:Nat)=>(i:Int)).map D.int:=by unfold f20;rw [List.map_map];rfl
 rw [this];exact d00 _
noncomputable def leP (a b:Int × Int):Bool:=HT.leB (ky a) (ky b)
noncomputable def atP (ps:List (Int × Int)) (p:Int × Int):Nat:=(ps.filter fun q=>leP q p).length
noncomputable def E20 (m:Int) (ps cs:List (Int × Int)) (p c:Int × Int):D:=.tup [.tup [.int m,.tup ((ps.take (atP ps p)++[p]++ps.drop (atP ps p)).map pr)],.tup ((cs.take (atP ps p)++[c]++cs.drop (atP ps p)).map pr)]
theorem u82 (p q:Int × Int):k80 .le (pr p) (pr q)=some (leP p q):=rfl
noncomputable def oF (f:Int × Int→Bool):D→Option D
 | .tup [.int a,.int b]=>if f (a,b) then some (pr (a,b)) else none
 | _=>none
theorem r61 (f:Int × Int→Bool):∀ l:List (Int × Int),(l.map pr).filterMap (oF f)=(l.filter f).map pr
 | []=>rfl
 | p::r=>by
  rw [List.map_cons,List.filterMap_cons,r61 f r]
  have e:oF f (pr p)=if f p then some (pr p) else none:=rfl
  rw [e]
  by_cases h:f p=true
  ·rw [if_pos h,List.filter_cons_of_pos h];rfl
  ·rw [if_neg h,List.filter_cons_of_neg h]
theorem V10 (k:Nat) {m:Int}{ps cs:List (Int × Int)} (h1:ps.length≤8) (h2:cs.length≤8) (p c:Int × Int) {z:Z}{Q:S→Z→Prop}{E:Nat→Z→Prop}:W (a80 T (k + 3) q70 [.d (P30 m ps),.d (.tup (cs.map pr)),.d (pr p),.d (pr c)]) z Q E↔Q (.d (E20 m ps cs p c)) z:=by
 apply w70
 apply W.ok
 rw [b30 (ps:=4) (ns:=7) (b:=m80) rfl rfl (by decide)]
 have hp:bare (.tup [.int m,.tup (ps.map pr)])=true:=by
  show (true&&(d80 (ps.map pr)&&true))=true
  rw [f10];rfl
 simp! [m80,P30,f10,List.length_map]
 rw [if_pos (show ps.length≤100000 by omega)]
 rw [c20 (o:=oF fun q=>leP q p)]
 ·rw [r61 fun q=>leP q p]
  have e:((List.map pr (ps.filter fun q=>leP q p)).length:Int)=(atP ps p:Int):=by rw [List.length_map];rfl
  simp! [e]
  unfold E20
  generalize atP ps p=n
  have t:∀ (l:List (Int × Int)) (q:Int × Int),l.length≤8→q40 .add (.tup ((l.map pr).take n)) (.tup [pr q])=some (.d (.tup ((l.map pr).take n++[pr q])))∧q40 .add (.tup ((l.map pr).take n++[pr q])) (.tup ((l.map pr).drop n))=some (.d (.tup ((l.map pr).take n++[pr q]++(l.map pr).drop n))):=fun l q hl =>
   ⟨g42 (by rw [List.length_take,List.length_map];simp -dsimp only [List.length_cons,List.length_nil];omega),g42 (by rw [List.length_append,List.length_take,List.length_drop,List.length_map];simp -dsimp only [List.length_cons,List.length_nil];omega)⟩
  simp! [P51,U90,(t ps p h1).1,(t ps p h1).2,(t cs c h2).1,(t cs c h2).2,List.map_append,List.map_take,List.map_drop]
 ·intro d hd
  obtain ⟨q,_,rfl⟩:=List.mem_map.mp hd
  apply W.ok
  simp! [u82]
  have e:oF (fun q=>leP q p) (pr q)=if leP q p then some (pr q) else none:=rfl
  rw [e]
  cases leP q p <;> simp!
noncomputable def kept (n:Int) (ps cs:List (Int × Int)):List ((Int × Int) × (Int × Int)):=(ps.zip cs).filter fun q=>!b60 n q.1
noncomputable def cuP (n:Int) (p:Int × Int):Int × Int:=(cu p.1 n,cu p.2 n)
noncomputable def w90 (n:Int) (ps cs:List (Int × Int)):List (Int × Int):=(kept n ps cs).map fun q=>cuP n q.1
noncomputable def C50 (n:Int) (ps cs:List (Int × Int)):List (Int × Int):=(kept n ps cs).map fun q=>q.2
theorem o30 {f:Int × Int→Bool}{ps:List (Int × Int)}{i:Nat} (h:i∈idxs f ps 0):∃ hi:i < ps.length,f ps[i]=true:=by
 obtain ⟨j,p,e,h1,h2⟩:=J30 h
 obtain rfl:i=j:=by omega
 obtain ⟨hi,e⟩:=List.getElem?_eq_some_iff.mp h1
 exact ⟨hi,by rw [e];exact h2⟩
theorem t40 {α:Type}{f:Int × Int→Bool} (g:Nat→α) (h:(Int × Int) × (Int × Int)→α):∀ (r c:List (Int × Int)) (s:Nat),r.length=c.length→(∀ j (h1:j < r.length) (h2:j < c.length),f r[j]=true→g (s + j)=h (r[j],c[j]))→(idxs f r s).map g=((r.zip c).filter fun q=>f q.1).map h
 | [],_,s,_,_=>rfl
 | p::r,[],s,e,_=>by cases e
 | p::r,d::c,s,e,hg=>by
  have ih:=t40 g h r c (s + 1) (by simpa using e) fun j h1 h2 hf=>by
   have:=hg (j + 1) (by simpa using h1) (by simpa using h2) (by simpa using hf)
   rw [show s + 1 + j=s + (j + 1) by omega,this];rfl
  unfold idxs
  rw [List.zip_cons_cons]
  by_cases hp:f p=true
  ·rw [if_pos hp,List.filter_cons_of_pos (by exact hp),List.map_cons,List.map_cons,ih]
   have e0:g s=h (p,d):=hg 0 (by simp) (by simp) hp
   rw [e0]
  ·rw [if_neg hp,List.filter_cons_of_neg (by exact hp),ih]
theorem u92 {n:Int}{p:Int × Int} (h:p.1 < p.2) (ht:b60 n p=false):cu p.1 n < cu p.2 n:=by
 unfold b60 at ht
 rw [Bool.or_eq_false_iff,beq_eq_false_iff_ne,beq_eq_false_iff_ne] at ht
 unfold cu
 split <;> split <;> omega
theorem B01 {a b:Int} (h:a < b):V00 a b=(a,b):=by
 unfold V00
 rw [Int.min_eq_left (by omega),Int.max_eq_right (by omega)]
theorem getD_at {l:List (Int × Int)}{i:Nat} (h:i < l.length):l.getD i (0,0)=l[i]:=by simp [h]
noncomputable def oN (f:Nat→D):D→Option D
 | .int i=>some (f i.toNat)
 | _=>none
theorem i30 (f:Nat→D):∀ l:List Nat,(f20 l).filterMap (oN f)=l.map f
 | []=>rfl
 | i::r=>by
  show ((D.int i)::f20 r).filterMap (oN f)=_
  rw [List.filterMap_cons,i30 f r];rfl
theorem g70 {l:List Nat}{d:D} (h:d∈f20 l):∃ i∈l,d=.int (i:Nat):=by
 obtain ⟨i,hi,rfl⟩:=List.mem_map.mp h
 exact ⟨i,hi,rfl⟩
theorem g80 (l:List Nat):(f20 l).length=l.length:=List.length_map _
noncomputable def P71 (m n:Nat):List Int:=(List.range m).map fun (i:Nat)=>cu i n
theorem r71 {m n i:Nat} (h:i < m):(P71 m n)[i]'(by unfold P71;simpa using h)=cu i n:=by unfold P71;simp
theorem V20 {m:Int}{ps:List (Int × Int)} (g:p40 m ps) {i:Nat} (hi:i < ps.length):∃ a b:Nat,ps[i]=((a:Int),(b:Int))∧a < b∧b < m.toNat:=by
 obtain ⟨h1,h2,h3⟩:=g.tie _ (List.getElem_mem hi)
 refine ⟨ps[i].1.toNat,ps[i].2.toNat,?_,by omega,by omega⟩
 rw [Int.toNat_of_nonneg h1,Int.toNat_of_nonneg (by omega)]
theorem x00 (k:Nat) {m:Int}{ps cs:List (Int × Int)} (g:p40 m ps) (hc:cs.length=ps.length) (n:Nat) {z:Z}{Q:S→Z→Prop}{E:Nat→Z→Prop}:W (a80 T (k + 5) h50 [.d (P30 m ps),.d (.tup (cs.map pr)),.d (.int n)]) z Q E↔Q (.d (.tup [P30 (m - 1) (w90 n ps cs),.tup ((C50 n ps cs).map pr)])) z:=by
 have h8:=g.len
 have m1:=g.m1
 have m6:=g.m6
 apply w70
 apply W.ok
 rw [b30 (ps:=3) (ns:=8) (b:=e30) rfl rfl (by decide)]
 simp! [e30,P30,f10,P00 (show 0≤m by omega) (show m < 100000 by omega),List.length_map,List.length_range]
 rw [if_pos (show m.toNat≤100000 by omega)]
 have en:(List.range m.toNat).map (fun (i:Nat)=>D.int i)=f20 (List.range m.toNat):=rfl
 rw [en,c20 (o:=oN fun (i:Nat)=>.int (cu i n))]
 ·have e1:(List.range m.toNat).map (fun (i:Nat)=>D.int (cu i n))=(P71 m.toNat n).map D.int:=by unfold P71;rw [List.map_map];rfl
  rw [i30,e1]
  simp! [d00,m20,List.length_map]
  rw [if_pos (show ps.length≤100000 by omega),c20 (o:=oE fun p=>!b60 n p)]
  ·have hl:=t30 (f:=fun p=>!b60 n p) ps 0
   have nl:(P71 m.toNat n).length=m.toNat:=by unfold P71;simp
   rw [J40]
   simp! [l70,g80]
   rw [if_pos (show (idxs (fun p=>!b60 n p) ps 0).length≤100000 by omega),c20 (o:=oN fun i=>pr (cuP n (ps.getD i (0,0))))]
   ·rw [i30,t40 _ (fun q=>pr (cuP n q.1)) ps cs 0 hc.symm fun j h1 h2 _=>by simp [h1]]
    have e2:(((ps.zip cs).filter fun q=>!b60 n q.1).map fun q=>pr (cuP n q.1))=(w90 n ps cs).map pr:=by unfold w90 kept;rw [List.map_map];rfl
    rw [e2]
    simp! [f10,g80]
    rw [if_pos (show (idxs (fun p=>!b60 n p) ps 0).length≤100000 by omega),c20 (o:=oN fun i=>pr (cs.getD i (0,0)))]
    ·rw [i30,t40 _ (fun q=>pr q.2) ps cs 0 hc.symm fun j h1 h2 _=>by simp [h2]]
     have e3:(((ps.zip cs).filter fun q=>!b60 n q.1).map fun q=>pr q.2)=(C50 n ps cs).map pr:=by unfold C50 kept;rw [List.map_map];rfl
     rw [e3]
     simp! [P30]
    ·intro d hd
     obtain ⟨i,hi,rfl⟩:=g70 hd
     obtain ⟨hi,hf⟩:=o30 hi
     have hi':i < cs.length:=by omega
     apply W.ok
     simp! [n50 hi',oN,Int.toNat_natCast,getD_at hi']
   ·intro d hd
    obtain ⟨i,hi,rfl⟩:=g70 hd
    obtain ⟨hi,hf⟩:=o30 hi
    obtain ⟨a,b,e,ab,bm⟩:=V20 g hi
    apply W.ok
    simp! [n50 hi]
    rw [r51 _ (show ps[i].1=(a:Int) by rw [e]) (show ps[i].2=(b:Int) by rw [e]) (by omega) (by omega),r71 (by omega),r71 (by omega)]
    have hp:ps[i].1 < ps[i].2:=(g.tie _ (List.getElem_mem hi)).2.1
    have e4:=B01 (u92 (n:=(n:Int)) hp (by simpa using hf))
    rw [e] at e4
    rw [e4]
    simp! [oN,Int.toNat_natCast,getD_at hi,cuP,e]
  ·intro d hd
   obtain ⟨i,p,rfl⟩:=J50 hd
   apply W.ok
   simp! [P61]
   have e:oE (fun p=>!b60 n p) (.tup [.int i,pr p])=if !b60 n p then some (.int i) else none:=rfl
   rw [e]
   cases b60 n p <;> simp!
 ·intro d hd
  obtain ⟨i,hi,rfl⟩:=g70 hd
  apply W.ok
  simp! [B20,oN,Int.toNat_natCast]
theorem x10 (k:Nat) {m:Int}{ps cs:List (Int × Int)} (g:p40 m ps) (hc:cs.length=ps.length) (n:Nat) {z:Z}{Q:S→Z→Prop}{E:Nat→Z→Prop}:W (a80 T (k + 5) h50 [.d (.tup [.int m,.tup (ps.map pr)]),.d (.tup (cs.map pr)),.d (.int n)]) z Q E↔Q (.d (.tup [.tup [.int (m - 1),.tup ((w90 n ps cs).map pr)],.tup ((C50 n ps cs).map pr)])) z:=x00 k g hc n
theorem V30 (k:Nat) {m:Int}{ps cs:List (Int × Int)} (h1:ps.length≤8) (h2:cs.length≤8) (p c:Int × Int) {z:Z}{Q:S→Z→Prop}{E:Nat→Z→Prop}:W (a80 T (k + 3) q70 [.d (.tup [.int m,.tup (ps.map pr)]),.d (.tup (cs.map pr)),.d (pr p),.d (pr c)]) z Q E↔Q (.d (E20 m ps cs p c)) z:=V10 k h1 h2 p c
set_option exponentiation.threshold 5000
theorem F31 (p:Int × Int):bfD .sum [pr p]=some (.d (.int (p.1 + p.2))):=by
 show some (S.d (.int (p.1 + (p.2 + 0))))=_
 rw [Int.add_zero]
theorem P81 {a b:Int × Int} (ha:IsC a) (hb:IsC b):chD (pr (I90 a b))=decide ((I90 a b).2≤1000):=by
 obtain ⟨a1,a2,a3,a4,a5⟩:=ha
 obtain ⟨b1,b2,b3,b4,b5⟩:=hb
 have h0:0 < a.2 * b.2:=Int.mul_pos (by omega) (by omega)
 have h1:0≤a.1 * b.1:=Int.mul_nonneg a3 b3
 have h2:a.1 * b.1≤a.2 * b.2:=Int.mul_le_mul a4 b4 b3 (by omega)
 obtain ⟨x0,y0,yx,gg,_⟩:=F01 h0 h1 h2
 have x0:0 < (I90 a b).2:=x0
 have y0:0≤(I90 a b).1:=y0
 have yx:(I90 a b).1≤(I90 a b).2:=yx
 have gg:Int.gcd (I90 a b).1 (I90 a b).2=1:=gg
 generalize I90 a b=q at x0 y0 yx gg
 show chI q.1 q.2=decide (q.2≤1000)
 unfold chI
 rw [gg,decide_eq_true (show 1≤q.2 by omega),decide_eq_true y0,decide_eq_true yx]
 cases decide (q.2≤1000) <;> rfl
noncomputable def u30 (n:Int) (ps:List (Int × Int)) (i:Nat):Int:=(ps.getD i (0,0)).1 + (ps.getD i (0,0)).2 - n
theorem y20 (n:Int) {ps cs:List (Int × Int)} (h:ps.length≤8):(w90 n ps cs).length≤8∧(C50 n ps cs).length≤8:=by
 have h1:(kept n ps cs).length≤8:=by
  refine Nat.le_trans (List.length_filter_le _ _) ?_
  rw [List.length_zip];omega
 unfold w90 C50
 rw [List.length_map,List.length_map]
 exact ⟨h1,h1⟩
noncomputable def R71 (m:Int) (ps cs:List (Int × Int)) (n:Int) (i j:Nat):D:=E20 (m - 1) (w90 n ps cs) (C50 n ps cs) (V00 (cu (u30 n ps i) n) (cu (u30 n ps j) n)) (I90 (cs.getD i (0,0)) (cs.getD j (0,0)))
section
variable {m:Int}{ps cs:List (Int × Int)}{n:Nat}{z:Z}{Q:S→Z→Prop}{E:Nat→Z→Prop}
theorem V40 (k:Nat) (g:p40 m ps) (hc:cs.length=ps.length) (ha:∀ c∈cs,IsC c) {x:D} (hx:f40 x m=false):W (a80 T (k + 11) a70 [.d (P30 m ps),.d (.tup (cs.map pr)),.d x]) z Q E↔E 3 z:=by
 have hw:=g.web
 have hch:=F11 hc ha
 rw [b30 (ps:=3) (ns:=9) (b:=c80) rfl rfl (by decide)]
 unfold P30 at hw ⊢
 simp! [c80,k00 _ hw,List.length_map,hch,t20,hx]
theorem J60 (k:Nat) (g:p40 m ps) {y:D} (hy:K00 ps.length y=false) {x:D}:W (a80 T (k + 11) a70 [.d (P30 m ps),.d y,.d x]) z Q E↔E 6 z:=by
 have hw:=g.web
 rw [b30 (ps:=3) (ns:=9) (b:=c80) rfl rfl (by decide)]
 unfold P30 at hw ⊢
 simp! [c80,k00 _ hw,List.length_map,hy]
theorem Q00 (k:Nat) {w y x:D} (hw:C20 w=false):W (a80 T (k + 11) a70 [.d w,.d y,.d x]) z Q E↔E 0 z:=by
 rw [b30 (ps:=3) (ns:=9) (b:=c80) rfl rfl (by decide)]
 simp! [c80,w80 _ hw]
theorem u40 (k:Nat) (g:p40 m ps) (hc:cs.length=ps.length) (ha:∀ c∈cs,IsC c) (hn:(n:Int) < m):W (a80 T (k + 11) a70 [.d (P30 m ps),.d (.tup (cs.map pr)),.d (.int n)]) z Q E↔match idxs (b60 n) ps 0 with
  | [i,j]=>if u30 n ps i=u30 n ps j then E 4 z else if (I90 (cs.getD i (0,0)) (cs.getD j (0,0))).2≤1000 then Q (.d (R71 m ps cs n i j)) z else E 5 z
  | _=>E 4 z:=by
 have hw:=g.web
 have hch:=F11 hc ha
 have h8:=g.len
 rw [b30 (ps:=3) (ns:=9) (b:=c80) rfl rfl (by decide)]
 have hb:f40 (.int n) m=true:=by unfold f40;simp;omega
 have hl:=t30 (f:=b60 n) ps 0
 unfold P30 at hw ⊢
 simp! [c80,k00 _ hw,List.length_map,hch,t20,hb,m20]
 rw [if_pos (show ps.length≤100000 by omega),c20 (o:=oE (b60 n))]
 ·rw [J40]
  simp! [l70,g80]
  rw [if_pos (show (idxs (b60 n) ps 0).length≤100000 by omega),c20 (o:=oN fun i=>.int (u30 n ps i))]
  ·rw [i30]
   have hm:∀ i∈idxs (b60 n) ps 0,i < ps.length:=fun i hi=>(o30 hi).1
   generalize idxs (b60 n) ps 0=own at hm hl
   by_cases h2:own.length=2
   ·match own,h2 with
    | [i,j],_ =>
     have hi:i < cs.length:=by have:=hm i (by simp);omega
     have hj:j < cs.length:=by have:=hm j (by simp);omega
     have ci:=ha _ (List.getElem_mem hi)
     have cj:=ha _ (List.getElem_mem hj)
     simp! [f20]
     by_cases he:u30 n ps i=u30 n ps j
     ·rw [if_pos he,beq_iff_eq.mpr he]
      simp!
     ·rw [if_neg he,beq_eq_false_iff_ne.mpr he]
      simp! [n50 hi,n50 hj,P31 _ ci.sm cj.sm,C30,P81 ci cj,U70,getD_at hi,getD_at hj]
      by_cases h5:(I90 cs[i] cs[j]).2≤1000
      ·rw [if_pos h5,decide_eq_true h5]
       simp! [x10 _ g hc,B20,Z60,f10,U70,V30 _ (y20 n h8).1 (y20 n h8).2,R71,getD_at hi,getD_at hj]
      ·rw [if_neg h5,decide_eq_false h5]
       simp!
   ·have e:(((own.map fun i=>D.int (u30 n ps i)).length:Int) == 2)=false:=by
     rw [beq_eq_false_iff_ne,List.length_map];omega
    have b:d80 (own.map fun i=>D.int (u30 n ps i))=true:=by
     have:(own.map fun i=>D.int (u30 n ps i))=(own.map (u30 n ps)).map D.int:=by rw [List.map_map];rfl
     rw [this];exact d00 _
    simp! [b,e]
    match own,h2 with
    | [],_=>exact Iff.rfl
    | [_],_=>exact Iff.rfl
    | [_,_],h=>exact absurd rfl h
    | _::_::_::_,_=>exact Iff.rfl
  ·intro d hd
   obtain ⟨i,hi,rfl⟩:=g70 hd
   obtain ⟨hi,hf⟩:=o30 hi
   apply W.ok
   simp! [n50 hi,F31,oN,Int.toNat_natCast,u30,getD_at hi]
 ·intro d hd
  obtain ⟨i,p,rfl⟩:=J50 hd
  apply W.ok
  simp! [F21]
  have e:oE (b60 n) (.tup [.int i,pr p])=if b60 n p then some (.int i) else none:=rfl
  rw [e]
  cases b60 n p <;> simp!
end
set_option exponentiation.threshold 5000
open MySort (d70)
theorem Z70 (a b:Int) (x y:List Int):d70 (a::x) (b::y)=if a=b then d70 x y else decide (a < b):=rfl
theorem V50:∀ {u v x y:List Int},u.length=v.length→d70 (u++x) (v++y)=if u=v then d70 x y else d70 u v
 | [],[],x,y,_=>rfl
 | [],_::_,_,_,h=>by cases h
 | _::_,[],_,_,h=>by cases h
 | a::u,b::v,x,y,h=>by
  rw [List.cons_append,List.cons_append,Z70,Z70,V50 (by simpa using h)]
  by_cases hab:a=b
  ·subst hab
   simp
  ·simp [hab]
mutual
noncomputable def shp:D→D→Bool
 | .int _,.int _=>true
 | .tup a,.tup b=>i22 a b
 | _,_=>false
noncomputable def i22:List D→List D→Bool
 | [],[]=>true
 | x::r,y::q=>shp x y&&i22 r q
 | _,_=>false
end
structure Alike (e t:Bool) (l:Option Bool) (u v:List Int):Prop where
 len:u.length=v.length
 eq:e=decide (u=v)
 lt:l=some (d70 u v)
 te:t=decide (u=v)
mutual
theorem r81:∀ x y:D,shp x y=true→Alike (eqD x y) (eqT x y) (ltD x y) (flt x) (flt y)
 | .int i,y,h=>by
  cases y with
  | int j =>
   refine ⟨rfl,?_,?_,?_⟩
   ·show (i == j)=decide ([i]=[j])
    rw [Bool.beq_eq_decide_eq];simp
   ·show some (decide (i < j))=some (if i=j then false else decide (i < j))
    split
    ·rename_i e;subst e;simp
    ·rfl
   ·show (i == j)=decide ([i]=[j])
    rw [Bool.beq_eq_decide_eq];simp
  | _=>cases h
 | .tup a,y,h=>by
  cases y with
  | tup b=>exact r91 a b h
  | _=>cases h
 | .non,y,h=>by cases y <;> cases h
 | .bl _,y,h=>by cases y <;> cases h
 | .str _,y,h=>by cases y <;> cases h
 | .lst _,y,h=>by cases y <;> cases h
 | .dct,y,h=>by cases y <;> cases h
theorem r91:∀ a b:List D,i22 a b=true→Alike (J21 a b) (j21 a b) (x41 a b) (e21 a) (e21 b)
 | [],[],_=>⟨rfl,rfl,rfl,rfl⟩
 | [],_::_,h=>by cases h
 | _::_,[],h=>by cases h
 | x::r,y::q,h=>by
  have h:(shp x y&&i22 r q)=true:=h
  rw [Bool.and_eq_true] at h
  obtain ⟨l1,e1,t1,s1⟩:=r81 x y h.1
  obtain ⟨l2,e2,t2,s2⟩:=r91 r q h.2
  have both:(decide (flt x=flt y)&&decide (e21 r=e21 q))=decide (flt x++e21 r=flt y++e21 q):=by
   rw [Bool.eq_iff_iff,Bool.and_eq_true,decide_eq_true_eq,decide_eq_true_eq,decide_eq_true_eq]
   exact ⟨fun ⟨a,b⟩=>by rw [a,b],fun e=>List.append_inj e l1⟩
  refine ⟨?_,?_,?_,?_⟩
  ·show (flt x++e21 r).length=(flt y++e21 q).length
   rw [List.length_append,List.length_append,l1,l2]
  ·show (eqD x y&&J21 r q)=_
   rw [e1,e2];exact both
  ·show (if eqD x y=true then x41 r q else ltD x y)=some (d70 (flt x++e21 r) (flt y++e21 q))
   rw [e1,t1,t2,V50 l1]
   by_cases hq:flt x=flt y <;> simp [hq]
  ·show (eqT x y&&j21 r q)=_
   rw [s1,s2];exact both
end
theorem d71 {x y:D} (h:shp x y=true) (hk:Q60 y=Q60 x):n70 x y=true:=by
 obtain ⟨_,_,h1,h2⟩:=r81 x y h
 unfold n70
 rw [h1,h2,hk,beq_self_eq_true,beq_self_eq_true,Bool.true_and,Bool.true_and]
 by_cases hq:flt x=flt y <;> simp [hq]
theorem P91 {x y:D} (h:shp x y=true) (e:flt x=flt y):x=y:=k01 x y (by rw [(r81 x y h).te,e];simp)
theorem B30 {l l':List D} (hl:l.length < 64) (ok:∀ x∈l,Q60 x < 3∧okD x=true) (sh:∀ x∈l,∀ y∈l,shp x y=true∧Q60 y=Q60 x) (hp:l'.Perm l) (hs:l'.Pairwise fun x y=>d70 (flt y) (flt x)=false):bfD .sorted [.lst l]=some (.fr l'):=by
 show (if l.length < 64∧z50 l=true then some (S.fr (B70 l)) else none)=_
 have h:z50 l=true:=by
  refine List.all_eq_true.mpr fun x hx=>?_
  rw [Bool.and_eq_true,Bool.and_eq_true,decide_eq_true_eq,List.all_eq_true]
  exact ⟨(ok x hx).1,(ok x hx).2,fun y hy=>d71 (sh x hx y hy).1 (sh x hx y hy).2⟩
 rw [if_pos ⟨hl,h⟩,y61 hp hs fun x hx y hy=>P91 (sh x hx y hy).1]
theorem Q01 (a b:Int):bfD .sorted [.lst [.int a,.int b]]=some (.fr [.int (min a b),.int (max a b)]):=by
 rcases Int.lt_or_le b a with h | h
 ·rw [Int.min_eq_right (by omega),Int.max_eq_left (by omega)]
  refine B30 (by show 2 < 64;decide) (fun x hx=>?_) (fun x hx y hy=>?_) (.swap _ _ _) ?_
  ·simp -dsimp only [List.mem_cons,List.not_mem_nil,or_false] at hx
   rcases hx with rfl | rfl <;> exact ⟨by show 0 < 3;decide,rfl⟩
  ·simp -dsimp only [List.mem_cons,List.not_mem_nil,or_false] at hx hy
   rcases hx with rfl | rfl <;> rcases hy with rfl | rfl <;> exact ⟨rfl,rfl⟩
  ·simp -dsimp only [List.pairwise_cons,List.mem_singleton,forall_eq,List.not_mem_nil,false_implies,implies_true,List.Pairwise.nil,and_true]
   show (if a=b then false else decide (a < b))=false
   split
   ·rfl
   ·simp;omega
 ·rw [Int.min_eq_left h,Int.max_eq_right h]
  refine B30 (by show 2 < 64;decide) (fun x hx=>?_) (fun x hx y hy=>?_) (.refl _) ?_
  ·simp -dsimp only [List.mem_cons,List.not_mem_nil,or_false] at hx
   rcases hx with rfl | rfl <;> exact ⟨by show 0 < 3;decide,rfl⟩
  ·simp -dsimp only [List.mem_cons,List.not_mem_nil,or_false] at hx hy
   rcases hx with rfl | rfl <;> rcases hy with rfl | rfl <;> exact ⟨rfl,rfl⟩
  ·simp -dsimp only [List.pairwise_cons,List.mem_singleton,forall_eq,List.not_mem_nil,false_implies,implies_true,List.Pairwise.nil,and_true]
   show (if b=a then false else decide (b < a))=false
   split
   ·rfl
   ·simp;omega
set_option exponentiation.threshold 5000
open MySort (d70)
noncomputable abbrev Q4:=(Int × Int) × Int × Int × (Int × Int)
noncomputable def rwD (q:Q4):D:=.tup [pr q.1,.int q.2.1,.int q.2.2.1,pr q.2.2.2]
noncomputable def kR (q:Q4):List Int:=ky q.1++[q.2.1,q.2.2.1,q.2.2.2.1,q.2.2.2.2]
theorem u50 {a b:Int × Int}:leP a b=true↔d70 (ky b) (ky a)=false:=by
 unfold leP HT.leB
 cases d70 (ky b) (ky a) <;> simp
theorem Q10 {a b c:Int × Int} (h1:leP a b=true) (h2:leP b c=true):leP a c=true:=by
 rw [u50] at *
 cases h:d70 (ky c) (ky a) with
 | false=>rfl
 | true =>
  rcases MySort.F70 _ (ky b) _ h with q | q
  ·rw [h2] at q;cases q
  ·rw [h1] at q;cases q
theorem Z80 {p:Int × Int}:∀ {ps:List (Int × Int)},ps.Pairwise (fun a b=>leP a b=true)→(∀ x∈ps.take (atP ps p),leP x p=true)∧∀ x∈ps.drop (atP ps p),leP x p=false
 | [],_=>⟨fun x h=>absurd h (by simp),fun x h=>absurd h (by simp)⟩
 | q::r,h=>by
  obtain ⟨h1,h2⟩:=List.pairwise_cons.mp h
  cases hq:leP q p with
  | true =>
   have e:atP (q::r) p=atP r p + 1:=by unfold atP;rw [List.filter_cons_of_pos (by exact hq)];rfl
   obtain ⟨i1,i2⟩:=Z80 (p:=p) h2
   rw [e]
   refine ⟨fun x hx=>?_,fun x hx=>i2 x hx⟩
   rcases List.mem_cons.mp hx with rfl | hx
   ·exact hq
   ·exact i1 x hx
  | false =>
   have no:∀ x∈q::r,leP x p=false:=fun x hx=>by
    rcases List.mem_cons.mp hx with rfl | hx
    ·exact hq
    ·cases hx':leP x p with
     | false=>rfl
     | true=>have:=Q10 (h1 x hx) hx';rw [hq] at this;cases this
   have e:atP (q::r) p=0:=by
    unfold atP
    rw [List.filter_eq_nil_iff.mpr fun x hx=>by rw [no x hx];exact Bool.false_ne_true];rfl
   rw [e]
   exact ⟨fun x hx=>absurd hx (by simp),fun x hx=>no x hx⟩
noncomputable def g00 (ps cs:List (Int × Int)):List Q4:=(List.range ps.length).map fun i=>(ps.getD i (0,0),0,(i:Int),cs.getD i (0,0))
theorem s01 (ps cs:List (Int × Int)):(g00 ps cs).map (fun q=>q.1)=ps:=by
 unfold g00
 rw [List.map_map]
 exact MySort.range_getD _ ps
theorem Q11 {ps cs:List (Int × Int)} (h:ps.length=cs.length):(g00 ps cs).map (fun q=>q.2.2.2)=cs:=by
 unfold g00
 rw [List.map_map,h]
 exact MySort.range_getD _ cs
theorem s11 {ps cs:List (Int × Int)}{q:Q4} (h:q∈g00 ps cs):q.2.1=0:=by
 obtain ⟨i,_,rfl⟩:=List.mem_map.mp h
 rfl
theorem J70 {p q:Int × Int}{x y:List Int} (h:d70 (ky p) (ky q)=false) (h2:ky p=ky q→d70 x y=false):d70 (ky p++x) (ky q++y)=false:=by
 rw [V50 (u:=ky p) (v:=ky q) rfl]
 split
 ·rename_i e;exact h2 e
 ·exact h
theorem B11 {ps cs:List (Int × Int)} (h:ps.Pairwise (fun a b=>leP a b=true)):(g00 ps cs).Pairwise fun x y=>d70 (kR y) (kR x)=false:=by
 rw [List.pairwise_iff_getElem] at h ⊢
 intro i j hi hj hij
 have hi':i < ps.length:=by unfold g00 at hi;simpa using hi
 have hj':j < ps.length:=by unfold g00 at hj;simpa using hj
 have e:∀ k (hk:k < ps.length) (hk':k < (g00 ps cs).length),(g00 ps cs)[k]=(ps[k],0,(k:Int),cs.getD k (0,0)):=fun k hk hk'=>by unfold g00;simp [hk]
 rw [e i hi',e j hj']
 refine J70 (u50.mp (h i j hi' hj' hij)) fun _=>?_
 show (if (0:Int)=0 then (if (j:Int)=i then d70 _ _ else decide ((j:Int) < i)) else decide ((0:Int) < 0))=false
 rw [if_pos rfl,if_neg (show ¬ (j:Int)=i by omega)]
 simp;omega
noncomputable def d81 (ps cs:List (Int × Int)) (p c:Int × Int):List Q4:=(g00 ps cs).take (atP ps p)++[(p,1,0,c)]++(g00 ps cs).drop (atP ps p)
theorem Q21 {ps cs:List (Int × Int)}{p c:Int × Int} (h:ps.Pairwise (fun a b=>leP a b=true)):(d81 ps cs p c).Pairwise fun x y=>d70 (kR y) (kR x)=false:=by
 have hu:=B11 (cs:=cs) h
 obtain ⟨s1,s2⟩:=Z80 (p:=p) h
 have e1:=s01 ps cs
 unfold d81
 generalize atP ps p=n at *
 rw [← List.take_append_drop n (g00 ps cs),List.pairwise_append] at hu
 obtain ⟨ua,ub,uab⟩:=hu
 have ma:∀ q∈(g00 ps cs).take n,q.1∈ps.take n∧q.2.1=0:=fun q hq=>by
  refine ⟨?_,s11 (List.mem_of_mem_take hq)⟩
  have:=List.mem_map_of_mem (f:=fun q:Q4=>q.1) hq
  rwa [List.map_take,e1] at this
 have mb:∀ q∈(g00 ps cs).drop n,q.1∈ps.drop n∧q.2.1=0:=fun q hq=>by
  refine ⟨?_,s11 (List.mem_of_mem_drop hq)⟩
  have:=List.mem_map_of_mem (f:=fun q:Q4=>q.1) hq
  rwa [List.map_drop,e1] at this
 have an:∀ q∈(g00 ps cs).take n,d70 (kR (p,1,0,c)) (kR q)=false:=fun q hq=>by
  obtain ⟨h1,h2⟩:=ma q hq
  refine J70 (u50.mp (s1 _ h1)) fun _=>?_
  rw [h2];rfl
 have nb:∀ q∈(g00 ps cs).drop n,d70 (kR q) (kR (p,1,0,c))=false:=fun q hq=>by
  obtain ⟨h1,h2⟩:=mb q hq
  have h3:=s2 _ h1
  have h4:d70 (ky p) (ky q.1)=true:=by
   cases hx:d70 (ky p) (ky q.1) with
   | true=>rfl
   | false=>rw [u50.mpr hx] at h3;cases h3
  refine J70 ?_ fun e=>?_
  ·exact u50.mp (I70 h4)
  ·have e:ky q.1=ky p:=e
   rw [e,MySort.m00] at h4;cases h4
 refine List.pairwise_append.mpr ⟨List.pairwise_append.mpr ⟨ua,List.pairwise_singleton _ _,fun x hx y hy=>?_⟩,ub,fun x hx y hy=>?_⟩
 ·rw [List.mem_singleton.mp hy];exact an x hx
 ·rcases List.mem_append.mp hx with hx | hx
  ·exact uab x hx y hy
  ·rw [List.mem_singleton.mp hx];exact nb y hy
theorem V60 {ps cs:List (Int × Int)}{p c:Int × Int} (h:ps.Pairwise (fun a b=>leP a b=true)) (h8:ps.length≤8):bfD .sorted [.lst ((g00 ps cs++[(p,1,0,c)]).map rwD)]=some (.fr ((d81 ps cs p c).map rwD)):=by
 refine B30 ?_ (fun x hx=>?_) (fun x hx y hy=>?_) (List.Perm.map _ ?_) (List.pairwise_map.mpr (Q21 h))
 ·unfold g00;simp;omega
 ·obtain ⟨q,_,rfl⟩:=List.mem_map.mp hx
  exact ⟨by show 2 < 3;decide,rfl⟩
 ·obtain ⟨q,_,rfl⟩:=List.mem_map.mp hx
  obtain ⟨r,_,rfl⟩:=List.mem_map.mp hy
  exact ⟨rfl,rfl⟩
 ·unfold d81
  rw [List.append_assoc]
  refine (List.Perm.append_left _ List.perm_append_comm).trans ?_
  rw [← List.append_assoc,List.take_append_drop]
theorem v02 {a b c d:D}{l:List D}:w20 (.tup (a::b::c::d::l)) (.int 3)=some d:=by
 show L2.atI (a::b::c::d::l) 3=some d
 exact L2.l80 (j:=3) rfl
theorem Q31 {l:List (Int × Int)}{n:Nat} (h:n < l.length):w20 (.lst (l.map pr)) (.int n)=some (pr l[n]):=C40 (by rw [List.getElem?_map,List.getElem?_eq_getElem h];rfl)
noncomputable def o0:D→Option D
 | .tup (a::_)=>some a
 | _=>none
noncomputable def o3:D→Option D
 | .tup (_::_::_::d::_)=>some d
 | _=>none
theorem s21 {α:Type}{f:α→D}{o:D→Option D}{g:α→D} (h:∀ a,o (f a)=some (g a)):∀ l:List α,(l.map f).filterMap o=l.map g
 | []=>rfl
 | a::r=>by rw [List.map_cons,List.filterMap_cons,h a,s21 h r];rfl
theorem Z90:∀ l:List Q4,d80 (l.map rwD)=true
 | []=>rfl
 | _::r=>by
  show (bare _&&d80 (r.map rwD))=true
  rw [Z90 r];rfl
theorem B21 {ps cs:List (Int × Int)}{p c:Int × Int}:(d81 ps cs p c).length≤ps.length + ps.length + 1:=by
 unfold d81 g00
 simp -dsimp only [List.length_append,List.length_take,List.length_drop,List.length_map,List.length_range,List.length_cons,List.length_nil]
 omega
theorem s31 (k:Nat) {m:Int}{ps cs:List (Int × Int)} (h:ps.Pairwise (fun a b=>leP a b=true)) (hc:ps.length=cs.length) (h8:ps.length≤8) (p c:Int × Int) {z:Z}{Q:S→Z→Prop}{E:Nat→Z→Prop}:W (a80 T (k + 3) p80 [.d (.tup [.int m,.tup (ps.map pr)]),.d (.lst (cs.map pr)),.d (pr p),.d (pr c)]) z Q E↔Q (.d (E20 m ps cs p c)) z:=by
 apply w70
 apply W.ok
 rw [b30 (ps:=4) (ns:=5) (b:=g40) rfl rfl (by decide)]
 simp! [g40,List.length_map,P00 (show (0:Int)≤(ps.length:Int) by omega) (show (ps.length:Int) < 100000 by omega),List.length_range,Int.toNat_natCast]
 have en:(List.range ps.length).map (fun (i:Nat)=>D.int i)=f20 (List.range ps.length):=rfl
 have hl:(d81 ps cs p c).length≤100000:=Nat.le_trans B21 (by omega)
 rw [if_pos (show ps.length≤100000 by omega),en,c20 (o:=oN fun i=>rwD (ps.getD i (0,0),0,(i:Int),cs.getD i (0,0)))]
 ·have e1:((List.range ps.length).map fun i=>rwD (ps.getD i (0,0),0,(i:Int),cs.getD i (0,0)))=(g00 ps cs).map rwD:=by unfold g00;rw [List.map_map];rfl
  have e2:(g00 ps cs).map rwD++[.tup [pr p,.int 1,.int 0,pr c]]=(g00 ps cs++[(p,1,0,c)]).map rwD:=by rw [List.map_append];rfl
  have e3:(g00 ps cs).length=ps.length:=by unfold g00;simp
  rw [i30,e1]
  simp! [add_l,List.length_map,e3]
  rw [if_pos (show ps.length≤99999 by omega),e2]
  simp! [Z90,V60 h h8,List.length_map]
  rw [if_pos hl,c20 (o:=o0)]
  ·rw [s21 (f:=rwD) (o:=o0) (g:=fun q:Q4=>pr q.1) fun q=>rfl]
   simp! [List.length_map]
   rw [if_pos hl,c20 (o:=o3)]
   ·rw [s21 (f:=rwD) (o:=o3) (g:=fun q:Q4=>pr q.2.2.2) fun q=>rfl]
    simp!
    have f1:(d81 ps cs p c).map (fun q=>pr q.1)=(ps.take (atP ps p)++[p]++ps.drop (atP ps p)).map pr:=by
     have:=congrArg (List.map pr) (show (d81 ps cs p c).map (fun q=>q.1)=ps.take (atP ps p)++[p]++ps.drop (atP ps p) by
      unfold d81;rw [List.map_append,List.map_append,List.map_take,List.map_drop,s01];rfl)
     rw [← this,List.map_map];rfl
    have f2:(d81 ps cs p c).map (fun q=>pr q.2.2.2)=(cs.take (atP ps p)++[c]++cs.drop (atP ps p)).map pr:=by
     have:=congrArg (List.map pr) (show (d81 ps cs p c).map (fun q=>q.2.2.2)=cs.take (atP ps p)++[c]++cs.drop (atP ps p) by
      unfold d81;rw [List.map_append,List.map_append,List.map_take,List.map_drop,Q11 hc];rfl)
     rw [← this,List.map_map];rfl
    rw [f1,f2];rfl
   ·intro d hd
    obtain ⟨q,_,rfl⟩:=List.mem_map.mp hd
    apply W.ok
    simp! [rwD,v02,o3]
  ·intro d hd
   obtain ⟨q,_,rfl⟩:=List.mem_map.mp hd
   apply W.ok
   simp! [rwD,o0]
 ·intro d hd
  obtain ⟨i,hi,rfl⟩:=g70 hd
  have hi:i < ps.length:=List.mem_range.mp hi
  have hi':i < cs.length:=by omega
  apply W.ok
  simp! [n50 hi,Q31 hi',oN,Int.toNat_natCast,getD_at hi,getD_at hi',rwD]
set_option exponentiation.threshold 5000
open MySort (d70)
theorem g52 {p q:Int × Int}:leP p q=true↔p.1 < q.1∨(p.1=q.1∧p.2≤q.2):=by
 rw [u50]
 unfold ky
 rw [x42]
 split
 ·split
  ·simp;omega
  ·simp;omega
 ·simp;omega
theorem g62:∀ {l:List (Int × Int)},Ch l→l.Pairwise (fun a b=>leP a b=true)
 | [],_=>.nil
 | [_],_=>List.pairwise_singleton _ _
 | a::b::r,h=>by
  have ih:=g62 h.2
  refine List.pairwise_cons.mpr ⟨fun x hx=>?_,ih⟩
  rcases List.mem_cons.mp hx with rfl | hx
  ·exact h.1
  ·exact Q10 h.1 ((List.pairwise_cons.mp ih).1 x hx)
theorem Q41 {a b n:Int} (h:a≤b):cu a n≤cu b n:=by
 unfold cu
 split <;> split <;> omega
theorem g72 {a b n:Int} (h:a < b) (h1:a≠n) (h2:b≠n):cu a n < cu b n:=by
 unfold cu
 split <;> split <;> omega
theorem g82 {n:Int}{p q:Int × Int} (hp:b60 n p=false) (hq:b60 n q=false) (h:leP p q=true):leP (cuP n p) (cuP n q)=true:=by
 unfold b60 at hp hq
 rw [Bool.or_eq_false_iff,beq_eq_false_iff_ne,beq_eq_false_iff_ne] at hp hq
 rw [g52] at h ⊢
 rcases h with h | ⟨h1,h2⟩
 ·exact .inl (g72 h hp.1 hq.1)
 ·exact .inr ⟨congrArg (cu · n) h1,Q41 h2⟩
theorem Q51 {m:Int}{ps cs:List (Int × Int)} (g:p40 m ps) (hc:cs.length=ps.length) (n:Int):(w90 n ps cs).Pairwise (fun a b=>leP a b=true):=by
 unfold w90 kept
 rw [List.pairwise_map,List.pairwise_filter]
 have h:((ps.zip cs).map Prod.fst).Pairwise (fun a b=>leP a b=true):=by rw [List.map_fst_zip (by omega)];exact g62 g.ch
 rw [List.pairwise_map] at h
 exact h.imp fun {a b} h1 h2 h3=>g82 (by simpa using h2) (by simpa using h3) h1
noncomputable def oI (b:Nat→Bool):D→Option D
 | .int i=>if b i.toNat then some (.int i) else none
 | _=>none
theorem q80 (b:Nat→Bool):∀ l:List Nat,(f20 l).filterMap (oI b)=f20 (l.filter b)
 | []=>rfl
 | i::r=>by
  show ((D.int i)::f20 r).filterMap (oI b)=_
  have e:oI b (.int i)=if b i then some (D.int i) else none:=rfl
  rw [List.filterMap_cons,q80 b r,e]
  by_cases h:b i=true
  ·rw [if_pos h,List.filter_cons_of_pos h];rfl
  ·rw [if_neg h,List.filter_cons_of_neg h]
theorem B40 {f:Int × Int→Bool}{full:Nat→Bool}:∀ (r:List (Int × Int)) (s:Nat),(∀ j (h:j < r.length),full (s + j)=f r[j])→(List.range' s r.length).filter full=idxs f r s
 | [],s,_=>rfl
 | p::r,s,h=>by
  have ih:=B40 (f:=f) (full:=full) r (s + 1) fun j hj=>by
   have:=h (j + 1) (by simpa using hj)
   rw [show s + 1 + j=s + (j + 1) by omega,this];rfl
  have h0:full s=f p:=h 0 (by simp)
  unfold idxs
  rw [List.length_cons,List.range'_succ]
  by_cases hp:f p=true
  ·rw [if_pos hp,List.filter_cons_of_pos (by rw [h0];exact hp),ih]
  ·rw [if_neg hp,List.filter_cons_of_neg (by rw [h0];exact hp),ih]
theorem u60 {f:Int × Int→Bool}{full:Nat→Bool}{ps:List (Int × Int)} (h:∀ j (h:j < ps.length),full j=f ps[j]):(List.range ps.length).filter full=idxs f ps 0:=by
 rw [List.range_eq_range']
 exact B40 ps 0 fun j hj=>by rw [Nat.zero_add];exact h j hj
theorem B31 {f:Int × Int→Bool}{ps:List (Int × Int)}{i:Nat} (hi:i < ps.length):(idxs f ps 0).contains i=f ps[i]:=by
 rw [← u60 (full:=fun i=>f (ps.getD i (0,0))) fun j hj=>by rw [getD_at hj]]
 rw [Bool.eq_iff_iff,List.contains_iff_mem,List.mem_filter,List.mem_range,getD_at hi]
 exact ⟨fun h=>h.2,fun h=>⟨hi,h⟩⟩
theorem s41 (l:List Nat):G60 (f20 l)=true:=by
 have e:f20 l=(l.map fun (i:Nat)=>(i:Int)).map D.int:=by unfold f20;rw [List.map_map];rfl
 obtain ⟨h1,h2⟩:=U60 (l.map fun (i:Nat)=>(i:Int))
 unfold G60
 rw [e,h1,h2];rfl
theorem a01 (i:Nat):∀ l:List Nat,memD (.int i) (f20 l)=l.contains i
 | []=>rfl
 | j::r=>by
  show (((j:Int) == (i:Int)) || memD (.int i) (f20 r))=_
  rw [a01 i r,List.contains_cons]
  congr 1
  rw [Bool.eq_iff_iff,beq_iff_eq,beq_iff_eq];omega
theorem s51 (i:Nat) (l:List Nat):k80 .nmem (.int i) (.lst (f20 l))=some (!l.contains i):=by
 show (if okD (.int i)&&G60 (f20 l) then some (memD (.int i) (f20 l)) else none).map (!·)=_
 rw [s41,a01];rfl
theorem lr2 {x y:D}:lrD [x,y]=itD .rng2 [x,y]:=rfl
theorem g92 {i j:Int} (h1:-100000 < i∧i < 100000∧-100000 < j∧j < 100000):itD .rng2 [.int i,.int j]=some ((List.range (j - i).toNat).map fun (k:Nat)=>D.int (i + k)):=by
 show (if -100000 < i∧i < 100000∧-100000 < j∧j < 100000 then _ else none)=_
 rw [if_pos h1]
noncomputable def h02 (m:Int) (n:Nat):List D:=f20 (List.range n)++[.non]++(List.range (m - 1 - n).toNat).map fun (k:Nat)=>D.int ((n:Int) + k)
theorem J80 {m:Int}{n a:Nat} (hn:(n:Int) < m) (ha:(a:Int) < m) (hne:a≠n):w20 (.lst (h02 m n)) (.int a)=some (.int (cu a n)):=by
 refine C40 ?_
 have l1:(f20 (List.range n)).length=n:=by unfold f20;simp
 unfold h02 cu
 rcases Nat.lt_or_ge a n with h | h
 ·rw [List.append_assoc,List.getElem?_append_left (by rw [l1];exact h),if_neg (by omega)]
  unfold f20;simp [h]
 ·rw [List.getElem?_append_right (by rw [List.length_append,l1];simp;omega),if_pos (by omega)]
  rw [List.length_append,l1,List.length_cons,List.length_nil,List.getElem?_map,List.getElem?_range (by omega)]
  show some (D.int _)=some (D.int _)
  congr 2
  omega
theorem s61 (m:Int) (n:Nat):d80 (h02 m n)=true:=by
 have app:∀ a b:List D,d80 a=true→d80 b=true→d80 (a++b)=true:=fun a=>by
  induction a with
  | nil=>intro b _ h;exact h
  | cons x r ih =>
   intro b h1 h2
   have h1:(bare x&&d80 r)=true:=h1
   rw [Bool.and_eq_true] at h1
   show (bare x&&d80 (r++b))=true
   rw [h1.1,ih b h1.2 h2];rfl
 unfold h02
 refine app _ _ (app _ _ (l70 _) rfl) ?_
 have:((List.range (m - 1 - n).toNat).map fun (k:Nat)=>D.int ((n:Int) + k))=((List.range (m - 1 - n).toNat).map fun (k:Nat)=>((n:Int) + k)).map D.int:=by rw [List.map_map];rfl
 rw [this];exact d00 _
theorem s71 {m:Int}{ps:List (Int × Int)} (g:p40 m ps) {n i:Nat} (hi:i < ps.length) (ht:b60 n ps[i]=true):∃ x:Nat,u30 n ps i=(x:Int)∧(x:Int) < m∧x≠n:=by
 obtain ⟨a,b,e,ab,bm⟩:=V20 g hi
 unfold b60 at ht
 rw [e,Bool.or_eq_true,beq_iff_eq,beq_iff_eq] at ht
 have e2:u30 n ps i=(a:Int) + b - n:=by unfold u30;rw [getD_at hi,e]
 have ht:(a:Int)=n∨(b:Int)=n:=ht
 rw [e2]
 rcases ht with ht | ht
 ·exact ⟨b,by omega,by omega,by omega⟩
 ·exact ⟨a,by omega,by omega,by omega⟩
theorem H22 (p:Int × Int):w20 (pr p) (.int 0)=some (.int p.1):=f12
theorem H32 (p:Int × Int):w20 (pr p) (.int 1)=some (.int p.2):=p21
theorem v12 (k:Nat) {m:Int}{ps cs:List (Int × Int)}{n:Nat} (g:p40 m ps) (hc:cs.length=ps.length) (ha:∀ c∈cs,IsC c) (hn:(n:Int) < m) {z:Z}{Q:S→Z→Prop}{E:Nat→Z→Prop}:W (a80 T (k + 6) i80 [.d (.tup [.int m,.tup (ps.map pr)]),.d (.tup (cs.map pr)),.d (.int n)]) z Q E↔match idxs (b60 n) ps 0 with
  | [i,j]=>if u30 n ps i=u30 n ps j then Q (.fr [.int 4]) z else if (I90 (cs.getD i (0,0)) (cs.getD j (0,0))).2≤1000 then Q (.d (R71 m ps cs n i j)) z else Q (.fr [.int 5]) z
  | _=>Q (.fr [.int 4]) z:=by
 have h8:=g.len
 have m1:=g.m1
 have m6:=g.m6
 rw [b30 (ps:=3) (ns:=10) (b:=p00) rfl rfl (by decide)]
 have hl:=t30 (f:=b60 n) ps 0
 have en:(List.range ps.length).map (fun (i:Nat)=>D.int i)=f20 (List.range ps.length):=rfl
 have hr:=P00 (show (0:Int)≤(ps.length:Int) by omega) (show (ps.length:Int) < 100000 by omega)
 rw [Int.toNat_natCast,en] at hr
 simp! [p00,List.length_map,hr,g80,List.length_range]
 rw [if_pos (show ps.length≤100000 by omega),c20 (o:=oI fun i=>b60 n (ps.getD i (0,0)))]
 ·rw [q80,u60 (f:=b60 n) fun j hj=>by rw [getD_at hj]]
  simp! [l70,g80]
  rw [if_pos (show (idxs (b60 n) ps 0).length≤100000 by omega),c20 (o:=oN fun i=>.int (u30 n ps i))]
  ·rw [i30]
   have hm:∀ i∈idxs (b60 n) ps 0,∃ h:i < ps.length,b60 n ps[i]=true:=fun i hi=>o30 hi
   have hq:∀ i (h:i < ps.length),(idxs (b60 n) ps 0).contains i=b60 n ps[i]:=fun i hi=>B31 hi
   generalize idxs (b60 n) ps 0=own at hm hl hq
   have b:d80 (own.map fun i=>D.int (u30 n ps i))=true:=by
    have:(own.map fun i=>D.int (u30 n ps i))=(own.map (u30 n ps)).map D.int:=by rw [List.map_map];rfl
    rw [this];exact d00 _
   by_cases h2:own.length=2
   ·match own,h2 with
    | [i,j],_ =>
     obtain ⟨pi,ti⟩:=hm i (by simp)
     obtain ⟨pj,tj⟩:=hm j (by simp)
     have hi:i < cs.length:=by omega
     have hj:j < cs.length:=by omega
     have ci:=ha _ (List.getElem_mem hi)
     have cj:=ha _ (List.getElem_mem hj)
     have q0:w20 (.lst (f20 [i,j])) (.int 0)=some (.int i):=x22
     have q1:w20 (.lst (f20 [i,j])) (.int 1)=some (.int j):=x32
     obtain ⟨x,ex,xm,xn⟩:=s71 g pi ti
     obtain ⟨y,ey,ym,yn⟩:=s71 g pj tj
     simp! [g80]
     by_cases he:u30 n ps i=u30 n ps j
     ·rw [if_pos he,beq_iff_eq.mpr he]
      simp!
     ·rw [if_neg he,beq_eq_false_iff_ne.mpr he]
      simp! [q0,q1,n50 hi,n50 hj,A61 _ ci.sm cj.sm,P50,U70,getD_at hi,getD_at hj]
      by_cases h5:(I90 cs[i] cs[j]).2≤1000
      ·rw [if_pos h5,decide_eq_true h5]
       simp! [List.length_map,hr,g80,List.length_range]
       rw [if_pos (show ps.length≤100000 by omega),c20 (o:=oI fun a=>![i,j].contains a)]
       ·rw [q80,u60 (f:=fun p=>!b60 n p) fun a h=>by rw [hq a h]]
        have hr1:=P00 (show (0:Int)≤(n:Int) by omega) (show (n:Int) < 100000 by omega)
        rw [Int.toNat_natCast] at hr1
        have hr2:=g92 (i:=n) (j:=m - 1) ⟨by omega,by omega,by omega,by omega⟩
        have b1:q40 .add (.lst ((List.range n).map fun (i:Nat)=>D.int i)) (.lst [.non])=some (.fr (((List.range n).map fun (i:Nat)=>D.int i)++[.non])):=by
         rw [add_l,if_pos (by simp;omega)]
        have b2:q40 .add (.lst (((List.range n).map fun (i:Nat)=>D.int i)++[.non])) (.lst ((List.range (m - 1 - n).toNat).map fun (k:Nat)=>D.int ((n:Int) + k)))=some (.fr (h02 m n)):=by
         rw [add_l,if_pos (by simp;omega)];rfl
        have hk:=t30 (f:=fun p=>!b60 n p) ps 0
        simp! [l70,hr1,lr2,hr2,b1,b2,s61,g80]
        rw [if_pos (show (idxs (fun p=>!b60 n p) ps 0).length≤100000 by omega),c20 (o:=oN fun a=>pr (cuP n (ps.getD a (0,0))))]
        ·rw [i30,t40 _ (fun q=>pr (cuP n q.1)) ps cs 0 hc.symm fun j h1 h2 _=>by simp [h1]]
         have e2:(((ps.zip cs).filter fun q=>!b60 n q.1).map fun q=>pr (cuP n q.1))=(w90 n ps cs).map pr:=by unfold w90 kept;rw [List.map_map];rfl
         rw [e2]
         simp! [f10]
         rw [c20 (o:=oN fun a=>.int (cu a n))]
         ·rw [ex,ey]
          simp! [List.filterMap_cons,List.filterMap_nil,oN,Int.toNat_natCast,Q01,g80]
          rw [if_pos (show (idxs (fun p=>!b60 n p) ps 0).length≤100000 by omega),c20 (o:=oN fun a=>pr (cs.getD a (0,0)))]
          ·rw [i30,t40 _ (fun q=>pr q.2) ps cs 0 hc.symm fun j h1 h2 _=>by simp [h2]]
           have e3:(((ps.zip cs).filter fun q=>!b60 n q.1).map fun q=>pr q.2)=(C50 n ps cs).map pr:=by unfold C50 kept;rw [List.map_map];rfl
           rw [e3]
           have e4:D.tup [.int (min (cu x n) (cu y n)),.int (max (cu x n) (cu y n))]=pr (V00 (cu x n) (cu y n)):=rfl
           simp! [e4]
           rw [s31 _ (Q51 g hc n) (by unfold w90 C50;rw [List.length_map,List.length_map]) (y20 n h8).1]
           unfold R71
           rw [ex,ey,getD_at hi,getD_at hj]
           simp!
          ·intro d hd
           obtain ⟨a,ha',rfl⟩:=g70 hd
           obtain ⟨h1,hf⟩:=o30 ha'
           have h1':a < cs.length:=by omega
           apply W.ok
           simp! [n50 h1',oN,Int.toNat_natCast,getD_at h1']
         ·intro d hd
          rw [ex,ey] at hd
          apply W.ok
          rcases List.mem_cons.mp hd with rfl | hd
          ·simp! [J80 hn xm xn,oN,Int.toNat_natCast]
          ·rw [List.mem_singleton.mp hd]
           simp! [J80 hn ym yn,oN,Int.toNat_natCast]
        ·intro d hd
         obtain ⟨a,ha',rfl⟩:=g70 hd
         obtain ⟨h1,hf⟩:=o30 ha'
         obtain ⟨u,v,e,uv,vm⟩:=V20 g h1
         have hf':b60 n ps[a]=false:=by simpa using hf
         unfold b60 at hf'
         rw [e,Bool.or_eq_false_iff,beq_eq_false_iff_ne,beq_eq_false_iff_ne] at hf'
         have hf1:¬ (u:Int)=n:=hf'.1
         have hf2:¬ (v:Int)=n:=hf'.2
         apply W.ok
         simp! [n50 h1,e,H22,H32,J80 hn (show (u:Int) < m by omega) (show u≠n by omega),J80 hn (show (v:Int) < m by omega) (show v≠n by omega),oN,Int.toNat_natCast,getD_at h1,cuP]
         rfl
       ·intro d hd
        obtain ⟨a,ha',rfl⟩:=g70 hd
        apply W.ok
        simp! [s51]
        have e:oI (fun a=>![i,j].contains a) (.int a)=if ![i,j].contains a then some (.int a) else none:=rfl
        rw [e]
        cases [i,j].contains a <;> simp!
      ·rw [if_neg h5,decide_eq_false h5]
       simp!
   ·have e:(((own.map fun i=>D.int (u30 n ps i)).length:Int) == 2)=false:=by
     rw [beq_eq_false_iff_ne,List.length_map];omega
    have e':((own.length:Int) == 2)=false:=by rw [beq_eq_false_iff_ne];omega
    simp! [b,g80,e']
    match own,h2 with
    | [],_=>exact Iff.rfl
    | [_],_=>exact Iff.rfl
    | [_,_],h=>exact absurd rfl h
    | _::_::_::_,_=>exact Iff.rfl
  ·intro d hd
   obtain ⟨i,hi,rfl⟩:=g70 hd
   obtain ⟨hi,hf⟩:=o30 hi
   apply W.ok
   simp! [n50 hi,F31,oN,Int.toNat_natCast,u30,getD_at hi]
 ·intro d hd
  obtain ⟨i,hi,rfl⟩:=g70 hd
  have hi:i < ps.length:=List.mem_range.mp hi
  apply W.ok
  simp! [n50 hi,F21]
  have e:oI (fun i=>b60 n (ps.getD i (0,0))) (.int i)=if b60 n ps[i] then some (.int i) else none:=by
   show (if b60 n (ps.getD i (0,0)) then _ else _)=_
   rw [getD_at hi]
  rw [e]
  cases b60 n ps[i] <;> simp!
set_option exponentiation.threshold 5000
theorem eq_self {x:D} (h:okD x=true) (hs:C81 .seq x=false):k80 .eq x x=some true:=by
 show eqO x x=some true
 unfold eqO
 rw [h]
 cases x with
 | non=>rfl
 | bl b=>show some (b == b)=_;rw [beq_self_eq_true]
 | int i=>show some (i == i)=_;rw [beq_self_eq_true]
 | str s=>show some (s == s)=_;rw [beq_self_eq_true]
 | tup l=>cases hs
 | lst l=>cases hs
 | dct=>rfl
theorem d91 (a b:Bool):k80 .eq (.bl a) (.bl b)=some (a == b):=rfl
theorem v22 (a b:Bool):k80 .ne (.bl a) (.bl b)=some (!(a == b)):=rfl
theorem a11:∀ {l:List D}{d:D},d∈q90 l l→∃ x∈l,d=.tup [x,x]
 | [],d,h=>by simp [q90] at h
 | x::r,d,h=>by
  simp -dsimp only [q90,List.mem_cons] at h
  rcases h with h | h
  ·exact ⟨x,List.mem_cons_self,h⟩
  ·obtain ⟨u,hu,e⟩:=a11 h
   exact ⟨u,List.mem_cons_of_mem _ hu,e⟩
mutual
/-- tuples and plain things within one another,d at most,of no great length -/
noncomputable def flat:Nat→D→Bool
 | _,.non=>true
 | _,.bl _=>true
 | _,.int _=>true
 | _,.str _=>false
 | 0,.tup _=>false
 | d + 1,.tup l=>decide (l.length≤1000)&&Q20 d l
 | _,.lst _=>false
 | _,.dct=>false
noncomputable def Q20:Nat→List D→Bool
 | _,[]=>true
 | d,x::r=>flat d x&&Q20 d r
end
theorem Q30:∀ {d:Nat}{l:List D}{x:D},Q20 d l=true→x∈l→flat d x=true
 | d,y::r,x,h,hx=>by
  unfold Q20 at h
  rw [Bool.and_eq_true] at h
  rcases List.mem_cons.mp hx with rfl | hx
  ·exact h.1
  ·exact Q30 h.2 hx
theorem Q61:∀ (d k:Nat) (x:D) (z:Z),flat d x=true→a80 T (k + d + 3) f90 [.d x,.d x] z=some (.ok (.d (.bl true)) z):=by
 intro d
 induction d with
 | zero =>
  intro k x z h
  apply W.ok
  rw [b30 (ps:=2) (ns:=2) (b:=b90) rfl rfl (by decide)]
  cases x with
  | non=>simp! [b90,eq_self (x:=.non) rfl rfl,d91]
  | bl b=>simp! [b90,eq_self (x:=.bl b) rfl rfl,d91]
  | int i=>simp! [b90,eq_self (x:=.int i) rfl rfl,d91]
  | _=>unfold flat at h;cases h
 | succ d ih =>
  intro k x z h
  apply W.ok
  rw [b30 (ps:=2) (ns:=2) (b:=b90) rfl rfl (by decide)]
  cases x with
  | non=>simp! [b90,eq_self (x:=.non) rfl rfl,d91]
  | bl b=>simp! [b90,eq_self (x:=.bl b) rfl rfl,d91]
  | int i=>simp! [b90,eq_self (x:=.int i) rfl rfl,d91]
  | tup l =>
   unfold flat at h
   rw [Bool.and_eq_true,decide_eq_true_eq] at h
   simp! [b90,v22]
   rw [if_pos (Nat.le_trans (I40 _ _) (by omega))]
   rw [c20 (o:=fun x=>some (.bl true))]
   ·have:=Z00 (q90 l l) (fun _=>true)
    have e3:(q90 l l).all (fun _=>true)=true:=List.all_eq_true.mpr fun _ _=>rfl
    rw [e3] at this
    simp! [this]
   ·intro q hq
    obtain ⟨x,hx,rfl⟩:=a11 hq
    apply W.ok
    have e:=ih k x z (Q30 h.2 hx)
    have e':a80 T (k + (d + 1) + 2) f90 [.d x,.d x] z=some (.ok (.d (.bl true)) z):=e
    simp!
    rw [w70 e']
    simp!
  | _=>unfold flat at h;cases h
theorem a21:∀ l:List (Int × Int),Q20 1 (l.map pr)=true
 | []=>rfl
 | p::r=>by
  show (flat 1 (pr p)&&Q20 1 (r.map pr))=true
  rw [a21 r];rfl
theorem e01 {l:List (Int × Int)} (h:l.length≤1000):flat 2 (.tup (l.map pr))=true:=by
 unfold flat
 rw [List.length_map,decide_eq_true h,a21];rfl
theorem s81:∀ {l:List (Int × Int)},Q20 2 (l.map pr)=true
 | []=>rfl
 | p::r=>by
  show (flat 2 (pr p)&&Q20 2 (r.map pr))=true
  rw [s81];rfl
set_option exponentiation.threshold 5000
theorem s91 {T:List Df}{k f:Nat}{l:List S}:_root_.Q.t80 (S40 T (k + 2)) false f l=a80 T k f l:=rfl
theorem t01 (a b:Int):k80 .ne (.lst [.int a]) (.lst [.int b])=some (!(a == b)):=by
 show some (!(a == b&&true))=_
 rw [Bool.and_true]
theorem B41 {m:Int}{a b:List (Int × Int)} (l1:a.length≤1000) (l2:b.length≤1000):flat 4 (.tup [.tup [.int m,.tup (a.map pr)],.tup (b.map pr)])=true:=by
 have a2:=e01 l1
 have b3:flat 3 (.tup (b.map pr))=true:=by
  unfold flat
  rw [List.length_map,decide_eq_true l2,s81];rfl
 show (true&&(flat 3 (.tup [.int m,.tup (a.map pr)])&&(flat 3 (.tup (b.map pr))&&true)))=true
 rw [b3]
 have:flat 3 (.tup [.int m,.tup (a.map pr)])=(true&&(true&&(flat 2 (.tup (a.map pr))&&true))):=rfl
 rw [this,a2];rfl
theorem B51 {m:Int}{ps cs:List (Int × Int)}{n:Int}{i j:Nat} (h8:ps.length≤8):flat 4 (R71 m ps cs n i j)=true:=by
 obtain ⟨h1,h2⟩:=y20 (cs:=cs) n h8
 unfold R71 E20
 exact B41 (by simp -dsimp only [List.length_append,List.length_take,List.length_drop,List.length_cons,List.length_nil];omega) (by simp -dsimp only [List.length_append,List.length_take,List.length_drop,List.length_cons,List.length_nil];omega)
theorem three {m:Int}{ps cs:List (Int × Int)}{n:Nat} (g:p40 m ps) (hc:cs.length=ps.length) (ha:∀ c∈cs,IsC c) (hn:(n:Int) < m) :
  (∃ c:Nat,c < 12∧(∀ (k:Nat) {z:Z}{Q:S→Z→Prop}{E:Nat→Z→Prop},W (a80 T (k + 6) i80 [.d (.tup [.int m,.tup (ps.map pr)]),.d (.tup (cs.map pr)),.d (.int n)]) z Q E↔Q (.fr [.int c]) z)∧∀ (k:Nat) {z:Z}{Q:S→Z→Prop}{E:Nat→Z→Prop},W (a80 T (k + 11) a70 [.d (.tup [.int m,.tup (ps.map pr)]),.d (.tup (cs.map pr)),.d (.int n)]) z Q E↔E c z) ∨
  ∃ l:List D,flat 4 (.tup l)=true∧(∀ (k:Nat) {z:Z}{Q:S→Z→Prop}{E:Nat→Z→Prop},W (a80 T (k + 6) i80 [.d (.tup [.int m,.tup (ps.map pr)]),.d (.tup (cs.map pr)),.d (.int n)]) z Q E↔Q (.d (.tup l)) z)∧∀ (k:Nat) {z:Z}{Q:S→Z→Prop}{E:Nat→Z→Prop},W (a80 T (k + 11) a70 [.d (.tup [.int m,.tup (ps.map pr)]),.d (.tup (cs.map pr)),.d (.int n)]) z Q E↔Q (.d (.tup l)) z:=by
 have hd:=fun (k:Nat) (z:Z) (Q:S→Z→Prop) (E:Nat→Z→Prop)=>v12 k g hc ha hn (z:=z) (Q:=Q) (E:=E)
 have hr:=fun (k:Nat) (z:Z) (Q:S→Z→Prop) (E:Nat→Z→Prop)=>u40 k g hc ha hn (z:=z) (Q:=Q) (E:=E)
 have no:∀ own:List Nat,own.length≠2→idxs (b60 n) ps 0=own→∃ c:Nat,c < 12∧(∀ (k:Nat) {z:Z}{Q:S→Z→Prop}{E:Nat→Z→Prop},W (a80 T (k + 6) i80 [.d (.tup [.int m,.tup (ps.map pr)]),.d (.tup (cs.map pr)),.d (.int n)]) z Q E↔Q (.fr [.int c]) z)∧∀ (k:Nat) {z:Z}{Q:S→Z→Prop}{E:Nat→Z→Prop},W (a80 T (k + 11) a70 [.d (.tup [.int m,.tup (ps.map pr)]),.d (.tup (cs.map pr)),.d (.int n)]) z Q E↔E c z:=fun own h e=>by
  rw [e] at hd hr
  refine ⟨4,by decide,fun k z Q E=>(hd k z Q E).trans ?_,fun k z Q E=>(hr k z Q E).trans ?_⟩
  all_goals
   match own,h with
   | [],_=>exact Iff.rfl
   | [_],_=>exact Iff.rfl
   | [_,_],h=>exact absurd rfl h
   | _::_::_::_,_=>exact Iff.rfl
 by_cases h2:(idxs (b60 n) ps 0).length=2
 ·match he:idxs (b60 n) ps 0,h2 with
  | [i,j],_ =>
   rw [he] at hd hr
   by_cases h1:u30 n ps i=u30 n ps j
   ·exact .inl ⟨4,by decide,fun k z Q E=>(hd k z Q E).trans (iff_of_eq (if_pos h1)),fun k z Q E=>(hr k z Q E).trans (iff_of_eq (if_pos h1))⟩
   ·by_cases h5:(I90 (cs.getD i (0,0)) (cs.getD j (0,0))).2≤1000
    ·exact .inr ⟨_,B51 (m:=m) (cs:=cs) (n:=n) (i:=i) (j:=j) g.len,fun k z Q E=>(hd k z Q E).trans ((iff_of_eq (if_neg h1)).trans (iff_of_eq (if_pos h5))),fun k z Q E=>(hr k z Q E).trans ((iff_of_eq (if_neg h1)).trans (iff_of_eq (if_pos h5)))⟩
    ·exact .inl ⟨5,by decide,fun k z Q E=>(hd k z Q E).trans ((iff_of_eq (if_neg h1)).trans (iff_of_eq (if_neg h5))),fun k z Q E=>(hr k z Q E).trans ((iff_of_eq (if_neg h1)).trans (iff_of_eq (if_neg h5)))⟩
 ·exact .inl (no _ h2 rfl)
theorem Q71 (k:Nat) {m:Int}{ps cs:List (Int × Int)}{n:Nat}{z:Z} (g:p40 m ps) (hc:cs.length=ps.length) (ha:∀ c∈cs,IsC c) (hn:(n:Int) < m) (s0 o1:D) (o6 o7 o8 o9 o10:Option S) {Q:O→Z→Prop}{tp:Bool}
  (hq:∀ o6 o7 o8 o9 o10,Q (.nx [some (.d s0),some (.d o1),some .z,some (.d (.tup [.int m,.tup (ps.map pr)])),some (.d (.tup (cs.map pr))),some (.d (.int n)),o6,o7,o8,o9,o10]) z) :
  WS (S40 T (k + 11 + 2)) tp (.seq (.set (.v 6) (.call i80 (.cons (.var 3) (.cons (.var 4) (.cons (.var 5) .nil))))) (.seq (.iff (.isi .list (.var 6)) (.seq (.iff (.cmp .ne (.refd [3,4,5] (.call a70 (.cons (.var 0) (.cons (.var 1) (.cons (.var 2) .nil))))) (.var 6)) (.seq (.ret (.con (.bl false))) .nil) .nil) .nil) (.seq (.iff (.not (.call f90 (.cons (.call a70 (.cons (.var 3) (.cons (.var 4) (.cons (.var 5) .nil)))) (.cons (.var 6) .nil)))) (.seq (.ret (.con (.bl false))) .nil) .nil) .nil)) .nil))
   [some (.d s0),some (.d o1),some .z,some (.d (.tup [.int m,.tup (ps.map pr)])),some (.d (.tup (cs.map pr))),some (.d (.int n)),o6,o7,o8,o9,o10] z Q NE:=by
 rcases three g hc ha hn with ⟨c,c12,hd,hr⟩ | ⟨l,hf,hd,hr⟩
 ·simp! [hd,O50,s91,List.mapM_cons,List.mapM_nil,Option.pure_def,Option.bind_eq_bind,hr,t01,c12]
  exact hq _ _ _ _ _
 ·have hs:∀ {Q:S→Z→Prop}{E:Nat→Z→Prop},W (a80 T (k + 11 + 2) f90 [.d (.tup l),.d (.tup l)]) z Q E↔Q (.d (.bl true)) z:=fun {Q E}=>w70 (Q61 4 (k + 6) (.tup l) z hf)
  have hr2:∀ {Q:S→Z→Prop}{E:Nat→Z→Prop},W (a80 T (k + 11 + 2) a70 [.d (.tup [.int m,.tup (ps.map pr)]),.d (.tup (cs.map pr)),.d (.int n)]) z Q E↔Q (.d (.tup l)) z:=fun {Q E}=>hr (k + 2)
  simp! [hd,hr2,hs]
  exact hq _ _ _ _ _
theorem good3:p40 3 [(0,1),(1,2)]:=⟨by decide,by decide,by decide,fun p hp=>by
 simp -dsimp only [List.mem_cons,List.not_mem_nil,or_false] at hp
 rcases hp with rfl | rfl <;> decide,⟨by decide,trivial⟩⟩
theorem h32 (k:Nat) (ns:List Int):a80 T (k + 14) e92 [.d (.lst (ns.map D.int))] none=some (.ok (.d (.bl true)) none):=by
 apply W.ok
 rw [b30 (k:=k + 11) (ps:=1) (ns:=11) (b:=A21) rfl rfl (by decide)]
 unfold A21
 refine U20 (fun ρ z=>∃ o1 o2 o3 o4 o5 o6 o7 o8 o9 o10:Option S,ρ=[some (.d (.lst (ns.map D.int))),o1,o2,o3,o4,o5,o6,o7,o8,o9,o10]) ?_ ?_
 ·simp!
  have hN:∀ L:Int,0≤(if (if (8:Int) < L then 8 else L) > 1 then (if (8:Int) < L then 8 else L) else 1)∧(if (if (8:Int) < L then 8 else L) > 1 then (if (8:Int) < L then 8 else L) else 1) < 100000:=fun L=>by
   split <;> (try split) <;> omega
  obtain ⟨n0,n1⟩:=hN ((ns.map D.int).length:Int)
  rw [P00 n0 n1]
  generalize (if (if (8:Int) < ((ns.map D.int).length:Int) then 8 else ((ns.map D.int).length:Int)) > 1 then (if (8:Int) < ((ns.map D.int).length:Int) then 8 else ((ns.map D.int).length:Int)) else 1)=N
  simp! [z70,j31,List.all_cons,List.all_nil]
  rw [m90,d00,← m90]
  simp!
  refine O40 (fun xs ρ z=>(∀ x∈xs,∃ j:Nat,x=.int j)∧∃ o1 o2 o3 o4 o5 o6 o7 o8 o9 o10:Option S,ρ=[some (.d (.lst (ns.map D.int))),o1,o2,o3,o4,o5,o6,o7,o8,o9,o10]) _ ?_ ?_ ?_
  ·refine ⟨fun x hx=>?_,_,_,_,_,_,_,_,_,_,_,rfl⟩
   obtain ⟨i,_,rfl⟩:=List.mem_map.mp hx
   exact ⟨i,rfl⟩
  ·rintro x r ρ z1 ⟨hx,o1,o2,o3,o4,o5,o6,o7,o8,o9,o10,rfl⟩
   obtain ⟨j,rfl⟩:=hx x List.mem_cons_self
   obtain ⟨sn,sb,hz1,hst⟩:=O91 (k + 9) ns j z1
   simp! [hst,Option.isNone_none]
   refine (f50 _ hz1 (by decide) (by decide)).imp fun s z2 ⟨hz2,v,e,v0,v1⟩=>?_
   subst e
   obtain ⟨vn,rfl⟩:=Int.eq_ofNat_of_zero_le v0
   simp!
   refine B10 (fun x=>match x with | .int i=>decide (0≤i)&&decide (i≤8) | _=>false) (by simp -dsimp only [List.length_cons,List.length_nil];omega) (by decide) fun mo hmo=>?_
   cases mo with
   | int mo =>
    simp -dsimp only [Bool.and_eq_true,decide_eq_true_eq] at hmo
    simp!
    refine (q81 _ hz2 hmo.1 hmo.2).imp fun s z3 ⟨hz3,m,ps,e,g,_⟩=>?_
    subst e
    have h8:=g.len
    have m1:=g.m1
    have m6:=g.m6
    unfold P30
    simp! [f10]
    refine (J00 _ hz3 (ts:=ps.map pr) (by rw [List.length_map];exact g.len)).imp fun s z4 ⟨hz4,cs,e,hc,ha⟩=>?_
    subst e
    rw [List.length_map] at hc
    simp! [-o81,f10]
    refine U20 (fun ρ z5=>z5=z4∧∃ o5 o6 o7 o8 o9 o10:Option S,ρ=[some (.d (.lst (ns.map D.int))),some (.d (.int j)),some .z,some (.d (.tup [.int m,.tup (ps.map pr)])),some (.d (.tup (cs.map pr))),o5,o6,o7,o8,o9,o10]) ?_ ?_
    ·simp! [P00 (show 0≤m by omega) (show m < 100000 by omega),z70,j31,List.all_cons,List.all_nil]
     rw [m90,d00,← m90]
     simp!
     refine O40 (fun xs ρ z5=>z5=z4∧(∀ x∈xs,∃ n:Nat,x=.int n∧(n:Int) < m)∧∃ o5 o6 o7 o8 o9 o10:Option S,ρ=[some (.d (.lst (ns.map D.int))),some (.d (.int j)),some .z,some (.d (.tup [.int m,.tup (ps.map pr)])),some (.d (.tup (cs.map pr))),o5,o6,o7,o8,o9,o10]) _ ?_ ?_ ?_
     ·refine ⟨rfl,fun x hx=>?_,_,_,_,_,_,_,rfl⟩
      obtain ⟨i,hi,rfl⟩:=List.mem_map.mp hx
      have:=List.mem_range.mp hi
      exact ⟨i,rfl,by omega⟩
     ·rintro x r ρ z5 ⟨rfl,hx,o5,o6,o7,o8,o9,o10,rfl⟩
      obtain ⟨n,rfl,hn⟩:=hx x List.mem_cons_self
      simp! [-o81]
      exact Q71 k g hc ha hn _ _ _ _ _ _ _ fun o6 o7 o8 o9 o10=>⟨rfl,fun x hx'=>hx x (List.mem_cons_of_mem _ hx'),_,o6,o7,o8,o9,o10,rfl⟩
     ·rintro ρ z5 ⟨rfl,_,o5,o6,o7,o8,o9,o10,rfl⟩
      exact ⟨rfl,o5,o6,o7,o8,o9,o10,rfl⟩
    ·rintro ρ z5 ⟨rfl,o5,o6,o7,o8,o9,o10,rfl⟩
     simp!
     refine (r11 _ hz4).imp fun s z6 ⟨hz6,bw,e,hbw'⟩=>?_
     subst e
     simp! [g32]
     refine (f50 _ hz6 (by decide) (by decide)).imp fun s z7 ⟨hz7,v,e,v0,v1⟩=>?_
     subst e
     obtain ⟨vn,rfl⟩:=Int.eq_ofNat_of_zero_le v0
     simp!
     refine B10 (fun x=>!f40 x m) (by simp -dsimp only [List.length_cons,List.length_nil];omega) ?_ fun bt hbt=>?_
     ·simp [f40]
      omega
     ·have hbt:f40 bt m=false:=by simpa using hbt
      simp!
      refine (J20 _ (cs:=cs) (by omega) hz7).imp fun s z8 ⟨hz8,bc,e,hbc,hcm⟩=>?_
      subst e
      rw [hc] at hbc
      obtain ⟨tb,htb⟩:=u62 hcm (q61 cs)
      have r1:∀ (k:Nat) {z:Z}{Q:S→Z→Prop}{E:Nat→Z→Prop},W (a80 T (k + 11) a70 [.d (.tup [.int m,.tup (ps.map pr)]),.d (.tup (cs.map pr)),.d bt]) z Q E↔E 3 z:=fun k {z Q E}=>V40 k g hc ha hbt
      have r2:∀ (k:Nat) {z:Z}{Q:S→Z→Prop}{E:Nat→Z→Prop},W (a80 T (k + 11) a70 [.d (.tup [.int m,.tup (ps.map pr)]),.d bc,.d bt]) z Q E↔E 6 z:=fun k {z Q E}=>J60 k g hbc
      simp! [O50,s91,List.mapM_cons,List.mapM_nil,Option.pure_def,Option.bind_eq_bind,r1,t01,htb]
      cases tb with
      | false =>
       simp! [O50,s91,List.mapM_cons,List.mapM_nil,Option.pure_def,Option.bind_eq_bind,Q00 _ hbw',t01]
       exact ⟨fun x hx'=>hx x (List.mem_cons_of_mem _ hx'),_,_,_,_,_,_,_,_,_,_,rfl⟩
      | true =>
       simp! [O50,s91,List.mapM_cons,List.mapM_nil,Option.pure_def,Option.bind_eq_bind,r2,Q00 _ hbw',t01]
       exact ⟨fun x hx'=>hx x (List.mem_cons_of_mem _ hx'),_,_,_,_,_,_,_,_,_,_,rfl⟩
   | _=>cases hmo
  ·rintro ρ z1 ⟨_,o1,o2,o3,o4,o5,o6,o7,o8,o9,o10,rfl⟩
   exact ⟨o1,o2,o3,o4,o5,o6,o7,o8,o9,o10,rfl⟩
 ·rintro ρ z1 ⟨o1,o2,o3,o4,o5,o6,o7,o8,o9,o10,rfl⟩
  have c1:∀ c∈[((999:Int),(1000:Int)),(1,2)],IsC c:=fun c hc=>by
   simp -dsimp only [List.mem_cons,List.not_mem_nil,or_false] at hc
   rcases hc with rfl | rfl <;> exact ⟨by decide,by decide,by decide,by decide,by decide⟩
  have c2:∀ c∈[((1:Int),(2:Int)),(2,3)],IsC c:=fun c hc=>by
   simp -dsimp only [List.mem_cons,List.not_mem_nil,or_false] at hc
   rcases hc with rfl | rfl <;> exact ⟨by decide,by decide,by decide,by decide,by decide⟩
  have ei:idxs (b60 ((1:Nat):Int)) [(0,1),(1,2)] 0=[0,1]:=by decide
  have p1:∀ {z:Z}{Q:S→Z→Prop}{E:Nat→Z→Prop},W (a80 T (k + 11) a70 [.d (.tup [.int 3,.tup [.tup [.int 0,.int 1],.tup [.int 1,.int 2]]]),.d (.tup [.tup [.int 999,.int 1000],.tup [.int 1,.int 2]]),.d (.int 1)]) z Q E↔E 5 z:=fun {z Q E}=>by
   have:=u40 (z:=z) (Q:=Q) (E:=E) k good3 (cs:=[(999,1000),(1,2)]) (n:=1) rfl c1 (by decide)
   rw [ei] at this
   exact this.trans ((iff_of_eq (if_neg (by decide))).trans (iff_of_eq (if_neg (by decide))))
  have p2:∀ {z:Z}{Q:S→Z→Prop}{E:Nat→Z→Prop},W (a80 T (k + 11 + 2) a70 [.d (.tup [.int 3,.tup [.tup [.int 0,.int 1],.tup [.int 1,.int 2]]]),.d (.tup [.tup [.int 1,.int 2],.tup [.int 2,.int 3]]),.d (.int 1)]) z Q E↔Q (.d (.tup [.tup [.int 2,.tup [.tup [.int 0,.int 1]]],.tup [.tup [.int 1,.int 3]]])) z:=fun {z Q E}=>by
   have:=u40 (z:=z) (Q:=Q) (E:=E) (k + 2) good3 (cs:=[(1,2),(2,3)]) (n:=1) rfl c2 (by decide)
   rw [ei] at this
   exact this.trans ((iff_of_eq (if_neg (by decide))).trans (iff_of_eq (if_pos (by decide))))
  have e1:k80 .eq (.tup [.tup [.int 2,.tup [.tup [.int 0,.int 1]]],.tup [.tup [.int 1,.int 3]]]) (.tup [.tup [.int 2,.tup [.tup [.int 0,.int 1]]],.tup [.tup [.int 1,.int 3]]])=some true:=by decide
  simp! [O50,s91,List.mapM_cons,List.mapM_nil,Option.pure_def,Option.bind_eq_bind,p1,p2,t01,e1]
  rfl
theorem pure:∀ ns:List Int,ns.length≤63→a80 (tabOf rows) 40 e92 [.d (.lst (ns.map D.int))] none=some (.ok (.d (.bl true)) none):=fun ns _=>by
 rw [E32]
 exact h32 26 ns
end K3
namespace K3
open PySem L2 Q
theorem ok:rows.all (R51 (B80 rows) nums)=true:=by decide +kernel
theorem bd:o20 rows:=⟨fun _ _ _ _ _ _ us hl=>by obtain ⟨_,_,rfl⟩:=us2 hl;rfl,
 fun _ _ _ _ _ _ us hl=>by obtain ⟨_,_,rfl⟩:=us2 hl;rfl,
 fun _ _ _ _ _ _ us hl=>by obtain ⟨_,_,rfl⟩:=us2 hl;rfl,
 fun _ _ _ _ _ _ us hl=>by obtain ⟨_,rfl⟩:=us1 hl;rfl,
 fun _ _ _ _ _ _ us hl=>by obtain ⟨_,_,rfl⟩:=us2 hl;rfl,
 fun _ _ _ _ _ _ us hl=>by obtain ⟨_,_,rfl⟩:=us2 hl;rfl,
 fun _ _ _ _ _ _ us hl=>by obtain ⟨_,_,rfl⟩:=us2 hl;rfl,
 fun _ _ _ _ _ _ us hl=>by obtain ⟨_,rfl⟩:=us1 hl;rfl,
 fun _ _ _ _ _ _ us hl=>by obtain ⟨_,rfl⟩:=us1 hl;rfl,
 fun _ _ _ _ _ _ us hl=>by obtain ⟨_,_,rfl⟩:=us2 hl;rfl,
 fun _ _ _ _ _ _ us hl=>by obtain ⟨_,_,rfl⟩:=us2 hl;rfl,
 fun _ _ _ _ _ _ us hl=>by obtain ⟨_,_,rfl⟩:=us2 hl;rfl,
 fun _ _ _ _ _ _ us hl=>by obtain ⟨_,_,rfl⟩:=us2 hl;rfl,
 fun _ _ _ _ _ _ us hl=>by obtain ⟨_,rfl⟩:=us1 hl;rfl,
 fun _ _ _ _ _ _ us hl=>by obtain ⟨_,_,rfl⟩:=us2 hl;rfl,
 fun _ _ _ _ _ _ us hl=>by obtain ⟨_,rfl⟩:=us1 hl;rfl,
 fun _ _ _ _ _ _ us hl=>by obtain ⟨_,_,rfl⟩:=us2 hl;rfl,
 fun _ _ _ _ _ _ us hl=>by obtain ⟨_,_,_,_,rfl⟩:=us4 hl;rfl,
 fun _ _ _ _ _ _ us hl=>by obtain ⟨_,_,_,rfl⟩:=us3 hl;rfl,
 fun _ _ _ _ _ _ us hl=>by obtain ⟨_,_,_,rfl⟩:=us3 hl;rfl,
 fun _ _ _ _ _ _ us hl=>by obtain ⟨_,_,rfl⟩:=us2 hl;rfl,
 fun _ _ _ _ _ _ us hl=>by obtain ⟨_,_,rfl⟩:=us2 hl;rfl,
 fun _ _ _ _ _ _ us hl=>by obtain ⟨_,rfl⟩:=us1 hl;rfl,
 fun _ _ _ _ _ _ us hl=>by obtain ⟨_,_,_,_,rfl⟩:=us4 hl;rfl,
 fun _ _ _ _ _ _ us hl=>by obtain ⟨_,_,rfl⟩:=us2 hl;rfl,
 fun _ _ _ _ _ _ us hl=>by obtain ⟨_,_,rfl⟩:=us2 hl;rfl,
 fun _ _ _ _ _ _ us hl=>by obtain ⟨_,_,rfl⟩:=us2 hl;rfl,
 fun _ _ _ _ _ _ us hl=>by obtain ⟨_,_,rfl⟩:=us2 hl;rfl,
 fun _ _ _ _ _ _ us hl=>by obtain ⟨_,_,rfl⟩:=us2 hl;rfl,
 fun _ _ _ _ _ _ us hl=>by obtain ⟨_,rfl⟩:=us1 hl;rfl,
 fun _ _ _ _ _ _ us hl=>by obtain ⟨_,_,rfl⟩:=us2 hl;rfl,
 fun _ _ _ _ _ _ us hl=>by obtain ⟨_,_,rfl⟩:=us2 hl;rfl,
 fun _ _ _ _ _ _ us hl=>by obtain ⟨_,rfl⟩:=us1 hl;rfl,
 fun _ _ _ _ _ _ us hl=>by obtain ⟨_,_,_,rfl⟩:=us3 hl;rfl,
 fun _ _ _ _ _ _ us hl=>by obtain ⟨_,_,_,rfl⟩:=us3 hl;rfl,
 fun _ _ _ _ _ _ us hl=>by obtain ⟨_,rfl⟩:=us1 hl;rfl,trivial⟩
theorem hR:d12 rows ["law"] [("_law_refused",top 53)]:=fun r hr hlm=>by
 have h:=List.all_eq_true.mp (show rows.all (fun r=>!r.lm || (["law"]:List Str).contains r.nm)=true from by decide +kernel) r hr
 rw [hlm] at h
 exact ⟨List.contains_iff_mem.mp h,top 53,185,.head _,rfl,rfl,fun _ _ _ _ _ _ us hl=>by obtain ⟨_,rfl⟩:=us1 hl;rfl⟩
end K3
namespace K3
open PySem L2 Q
noncomputable def asks:n60:=D50 rows nums ["law"] [("_law_refused",top 53)]
noncomputable def prg:Program:=PySem.Challenge.pw_tiechances_k86_ties_in_a_row_made_one
noncomputable def vq:Program:=PySem.W.view prg [58]
noncomputable def loose:List Str:=prg.boundNames.filter fun x=>!(x == ("law":Str))
noncomputable def runL (w:World) (os:OsState):=(A40 PySem.W.through (PySem.W.stepOk 11 (some (.ref 6))) (PySem.W.stepT (denote treeTable) prg w) 20000 (N41 w os) (PySem.W.topStub prg)).map (fun s =>
   (PySem.W.staticsOk (importedModules prg.main.body) (PySem.W.boot_heap w.params) s.abs.heap&&PySem.W.namesBound prg s.abs.heap&&PySem.W.gensDone s.abs&&PySem.W.laidKept (PySem.W.boot_heap w.params) s.abs.heap,
    PySem.W.openSeen vq loose (importedModules prg.main.body) (fun _=>true) true s.abs,asks.obs s.abs))
noncomputable def runR (w:World):=some (true,PySem.W.openGood vq loose,asks.due w)
noncomputable def _root_.PySem.W.Fast.tw47748070514517411:PySem.Program:=PySem.Challenge.pw_tiechances_k86_ties_in_a_row_made_one
theorem _root_.PySem.W.Fast.te47748070514517411:PySem.Challenge.pw_tiechances_k86_ties_in_a_row_made_one=PySem.W.Fast.tw47748070514517411:=rfl
theorem twins:(fun (_:runL=runL∧runR=runR)=>true) ⟨rfl,rfl⟩=true:=by k_qdec
theorem run_eq:∀ (w:World) (os:OsState),PySem.W.Fast.tw14075725262101462980 w os=PySem.W.Fast.tw18139657281711212703 w:=fun w os=>by kernel_rfl
theorem left:PySem.W.LeftO PySem.Challenge.pw_tiechances_k86_ties_in_a_row_made_one vq loose (fun _=>true) asks.hook.obs asks.hook.val 20000:=N51 (by kernel_rfl) rfl (fun _=>by kernel_rfl) fun w os =>
 (congrFun (congrFun PySem.W.Fast.te14075725262101462980 w) os).trans ((run_eq w os).trans (congrFun PySem.W.Fast.te18139657281711212703 w).symm)
end K3
open PySem PySem.W PyProof.Rows
set_option maxRecDepth 100000 in
set_option maxHeartbeats 0 in
theorem PySem.Challenge.cw_tiechances_k86_ties_in_a_row_made_one_holds : PySem.Challenge.rw_tiechances_k86_ties_in_a_row_made_one.Holds := by
 w_on;o_law
 refine holds_open (q:=K3.vq) (loose:=K3.loose) (Xt:=fun _=>true) (XP:=fun _ _=>True) (Yf:=K3.asks.hook.obs) (Ya:=K3.asks.hook.val) (YP:=K3.asks.hook.says) K3.left K3.asks.hook.of K3.asks.hook.keeps (fun _ _=>trivial) (fun _ _ _ _ _=>trivial) (by rfl) (by rfl) (by rfl) (fun s _=>recFacts_of rfl) rfl (by first | assumption | decide +kernel) (by decide +kernel) ⟨rfl,rfl,rfl,rfl,rfl,by decide +kernel⟩ ?hw ?hc
 case hw=>w_witness2
 case hc=>exact Q.A11 (l:=PySem.Challenge.rw_tiechances_k86_ties_in_a_row_made_one) (n:=63) (k:=40) (x:="_law_script") rfl (by decide) rfl ⟨rfl,by decide,by decide⟩ (Q.N91 (k:=37) (iL:=35) K3.ok K3.bd rfl rfl rfl (by decide) K3.hR K3.pure)
