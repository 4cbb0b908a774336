import PyProof.Rows.All
import Wide.All
import OpenK.AllK
import Wide.FinOn
import Lean
import PyProof.EqAt
import PyProof.EqKinds
import PyProof.TupleCall
import KE.KSortTup
import OpenK.KRaise
import OpenK.KOwn
import PyProof.ExcBaseAll.ValueError
import KE.KIsAll
import PyProof.ExcAttrAll.ValueError
import PyProof.NsDelKeeps
import PyProof.RulesAs
import KE.KTryMore
import KE.KLam
import KE.KNestM
import OpenK.KEqL
import PyProof.Rows.EqDataRows
import PyProof.NeKinds
import PyProof.FactsAll.dict
import PyProof.FactsAll.subtypes
import PyProof.ListRange
import PyProof.TupleOfGen
import PyProof.TupleOfSeq
import KE.KTupSum
import PyProof.Rows.SumAny
import PySem.Challenge.RW_tiechances_k72_whole_betters
set_option bootstrap.genMatcherCode false
set_option compiler.extract_closed false
set_option genInjectivity false
set_option genSizeOf false
set_option Elab.async false
set_option linter.all false
set_option maxRecDepth 100000
namespace L2
open PySem PySem.Spec PyProof.Rows
noncomputable abbrev Key:=Sum Int Str
noncomputable def V51:Key→Value→Bool
 |.inl k,v=>Value.isInt k v
 |.inr x,v=>Value.isStrOf x v
noncomputable def y12(w:World):Key→Int
 |.inl k=>hashInt k
 |.inr x=>hashStr w x
theorem c20:∀ {k:Key}{v:Value},V51 k v=true→(∃ i t,k=Sum.inl i∧v=Value.int i t)∨(∃ x t,k=Sum.inr x∧v=Value.str x t)
 |.inl i,v,h=>by
  obtain⟨t,e⟩:=Value.isInt_shape (k:=i) (v:=v) h
  exact .inl ⟨i,t,rfl,e⟩
 |.inr x,v,h=>by
  obtain⟨t,e⟩:=Value.isStrOf_shape (x:=x) (v:=v) h
  exact .inr ⟨x,t,rfl,e⟩
theorem V61(a b:Int):decide ((Sum.inl a:Key)=Sum.inl b)=(a == b):=by
 by_cases e:a=b
 ·subst e;simp
 ·have h:¬ (Sum.inl a:Key)=Sum.inl b:=λq=>e (Sum.inl.inj q)
  rw[decide_eq_false h]
  exact(beq_eq_false_iff_ne.mpr e).symm
theorem V71(a b:Str):decide ((Sum.inr a:Key)=Sum.inr b)=decide (a=b):=by
 by_cases e:a=b
 ·subst e;simp
 ·have h:¬ (Sum.inr a:Key)=Sum.inr b:=λq=>e (Sum.inr.inj q)
  rw[decide_eq_false h,decide_eq_false e]
theorem V81(a:Int)(b:Str):decide ((Sum.inl a:Key)=Sum.inr b)=false:=decide_eq_false (λq=>nomatch q)
theorem V91(a:Str)(b:Int):decide ((Sum.inr a:Key)=Sum.inl b)=false:=decide_eq_false (λq=>nomatch q)
noncomputable def i51(prog:Program)(w:World):PySem.KeyKind prog w Key where
 is:=V51
 hash:=y12 w
 inj:=λv a b ha hb=>by
  rcases c20 ha with ⟨i,t,rfl,rfl⟩ | ⟨x,t,rfl,rfl⟩
  ·rcases c20 hb with ⟨j,u,rfl,e⟩ | ⟨y,u,rfl,e⟩
   ·injection e with e1 _;rw[e1]
   ·exact nomatch e
  ·rcases c20 hb with ⟨j,u,rfl,e⟩ | ⟨y,u,rfl,e⟩
   ·exact nomatch e
   ·injection e with e1 _;rw[e1]
 byValue:=λk v h=>by
  rcases c20 h with ⟨i,t,rfl,rfl⟩ | ⟨x,t,rfl,rfl⟩ <;> rfl
 pyHash:=λhv h=>by
  rcases c20 hv with ⟨i,t,rfl,rfl⟩ | ⟨x,t,rfl,rfl⟩
  ·exact wpAny_pyHash_int h
  ·exact wpAny_pyHash_str h
 eqBool:=λhu hv h=>by
  rcases c20 hu with ⟨i,t,rfl,rfl⟩ | ⟨x,t,rfl,rfl⟩
  ·rcases c20 hv with ⟨j,u,rfl,rfl⟩ | ⟨y,u,rfl,rfl⟩
   ·rw[V61] at h;exact wpAny_eqBool_int h
   ·rw[V81] at h;exact SeqAt.EqAt.int_str i t y u _ _ _ _ h
  ·rcases c20 hv with ⟨j,u,rfl,rfl⟩ | ⟨y,u,rfl,rfl⟩
   ·rw[V91] at h;exact SeqAt.EqAt.str_int x t j u _ _ _ _ h
   ·rw[V71] at h;exact wpAny_eqBool_str h
 «strs»:=λk x t v h=>by
  rcases c20 h with ⟨i,u,rfl,e⟩ | ⟨y,u,rfl,e⟩
  ·exact nomatch e
  ·injection e with e1 _
   subst e1
   cases v <;> rfl
end L2
namespace L2
open PySem PySem.Spec PyProof.Rows
inductive V where
 |non | bl (b:Bool) | int (i:Int) | str (x:Str) | byt (b:Array UInt8) | flt (b:UInt64) | ref (a:Addr) | ty (n:String)
 deriving DecidableEq
noncomputable def RelV:V→Value→Prop
 |.non,u=>u=Value.none
 |.bl b,u=>u=Value.bool b
 |.int i,u=>∃ t,u=Value.int i t
 |.str x,u=>∃ t,u=Value.str x t
 |.byt b,u=>∃ t,u=Value.bytes b t
 |.flt b,u=>∃ t,u=Value.float b t
 |.ref a,u=>u=Value.ref a
 |.ty n,u=>u=Value.type n
noncomputable abbrev Vals:List V→List Value→Prop:=Paired RelV
theorem Vals.length{xs:List V}{us:List Value}(r:Vals xs us):xs.length=us.length:=Paired.length r
theorem Vals.get:∀ {xs:List V}{us:List Value}{i:Nat}{x:V},Vals xs us→xs[i]?=some x→∃ u,us[i]?=some u∧RelV x u
 |_,_,_,_,.nil,e=>by simp at e
 |_,_,0,_,.cons r _,e=>by simp at e;subst e;exact⟨_,rfl,r⟩
 |_,_,i + 1,x,.cons _ t,e=>by
  obtain⟨u,h1,h2⟩:=Vals.get (i:=i) (x:=x) t (by simpa using e)
  exact⟨u,by simpa using h1,h2⟩
theorem Vals.set{x:V}{u:Value}(r:RelV x u):∀ {xs:List V}{us:List Value} (i:Nat),Vals xs us→Vals (xs.set i x) (us.set i u)
 |_,_,_,.nil=>.nil
 |_,_,0,.cons _ t=>.cons r t
 |_,_,i + 1,.cons q t=>.cons q (Vals.set r i t)
theorem Vals.append:∀ {xs ys:List V}{us ws:List Value},Vals xs us→Vals ys ws→Vals (xs++ys) (us++ws)
 |_,_,_,_,.nil,s=>s
 |_,_,_,_,.cons r t,s=>.cons r (Vals.append t s)
theorem Vals.take:∀ {xs:List V}{us:List Value} (n:Nat),Vals xs us→Vals (xs.take n) (us.take n)
 |_,_,0,_=>.nil
 |_,_,_ + 1,.nil=>.nil
 |_,_,n + 1,.cons r t=>.cons r (Vals.take n t)
theorem Vals.drop:∀ {xs:List V}{us:List Value} (n:Nat),Vals xs us→Vals (xs.drop n) (us.drop n)
 |_,_,0,r=>r
 |_,_,_ + 1,.nil=>.nil
 |_,_,n + 1,.cons _ t=>Vals.drop n t
noncomputable def v32:Option V→Option Value→Prop
 |some v,some u=>RelV v u
 |none,none=>True
 |_,_=>False
noncomputable def KV{κ:Type}:List (κ × V)→List (κ × Value)→Prop:=Paired λ(p:κ × V) (q:κ × Value)=>p.1=q.1∧RelV p.2 q.2
noncomputable def kV:Key→V
 |.inl i=>.int i
 |.inr x=>.str x
inductive HO where
 /-- a list -/
 |lst (xs:List V)
 /-- a tuple (never changes) -/
 |tup (xs:List V)
 /-- a dict whose keys are ints and texts;one whose keys are tuples of ints and texts (the empty one is both) -/
 |dK (kvs:List (Key × V)) | dT (kvs:List (List Key × V))
 /-- a set of ints: its members,its size -/
 |set (S:Int→Bool) (n:Nat)
 /-- an instance of the class at C,its dict at dx,its attributes -/
 |ins (C dx:Addr) (fs:List (Str × V))
 /-- the dict of the instance at x -/
 |own (x:Addr)
 /-- the dict of an exception -/
 |xd (fs:List (Str × V))
 /-- a bound method,f of x -/
 |met (f x:Addr)
 /-- a range object lo,lo + 1,.. below hi -/
 |rng (lo hi:Int)
 /-- a thing that is known to the object (the script;a dict while a loop walks it): read,never written while it is so -/
 |frz (o:Obj) (u:HO)
 /-- a code object's table -/
 |tbl (ps:Array Value)
 /-- any other thing,by what is true of its one object (a def of one's own: SetO a S n:=HO.ext λh=>..) -/
 |ext (φ:Heap→Prop)
noncomputable abbrev Hp:=Addr→Option HO
noncomputable def upd(H:Hp)(a:Addr)(o:HO):Hp:=λb=>if b=a then some o else H b
theorem c30{H:Hp}{a:Addr}{o:HO}:upd H a o a=some o:=by unfold upd;rw[if_pos rfl]
theorem a50{H:Hp}{a b:Addr}{o:HO}(h:b≠a):upd H a o b=H b:=by unfold upd;rw[if_neg h]
theorem b30{H:Hp}{a b:Addr}{o:HO}(h:H a=some o)(h':H b=none):a≠b:=by
 intro e;subst e;rw[h] at h';cases h'
section
variable (P:Program) (w:World)
noncomputable def h70(H:Hp)(h:Heap)(a:Addr):HO→Prop
 |.lst xs=>xs.length≤sizeLine∧∃ (its:List Value) (n:Nat),Vals xs its∧h.get? a=some { cls:=.type "list",data:=.seq its.toArray n }
 |.tup xs=>xs.length≤sizeLine∧∃ its:List Value,Vals xs its∧IsTup h a its.toArray
 |.dK kvs=>kvs.length≤sizeLine∧(a == sysModules)=false∧∃ vs,KV kvs vs∧h.DictOf (i51 P w) a vs
 |.dT kvs=>kvs.length≤sizeLine∧(a == sysModules)=false∧∃ xs:List (List Key × Addr × Value),
   Paired (λ(p:List Key × V) (q:List Key × Addr × Value)=>p.1=q.1∧H q.2.1=some (.tup (p.1.map kV))∧RelV p.2 q.2.2) kvs xs ∧
   ∃ o es ep,h.get? a=some o∧o.ExactDict∧o.data=.dict es ep∧es.toList=xs.map (entryOfKey (tupleKind (i51 P w)))∧(xs.map (·.1)).Nodup
 |.set S n=>h.SetOf (intKind P w) a S n
 |.ins C dx fs=>H dx=some (.own a)∧fs.length≤1000∧dx≠a∧h.get? a=some (PySem.W.instObj C dx) ∧
   ∃ mA,h.Ns1 dx mA∧(∀ f,v32 (fs.lookup f) (mA f))∧PySem.Within mA (fs.map (·.1))
 |.own _=>∃ o,h.get? a=some o
 |.xd fs=>∃ mA,h.Ns1 a mA∧∀ f,v32 (fs.lookup f) (mA f)
 |.rng lo hi=>∃ t u v,h.get? a=some { cls:=.type "range",data:=.fields #[.int lo t,.int hi u,.int 1 v] }
 |.frz o u=>h.get? a=some o∧h70 H h a u
 |.tbl ps=>h.get? a=some { cls:=.none,data:=.fields ps }
 |.met f x=>h.get? a=some (PySem.W.methodObj (.ref f) (.ref x))
 |.ext φ=>φ h∧(∃ o,h.get? a=some o)∧∀ h1 h2:Heap,φ h1→(∀ o,h1.get? a=some o→h2.get? a=some o)→φ h2
noncomputable def HOk(H:Hp)(h:Heap):Prop:=∀ a o,H a=some o→h70 P w H h a o
end
section
variable {P:Program}{w:World}{H H':Hp}{h h':Heap}{a:Addr}{o:HO}
theorem h70.lt(x:h70 P w H h a o):a < h.objs.size:=by
 cases o with
 |lst xs=>obtain⟨_,_,_,_,e⟩:=x;exact Heap.lt_size e
 |tup xs=>obtain⟨_,_,_,p⟩:=x;exact p.lt
 |dK kvs=>obtain⟨_,_,_,_,o,_,_,e,_⟩:=x;exact Heap.lt_size e
 |dT kvs=>obtain⟨_,_,_,_,o,_,_,e,_⟩:=x;exact Heap.lt_size e
 |set S n=>obtain⟨o,_,_,_,e,_⟩:=x;exact Heap.lt_size e
 |ins C dx fs=>obtain⟨_,_,_,e,_⟩:=x;exact Heap.lt_size e
 |own y=>obtain⟨_,e⟩:=x;exact Heap.lt_size e
 |xd fs=>obtain⟨_,⟨_,_,_,e,_⟩,_⟩:=x;exact Heap.lt_size e
 |rng lo hi=>obtain⟨_,_,_,e⟩:=x;exact Heap.lt_size e
 |frz ob u=>obtain⟨e,_⟩:=x;exact Heap.lt_size e
 |tbl ps=>exact Heap.lt_size (show h.get? a=some _ from x)
 |met f y=>exact Heap.lt_size (show h.get? a=some _ from x)
 |ext φ=>obtain⟨_,⟨_,e⟩,_⟩:=x;exact Heap.lt_size e
theorem Paired.U41{α β:Type}{F G:α→β→Prop}:∀ {l₁:List α}{l₂:List β},Paired F l₁ l₂→(∀ a b,F a b→G a b)→Paired G l₁ l₂
 |_,_,.nil,_=>.nil
 |_,_,.cons r t,f=>.cons (f _ _ r) (Paired.U41 t f)
theorem h70.x21(x:h70 P w H h a o)(k:∀ b u,(b=a∨H b=some (.own a))→h.get? b=some u→h'.get? b=some u)
  (ho:∀ b,H b=some (.own a)→H' b=some (.own a)) (ht:∀ b xs,H b=some (.tup xs)→H' b=some (.tup xs)):h70 P w H' h' a o:=by
 induction o with
 |lst xs=>obtain⟨z,its,n,r,e⟩:=x;exact⟨z,its,n,r,k _ _ (.inl rfl) e⟩
 |tup xs=>obtain⟨z,its,r,ob,e,c⟩:=x;exact⟨z,its,r,ob,k _ _ (.inl rfl) e,c⟩
 |dK kvs=>obtain⟨z,y,vs,r,ob,es,ep,e,c⟩:=x;exact⟨z,y,vs,r,ob,es,ep,k _ _ (.inl rfl) e,c⟩
 |dT kvs =>
  obtain⟨z,y,xs,r,ob,es,ep,e,c⟩:=x
  exact⟨z,y,xs,Paired.U41 r λp q z=>⟨z.1,ht _ _ z.2.1,z.2.2⟩,ob,es,ep,k _ _ (.inl rfl) e,c⟩
 |set S n=>obtain⟨ob,es,ep,t,e,c⟩:=x;exact⟨ob,es,ep,t,k _ _ (.inl rfl) e,c⟩
 |ins C dx fs =>
  obtain⟨d,z,ne,e,mA,⟨od,es,ep,e2,c⟩,r⟩:=x
  exact⟨ho _ d,z,ne,k _ _ (.inl rfl) e,mA,⟨od,es,ep,k _ _ (.inr d) e2,c⟩,r⟩
 |own y=>obtain⟨ob,e⟩:=x;exact⟨ob,k _ _ (.inl rfl) e⟩
 |xd fs=>obtain⟨mA,⟨od,es,ep,e,c⟩,r⟩:=x;exact⟨mA,⟨od,es,ep,k _ _ (.inl rfl) e,c⟩,r⟩
 |rng lo hi=>obtain⟨t,u,v,e⟩:=x;exact⟨t,u,v,k _ _ (.inl rfl) e⟩
 |frz ob u ih=>obtain⟨e,q⟩:=x;exact⟨k _ _ (.inl rfl) e,ih q⟩
 |tbl ps =>
  have e:h.get? a=some { cls:=.none,data:=.fields ps }:=x
  show h'.get? a=some { cls:=.none,data:=.fields ps }
  exact k a _ (.inl rfl) e
 |met f y =>
  have e:h.get? a=some (PySem.W.methodObj (.ref f) (.ref y)):=x
  show h'.get? a=some (PySem.W.methodObj (.ref f) (.ref y))
  exact k a _ (.inl rfl) e
 |ext φ=>obtain⟨p,⟨o,e⟩,st⟩:=x;exact⟨st _ _ p λo q=>k _ _ (.inl rfl) q,⟨o,k _ _ (.inl rfl) e⟩,st⟩
theorem HOk.lt(x:HOk P w H h)(e:H a=some o):a < h.objs.size:=(x a o e).lt
theorem HOk.fresh(x:HOk P w H h)(e:h.objs.size≤a):H a=none:=by
 cases q:H a with
 |none=>rfl
 |some u=>exact absurd (Nat.lt_of_lt_of_le (x.lt q) e) (Nat.lt_irrefl _)
theorem HOk.kept(x:HOk P w H h)(k:∀ b u,h.get? b=some u→h'.get? b=some u):HOk P w H h':=λa o e =>
 (x a o e).x21 (λb u _ q=>k b u q) (λ_ q=>q) λ_ _ q=>q
theorem HOk.laid(x:HOk P w H h)(k:∀ b u,h.get? b=some u→h'.get? b=some u)(hp:h.objs.size≤a)(new:h70 P w (upd H a o) h' a o):HOk P w (upd H a o) h':=λb u e=>by
 have hn:=x.fresh hp
 by_cases hb:b=a
 ·subst hb;rw[c30] at e;cases e;exact new
 ·rw[a50 hb] at e
  exact(x b u e).x21 (λc v _ q=>k c v q) (λc q=>by rw[a50 (b30 q hn)];exact q) λc xs q=>by rw[a50 (b30 q hn)];exact q
end
noncomputable def Rd(H:Hp)(a:Addr)(u:HO):Prop:=H a=some u∨∃ o,H a=some (.frz o u)
theorem Rd.ok{P:Program}{w:World}{H:Hp}{h:Heap}{a:Addr}{u:HO}(r:Rd H a u)(x:HOk P w H h):h70 P w H h a u:=by
 rcases r with r | ⟨o,r⟩
 ·exact x a u r
 ·obtain⟨_,q⟩:=x a _ r
  exact q
noncomputable def Mut:Option HO→Prop
 |some (.lst _)=>True
 |some (.dK _)=>True
 |some (.dT _)=>True
 |some (.set _ _)=>True
 |some (.ins _ _ _)=>True
 |some (.ext _)=>True
 |_=>False
section
variable {P:Program}{w:World}{H:Hp}{h h':Heap}{x e:Addr}{o':HO}
theorem HOk.write(ok:HOk P w H h)(mu:Mut (H x))(he:e=x∨H e=some (.own x))(k:∀ b u,b≠e→h.get? b=some u→h'.get? b=some u)(heo:∃ u,h'.get? e=some u)
  (new:h70 P w (upd H x o') h' x o'):HOk P w (upd H x o') h':=λb u q=>by
 have nown:∀ c y,H c=some (.own y)→c≠x:=λc y r z=>by subst z;rw[r] at mu;exact mu
 have ntup:∀ c xs,H c=some (.tup xs)→c≠x:=λc xs r z=>by subst z;rw[r] at mu;exact mu
 by_cases hb:b=x
 ·subst hb;rw[c30] at q;cases q;exact new
 ·rw[a50 hb] at q
  by_cases hbe:b=e
  ·have q':H b=some (.own x):=by
    rcases he with z | z
    ·exact absurd (hbe.trans z) hb
    ·rw[hbe];exact z
   rw[q] at q';cases q'
   obtain⟨v,hv⟩:=heo
   exact⟨v,by rw[hbe];exact hv⟩
  ·refine(ok b u q).x21 (λc v hc r=>k c v ?_ r) (λc r=>by rw[a50 (nown c b r)];exact r) λc xs r=>by rw[a50 (ntup c xs r)];exact r
   rcases hc with rfl | hc
   ·exact hbe
   ·rintro rfl
    rcases he with z | z
    ·exact nown c b hc z
    ·rw[hc] at z;cases z;exact hb rfl
end
structure Un(fs ex:List Addr)(H H':Hp)(h h':Heap):Prop where
 keep:∀ b o,h.get? b=some o→H b=none→b ∉ fs→b ∉ ex→h'.get? b=some o
 slot:∀ b o,h.get? b=some o→H b=none→b∈fs→b ∉ ex→∃ sl,h'.get? b=some { o with slots:=sl }
 free:∀ b o,h.get? b=some o→H b=none→b ∉ ex→H' b=none
 there:∀ b o,h.get? b=some o→b ∉ ex→∃ o',h'.get? b=some o'
 tups:∀ b xs,H b=some (.tup xs)→H' b=some (.tup xs)
 frzs:∀ b o u,H b=some (.frz o u)→H' b=some (.frz o u)
 tbls:∀ b ps,H b=some (.tbl ps)→∃ more,H' b=some (.tbl (ps++more))
section
variable {fs fs' ex ex':List Addr}{H H1 H2:Hp}{h h1 h2 h':Heap}{a x e:Addr}{o:HO}
theorem Un.any(u:Un fs ex H H1 h h1){b:Addr}{ob:Obj}(q:h.get? b=some ob)(n:H b=none)(hx:b ∉ ex):∃ sl,h1.get? b=some { ob with slots:=sl }:=by
 by_cases hb:b∈fs
 ·exact u.slot b ob q n hb hx
 ·exact⟨ob.slots,u.keep b ob q n hb hx⟩
theorem Un.trans(a:Un fs ex H H1 h h1)(b:Un fs ex H1 H2 h1 h2):Un fs ex H H2 h h2 where
 keep:=λc ob q n hc hx=>b.keep c ob (a.keep c ob q n hc hx) (a.free c ob q n hx) hc hx
 slot:=λc ob q n hc hx=>by
  obtain⟨sl,e1⟩:=a.slot c ob q n hc hx
  obtain⟨sl',e2⟩:=b.slot c _ e1 (a.free c ob q n hx) hc hx
  exact⟨sl',e2⟩
 free:=λc ob q n hx=>by
  obtain⟨o',e1⟩:=a.there c ob q hx
  exact b.free c o' e1 (a.free c ob q n hx) hx
 there:=λc ob q hx=>by
  obtain⟨o',e1⟩:=a.there c ob q hx
  exact b.there c o' e1 hx
 tups:=λc xs q=>b.tups c xs (a.tups c xs q)
 frzs:=λc ob xs q=>b.frzs c ob xs (a.frzs c ob xs q)
 tbls:=λc ps q=>by
  obtain⟨m1,e1⟩:=a.tbls c ps q
  obtain⟨m2,e2⟩:=b.tbls c _ e1
  exact⟨m1++m2,by rw[e2,Array.append_assoc]⟩
theorem Un.kept(k:∀ b u,h.get? b=some u→h'.get? b=some u):Un fs ex H H h h' :=
 ⟨λb ob q _ _ _=>k b ob q,λb ob q _ _ _=>⟨ob.slots,k b ob q⟩,λ_ _ _ n _=>n,λb ob q _=>⟨ob,k b ob q⟩,λ_ _ q=>q,λ_ _ _ q=>q,λ_ ps q=>⟨#[],by rw[q];simp⟩⟩
theorem Un.refl:Un fs ex H H h h:=Un.kept λ_ _ q=>q
theorem Un.laid(k:∀ b u,h.get? b=some u→h'.get? b=some u)(hp:h.objs.size≤a)(hn:H a=none):Un fs ex H (upd H a o) h h' where
 keep:=λb u q _ _ _=>k b u q
 slot:=λb u q _ _ _=>⟨u.slots,k b u q⟩
 free:=λb u q n _=>by rw[a50 (Nat.ne_of_lt (Nat.lt_of_lt_of_le (Heap.lt_size q) hp))];exact n
 there:=λb u q _=>⟨u,k b u q⟩
 tups:=λb xs q=>by rw[a50 (b30 q hn)];exact q
 frzs:=λb u xs q=>by rw[a50 (b30 q hn)];exact q
 tbls:=λb ps q=>⟨#[],by rw[a50 (b30 q hn),q];simp⟩
theorem Un.write(mu:Mut (H x))(he:e=x∨H e=some (.own x))(k:∀ b u,b≠e→h.get? b=some u→h'.get? b=some u)(heo:∃ u,h'.get? e=some u):Un fs ex H (upd H x o) h h':=by
 have hx:∀ b,H b=none→b≠x:=λb n z=>by subst z;rw[n] at mu;exact mu
 have hb:∀ b,H b=none→b≠e:=λb n z=>by
  subst z
  rcases he with r | r
  ·exact hx b n r
  ·rw[n] at r;cases r
 have hm:∀ b u,H b=some u→¬ Mut (some u)→b≠x:=λb u q nm z=>by subst z;rw[q] at mu;exact nm mu
 refine⟨λb u q n _ _=>k b u (hb b n) q,λb u q n _ _=>⟨u.slots,k b u (hb b n) q⟩,λb u q n _=>by rw[a50 (hx b n)];exact n,λb u q _=>?_,
  λb xs q=>by rw[a50 (hm b _ q λz=>z)];exact q,λb u xs q=>by rw[a50 (hm b _ q λz=>z)];exact q,λb ps q=>⟨#[],by rw[a50 (hm b _ q λz=>z),q];simp⟩⟩
 by_cases hbe:b=e
 ·subst hbe;exact heo
 ·exact⟨u,k b u hbe q⟩
theorem Un.mono(u:Un fs ex H H1 h h1)(hs:∀ b∈fs,b∈fs')(hx:∀ b∈ex,b∈ex'):Un fs' ex' H H1 h h1 :=
 ⟨λb ob q n hb he=>u.keep b ob q n (λz=>hb (hs b z)) λz=>he (hx b z),λ_ _ q n _ he=>u.any q n λz=>he (hx _ z),λb ob q n he=>u.free b ob q n λz=>he (hx b z),λb ob q he=>u.there b ob q λz=>he (hx b z),u.tups,u.frzs,u.tbls⟩
end
noncomputable def trk(h:Heap)(H:Hp):List Addr:=(List.range h.objs.size).filter λa=>(H a).isSome
noncomputable def x31(h:Heap)(H:Hp):Heap:=PySem.W.hideAll h (trk h H)
theorem i61(h:Heap)(H:Hp):(x31 h H).objs.size=h.objs.size:=PySem.W.hideAll_size _ _
theorem F80{h:Heap}{H:Hp}{b:Addr}{o:Obj}(e:h.get? b=some o)(n:H b=none):(x31 h H).get? b=some o :=
 PySem.W.hideAll_get _ e λhm=>by
  have q:(H b).isSome=true:=(List.mem_filter.mp hm).2
  rw[n] at q;simp at q
theorem I81{h:Heap}{H:Hp}{b:Addr}{o:Obj}(e:(x31 h H).get? b=some o):h.get? b=some o∧H b=none:=by
 have e':h.get? b=some o:=PySem.W.of_hideAll (trk h H) e
 refine⟨e',?_⟩
 cases q:H b with
 |none=>rfl
 |some x =>
  have hm:b∈trk h H:=List.mem_filter.mpr ⟨List.mem_range.mpr (Heap.lt_size e'),by simp[q]⟩
  have z:(x31 h H).get? b=none:=PySem.W.hideAll_none (trk h H) hm
  rw[z] at e;cases e
end L2
namespace L2
open PySem PySem.Spec PyProof.Rows
structure Mod(K:PySem.W.Frag)(mg:Str→Option Value)(base:Heap):Prop where
 kin:K.In base
 glob:base.Ns mainGlobals mg
 blt:∃ mb,base.Ns builtinsNs mb∧∀ x:Str,x≠"__name__"→mb x=bootBuiltins x
 nolimit:base.NoLimit
structure Cx where
 prog:Program
 w:World
 K:PySem.W.Frag
 mg:Str→Option Value
 base:Heap
 A:Around
 N:List Str
 s₀:Shared
 H₀:Hp
 env:Env
 outer:List Env
 stack:List Env
 ex:List Addr
 fn:Str→Bool
 calm:Bool
 pn:List (Addr × Obj)
 xe:Value→Shared→Prop
noncomputable def frs(l:List Env):List Addr:=l.filterMap (·.frame)
noncomputable abbrev Cx.fs(X:Cx):List Addr:=frs X.outer
noncomputable def Vis(sc:Scope)(x:Str):Prop:=sc.names.lookup x=some .local∨sc.names.lookup x=some .cell∨sc.names.lookup x=some .free
noncomputable def Loc(sc:Scope)(x:Str):Prop:=sc.names.lookup x=some .local∨sc.names.lookup x=some .cell
noncomputable def Look(env:Env)(h:Heap)(m:Str→Option Value)(x:Str)(u:Value):Prop :=
 (env.kindOf x=some .local∧m x=some u)∨((env.kindOf x=some .cell∨env.kindOf x=some .free)∧∃ c,env.cells.lookup x=some c∧h.IsCell c (some u))
structure Cx.Ok(X:Cx):Prop where
 mod:Mod X.K X.mg X.base
 kind:X.env.scope.kind=.function
 glob:X.env.globals=mainGlobals
 blt:X.env.builtins=builtinsNs
 above:X.s₀.heap.objs.size≤X.env.locals
 inj:∀ x y c,X.env.cells.lookup x=some c→X.env.cells.lookup y=some c→x=y
 has:∀ x,(X.env.kindOf x=some .cell∨X.env.kindOf x=some .free)→∃ c,X.env.cells.lookup x=some c
 cab:∀ x c,X.fn x=true→X.env.cells.lookup x=some c→X.s₀.heap.objs.size≤c
 hd:X.calm=true→X.A.handled=none
 frames:X.A.frames=some X.stack
 stk:X.stack=X.outer∨(X.stack=X.env::X.outer∧X.env.frame=some X.env.locals)
 exf:∀ b∈X.ex,b≠X.env.locals∧∀ x c,X.env.cells.lookup x=some c→c≠b
 bs:∀ b o,X.base.get? b=some o→X.s₀.heap.get? b=some o∧X.H₀ b=none
 bsz:X.base.objs.size≤X.s₀.heap.objs.size
 noex:∀ b o,X.base.get? b=some o→b ∉ X.ex
 exfs:∀ b∈X.ex,b ∉ X.fs
 w91:X.s₀.heap.FunFrames X.base X.outer
 frf:∀ b∈X.fs,X.H₀ b=none
structure Inv(X:Cx)(pins:List (Addr × Obj))(σ:List (Option V))(H:Hp)(s:Shared):Prop where
 ok:X.Ok
 os:s.os=X.s₀.os
 bare:AllBare s.gens
 base:Un X.fs X.ex X.H₀ H X.s₀.heap s.heap
 loc:∃ m,s.heap.Ns X.env.locals m∧∀ (i:Nat) (x:Str) (v:V),X.N[i]?=some x→σ[i]?=some (some v)→Vis X.env.scope x→∃ u,RelV v u∧Look X.env s.heap m x u
 cell:∀ x c,X.env.cells.lookup x=some c→∃ v,s.heap.IsCell c v
 free:H X.env.locals=none
 freeC:∀ x c,X.env.cells.lookup x=some c→H c=none
 pin:∀ p∈X.pn++pins,s.heap.get? p.1=some p.2∧H p.1=none∧p.1≠X.env.locals∧p.1 ∉ X.fs∧∀ v,p.2.data≠.cell v
 hok:HOk X.prog X.w H s.heap
 len:σ.length=X.N.length
section
variable {X:Cx}{pins:List (Addr × Obj)}{σ:List (Option V)}{H H':Hp}{s:Shared}{h':Heap}
theorem Cx.Ok.y22(ok:X.Ok){b:Addr}{o:Obj}(e:X.base.get? b=some o):b ∉ X.fs:=λhb=>by
 have:=(ok.w91.mem hb).1
 rw[e] at this;cases this
theorem Inv.bs(I:Inv X pins σ H s):∀ b o,X.base.get? b=some o→s.heap.get? b=some o∧H b=none:=λb o e =>
 ⟨I.base.keep b o (I.ok.bs b o e).1 (I.ok.bs b o e).2 (I.ok.y22 e) (I.ok.noex b o e),I.base.free b o (I.ok.bs b o e).1 (I.ok.bs b o e).2 (I.ok.noex b o e)⟩
theorem Inv.bk(I:Inv X pins σ H s):∀ b o,X.base.get? b=some o→s.heap.get? b=some o:=λb o e=>(I.bs b o e).1
theorem Inv.mod(I:Inv X pins σ H s):Mod X.K X.mg X.base:=I.ok.mod
theorem Inv.kIn(I:Inv X pins σ H s):X.K.In s.heap:=I.ok.mod.kin.keeps I.bk
theorem Inv.lt(I:Inv X pins σ H s):X.env.locals < s.heap.objs.size:=let ⟨_,hn,_⟩:=I.loc;hn.lt
theorem Inv.sz(I:Inv X pins σ H s):X.s₀.heap.objs.size≤s.heap.objs.size:=Nat.le_trans I.ok.above (Nat.le_of_lt I.lt)
theorem Inv.y32(I:Inv X pins σ H s){a:Addr}(h:s.heap.objs.size≤a):a ∉ X.fs:=λhb=>by
 obtain⟨_,o,ho,_⟩:=I.ok.w91.mem hb
 exact absurd (Nat.lt_of_lt_of_le (Heap.lt_size ho) (Nat.le_trans I.sz h)) (Nat.lt_irrefl _)
theorem Inv.cne(I:Inv X pins σ H s):∀ x c,X.env.cells.lookup x=some c→c≠X.env.locals:=λx c e z=>by
 obtain⟨v,o,ho,hd⟩:=I.cell x c e
 obtain⟨m,⟨o',es,ep,ho',hd',_⟩,_⟩:=I.loc
 rw[z,ho'] at ho;cases ho;rw[hd'] at hd;cases hd
theorem Inv.w91(I:Inv X pins σ H s):s.heap.FunFrames X.base X.outer:=by
 have all:∀ (l:List Env),(∀ b∈frs l,b∈X.fs)→X.s₀.heap.FunFrames X.base l→s.heap.FunFrames X.base l:=by
  intro l
  induction l with
  |nil=>intro _ _;trivial
  |cons env r ih =>
   intro hs hl
   obtain⟨hk,⟨L,o,hf,hn,ho,hd⟩,hr⟩:=hl
   have hL:L∈X.fs:=hs L (by unfold frs;rw[List.filterMap_cons,hf];exact List.mem_cons_self)
   obtain⟨sl,e⟩:=I.base.slot L o ho (I.ok.frf L hL) hL λz=>I.ok.exfs L z hL
   exact⟨hk,⟨L,_,hf,hn,e,hd⟩,ih (λb hb=>hs b (by unfold frs;rw[List.filterMap_cons,hf];exact List.mem_cons_of_mem _ hb)) hr⟩
 exact all X.outer (λ_ hb=>hb) I.ok.w91
theorem Inv.stack(I:Inv X pins σ H s):s.heap.FunFrames X.base X.stack:=by
 rcases I.ok.stk with e | ⟨e,hf⟩
 ·rw[e];exact I.w91
 ·rw[e]
  obtain⟨m,hn,_⟩:=I.loc
  refine .cons (by rw[I.ok.kind];decide) hf hn ?_ I.w91
  exact Heap.get?_none_of_le (Nat.le_trans I.ok.bsz I.ok.above)
theorem Inv.i71(I:Inv X pins σ H s):∀ b∈frs X.stack,b∈X.env.locals::X.fs:=λb hb=>by
 rcases I.ok.stk with e | ⟨e,hf⟩
 ·rw[e] at hb;exact List.mem_cons_of_mem _ hb
 ·rw[e] at hb
  unfold frs at hb
  rw[List.filterMap_cons,hf] at hb
  exact hb
theorem Inv.S40(I:Inv X pins σ H s):∀ b∈frs X.stack,H b=none:=λb hb=>by
 rcases List.mem_cons.mp (I.i71 b hb) with e | hb
 ·rw[e];exact I.free
 ·obtain⟨_,o,ho,_⟩:=I.ok.w91.mem hb
  exact I.base.free b o ho (I.ok.frf b hb) λz=>I.ok.exfs b z hb
theorem Inv.step{g':Array GenState}{t':Nat}{d':Drawn}{ch:List Addr}(I:Inv X pins σ H s)
  (hch:∀ b∈ch,(b∈X.ex∨X.s₀.heap.objs.size≤b)∧b≠X.env.locals∧(∀ x c,X.env.cells.lookup x=some c→c≠b)∧∀ p∈X.pn++pins,p.1≠b)
  (keep:∀ b o,b≠X.env.locals→b ∉ X.fs→b ∉ ch→s.heap.get? b=some o→H b=none→h'.get? b=some o)
  (slot:∀ b o,b≠X.env.locals→b∈X.fs→b ∉ ch→s.heap.get? b=some o→H b=none→∃ sl,h'.get? b=some { o with slots:=sl }) (free:∀ b o,b ∉ ch→s.heap.get? b=some o→H b=none→H' b=none)
  (there:∀ b o,b ∉ ch→s.heap.get? b=some o→∃ o',h'.get? b=some o')
  (tups:∀ b xs,H b=some (.tup xs)→H' b=some (.tup xs)) (frzs:∀ b o u,H b=some (.frz o u)→H' b=some (.frz o u)) (tbls:∀ b ps,H b=some (.tbl ps)→∃ more,H' b=some (.tbl (ps++more)))
  (ns:∀ m,s.heap.Ns X.env.locals m→h'.Ns X.env.locals m) (hok:HOk X.prog X.w H' h') (hg:AllBare g') :
  Inv X pins σ H' { s with heap:=h',gens:=g',drawn:=d',toks:=t' }:=by
 have neL:∀ b o,X.s₀.heap.get? b=some o→b≠X.env.locals:=λb o e=>Nat.ne_of_lt (Nat.lt_of_lt_of_le (Heap.lt_size e) I.ok.above)
 have neC:∀ b o,X.s₀.heap.get? b=some o→b ∉ X.ex→b ∉ ch:=λb o e hx hb=>by
  rcases (hch b hb).1 with z | z
  ·exact hx z
  ·exact absurd (Nat.lt_of_lt_of_le (Heap.lt_size e) z) (Nat.lt_irrefl _)
 have cellK:∀ x c,X.env.cells.lookup x=some c→∀ v,s.heap.IsCell c v→h'.IsCell c v:=λx c e v ⟨o,ho,hd⟩=>by
  have nch:c ∉ ch:=λz=>(hch c z).2.2.1 x c e rfl
  by_cases hc:c∈X.fs
  ·obtain⟨sl,q⟩:=slot c o (I.cne x c e) hc nch ho (I.freeC x c e)
   exact⟨_,q,hd⟩
  ·exact⟨o,keep c o (I.cne x c e) hc nch ho (I.freeC x c e),hd⟩
 refine⟨I.ok,I.os,hg,⟨λb o e n hb hx=>?_,λb o e n hb hx=>?_,λb o e n hx=>?_,λb o e hx=>?_,λb xs e=>tups b xs (I.base.tups b xs e),λb o xs e=>frzs b o xs (I.base.frzs b o xs e),λb ps e=>?_⟩,?_,λx c e=>?_,?_,λx c e=>?_,λp hp=>?_,hok,I.len⟩
 ·exact keep b o (neL b o e) hb (neC b o e hx) (I.base.keep b o e n hb hx) (I.base.free b o e n hx)
 ·obtain⟨sl,e1⟩:=I.base.slot b o e n hb hx
  obtain⟨sl',e2⟩:=slot b _ (neL b o e) hb (neC b o e hx) e1 (I.base.free b o e n hx)
  exact⟨sl',e2⟩
 ·obtain⟨o',e1⟩:=I.base.there b o e hx
  exact free b o' (neC b o e hx) e1 (I.base.free b o e n hx)
 ·obtain⟨o',e1⟩:=I.base.there b o e hx
  exact there b o' (neC b o e hx) e1
 ·obtain⟨m1,e1⟩:=I.base.tbls b ps e
  obtain⟨m2,e2⟩:=tbls b _ e1
  exact⟨m1++m2,by rw[e2,Array.append_assoc]⟩
 ·obtain⟨m,hn,hl⟩:=I.loc
  refine⟨m,ns m hn,λi x v e1 e2 e3=>?_⟩
  obtain⟨u,r,l⟩:=hl i x v e1 e2 e3
  refine⟨u,r,?_⟩
  rcases l with l | ⟨k,c,e,z⟩
  ·exact .inl l
  ·exact .inr ⟨k,c,e,cellK x c e _ z⟩
 ·obtain⟨v,z⟩:=I.cell x c e
  exact⟨v,cellK x c e v z⟩
 ·obtain⟨m,⟨o,_,_,ho,_⟩,_⟩:=I.loc
  exact free _ o (λz=>(hch _ z).2.1 rfl) ho I.free
 ·obtain⟨v,o,ho,hd⟩:=I.cell x c e
  exact free c o (λz=>(hch c z).2.2.1 x c e rfl) ho (I.freeC x c e)
 ·obtain⟨e,n,ne,nf,d⟩:=I.pin p hp
  have nch:p.1 ∉ ch:=λz=>(hch p.1 z).2.2.2 p hp rfl
  exact⟨keep p.1 p.2 ne nf nch e n,free p.1 p.2 nch e n,ne,nf,d⟩
theorem Inv.un{t':Nat}(I:Inv X pins σ H s)(u:Un X.fs [] H H' s.heap h')(hok:HOk X.prog X.w H' h'):Inv X pins σ H' { s with heap:=h',toks:=t' }:=by
 obtain⟨m,⟨o,es,ep,ho,r⟩,_⟩:=id I.loc
 obtain⟨sl,hL⟩:=u.any ho I.free (by simp)
 exact I.step (g':=s.gens) (d':=s.drawn) (ch:=[]) (λ_ z=>nomatch z) (λb o _ hb _ e n=>u.keep b o e n hb (by simp)) (λb o _ hb _ e n=>u.slot b o e n hb (by simp)) (λb o _ e n=>u.free b o e n (by simp)) (λb o _ e=>u.there b o e (by simp)) u.tups u.frzs u.tbls (λm' hm=>by
  obtain⟨o',es',ep',ho',r'⟩:=hm
  rw[ho] at ho';cases ho'
  exact⟨_,es',ep',hL,r'⟩) hok I.bare
theorem Inv.call{g':Array GenState}{t':Nat}{d':Drawn}{ch:List Addr}(I:Inv X pins σ H s)(u:Un (frs X.stack) ch H H' s.heap h')(hok:HOk X.prog X.w H' h')(hg:AllBare g')
  (hch:∀ b∈ch,(b∈X.ex∨X.s₀.heap.objs.size≤b)∧b≠X.env.locals∧(∀ x c,X.env.cells.lookup x=some c→c≠b)∧∀ p∈X.pn++pins,p.1≠b) :
  Inv X pins σ H' { s with heap:=h',gens:=g',drawn:=d',toks:=t' }:=by
 obtain⟨m,⟨o,es,ep,ho,r⟩,_⟩:=id I.loc
 obtain⟨sl,hL⟩:=u.any ho I.free λz=>(hch _ z).2.1 rfl
 exact I.step (ch:=ch) hch (λb o hL hb hc e n=>u.keep b o e n (λz=>(List.mem_cons.mp (I.i71 b z)).elim hL hb) hc) (λb o _ _ hc e n=>u.any e n hc) (λb o hc e n=>u.free b o e n hc) (λb o hc e=>u.there b o e hc) u.tups u.frzs u.tbls (λm' hm=>by
  obtain⟨o',es',ep',ho',r'⟩:=hm
  rw[ho] at ho';cases ho'
  exact⟨_,es',ep',hL,r'⟩) hok hg
theorem Inv.turned{t':Nat}{it:Addr}(I:Inv X pins σ H s)(k:∀ b o,b≠it→s.heap.get? b=some o→h'.get? b=some o)(hn:H it=none)(hL:it≠X.env.locals)
  (h1:it∈X.ex∨X.s₀.heap.objs.size≤it) (h2:∀ x c,X.env.cells.lookup x=some c→c≠it) (h3:∀ p∈X.pn++pins,p.1≠it):Inv X pins σ H { s with heap:=h',toks:=t' }:=by
 have nit:∀ b u,H b=some u→b≠it:=λb u e z=>by rw[z,hn] at e;cases e
 refine I.step (g':=s.gens) (d':=s.drawn) (ch:=[it]) (λb hb=>?_) (λb o _ _ hc e _=>k b o (λz=>hc (by simp[z])) e) (λb o _ _ hc e _=>⟨o.slots,k b o (λz=>hc (by simp[z])) e⟩) (λ_ _ _ _ n=>n)
  (λb o hc e=>⟨o,k b o (λz=>hc (by simp[z])) e⟩) (λ_ _ e=>e) (λ_ _ _ e=>e) (λb ps e=>⟨#[],by rw[e];simp⟩) (λm hm=>?_) (λb u e=>?_) I.bare
 ·have e:b=it:=by simpa using hb
  subst e
  exact⟨h1,hL,h2,h3⟩
 ·obtain⟨o,es,ep,ho,r⟩:=hm
  exact⟨o,es,ep,k _ o (Ne.symm hL) ho,r⟩
 ·refine(I.hok b u e).x21 (λc v hc q=>k c v ?_ q) (λ_ q=>q) λ_ _ q=>q
  rcases hc with z | z
  ·rw[z];exact nit b u e
  ·exact nit c _ z
theorem Inv.tok(I:Inv X pins σ H s)(t:Nat):Inv X pins σ H { s with toks:=t }:=I.un (h':=s.heap) (t':=t) Un.refl I.hok
theorem Inv.kept{t':Nat}(I:Inv X pins σ H s)(k:∀ b u,s.heap.get? b=some u→h'.get? b=some u):Inv X pins σ H { s with heap:=h',toks:=t' }:=I.un (Un.kept k) (I.hok.kept k)
theorem Inv.laid{a:Addr}{o:HO}{t':Nat}(I:Inv X pins σ H s)(k:∀ b u,s.heap.get? b=some u→h'.get? b=some u)(hp:s.heap.objs.size≤a)(new:h70 X.prog X.w (upd H a o) h' a o) :
  Inv X pins σ (upd H a o) { s with heap:=h',toks:=t' }:=I.un (Un.laid k hp (I.hok.fresh hp)) (I.hok.laid k hp new)
theorem Inv.write{x e:Addr}{o:HO}{t':Nat}(I:Inv X pins σ H s)(mu:Mut (H x))(he:e=x∨H e=some (.own x))(k:∀ b u,b≠e→s.heap.get? b=some u→h'.get? b=some u)(heo:∃ u,h'.get? e=some u)
  (new:h70 X.prog X.w (upd H x o) h' x o):Inv X pins σ (upd H x o) { s with heap:=h',toks:=t' }:=I.un (Un.write mu he k heo) (I.hok.write mu he k heo new)
theorem Inv.z80{pins':List (Addr × Obj)}(I:Inv X pins σ H s)(h:∀ p∈pins',s.heap.get? p.1=some p.2∧H p.1=none∧p.1≠X.env.locals∧p.1 ∉ X.fs∧∀ v,p.2.data≠.cell v):Inv X pins' σ H s :=
 ⟨I.ok,I.os,I.bare,I.base,I.loc,I.cell,I.free,I.freeC,λp hp=>(List.mem_append.mp hp).elim (λz=>I.pin p (List.mem_append_left _ z)) (h p),I.hok,I.len⟩
theorem Y60{N:List Str}(hN:N.Nodup){i j:Nat}{x:Str}(a:N[i]?=some x)(b:N[j]?=some x):i=j:=by
 obtain⟨h1,e1⟩:=List.getElem?_eq_some_iff.mp a
 obtain⟨h2,e2⟩:=List.getElem?_eq_some_iff.mp b
 exact(List.getElem_inj hN).mp (e1.trans e2.symm)
theorem L60{M:Model}{A:Around}{E:Value→Shared→Prop}{i:Nat}{x:Str}{v:V}{u:Value}{Q:Unit→Shared→Prop}(I:Inv X pins σ H s)(hN:X.N.Nodup)(hi:X.N[i]?=some x)(hx:Loc X.env.scope x)(r:RelV v u)
  (h:∀ s',Inv X pins (σ.set i (some v)) H s'→(∃ a,Heap.SameBut a s.heap s'.heap∧(a=X.env.locals∨X.env.cells.lookup x=some a))→Q () s') (hf:X.fn x=true∨X.env.scope.names.lookup x=some .local:=by first | exact .inl rfl | exact .inr rfl | assumption):wpAny M A (storeName X.env x u) Q E s:=by
 obtain⟨m,hn,hl⟩:=id I.loc
 have hcls:(X.env.scope.kind == .class || (X.env.scope.kind == .module&&X.env.locals != X.env.globals))=false:=by rw[I.ok.kind];rfl
 have hiσ:i < σ.length:=by rw[I.len];exact(List.getElem?_eq_some_iff.mp hi).1
 have cne:=I.cne
 have tracked:∀ {a:Addr}{h':Heap},(∃ o,s.heap.get? a=some o∧H a=none)→Heap.SameBut a s.heap h'→HOk X.prog X.w H h':=λ{a h'} ha hs b ob e=>by
  obtain⟨_,_,hfree⟩:=ha
  refine(I.hok b ob e).x21 (λc w' hc q=>(hs.2 c ?_).trans q) (λ_ q=>q) λ_ _ q=>q
  rintro rfl
  rcases hc with rfl | hc
  ·rw[hfree] at e;cases e
  ·rw[hfree] at hc;cases hc
 rcases hx with hk | hk
 ·refine wpAny_storeName_local hk hn (λh' hn' hs=>?_) hcls
  obtain⟨oL,_,_,hoL,_⟩:=id hn
  refine h _ ⟨I.ok,I.os,I.bare,⟨λb o e n hb hx=>?_,λb o e n hb hx=>?_,I.base.free,λb o e hx=>?_,I.base.tups,I.base.frzs,I.base.tbls⟩,⟨_,hn',λj y v' e1 e2 e3=>?_⟩,λy c e=>?_,I.free,I.freeC,λp hp=>?_,tracked ⟨oL,hoL,I.free⟩ hs,by simpa using I.len⟩ ⟨_,hs,.inl rfl⟩
  ·exact(hs.2 b (Nat.ne_of_lt (Nat.lt_of_lt_of_le (Heap.lt_size e) I.ok.above))).trans (I.base.keep b o e n hb hx)
  ·obtain⟨sl,e1⟩:=I.base.slot b o e n hb hx
   exact⟨sl,(hs.2 b (Nat.ne_of_lt (Nat.lt_of_lt_of_le (Heap.lt_size e) I.ok.above))).trans e1⟩
  ·obtain⟨o',e1⟩:=I.base.there b o e hx
   exact⟨o',(hs.2 b (Nat.ne_of_lt (Nat.lt_of_lt_of_le (Heap.lt_size e) I.ok.above))).trans e1⟩
  ·by_cases hj:j=i
   ·subst hj
    rw[hi] at e1;cases e1
    rw[List.getElem?_set_self hiσ] at e2
    cases e2
    exact⟨u,r,.inl ⟨hk,by simp⟩⟩
   ·rw[List.getElem?_set_ne (Ne.symm hj)] at e2
    obtain⟨u',r',q⟩:=hl j y v' e1 e2 e3
    refine⟨u',r',?_⟩
    rcases q with ⟨k,e⟩ | ⟨k,c,e,z⟩
    ·refine .inl ⟨k,?_⟩
     have:y≠x:=λe=>hj (Y60 hN e1 (e ▸ hi))
     simp[this,e]
    ·exact .inr ⟨k,c,e,z.sameBut hs (cne y c e)⟩
  ·obtain⟨w',z⟩:=I.cell y c e
   exact⟨w',z.sameBut hs (cne y c e)⟩
  ·obtain⟨e,n,ne,nf,d⟩:=I.pin p hp
   exact⟨(hs.2 p.1 ne).trans e,n,ne,nf,d⟩
 ·have hfn:X.fn x=true:=by
   rcases hf with z | z
   ·exact z
   ·rw[z] at hk;cases hk
  obtain⟨c,hc⟩:=I.ok.has x (.inl hk)
  obtain⟨w',z⟩:=I.cell x c hc
  refine wpAny_storeName_cell I.ok.kind hk hc z (λh' hc' hs=>?_)
  obtain⟨oc,hoc,hocd⟩:=id z
  refine h { s with heap:=h' } ⟨I.ok,I.os,I.bare,⟨λb o e n hb hx=>?_,λb o e n hb hx=>?_,I.base.free,λb o e hx=>?_,I.base.tups,I.base.frzs,I.base.tbls⟩,⟨m,hn.sameBut hs (Ne.symm (cne x c hc)),λj y v' e1 e2 e3=>?_⟩,λy c' e=>?_,I.free,I.freeC,λp hp=>?_,tracked ⟨oc,hoc,I.freeC x c hc⟩ hs,by simpa using I.len⟩ ⟨c,hs,.inr hc⟩
  ·exact(hs.2 b (Nat.ne_of_lt (Nat.lt_of_lt_of_le (Heap.lt_size e) (I.ok.cab x c hfn hc)))).trans (I.base.keep b o e n hb hx)
  ·obtain⟨sl,e1⟩:=I.base.slot b o e n hb hx
   exact⟨sl,(hs.2 b (Nat.ne_of_lt (Nat.lt_of_lt_of_le (Heap.lt_size e) (I.ok.cab x c hfn hc)))).trans e1⟩
  ·obtain⟨o',e1⟩:=I.base.there b o e hx
   exact⟨o',(hs.2 b (Nat.ne_of_lt (Nat.lt_of_lt_of_le (Heap.lt_size e) (I.ok.cab x c hfn hc)))).trans e1⟩
  ·by_cases hj:j=i
   ·subst hj
    rw[hi] at e1;cases e1
    rw[List.getElem?_set_self hiσ] at e2
    cases e2
    exact⟨u,r,.inr ⟨.inl hk,c,hc,hc'⟩⟩
   ·rw[List.getElem?_set_ne (Ne.symm hj)] at e2
    obtain⟨u',r',q⟩:=hl j y v' e1 e2 e3
    refine⟨u',r',?_⟩
    rcases q with q | ⟨k,c',e,z'⟩
    ·exact .inl q
    ·refine .inr ⟨k,c',e,z'.sameBut hs ?_⟩
     rintro rfl
     exact hj (Y60 hN e1 (I.ok.inj _ _ _ e hc ▸ hi))
  ·by_cases hcc:c'=c
   ·subst hcc;exact⟨_,hc'⟩
   ·obtain⟨w2,z2⟩:=I.cell y c' e
    exact⟨w2,z2.sameBut hs hcc⟩
  ·obtain⟨e,n,ne,nf,d⟩:=I.pin p hp
   refine⟨(hs.2 p.1 ?_).trans e,n,ne,nf,d⟩
   intro q
   rw[q,hoc] at e
   have q':oc=p.2:=Option.some.inj e
   exact d w' (by rw[← q'];exact hocd)
theorem s20{M:Model}{A:Around}{E:Value→Shared→Prop}{i:Nat}{x:Str}{v:V}{u:Value}{Q:Unit→Shared→Prop}(I:Inv X pins σ H s)(hN:X.N.Nodup)(hi:X.N[i]?=some x)(hx:Loc X.env.scope x)(r:RelV v u)
  (h:∀ s',Inv X pins (σ.set i (some v)) H s'→Q () s') (hf:X.fn x=true∨X.env.scope.names.lookup x=some .local:=by first | exact .inl rfl | exact .inr rfl | assumption):wpAny M A (storeName X.env x u) Q E s :=
 L60 I hN hi hx r (λs' I' _=>h s' I') hf
theorem Inv.l12{s':Shared}{ch:List Addr}(I:Inv X pins σ H s)(ho:s'.os=s.os)(u:Un (frs X.stack) ch H H' s.heap s'.heap)(hok:HOk X.prog X.w H' s'.heap)(hg:AllBare s'.gens)
  (hch:∀ b∈ch,(b∈X.ex∨X.s₀.heap.objs.size≤b)∧b≠X.env.locals∧(∀ x c,X.env.cells.lookup x=some c→c≠b)∧∀ p∈X.pn++pins,p.1≠b):Inv X pins σ H' s':=by
 obtain⟨h',g',d',t',o'⟩:=s'
 have e:o'=s.os:=ho
 subst e
 exact I.call (g':=g') (t':=t') (d':=d') u hok hg hch
end
noncomputable abbrev XK:=Value→Option Addr→Hp→Prop
noncomputable abbrev St:=List (Option V)
noncomputable abbrev VK:=V→Hp→Prop
noncomputable abbrev TE:=St→Hp→VK→Prop
noncomputable abbrev TT:=St→Hp→(Bool→Hp→Prop)→Prop
noncomputable abbrev TA:=St→Hp→(List V→Hp→Prop)→Prop
structure Ends where
 nx:St→Hp→Prop
 rt:VK
 bk:St→Hp→Prop:=λ_ _=>False
 ct:St→Hp→Prop:=λ_ _=>False
noncomputable abbrev TS:=Ends→St→Hp→Prop
noncomputable def EP(X:Cx)(pins:List (Addr × Obj))(σ:St)(Q:VK)(u:Value)(s':Shared):Prop:=∃ v H',Inv X pins σ H' s'∧RelV v u∧Q v H'
noncomputable def TP(X:Cx)(pins:List (Addr × Obj))(σ:St)(Q:Bool→Hp→Prop)(b:Bool)(s':Shared):Prop:=∃ H',Inv X pins σ H' s'∧Q b H'
noncomputable def AP(X:Cx)(pins:List (Addr × Obj))(σ:St)(Q:List V→Hp→Prop)(us:List Value)(s':Shared):Prop:=∃ vs H',Inv X pins σ H' s'∧Vals vs us∧Q vs H'
noncomputable def SP(X:Cx)(pins:List (Addr × Obj))(D:Ends)(f:Flow)(s':Shared):Prop :=
 match f with
 |.next=>∃ σ' H',Inv X pins σ' H' s'∧D.nx σ' H'
 |.brk=>∃ σ' H',Inv X pins σ' H' s'∧D.bk σ' H'
 |.cont=>∃ σ' H',Inv X pins σ' H' s'∧D.ct σ' H'
 |.ret u=>∃ v σ' H',Inv X pins σ' H' s'∧RelV v u∧D.rt v H'
noncomputable def PE(X:Cx)(e:Expr)(t:TE):Prop :=
 ∀ (pins:List (Addr × Obj)) (s:Shared) (σ:St) (H:Hp) (Q:VK),Inv X pins σ H s→t σ H Q→wpAny (model X.prog X.w) X.A (eval e X.env) (EP X pins σ Q) X.xe s
noncomputable def PT(X:Cx)(e:Expr)(t:TT):Prop :=
 ∀ (pins:List (Addr × Obj)) (s:Shared) (σ:St) (H:Hp) (Q:Bool→Hp→Prop),Inv X pins σ H s→t σ H Q→wpAny (model X.prog X.w) X.A (isTrue e X.env (eval e X.env)) (TP X pins σ Q) X.xe s
noncomputable def PW(X:Cx)(e:Expr)(t:TT):Prop :=
 ∀ (whole:Sem Value) (pins:List (Addr × Obj)) (s:Shared) (σ:St) (H:Hp) (Q:Bool→Hp→Prop),Inv X pins σ H s→t σ H Q→wpAny (model X.prog X.w) X.A (isTrue e X.env whole) (TP X pins σ Q) X.xe s
theorem PW.pt{X:Cx}{e:Expr}{t:TT}(h:PW X e t):PT X e t:=h _
noncomputable def PA(X:Cx)(es:List Expr)(t:TA):Prop :=
 ∀ (pos:Pos) (pins:List (Addr × Obj)) (s:Shared) (σ:St) (H:Hp) (Q:List V→Hp→Prop),Inv X pins σ H s→t σ H Q→wpAny (model X.prog X.w) X.A (spliced (backTo pos (starEach es X.env))) (AP X pins σ Q) X.xe s
noncomputable def PS(X:Cx)(st:Stmt)(t:TS):Prop :=
 ∀ (pins:List (Addr × Obj)) (s:Shared) (σ:St) (H:Hp) (D:Ends),Inv X pins σ H s→t D σ H→wpAny (model X.prog X.w) X.A (exec st X.env) (SP X pins D) X.xe s
noncomputable def PSs(X:Cx)(st:List Stmt)(t:TS):Prop :=
 ∀ (pins:List (Addr × Obj)) (s:Shared) (σ:St) (H:Hp) (D:Ends),Inv X pins σ H s→t D σ H→wpAny (model X.prog X.w) X.A (execs st X.env) (SP X pins D) X.xe s
theorem thn{α:Type}{t:Sem α}{Q Q':α→Shared→Prop}{M:Model}{A:Around}{E:Value→Shared→Prop}{s:Shared}(h:wpAny M A t Q E s)(hQ:∀ a s,Q a s→Q' a s):wpAny M A t Q' E s:=wpAny_mono h hQ λ_ _ x=>x
end L2
namespace L2
open PySem PySem.Spec PyProof.Rows
section
variable {X:Cx}
noncomputable def j82(i:Nat):TE:=λσ H Q=>∃ v,σ[i]?=some (some v)∧Q v H
noncomputable def tC(v:V):TE:=λ_ H Q=>Q v H
theorem w30{i:Nat}{x:Str}{pos:Pos}(hN:X.N[i]?=some x)(hv:Vis X.env.scope x)(hd:(x == ("__debug__":Str))=false:=by decide)(hcd:(x == ("__classdict__":Str))=false:=by decide):PE X (.Name x pos) (j82 i):=by
 intro pins s σ H Q I h
 obtain⟨v,e,h⟩:=h
 obtain⟨m,hn,hl⟩:=I.loc
 obtain⟨u,r,l⟩:=hl i x v hN e hv
 have fin:EP X pins σ Q u s:=⟨v,H,I,r,h⟩
 rcases l with ⟨hk,hm⟩ | ⟨hk,c,hc,hcell⟩
 ·exact wpAny_Name (wpAny_loadName_local I.ok.kind hk hn hm fin) hd
 ·rcases hk with hk | hk
  ·exact wpAny_Name (wpAny_loadName_cell I.ok.kind hk hc hcell fin) hd
  ·exact wpAny_Name (wpAny_loadName_free I.ok.kind hk hc hcell fin hcd) hd
theorem i81{i j pos}:PE X (.Constant (.int i) j pos) (tC (.int i)):=λ_ _ _ H _ I h=>wpAny_Constant_int ⟨.int i,H,I.tok _,⟨_,rfl⟩,h⟩
theorem l22{b j pos}:PE X (.Constant (.bool b) j pos) (tC (.bl b)):=λ_ _ _ H _ I h=>Constant_bool ⟨.bl b,H,I,rfl,h⟩
theorem W01{j pos}:PE X (.Constant .none j pos) (tC .non):=λ_ _ _ H _ I h=>Constant_none ⟨.non,H,I,rfl,h⟩
theorem F01{x j pos}:PE X (.Constant (.str x) j pos) (tC (.str x)):=λ_ _ _ H _ I h=>Calls.Constant_str ⟨.str x,H,I.tok _,⟨_,rfl⟩,h⟩
noncomputable def Gl(X:Cx)(x:Str):Prop:=X.env.kindOf x=some .globalImplicit
theorem S50{E:Value→Shared→Prop}{pins:List (Addr × Obj)}{s:Shared}{σ:St}{H:Hp}{x:Str}{u:Value}{pos:Pos}{Q:Value→Shared→Prop}(I:Inv X pins σ H s)(hg:Gl X x)(hm:X.mg x=some u)(h:Q u s)
  (hd:(x == ("__debug__":Str))=false:=by decide):wpAny (model X.prog X.w) X.A (eval (.Name x pos) X.env) Q E s :=
 Calls.Name_function_global I.ok.kind hg (Calls.loadGlobal_global (by rw[I.ok.glob];exact I.mod.glob.keeps I.bk) hm h) hd
theorem s30{E:Value→Shared→Prop}{pins:List (Addr × Obj)}{s:Shared}{σ:St}{H:Hp}{x:Str}{u:Value}{pos:Pos}{Q:Value→Shared→Prop}(I:Inv X pins σ H s)(hg:Gl X x)(hm:X.mg x=none)(hv:bootBuiltins x=some u)(h:Q u s)
  (hn:x≠"__name__":=by decide) (hd:(x == ("__debug__":Str))=false:=by decide):wpAny (model X.prog X.w) X.A (eval (.Name x pos) X.env) Q E s:=by
 obtain⟨mb,h1,h2⟩:=I.mod.blt
 exact Calls.Name_function_global I.ok.kind hg (Calls.loadGlobal_builtin (by rw[I.ok.glob];exact I.mod.glob.keeps I.bk) hm (by rw[I.ok.blt];exact h1.keeps I.bk) ((h2 x hn).trans hv) h) hd
theorem I91{x:Str}{v:V}{u:Value}{pos:Pos}(hg:Gl X x)(hm:X.mg x=some u)(r:RelV v u)(hd:(x == ("__debug__":Str))=false:=by decide):PE X (.Name x pos) (tC v) :=
 λ_ _ _ H _ I h=>S50 I hg hm ⟨v,H,I,r,h⟩ hd
theorem S60{x:Str}{v:V}{u:Value}{pos:Pos}(hg:Gl X x)(hm:X.mg x=none)(hv:bootBuiltins x=some u)(r:RelV v u)(hn:x≠"__name__":=by decide)(hd:(x == ("__debug__":Str))=false:=by decide):PE X (.Name x pos) (tC v) :=
 λ_ _ _ H _ I h=>s30 I hg hm hv ⟨v,H,I,r,h⟩ hn hd
variable {a b:Expr}{ta tb:TE}{pos:Pos}
noncomputable def tB(t:TE):TT:=λσ H Q=>t σ H λx H1=>∃ c,x=.bl c∧Q c H1
theorem W11{e:Expr}{t:TE}(h:PE X e t)(he:∀ whole,isTrue e X.env whole=(do let v ← whole;standAt e.pos;holding [v] (truthy v)):=by intro _;rfl):PT X e (tB t):=by
 intro pins s σ H Q I hw
 refine isTrue_plain (thn (h pins s σ H _ I hw) λv s1 ⟨x,H1,I1,r1,q1⟩=>?_) (he _)
 obtain⟨d,rfl,q⟩:=q1
 cases r1
 exact wpAny_truthy_bool ⟨H1,I1,q⟩
variable {tA tB':TT}{rest:List Expr}
noncomputable def y42(t u:TT):TT:=λσ H Q=>t σ H λc H1=>if c=true then u σ H1 Q else Q false H1
noncomputable def tOr(t u:TT):TT:=λσ H Q=>t σ H λc H1=>if c=true then Q true H1 else u σ H1 Q
noncomputable def y52(t:TT):TT:=λσ H Q=>t σ H λc H1=>Q (!c) H1
theorem J01(ha:PT X a tA):PW X (.BoolOp .And [a] pos) tA:=by
 intro wh pins s σ H Q I h
 refine isTrue_and (thn (ha pins s σ H Q I h) λc s1 e=>?_)
 cases c with
 |true=>exact isTrue_and_nil e
 |false=>exact e
theorem W21(ha:PT X a tA):PW X (.BoolOp .Or [a] pos) tA:=by
 intro wh pins s σ H Q I h
 refine isTrue_or (thn (ha pins s σ H Q I h) λc s1 e=>?_)
 cases c with
 |false=>exact isTrue_or_nil e
 |true=>exact e
theorem W31(ha:PT X a tA)(hb:PW X (.BoolOp .And (b::rest) pos) tB'):PW X (.BoolOp .And (a::b::rest) pos) (y42 tA tB'):=by
 intro wh pins s σ H Q I h
 refine isTrue_and (thn (ha pins s σ H _ I h) λc s1 ⟨H1,I1,q1⟩=>?_)
 cases c with
 |true=>exact hb wh pins s1 σ H1 Q I1 q1
 |false=>exact⟨H1,I1,q1⟩
theorem l32(ha:PT X a tA)(hb:PW X (.BoolOp .Or (b::rest) pos) tB'):PW X (.BoolOp .Or (a::b::rest) pos) (tOr tA tB'):=by
 intro wh pins s σ H Q I h
 refine isTrue_or (thn (ha pins s σ H _ I h) λc s1 ⟨H1,I1,q1⟩=>?_)
 cases c with
 |true=>exact⟨H1,I1,q1⟩
 |false=>exact hb wh pins s1 σ H1 Q I1 q1
theorem W41(ha:PT X a tA):PT X (.UnaryOp .Not a pos) (y52 tA):=by
 intro pins s σ H Q I h
 exact isTrue_not (ha pins s σ H (λc H1=>Q (!c) H1) I h)
noncomputable def l42(ta tb:TE):TE:=λσ H Q=>ta σ H λx H1=>∃ c,x=.bl c∧if c=true then tb σ H1 Q else Q (.bl false) H1
noncomputable def y62(ta tb:TE):TE:=λσ H Q=>ta σ H λx H1=>∃ c,x=.bl c∧if c=true then Q (.bl true) H1 else tb σ H1 Q
noncomputable def l52(ta:TE):TE:=λσ H Q=>ta σ H λx H1=>∃ c,x=.bl c∧Q (.bl (!c)) H1
theorem W51{op}{t:TE}(h:PE X a t):PE X (.BoolOp op [a] pos) t:=λpins s σ H Q I hw=>BoolOp_one (h pins s σ H Q I hw)
theorem W61(ha:PE X a ta)(hb:PE X (.BoolOp .And (b::rest) pos) tb):PE X (.BoolOp .And (a::b::rest) pos) (l42 ta tb):=by
 intro pins s σ H Q I h
 refine BoolOp_and (thn (ha pins s σ H _ I h) λv s1 ⟨x,H1,I1,r1,q1⟩=>?_)
 obtain⟨c,rfl,q1⟩:=q1
 cases r1
 refine wpAny_truthy_bool ?_
 cases c with
 |true=>exact hb pins s1 σ H1 Q I1 q1
 |false=>exact⟨.bl false,H1,I1,rfl,q1⟩
theorem l62(ha:PE X a ta)(hb:PE X (.BoolOp .Or (b::rest) pos) tb):PE X (.BoolOp .Or (a::b::rest) pos) (y62 ta tb):=by
 intro pins s σ H Q I h
 refine BoolOp_or (thn (ha pins s σ H _ I h) λv s1 ⟨x,H1,I1,r1,q1⟩=>?_)
 obtain⟨c,rfl,q1⟩:=q1
 cases r1
 refine wpAny_truthy_bool ?_
 cases c with
 |false=>exact hb pins s1 σ H1 Q I1 q1
 |true=>exact⟨.bl true,H1,I1,rfl,q1⟩
theorem W71(ha:PE X a ta):PE X (.UnaryOp .Not a pos) (l52 ta):=by
 intro pins s σ H Q I h
 refine UnaryOp_ (thn (ha pins s σ H _ I h) λv s1 ⟨x,H1,I1,r1,q1⟩=>?_)
 obtain⟨c,rfl,q1⟩:=q1
 cases r1
 exact not_of (wpAny_truthy_bool ⟨.bl (!c),H1,I1,rfl,q1⟩)
noncomputable def tIf(t:TT)(ta tb:TE):TE:=λσ H Q=>t σ H λc H1=>if c=true then ta σ H1 Q else tb σ H1 Q
theorem x41{c:Expr}(hc:PT X c tA)(ha:PE X a ta)(hb:PE X b tb):PE X (.IfExp c a b pos) (tIf tA ta tb):=by
 intro pins s σ H Q I h
 refine wpAny_IfExp (thn (hc pins s σ H _ I h) λd s1 ⟨H1,I1,q1⟩=>?_)
 cases d with
 |true=>exact ha pins s1 σ H1 Q I1 q1
 |false=>exact hb pins s1 σ H1 Q I1 q1
end
end L2
namespace L2
open PySem PySem.Spec PyProof.Rows
noncomputable def SqL(K:PySem.W.Frag)(H:Hp)(a:Addr)(xs:List V):Prop :=
 Rd H a (.lst xs) ∨
  ∃ (o:Obj) (its:Array Value) (n:Nat),K.lookup a=some o∧o.cls=.type "list"∧o.dict=none∧o.data=.seq its n∧its.size≤sizeLine∧Vals xs its.toList
noncomputable def SqT(K:PySem.W.Frag)(H:Hp)(a:Addr)(xs:List V):Prop :=
 Rd H a (.tup xs) ∨
  ∃ (o:Obj) (its:Array Value) (n:Nat),K.lookup a=some o∧o.cls=.type "tuple"∧o.data=.seq its n∧its.size≤sizeLine∧Vals xs its.toList
noncomputable def y72:Value→Option V
 |.none=>some .non
 |.bool b=>some (.bl b)
 |.int i _=>some (.int i)
 |.str x _=>some (.str x)
 |.bytes b _=>some (.byt b)
 |.float b _=>some (.flt b)
 |.ref a=>some (.ref a)
 |.type n=>some (.ty n)
 |_=>none
theorem RelV.abs{x:V}{u:Value}(r:RelV x u):y72 u=some x:=by
 cases x with
 |non=>cases r;rfl
 |bl _=>cases r;rfl
 |int _=>obtain⟨t,rfl⟩:=r;rfl
 |str _=>obtain⟨t,rfl⟩:=r;rfl
 |byt _=>obtain⟨t,rfl⟩:=r;rfl
 |flt _=>obtain⟨t,rfl⟩:=r;rfl
 |ref _=>cases r;rfl
 |ty _=>cases r;rfl
theorem RelV.inj{x y:V}{u:Value}(r:RelV x u)(q:RelV y u):x=y:=Option.some.inj (r.abs.symm.trans q.abs)
theorem Vals.inj:∀ {xs ys:List V}{us:List Value},Vals xs us→Vals ys us→xs=ys
 |_,_,_,.nil,.nil=>rfl
 |_,_,_,.cons r t,.cons r' t'=>by rw[r.inj r',Vals.inj t t']
section
variable {X:Cx}{pins:List (Addr × Obj)}{σ:St}{H:Hp}{s:Shared}{a:Addr}{xs ys:List V}
theorem SqL.of{K:PySem.W.Frag}(h:H a=some (.lst xs)):SqL K H a xs:=.inl (.inl h)
theorem SqT.of{K:PySem.W.Frag}(h:H a=some (.tup xs)):SqT K H a xs:=.inl (.inl h)
theorem Inv.list(I:Inv X pins σ H s)(h:SqL X.K H a xs):∃ its:List Value,Vals xs its∧PlainL s.heap a its.toArray∧xs.length≤sizeLine:=by
 rcases h with h | ⟨o,its,n,hk,hc,hd,hs,hz,r⟩
 ·obtain⟨z,its,n,r,e⟩:=h.ok I.hok
  exact⟨its,r,⟨_,n,e,rfl,rfl,rfl⟩,z⟩
 ·refine⟨its.toList,r,⟨o,n,I.kIn a o hk,hc,hd,by simpa using hs⟩,?_⟩
  have e:=r.length
  simp only[Array.length_toList] at e
  omega
theorem Inv.tuple(I:Inv X pins σ H s)(h:SqT X.K H a xs):∃ its:List Value,Vals xs its∧IsTup s.heap a its.toArray∧xs.length≤sizeLine:=by
 rcases h with h | ⟨o,its,n,hk,hc,hs,hz,r⟩
 ·obtain⟨z,its,r,p⟩:=h.ok I.hok
  exact⟨its,r,p,z⟩
 ·refine⟨its.toList,r,⟨o,I.kIn a o hk,hc,n,by simpa using hs⟩,?_⟩
  have e:=r.length
  simp only[Array.length_toList] at e
  omega
theorem Inv.Y70(I:Inv X pins σ H s)(h:SqL X.K H a xs)(h':SqL X.K H a ys):xs=ys:=by
 obtain⟨its,r,⟨o,n,e,_,_,d⟩,_⟩:=I.list h
 obtain⟨its',r',⟨o',n',e',_,_,d'⟩,_⟩:=I.list h'
 rw[e] at e';cases e'
 rw[d] at d'
 injection d' with d1 _
 have:its=its':=by simpa using congrArg Array.toList d1
 subst this
 exact r.inj r'
theorem Inv.L70(I:Inv X pins σ H s)(h:SqT X.K H a xs)(h':SqT X.K H a ys):xs=ys:=by
 obtain⟨its,r,⟨o,e,_,n,d⟩,_⟩:=I.tuple h
 obtain⟨its',r',⟨o',e',_,n',d'⟩,_⟩:=I.tuple h'
 rw[e] at e';cases e'
 rw[d] at d'
 injection d' with d1 _
 have:its=its':=by simpa using congrArg Array.toList d1
 subst this
 exact r.inj r'
end
section
variable {X:Cx}{pins:List (Addr × Obj)}{σ:St}{H:Hp}{s:Shared}{E:Value→Shared→Prop}
end
section
variable {X:Cx}{st:Stmt}{rest:List Stmt}{t u:TS}{e:Expr}{te:TE}{pos:Pos}
noncomputable def l72:TS:=λD σ H=>D.nx σ H
noncomputable def y82(t u:TS):TS:=λD σ H=>t { D with nx:=u D } σ H
theorem J11:PSs X [] l72:=λ_ _ σ H _ I h=>wpAny_execs_nil ⟨σ,H,I,h⟩
theorem x51(h1:PS X st t)(h2:PSs X rest u):PSs X (st::rest) (y82 t u):=by
 intro pins s σ H D I h
 refine wpAny_execs_cons (thn (h1 pins s σ H { D with nx:=u D } I h) λf s1 q=>?_)
 cases f with
 |next =>
  obtain⟨σ',H',I',q⟩:=q
  exact h2 pins s1 σ' H' D I' q
 |ret v=>exact q
 |brk=>exact q
 |cont=>exact q
theorem Inv.quiet{pins:List (Addr × Obj)}{σ:St}{H:Hp}{s:Shared}(I:Inv X pins σ H s):interactive X.env=false:=by simp[interactive,I.ok.kind]
noncomputable def W81(te:TE):TS:=λD σ H=>te σ H λ_ H1=>D.nx σ H1
theorem S70(he:PE X e te)(hs:swapsWith e none pos.line X.env=pure false:=by rfl):PS X (.Expr e pos) (W81 te):=by
 intro pins s σ H D I h
 exact wpAny_Expr_any (thn (he pins s σ H _ I h) λv s1 ⟨x,H1,I1,r1,q1⟩=>⟨σ,H1,I1,q1⟩) I.quiet hs
noncomputable def y92(te:TE):TS:=λD σ H=>te σ H D.rt
theorem F11(he:PE X e te):PS X (.Return (some e) pos) (y92 te):=by
 intro pins s σ H D I h
 exact wpAny_Return_some (thn (he pins s σ H _ I h) λv s1 ⟨x,H1,I1,r1,q1⟩=>⟨x,σ,H1,I1,r1,q1⟩)
noncomputable def l82:TS:=λD _ H=>D.rt .non H
theorem J21:PS X (.Return none pos) l82:=λ_ _ σ H _ I h=>wpAny_Return_none ⟨.non,σ,H,I,rfl,h⟩
noncomputable def z02(c:TT)(t u:TS):TS:=λD σ H=>c σ H λb H1=>if b=true then t D σ H1 else u D σ H1
theorem l92{c:Expr}{a b:List Stmt}{tc:TT}(hc:PT X c tc)(ha:PSs X a t)(hb:PSs X b u):PS X (.If c a b pos) (z02 tc t u):=by
 intro pins s σ H D I h
 refine wpAny_If (thn (hc pins s σ H _ I h) λd s1 ⟨H1,I1,q1⟩=>?_)
 cases d with
 |true=>exact ha pins s1 σ H1 D I1 q1
 |false=>exact hb pins s1 σ H1 D I1 q1
end
noncomputable abbrev TG:=V→St→Hp→(St→Hp→Prop)→Prop
noncomputable abbrev TGs:=List V→St→Hp→(St→Hp→Prop)→Prop
noncomputable def PG(X:Cx)(target:Expr)(t:TG):Prop :=
 ∀ (pins:List (Addr × Obj)) (s:Shared) (σ:St) (H:Hp) (v:V) (u:Value) (Q:St→Hp→Prop),Inv X pins σ H s→RelV v u→t v σ H Q →
  wpAny (model X.prog X.w) X.A (assign target X.env u) (λ_ s'=>∃ σ' H',Inv X pins σ' H' s'∧Q σ' H') X.xe s
noncomputable def PGs(X:Cx)(ts:List Expr)(t:TGs):Prop :=
 ∀ (pins:List (Addr × Obj)) (s:Shared) (σ:St) (H:Hp) (vs:List V) (us:List Value) (Q:St→Hp→Prop),Inv X pins σ H s→Vals vs us→t vs σ H Q →
  wpAny (model X.prog X.w) X.A (assignInOrder ((assignEach ts X.env).map (·.2)) us) (λ_ s'=>∃ σ' H',Inv X pins σ' H' s'∧Q σ' H') X.xe s
noncomputable abbrev W91:=V→V→V→Hp→(Hp→Prop)→Prop
noncomputable def m02(X:Cx)(t:W91):Prop :=
 ∀ (pins:List (Addr × Obj)) (s:Shared) (σ:St) (H:Hp) (o i v:V) (ov iv u:Value) (Q:Hp→Prop),Inv X pins σ H s→RelV o ov→RelV i iv→RelV v u→t o i v H Q →
  wpAny (model X.prog X.w) X.A (setItem ov iv u) (λ_ s'=>∃ H',Inv X pins σ H' s'∧Q H') X.xe s
noncomputable abbrev TIp:=V→V→Hp→VK→Prop
noncomputable def PIp(X:Cx)(op:Operator)(t:TIp):Prop :=
 ∀ (pins:List (Addr × Obj)) (s:Shared) (σ:St) (H:Hp) (x y:V) (v u:Value) (Q:VK),Inv X pins σ H s→RelV x v→RelV y u→t x y H Q →
  wpAny (model X.prog X.w) X.A (inplaceOp op v u) (EP X pins σ Q) X.xe s
section
variable {X:Cx}{pos:Pos}
noncomputable def e71(i:Nat):TG:=λv σ H Q=>Q (σ.set i (some v)) H
theorem J31{i:Nat}{x:Str}(hN:X.N.Nodup)(hi:X.N[i]?=some x)(hx:Loc X.env.scope x)(hf:X.fn x=true∨X.env.scope.names.lookup x=some .local:=by first | exact .inl rfl | exact .inr rfl | assumption):PG X (.Name x pos) (e71 i):=by
 intro pins s σ H v u Q I r h
 exact wpAny_assign_Name (s20 I hN hi hx r (λs' I'=>⟨_,H,I',h⟩) hf)
noncomputable def v42:TGs:=λvs σ H Q=>vs=[]∧Q σ H
noncomputable def X01(t:TG)(u:TGs):TGs:=λvs σ H Q=>∃ v r,vs=v::r∧t v σ H λσ' H'=>u r σ' H' Q
theorem J41:PGs X [] v42:=by
 intro pins s σ H vs us Q I r h
 obtain⟨e,h⟩:=h
 subst e
 cases r
 exact assignInOrder_nil ⟨σ,H,I,h⟩
theorem x61{e:Expr}{es:List Expr}{t:TG}{u:TGs}(h1:PG X e t)(h2:PGs X es u)
  (hs:(assignEach (e::es) X.env).map (·.2)=assign e X.env::(assignEach es X.env).map (·.2):=by rfl):PGs X (e::es) (X01 t u):=by
 intro pins s σ H vs us Q I r h
 obtain⟨v,vr,e1,h⟩:=h
 subst e1
 cases r with
 |cons r rr =>
  rw[hs]
  refine assignInOrder_cons (thn (h1 pins s σ H _ _ _ I r h) λ_ s1 ⟨σ1,H1,I1,q1⟩=>?_)
  exact h2 pins s1 σ1 H1 _ _ Q I1 rr q1
noncomputable def v52(K:PySem.W.Frag)(n:Nat)(t:TGs):TG:=λv σ H Q=>∃ a xs,v=.ref a∧SqT K H a xs∧xs.length=n∧t xs σ H Q
theorem X11{es:List Expr}{k:Nat}{t:TGs}{n:Nat}(hc:X.calm=true)(h:PGs X es t)
  (hn:(assignEach es X.env).length=n:=by rfl) (hst:(assignEach es X.env).findIdx? (·.1)=none:=by rfl):PG X (.Tuple es k pos) (v52 X.K n t):=by
 intro pins s σ H v u Q I r hw
 obtain⟨a,xs,e1,hq,hl,hw⟩:=hw
 subst e1
 cases r
 obtain⟨its,rv,ht,hz⟩:=I.tuple hq
 refine assign_Tuple_tuple (I.ok.hd hc) ht (by simp[hn,← hl,rv.length]) hst λh' hx=>?_
 have I1:Inv X pins σ H { s with heap:=h' }:=I.kept (t':=s.toks) λb o e=>hx b o (Nat.ne_of_lt (Heap.lt_size e)) e
 exact h pins _ σ H xs _ Q I1 (by simpa using rv) hw
noncomputable def z12(to ti:TE)(t:W91):TG:=λv σ H Q=>to σ H λo H1=>ti σ H1 λi H2=>t o i v H2 λH3=>Q σ H3
theorem X21{o i:Expr}{to ti:TE}{t:W91}(ho:PE X o to)(hi:PE X i ti)(hs:m02 X t)
  (ha:∀ v,assign (.Subscript o i pos) X.env v=(do
   let ov ← holding [v] (eval o X.env)
   let iv ← holding [v,ov] (eval i X.env)
   standAt pos
   holding [v,ov,iv] (setItem ov iv v)
   release [v,ov,iv] []):=by intro _;rfl):PG X (.Subscript o i pos) (z12 to ti t):=by
 intro pins s σ H v u Q I r h
 rw[ha]
 refine wpAny_bind (wpAny_holding (thn (ho pins s σ H _ I h) λov s1 ⟨x,H1,I1,r1,q1⟩=>?_))
 refine wpAny_bind (wpAny_holding (thn (hi pins s1 σ H1 _ I1 q1) λiv s2 ⟨y,H2,I2,r2,q2⟩=>?_))
 refine wpAny_bind (wpAny_standAt (wpAny_bind (wpAny_holding (thn (hs pins s2 σ H2 x y v ov iv u _ I2 r1 r2 r q2) λ_ s3 ⟨H3,I3,q3⟩=>?_))))
 exact wpAny_release ⟨σ,H3,I3,q3⟩
noncomputable def X31(te:TE)(g:TG):TS:=λD σ H=>te σ H λx H1=>g x σ H1 D.nx
theorem F21{tg e:Expr}{te:TE}{g:TG}(he:PE X e te)(hg:PG X tg g)(hs:swapsWithSole [tg] e pos.line X.env=pure false:=by rfl)(hw:swappedStores [tg] e X.env=pure none:=by rfl)
  (h1:(assignEach [tg] X.env).map (·.2)=[assign tg X.env]:=by rfl):PS X (.Assign [tg] e pos) (X31 te g):=by
 intro pins s σ H D I h
 refine wpAny_Assign_stores (thn (he pins s σ H _ I h) λv s1 ⟨x,H1,I1,r1,q1⟩=>?_) hs hw
 rw[h1]
 exact thn (hg pins s1 σ H1 x v _ I1 r1 q1) λ_ s2 q=>q
theorem i91{i:Nat}{x:Str}{e:Expr}{te:TE}{pos':Pos}(hN:X.N.Nodup)(hi:X.N[i]?=some x)(hx:Loc X.env.scope x)(he:PE X e te)(hs:swapsWith e (some (.Name x pos')) pos.line X.env=pure false:=by rfl)(hf:X.fn x=true∨X.env.scope.names.lookup x=some .local:=by first | exact .inl rfl | exact .inr rfl | assumption) :
  PS X (.Assign [.Name x pos'] e pos) (X31 te (e71 i)):=by
 intro pins s σ H D I h
 refine wpAny_Assign_Name (thn (he pins s σ H _ I h) λv s1 ⟨y,H1,I1,r1,q1⟩=>?_) hs
 exact s20 I1 hN hi hx r1 (λs2 I2=>⟨_,H1,I2,q1⟩) hf
noncomputable def z22(i j:Nat)(ta:TA):TS:=λD σ H=>ta σ H λvs H1=>∃ v w,vs=[v,w]∧D.nx ((σ.set i (some v)).set j (some w)) H1
theorem X41{i j:Nat}{x y:Str}{a b:Expr}{ta:TA}{px py pt:Pos}{kt k2 pt2}(hc:X.calm=true)(hN:X.N.Nodup)(hi:X.N[i]?=some x)(hj:X.N[j]?=some y)(hij:i≠j)
  (hx:X.env.scope.names.lookup x=some .local) (hy:X.env.scope.names.lookup y=some .local) (ha:PA X [a,b] ta)
  (hw:swappedStores [.Tuple [.Name x px,.Name y py] kt pt] (.Tuple [a,b] k2 pt2) X.env=pure (some [x,y]))
  (hs:swapsWithSole [.Tuple [.Name x px,.Name y py] kt pt] (.Tuple [a,b] k2 pt2) pos.line X.env=pure false:=by rfl) :
  PS X (.Assign [.Tuple [.Name x px,.Name y py] kt pt] (.Tuple [a,b] k2 pt2) pos) (z22 i j ta):=by
 intro pins s σ H D I h
 rw[exec_Assign_arm]
 refine wpAny_bind (wpAny_standAt ?_)
 rw[hs]
 refine wpAny_bind (wpAny_pure ?_)
 rw[if_neg (by decide)]
 refine wpAny_bind (Tuple_ (thn (ha _ pins s σ H _ I h) λus s1 ⟨vs,H1,I1,r1,q1⟩=>?_))
 obtain⟨v,w,e1,q1⟩:=q1
 subst e1
 obtain⟨u1,u2,rfl,rv,rw'⟩:∃ u1 u2,us=[u1,u2]∧RelV v u1∧RelV w u2:=by
  cases r1 with
  |cons p q =>
   cases q with
   |cons p' q' =>
    cases q'
    exact⟨_,_,rfl,p,p'⟩
 refine wpAny_newObj_type ?_ (by show 2≤sizeLine;decide)
 have I2:Inv X pins σ H1 { s1 with heap:=s1.heap.push { cls:=.type "tuple",data:=.seq [u1,u2].toArray } }:=I1.kept (t':=s1.toks) λb o e=>Heap.get?_push_of_some _ e
 rw[hw]
 refine wpAny_bind (wpAny_pure ?_)
 show wpAny (model X.prog X.w) X.A (do rule "assign.swapped-stores";let items ← unpackItems (.ref s1.heap.objs.size) 2 none;assignInOrder [λv=>bindName X.env y v,λv=>bindName X.env x v] items.reverse;pure Flow.next) _ _ _
 refine wpAny_bind (wpAny_rule (wpAny_bind (unpackItems_tuple (items:=#[u1,u2]) (I.ok.hd hc) (IsTup.new s1.heap _) λh' hx'=>?_)))
 have I3:=I2.kept (h':=h') (t':=s1.toks) λb o e=>hx' b o (Nat.ne_of_lt (Heap.lt_size e)) e
 show wpAny _ _ (assignInOrder [λv=>bindName X.env y v,λv=>bindName X.env x v] [u2,u1] >>= λ_=>pure Flow.next) _ _ _
 refine wpAny_bind (assignInOrder_cons (wpAny_bindName (s20 I3 hN hj (.inl hy) rw' (λs2 I4=>?_) (.inr hy))))
 refine assignInOrder_cons (wpAny_bindName (s20 I4 hN hi (.inl hx) rv (λs3 I5=>assignInOrder_nil (wpAny_pure ?_)) (.inr hx)))
 rw[List.set_comm _ _ (Ne.symm hij)] at I5
 exact⟨_,H1,I5,q1⟩
noncomputable def z32(i:Nat)(te:TE)(ti:TIp):TS:=λD σ H=>∃ x,σ[i]?=some (some x)∧te σ H λy H1=>ti x y H1 λz H2=>D.nx (σ.set i (some z)) H2
theorem X51{i:Nat}{x:Str}{e:Expr}{te:TE}{op:Operator}{ti:TIp}{pos':Pos}(hN:X.N.Nodup)(hi:X.N[i]?=some x)(hx:Loc X.env.scope x)(he:PE X e te)(ho:PIp X op ti)(hf:X.fn x=true∨X.env.scope.names.lookup x=some .local:=by first | exact .inl rfl | exact .inr rfl | assumption) :
  PS X (.AugAssign (.Name x pos') op e pos) (z32 i te ti):=by
 intro pins s σ H D I h
 obtain⟨v,e1,h⟩:=h
 obtain⟨m,hn,hl⟩:=I.loc
 have vis:Vis X.env.scope x:=by rcases hx with k | k;exact .inl k;exact .inr (.inl k)
 obtain⟨u,r,l⟩:=hl i x v hi e1 vis
 refine wpAny_AugAssign_Name ?_
 have go:wpAny (model X.prog X.w) X.A (eval e X.env) (λw s₂=>wpAny (model X.prog X.w) X.A (inplaceOp op u w) (λr s₃=>wpAny (model X.prog X.w) X.A (storeName X.env x r) (λ_=>SP X pins D .next) X.xe s₃) X.xe s₂) X.xe s:=by
  refine thn (he pins s σ H _ I h) λw s1 ⟨y,H1,I1,r1,q1⟩=>?_
  refine thn (ho pins s1 σ H1 v y u w _ I1 r r1 q1) λz s2 ⟨zv,H2,I2,r2,q2⟩=>?_
  exact s20 I2 hN hi hx r2 (λs3 I3=>⟨_,H2,I3,q2⟩) hf
 rcases l with ⟨hk,hm⟩ | ⟨hk,c,hc,hcell⟩
 ·exact wpAny_loadName_local I.ok.kind hk hn hm go
 ·rcases hk with hk | hk
  ·exact wpAny_loadName_cell I.ok.kind hk hc hcell go
  ·rcases hx with k | k
   ·have:X.env.scope.names.lookup x=some .free:=hk
    rw[k] at this;cases this
   ·have:X.env.scope.names.lookup x=some .free:=hk
    rw[k] at this;cases this
noncomputable def m12(to ti te:TE)(tget:V→V→Hp→VK→Prop)(tip:TIp)(tset:W91):TS:=λD σ H=>to σ H λo H1=>ti σ H1 λi H2=>tget o i H2 λx H3=>te σ H3 λy H4=>tip x y H4 λz H5=>tset o i z H5 λH6=>D.nx σ H6
noncomputable def z42(X:Cx)(t:V→V→Hp→VK→Prop):Prop :=
 ∀ (pins:List (Addr × Obj)) (s:Shared) (σ:St) (H:Hp) (o i:V) (ov iv:Value) (Q:VK),Inv X pins σ H s→RelV o ov→RelV i iv→t o i H Q →
  wpAny (model X.prog X.w) X.A (getItem ov iv) (EP X pins σ Q) X.xe s
theorem m22{o i e:Expr}{to ti te:TE}{tget:V→V→Hp→VK→Prop}{tip:TIp}{tset:W91}{op:Operator}{tpos:Pos}(ho:PE X o to)(hi:PE X i ti)(hg:z42 X tget)(he:PE X e te)(hp:PIp X op tip)(hs:m02 X tset)
  (ha:∀ ov iv new,augStore i ov iv new=(do holding [new,ov,iv] (setItem ov iv new);release [new,ov,iv] [];pure .next):=by intros;rfl):PS X (.AugAssign (.Subscript o i tpos) op e pos) (m12 to ti te tget tip tset):=by
 intro pins s σ H D I h
 refine wpAny_AugAssign_SubscriptAny (thn (ho pins s σ H _ I h) λov s1 ⟨x1,H1,I1,r1,q1⟩=>?_) ha
 refine thn (hi pins s1 σ H1 _ I1 q1) λiv s2 ⟨x2,H2,I2,r2,q2⟩=>?_
 refine thn (hg pins s2 σ H2 x1 x2 ov iv _ I2 r1 r2 q2) λold s3 ⟨x3,H3,I3,r3,q3⟩=>?_
 refine thn (he pins s3 σ H3 _ I3 q3) λv s4 ⟨x4,H4,I4,r4,q4⟩=>?_
 refine thn (hp pins s4 σ H4 x3 x4 old v _ I4 r3 r4 q4) λnew s5 ⟨x5,H5,I5,r5,q5⟩=>?_
 exact thn (hs pins s5 σ H5 x1 x2 x5 ov iv new _ I5 r1 r2 r5 q5) λ_ s6 ⟨H6,I6,q6⟩=>⟨σ,H6,I6,q6⟩
noncomputable def ipI(f:Int→Int→Int):TIp:=λx y H Q=>∃ i j,x=.int i∧y=.int j∧Q (.int (f i j)) H
theorem v62:PIp X .Add (ipI λi j=>i + j):=by
 intro pins s σ H x y v u Q I r1 r2 h
 obtain⟨i,j,e1,e2,q⟩:=h
 subst e1;subst e2
 obtain⟨t,rfl⟩:=r1
 obtain⟨t',rfl⟩:=r2
 exact iadd_int ⟨.int _,H,I.tok _,⟨_,rfl⟩,q⟩
end
section
variable {X:Cx}{pos:Pos}
noncomputable def X61(c:TT)(tb:TS):TS:=λD σ H=>∃ W:Nat→St→Hp→Prop,(∃ m,W m σ H)∧∀ m σ H,W m σ H →
 c σ H λb H1=>if b=true then ∃ N:St→Hp→Prop,(∀ σ' H',N σ' H'→∃ m',m' < m∧W m' σ' H')∧tb { D with nx:=N,ct:=N,bk:=D.nx } σ H1 else D.nx σ H1
theorem x71{c:Expr}{body:List Stmt}{tc:TT}{tb:TS}(hp:PassesOwn (model X.prog X.w) X.A X.env X.xe)(hc:PT X c tc)(hb:PSs X body tb):PS X (.While c body [] pos) (X61 tc tb):=by
 intro pins s σ H D I h
 obtain⟨W,⟨m0,w0⟩,turn⟩:=h
 refine wpAny_While (codeAny_whileLoop (λn s'=>∃ σ' H',Inv X pins σ' H' s'∧W n σ' H') ?_ m0 ⟨σ,H,I,w0⟩)
 rintro n s1 ⟨σ1,H1,I1,w1⟩
 refine wpAny_passesOwn hp (thn (hc pins s1 σ1 H1 _ I1 (turn n σ1 H1 w1)) λb s2 ⟨H2,I2,q2⟩=>?_)
 cases b with
 |true =>
  obtain⟨N,hN,q2⟩:=q2
  rw[if_pos rfl]
  refine wpAny_passesOwn hp (thn (hb pins s2 σ1 H2 _ I2 q2) λf s3 q3=>?_)
  cases f with
  |next =>
   obtain⟨σ3,H3,I3,n3⟩:=q3
   obtain⟨m',hm,w3⟩:=hN σ3 H3 n3
   exact⟨m',hm,σ3,H3,I3,w3⟩
  |cont =>
   obtain⟨σ3,H3,I3,n3⟩:=q3
   obtain⟨m',hm,w3⟩:=hN σ3 H3 n3
   exact⟨m',hm,σ3,H3,I3,w3⟩
  |brk=>exact q3
  |ret v=>exact q3
 |false =>
  rw[if_neg Bool.false_ne_true]
  exact wpAny_execs_nil ⟨σ1,H2,I2,q2⟩
end
structure It where
 go:Nat→Hp→Prop
 yld:Nat→Hp→V→Hp→Prop
 stop:Nat→Hp→Prop
noncomputable def e81(X:Cx)(pins:List (Addr × Obj))(H:Hp)(b:Addr):Prop :=
 H b=none∧b≠X.env.locals∧b ∉ X.fs∧(b∈X.ex∨X.s₀.heap.objs.size≤b)∧(∀ x c,X.env.cells.lookup x=some c→c≠b)∧∀ p∈X.pn++pins,p.1≠b
theorem Inv.i31{X:Cx}{pins:List (Addr × Obj)}{σ:St}{H H':Hp}{s:Shared}{b:Addr}(I:Inv X pins σ H s)(hb:s.heap.objs.size≤b)(hn:H' b=none):e81 X pins H' b:=by
 refine⟨hn,Nat.ne_of_gt (Nat.lt_of_lt_of_le I.lt hb),I.y32 hb,.inr (Nat.le_trans I.sz hb),λx c e z=>?_,λp hp z=>?_⟩
 ·obtain⟨v,q⟩:=I.cell x c e
  exact absurd (Nat.lt_of_lt_of_le q.lt (by rw[z];exact hb)) (Nat.lt_irrefl _)
 ·exact absurd (Nat.lt_of_lt_of_le (Heap.lt_size (I.pin p hp).1) (by rw[z];exact hb)) (Nat.lt_irrefl _)
structure Turn(P:Program)(w:World)(K:PySem.W.Frag)(tg:Expr)(J:It)(fp:List Addr)(it:Addr)(tn:Nat→Heap→Prop):Prop where
 mem:it∈fp
 obj:∀ i h,tn i h→∀ b∈fp,∃ o,h.get? b=some o∧∀ v,o.data≠.cell v
 keep:∀ i h h',tn i h→(∀ b∈fp,∀ o,h.get? b=some o→h'.get? b=some o)→tn i h'
 item:∀ (X:Cx),X.prog=P→X.w=w→X.K=K→X.calm=true→∀ (i:Nat) (pins:List (Addr × Obj)) (s:Shared) (σ:St) (H:Hp) (E:Value→Shared→Prop),Inv X pins σ H s→(∀ b∈fp,e81 X pins H b)→tn i s.heap→J.go i H →
  wpAny (model P w) X.A (pyNext (.ref it)) (λr s1=>∃ u,r=some u ∧
   wpAny (model P w) X.A (letOwnedTupleGo tg (.ref it) u) (λ_ s2=>∃ x H',Inv X pins σ H' s2∧RelV x u∧J.yld i H x H'∧tn (i + 1) s2.heap∧∀ b∈fp,H' b=none) E s1) E s
 done:∀ (X:Cx),X.prog=P→X.w=w→X.K=K→X.calm=true→∀ (i:Nat) (pins:List (Addr × Obj)) (s:Shared) (σ:St) (H:Hp) (E:Value→Shared→Prop),Inv X pins σ H s→(∀ b∈fp,e81 X pins H b)→tn i s.heap→J.stop i H →
  wpAny (model P w) X.A (pyNext (.ref it)) (λr s1=>r=none∧Inv X pins σ H s1) E s
 self:∀ (A:Around) (i:Nat) (s:Shared) (Q:Value→Shared→Prop) (E:Value→Shared→Prop),tn i s.heap→Q (.ref it) s→wpAny (model P w) A (pyIter (.ref it)) Q E s
noncomputable abbrev TI:=St→Hp→(It→Hp→Prop)→Prop
noncomputable def PIE(X:Cx)(pins:List (Addr × Obj))(σ:St)(tg:Expr)(R:It→Hp→Prop)(itv:Value)(s2:Shared):Prop :=
 ∃ (it:Addr) (fp:List Addr) (tn:Nat→Heap→Prop) (J:It) (H':Hp),itv=.ref it∧Inv X pins σ H' s2∧Turn X.prog X.w X.K tg J fp it tn∧tn 0 s2.heap∧(∀ b∈fp,e81 X pins H' b)∧R J H'
noncomputable def PI(X:Cx)(tg iter:Expr)(wi:TI):Prop :=
 ∀ (pins:List (Addr × Obj)) (s:Shared) (σ:St) (H:Hp) (R:It→Hp→Prop),Inv X pins σ H s→wi σ H R →
  wpAny (model X.prog X.w) X.A (eval iter X.env) (λv s1=>wpAny (model X.prog X.w) X.A (pyIter v) (PIE X pins σ tg R) X.xe s1) X.xe s
theorem J51{M:Model}{A:Around}{E:Value→Shared→Prop}{s:Shared}{tg:Expr}{it:Addr}{u:Value}{o:Obj}{n:String}{vs:Array Value}{Q:Unit→Shared→Prop}(ho:s.heap.get? it=some o)(hc:o.cls=.type n)(hd:o.data=.fields vs)
  (hn:["enumerate","zip","dict_itemiterator","dict_reverseitemiterator","odict_iterator","itertools.zip_longest","itertools.pairwise"].contains n=false) (hQ:Q () s):wpAny M A (letOwnedTupleGo tg (.ref it) u) Q E s:=by
 unfold letOwnedTupleGo
 cases tg <;> first
  |exact wpAny_pure hQ
  |(cases u <;> first
    |exact wpAny_pure hQ
    |(refine wpAny_bind (wpAny_load ho ?_)
      rw[hc,hd]
      show wpAny M A (if (["enumerate","zip","dict_itemiterator","dict_reverseitemiterator","odict_iterator","itertools.zip_longest","itertools.pairwise"].contains n&&vs[0]? == some (rawInt _))=true then _ else _) Q E s
      rw[if_neg (by intro h;rw[hn,Bool.false_and] at h;cases h)]
      exact wpAny_pure hQ))
noncomputable def Itl(K:PySem.W.Frag)(a:Addr):It :=
 ⟨λi H=>∃ xs x,SqL K H a xs∧xs[i]?=some x,λi H x H'=>H'=H∧∀ xs,SqL K H a xs→xs[i]?=some x,λi H=>∃ xs,SqL K H a xs∧xs.length≤i⟩
noncomputable def Itt(K:PySem.W.Frag)(a:Addr):It :=
 ⟨λi H=>∃ xs x,SqT K H a xs∧xs[i]?=some x,λi H x H'=>H'=H∧∀ xs,SqT K H a xs→xs[i]?=some x,λi H=>∃ xs,SqT K H a xs∧xs.length≤i⟩
noncomputable def Itr(lo:Int)(n:Nat):It:=⟨λi _=>i < n,λi H x H'=>H'=H∧x=.int (lo + i),λi _=>n≤i⟩
theorem j01{P:Program}{w:World}{K:PySem.W.Frag}{tg:Expr}(a it:Addr):Turn P w K tg (Itl K a) [it] it (λi h=>h.IsListIter it a i) where
 mem:=by simp
 obj:=λi h st b hb=>by
  have e:b=it:=by simpa using hb
  subst e
  obtain⟨o,e,c,d⟩:=st
  exact⟨o,e,λv z=>by rw[d] at z;cases z⟩
 keep:=λi h h' st k=>st.at λo e=>k it (by simp) o e
 item:=by
  intro X hP hw hK hc i pins s σ H E I hf st hg
  subst hP hw hK
  obtain⟨xs,x,hq,hx⟩:=hg
  obtain⟨its,rv,p,hz⟩:=I.list hq
  obtain⟨u,hu,ru⟩:=rv.get hx
  obtain⟨f0,f1,f2,f3,f4,f5⟩:=hf it (by simp)
  refine wpAny_pyNext_list_item st p.isList (x:=u) (by simpa using hu) λh' st' sb=>?_
  have I1:Inv X pins σ H { s with heap:=h' }:=I.turned (t':=s.toks) (λb o hb e=>(sb.2 b hb).trans e) f0 f1 f3 f4 f5
  obtain⟨o,e,c,d⟩:=id st'
  exact⟨u,rfl,J51 (s:={ s with heap:=h' }) e c d (by decide) ⟨x,H,I1,ru,⟨rfl,λys hy=>by rw[I.Y70 hy hq];exact hx⟩,st',λb hb=>(hf b hb).1⟩⟩
 done:=by
  intro X hP hw hK hc i pins s σ H E I hf st hg
  subst hP hw hK
  obtain⟨xs,hq,hx⟩:=hg
  obtain⟨its,rv,p,hz⟩:=I.list hq
  obtain⟨f0,f1,f2,f3,f4,f5⟩:=hf it (by simp)
  have hl:=rv.length
  exact wpAny_pyNext_list_end (I.ok.hd hc) st p.isList (by simp;omega) λh' eb=>⟨rfl,I.turned (t':=s.toks) (λb o hb e=>eb b o hb e) f0 f1 f3 f4 f5⟩
 self:=λ_ _ _ _ _ st h=>wpAny_pyIter_listiter st h
theorem e91{P:Program}{w:World}{K:PySem.W.Frag}{tg:Expr}(a it:Addr):Turn P w K tg (Itt K a) [it] it (λi h=>h.IsTupleIter it a i) where
 mem:=by simp
 obj:=λi h st b hb=>by
  have e:b=it:=by simpa using hb
  subst e
  obtain⟨o,e,c,d⟩:=st
  exact⟨o,e,λv z=>by rw[d] at z;cases z⟩
 keep:=λi h h' st k=>st.at λo e=>k it (by simp) o e
 item:=by
  intro X hP hw hK hc i pins s σ H E I hf st hg
  subst hP hw hK
  obtain⟨xs,x,hq,hx⟩:=hg
  obtain⟨its,rv,p,hz⟩:=I.tuple hq
  obtain⟨u,hu,ru⟩:=rv.get hx
  obtain⟨f0,f1,f2,f3,f4,f5⟩:=hf it (by simp)
  refine wpAny_pyNext_tuple_item st (show s.heap.IsTuple a its.toArray from p) (x:=u) (by simpa using hu) λh' st' sb=>?_
  have I1:Inv X pins σ H { s with heap:=h' }:=I.turned (t':=s.toks) (λb o hb e=>(sb.2 b hb).trans e) f0 f1 f3 f4 f5
  obtain⟨o,e,c,d⟩:=id st'
  exact⟨u,rfl,J51 (s:={ s with heap:=h' }) e c d (by decide) ⟨x,H,I1,ru,⟨rfl,λys hy=>by rw[I.L70 hy hq];exact hx⟩,st',λb hb=>(hf b hb).1⟩⟩
 done:=by
  intro X hP hw hK hc i pins s σ H E I hf st hg
  subst hP hw hK
  obtain⟨xs,hq,hx⟩:=hg
  obtain⟨its,rv,p,hz⟩:=I.tuple hq
  obtain⟨f0,f1,f2,f3,f4,f5⟩:=hf it (by simp)
  have hl:=rv.length
  exact wpAny_pyNext_tuple_end (I.ok.hd hc) st (show s.heap.IsTuple a its.toArray from p) (by simp;omega) λh' eb=>⟨rfl,I.turned (t':=s.toks) (λb o hb e=>eb b o hb e) f0 f1 f3 f4 f5⟩
 self:=λ_ _ _ _ _ st h=>wpAny_pyIter_tupleiter st h
theorem f01{P:Program}{w:World}{K:PySem.W.Frag}{tg:Expr}(it:Addr)(lo:Int)(n:Nat):Turn P w K tg (Itr lo n) [it] it (λi h=>IsRangeIter h it (lo + (i:Nat) * 1) ((n:Int) - (i:Nat)) 1) where
 mem:=by simp
 obj:=λi h st b hb=>by
  have e:b=it:=by simpa using hb
  subst e
  exact⟨_,st,λv z=>by
   have z':Data.fields _=Data.cell v:=z
   cases z'⟩
 keep:=λi h h' st k=>k it (by simp) _ st
 item:=by
  intro X hP hw hK hc i pins s σ H E I hf st hg
  subst hP hw hK
  obtain⟨f0,f1,f2,f3,f4,f5⟩:=hf it (by simp)
  have W:=Walks.range (prog:=X.prog) (w:=X.w) (I.ok.hd hc) it lo 1 n
  refine W.item i s _ _ hg st λv h' tk hv st' kk=>?_
  obtain⟨t,rfl⟩:=hv
  have I1:Inv X pins σ H { s with heap:=h',toks:=tk }:=I.turned (λb o hb e=>kk b o (by simpa using hb) e) f0 f1 f3 f4 f5
  refine⟨_,rfl,J51 (s:={ s with heap:=h',toks:=tk }) (n:="range_iterator") st' rfl rfl (by decide) ⟨.int (lo + i),H,I1,⟨t,?_⟩,⟨rfl,rfl⟩,st',λb hb=>(hf b hb).1⟩⟩
  rw[Int.mul_one]
 done:=by
  intro X hP hw hK hc i pins s σ H E I hf st hg
  subst hP hw hK
  obtain⟨f0,f1,f2,f3,f4,f5⟩:=hf it (by simp)
  exact wpAny_pyNext_range_end (I.ok.hd hc) st (by have:n≤i:=hg;omega) λh' eb=>⟨rfl,I.turned (t':=s.toks) (λb o hb e=>eb b o hb e) f0 f1 f3 f4 f5⟩
 self:=λ_ _ _ _ _ st h=>wpAny_pyIter_rangeiter st h
end L2
namespace L2
open PySem PySem.Spec PyProof.Rows
section
variable {X:Cx}{tg:Expr}
noncomputable def m32(K:PySem.W.Frag)(tl:TE):TI:=λσ H R=>tl σ H λx H1=>∃ a,x=.ref a∧(∃ xs,SqL K H1 a xs)∧R (Itl K a) H1
noncomputable def z52(K:PySem.W.Frag)(tl:TE):TI:=λσ H R=>tl σ H λx H1=>∃ a,x=.ref a∧(∃ xs,SqT K H1 a xs)∧R (Itt K a) H1
theorem S80{l:Expr}{tl:TE}(hl:PE X l tl):PI X tg l (m32 X.K tl):=by
 intro pins s σ H R I h
 refine thn (hl pins s σ H _ I h) λv s1 ⟨x,H1,I1,r1,q1⟩=>?_
 obtain⟨a,e,⟨xs,hq⟩,q⟩:=q1
 subst e
 cases r1
 obtain⟨its,rv,p,hz⟩:=I1.list hq
 refine wpAny_pyIter_list p.isList ?_
 refine⟨s1.heap.objs.size,[s1.heap.objs.size],_,_,H1,rfl,I1.kept (t':=s1.toks) λb o e=>Heap.get?_push_of_some _ e,j01 a _,⟨_,Heap.get?_push_size _ rfl,rfl,rfl⟩,λb hb=>?_,q⟩
 have e:b=s1.heap.objs.size:=by simpa using hb
 subst e
 exact I1.i31 (Nat.le_refl _) (I1.hok.fresh (Nat.le_refl _))
theorem F31{l:Expr}{tl:TE}(hl:PE X l tl):PI X tg l (z52 X.K tl):=by
 intro pins s σ H R I h
 refine thn (hl pins s σ H _ I h) λv s1 ⟨x,H1,I1,r1,q1⟩=>?_
 obtain⟨a,e,⟨xs,hq⟩,q⟩:=q1
 subst e
 cases r1
 obtain⟨its,rv,p,hz⟩:=I1.tuple hq
 refine wpAny_pyIter_tuple (show s1.heap.IsTuple a its.toArray from p) ?_
 refine⟨s1.heap.objs.size,[s1.heap.objs.size],_,_,H1,rfl,I1.kept (t':=s1.toks) λb o e=>Heap.get?_push_of_some _ e,e91 a _,⟨_,Heap.get?_push_size _ rfl,rfl,rfl⟩,λb hb=>?_,q⟩
 have e:b=s1.heap.objs.size:=by simpa using hb
 subst e
 exact I1.i31 (Nat.le_refl _) (I1.hok.fresh (Nat.le_refl _))
theorem Y80{pins:List (Addr × Obj)}{σ:St}{H:Hp}{s:Shared}{R:It→Hp→Prop}{E:Value→Shared→Prop}{lo hi:Int}{t u v:Tok}{tk:Nat}(I:Inv X pins σ H s)(h1:-(2 ^ 62)≤lo)(h2:lo < 2 ^ 62)(h3:-(2 ^ 62)≤hi)(h4:hi < 2 ^ 62)
  (q:R (Itr lo (hi - lo).toNat) H):wpAny (model X.prog X.w) X.A (pyIter (.ref s.heap.objs.size)) (PIE X pins σ tg R) E { s with heap:=s.heap.push { cls:=.type "range",data:=.fields #[.int lo t,.int hi u,.int 1 v] },toks:=tk }:=by
 refine wpAny_pyIter_range (IsRange.new ..) (small_one h1 h2 h3 h4) ?_
 have I1:Inv X pins σ H { s with heap:=s.heap.push { cls:=.type "range",data:=.fields #[.int lo t,.int hi u,.int 1 v] },toks:=tk }:=I.kept λb o e=>Heap.get?_push_of_some _ e
 refine⟨(s.heap.push { cls:=.type "range",data:=.fields #[.int lo t,.int hi u,.int 1 v] }).objs.size,[(s.heap.push { cls:=.type "range",data:=.fields #[.int lo t,.int hi u,.int 1 v] }).objs.size],_,_,H,rfl,
  I1.kept (t':=tk) λb o e=>Heap.get?_push_of_some _ e,f01 _ lo (hi - lo).toNat,?_,λb hb=>?_,q⟩
 ·have e1:lo + ((0:Nat):Int) * 1=lo:=by simp
  have e2:(((hi - lo).toNat:Nat):Int) - ((0:Nat):Int)=Builtin.Range.rangeSize lo hi 1:=by rw[rangeSize_one];split <;> omega
  show IsRangeIter _ _ (lo + ((0:Nat):Int) * 1) ((((hi - lo).toNat:Nat):Int) - ((0:Nat):Int)) 1
  rw[e1,e2]
  exact Heap.get?_push_size _ rfl
 ·have e:b=(s.heap.push { cls:=.type "range",data:=.fields #[.int lo t,.int hi u,.int 1 v] }).objs.size:=by simpa using hb
  subst e
  exact I1.i31 (Nat.le_refl _) (I1.hok.fresh (Nat.le_refl _))
noncomputable def m42(ta:TA):TI:=λσ H R=>ta σ H λvs H1=>∃ j:Int,vs=[.int j]∧-(2 ^ 62)≤j∧j < 2 ^ 62∧R (Itr 0 j.toNat) H1
noncomputable def m52(ta:TA):TI:=λσ H R=>ta σ H λvs H1=>∃ i j:Int,vs=[.int i,.int j]∧(-(2 ^ 62)≤i∧i < 2 ^ 62∧-(2 ^ 62)≤j∧j < 2 ^ 62)∧R (Itr i (j - i).toNat) H1
theorem j11{a:Expr}{ta:TA}{p pos:Pos}(hg:Gl X "range")(hm:X.mg "range"=none)(ha:PA X [a] ta)(hs:starEach [a] X.env=[(false,eval a X.env)]:=by rfl):PI X tg (.Call (.Name "range" p) [a] [] pos) (m42 ta):=by
 intro pins s σ H R I h
 refine Call_ (s30 I hg hm boot_range (PyProof.Rows.callWith_type1 (thn (ha pos pins s σ H _ I h) λus s1 ⟨vs,H1,I1,r1,q1⟩=>?_) hs rfl))
 obtain⟨j,e,q1,q2,q⟩:=q1
 subst e
 cases r1 with
 |cons r rr =>
  cases rr
  obtain⟨t,rfl⟩:=r
  exact call_range_1 (Y80 I1 (by omega) (by omega) q1 q2 (by simpa using q))
theorem j21{a b:Expr}{ta:TA}{p pos:Pos}(hg:Gl X "range")(hm:X.mg "range"=none)(ha:PA X [a,b] ta)(hs:starEach [a,b] X.env=[(false,eval a X.env),(false,eval b X.env)]:=by rfl)(hs2:starEach [b] X.env=[(false,eval b X.env)]:=by rfl) :
  PI X tg (.Call (.Name "range" p) [a,b] [] pos) (m52 ta):=by
 intro pins s σ H R I h
 refine Call_ (s30 I hg hm boot_range (PyProof.Rows.callWith_type1 (thn (ha pos pins s σ H _ I h) λus s1 ⟨vs,H1,I1,r1,q1⟩=>?_) (by rw[hs,hs2]) (by rw[hs2];rfl)))
 obtain⟨i,j,e,⟨q1,q2,q3,q4⟩,q⟩:=q1
 subst e
 cases r1 with
 |cons r rr =>
  cases rr with
  |cons r' rr =>
   cases rr
   obtain⟨t,rfl⟩:=r
   obtain⟨t',rfl⟩:=r'
   exact call_range_2 (Y80 I1 q1 q2 q3 q4 q)
noncomputable def z62(wi:TI)(g:TG)(tb:TS):TS:=λD σ H=>wi σ H λJ H1=>∃ W:Nat→Nat→St→Hp→Prop,(∃ m,W 0 m σ H1)∧∀ i m σ H,W i m σ H →
 (J.stop i H∧D.nx σ H)∨(J.go i H∧∃ N:St→Hp→Prop,(∀ σ' H',N σ' H'→∃ m',m' < m∧W (i + 1) m' σ' H')∧∀ x H',J.yld i H x H'→g x σ H' λσ2 H2=>tb { D with nx:=N,ct:=N,bk:=D.nx } σ2 H2)
noncomputable def z90(fp:List Addr)(h:Heap):List (Addr × Obj):=fp.filterMap λb=>(h.get? b).map λo=>(b,o)
theorem j90{fp:List Addr}{h:Heap}{b:Addr}{o:Obj}(hb:b∈fp)(e:h.get? b=some o):(b,o)∈z90 fp h:=List.mem_filterMap.mpr ⟨b,hb,by rw[e];rfl⟩
theorem L80{fp:List Addr}{h:Heap}{p:Addr × Obj}(hp:p∈z90 fp h):p.1∈fp∧h.get? p.1=some p.2:=by
 obtain⟨b,hb,e⟩:=List.mem_filterMap.mp hp
 cases q:h.get? b with
 |none=>rw[q] at e;cases e
 |some o =>
  rw[q] at e
  have e':(b,o)=p:=Option.some.inj e
  subst e'
  exact⟨hb,q⟩
theorem Inv.pinned{pins:List (Addr × Obj)}{σ:St}{H:Hp}{s:Shared}{fp:List Addr}(I:Inv X pins σ H s)(hf:∀ b∈fp,e81 X pins H b)(ho:∀ b∈fp,∃ o,s.heap.get? b=some o∧∀ v,o.data≠.cell v):Inv X (pins++z90 fp s.heap) σ H s :=
 I.z80 λp hp=>(List.mem_append.mp hp).elim (λz=>I.pin p (List.mem_append_right _ z)) λz=>by
  obtain⟨hb,e⟩:=L80 z
  obtain⟨f0,f1,f2,_⟩:=hf p.1 hb
  obtain⟨o,e',d⟩:=ho p.1 hb
  rw[e] at e';cases e'
  exact⟨e,f0,f1,f2,d⟩
theorem Inv.F90{pins pl:List (Addr × Obj)}{σ:St}{H:Hp}{s:Shared}(I:Inv X (pins++pl) σ H s):Inv X pins σ H s:=I.z80 λp hp=>I.pin p (List.mem_append_right _ (List.mem_append_left _ hp))
theorem F41{iter:Expr}{body:List Stmt}{wi:TI}{g:TG}{tb:TS}{pos:Pos}(hp:PassesOwn (model X.prog X.w) X.A X.env X.xe)(hc:X.calm=true)(hi:PI X tg iter wi)(hg:PG X tg g)(hb:PSs X body tb)
  (hs:∀ x,foldedSetIterable iter X.env x=pure x:=by intro _;rfl):PS X (.For tg iter body [] pos) (z62 wi g tb):=by
 intro pins s σ H D I h
 refine wpAny_For (thn (hi pins s σ H _ I h) λv s1 h1=>thn h1 λitv s2 h2=>?_) hs
 obtain⟨it,fp,tn,J,H2,e,I2,T,st2,f2,W,⟨m0,w0⟩,turn⟩:=h2
 subst e
 -- what stays true of the iterator's objects through the loop
 have stat:∀ {H':Hp},(∀ b∈fp,H' b=none)→∀ b∈fp,e81 X pins H' b:=λhn b hb=>⟨hn b hb,(f2 b hb).2⟩
 refine codeAny_forLoop_any (λn s'=>∃ i σ' H',Inv X pins σ' H' s'∧tn i s'.heap∧(∀ b∈fp,H' b=none)∧W i n σ' H') ?_ m0 ⟨0,σ,H2,I2,st2,λb hb=>(f2 b hb).1,w0⟩
 rintro n s3 ⟨i,σ3,H3,I3,st3,fr3,w3⟩
 rcases turn i n σ3 H3 w3 with ⟨stop,qn⟩ | ⟨go,N,hN,step⟩
 ·refine wpAny_passesOwn hp (thn (T.done X rfl rfl rfl hc i pins s3 σ3 H3 X.xe I3 (stat fr3) st3 stop) λr s4 ⟨hr,I4⟩=>?_)
  subst hr
  exact wpAny_execs_nil ⟨σ3,H3,I4,qn⟩
 ·refine wpAny_passesOwn hp (thn (T.item X rfl rfl rfl hc i pins s3 σ3 H3 X.xe I3 (stat fr3) st3 go) λr s4 ⟨u,hr,h4⟩=>?_)
  subst hr
  refine wpAny_passesOwn hp (thn h4 λ_ s5 ⟨x,H5,I5,r5,y5,st5,fr5⟩=>?_)
  have I5':=I5.pinned (stat fr5) (T.obj _ _ st5)
  refine wpAny_passesOwn hp (thn (hg _ s5 σ3 H5 x u _ I5' r5 (step x H5 y5)) λ_ s6 ⟨σ6,H6,I6,q6⟩=>?_)
  refine wpAny_passesOwn hp (thn (hb _ s6 σ6 H6 _ I6 q6) λf s7 q7=>?_)
  have again:∀ {σ7:St}{H7:Hp},Inv X (pins++z90 fp s5.heap) σ7 H7 s7→N σ7 H7→∃ m,m < n∧∃ i σ' H',Inv X pins σ' H' s7∧tn i s7.heap∧(∀ b∈fp,H' b=none)∧W i m σ' H':=λ{σ7 H7} I7 n7=>by
   obtain⟨m',hm,w7⟩:=hN σ7 H7 n7
   refine⟨m',hm,i + 1,σ7,H7,I7.F90,T.keep _ _ _ st5 λb hb o e=>(I7.pin (b,o) (List.mem_append_right _ (List.mem_append_right _ (j90 hb e)))).1,λb hb=>?_,w7⟩
   obtain⟨o,e,d⟩:=T.obj _ _ st5 b hb
   exact(I7.pin (b,o) (List.mem_append_right _ (List.mem_append_right _ (j90 hb e)))).2.1
  cases f with
  |next=>obtain⟨σ7,H7,I7,n7⟩:=q7;exact again I7 n7
  |cont=>obtain⟨σ7,H7,I7,n7⟩:=q7;exact again I7 n7
  |brk=>obtain⟨σ7,H7,I7,q7⟩:=q7;exact⟨σ7,H7,I7.F90,q7⟩
  |ret v=>obtain⟨x7,σ7,H7,I7,r7,q7⟩:=q7;exact⟨x7,σ7,H7,I7.F90,r7,q7⟩
end
end L2
namespace L2
open PySem PySem.Spec PyProof.Rows
noncomputable abbrev R2:=V→V→Hp→VK→Prop
noncomputable def OpR(X:Cx)(f:Value→Value→Sem Value)(r:R2):Prop :=
 ∀ (pins:List (Addr × Obj)) (s:Shared) (σ:St) (H:Hp) (x y:V) (v u:Value) (Q:VK),Inv X pins σ H s→RelV x v→RelV y u→r x y H Q →
  wpAny (model X.prog X.w) X.A (f v u) (EP X pins σ Q) X.xe s
noncomputable def UnR(X:Cx)(f:Value→Sem Value)(r:V→Hp→VK→Prop):Prop :=
 ∀ (pins:List (Addr × Obj)) (s:Shared) (σ:St) (H:Hp) (x:V) (v:Value) (Q:VK),Inv X pins σ H s→RelV x v→r x H Q →
  wpAny (model X.prog X.w) X.A (f v) (EP X pins σ Q) X.xe s
noncomputable def f30(X:Cx)(f:Value)(r:List V→Hp→VK→Prop):Prop :=
 ∀ (pins:List (Addr × Obj)) (s:Shared) (σ:St) (H:Hp) (xs:List V) (us:List Value) (Q:VK),Inv X pins σ H s→Vals xs us→r xs H Q →
  wpAny (model X.prog X.w) X.A (call f us) (EP X pins σ Q) X.xe s
noncomputable def tOp(r:R2)(ta tb:TE):TE:=λσ H Q=>ta σ H λx H1=>tb σ H1 λy H2=>r x y H2 Q
noncomputable def tUn(r:V→Hp→VK→Prop)(ta:TE):TE:=λσ H Q=>ta σ H λx H1=>r x H1 Q
noncomputable def rI(C:Int→Int→Prop)(g:Int→Int→V):R2:=λx y H Q=>∃ i j,x=.int i∧y=.int j∧C i j∧Q (g i j) H
noncomputable def rI0(g:Int→Int→V):R2:=λx y H Q=>∃ i j,x=.int i∧y=.int j∧Q (g i j) H
noncomputable def rU(g:Int→V):V→Hp→VK→Prop:=λx H Q=>∃ i,x=.int i∧Q (g i) H
section
variable {X:Cx}{a b c:Expr}{ta tb tc:TE}{pos:Pos}
theorem m62(ha:PE X a ta)(hb:PE X b tb){pins:List (Addr × Obj)}{s:Shared}{σ:St}{H:Hp}{R:V→V→Hp→Prop}(I:Inv X pins σ H s)
  (h:ta σ H λx H1=>tb σ H1 λy H2=>R x y H2) {Q:Value→Shared→Prop}{f:Value→Value→Sem Value}
  (hf:∀ v u s2 x y H2,Inv X pins σ H2 s2→RelV x v→RelV y u→R x y H2→wpAny (model X.prog X.w) X.A (f v u) Q X.xe s2) :
  wpAny (model X.prog X.w) X.A (eval a X.env) (λv s₁=>wpAny (model X.prog X.w) X.A (eval b X.env) (λu s₂=>wpAny (model X.prog X.w) X.A (f v u) Q X.xe s₂) X.xe s₁) X.xe s:=by
 refine thn (ha pins s σ H _ I h) λv s1 ⟨x,H1,I1,r1,q1⟩=>?_
 refine thn (hb pins s1 σ H1 _ I1 q1) λu s2 ⟨y,H2,I2,r2,q2⟩=>?_
 exact hf v u s2 x y H2 I2 r1 r2 q2
theorem m72{op:Operator}{r:R2}(ho:OpR X (binaryOp op) r)(ha:PE X a ta)(hb:PE X b tb):PE X (.BinOp a op b pos) (tOp r ta tb):=by
 intro pins s σ H Q I h
 exact wpAny_BinOp (m62 ha hb I h λv u s2 x y H2 I2 rx ry q=>ho pins s2 σ H2 x y v u Q I2 rx ry q)
theorem m82{op:UnaryOp}{r:V→Hp→VK→Prop}(ho:UnR X (unaryOp op) r)(ha:PE X a ta):PE X (.UnaryOp op a pos) (tUn r ta):=by
 intro pins s σ H Q I h
 exact UnaryOp_ (thn (ha pins s σ H _ I h) λv s1 ⟨x,H1,I1,r1,q1⟩=>ho pins s1 σ H1 x v Q I1 r1 q1)
theorem opI{f:Value→Value→Sem Value}{C:Int→Int→Prop}{g:Int→Int→Int}
  (rule:∀ (i j:Int) (t u:Tok) (s:Shared) (Q:Value→Shared→Prop) (E:Value→Shared→Prop),C i j→Q (.int (g i j) s.toks) { s with toks:=s.toks + 1 }→wpAny (model X.prog X.w) X.A (f (.int i t) (.int j u)) Q E s) :
  OpR X f (rI C λi j=>.int (g i j)):=by
 intro pins s σ H x y v u Q I rx ry h
 obtain⟨i,j,rfl,rfl,hc,q⟩:=h
 obtain⟨t,rfl⟩:=rx
 obtain⟨t',rfl⟩:=ry
 exact rule i j t t' s _ _ hc ⟨.int (g i j),H,I.tok _,⟨_,rfl⟩,q⟩
theorem m92{f:Value→Value→Sem Value}{g:Int→Int→Int}
  (rule:∀ (i j:Int) (t u:Tok) (s:Shared) (Q:Value→Shared→Prop) (E:Value→Shared→Prop),Q (.int (g i j) s.toks) { s with toks:=s.toks + 1 }→wpAny (model X.prog X.w) X.A (f (.int i t) (.int j u)) Q E s) :
  OpR X f (rI0 λi j=>.int (g i j)):=by
 intro pins s σ H x y v u Q I rx ry h
 obtain⟨i,j,rfl,rfl,q⟩:=h
 obtain⟨t,rfl⟩:=rx
 obtain⟨t',rfl⟩:=ry
 exact rule i j t t' s _ _ ⟨.int (g i j),H,I.tok _,⟨_,rfl⟩,q⟩
theorem n02{f:Value→Value→Sem Value}{g:Int→Int→Bool}
  (rule:∀ (i j:Int) (t u:Tok) (s:Shared) (Q:Value→Shared→Prop) (E:Value→Shared→Prop),Q (.bool (g i j)) s→wpAny (model X.prog X.w) X.A (f (.int i t) (.int j u)) Q E s) :
  OpR X f (rI0 λi j=>.bl (g i j)):=by
 intro pins s σ H x y v u Q I rx ry h
 obtain⟨i,j,rfl,rfl,q⟩:=h
 obtain⟨t,rfl⟩:=rx
 obtain⟨t',rfl⟩:=ry
 exact rule i j t t' s _ _ ⟨.bl (g i j),H,I,rfl,q⟩
noncomputable def v72(i j:Int):Prop:=0≤j∧j≤1000000∧i.natAbs < 2 ^ 64
theorem X71:OpR X (binaryOp .Add) (rI0 λi j=>.int (i + j)):=m92 λ_ _ _ _ _ _ _ q=>add_int q
theorem X81:OpR X (binaryOp .Sub) (rI0 λi j=>.int (i - j)):=m92 λ_ _ _ _ _ _ _ q=>sub_int q
theorem X91:OpR X (binaryOp .Mod) (rI (λ_ j=>0 < j) λi j=>.int (i % j)):=opI λi j _ _ _ _ _ hc q=>by
 have h1:(0:Int) < j:=hc
 exact mod_int' (by omega) (by rw[Int.fmod_eq_emod_of_nonneg i (by omega)];exact q)
theorem Y01:OpR X (binaryOp .Pow) (rI v72 λi j=>.int (i ^ j.toNat)):=opI λ_ _ _ _ _ _ _ hc q=>pow_int_small hc.1 hc.2.1 hc.2.2 q
theorem v82:OpR X (binaryOp .LShift) (rI v72 λi j=>.int (i * 2 ^ j.toNat)):=opI λ_ _ _ _ _ _ _ hc q=>lshift_int_small hc.1 hc.2.1 hc.2.2 q
theorem v92:OpR X (binaryOp .BitAnd) (rI0 λi j=>.int (Builtin.bitAnd i j)):=m92 λ_ _ _ _ _ _ _ q=>and_int q
theorem unI{f:Value→Sem Value}{g:Int→Int}
  (rule:∀ (i:Int) (t:Tok) (s:Shared) (Q:Value→Shared→Prop) (E:Value→Shared→Prop),Q (.int (g i) s.toks) { s with toks:=s.toks + 1 }→wpAny (model X.prog X.w) X.A (f (.int i t)) Q E s) :
  UnR X f (rU λi=>.int (g i)):=by
 intro pins s σ H x v Q I rx h
 obtain⟨i,rfl,q⟩:=h
 obtain⟨t,rfl⟩:=rx
 exact rule i t s _ _ ⟨.int (g i),H,I.tok _,⟨_,rfl⟩,q⟩
theorem Y11:UnR X (unaryOp .USub) (rU λi=>.int (-i)):=unI λ_ _ _ _ _ q=>neg_int q
end
section
variable {X:Cx}{a b c:Expr}{ta tb tc:TE}{pos:Pos}
theorem Y90{pins:List (Addr × Obj)}{σ:St}{H:Hp}{s:Shared}{Q:VK}{k k':Bool}(I:Inv X pins σ H s)(q:Q (.bl k) H)(e:k=k'):EP X pins σ Q (.bool k') s:=by
 subst e
 exact⟨.bl k,H,I,rfl,q⟩
theorem n12:OpR X (compareOp .LtE) (rI0 λi j=>.bl (decide (i≤j))):=n02 λ_ _ _ _ _ _ _ q=>le_int q
theorem n22:OpR X (compareOp .Gt) (rI0 λi j=>.bl (decide (j < i))):=n02 λ_ _ _ _ _ _ _ q=>gt_int q
theorem n32:OpR X (compareOp .GtE) (rI0 λi j=>.bl (decide (j≤i))):=n02 λ_ _ _ _ _ _ _ q=>ge_int q
theorem Y21:OpR X (compareOp .Is) (λx y H Q=>y=.non∧Q (.bl (decide (x=.non))) H):=by
 intro pins s σ H x y v u Q I rx ry h
 obtain⟨rfl,q⟩:=h
 cases ry
 refine is_none_gen (Y90 I q ?_)
 cases x <;> first
  |(cases rx;rfl)
  |(obtain⟨t,rfl⟩:=rx;rfl)
theorem J61:OpR X (compareOp .IsNot) (λx y H Q=>y=.non∧Q (.bl (!decide (x=.non))) H):=by
 intro pins s σ H x y v u Q I rx ry h
 obtain⟨rfl,q⟩:=h
 cases ry
 refine isnot_none_gen (Y90 I q ?_)
 cases x <;> first
  |(cases rx;rfl)
  |(obtain⟨t,rfl⟩:=rx;rfl)
theorem J71{op:CmpOp}{r:R2}(ho:OpR X (compareOp op) r)(ha:PE X a ta)(hb:PE X b tb)(hm:behindInMarks op b=false):PE X (.Compare a [op] [b] pos) (tOp r ta tb):=by
 intro pins s σ H Q I h
 exact wpAny_Compare1 (m62 ha hb I h λv u s2 x y H2 I2 rx ry q=>ho pins s2 σ H2 x y v u Q I2 rx ry q) hm
noncomputable def Y31(t:TE):TT:=λσ H Q=>t σ H λx H'=>∃ k,x=.bl k∧Q k H'
theorem J81{op:CmpOp}{r:R2}(ho:OpR X (compareOp op) r)(ha:PE X a ta)(hb:PE X b tb)(hm:behindInMarks op b=false):PT X (.Compare a [op] [b] pos) (Y31 (tOp r ta tb)):=by
 intro pins s σ H Q I h
 refine wpAny_isTrue_Compare1 (thn (ha pins s σ H _ I h) λv s1 ⟨x,H1,I1,r1,q1⟩=>thn (hb pins s1 σ H1 _ I1 q1) λu s2 ⟨y,H2,I2,r2,q2⟩ =>
  thn (ho pins s2 σ H2 x y v u _ I2 r1 r2 q2) λc s3 ⟨z,H3,I3,r3,k,e,q3⟩=>?_) hm
 subst e
 cases r3
 exact wpAny_truthy_bool ⟨H3,I3,q3⟩
noncomputable def j31(r r':R2)(ta tb tc:TE):TE:=λσ H Q=>ta σ H λx H1=>tb σ H1 λy H2=>r x y H2 λz H3=>∃ k,z=.bl k ∧
 (if k=true then tc σ H3 λw' H4=>r' y w' H4 Q else Q (.bl false) H3)
theorem x81{op op':CmpOp}{r r':R2}(ho:OpR X (compareOp op) r)(ho':OpR X (compareOp op') r')(ha:PE X a ta)(hb:PE X b tb)(hc:PE X c tc)
  (hm:lastMarks [op,op'] [b,c]=false:=by with_unfolding_all rfl):PE X (.Compare a [op,op'] [b,c] pos) (j31 r r' ta tb tc):=by
 intro pins s σ H Q I h
 refine Compare_chain (thn (ha pins s σ H _ I h) λv s1 ⟨x,H1,I1,r1,q1⟩=>chain_link (thn (hb pins s1 σ H1 _ I1 q1) λu s2 ⟨y,H2,I2,r2,q2⟩ =>
  thn (ho pins s2 σ H2 x y v u _ I2 r1 r2 q2) λd s3 ⟨z,H3,I3,r3,k,e,q3⟩=>?_)) hm
 subst e
 cases r3
 refine wpAny_truthy_bool ?_
 cases k with
 |false=>exact ite_ff ⟨.bl false,H3,I3,rfl,q3⟩
 |true=>exact ite_tt (chain_last (thn (hc pins s3 σ H3 _ I3 q3) λw' s4 ⟨z',H4,I4,r4,q4⟩=>ho' pins s4 σ H4 y z' u w' Q I4 r2 r4 q4))
theorem x91{op op':CmpOp}{r r':R2}(ho:OpR X (compareOp op) r)(ho':OpR X (compareOp op') r')(ha:PE X a ta)(hb:PE X b tb)(hc:PE X c tc)
  (hm:lastMarks [op,op'] [b,c]=false:=by with_unfolding_all rfl):PT X (.Compare a [op,op'] [b,c] pos) (Y31 (j31 r r' ta tb tc)):=by
 intro pins s σ H Q I h
 refine isTrue_chain (thn (ha pins s σ H _ I h) λv s1 ⟨x,H1,I1,r1,q1⟩=>test_link (thn (hb pins s1 σ H1 _ I1 q1) λu s2 ⟨y,H2,I2,r2,q2⟩ =>
  thn (ho pins s2 σ H2 x y v u _ I2 r1 r2 q2) λd s3 ⟨z,H3,I3,r3,k,e,q3⟩=>?_)) hm
 subst e
 cases r3
 refine wpAny_truthy_bool ?_
 cases k with
 |false =>
  obtain⟨k',e',q'⟩:=q3
  cases e'
  exact ite_ff ⟨H3,I3,q'⟩
 |true =>
  refine ite_tt (test_last (thn (hc pins s3 σ H3 _ I3 q3) λw' s4 ⟨z',H4,I4,r4,q4⟩=>thn (ho' pins s4 σ H4 y z' u w' _ I4 r2 r4 q4) λd' s5 ⟨z2,H5,I5,r5,k2,e2,q5⟩=>?_))
  subst e2
  cases r5
  exact wpAny_truthy_bool ⟨H5,I5,q5⟩
theorem Z00:(sizeLine:Nat) < 2 ^ 63:=by rw[sizeLine_eq];decide
theorem vals1{x:V}{us:List Value}(r:Vals [x] us):∃ u,us=[u]∧RelV x u:=by
 cases r with
 |cons r1 r2=>cases r2;exact⟨_,rfl,r1⟩
theorem vals2{x y:V}{us:List Value}(r:Vals [x,y] us):∃ u w',us=[u,w']∧RelV x u∧RelV y w':=by
 cases r with
 |cons r1 r2 =>
  cases r2 with
  |cons r3 r4=>cases r4;exact⟨_,_,rfl,r1,r3⟩
theorem y01:f30 X (.builtin "abs") (λxs H Q=>∃ i,xs=[.int i]∧Q (.int (if i < 0 then -i else i)) H):=by
 intro pins s σ H xs us Q I r h
 obtain⟨i,rfl,q⟩:=h
 obtain⟨u,rfl,t,rfl⟩:=vals1 r
 exact call_abs_int λu tk=>⟨.int (if i < 0 then -i else i),H,I.tok _,⟨_,rfl⟩,q⟩
theorem j41(hc:X.calm=true):f30 X (.builtin "max") (λxs H Q=>∃ i j,xs=[.int i,.int j]∧Q (.int (if j > i then j else i)) H):=by
 intro pins s σ H xs us Q I r h
 obtain⟨i,j,rfl,q⟩:=h
 obtain⟨u,w',rfl,⟨t,rfl⟩,⟨t',rfl⟩⟩:=vals2 r
 refine max_two_ints (I.ok.hd hc) λh' tk k=>⟨_,H,I.kept k,?_,q⟩
 by_cases hj:j > i
 ·rw[if_pos hj,if_pos hj];exact⟨_,rfl⟩
 ·rw[if_neg hj,if_neg hj];exact⟨_,rfl⟩
theorem j51(hc:X.calm=true):f30 X (.builtin "min") (λxs H Q=>∃ i j,xs=[.int i,.int j]∧Q (.int (if j < i then j else i)) H):=by
 intro pins s σ H xs us Q I r h
 obtain⟨i,j,rfl,q⟩:=h
 obtain⟨u,w',rfl,⟨t,rfl⟩,⟨t',rfl⟩⟩:=vals2 r
 refine min_two_ints (I.ok.hd hc) λh' tk k=>⟨_,H,I.kept k,?_,q⟩
 by_cases hj:j < i
 ·rw[if_pos hj,if_pos hj];exact⟨_,rfl⟩
 ·rw[if_neg hj,if_neg hj];exact⟨_,rfl⟩
theorem L90:f30 X (.type "int") (λxs H Q=>(∃ i,xs=[.int i]∧Q (.int i) H)∨∃ k,xs=[.bl k]∧Q (.int (if k then 1 else 0)) H):=by
 intro pins s σ H xs us Q I r h
 rcases h with ⟨i,rfl,q⟩ | ⟨k,rfl,q⟩
 ·obtain⟨u,rfl,t,rfl⟩:=vals1 r
  exact call_int_int ⟨.int i,H,I,⟨_,rfl⟩,q⟩
 ·obtain⟨u,rfl,r1⟩:=vals1 r
  cases r1
  exact call_int_bool ⟨.int (if k then 1 else 0),H,I.tok _,⟨_,rfl⟩,q⟩
end
end L2
namespace L2
open PySem PySem.Spec PyProof.Rows
section
variable {prog:Program}{w:World}{A:Around}{E:Value→Shared→Prop}{s:Shared}{K:PySem.W.Frag}{x dx C f:Addr}{mA:Str→Option Value}{name:Str}{v:Value}
end
section
variable {P:Program}{w:World}{H H':Hp}{h h':Heap}{a C dx:Addr}{fs fs':List (Str × V)}
end
section
variable {X:Cx}{pins:List (Addr × Obj)}{σ:St}{H:Hp}{s:Shared}{a C dx:Addr}{fs:List (Str × V)}{f:Str}{v:V}{A:Around}{E:Value→Shared→Prop}
end
section
variable {X:Cx}{o e value:Expr}{f:Str}{pos pos' tpos:Pos}{ta tv:TE}
end
section
variable {X:Cx}{pins:List (Addr × Obj)}{σ:St}{H:Hp}{s:Shared}{A:Around}{E:Value→Shared→Prop}{Q:Value→Shared→Prop}{c:Value}{b:Bool}
end
end L2
namespace L2
open PySem PySem.Spec PyProof.Rows
structure S00(k:Nat)(A:Around):Prop where
 hd:A.handled=none
 dp:A.depth + 3 * k + 5 < recursionLimit
 un:A.units + 16 * k + 200 < cLine
theorem S00.deeper{k:Nat}{A:Around}(r:S00 (k + 1) A)(env:Env):S00 k (A.deeper env) :=
 ⟨r.hd,by have:=r.dp;show A.depth + 1 + 3 * k + 5 < _;omega,by have:=r.un;show A.units + 3 + 16 * k + 200 < _;omega⟩
theorem S00.depth{k:Nat}{A:Around}(r:S00 k A):A.depth < recursionLimit:=by have:=r.dp;omega
theorem S00.units{k:Nat}{A:Around}(r:S00 k A):A.units + 64 < cLine:=by have:=r.un;omega
noncomputable def w02:TA:=λ_ H Q=>Q [] H
noncomputable def Y41(ta:TE)(tr:TA):TA:=λσ H Q=>ta σ H λx H1=>tr σ H1 λxs H2=>Q (x::xs) H2
section
variable {X:Cx}{e:Expr}{es:List Expr}{te:TE}{t:TA}{pos:Pos}
theorem D50:PA X [] w02:=λ_ _ _ _ H Q I h=>Calls.spliced_nil ⟨[],H,I,.nil,h⟩
theorem k90(ha:PE X e te)(hr:PA X es t)(hs:starEach (e::es) X.env=(false,eval e X.env)::starEach es X.env:=by rfl):PA X (e::es) (Y41 te t):=by
 intro pos pins s σ H Q I h
 rw[hs]
 show wpAny _ _ (spliced ((false,eval e X.env)::backTo pos (starEach es X.env))) _ _ s
 refine Calls.spliced_cons (thn (ha pins s σ H _ I h) λu s1 ⟨x,H1,I1,r1,q1⟩=>?_)
 exact thn (hr pos pins s1 σ H1 _ I1 q1) λus s2 ⟨xs,H2,I2,r2,q2⟩=>⟨x::xs,H2,I2,.cons r1 r2,q2⟩
noncomputable def z72(t:TA):TE:=λσ H Q=>t σ H λxs H1=>xs.length≤sizeLine∧∀ p,H1 p=none→Q (.ref p) (upd H1 p (.tup xs))
noncomputable def z82(t:TA):TE:=λσ H Q=>t σ H λxs H1=>xs.length≤sizeLine∧∀ p,H1 p=none→Q (.ref p) (upd H1 p (.lst xs))
theorem F51{x1}(h:PA X es t):PE X (.Tuple es x1 pos) (z72 t):=by
 intro pins s σ H Q I hq
 refine wpAny_Tuple_spliced (thn (h pos pins s σ H _ I hq) λus s1 ⟨xs,H1,I1,r,z,q⟩=>⟨by rw[← r.length];exact z,?_⟩)
 have hf:H1 s1.heap.objs.size=none:=I1.hok.fresh (Nat.le_refl _)
 refine⟨.ref s1.heap.objs.size,upd H1 s1.heap.objs.size (.tup xs),I1.laid (t':=s1.toks) (λb u e=>Heap.get?_push_of_some _ e) (Nat.le_refl _) ?_,rfl,q _ hf⟩
 exact⟨z,us,r,⟨_,Heap.get?_push_size _ rfl,rfl,_,rfl⟩⟩
theorem Y51(h:PA X es t):PE X (.List es pos) (z82 t):=by
 intro pins s σ H Q I hq
 refine wpAny_List_spliced (thn (h pos pins s σ H _ I hq) λus s1 ⟨xs,H1,I1,r,z,q⟩=>⟨by rw[← r.length];exact z,?_⟩)
 have hf:H1 s1.heap.objs.size=none:=I1.hok.fresh (Nat.le_refl _)
 refine⟨.ref s1.heap.objs.size,upd H1 s1.heap.objs.size (.lst xs),I1.laid (t':=s1.toks) (λb u e=>Heap.get?_push_of_some _ e) (Nat.le_refl _) ?_,rfl,q _ hf⟩
 exact⟨z,us,0,r,Heap.get?_push_size _ rfl⟩
end
noncomputable abbrev Sp:=List V→Hp→VK→XK→Prop
noncomputable abbrev CXT:=List Env→Hp→Shared→XK→Value→Shared→Prop
structure j92(P:Program)(w:World)(K:PySem.W.Frag)(mg:Str→Option Value)(base:Heap)(A:Around)(outer:List Env)(s:Shared)(H:Hp):Prop where
 frames:A.frames=some outer
 mod:Mod K mg base
 bs:∀ b o,base.get? b=some o→s.heap.get? b=some o∧H b=none
 bsz:base.objs.size≤s.heap.objs.size
 w91:s.heap.FunFrames base outer
 frf:∀ b∈frs outer,H b=none
 hok:HOk P w H s.heap
 bare:AllBare s.gens
noncomputable def CE(outer:List Env)(P:Program)(w:World)(H:Hp)(s:Shared)(Q:VK)(u:Value)(s':Shared):Prop :=
 ∃ v H',s'.os=s.os∧AllBare s'.gens∧Un (frs outer) [] H H' s.heap s'.heap∧HOk P w H' s'.heap∧RelV v u∧Q v H'
noncomputable def CR(CX:CXT)(outer:List Env)(P:Program)(w:World)(H:Hp)(s:Shared)(Q:VK)(E:XK)(r:Result)(s':Shared):Prop :=
 match r with
 |.ok (.ret u)=>CE outer P w H s Q u s'
 |.ok _=>False
 |.error e=>CX outer H s E e s'
structure f11(P:Program)(w:World)(K:PySem.W.Frag)(mg:Str→Option Value)(base:Heap)(CX:CXT)(k:Nat)(f:Addr)(fd:FuncData)(ps:List Str)(sp:Sp):Prop where
 len:∀ vs H Q E,sp vs H Q E→vs.length=ps.length
 run:∀ (A:Around) (outer:List Env) (s:Shared) (H:Hp) (args:Args) (us:List Value) (vs:List V) (Q:VK) (E:XK),S00 k A→j92 P w K mg base A outer s H→BindsTo s fd args (ps.zip us)→Vals vs us→sp vs H Q E →
  codeAny (model P w) A (.call (.ref f) args) (CR CX outer P w H s Q E) s
section
variable {X:Cx}{pins:List (Addr × Obj)}{σ:St}{H:Hp}{s s':Shared}
theorem Inv.z92(I:Inv X pins σ H s):j92 X.prog X.w X.K X.mg X.base X.A X.stack s H :=
 ⟨I.ok.frames,I.ok.mod,I.bs,Nat.le_trans I.ok.bsz I.sz,I.stack,I.S40,I.hok,I.bare⟩
theorem Inv.after{Q:VK}{u:Value}(I:Inv X pins σ H s)(h:CE X.stack X.prog X.w H s Q u s'):EP X pins σ Q u s':=by
 obtain⟨v,H',os,bare,un,hok,r,q⟩:=h
 obtain⟨hh,g,d,t,os'⟩:=s'
 obtain rfl:os'=s.os:=os
 exact⟨v,H',I.call (h':=hh) (g':=g) (d':=d) (t':=t) (ch:=[]) un hok bare (λb z=>absurd z (by simp)),r,q⟩
end
noncomputable def n42(sp:Sp)(dvs:List V)(E:XK)(t:TA):TE:=λσ H Q=>t σ H λvs H1=>sp (vs++dvs) H1 Q E
noncomputable def Binds(K:PySem.W.Frag)(fd:FuncData)(ps:List Str)(ds:List Value):Prop :=
 ∀ (s:Shared) (us:List Value),K.In s.heap→(us++ds).length=ps.length→BindsTo s fd ⟨us,[]⟩ (ps.zip (us++ds))
theorem Binds.all{K:PySem.W.Frag}{fd:FuncData}{ps:List Str}(h:∀ us:List Value,us.length=ps.length→bindArgs fd ⟨us,[]⟩=pure (ps.zip us)):Binds K fd ps []:=λs us _ hl=>by
 rw[List.append_nil] at hl ⊢
 exact .of_eq (h us hl)
noncomputable def Passes(CX:CXT)(X:Cx)(E:XK):Prop:=∀ (pins:List (Addr × Obj)) (σ:St) (H:Hp) (s:Shared) (e:Value) (s':Shared),Inv X pins σ H s→CX X.stack H s E e s'→X.xe e s'
section
variable {X:Cx}{CX:CXT}{k:Nat}{f C:Addr}{fd:FuncData}{ps:List Str}{sp:Sp}{dvs:List V}{ds:List Value}{E:XK}{x m:Str}{p pos apos:Pos}{e o:Expr}{es:List Expr}{ta:TE}{t:TA}
theorem Y61{pins:List (Addr × Obj)}{σ:St}{H:Hp}{s:Shared}{Q:VK}{us:List Value}{vs:List V}(F:f11 X.prog X.w X.K X.mg X.base CX k f fd ps sp)(hr:S00 k X.A)(hb:Binds X.K fd ps ds)(hd:Vals dvs ds)(hx:Passes CX X E)
  (I:Inv X pins σ H s) (r:Vals vs us) (h:sp (vs++dvs) H Q E):wpAny (model X.prog X.w) X.A (call (.ref f) us) (EP X pins σ Q) X.xe s:=by
 have r2:Vals (vs++dvs) (us++ds):=r.append hd
 have hl:(us++ds).length=ps.length:=by rw[← r2.length];exact F.len _ _ _ _ h
 refine wpAny_call (codeAny_mono (F.run X.A X.stack s H ⟨us,[]⟩ (us++ds) (vs++dvs) Q E hr I.z92 (hb s us I.kIn hl) r2 h) λr s' hq=>?_)
 cases r with
 |error e=>exact hx pins σ H s e s' I hq
 |ok fl =>
  cases fl with
  |ret u=>exact I.after hq
  |next=>exact False.elim hq
  |brk=>exact False.elim hq
  |cont=>exact False.elim hq
theorem J91(F:f11 X.prog X.w X.K X.mg X.base CX k f fd ps sp)(hr:S00 k X.A)(hg:Gl X x)(hm:X.mg x=some (.ref f))(hk:PySem.W.keepIn X.K (.ref f)=true)(hb:Binds X.K fd ps ds)(hd:Vals dvs ds)(hx:Passes CX X E)
  (ha:PA X (e::es) t) (hdb:(x == ("__debug__":Str))=false:=by decide) (he:starEach (e::es) X.env=(false,eval e X.env)::starEach es X.env:=by rfl) (hpl:(backTo pos (starEach es X.env)).any (·.1)=false:=by rfl) :
  PE X (.Call (.Name x p) (e::es) [] pos) (n42 sp dvs E t):=by
 intro pins s σ H Q I h
 refine wpAny_Call_Name_kw (S50 I hg hm ?_ hdb)
 refine PySem.W.callWith_K (h₀:=X.base) I.ok.mod.kin hk (thn (ha pos pins s σ H _ I h) λus s1 ⟨vs,H1,I1,r,q⟩=>⟨I1.kIn,?_⟩) he hpl
 exact Y61 F hr hb hd hx I1 r q
end
section
variable {X:Cx}{CX:CXT}{k:Nat}{f C:Addr}{fd:FuncData}{ps ks:List Str}{sp:Sp}{E:XK}{x m:Str}{p pos apos kpos:Pos}{e o:Expr}{es:List Expr}{kws:List Keyword}{te ta:TE}{t tk:TA}{nm:Option Str}
variable {g:List Value→List Value→List Value}{gV:List V→List V→List V}
end
structure q40(N P:List Str)(sc:Scope):Prop where
 kind:sc.kind=.function
 co:sc.isCoroutine=false
 gen:sc.isGenerator=false
 nd:N.Nodup
 pre:N.take P.length=P
 par:∀ x∈P,sc.names.lookup x=some .local∨sc.names.lookup x=some .cell
 nofree:∀ y∈sc.names,y.2≠.free
theorem M00{kindOf:Str→Option NameKind}{x:Str}:∀ {binds:List (Str × Value)}{m:Str→Option Value},(∀ v,(x,v) ∉ binds)→bindL kindOf binds m x=m x
 |[],_,_=>rfl
 |(n,v)::r,m,h=>by
  unfold bindL
  rw[M00 λw hw=>h w (List.mem_cons_of_mem _ hw)]
  split
  ·have:x≠n:=by rintro rfl;exact h v List.mem_cons_self
   simp[this]
  ·rfl
theorem M10{kindOf:Str→Option NameKind}{x:Str}:∀ {binds:List (Str × Value)}{m:Str→Option Value},(∀ v,(x,v) ∉ binds)→bindC kindOf binds m x=m x
 |[],_,_=>rfl
 |(n,v)::r,m,h=>by
  unfold bindC
  rw[M10 λw hw=>h w (List.mem_cons_of_mem _ hw)]
  split
  ·rfl
  ·have:x≠n:=by rintro rfl;exact h v List.mem_cons_self
   simp[this]
theorem M20{kindOf:Str→Option NameKind}{x:Str}{v:Value}:∀ {P:List Str}{vs:List Value}{i:Nat}{m:Str→Option Value},P.Nodup→P[i]?=some x→vs[i]?=some v→kindOf x=some .local →
  bindL kindOf (P.zip vs) m x=some v
 |[],_,_,_,_,h,_,_=>by simp at h
 |_::_,[],_,_,_,_,h,_=>by simp at h
 |p::P,w::vs,0,m,nd,h1,h2,hk=>by
  simp at h1 h2;subst h1;subst h2
  show bindL kindOf ((p,w)::P.zip vs) m p=_
  unfold bindL
  rw[M00 λv hv=>(List.nodup_cons.mp nd).1 (List.of_mem_zip hv).1,if_pos hk]
  simp
 |p::P,w::vs,i + 1,m,nd,h1,h2,hk=>by
  show bindL kindOf ((p,w)::P.zip vs) m x=_
  unfold bindL
  exact M20 (i:=i) (List.nodup_cons.mp nd).2 (by simpa using h1) (by simpa using h2) hk
theorem M30{kindOf:Str→Option NameKind}{x:Str}{v:Value}:∀ {P:List Str}{vs:List Value}{i:Nat}{m:Str→Option Value},P.Nodup→P[i]?=some x→vs[i]?=some v→kindOf x≠some .local →
  bindC kindOf (P.zip vs) m x=some v
 |[],_,_,_,_,h,_,_=>by simp at h
 |_::_,[],_,_,_,_,h,_=>by simp at h
 |p::P,w::vs,0,m,nd,h1,h2,hk=>by
  simp at h1 h2;subst h1;subst h2
  show bindC kindOf ((p,w)::P.zip vs) m p=_
  unfold bindC
  rw[M10 λv hv=>(List.nodup_cons.mp nd).1 (List.of_mem_zip hv).1,if_neg hk]
  simp
 |p::P,w::vs,i + 1,m,nd,h1,h2,hk=>by
  show bindC kindOf ((p,w)::P.zip vs) m x=_
  unfold bindC
  exact M30 (i:=i) (List.nodup_cons.mp nd).2 (by simpa using h1) (by simpa using h2) hk
noncomputable def start(N:List Str)(vs:List V):St:=vs.map some++List.replicate (N.length - vs.length) none
noncomputable def M40(CX:CXT)(P:Program)(w:World)(K:PySem.W.Frag)(mg:Str→Option Value)(base:Heap)(N:List Str)(qual:Str)(scope:Scope)(f:Addr)(cd:Value)(A:Around)(outer:List Env)(s:Shared)(H:Hp)(E:XK):Cx where
 prog:=P
 w:=w
 K:=K
 mg:=mg
 base:=base
 A:=A.deeper (envOfC qual scope s.heap.objs.size f cd)
 N:=N
 s₀:=s
 H₀:=H
 env:=envOfC qual scope s.heap.objs.size f cd
 outer:=outer
 stack:=envOfC qual scope s.heap.objs.size f cd::outer
 ex:=[]
 calm:=true
 fn:=λ_=>true
 pn:=[]
 xe:=λe s'=>wpAny (model P w) (A.deeper (envOfC qual scope s.heap.objs.size f cd)) (leaving (envOfC qual scope s.heap.objs.size f cd) e) (λ_ s''=>CX outer H s E e s'') (λe' s''=>CX outer H s E e' s'') s'
theorem Z10{sc:Scope}{n:Nat}{x:Str}(h:sc.names.lookup x=some .cell):∃ c,(cellsFrom n sc.names []).lookup x=some c:=by
 have q:=PySem.W.cellsFrom_some sc.names n [] (.inl h)
 exact Option.isSome_iff_exists.mp q
theorem j61{CX:CXT}{P:Program}{w:World}{K:PySem.W.Frag}{mg:Str→Option Value}{base:Heap}{N ps:List Str}{qual:Str}{scope:Scope}{f:Addr}{cd:Value}{A:Around}{outer:List Env}{s s1:Shared}{H:Hp}{E:XK}{us:List Value}{vs:List V}
  (S:q40 N ps scope) (hd:A.handled=none) (e0:j92 P w K mg base A outer s H) (hl:vs.length=ps.length) (r:Vals vs us)
  (x:InCallC s s.heap.objs.size (bindL (envOfC qual scope s.heap.objs.size f cd).kindOf (ps.zip us) λ_=>none) (cellsFrom (s.heap.objs.size + 1) scope.names []) (bindC (envOfC qual scope s.heap.objs.size f cd).kindOf (ps.zip us) λ_=>none) s1) :
  Inv (M40 CX P w K mg base N qual scope f cd A outer s H E) [] (start N vs) H s1:=by
 have hpl:ps.length≤N.length:=by have:=congrArg List.length S.pre;rw[List.length_take] at this;omega
 obtain⟨h1,tk,rfl,hk⟩:=x.done
 have noA:∀ b:Addr,b ∉ (M40 CX P w K mg base N qual scope f cd A outer s H E).ex:=λb z=>absurd (show b∈([]:List Addr) from z) (by simp)
 refine⟨⟨e0.mod,S.kind,rfl,rfl,Nat.le_refl _,λy z c h1 h2=>?_,λy hy=>?_,λy c _ h=>?_,λ_=>hd,Around.frames_deeper e0.frames,.inr ⟨rfl,rfl⟩,λb z=>absurd z (noA b),e0.bs,e0.bsz,λb _ _=>noA b,λb z=>absurd z (noA b),e0.w91,e0.frf⟩,
  rfl,e0.bare,Un.kept hk,⟨_,x.toInCall.ns,λi y v h1 h2 h3=>?_⟩,λy c h=>⟨_,x.cell y c h⟩,e0.hok.fresh (Nat.le_refl _),λy c h=>?_,λp hp=>absurd (show p∈([]:List (Addr × Obj)) from hp) (by simp),e0.hok.kept hk,?_⟩
 ·exact name_of_addr x.apart (PySem.mem_of_lookup h1) (PySem.mem_of_lookup h2)
 ·have hy:scope.names.lookup y=some .cell∨scope.names.lookup y=some .free:=hy
  rcases hy with hy | hy
  ·exact Z10 hy
  ·exact absurd rfl (S.nofree _ (PySem.mem_of_lookup hy))
 ·exact Nat.le_of_lt (x.above y c (PySem.mem_of_lookup h))
 ·have hi:i < vs.length:=by
   unfold start at h2
   by_cases hi:i < vs.length
   ·exact hi
   ·rw[List.getElem?_append_right (by simpa using hi)] at h2
    rw[List.getElem?_replicate] at h2
    split at h2 <;> cases h2
  have ha:vs[i]?=some v:=by
   unfold start at h2
   rw[List.getElem?_append_left (by simpa using hi),List.getElem?_map] at h2
   cases e:vs[i]? with
   |none=>rw[e] at h2;cases h2
   |some a=>rw[e] at h2;cases h2;rfl
  obtain⟨u,hu,rv⟩:=r.get ha
  have hp:ps[i]?=some y:=by
   rw[← S.pre,List.getElem?_take_of_lt (by omega)];exact h1
  have ndP:ps.Nodup:=by rw[← S.pre];exact S.nd.sublist (List.take_sublist _ _)
  refine⟨u,rv,?_⟩
  rcases S.par y (List.mem_of_getElem? hp) with k | k
  ·exact .inl ⟨k,M20 ndP hp hu k⟩
  ·obtain⟨c,e⟩:=Z10 (n:=s.heap.objs.size + 1) k
   refine .inr ⟨.inl k,c,e,?_⟩
   have q:=x.cell y c e
   rw[M30 ndP hp hu (by show scope.names.lookup y≠_;rw[k];decide)] at q
   exact q
 ·exact e0.hok.fresh (Nat.le_of_lt (x.above y c (PySem.mem_of_lookup h)))
 ·unfold start
  show _=N.length
  rw[List.length_append,List.length_map,List.length_replicate]
  omega
theorem n52{CX:CXT}{P:Program}{w:World}{K:PySem.W.Frag}{mg:Str→Option Value}{base:Heap}{k:Nat}{f:Addr}{name qual:Str}{params:Arguments}{body:List Stmt}{scope:Scope}{dV kV doc pm cdv ct oc:Value}{an od:Option Addr}
  {osl:Array (Option Value)}{N ps:List Str}{sp:Sp} (lk:K.lookup f=some ⟨oc,od,.func (PySem.W.fnOf name qual params body scope dV kV doc pm an cdv ct),osl⟩) (hcd:PySem.W.codeIn K cdv qual=true) (S:q40 N ps scope)
  (len:∀ vs H Q E,sp vs H Q E→vs.length=ps.length)
  (hbody:∀ (A:Around) (outer:List Env) (s:Shared) (H:Hp) (vs:List V) (Q:VK) (E:XK),S00 k (A.deeper (envOfC qual scope s.heap.objs.size f cdv))→sp vs H Q E →
   ∃ t,PSs (M40 CX P w K mg base N qual scope f cdv A outer s H E) body t∧t { nx:=λ_ H'=>Q .non H',rt:=Q } (start N vs) H) :
  f11 P w K mg base CX (k + 1) f (PySem.W.fnOf name qual params body scope dV kV doc pm an cdv ct) ps sp:=by
 refine⟨len,λA outer s H args us vs Q E hr e0 hb r hsp=>?_⟩
 have hl:=len _ _ _ _ hsp
 have KX:K.In s.heap:=e0.mod.kin.keeps λb o e=>(e0.bs b o e).1
 have lim:s.heap.NoLimit:=e0.mod.nolimit.keeps λb o e=>(e0.bs b o e).1
 have hkind:∀ y∈ps.zip us,scope.names.lookup y.1=some .local∨(scope.names.lookup y.1=some .cell∧((cellsFrom (s.heap.objs.size + 1) scope.names []).lookup y.1).isSome=true):=λ⟨n,v⟩ hy=>by
  rcases S.par n (List.of_mem_zip hy).1 with q | q
  ·exact .inl q
  ·exact .inr ⟨q,PySem.W.cellsFrom_some _ _ _ (.inl q)⟩
 refine codeAny_call_function hr.depth (KX _ _ lk) rfl S.co S.gen rfl (PySem.W.codeRec_of KX hcd) (hb _ _ _ _ ?_)
 refine wpAny_newFunctionEnv_cells S.kind hkind λenv he s1 x=>?_
 subst he
 refine⟨lim.keeps x.toInCall.keep,codeAny_func ?_⟩
 obtain⟨t,ht,hq⟩:=hbody A outer s H vs Q E (hr.deeper _) hsp
 have I:Inv (M40 CX P w K mg base N qual scope f cdv A outer s H E) [] (start N vs) H s1:=j61 S hr.hd e0 hl r x
 refine wpAny_mono (ht [] s1 (start N vs) H _ I hq) (λfl s' hs=>?_) λe s' hs=>hs
 have fin:∀ {σ':St}{H':Hp}{v:V}{u:Value},Inv (M40 CX P w K mg base N qual scope f cdv A outer s H E) [] σ' H' s'→RelV v u→Q v H'→CE outer P w H s Q u s' :=
  λ{σ' H' v u} J rv q=>⟨v,H',J.os,J.bare,J.base,J.hok,rv,q⟩
 cases fl with
 |ret u =>
  obtain⟨v,σ',H',J,rv,q⟩:=hs
  exact fin J rv q
 |next =>
  obtain⟨σ',H',J,q⟩:=hs
  exact fin (v:=V.non) (u:=Value.none) J rfl q
 |brk =>
  obtain⟨_,_,_,q⟩:=hs
  exact False.elim q
 |cont =>
  obtain⟨_,_,_,q⟩:=hs
  exact False.elim q
end L2
namespace L2
open PySem PySem.Spec PyProof.Rows
section
variable {X:Cx}{x:Str}{p pos:Pos}{e:Expr}{es:List Expr}{t:TA}{id T:String}{r:List V→Hp→VK→Prop}
noncomputable def tCB(r:List V→Hp→VK→Prop)(t:TA):TE:=λσ H Q=>t σ H λvs H1=>r vs H1 Q
theorem G00(hc:f30 X (.builtin id) r)(hg:Gl X x)(hm:X.mg x=none)(hv:bootBuiltins x=some (.builtin id))(ha:PA X (e::es) t)(hn:x≠"__name__":=by decide)(hdb:(x == ("__debug__":Str))=false:=by decide)
  (he:starEach (e::es) X.env=(false,eval e X.env)::starEach es X.env:=by rfl) (hpl:(backTo pos (starEach es X.env)).any (·.1)=false:=by rfl):PE X (.Call (.Name x p) (e::es) [] pos) (tCB r t):=by
 intro pins s σ H Q I h
 refine wpAny_Call_Name_kw (s30 I hg hm hv ?_ hn hdb)
 exact PyProof.Rows.callWith_builtin1 (thn (ha pos pins s σ H _ I h) λus s1 ⟨vs,H1,I1,r1,q1⟩=>hc pins s1 σ H1 vs us Q I1 r1 q1) he hpl
theorem j71(hc:f30 X (.type T) r)(hg:Gl X x)(hm:X.mg x=none)(hv:bootBuiltins x=some (.type T))(ha:PA X (e::es) t)(hn:x≠"__name__":=by decide)(hdb:(x == ("__debug__":Str))=false:=by decide)
  (he:starEach (e::es) X.env=(false,eval e X.env)::starEach es X.env:=by rfl) (hpl:(backTo pos (starEach es X.env)).any (·.1)=false:=by rfl):PE X (.Call (.Name x p) (e::es) [] pos) (tCB r t):=by
 intro pins s σ H Q I h
 refine wpAny_Call_Name_kw (s30 I hg hm hv ?_ hn hdb)
 exact PyProof.Rows.callWith_type1 (thn (ha pos pins s σ H _ I h) λus s1 ⟨vs,H1,I1,r1,q1⟩=>hc pins s1 σ H1 vs us Q I1 r1 q1) he hpl
end
end L2
namespace HT
open PySem PyProof.Rows
theorem y11(A:Around)(s:Shared)(a:Int)(t:Tok)(c:Int)(u:Tok):∃ e,SeqAt.EqAt A s (.int a t) (.int c u) e∧(e=true↔a=c) :=
 ⟨(a == c),SeqAt.EqAt.int_int a t c u,by simp⟩
theorem Z20(A:Around)(s:Shared)(a:Int)(t:Tok)(c:Int)(u:Tok)(prog:Program)(w:World)(E:Value→Shared→Prop)(Q:Value→Shared→Prop)(h:Q (.bool (decide (a < c))) s) :
  wpAny (model prog w) A (richCompare .Lt (.int a t) (.int c u)) Q E s :=
 (PyProof.Rows.lt_int h:wpAny (model prog w) A (compareOp .Lt (.int a t) (.int c u)) Q E s)
section
open PySem.SeqAt
open PySem.AutoSeq1 (wpAny_loadPart')
open PySem.MeetsSeq PySem.MeetsSeq2 PySem.MeetsSeq3
end
section
variable {prog:Program}{w:World}{A:Around}{E:Value→Shared→Prop}{s:Shared}
theorem K01{t b:Addr}{vs ws:List Value}{Q:Value→Shared→Prop}(ht:IsTup s.heap t vs.toArray)(hb:IsTup s.heap b ws.toArray)(hv:vs≠[])
  (h1:ws=[]→Q (.ref t) s) (h2:ws≠[]→Q (.ref s.heap.objs.size) { s with heap:=s.heap.push { cls:=.type "tuple",data:=.seq (vs++ws).toArray } })
  (hsz:vs.length + ws.length≤sizeLine):wpAny (model prog w) A (binaryOp .Add (.ref t) (.ref b)) Q E s:=by
 obtain⟨⟨cls,dd,data,sl⟩,ho,hc,n,hd⟩:=id ht
 obtain⟨⟨cls2,dd2,data2,sl2⟩,ho2,hc2,n2,hd2⟩:=id hb
 simp only at hc hd hc2 hd2
 subst hc hd hc2 hd2
 have e:vs.toArray++ws.toArray=(vs++ws).toArray:=by simp
 by_cases hw:ws=[]
 ·exact concat_meets ⟨_,ho,rfl⟩ ⟨_,ho2,rfl⟩ noFill_tuple_add seq_tuple_add PySem.F.slot_tuple_add PySem.F.entry_tuple_add (PySem.F.args_tuple_add_2 _ _)
   (tuple_addW1 t b vs.toArray ws.toArray n n2 dd dd2 sl sl2 (by simpa using hv) (by simp[hw])) ⟨ho,ho2,h1 hw⟩
 ·refine concat_meets ⟨_,ho,rfl⟩ ⟨_,ho2,rfl⟩ noFill_tuple_add seq_tuple_add PySem.F.slot_tuple_add PySem.F.entry_tuple_add (PySem.F.args_tuple_add_2 _ _)
   (tuple_addW2 t b vs.toArray ws.toArray n n2 dd dd2 sl sl2 (by simpa using hv) (by simpa using hw) (by rw[List.size_toArray,List.size_toArray];exact hsz)) ⟨ho,ho2,?_⟩
  rw[e]
  exact h2 hw
noncomputable def sIx(n d:Nat):Option Int→Nat
 |none=>d
 |some v=>if v < 0 then(v + (n:Int)).toNat else min v.toNat n
theorem j81(n d k:Nat):sIx n d (some (k:Int))=min k n:=by
 show(if (k:Int) < 0 then((k:Int) + (n:Int)).toNat else min (k:Int).toNat n)=min k n
 rw[if_neg (by omega),Int.toNat_natCast]
theorem Y71(n d:Nat)(hd:d≤n)(o:Option Int):sIx n d o≤n:=by
 cases o with
 |none=>exact hd
 |some v =>
  show(if v < 0 then(v + (n:Int)).toNat else min v.toNat n)≤n
  by_cases hv:v < 0
  ·rw[if_pos hv];omega
  ·rw[if_neg hv];exact Nat.min_le_right _ _
theorem j91(v:Int)(n d:Nat):(if v < 0 then max (v + (n:Int)) 0 else min v (n:Int))=((sIx n d (some v):Nat):Int):=by
 show(if v < 0 then max (v + (n:Int)) 0 else min v (n:Int))=(((if v < 0 then(v + (n:Int)).toNat else min v.toNat n):Nat):Int)
 by_cases hv:v < 0
 ·simp only[if_pos hv];omega
 ·simp only[if_neg hv];omega
theorem f21(lo hi:Option Int)(n:Nat):Builtin.Slice.sliceAdjust lo hi 1 (n:Int)=(((sIx n 0 lo:Nat):Int),((sIx n n hi:Nat):Int)):=by
 have h1:¬ ((1:Int) < 0):=by omega
 unfold Builtin.Slice.sliceAdjust
 simp only[h1,if_false]
 refine Prod.ext ?_ ?_
 ·cases lo with
  |none=>rfl
  |some v=>exact j91 v n 0
 ·cases hi with
  |none=>rfl
  |some v=>exact j91 v n n
theorem f31(i j:Nat):Builtin.Slice.slicePlaces (i:Int) (j:Int) 1=j - i:=by
 unfold Builtin.Slice.slicePlaces
 have h1:(1:Int) > 0:=by omega
 simp only[h1,if_true,Int.ediv_one]
 split <;> omega
theorem D60{v:Value}{o:Option Int}{Q:Option Int→Shared→Prop}(p:IsPart v o)(h:Q o s):wpAny (model prog w) A (Builtin.Slice.slicePartIndex v) Q E s:=by
 cases p with
 |none=>exact slicePart_none h
 |int i t=>exact slicePart_int h
theorem m40{sl:Addr}{vl vu:Value}{lo hi:Option Int}{n:Nat}{Q:Int × Int × Nat→Shared→Prop}(hs:s.heap.IsSliceOf sl vl vu .none)(pl:IsPart vl lo)(pu:IsPart vu hi)
  (h:Q (((sIx n 0 lo:Nat):Int),1,sIx n n hi - sIx n 0 lo) s):wpAny (model prog w) A (Builtin.Slice.sliceApplied (.ref sl) (pure (n:Int))) Q E s:=by
 obtain⟨os,hos,hcs,hds⟩:=id hs
 unfold Builtin.Slice.sliceApplied Builtin.Slice.sliceFields
 refine wpAny_bind (wpAny_bind (wpAny_field hos hds (x:=vl) rfl (wpAny_bind (wpAny_field hos hds (x:=vu) rfl (wpAny_bind (wpAny_field hos hds (x:=.none) rfl (wpAny_pure ?_)))))))
 refine wpAny_bind (slicePart_none ?_)
 show wpAny _ _ (if ((1:Int) == 0)=true then _ else _) _ _ s
 rw[if_neg (by decide)]
 refine wpAny_bind (D60 pl (wpAny_bind (D60 pu (wpAny_bind (wpAny_pure ?_)))))
 show wpAny _ _ (match Builtin.Slice.sliceAdjust lo hi 1 (n:Int) with | (lo,hi)=>pure (lo,(1:Int),Builtin.Slice.slicePlaces lo hi 1)) _ _ s
 rw[f21 lo hi n]
 show wpAny _ _ (pure (((sIx n 0 lo:Nat):Int),(1:Int),Builtin.Slice.slicePlaces ((sIx n 0 lo:Nat):Int) ((sIx n n hi:Nat):Int) 1)) _ _ s
 rw[f31]
 exact wpAny_pure h
theorem y21(xs:Array Value)(i k:Nat):((List.range k).filterMap λ(m:Nat)=>xs[((i:Int) + (m:Int) * 1).toNat]?).toArray=((xs.toList.drop i).take k).toArray:=by
 have e:(λ(m:Nat)=>xs[((i:Int) + (m:Int) * 1).toNat]?)=λm=>xs[i + m]?:=by
  funext m
  have:((i:Int) + (m:Int) * 1).toNat=i + m:=by omega
  rw[this]
 rw[e]
 have:=pick_run xs i k
 rw[List.filterMap_map] at this
 have e2:((λx=>xs[x]?) ∘ λx=>i + x)=λm=>xs[i + m]?:=rfl
 rw[e2] at this
 rw[this]
theorem u60{t sl:Addr}{items:Array Value}{vl vu:Value}{lo hi:Option Int}{Q:Value→Shared→Prop}(ht:IsTup s.heap t items)(hs:s.heap.IsSliceOf sl vl vu .none)(pl:IsPart vl lo)(pu:IsPart vu hi)
  (hw:¬ (sIx items.size 0 lo=0∧sIx items.size items.size hi=items.size))
  (h:Q (.ref s.heap.objs.size) { s with heap:=s.heap.push { cls:=.type "tuple",data:=.seq ((items.toList.drop (sIx items.size 0 lo)).take (sIx items.size items.size hi - sIx items.size 0 lo)).toArray } })
  (hsz:items.size≤sizeLine):wpAny (model prog w) A (getItem (.ref t) (.ref sl)) Q E s:=by
 have htake:sizeOk (.seq ((items.toList.drop (sIx items.size 0 lo)).take (sIx items.size items.size hi - sIx items.size 0 lo)).toArray):=by
  show((items.toList.drop (sIx items.size 0 lo)).take (sIx items.size items.size hi - sIx items.size 0 lo)).toArray.size≤sizeLine
  rw[List.size_toArray,List.length_take,List.length_drop,Array.length_toList]
  omega
 have hj:sIx items.size items.size hi≤items.size:=Y71 _ _ (Nat.le_refl _) hi
 obtain⟨os,hos,hcs,hds⟩:=id hs
 have hTs:s.TypeIs (.ref sl) "slice":=⟨os,hos,hcs⟩
 unfold getItem
 try with_reducible refine wpAny_holding ?_
 first | refine wpAny_bind (wpAny_pure ?_) | skip
 refine wpAny_bind (wpAny_sequenceKey ht.typeIs (by decide) ?_)
 refine wpAny_bind (wpAny_callSpecial?_slot (name:=Str.ofString "__getitem__") ht.typeIs PyProof.Rows.slot_tuple_getitem
  (wpAny_call_entry PyProof.Rows.slot_tuple_getitem ht.typeIs entry_tuple_getitem ?_ (args_tuple_getitem _ _)))
 show wpAny _ _ (Builtin.Tuple.tupleItemsOf (.ref t) >>= _) _ _ s
 refine wpAny_bind (tupleItemsOf_ ht ?_)
 refine wpAny_bind (wpAny_typeOf hTs ?_)
 rw[if_pos (by decide)]
 refine wpAny_bind (m40 hs pl pu ?_)
 have hno:¬ ((((sIx items.size 0 lo:Nat):Int) == 0&&(1:Int) == 1&&(sIx items.size items.size hi - sIx items.size 0 lo) == items.size)=true):=by
  intro q
  rw[Bool.and_eq_true,Bool.and_eq_true] at q
  have q1:((sIx items.size 0 lo:Nat):Int)=0:=eq_of_beq q.1.1
  have q2:sIx items.size items.size hi - sIx items.size 0 lo=items.size:=eq_of_beq q.2
  exact hw ⟨by omega,by omega⟩
 show wpAny _ _ (if (((sIx items.size 0 lo:Nat):Int) == 0&&(1:Int) == 1&&(sIx items.size items.size hi - sIx items.size 0 lo) == items.size)=true then _ else _) _ _ s
 rw[if_neg hno,y21]
 first
  |exact wpAny_bind (m:=Builtin.Tuple.tupleExact _) (wpAny_newObj_type (wpAny_pure ⟨_,rfl,wpAny_pure h⟩) htake)
  |exact wpAny_bind (m:=Builtin.Tuple.tupleExact _) (wpAny_newObj_type (wpAny_bind (wpAny_pure (wpAny_pure ⟨_,rfl,wpAny_pure h⟩))) htake)
  |exact wpAny_bind (wpAny_bind (m:=Builtin.Tuple.tupleExact _) (wpAny_newObj_type (wpAny_pure (wpAny_pure ⟨_,rfl,wpAny_pure h⟩)) htake))
  |exact wpAny_bind (wpAny_bind (m:=Builtin.Tuple.tupleExact _) (wpAny_newObj_type (wpAny_pure ⟨_,rfl,wpAny_pure h⟩) htake))
end
end HT
namespace L2
open PySem PySem.Spec PyProof.Rows
noncomputable abbrev TO:=St→Hp→(Option Int→Hp→Prop)→Prop
noncomputable def PO(X:Cx)(e:Option Expr)(t:TO):Prop :=
 ∀ (pins:List (Addr × Obj)) (s:Shared) (σ:St) (H:Hp) (Q:Option Int→Hp→Prop),Inv X pins σ H s→t σ H Q →
  wpAny (model X.prog X.w) X.A (evalPart e X.env) (λu s'=>∃ o H',Inv X pins σ H' s'∧IsPart u o∧Q o H') X.xe s
noncomputable def K11:TO:=λ_ H Q=>Q none H
noncomputable def n62(t:TE):TO:=λσ H Q=>t σ H λx H1=>∃ i,x=.int i∧Q (some i) H1
theorem intsAre_of{ns:List Int}:∀ {us:List Value},Vals (ns.map V.int) us→IntsAre us ns:=by
 induction ns with
 |nil=>intro us r;rw[List.map_nil] at r;cases r;exact .nil
 |cons n ns ih =>
  intro us r
  rw[List.map_cons] at r
  cases r with
  |cons r1 r2 =>
   obtain⟨t,e⟩:=r1
   subst e
   exact .cons n t (ih r2)
section
variable {X:Cx}{e:Expr}{te:TE}{lo hi:Option Expr}{tl th:TO}{pos p2:Pos}
theorem K21:PO X none K11:=by
 intro pins s σ H Q I h
 rw[evalPart_none]
 exact wpAny_pure ⟨none,H,I,.none,h⟩
theorem K31(h:PE X e te):PO X (some e) (n62 te):=by
 intro pins s σ H Q I hw
 rw[evalPart_some]
 refine thn (h pins s σ H _ I hw) λu s1 ⟨x,H1,I1,r1,q1⟩=>?_
 obtain⟨i,rfl,q⟩:=q1
 obtain⟨t,rfl⟩:=r1
 exact⟨some i,H1,I1,.int i t,q⟩
noncomputable def SlR(X:Cx)(r:V→Option Int→Option Int→Hp→VK→Prop):Prop :=
 ∀ (pins:List (Addr × Obj)) (s:Shared) (σ:St) (H:Hp) (x:V) (v vl vu:Value) (lo hi:Option Int) (sl:Addr) (Q:VK),Inv X pins σ H s→RelV x v→s.heap.IsSliceOf sl vl vu .none→IsPart vl lo→IsPart vu hi→r x lo hi H Q →
  ∃ T id,typeLookup (.type T) "__getitem__"=pure (some (.builtin id))∧s.TypeIs v T∧wpAny (model X.prog X.w) X.A (getItem v (.ref sl)) (EP X pins σ Q) X.xe s
noncomputable def tSl(r:V→Option Int→Option Int→Hp→VK→Prop)(te:TE)(tl th:TO):TE:=λσ H Q=>te σ H λx H1=>tl σ H1 λl H2=>th σ H2 λu H3=>r x l u H3 Q
theorem y31{r:V→Option Int→Option Int→Hp→VK→Prop}(hr:SlR X r)(he:PE X e te)(hl:PO X lo tl)(hu:PO X hi th):PE X (.Subscript e (.Slice lo hi none p2) pos) (tSl r te tl th):=by
 intro pins s σ H Q I h
 refine Subscript_ (thn (he pins s σ H _ I h) λv s1 ⟨x,H1,I1,r1,q1⟩=>?_)
 refine wpAny_Slice (thn (hl pins s1 σ H1 _ I1 q1) λvl s2 ⟨l,H2,I2,pl,q2⟩=>thn (hu pins s2 σ H2 _ I2 q2) λvu s3 ⟨u,H3,I3,pu,q3⟩=>?_)
 rw[evalPart_none]
 refine wpAny_pure ?_
 have I4:Inv X pins σ H3 { s3 with heap:=s3.heap.push { cls:=.type "slice",data:=.fields #[vl,vu,.none] } }:=I3.kept (t':=s3.toks) λb ob q=>Heap.get?_push_of_some _ q
 obtain⟨T,id,hT,ht,hg⟩:=hr pins { s3 with heap:=s3.heap.push { cls:=.type "slice",data:=.fields #[vl,vu,.none] } } σ H3 x v vl vu l u s3.heap.objs.size Q I4 r1 (Heap.IsSliceOf.new ..) pl pu q3
 show wpAny (model X.prog X.w) X.A (subscriptTail e (.Slice lo hi none p2) v (.ref s3.heap.objs.size)) (EP X pins σ Q) X.xe { s3 with heap:=s3.heap.push { cls:=.type "slice",data:=.fields #[vl,vu,.none] } }
 exact tail_any (ops:=[.ref s3.heap.objs.size,v]) ht hT hg (by with_unfolding_all rfl)
noncomputable def y41(xs:List V)(lo hi:Option Int):List V:=(xs.drop (HT.sIx xs.length 0 lo)).take (HT.sIx xs.length xs.length hi - HT.sIx xs.length 0 lo)
theorem A00(xs:List V)(lo hi:Option Int):(y41 xs lo hi).length≤xs.length:=by
 unfold y41
 rw[List.length_take,List.length_drop]
 omega
theorem Vals.A10{xs:List V}{us:List Value}(r:Vals xs us):us=[]↔xs=[]:=by
 cases r with
 |nil=>simp
 |cons _ _=>simp
end
end L2
namespace L2
open PySem PySem.Spec PyProof.Rows
noncomputable def ixN(n:Nat)(i:Int):Option Nat:=if 0≤i then(if i < n then some i.toNat else none) else if -(n:Int)≤i then some (i + n).toNat else none
noncomputable def atI{α:Type}(xs:List α)(i:Int):Option α:=(ixN xs.length i).bind λj=>xs[j]?
theorem k01{n:Nat}{i:Int}{j:Nat}(h:ixN n i=some j):seqIndex? i n=some j∧j < n∧-(n:Int)≤i∧i < n:=by
 unfold ixN at h
 by_cases h0:0≤i
 ·rw[if_pos h0] at h
  by_cases h1:i < n
  ·rw[if_pos h1] at h
   have e:i.toNat=j:=Option.some.inj h
   exact⟨by rw[seqIndex_of h0 h1,e],by omega,by omega,h1⟩
  ·rw[if_neg h1] at h;cases h
 ·rw[if_neg h0] at h
  by_cases h1:-(n:Int)≤i
  ·rw[if_pos h1] at h
   have e:(i + n).toNat=j:=Option.some.inj h
   exact⟨by rw[seqIndex_neg (by omega) h1,e],by omega,h1,by omega⟩
  ·rw[if_neg h1] at h;cases h
theorem k11{α:Type}{xs:List α}{i:Int}{v:α}(h:atI xs i=some v):∃ j,seqIndex? i xs.length=some j∧xs[j]?=some v∧j < xs.length∧-(xs.length:Int)≤i∧i < xs.length:=by
 unfold atI at h
 cases e:ixN xs.length i with
 |none=>rw[e] at h;cases h
 |some j =>
  rw[e] at h
  obtain⟨h1,h2,h3,h4⟩:=k01 e
  exact⟨j,h1,h,h2,h3,h4⟩
theorem S90{α:Type}{xs:List α}{j:Nat}{v:α}(h:xs[j]?=some v):atI xs (j:Int)=some v:=by
 have hj:j < xs.length:=(List.getElem?_eq_some_iff.mp h).1
 have e:ixN xs.length (j:Int)=some j:=by
  unfold ixN
  rw[if_pos (by omega),if_pos (by omega)];simp
 unfold atI;rw[e];exact h
noncomputable def k21(b:Expr):Prop:=∀ o i,subscripted b false o i=operate [o,i] (getItem o i)
noncomputable def IxR(X:Cx)(r:R2):Prop :=
 ∀ (value slice:Expr) (pins:List (Addr × Obj)) (s:Shared) (σ:St) (H:Hp) (x y:V) (v u:Value) (Q:VK),Inv X pins σ H s→RelV x v→RelV y u→r x y H Q →
  subscripted slice false v u=operate [v,u] (getItem v u)→wpAny (model X.prog X.w) X.A (subscriptTail value slice v u) (EP X pins σ Q) X.xe s
noncomputable def MtR(X:Cx)(id:String)(r:V→List V→Hp→VK→Prop):Prop :=
 ∀ (pins:List (Addr × Obj)) (s:Shared) (σ:St) (H:Hp) (x:V) (xs:List V) (v:Value) (us:List Value) (Q:VK),Inv X pins σ H s→RelV x v→Vals xs us→r x xs H Q →
  wpAny (model X.prog X.w) X.A (call (.builtin id) (v::us)) (EP X pins σ Q) X.xe s
section
variable {X:Cx}{a b:Expr}{ta tb:TE}{pos:Pos}
theorem Y81{r:R2}(hr:IxR X r)(ha:PE X a ta)(hb:PE X b tb)(hs:k21 b):PE X (.Subscript a b pos) (tOp r ta tb):=by
 intro pins s σ H Q I h
 exact Subscript_ (m62 ha hb I h λv u s2 x y H2 I2 rx ry q=>hr a b pins s2 σ H2 x y v u Q I2 rx ry q (hs _ _))
noncomputable def A02(K:PySem.W.Frag):R2:=λx y H Q=>∃ p xs i v,x=.ref p∧y=.int i∧SqL K H p xs∧atI xs i=some v∧Q v H
noncomputable def A12(K:PySem.W.Frag):R2:=λx y H Q=>∃ p xs i v,x=.ref p∧y=.int i∧SqT K H p xs∧atI xs i=some v∧Q v H
theorem k31:IxR X (A02 X.K):=by
 intro value slice pins s σ H x y v u Q I rx ry h hs
 obtain⟨p,xs,i,z,rfl,rfl,hq,he,q⟩:=h
 cases rx
 obtain⟨t,rfl⟩:=ry
 obtain⟨its,r,pl,hz⟩:=I.list hq
 obtain⟨j,h1,h2,h3,h4,h5⟩:=k11 he
 obtain⟨w,ew,rw'⟩:=r.get h2
 have hl:=r.length
 have hn:=Z00
 have fin:EP X pins σ Q w s:=⟨z,H,I,rw',q⟩
 by_cases h0:0≤i
 ·have hj:i.toNat=j:=by
   rw[seqIndex_of h0 h5] at h1
   exact Option.some.inj h1
  exact item_listR pl.isList h0 (by omega) (by rw[hj];simpa using ew) fin hs
 ·have hj:(i + (its.toArray.size:Int)).toNat=j:=by
   rw[seqIndex_neg (by omega) h4] at h1
   rw[List.size_toArray,← hl]
   exact Option.some.inj h1
  exact subscriptTail_builtinR (x:=w) pl.isList.typeIs slot_list_getitem.lookup
   (wpAny_getItem_list_neg (Q:=λr s'=>r=w∧EP X pins σ Q r s') pl.isList (by omega) (by rw[List.size_toArray] <;> omega) (by omega) (by rw[hj];simpa using ew) ⟨rfl,fin⟩) hs
theorem Y91:IxR X (A12 X.K):=by
 intro value slice pins s σ H x y v u Q I rx ry h hs
 obtain⟨p,xs,i,z,rfl,rfl,hq,he,q⟩:=h
 cases rx
 obtain⟨t,rfl⟩:=ry
 obtain⟨its,r,pl,hz⟩:=I.tuple hq
 obtain⟨j,h1,h2,h3,h4,h5⟩:=k11 he
 obtain⟨w,ew,rw'⟩:=r.get h2
 have hl:=r.length
 have hn:=Z00
 have fin:EP X pins σ Q w s:=⟨z,H,I,rw',q⟩
 exact subscriptTail_builtinR (x:=w) pl.typeIs slot_tuple_getitem.lookup
  (getItem_tuple (j:=j) (Q:=λr s'=>r=w∧EP X pins σ Q r s') pl (by omega) (by omega) (by rw[List.size_toArray,← hl];exact h1) (by simpa using ew) ⟨rfl,fin⟩) hs
theorem f41(its:List Value)(n j:Nat)(u:Value):Obj.mapSeq (·.setIfInBounds j u) { cls:=.type "list",data:=.seq its.toArray n }={ cls:=.type "list",data:=.seq (its.set j u).toArray n }:=by
 simp[Obj.mapSeq]
theorem Inv.lst{pins:List (Addr × Obj)}{σ:St}{H:Hp}{s:Shared}{p:Addr}{xs:List V}(I:Inv X pins σ H s)(h:H p=some (.lst xs)) :
  ∃ (its:List Value) (n:Nat),Vals xs its∧s.heap.get? p=some { cls:=.type "list",data:=.seq its.toArray n }∧xs.length≤sizeLine:=by
 obtain⟨z,its,n,r,e⟩:=I.hok p _ h
 exact⟨its,n,r,e,z⟩
theorem Inv.Z01{pins:List (Addr × Obj)}{σ:St}{H:Hp}{s:Shared}{p:Addr}{xs ys:List V}{its its':List Value}{n n':Nat}{f:Obj→Obj}(I:Inv X pins σ H s)(h:H p=some (.lst xs))
  (ho:s.heap.get? p=some { cls:=.type "list",data:=.seq its.toArray n }) (hf:f { cls:=.type "list",data:=.seq its.toArray n }={ cls:=.type "list",data:=.seq its'.toArray n' }) (r:Vals ys its') (hz:ys.length≤sizeLine) (t:Nat) :
  Inv X pins σ (upd H p (.lst ys)) { s with heap:=s.heap.update p f,toks:=t }:=by
 have e:(s.heap.update p f).get? p=some { cls:=.type "list",data:=.seq its'.toArray n' }:=by
  rw[Heap.get?_update_self f ho (by rw[hf] <;> rfl),hf]
 refine I.write (x:=p) (e:=p) (by rw[h];trivial) (.inl rfl) (λb u hb q=>(Heap.get?_update_other _ _ (Ne.symm hb)).trans q) ⟨_,e⟩ ?_
 exact⟨hz,its',n',r,e⟩
noncomputable def n72:V→V→V→Hp→(Hp→Prop)→Prop:=λo i v H Q=>∃ p xs k j,o=.ref p∧i=.int k∧H p=some (.lst xs)∧ixN xs.length k=some j∧Q (upd H p (.lst (xs.set j v)))
theorem set_list:m02 X n72:=by
 intro pins s σ H o i v ov iv u Q I ro ri rv h
 obtain⟨p,xs,k,j,rfl,rfl,hp,hj,q⟩:=h
 cases ro
 obtain⟨t,rfl⟩:=ri
 obtain⟨its,n,r,ho,hz⟩:=I.lst hp
 obtain⟨h1,h2,h3,h4⟩:=k01 hj
 have hl:=r.length
 have hn:=Z00
 have I':Inv X pins σ (upd H p (.lst (xs.set j v))) { s with heap:=s.heap.update p (Obj.mapSeq (·.setIfInBounds j u)) } :=
  I.Z01 hp ho (f41 its n j u) (r.set rv j) (by rw[List.length_set];exact hz) s.toks
 by_cases h0:0≤k
 ·have hk:k.toNat=j:=by
   rw[seqIndex_of h0 h4] at h1
   exact Option.some.inj h1
  exact PySem.W.ki_setAt ho h0 (by omega) (by rw[List.size_toArray,← hl];exact h4) (by rw[hk];exact⟨_,I',q⟩)
 ·have hk:(k + (its.toArray.size:Int)).toNat=j:=by
   rw[seqIndex_neg (by omega) h3] at h1
   rw[List.size_toArray,← hl]
   exact Option.some.inj h1
  exact PySem.W.ki_setBack ho (by omega) (by rw[List.size_toArray,← hl];exact h3) (by omega) (by rw[hk];exact⟨_,I',q⟩)
theorem M50(lo hi:Option Int)(n:Nat):(sliceBounds lo hi none n).1=((HT.sIx n 0 lo:Nat):Int)∧(sliceBounds lo hi none n).2.1=((HT.sIx n n hi:Nat):Int)∧(sliceBounds lo hi none n).2.2=1:=by
 refine⟨?_,?_,rfl⟩
 ·cases lo with
  |none=>simp[sliceBounds,HT.sIx]
  |some i =>
   simp only[sliceBounds,HT.sIx,Option.getD_none,show(1:Int) > 0 by decide,if_true]
   by_cases h:i < 0
   ·simp only[h,if_true] <;> omega
   ·simp only[h,if_false] <;> omega
 ·cases hi with
  |none=>simp[sliceBounds,HT.sIx]
  |some i =>
   simp only[sliceBounds,HT.sIx,Option.getD_none,show(1:Int) > 0 by decide,if_true]
   by_cases h:i < 0
   ·simp only[h,if_true] <;> omega
   ·simp only[h,if_false] <;> omega
theorem G10(its:List Value)(lo hi:Option Int):slicePick its.toArray lo hi none=((its.drop (HT.sIx its.length 0 lo)).take (HT.sIx its.length its.length hi - HT.sIx its.length 0 lo)).toArray:=by
 obtain⟨h1,h2,h3⟩:=M50 lo hi its.toArray.size
 unfold slicePick
 rw[h1,h2,h3]
 simp only[sliceRange_one,pick_run,List.size_toArray] <;> rfl
noncomputable def A22(K:PySem.W.Frag):V→Option Int→Option Int→Hp→VK→Prop:=λx lo hi H Q=>∃ a xs,x=.ref a∧SqL K H a xs∧∀ p,H p=none→Q (.ref p) (upd H p (.lst (y41 xs lo hi)))
theorem K41:SlR X (A22 X.K):=by
 intro pins s σ H x v vl vu lo hi sl Q I rx hs pl pu h
 obtain⟨a,xs,rfl,hx,q⟩:=h
 cases rx
 obtain⟨its,r,ht,hz⟩:=I.list hx
 have hlen:=r.length
 refine⟨"list",_,slot_list_getitem.lookup,ht.isList.typeIs,?_⟩
 refine wpAny_getItem_list_slice ht.isList hs pl pu .none (by simp) ?_ (by rw[List.size_toArray] <;> omega)
 rw[G10,← hlen]
 refine⟨.ref s.heap.objs.size,_,I.laid (t':=s.toks) (o:=.lst (y41 xs lo hi)) (λb ob q=>Heap.get?_push_of_some _ q) (Nat.le_refl _) ?_,rfl,q _ (I.hok.fresh (Nat.le_refl _))⟩
 exact⟨Nat.le_trans (A00 xs lo hi) hz,_,0,(r.drop (HT.sIx xs.length 0 lo)).take (HT.sIx xs.length xs.length hi - HT.sIx xs.length 0 lo),Heap.get?_push_size _ rfl⟩
theorem M60:f30 X (.builtin "len") (λxs H Q=>∃ p ys,xs=[.ref p]∧(SqL X.K H p ys∨SqT X.K H p ys)∧Q (.int ys.length) H):=by
 intro pins s σ H xs us Q I r h
 obtain⟨p,ys,rfl,hq,q⟩:=h
 obtain⟨u,rfl,rx⟩:=vals1 r
 cases rx
 have hn:=Z00
 rcases hq with hq | hq
 ·obtain⟨its,r',pl,hz⟩:=I.list hq
  have hlen:=r'.length
  exact Calls.call_len_list pl.isList (by simp only[List.size_toArray] <;> omega) ⟨.int ys.length,H,I.tok _,⟨s.toks + 1,by rw[List.size_toArray,hlen]⟩,q⟩
 ·obtain⟨its,r',pl,hz⟩:=I.tuple hq
  have hlen:=r'.length
  exact len_tuple pl (by simp only[List.size_toArray] <;> omega) ⟨.int ys.length,H,I.tok _,⟨s.toks + 1,by rw[List.size_toArray,hlen]⟩,q⟩
theorem M70:f30 X (.type "list") (λxs H Q=>∃ p ys,xs=[.ref p]∧(SqL X.K H p ys∨SqT X.K H p ys)∧∀ l,H l=none→Q (.ref l) (upd H l (.lst ys))):=by
 intro pins s σ H xs us Q I r h
 obtain⟨p,ys,rfl,hq,q⟩:=h
 obtain⟨u,rfl,rx⟩:=vals1 r
 cases rx
 have fin:∀ (its:List Value),Vals ys its→ys.length≤sizeLine→∀ (h':Heap) (c':Nat),(∀ b o',s.heap.get? b=some o'→h'.get? b=some o') →
   h'.get? s.heap.objs.size=some { cls:=.type "list",dict:=none,data:=.seq its.toArray c',slots:=#[] }→EP X pins σ Q (.ref s.heap.objs.size) { s with heap:=h' }:=λits r' hz h' c' kp e =>
  ⟨.ref s.heap.objs.size,_,I.laid (t':=s.toks) kp (Nat.le_refl _) (show h70 X.prog X.w _ h' _ (.lst ys) from⟨hz,its,c',r',e⟩),rfl,q _ (I.hok.fresh (Nat.le_refl _))⟩
 rcases hq with hq | hq
 ·obtain⟨its,r',pl,hz⟩:=I.list hq
  have hlen:=r'.length
  obtain⟨o,ho,hc,n,hd⟩:=pl.isList
  exact call_list_seq p (.inl rfl) ho hc hd (λh' c' kp e=>fin its r' hz h' c' kp e) (by simp only[List.size_toArray] <;> omega)
 ·obtain⟨its,r',pl,hz⟩:=I.tuple hq
  have hlen:=r'.length
  obtain⟨o,ho,hc,n,hd⟩:=pl
  exact call_list_seq p (.inr rfl) ho hc hd (λh' c' kp e=>fin its r' hz h' c' kp e) (by simp only[List.size_toArray] <;> omega)
theorem G20:f30 X (.type "tuple") (λxs H Q=>∃ p ys,xs=[.ref p]∧((SqL X.K H p ys∧∀ l,H l=none→Q (.ref l) (upd H l (.tup ys)))∨(SqT X.K H p ys∧Q (.ref p) H))):=by
 intro pins s σ H xs us Q I r h
 obtain⟨p,ys,rfl,h⟩:=h
 obtain⟨u,rfl,rx⟩:=vals1 r
 cases rx
 rcases h with ⟨hq,q⟩ | ⟨hq,q⟩
 ·obtain⟨its,r',pl,hz⟩:=I.list hq
  have hlen:=r'.length
  refine call_tuple_list pl.isList (λh' kp=>?_) (by simp only[List.size_toArray] <;> omega)
  have I1:Inv X pins σ H { s with heap:=h' }:=I.kept (t':=s.toks) kp
  have I2:Inv X pins σ (upd H h'.objs.size (.tup ys)) { s with heap:=h'.push { cls:=.type "tuple",data:=.seq its.toArray } } :=
   I1.laid (t':=s.toks) (λb o e=>Heap.get?_push_of_some _ e) (Nat.le_refl _) (show h70 X.prog X.w _ _ _ (.tup ys) from⟨hz,its,r',IsTup.new _ _⟩)
  exact⟨.ref h'.objs.size,_,I2,rfl,q _ (I1.hok.fresh (Nat.le_refl _))⟩
 ·obtain⟨its,r',pl,hz⟩:=I.tuple hq
  exact call_tuple_same pl ⟨.ref p,H,I,rfl,q⟩
noncomputable def tyV(K:PySem.W.Frag)(T:String)(x:V)(H:Hp):Prop:=match x with
 |.str _=>T="str"
 |.int _=>T="int"
 |.ref p=>(T="list"∧∃ xs,SqL K H p xs)∨(T="tuple"∧∃ o,K.lookup p=some o∧o.cls=.type "tuple"∧o.dict=none) ∨
   (T="dict"∧((∃ kvs,H p=some (.dK kvs))∨∃ kvs,H p=some (.dT kvs)))∨(T="set"∧∃ S n,H p=some (.set S n))
 |_=>False
theorem Z11{pins:List (Addr × Obj)}{σ:St}{H:Hp}{s:Shared}{T:String}{x:V}{v:Value}(I:Inv X pins σ H s)(r:RelV x v)(ty:tyV X.K T x H) :
  s.TypeIs v T∧∀ a,v=.ref a→∃ ob,s.heap.get? a=some ob∧ob.dict=none:=by
 cases x with
 |str z =>
  obtain⟨t,rfl⟩:=r
  cases (show T="str" from ty)
  exact⟨typeIs_str s z t,λ_ e=>nomatch e⟩
 |int i =>
  obtain⟨t,rfl⟩:=r
  cases (show T="int" from ty)
  exact⟨typeIs_int s i t,λ_ e=>nomatch e⟩
 |ref p =>
  cases r
  rcases ty with ⟨rfl,xs,hq⟩ | ⟨rfl,o,hk,hc,hd⟩ | ⟨rfl,hk⟩ | ⟨rfl,S,n,hk⟩
  ·obtain⟨its,_,pl,_⟩:=I.list hq
   refine⟨pl.isList.typeIs,λa e=>?_⟩
   cases e
   obtain⟨o,n,e,c,hd,_⟩:=pl
   exact⟨o,e,hd⟩
  ·refine⟨⟨o,I.kIn p o hk,hc⟩,λa e=>?_⟩
   cases e
   exact⟨o,I.kIn _ o hk,hd⟩
  ·have z:∃ o,s.heap.get? p=some o∧o.ExactDict:=by
    rcases hk with ⟨kvs,hk⟩ | ⟨kvs,hk⟩
    ·obtain⟨_,_,_,_,o,_,_,e,ex,_⟩:=I.hok p _ hk
     exact⟨o,e,ex⟩
    ·obtain⟨_,_,_,_,o,_,_,e,ex,_⟩:=I.hok p _ hk
     exact⟨o,e,ex⟩
   obtain⟨o,e,ex⟩:=z
   refine⟨⟨o,e,ex.1⟩,λa e2=>?_⟩
   cases e2
   exact⟨o,e,ex.2.1⟩
  ·obtain⟨o,_,_,_,e,ex,_⟩:=I.hok p _ hk
   refine⟨⟨o,e,ex.1⟩,λa e2=>?_⟩
   cases e2
   exact⟨o,e,ex.2.1⟩
 |_=>exact False.elim ty
noncomputable def tBM(K:PySem.W.Frag)(T:String)(r:V→List V→Hp→VK→Prop)(to:TE)(t:TA):TE:=λσ H Q=>to σ H λx H1=>tyV K T x H1∧t σ H1 λxs H2=>r x xs H2 Q
variable {o e:Expr}{es:List Expr}{to:TE}{t:TA}{name:Str}{apos cpos:Pos}{T id:String}{r:V→List V→Hp→VK→Prop}
theorem K51(pa:PlainAttrs T)(slot:Slot T name id)(hty:typeOf (.builtin id)=pure (.type "method_descriptor"))(hm:MtR X id r)(ho:PE X o to)(ha:PA X (e::es) t)
  (hbase:attributeBase o name X.env (eval o X.env)=eval o X.env:=by rfl)
  (hfew:((backTo cpos (starEach (e::es) X.env)).all (λx=>!x.1)&&(backToKw cpos (keywordEach [] X.env)).all (λx=>x.1.isSome)
   &&decide ((e::es).length + ([]:List Keyword).length + (if ([]:List Keyword).isEmpty then 0 else 1) < 30))=true:=by rfl)
  (hline:(apos.endLine == cpos.line)=true:=by rfl) (hs:starEach (e::es) X.env=(false,eval e X.env)::starEach es X.env:=by rfl) (hplain:(backTo cpos (starEach es X.env)).any (·.1)=false:=by rfl) :
  PE X (.Call (.Attribute o name apos) (e::es) [] cpos) (tBM X.K T r to t):=by
 intro pins s σ H Q I h
 refine wpAny_Call_method_late hbase hfew hline rfl (thn (ho pins s σ H _ I h) λv s1 ⟨x,H1,I1,r1,ty,q1⟩=>?_)
 obtain⟨h1,h2⟩:=Z11 I1 r1 ty
 refine⟨T,id,pa,slot,hty,h1,h2,?_⟩
 have hA:=ha cpos pins s1 σ H1 _ I1 q1
 rw[hs] at hA ⊢
 refine Calls.callWith_builtin (by show(false || (backTo cpos (starEach es X.env)).any (·.1))=false;rw[hplain] <;> rfl) (Calls.evalArgs_plain ?_)
 exact thn hA λus s2 ⟨vs,H2,I2,r2,q2⟩=>hm pins s2 σ H2 x vs v us Q I2 r1 r2 q2
/- xs.append(e),list.index on a module's tuple .. are MtR facts of 06m -/
end
end L2
namespace L2
open PySem PySem.Spec PyProof.Rows
noncomputable def MtM(X:Cx)(id:String)(r:V→List V→Hp→VK→Prop):Prop :=
 ∀ (pins:List (Addr × Obj)) (s:Shared) (σ:St) (H:Hp) (x:V) (xs:List V) (v:Value) (us:List Value) (Q:VK),Inv X pins σ H s→RelV x v→Vals xs us→r x xs H Q →
  wpAny (model X.prog X.w) X.A (call (.builtin id) (v::us)) (EP X pins σ Q) X.xe s
theorem Vals.one:∀ {x:V}{us:List Value},Vals [x] us→∃ u,us=[u]∧RelV x u
 |_,_,.cons r .nil=>⟨_,rfl,r⟩
theorem Vals.eraseIdx:∀ {xs:List V}{us:List Value} (i:Nat),Vals xs us→Vals (xs.eraseIdx i) (us.eraseIdx i)
 |_,_,_,.nil=>.nil
 |_,_,0,.cons _ t=>t
 |_,_,i + 1,.cons r t=>.cons r (Vals.eraseIdx i t)
theorem Vals.reverse{xs:List V}{us:List Value}(h:Vals xs us):Vals xs.reverse us.reverse:=by
 induction h with
 |nil=>exact .nil
 |cons r t ih=>rw[List.reverse_cons,List.reverse_cons];exact Vals.append ih (.cons r .nil)
theorem Vals.rep{xs:List V}{us:List Value}(h:Vals xs us):∀ k:Nat,Vals (List.replicate k xs).flatten (List.replicate k us).flatten
 |0=>.nil
 |k + 1=>by
  rw[List.replicate_succ,List.replicate_succ,List.flatten_cons,List.flatten_cons]
  exact Vals.append h (Vals.rep h k)
theorem M80{α:Type}:∀ (l:List α) (i:Nat),(l.eraseIdx i).length≤l.length
 |[],_=>Nat.le_refl _
 |_::_,0=>Nat.le_succ _
 |_::r,i + 1=>Nat.succ_le_succ (M80 r i)
theorem foldl_rep(its:List Value):∀ (k:Nat) (acc:List Value),
  List.foldl (λx1 x2=>x1++x2) acc.toArray (List.replicate k its.toArray)=(acc++(List.replicate k its).flatten).toArray
 |0,acc=>by simp
 |k + 1,acc=>by
  have e:acc.toArray++its.toArray=(acc++its).toArray:=by simp
  have e2:(acc++its)++(List.replicate k its).flatten=acc++(List.replicate (k + 1) its).flatten:=by
   rw[List.replicate_succ,List.flatten_cons,List.append_assoc]
  rw[← e2,← foldl_rep its k (acc++its),← e,List.replicate_succ,List.foldl_cons]
section
variable {X:Cx}{pins:List (Addr × Obj)}{σ:St}{H:Hp}{s:Shared}{l b:Addr}{xs ys zs:List V}
theorem Inv.k02{its its':List Value}{n:Nat}{f:Array Value→Array Value}{t':Nat}(I:Inv X pins σ H s)(hH:H l=some (.lst xs))
  (e:s.heap.get? l=some { cls:=.type "list",data:=.seq its.toArray n }) (hf:f its.toArray=its'.toArray) (hv:Vals ys its') (hz:ys.length≤sizeLine) :
  Inv X pins σ (upd H l (.lst ys)) { s with heap:=s.heap.update l (Obj.mapSeq f),toks:=t' }:=by
 have q:=PySem.IsL.update e f
 rw[hf] at q
 refine I.write (x:=l) (e:=l) (by rw[hH];exact trivial) (.inl rfl) (λb' u hb hu=>(Heap.get?_update_other s.heap (Obj.mapSeq f) (Ne.symm hb)).trans hu) ⟨_,q⟩ ?_
 exact⟨hz,its',_,hv,q⟩
theorem Inv.w12{its:List Value}{t':Nat}(I:Inv X pins σ H s)(hv:Vals ys its)(hz:ys.length≤sizeLine) :
  Inv X pins σ (upd H s.heap.objs.size (.lst ys)) { s with heap:=s.heap.push { cls:=.type "list",data:=.seq its.toArray },toks:=t' } :=
 I.laid (λ_ _ q=>Heap.get?_push_of_some _ q) (Nat.le_refl _) ⟨hz,its,0,hv,Heap.get?_push_size _ rfl⟩
theorem Inv.fresh(I:Inv X pins σ H s):H s.heap.objs.size=none:=I.hok.fresh (Nat.le_refl _)
theorem Inv.n82(I:Inv X pins σ H s)(hH:H l=some (.lst xs)):xs.length≤sizeLine∧∃ (its:List Value) (n:Nat),Vals xs its∧xs.length=its.length∧s.heap.get? l=some { cls:=.type "list",data:=.seq its.toArray n }:=by
 obtain⟨z,its,n,r,e⟩:=I.hok l _ hH
 exact⟨z,its,n,r,r.length,e⟩
theorem y51{n:Nat}(h:n≤sizeLine):Builtin.List.listTooLong n=false:=by
 unfold Builtin.List.listTooLong
 exact decide_eq_false (by omega)
end
section
variable {X:Cx}
noncomputable def k41:V→List V→Hp→VK→Prop:=λx vs H Q=>∃ l xs y,x=.ref l∧vs=[y]∧H l=some (.lst xs)∧xs.length < sizeLine∧Q .non (upd H l (.lst (xs++[y])))
theorem M90:MtM X "list.append" k41:=by
 intro pins s σ H x vs v us Q I rx rv h
 obtain⟨l,xs,y,rfl,rfl,hH,hz,q⟩:=h
 cases rx
 obtain⟨u,rfl,ru⟩:=rv.one
 obtain⟨z,its,n,r,hl,e⟩:=I.n82 hH
 refine call_meets F.slot_list_append ⟨_,e,rfl⟩ F.entry_list_append (F.args_list_append_2 _ _) (PySem.list_append l its.toArray n u (by rw[List.size_toArray];omega)) ⟨e,?_⟩
 refine⟨.non,_,I.k02 (its':=its++[u]) hH e (by simp) (r.append (.cons ru .nil)) ?_,rfl,q⟩
 rw[List.length_append,List.length_singleton]
 omega
noncomputable def F61:V→List V→Hp→VK→Prop:=λx vs H Q=>∃ l xs i k y,x=.ref l∧vs=[.int i]∧H l=some (.lst xs)∧-(2 ^ 63)≤i∧i < 2 ^ 63∧seqIndex? i xs.length=some k∧xs[k]?=some y∧Q y (upd H l (.lst (xs.eraseIdx k)))
theorem y61:MtM X "list.pop" F61:=by
 intro pins s σ H x vs v us Q I rx rv h
 obtain⟨l,xs,i,k,y,rfl,rfl,hH,h1,h2,hk,hy,q⟩:=h
 cases rx
 obtain⟨u,rfl,ru⟩:=rv.one
 obtain⟨t,rfl⟩:=ru
 obtain⟨z,its,n,r,hl,e⟩:=I.n82 hH
 obtain⟨w,hw,rw'⟩:=r.get hy
 refine call_meets F.slot_list_pop ⟨_,e,rfl⟩ F.entry_list_pop (F.args_list_pop_2 _ _)
  (MeetsSeq.list_pop_at l its.toArray n i t k w (fitsIndex_both h1 h2) (by rw[List.size_toArray,← hl];exact hk) (by rw[← Array.getElem?_toList];exact hw) (by rw[List.size_toArray];omega)) ⟨e,?_⟩
 refine⟨y,_,I.k02 (its':=its.eraseIdx k) hH e ?_ (r.eraseIdx k) ?_,rw',q⟩
 ·show its.toArray.eraseIdxIfInBounds k=(its.eraseIdx k).toArray
  rw[List.eraseIdxIfInBounds_toArray]
 ·have:=M80 xs k
  omega
theorem len_rep{α:Type}(xs:List α)(k:Nat):(List.replicate k xs).flatten.length=k * xs.length:=by
 induction k with
 |zero=>simp
 |succ k ih=>rw[List.replicate_succ,List.flatten_cons,List.length_append,ih,Nat.succ_mul,Nat.add_comm]
end
section
variable {prog:Program}{w:World}{A:Around}{E:Value→Shared→Prop}{s:Shared}
end
section
variable {X:Cx}
end
end L2
namespace Att
open PySem PySem.W PySem.Calls PyProof.Rows
theorem A20{P:Params}{h:Heap}:∀ (ns:List Int) (vs:List Value),WellAll P h vs (ns.map WData.int)→IntsAre vs ns:=by
 intro ns
 induction ns with
 |nil =>
  intro vs w
  rw[List.map_nil] at w
  cases w
  exact .nil
 |cons n ns ih =>
  intro vs w
  rw[List.map_cons] at w
  cases w with
  |cons a b =>
   cases a
   exact .cons _ _ (ih _ b)
theorem k51{l:OpenLaw}{n:Nat}(hn:l.most=some n){P:Params}{h:Heap}{args:List WData}{vals:List Value}
  (hpre:l.row.toRowW.claim.pre args=true) (hwl:WellAll P h vals args) :
  ∃ a vs ns,vals=[Value.ref a]∧args=[WData.list (ns.map WData.int)]∧h.get? a=some { cls:=.type "list",data:=.seq vs.toArray }∧IntsAre vs ns∧ns.length≤n:=by
 have hsh:WShape.hasAll [] args [.list .int]=true:=(pre_splitW hpre).1
 have hc:l.pre.holds [] { args:=args }=true:=(pre_splitW hpre).2
 obtain⟨d,r,rfl,h1,h2⟩:=hasAllW_cons hsh
 obtain rfl:=hasAllW_nil h2
 obtain⟨xs,rfl,h3⟩:=hasW_list h1
 obtain⟨ns,rfl⟩:=items_int h3
 have hlen:ns.length≤n:=by
  unfold OpenLaw.pre at hc
  have h4:(WTm.not (.lt (.lit (.int (n:Int))) (.len (.arg 0)))).holds [] { args:=[.list (ns.map .int)] }=true:=by
   have h4:=(holds_andW hc).1
   rw[hn] at h4
   exact h4
  have h5:=condW_of h4 (w_not (w_lt w_lit (w_len_list (w_arg rfl))))
  rw[List.length_map] at h5
  refine Nat.le_of_not_lt λq=>?_
  have q':(n:Int) < ((ns.length:Nat):Int):=by omega
  first
   |(rw[decide_eq_true q'] at h5;exact absurd h5 (by decide))
   |(simp at h5;omega)
 cases hwl with
 |cons w1 w2 =>
  cases w2
  cases w1 with
  |list ho hall=>exact⟨_,_,ns,rfl,rfl,ho,A20 ns _ hall,hlen⟩
theorem k61(l:OpenLaw)(args:List WData):l.row.toRowW.claim.post args (.bool true) args=true :=
 postW_of (r:=l.row.toRowW) (X:=(true == true))
  (show WShape.has [] (.bool true) .bool=true by first | rfl | decide | simp[WShape.has,WShape.arms,WShape.armsAll])
  (show(WTm.eq .res (.lit (.bool true))).value [] { args:=args,res:=some (.bool true),after:=args }=some (.bool (true == true)) from w_eq_bool (w_res rfl) w_lit) rfl
theorem T00{l:OpenLaw}{n:Nat}{q:Program}{loose:List Str}{XP:(Str→Option Value)→Heap→Prop}{YP:World→Heap→Prop}{d:DefRec}
  (hn:l.most=some n) (hdf:d.params.defaults=[])
  (call:∀ (w:World) (s₀ s₁:Shared) (mg mb:Str→Option Value) (fa:Addr) (o:Obj) (pm cd doc:Value) (a:Addr) (vs:List Value) (ns:List Int),
   Ground q loose [] XP w s₀ mg mb s₁.heap→YP w s₁.heap →
   s₁.heap.get? fa=some o→o.data=.func (docDef d.name d.params d.body d.scope pm cd doc)→s₁.heap.CodeRec cd d.name→mg d.name=some (.ref fa) →
   s₁.heap.get? a=some { cls:=.type "list",data:=.seq vs.toArray }→IntsAre vs ns→ns.length≤n→s₁.gens=#[] →
   codeAny (model l.prog w) callerA (.call (.ref fa) ⟨[.ref a],[]⟩) (λr s'=>r=.ok (.ret (.bool true))∧OldK s₁.heap s'.heap∧s'.os=s₁.os∧AllBare s'.gens) s₁) :
  WalkO q loose XP YP l.row.toRowW d [] (λf vs=>PySem.call f vs):=by
 intro w s₀ s₁ mg mb G Y fa o pm cd doc dV kV ho hd hcd hD hmg hg args vals as hpre hlay hrd hwl hlo
 obtain rfl:dV=.none:=Dflts.none hD hdf
 obtain rfl:kV=.none:=Dflts.noKw hD
 obtain⟨a,vs,ns,rfl,rfl,hobj,hints,hlen⟩:=k51 hn hpre hwl
 refine enter_call (codeAny_mono (call w s₀ s₁ mg mb fa o pm cd doc a vs ns G Y ho (fd_plain hd) hcd hmg hobj hints hlen hg) λr s' hq=>?_)
 obtain⟨rfl,h2,h3,h4⟩:=hq
 exact⟨.inl ⟨.bool true,.bool true,[],rfl,λ_=>rfl,.bool true,k61 l _,λ_=>⟨List.Pairwise.nil,λ_ hm=>(nomatch hm)⟩⟩,h2,h3,h4⟩
section
variable {prog:Program}{w:World}{A:Around}{E:Value→Shared→Prop}{s:Shared}{K:Frag}
end
end Att
namespace L2
open PySem PySem.Spec PyProof.Rows
theorem N00:∀ {vs:List Value}{ns:List Int},IntsAre vs ns→Vals (ns.map V.int) vs
 |_,_,.nil=>.nil
 |_,_,.cons n t h=>.cons ⟨t,rfl⟩ (N00 h)
end L2
namespace L2
open PySem PySem.Spec PyProof.Rows
end L2
/- THE LAST THEOREM (shape;LID,My.* are yours):
  My.Adr: a structure of the addresses that your layer names (classes,functions);My.Txt K t: a structure (Prop) of the equations over K;
  My.txt_mk:{K}{implicit addresses ..} (e1:nsIn K mainGlobals "law"=some (some (.ref f))) (e2:K.lookup f=some ⟨oc,od,.func (fnOf "law" "law" params body scope dV kV doc pm an cdv ct),sl⟩) (e3:codeIn K cdv "law"=true) ..:∃ t,My.Txt K t
set_option maxRecDepth 100000 in
set_option maxHeartbeats 0 in
theorem PySem.Challenge.cw_LID_holds : PySem.Challenge.rw_LID.Holds := by
 w_on;o_law;k_head;(case hw=>w_witness2)
 k_fill
 refine L2.walk_of (l:=PySem.Challenge.rw_LID) (n:=63) (k:=40) (x:="script") (CX:=λw=>..) (sp:=λ_=>My.sp_law) rfl (by decide) rfl ⟨rfl,by decide,by decide⟩ (λw h Y=>PySem.W.kIn_of Y) ?F ?S ?C
 case F =>
  intro w mg fa h KX G hmg
  have T:∃ t,My.Txt (L2.KOf KX) t:=by
   dsimp only [L2.KOf]                          -- K must stand as «<heap const> w.params» for k_is
   refine' My.txt_mk ?e1 ?e2 ?e3 ..
   (case e1=>PySem.W.k_is)                    -- in the order: a name -> its address -> its object -> its parts
   (case e2=>PySem.W.k_is)
   ..
  obtain⟨t,T⟩:=T
  have e0:=hmg.symm.trans (PySem.W.mg_of KX G T.law)
  cases e0                                       -- fa is the law's own address
  exact⟨_,λs u=>.of_eq rfl,λbase kb nb=>My.law_fn T kb nb⟩     -- if «.of_eq rfl» comes too early: refine' ⟨_,?b,λbase kb nb=>My.law_fn T kb nb⟩;exact λs u=>.of_eq rfl
 case S=>exact λw H a ns hl hO hS=>..
 case C=>exact ..
(the tactic k_is has no namespace: write k_is) -/
namespace L2
open PySem PySem.Spec PyProof.Rows
noncomputable def G30(s:Stmt):Arguments:=match s with
 |.FunctionDef _ a _ _ _ _ _ _ _ _=>a
 |_=>{ posonlyargs:=[],args:=[],vararg:=none,kwonlyargs:=[],kw_defaults:=[],kwarg:=none,defaults:=[] }
noncomputable def n10(s:Stmt):List Stmt:=match s with
 |.FunctionDef _ _ b _ _ _ _ _ _ _=>b
 |_=>[]
noncomputable def b80(s:Stmt):Scope:=match s with
 |.FunctionDef _ _ _ _ _ _ sc _ _ _=>sc
 |_=>{ kind:=.function,names:=[],isGenerator:=false,isCoroutine:=false }
noncomputable abbrev CX0:CXT:=λ_ _ _ _ _ _=>False
structure Fun(K:PySem.W.Frag)(x qual:Str)(st:Stmt)(f:Addr)(fd:FuncData):Prop where
 ex:∃ (oc:Value) (od:Option Addr) (kV doc pm:Value) (an:Option Addr) (cdv ct:Value) (osl:Array (Option Value)),
  fd=PySem.W.fnOf x qual (G30 st) (n10 st) (b80 st) .none kV doc pm an cdv ct∧K.lookup f=some ⟨oc,od,.func fd,osl⟩∧PySem.W.codeIn K cdv qual=true
 kp:PySem.W.keepIn K (.ref f)=true
section
variable {P:Program}{w:World}{K:PySem.W.Frag}{mg:Str→Option Value}{base:Heap}
theorem Fun.binds{x qual:Str}{st:Stmt}{f:Addr}{fd:FuncData}{ps:List Str}(F:Fun K x qual st f fd)
  (h:∀ (kV doc pm:Value) (an:Option Addr) (cdv ct:Value) (us:List Value),us.length=ps.length→bindArgs (PySem.W.fnOf x qual (G30 st) (n10 st) (b80 st) .none kV doc pm an cdv ct) ⟨us,[]⟩=pure (ps.zip us)):Binds K fd ps []:=by
 obtain⟨oc,od,kV,doc,pm,an,cdv,ct,osl,rfl,lk,hcd⟩:=F.ex
 exact .all (h kV doc pm an cdv ct)
end
section
variable {X:Cx}
end
noncomputable def a30(H H':Hp):Prop:=∀ b o,H b=some o→H' b=some o
theorem a30.refl(H:Hp):a30 H H:=λ_ _ h=>h
theorem a30.trans{H H1 H2:Hp}(a:a30 H H1)(b:a30 H1 H2):a30 H H2:=λc o h=>b c o (a c o h)
end L2
set_option maxHeartbeats 4000000
namespace L2
open PySem
noncomputable abbrev NoX:Value→Shared→Prop:=λ_ _=>False
theorem T10(env:Env):∀ (names:List (Str × NameKind)) (acc:List (Str × Addr)),(∀ y∈names,y.2=.free→∃ c,env.cells.lookup y.1=some c)→(∀ x c,acc.lookup x=some c→env.cells.lookup x=some c) →
  ∃ cl:List (Str × Addr),(forIn names acc λ(x:Str × NameKind) (r:List (Str × Addr))=>(if (x.2 == .free)=true then do let c ← cellOf env x.1;pure (ForInStep.yield ((x.1,c)::r)) else pure (ForInStep.yield r):Sem (ForInStep (List (Str × Addr)))))=pure cl ∧
   (∀ x c,cl.lookup x=some c→env.cells.lookup x=some c)∧(∀ x c,acc.lookup x=some c→∃ c',cl.lookup x=some c')∧(∀ y∈names,y.2=.free→∃ c,cl.lookup y.1=some c)
 |[],acc,_,ha=>⟨acc,by simp,ha,λx c e=>⟨c,e⟩,λy hy=>absurd hy (by simp)⟩
 |(n,k)::r,acc,hf,ha=>by
  by_cases hk:k=.free
  ·subst hk
   obtain⟨c,hc⟩:=hf (n,.free) List.mem_cons_self rfl
   have hcell:cellOf env n=pure c:=by unfold cellOf;rw[hc]
   obtain⟨cl,e,h1,h2,h3⟩:=T10 env r ((n,c)::acc) (λy hy=>hf y (List.mem_cons_of_mem _ hy)) (λx c' e=>by
    rw[List.lookup_cons] at e
    by_cases hx:(x == n)=true
    ·rw[hx] at e
     have:x=n:=by simpa using hx
     subst this
     cases e
     exact hc
    ·rw[show(x == n)=false by simpa using hx] at e
     exact ha x c' e)
   refine⟨cl,?_,h1,λx c' e'=>?_,λy hy hyk=>?_⟩
   ·rw[List.forIn_cons]
    simp only[beq_self_eq_true,if_true,hcell,pure_bind]
    exact e
   ·by_cases hx:(x == n)=true
    ·exact h2 x c (by rw[List.lookup_cons,hx])
    ·exact h2 x c' (by rw[List.lookup_cons,show(x == n)=false by simpa using hx];exact e')
   ·rcases List.mem_cons.mp hy with rfl | hy
    ·exact h2 n c (by simp[List.lookup_cons])
    ·exact h3 y hy hyk
  ·obtain⟨cl,e,h1,h2,h3⟩:=T10 env r acc (λy hy=>hf y (List.mem_cons_of_mem _ hy)) ha
   refine⟨cl,?_,h1,h2,λy hy hyk=>?_⟩
   ·rw[List.forIn_cons]
    have hb:((k == NameKind.free)=true)=False:=by simpa using hk
    simp only[hb,if_false,pure_bind]
    exact e
   ·rcases List.mem_cons.mp hy with rfl | hy
    ·exact absurd hyk hk
    ·exact h3 y hy hyk
theorem k71{scope:Scope}{env:Env}(hf:∀ y∈scope.names,y.2=.free→∃ c,env.cells.lookup y.1=some c) :
  ∃ cl:List (Str × Addr),closureFor scope env=pure cl∧(∀ x c,cl.lookup x=some c→env.cells.lookup x=some c)∧(∀ y∈scope.names,y.2=.free→∃ c,cl.lookup y.1=some c):=by
 obtain⟨cl,e,h1,_,h3⟩:=T10 env scope.names [] hf (λx c e=>by simp at e)
 refine⟨cl,?_,h1,h3⟩
 simp only[closureFor]
 exact(congrArg (λt=>t >>= λr=>(pure r:Sem _)) e).trans (by simp)
section
variable {P:Program}{w:World}{A:Around}{R:Result→Shared→Prop}{s:Shared}
theorem k81{el tg src:Expr}{tests:List Expr}{sc:Scope}{ps:Pos}{itv av:Value}{en:Env}(J:Nat→Shared→Prop)
  (turn:∀ n s,J n s→wpAny (model P w) A (pyNext itv) (λr s1=>match r with
   |none=>R (.ok .next) s1
   |some v=>wpAny (model P w) A (letOwnedTupleGo tg itv v) (λ_ s2=>wpAny (model P w) A (assign tg en v) (λ_ s3 =>
     wpAny (model P w) A (forIn tests true λc r=>if r=true then do let ok ← isTrue c en (eval c en);pure (ForInStep.yield ok) else pure (ForInStep.yield r)) (λok s4 =>
      if ok=true then wpAny (model P w) A (eval el en) (λx s5 =>
       wpAny (model P w) A (call (.builtin "list.append") [av,x]) (λ_ s6=>∃ m,m < n∧J m s6) NoX s5) NoX s4
      else ∃ m,m < n∧J m s4) NoX s3) NoX s2) NoX s1) NoX s)
  (n:Nat) (h:J n s) :
  codeAny (model P w) A (.compLoop (.ListComp el [⟨tg,src,tests,0⟩] sc ps) 0 itv av en) R s:=by
 refine codeAny_loop rfl J (λn s hI=>?_) n h
 show wpAny _ A ((compTurn (.ListComp el [⟨tg,src,tests,0⟩] sc ps) 0 itv av en).onRaise (λx=>do noteFrame x en;theTreesLotGoes x)) _ _ s
 refine wpAny_noted ?_
 rw[compTurn_list]
 refine wpAny_bind (wpAny_standAt (wpAny_bind (wpAny_mono (turn n s hI) (λr s1 h1=>?_) λ_ _ x=>x.elim)))
 cases r with
 |none=>exact wpAny_pure h1
 |some v =>
  refine wpAny_bind (wpAny_mono h1 (λ_ s2 h2=>?_) λ_ _ x=>x.elim)
  refine wpAny_bind (wpAny_mono h2 (λ_ s3 h3=>wpAny_bind (wpAny_mono h3 (λok s4 h4=>?_) λ_ _ x=>x.elim)) λ_ _ x=>x.elim)
  cases ok with
  |false=>exact wpAny_pure ⟨rfl,h4⟩
  |true=>exact wpAny_bind (wpAny_bind (wpAny_mono h4 (λx s5 h5=>wpAny_bind (wpAny_mono h5 (λ_ s6 h6=>wpAny_pure (wpAny_pure ⟨rfl,h6⟩)) λ_ _ x=>x.elim)) λ_ _ x=>x.elim))
end
end L2
namespace L2
open PySem PySem.Spec PyProof.Rows
noncomputable abbrev b70(X:Cx)(N':List Str)(sc:Scope)(cl:List (Str × Addr))(C:Addr)(s:Shared)(H:Hp)(fp:List Addr):Cx :=
 { X with N:=N',s₀:=s,H₀:=H,env:=compEnvC sc cl C X.env,outer:=X.stack,stack:=X.stack,ex:=fp,fn:=λ_=>false,pn:=[],xe:=NoX }
noncomputable def d30(own:List Str)(capt:List (Str × Nat)):List Str:=own++capt.map (·.1)
noncomputable def q50(own:List Str)(capt:List (Str × Nat))(σ:St):St:=own.map (λ_=>none)++capt.map λp=>(σ[p.2]?).getD none
structure D70(X:Cx)(sc:Scope)(own:List Str)(capt:List (Str × Nat)):Prop where
 kind:sc.kind=.function
 nocell:∀ y∈sc.names,y.2≠.cell
 locs:∀ y∈sc.names,y.2=.local→sc.names.lookup y.1=some .local
 frees:∀ y∈sc.names,y.2=.free→X.env.kindOf y.1=some .cell∨X.env.kindOf y.1=some .free
 captd:∀ p∈capt,X.N[p.2]?=some p.1∧sc.names.lookup p.1=some .free
theorem G40{env:Env}:∀ {names:List (Str × NameKind)}{x:Str}{k:NameKind},
  (names.map λ(n,k)=>if (k == NameKind.free&&env.scope.kind == .function&&env.kindOf n == some .cell) then(n,NameKind.cell) else(n,k)).lookup x=some k→(k=.cell∨k=.free)→(∀ y∈names,y.2≠.cell)→(x,NameKind.free)∈names
 |[],_,_,h,_,_=>by simp at h
 |(n,k0)::r,x,k,h,hk,hn=>by
  have h:List.lookup x ((if (k0 == NameKind.free&&env.scope.kind == .function&&env.kindOf n == some .cell)=true then(n,NameKind.cell) else(n,k0))::_)=some k:=h
  have hn0:k0≠.cell:=hn (n,k0) List.mem_cons_self
  cases hx:x == n with
  |true =>
   have e:x=n:=by simpa using hx
   subst e
   by_cases hc:(k0 == NameKind.free&&env.scope.kind == .function&&env.kindOf x == some .cell)=true
   ·have:k0=.free:=by
     cases k0 <;> simp_all
    subst this
    exact List.mem_cons_self
   ·rw[if_neg hc] at h
    simp only[List.lookup_cons,hx] at h
    cases h
    rcases hk with hk | hk
    ·exact absurd hk hn0
    ·subst hk;exact List.mem_cons_self
  |false =>
   have h':(r.map λ(n,k)=>if (k == NameKind.free&&env.scope.kind == .function&&env.kindOf n == some .cell) then(n,NameKind.cell) else(n,k)).lookup x=some k:=by
    by_cases hc:(k0 == NameKind.free&&env.scope.kind == .function&&env.kindOf n == some .cell)=true
    ·rw[if_pos hc] at h;simp only[List.lookup_cons,hx] at h;exact h
    ·rw[if_neg hc] at h;simp only[List.lookup_cons,hx] at h;exact h
   exact List.mem_cons_of_mem _ (G40 h' hk λy hy=>hn y (List.mem_cons_of_mem _ hy))
theorem o80{env:Env}:∀ {names:List (Str × NameKind)}{x:Str},names.lookup x=some .free →
  (names.map λ(n,k)=>if (k == NameKind.free&&env.scope.kind == .function&&env.kindOf n == some .cell) then(n,NameKind.cell) else(n,k)).lookup x=some .cell ∨
  (names.map λ(n,k)=>if (k == NameKind.free&&env.scope.kind == .function&&env.kindOf n == some .cell) then(n,NameKind.cell) else(n,k)).lookup x=some .free
 |[],_,h=>by simp at h
 |(n,k)::r,x,h=>by
  have ih:=@o80 env r x
  show List.lookup x ((if (k == NameKind.free&&env.scope.kind == .function&&env.kindOf n == some .cell)=true then(n,NameKind.cell) else(n,k))::_)=_∨List.lookup x ((if (k == NameKind.free&&env.scope.kind == .function&&env.kindOf n == some .cell)=true then(n,NameKind.cell) else(n,k))::_)=_
  cases hx:x == n with
  |true =>
   simp only[List.lookup_cons,hx] at h
   cases h
   by_cases hc:(NameKind.free == NameKind.free&&env.scope.kind == .function&&env.kindOf n == some .cell)=true
   ·rw[if_pos hc];left;simp only[List.lookup_cons,hx]
   ·rw[if_neg hc];right;simp only[List.lookup_cons,hx]
  |false =>
   simp only[List.lookup_cons,hx] at h
   by_cases hc:(k == NameKind.free&&env.scope.kind == .function&&env.kindOf n == some .cell)=true
   ·rw[if_pos hc];simp only[List.lookup_cons,hx];exact ih h
   ·rw[if_neg hc];simp only[List.lookup_cons,hx];exact ih h
theorem HOk.y71{P:Program}{w:World}{H:Hp}{h:Heap}{D:Addr}{ys:List V}{its:List Value}{n:Nat}(x:HOk P w H h)(hn:H D=none)(hv:Vals ys its)(hz:ys.length≤sizeLine)
  (ho:h.get? D=some { cls:=.type "list",data:=.seq its.toArray n }):HOk P w (upd H D (.lst ys)) h:=λb u e=>by
 by_cases hb:b=D
 ·subst hb;rw[c30] at e;cases e;exact⟨hz,its,n,hv,ho⟩
 ·rw[a50 hb] at e
  exact(x b u e).x21 (λc v _ q=>q) (λc q=>by rw[a50 (b30 q hn)];exact q) λc xs q=>by rw[a50 (b30 q hn)];exact q
noncomputable def PTs(X:Cx)(tests:List Expr)(t:TT):Prop :=
 ∀ (pins:List (Addr × Obj)) (s:Shared) (σ:St) (H:Hp) (Q:Bool→Hp→Prop),Inv X pins σ H s→t σ H Q →
  wpAny (model X.prog X.w) X.A (forIn tests true λc r=>if r=true then do let ok ← isTrue c X.env (eval c X.env);pure (ForInStep.yield ok) else pure (ForInStep.yield r)) (TP X pins σ Q) X.xe s
noncomputable def y81:TT:=λ_ H Q=>Q true H
theorem K61{X:Cx}:PTs X [] y81:=λ_ _ _ H _ I h=>wpAny_tests_nil ⟨H,I,h⟩
theorem K71{X:Cx}{c:Expr}{t:TT}(hc:PT X c t):PTs X [c] t:=λpins s σ H Q I h=>wpAny_tests_one (hc pins s σ H Q I h)
section
variable {X:Cx}{pins:List (Addr × Obj)}{σ:St}{H2:Hp}{s2:Shared}{sc:Scope}{own:List Str}{capt:List (Str × Nat)}{cl:List (Str × Addr)}{fp:List Addr}{C:Addr}
theorem N10(I:Inv X pins σ H2 s2)(S:D70 X sc own capt)(hcl:∀ x c,cl.lookup x=some c→X.env.cells.lookup x=some c)(hcf:∀ y∈sc.names,y.2=.free→∃ c,cl.lookup y.1=some c)
  (hx:∀ x c,X.env.cells.lookup x=some c→c ∉ fp) {h':Heap} (un:∀ c o,s2.heap.get? c=some o→H2 c=none→c ∉ fp→∃ sl,h'.get? c=some { o with slots:=sl }) (m:Str→Option Value) :
  ∀ (i:Nat) (x:Str) (v:V),(d30 own capt)[i]?=some x→(q50 own capt σ)[i]?=some (some v)→∃ u,RelV v u∧Look (compEnvC sc cl C X.env) h' m x u:=by
 intro i x v e1 e2
 unfold d30 at e1
 unfold q50 at e2
 by_cases hi:i < own.length
 ·rw[List.getElem?_append_left (by simpa using hi),List.getElem?_map] at e2
  cases q:own[i]? with
  |none=>rw[q] at e2;cases e2
  |some y=>rw[q] at e2;cases e2
 ·rw[List.getElem?_append_right (by simpa using hi),List.length_map,List.getElem?_map] at e2
  rw[List.getElem?_append_right (by simpa using hi),List.getElem?_map] at e1
  cases q:capt[i - own.length]? with
  |none=>rw[q] at e1;cases e1
  |some p =>
   rw[q] at e1 e2
   obtain rfl:p.1=x:=Option.some.inj e1
   have e3:(σ[p.2]?).getD none=some v:=Option.some.inj e2
   have e4:σ[p.2]?=some (some v):=by
    cases z:σ[p.2]? with
    |none=>rw[z] at e3;cases e3
    |some w=>rw[z] at e3;exact congrArg some e3
   obtain⟨hN,hf⟩:=S.captd p (List.mem_of_getElem? q)
   have hmem:(p.1,NameKind.free)∈sc.names:=PySem.mem_of_lookup hf
   have hk:=S.frees _ hmem rfl
   obtain⟨m0,_,hl⟩:=I.loc
   have vis:Vis X.env.scope p.1:=.inr hk
   obtain⟨u,r,lk⟩:=hl p.2 p.1 v hN e4 vis
   refine⟨u,r,.inr ⟨?_,?_⟩⟩
   ·exact o80 hf
   ·rcases lk with ⟨hl0,_⟩ | ⟨_,c,hc,o,ho,hd⟩
    ·rcases hk with hk | hk <;> (rw[hk] at hl0;cases hl0)
    ·obtain⟨c',hc'⟩:=hcf _ hmem rfl
     have:=hcl _ _ hc'
     rw[hc] at this
     cases this
     obtain⟨sl,q'⟩:=un c o ho (I.freeC _ _ hc) (hx _ _ hc)
     exact⟨c,hc',_,q',hd⟩
end
end L2
namespace L2
open PySem PySem.Spec PyProof.Rows
noncomputable def K81(X:Cx)(pins:List (Addr × Obj))(σ:St)(R:V→Hp→Prop)(acc:Value)(C:Addr)(s':Shared):Prop :=
 ∃ D H' m',acc=.ref D∧Inv X pins σ H' s'∧e81 X pins H' C∧s'.heap.Ns C m'∧R (.ref D) H'
noncomputable def K91(J:It)(σ0:St)(H1:Hp)(g:TG)(tt:TT)(te:TE)(Q:VK):Prop:=∃ W:Nat→Nat→List V→Hp→Prop,(∃ m,W 0 m [] H1)∧∀ i m ys H,W i m ys H →
 (J.stop i H∧∀ p,H p=none→Q (.ref p) (upd H p (.lst ys))) ∨
 (J.go i H∧ys.length < sizeLine∧∃ N:List V→Hp→Prop,(∀ zs H',N zs H'→∃ m',m' < m∧W (i + 1) m' zs H')∧∀ x H',J.yld i H x H'→g x σ0 H' λσ2 H2=>tt σ2 H2 λb H3 =>
  if b=true then te σ2 H3 (λy H4=>N (ys++[y]) H4) else N ys H3)
noncomputable def L01(own:List Str)(capt:List (Str × Nat))(wi:TI)(g:TG)(tt:TT)(te:TE):TE:=λσ H Q=>wi σ H λJ H1=>K91 J (q50 own capt σ) H1 g tt te Q
section
variable {X:Cx}{pins:List (Addr × Obj)}{σ:St}{H2:Hp}{s2:Shared}{sc:Scope}{own:List Str}{capt:List (Str × Nat)}{cl:List (Str × Addr)}{el tg src:Expr}{tests:List Expr}{ps:Pos}{g:TG}{tt:TT}{te:TE}
theorem D80(hc:X.calm=true)(S:D70 X sc own capt)(hcl:∀ x c,cl.lookup x=some c→X.env.cells.lookup x=some c)(hcf:∀ y∈sc.names,y.2=.free→∃ c,cl.lookup y.1=some c)
  (hg:∀ C s H fp,PG (b70 X (d30 own capt) sc cl C s H fp) tg g) (ht:∀ C s H fp,PTs (b70 X (d30 own capt) sc cl C s H fp) tests tt) (he:∀ C s H fp,PE (b70 X (d30 own capt) sc cl C s H fp) el te)
  {it:Addr}{fp:List Addr}{tn:Nat→Heap→Prop}{J:It} (I2:Inv X pins σ H2 s2) (T:Turn X.prog X.w X.K tg J fp it tn) (st2:tn 0 s2.heap) (f2:∀ b∈fp,e81 X pins H2 b)
  {R:VK} (h:K91 J (q50 own capt σ) H2 g tt te R) {RR:Value→Addr→Result→Shared→Prop} (hRR:∀ acc C s',K81 X pins σ R acc C s'→RR acc C (.ok .next) s') {E:Value→Shared→Prop} :
  wpAny (model X.prog X.w) X.A (newList []) (λacc s3=>wpAny (model X.prog X.w) X.A (newFunctionEnv sc X.env.globals cl [] X.env.qual none .none (some X.env)) (λce s4 =>
   codeAny (model X.prog X.w) X.A (.compStart (.ListComp el [⟨tg,src,tests,0⟩] sc ps) 0 (.ref it) acc { ce with scope:=relabel sc X.env }) (RR acc ce.locals) s4) E s3) E s2:=by
 obtain⟨W,⟨m0,w0⟩,turn⟩:=h
 refine wpAny_newObj_type (wpAny_newFunctionEnv S.nocell (by intro y hy;simp at hy) (λh1 hns1 hsb1=>?_) S.kind)
 dsimp only at hns1 hsb1 ⊢
 generalize hH3:s2.heap.push { cls:=.type "list",dict:=none,data:=.seq ([]:List Value).toArray }=h3 at hns1 hsb1 ⊢
 have hC:h3.objs.size=s2.heap.objs.size + 1:=by rw[← hH3,Heap.size_push]
 have below:∀ b,b < s2.heap.objs.size→b≠h3.objs.size∧b≠s2.heap.objs.size:=λb hb=>⟨by omega,by omega⟩
 have hDC:s2.heap.objs.size≠h3.objs.size:=by omega
 have old:∀ b o,s2.heap.get? b=some o→h1.get? b=some o:=λb o e=>hsb1.extBut b o (below b (Heap.lt_size e)).1 (Heap.get?_push_of_some _ (hH3 ▸ Heap.get?_push_of_some _ e))
 have hacc:h1.get? s2.heap.objs.size=some { cls:=.type "list",data:=.seq ([]:List Value).toArray 0 }:=hsb1.extBut _ _ hDC (Heap.get?_push_of_some _ (hH3 ▸ Heap.get?_push_size _ rfl))
 have fpLt:∀ b∈fp,b < s2.heap.objs.size:=λb hb=>by
  obtain⟨o,e,_⟩:=T.obj _ _ st2 b hb
  exact Heap.lt_size e
 have celLt:∀ x c,X.env.cells.lookup x=some c→c < s2.heap.objs.size:=λx c e=>by
  obtain⟨v,o,q,_⟩:=I2.cell x c e
  exact Heap.lt_size q
 have frLt:∀ b∈frs X.stack,b < s2.heap.objs.size:=λb hb=>by
  obtain⟨_,o,q,_⟩:=I2.stack.mem hb
  exact Heap.lt_size q
 have celFp:∀ x c,X.env.cells.lookup x=some c→c ∉ fp:=λx c e hb=>(f2 c hb).2.2.2.2.1 x c e rfl
 have fpFr:∀ b∈fp,b ∉ frs X.stack:=λb hb hf=>by
  rcases List.mem_cons.mp (I2.i71 b hf) with z | z
  ·exact(f2 b hb).2.1 z
  ·exact(f2 b hb).2.2.1 z
 have okX:(b70 X (d30 own capt) sc cl h3.objs.size s2 H2 fp).Ok:=by
  refine⟨I2.ok.mod,S.kind,I2.ok.glob,I2.ok.blt,(by show s2.heap.objs.size≤h3.objs.size;omega),λx y c e1 e2=>I2.ok.inj x y c (hcl x c e1) (hcl y c e2),λx hx=>?_,λx c hx=>(by cases hx),I2.ok.hd,I2.ok.frames,.inl rfl,
   λb hb=>⟨(below b (fpLt b hb)).1,λx c e z=>celFp x c (hcl x c e) (z ▸ hb)⟩,I2.bs,Nat.le_trans I2.ok.bsz I2.sz,λb o e hb=>?_,fpFr,I2.stack,I2.S40⟩
  ·have hx':(x,NameKind.free)∈sc.names:=by
    rcases hx with hx | hx
    ·exact G40 hx (.inl rfl) S.nocell
    ·exact G40 hx (.inr rfl) S.nocell
   exact hcf _ hx' rfl
  ·rcases (f2 b hb).2.2.2.1 with z | z
   ·exact I2.ok.noex b o e z
   ·have l1:b < X.base.objs.size:=Heap.lt_size e
    have l2:X.base.objs.size≤X.s₀.heap.objs.size:=I2.ok.bsz
    have l3:X.s₀.heap.objs.size≤b:=z
    exact absurd l1 (Nat.not_lt.mpr (Nat.le_trans l2 l3))
 have reset:∀ {pl:List (Addr × Obj)}{σ':St}{H':Hp}{s':Shared},Inv (b70 X (d30 own capt) sc cl h3.objs.size s2 H2 fp) pl σ' H' s'→Inv (b70 X (d30 own capt) sc cl h3.objs.size s2 H2 fp) pl (q50 own capt σ) H' s':=λ{pl σ' H' s'} I'=>by
  obtain⟨m,hn,_⟩:=I'.loc
  refine⟨I'.ok,I'.os,I'.bare,I'.base,⟨m,hn,λi x v e1 e2 _=>N10 I2 S hcl hcf celFp (λc o q n hx=>I'.base.any q n hx) m i x v e1 e2⟩,I'.cell,I'.free,I'.freeC,I'.pin,I'.hok,?_⟩
  show(q50 own capt σ).length=(d30 own capt).length
  simp[q50,d30]
 have start:Inv (b70 X (d30 own capt) sc cl h3.objs.size s2 H2 fp) [(s2.heap.objs.size,{ cls:=.type "list",data:=.seq ([]:List Value).toArray 0 })] (q50 own capt σ) H2 { s2 with heap:=h1,toks:=s2.toks + ([]:List (Str × Value)).length }:=by
  refine⟨okX,rfl,I2.bare,Un.kept old,⟨_,hns1,λi x v e1 e2 _=>N10 I2 S hcl hcf celFp (λc o q _ _=>⟨o.slots,old c o q⟩) _ i x v e1 e2⟩,λx c e=>?_,?_,λx c e=>I2.freeC x c (hcl x c e),λp hp=>?_,I2.hok.kept old,?_⟩
  ·obtain⟨v,q⟩:=I2.cell x c (hcl x c e)
   exact⟨v,q.keeps old⟩
  ·exact I2.hok.fresh (by show s2.heap.objs.size≤h3.objs.size;omega)
  ·have hp':p=(s2.heap.objs.size,{ cls:=.type "list",data:=.seq ([]:List Value).toArray 0 }):=by simpa using hp
   subst hp'
   exact⟨hacc,I2.hok.fresh (Nat.le_refl _),hDC,λz=>Nat.lt_irrefl _ (frLt _ z),λv z=>by cases z⟩
  ·show(q50 own capt σ).length=(d30 own capt).length
   simp[q50,d30]
 have i31:∀ {pl:List (Addr × Obj)}{H':Hp},(∀ p∈pl,p.1 ∉ fp)→(∀ b∈fp,H' b=none)→∀ b∈fp,e81 (b70 X (d30 own capt) sc cl h3.objs.size s2 H2 fp) pl H' b:=λ{pl H'} hp hn b hb =>
  ⟨hn b hb,(below b (fpLt b hb)).1,fpFr b hb,.inl hb,λx c e z=>celFp x c (hcl x c e) (z ▸ hb),λp hpp z=>hp p (by simpa using hpp) (z ▸ hb)⟩
 have hDfp:s2.heap.objs.size ∉ fp:=λz=>Nat.lt_irrefl _ (fpLt _ z)
 have loop:∀ s3:Shared,s3={ s2 with heap:=h1,toks:=s2.toks + ([]:List (Str × Value)).length } →
   codeAny (model X.prog X.w) X.A (.compLoop (.ListComp el [⟨tg,src,tests,0⟩] sc ps) 0 (.ref it) (.ref s2.heap.objs.size) (compEnvC sc cl h3.objs.size X.env)) (RR (.ref s2.heap.objs.size) h3.objs.size) s3:=by
  rintro s3 rfl
  refine k81 (λn s'=>∃ i ys H' its k,Inv (b70 X (d30 own capt) sc cl h3.objs.size s2 H2 fp) [(s2.heap.objs.size,{ cls:=.type "list",data:=.seq (List.toArray its) k })] (q50 own capt σ) H' s'∧tn i s'.heap∧(∀ b∈fp,H' b=none)∧Vals ys its∧ys.length≤sizeLine∧W i n ys H') ?_ m0
   ⟨0,[],H2,[],0,start,T.keep _ _ _ st2 λb _ o e=>old b o e,λb hb=>(f2 b hb).1,.nil,Nat.zero_le _,w0⟩
  rintro n s' ⟨i,ys,H',its,k,I',st',fr',hv,hz,w'⟩
  have pinD:∀ p∈[((s2.heap.objs.size:Addr),({ cls:=.type "list",data:=.seq (List.toArray its) k }:Obj))],p.1 ∉ fp:=λp hp=>by
   have hp':p=(s2.heap.objs.size,{ cls:=.type "list",data:=.seq (List.toArray its) k }):=by simpa using hp
   subst hp'
   exact hDfp
  rcases turn i n ys H' w' with ⟨stop,q⟩ | ⟨go,hlt,N,hN,step⟩
  ·refine thn (T.done (b70 X (d30 own capt) sc cl h3.objs.size s2 H2 fp) rfl rfl rfl hc i _ s' _ H' NoX I' (i31 pinD fr') st' stop) λr s1 hr=>?_
   obtain⟨hr,I1⟩:=hr
   subst hr
   obtain⟨gD,nD,_,_,_⟩:=I1.pin _ (List.mem_append_right _ List.mem_cons_self)
   obtain⟨m',hn',_⟩:=id I1.loc
   have un:Un (frs X.stack) fp H2 (upd H' s2.heap.objs.size (.lst ys)) s2.heap s1.heap:=by
    have u:=I1.base
    have nD2:H2 s2.heap.objs.size=none:=I2.hok.fresh (Nat.le_refl _)
    refine⟨u.keep,u.slot,λb o e n hx=>?_,u.there,λb xs e=>?_,λb o xs e=>?_,λb ps' e=>?_⟩
    ·rw[a50 (below b (Heap.lt_size e)).2];exact u.free b o e n hx
    ·rw[a50 (b30 e nD2)];exact u.tups b xs e
    ·rw[a50 (b30 e nD2)];exact u.frzs b o xs e
    ·obtain⟨more,e'⟩:=u.tbls b ps' e
     exact⟨more,by rw[a50 (b30 e nD2)];exact e'⟩
   have IX:Inv X pins σ (upd H' s2.heap.objs.size (.lst ys)) s1:=I2.l12 I1.os un (I1.hok.y71 nD hv hz gD) I1.bare λb hb=>⟨(f2 b hb).2.2.2.1,(f2 b hb).2.1,(f2 b hb).2.2.2.2.1,(f2 b hb).2.2.2.2.2⟩
   refine hRR _ _ _ ⟨_,_,m',rfl,IX,?_,hn',q _ nD⟩
   exact I2.i31 (by omega) (by rw[a50 hDC.symm];exact I1.free)
  ·refine thn (T.item (b70 X (d30 own capt) sc cl h3.objs.size s2 H2 fp) rfl rfl rfl hc i _ s' _ H' NoX I' (i31 pinD fr') st' go) λr s1 hr=>?_
   obtain⟨u,hr,h4⟩:=hr
   subst hr
   refine thn h4 λ_ s5 hr5=>?_
   obtain⟨x,H5,I5,r5,y5,st5,fr5⟩:=hr5
   have I5p:=I5.pinned (i31 pinD fr5) (T.obj _ _ st5)
   refine thn (hg _ _ _ _ _ s5 _ H5 x u _ I5p r5 (step x H5 y5)) λ_ s6 hr6=>?_
   obtain⟨σ6,H6,I6,q6⟩:=hr6
   refine thn (ht _ _ _ _ _ s6 σ6 H6 _ I6 q6) λok s7 hr7=>?_
   obtain⟨H7,I7,q7⟩:=hr7
   have memFp:∀ {pl:List (Addr × Obj)}{b:Addr}{o:Obj},b∈fp→s5.heap.get? b=some o→(b,o)∈([]:List (Addr × Obj))++(pl++z90 fp s5.heap):=λhb e=>List.mem_append_right _ (List.mem_append_right _ (j90 hb e))
   cases ok with
   |false =>
    rw[if_neg Bool.false_ne_true] at q7 ⊢
    obtain⟨m',hm,w7⟩:=hN _ _ q7
    refine⟨m',hm,i + 1,ys,H7,its,k,reset (I7.z80 λp hp=>I7.pin p (List.mem_append_right _ (List.mem_append_left _ hp))),T.keep _ _ _ st5 λb hb o e=>(I7.pin (b,o) (memFp hb e)).1,λb hb=>?_,hv,hz,w7⟩
    obtain⟨o,e,_⟩:=T.obj _ _ st5 b hb
    exact(I7.pin (b,o) (memFp hb e)).2.1
   |true =>
    rw[if_pos rfl] at q7 ⊢
    refine thn (he _ _ _ _ _ s7 σ6 H7 _ I7 q7) λuv s8 hr8=>?_
    obtain⟨y,H8,I8,r8,q8⟩:=hr8
    obtain⟨m',hm,w8⟩:=hN _ _ q8
    obtain⟨gD,nD,dC,dF,_⟩:=I8.pin _ (List.mem_append_right _ (List.mem_append_left _ List.mem_cons_self))
    refine append_at gD (λh9 sb hD9=>?_) (by show(List.toArray its).size≤sizeLine;rw[List.size_toArray,← hv.length];exact hz)
    have I8a:Inv (b70 X (d30 own capt) sc cl h3.objs.size s2 H2 fp) (z90 fp s5.heap) σ6 H8 s8:=I8.z80 λp hp=>I8.pin p (List.mem_append_right _ (List.mem_append_right _ hp))
    have I9:Inv (b70 X (d30 own capt) sc cl h3.objs.size s2 H2 fp) (z90 fp s5.heap) σ6 H8 { s8 with heap:=h9 }:=I8a.turned (t':=s8.toks) (λb o hb e=>(sb.2 b hb).trans e) nD dC (.inr (Nat.le_refl _))
     (λx c e z=>Nat.lt_irrefl s2.heap.objs.size (by have:=celLt x c (hcl x c e);rw[z] at this;exact this)) (λp hp z=>hDfp (z ▸ (L80 (by simpa using hp)).1))
    rw[List.push_toArray] at hD9
    refine⟨m',hm,i + 1,ys++[y],H8,its++[uv],k + 1,(reset I9).z80 λp hp=>?_,T.keep _ _ _ st5 λb hb o e=>?_,λb hb=>?_,hv.append (.cons r8 .nil),by rw[List.length_append];exact hlt,w8⟩
    ·have hp':p=(s2.heap.objs.size,{ cls:=.type "list",data:=.seq (List.toArray (its++[uv])) (k + 1) }):=by simpa using hp
     subst hp'
     exact⟨hD9,nD,dC,dF,λv z=>by cases z⟩
    ·exact(I9.pin (b,o) (List.mem_append_right _ (j90 hb e))).1
    ·obtain⟨o,e,_⟩:=T.obj _ _ st5 b hb
     exact(I9.pin (b,o) (List.mem_append_right _ (j90 hb e))).2.1
 exact codeAny_compStart_list (loop _ rfl) (T.self _ 0 _ _ _ (T.keep _ _ _ st2 λb _ o e=>old b o e) (loop _ rfl))
end
section
variable {X:Cx}{sc:Scope}{own:List Str}{capt:List (Str × Nat)}{el tg src:Expr}{tests:List Expr}{ps pos:Pos}{wi:TI}{g:TG}{tt:TT}{te:TE}
theorem L11(hc:X.calm=true)(S:D70 X sc own capt)(hi:PI X tg src wi)(hg:∀ cl C s H fp,PG (b70 X (d30 own capt) sc cl C s H fp) tg g)
  (ht:∀ cl C s H fp,PTs (b70 X (d30 own capt) sc cl C s H fp) tests tt) (he:∀ cl C s H fp,PE (b70 X (d30 own capt) sc cl C s H fp) el te)
  (hs:∀ x,foldedSetIterable src X.env x=pure x:=by intro _;rfl):PE X (.ListComp el [⟨tg,src,tests,0⟩] sc ps) (L01 own capt wi g tt te):=by
 intro pins s σ H Q I h
 obtain⟨cl,hclos,hcl,hcf⟩:=k71 (scope:=sc) (env:=X.env) λy hy hk=>I.ok.has y.1 (S.frees y hy hk)
 rw[eval_ListComp]
 refine wpAny_comprehension_free (use:=none) rfl hs hclos S.kind S.locs (thn (hi pins s σ H _ I h) λv s1 h1=>thn h1 λitv s2 h2=>?_)
 obtain⟨it,fp,tn,J,H2,e,I2,T,st2,f2,hw⟩:=h2
 subst e
 refine D80 hc S hcl hcf (hg cl) (ht cl) (he cl) I2 T st2 f2 hw (RR:=λacc C=>compPost (model X.prog X.w) X.A X.xe none (EP X pins σ Q) acc C) λacc C s' hf=>?_
 obtain⟨D,H',m',rfl,I',f',ns',r⟩:=hf
 exact⟨m',ns',λh' sb=>⟨.ref D,H',I'.turned (t':=s'.toks) (λb o hb e=>(sb.2 b hb).trans e) f'.1 f'.2.1 f'.2.2.2.1 f'.2.2.2.2.1 f'.2.2.2.2.2,rfl,r⟩⟩
theorem L21{i:Nat}{y:Str}{py:Pos}(hN:X.N.Nodup)(hiN:X.N[i]?=some y)(hy:Loc X.env.scope y)(hsw:swapsWith (.ListComp el [⟨tg,src,tests,0⟩] sc ps) (some (.Name y py)) pos.line X.env=pure true)
  (hc:X.calm=true) (S:D70 X sc own capt) (hi:PI X tg src wi) (hg:∀ cl C s H fp,PG (b70 X (d30 own capt) sc cl C s H fp) tg g)
  (ht:∀ cl C s H fp,PTs (b70 X (d30 own capt) sc cl C s H fp) tests tt) (he:∀ cl C s H fp,PE (b70 X (d30 own capt) sc cl C s H fp) el te)
  (hs:∀ x,foldedSetIterable src X.env x=pure x:=by intro _;rfl) (hf:X.fn y=true∨X.env.scope.names.lookup y=some .local:=by first | exact .inl rfl | exact .inr rfl | assumption) :
  PS X (.Assign [.Name y py] (.ListComp el [⟨tg,src,tests,0⟩] sc ps) pos) (X31 (L01 own capt wi g tt te) (e71 i)):=by
 intro pins s σ H D I h
 obtain⟨cl,hclos,hcl,hcf⟩:=k71 (scope:=sc) (env:=X.env) λy hy hk=>I.ok.has y.1 (S.frees y hy hk)
 rw[exec_Assign_Name_used _ _ _ _ hsw]
 refine wpAny_bind (wpAny_standAt (wpAny_bind ?_))
 show wpAny _ X.A (do let _ ← comprehension (.ListComp el [⟨tg,src,tests,0⟩] sc ps) sc X.env _ (newList []) false (eval src X.env) (some (assign (.Name y py) X.env))) _ _ s
 refine wpAny_bind (wpAny_mono (wpAny_comprehension_free (use:=some (assign (.Name y py) X.env)) (Q:=λ_ s'=>SP X pins D .next s') rfl hs hclos S.kind S.locs
  (thn (hi pins s σ H _ I h) λv s1 h1=>thn h1 λitv s2 h2=>?_)) (λ_ s' hq=>wpAny_pure (wpAny_pure hq)) λ_ _ e=>e)
 obtain⟨it,fp,tn,J,H2,e,I2,T,st2,f2,hw⟩:=h2
 subst e
 refine D80 hc S hcl hcf (hg cl) (ht cl) (he cl) I2 T st2 f2 hw (RR:=λacc C=>compPost (model X.prog X.w) X.A X.xe (some (assign (.Name y py) X.env)) (λ_ s'=>SP X pins D .next s') acc C) λacc C s' hfn=>?_
 obtain⟨DA,H',m',rfl,I',f',ns',r⟩:=hfn
 show wpAny _ X.A (assign (.Name y py) X.env (.ref DA)) _ _ _
 refine wpAny_assign_Name (L60 (v:=.ref DA) I' hN hiN hy rfl (λs3 I3 ha=>?_) hf)
 obtain⟨a,sb,ha⟩:=ha
 have hCa:C≠a:=λz=>by
  rcases ha with q | q
  ·exact f'.2.1 (z.trans q)
  ·exact f'.2.2.2.2.1 _ _ q z.symm
 exact⟨m',ns'.sameBut sb hCa,λh' sb'=>⟨_,H',I3.turned (t':=s3.toks) (λb o hb e=>(sb'.2 b hb).trans e) f'.1 f'.2.1 f'.2.2.2.1 f'.2.2.2.2.1 f'.2.2.2.2.2,r⟩⟩
end
end L2
namespace L2
open PySem
section
variable {P:Program}{w:World}{A:Around}{E:Value→Shared→Prop}{s:Shared}
theorem o90{r t:Addr}{k:Nat}{vs:Array Value}{x:Value}{Q:Value→Shared→Prop}(hr:s.heap.IsTupleIter r t k)(ht:s.heap.IsTuple t vs)(hx:vs[k]?=some x)
  (hQ:∀ h',h'.IsTupleIter r t (k + 1)→Heap.SameBut r s.heap h'→Q x { s with heap:=h' }):wpAny (model P w) A (Builtin.SmallTypes.nextOf (.ref r)) Q E s:=by
 obtain⟨o,ho,hc,hd⟩:=id hr;obtain⟨ot,hot,_,nt,hdt⟩:=ht;unfold Builtin.SmallTypes.nextOf
 refine wpAny_bind (wpAny_callSpecial?_slot (name:=Str.ofString "__next__") hr.typeIs F.slot_tuple_iterator_next (wpAny_call_entry F.slot_tuple_iterator_next hr.typeIs F.entry_tuple_iterator_next ?_ (F.args_tuple_iterator_next_1 _)))
 show wpAny _ _ (field (.ref r) 0 >>= _) _ _ s
 refine wpAny_bind (wpAny_field ho hd (x:=.ref t) rfl ?_);show wpAny _ _ (if (Value.ref t == Value.none)=true then _ else _) _ _ s
 rw[if_neg (show ¬ ((Value.ref t == Value.none)=true) from Bool.false_ne_true)];show wpAny _ _ (field (.ref r) 1 >>= _) _ _ s
 refine wpAny_bind (wpAny_field ho hd (x:=.int k 0) rfl ?_);show wpAny _ _ (seqItems? (.ref t) >>= _) _ _ s
 refine wpAny_bind (wpAny_seqItems hot hdt ?_);simp only[Int.toNat_natCast,hx]
 refine wpAny_bind (wpAny_setField ho hd (by simp) (wpAny_pure ⟨x,rfl,wpAny_pure (hQ _ ⟨_,Heap.get?_update_self _ ho (Obj.isFreed_of_fields (Obj.data_mapFields hd _)),(Obj.cls_mapFields ..).trans hc,by rw[Obj.data_mapFields hd];simp[rawInt]⟩ (Heap.SameBut.update ..))⟩))
theorem l00{r t:Addr}{k:Nat}{vs:Array Value}{Q:Value→Shared→Prop}(hh:A.handled=none)(hr:s.heap.IsTupleIter r t k)(ht:s.heap.IsTuple t vs)(hx:vs[k]?=none)
  (hE:∀ h' e,Heap.ExtBut r s.heap h'→(∃ o,h'.get? e=some o∧o.cls=.type "StopIteration")→E (.ref e) { s with heap:=h' }):wpAny (model P w) A (Builtin.SmallTypes.nextOf (.ref r)) Q E s:=by
 obtain⟨o,ho,hc,hd⟩:=id hr;obtain⟨ot,hot,_,nt,hdt⟩:=ht;unfold Builtin.SmallTypes.nextOf
 refine wpAny_bind (wpAny_callSpecial?_slot (name:=Str.ofString "__next__") hr.typeIs F.slot_tuple_iterator_next (wpAny_call_entry F.slot_tuple_iterator_next hr.typeIs F.entry_tuple_iterator_next ?_ (F.args_tuple_iterator_next_1 _)))
 show wpAny _ _ (field (.ref r) 0 >>= _) _ _ s
 refine wpAny_bind (wpAny_field ho hd (x:=.ref t) rfl ?_);show wpAny _ _ (if (Value.ref t == Value.none)=true then _ else _) _ _ s
 rw[if_neg (show ¬ ((Value.ref t == Value.none)=true) from Bool.false_ne_true)];show wpAny _ _ (field (.ref r) 1 >>= _) _ _ s
 refine wpAny_bind (wpAny_field ho hd (x:=.int k 0) rfl ?_);show wpAny _ _ (seqItems? (.ref t) >>= _) _ _ s
 refine wpAny_bind (wpAny_seqItems hot hdt ?_);simp only[Int.toNat_natCast,hx]
 refine wpAny_bind (wpAny_rule (wpAny_bind (wpAny_setField ho hd (by simp) ?_)));show wpAny _ _ (newExc (.type "StopIteration") [] >>= _) _ _ _
 refine wpAny_bind ?_;simp only[newExc,newTuple]
 refine wpAny_bind (wpAny_newObj_type ?_ (by size_fits));refine wpAny_bind (m:=firstArgMember _ _) (wpAny_of_eq (a:=Value.none) (by first | rfl | (simp only[firstArgMember];rfl)) ?_)
 refine wpAny_newObj_type ?_ (by size_fits);simp only[raiseNew];refine wpAny_bind (wpAny_handled ?_)
 first | rw[show A.in1.handled=none from hh] | rw[hh]
 refine wpAny_bind (wpAny_pure (wpAny_throw (hE _ _ (((Heap.SameBut.update ..).extBut.push _).push _) ⟨_,Heap.get?_push_size _ rfl,rfl⟩)))
theorem k91{z TI TO i1 i2 l1 l2:Addr}{k:Nat}{xs ys:Array Value}{x y a b:Value}{Q:Option Value→Shared→Prop}(D:ZipApart z TI TO i1 i2 l1 l2)(hz:IsZip s.heap z TI TO .none)
  (hTI:IsPair s.heap TI (.ref i1) (.ref i2)) (hTO:IsPair s.heap TO a b) (h1:s.heap.IsTupleIter i1 l1 k) (h2:s.heap.IsTupleIter i2 l2 k) (hl1:s.heap.IsTuple l1 xs) (hl2:s.heap.IsTuple l2 ys)
  (hx:xs[k]?=some x) (hy:ys[k]?=some y)
  (hQ:∀ h',IsZip h' z TI TO (rawInt s.heap.objs.size)→IsPair h' TO x y→h'.IsTupleIter i1 l1 (k + 1)→h'.IsTupleIter i2 l2 (k + 1)→IsPair h' s.heap.objs.size x y→h'.objs.size=s.heap.objs.size + 1 →
   (∀ c o,c≠z→c≠TO→c≠i1→c≠i2→s.heap.get? c=some o→h'.get? c=some o)→Q (some (.ref s.heap.objs.size)) { s with heap:=h' }):wpAny (model P w) A (pyNext (.ref z)) Q E s:=by
 have hT:s.TypeIs (.ref z) "zip":=⟨_,hz,rfl⟩
 unfold pyNext;refine wpAny_bind (wpAny_attempt (wpAny_callSpecial?_slot (name:=Str.ofString "__next__") hT F.slot_zip_next (wpAny_call_entry F.slot_zip_next hT F.entry_zip_next ?_ (F.args_zip_next_1 _))))
 show wpAny _ _ (field (.ref z) 2 >>= _) _ _ _;refine wpAny_bind (wpAny_field hz rfl (x:=.bool false) rfl ?_)
 show wpAny _ _ (field (.ref z) 3 >>= _) _ _ _;refine wpAny_bind (wpAny_field hz rfl (x:=.ref TI) rfl ?_)
 refine wpAny_bind (wpAny_seqItems hTI rfl ?_);show wpAny _ _ (Builtin.SmallTypes.ownedTupleIsFree (.ref z) >>= _) _ _ _
 refine wpAny_bind ?_;unfold Builtin.SmallTypes.ownedTupleIsFree;refine wpAny_bind (wpAny_field hz rfl (x:=.none) rfl (wpAny_pure ?_));simp only[if_true]
 refine wpAny_bind (wpAny_rule (wpAny_bind (wpAny_field hz rfl (x:=.ref TO) rfl (wpAny_bind (wpAny_setField_rec hz (by simp) λg1 z1 e1=>?_)))))
 replace z1:IsZip g1 z TI TO .ellipsis:=z1
 refine wpAny_bind ?_;simp only[List.zipIdx_cons,List.zipIdx_nil,List.forIn_cons,List.forIn_nil]
 refine wpAny_bind (wpAny_bind (wpAny_onRaise ?_));show wpAny _ _ (Builtin.SmallTypes.nextOf (.ref i1) >>= _) _ _ _
 refine wpAny_bind (o90 (h1.extBut e1.extBut D.i1z) (hl1.extBut e1.extBut D.l1z) hx λg2 r2 e2=>wpAny_pure ?_)
 have t2:IsPair g2 TO a b:=e2.extBut _ _ D.TOi1 (e1.extBut _ _ D.TOz hTO)
 refine wpAny_bind (wpAny_seqItems t2 rfl (wpAny_bind (wpAny_updateSeq_pair t2 λg3 t3 e3=>?_)))
 replace t3:IsPair g3 TO x b:=t3
 refine wpAny_bind (wpAny_letGo (wpAny_pure ?_));refine wpAny_bind (wpAny_bind (wpAny_onRaise ?_));show wpAny _ _ (Builtin.SmallTypes.nextOf (.ref i2) >>= _) _ _ _
 refine wpAny_bind (o90 (((h2.extBut e1.extBut D.i2z).extBut e2.extBut D.i12.symm).extBut e3.extBut D.TOi2.symm) (((hl2.extBut e1.extBut D.l2z).extBut e2.extBut D.l2i1).extBut e3.extBut D.l2TO) hy λg4 r4 e4=>wpAny_pure ?_)
 have t4:IsPair g4 TO x b:=e4.extBut _ _ D.TOi2 t3
 refine wpAny_bind (wpAny_seqItems t4 rfl (wpAny_bind (wpAny_updateSeq_pair t4 λg5 t5 e5=>?_)))
 replace t5:IsPair g5 TO x y:=t5
 refine wpAny_bind (wpAny_letGo (wpAny_pure (wpAny_pure ?_)));refine wpAny_bind (wpAny_seqItems t5 rfl (wpAny_bind (wpAny_newTuple ?_)))
 have sz:g5.objs.size=s.heap.objs.size:=by rw[e5.1,e4.1,e3.1,e2.1,e1.1]
 have z5:IsZip g5 z TI TO .ellipsis:=e5.extBut _ _ D.TOz.symm (e4.extBut _ _ D.i2z.symm (e3.extBut _ _ D.TOz.symm (e2.extBut _ _ D.i1z.symm z1)))
 have kp:∀ c o,c≠z→c≠TO→c≠i1→c≠i2→s.heap.get? c=some o→g5.get? c=some o:=λc o c1 c2 c3 c4 e=>e5.extBut _ _ c2 (e4.extBut _ _ c4 (e3.extBut _ _ c2 (e2.extBut _ _ c3 (e1.extBut _ _ c1 e))))
 have r1:g5.IsTupleIter i1 l1 (k + 1):=((r2.extBut e3.extBut D.TOi1.symm).extBut e4.extBut D.i12).extBut e5.extBut D.TOi1.symm
 have r5:g5.IsTupleIter i2 l2 (k + 1):=r4.extBut e5.extBut D.TOi2.symm
 have zl:z < g5.objs.size:=Heap.lt_size z5
 show wpAny _ _ (Builtin.SmallTypes.ownedTupleHandOut (.ref z) (.ref g5.objs.size) >>= _) _ _ _
 refine wpAny_bind ?_;unfold Builtin.SmallTypes.ownedTupleHandOut
 have z6:IsZip (g5.push { cls:=.type "tuple",data:=.seq #[x,y] }) z TI TO .ellipsis:=Heap.get?_push_of_some _ z5
 refine wpAny_bind (wpAny_setField_rec z6 (by simp) λg7 z7 e7=>?_)
 replace z7:IsZip g7 z TI TO (rawInt g5.objs.size):=z7
 refine wpAny_setField_rec z7 (by simp) λg8 z8 e8=>?_
 replace z8:IsZip g8 z TI TO (rawInt g5.objs.size):=z8
 have up:∀ c o,c≠z→g5.get? c=some o→g8.get? c=some o:=λc o c1 e=>e8.extBut _ _ c1 (e7.extBut _ _ c1 (Heap.get?_push_of_some _ e))
 have t8:IsPair g8 g5.objs.size x y:=e8.extBut _ _ (Nat.ne_of_gt zl) (e7.extBut _ _ (Nat.ne_of_gt zl) (Heap.get?_push_size _ rfl))
 have s8:g8.objs.size=g5.objs.size + 1:=by rw[e8.1,e7.1,Heap.size_push]
 rw[sz] at z8 t8 s8
 refine wpAny_pure ⟨_,rfl,?_⟩;refine wpAny_pure ?_;show Q (some (.ref g5.objs.size)) _;rw[sz]
 exact hQ g8 z8 (up _ _ D.TOz t5) (by obtain⟨o,ho,q⟩:=r1;exact⟨o,up _ o D.i1z ho,q⟩) (by obtain⟨o,ho,q⟩:=r5;exact⟨o,up _ o D.i2z ho,q⟩) t8 s8 λc o c1 c2 c3 c4 e=>up c o c1 (kp c o c1 c2 c3 c4 e)
theorem y91{z TI TO i1 i2 l1 l2:Addr}{k:Nat}{xs ys:Array Value}{a b:Value}{Q:Option Value→Shared→Prop}(hh:A.handled=none)(D:ZipApart z TI TO i1 i2 l1 l2)(hz:IsZip s.heap z TI TO .none)
  (hTI:IsPair s.heap TI (.ref i1) (.ref i2)) (hTO:IsPair s.heap TO a b) (h1:s.heap.IsTupleIter i1 l1 k) (h2:s.heap.IsTupleIter i2 l2 k) (hl1:s.heap.IsTuple l1 xs) (hl2:s.heap.IsTuple l2 ys)
  (hend:xs[k]?=none∨ys[k]?=none) (hQ:∀ h',(∀ c o,c≠z→c≠TO→c≠i1→c≠i2→s.heap.get? c=some o→h'.get? c=some o)→Q none { s with heap:=h' }):wpAny (model P w) A (pyNext (.ref z)) Q E s:=by
 have hT:s.TypeIs (.ref z) "zip":=⟨_,hz,rfl⟩
 have fin:∀ (h':Heap) (e:Addr),(∀ c o,c≠z→c≠TO→c≠i1→c≠i2→s.heap.get? c=some o→h'.get? c=some o)→(∃ o,h'.get? e=some o∧o.cls=.type "StopIteration") →
   wpAny (model P w) A (isInstance (.ref e) (.type "StopIteration") >>= λb=>if b=true then pure none else throw (.ref e)) Q E { s with heap:=h' }:=λh' e kp he=>by
  obtain⟨o,ho,hc⟩:=he
  exact wpAny_bind (wpAny_isInstance (T:="StopIteration") (b:=true) ⟨o,ho,hc⟩ isSubtype_stop (wpAny_pure (hQ _ kp)))
 unfold pyNext;refine wpAny_bind (wpAny_attempt (wpAny_callSpecial?_slot (name:=Str.ofString "__next__") hT F.slot_zip_next (wpAny_call_entry F.slot_zip_next hT F.entry_zip_next ?_ (F.args_zip_next_1 _))))
 show wpAny _ _ (field (.ref z) 2 >>= _) _ _ _;refine wpAny_bind (wpAny_field hz rfl (x:=.bool false) rfl ?_)
 show wpAny _ _ (field (.ref z) 3 >>= _) _ _ _;refine wpAny_bind (wpAny_field hz rfl (x:=.ref TI) rfl ?_)
 refine wpAny_bind (wpAny_seqItems hTI rfl ?_);show wpAny _ _ (Builtin.SmallTypes.ownedTupleIsFree (.ref z) >>= _) _ _ _
 refine wpAny_bind ?_;unfold Builtin.SmallTypes.ownedTupleIsFree;refine wpAny_bind (wpAny_field hz rfl (x:=.none) rfl (wpAny_pure ?_));simp only[if_true]
 refine wpAny_bind (wpAny_rule (wpAny_bind (wpAny_field hz rfl (x:=.ref TO) rfl (wpAny_bind (wpAny_setField_rec hz (by simp) λg1 z1 e1=>?_)))))
 replace z1:IsZip g1 z TI TO .ellipsis:=z1
 refine wpAny_bind ?_;simp only[List.zipIdx_cons,List.zipIdx_nil,List.forIn_cons,List.forIn_nil]
 refine wpAny_bind (wpAny_bind (wpAny_onRaise ?_));show wpAny _ _ (Builtin.SmallTypes.nextOf (.ref i1) >>= _) _ _ _
 cases hx:xs[k]? with
 |none =>
  refine wpAny_bind (l00 hh (h1.extBut e1.extBut D.i1z) (hl1.extBut e1.extBut D.l1z) hx λg2 e e2 he=>?_)
  obtain⟨oe,hoe,hce⟩:=he
  have z2:IsZip g2 z TI TO .ellipsis:=e2 _ _ D.i1z.symm z1
  have hez:e≠z:=λq=>by subst q;rw[z2] at hoe;cases hoe;simp at hce
  exact wpAny_setField_rec z2 (by simp) λg3 _ e3=>fin g3 e (λc o c1 _ c3 _ q=>e3.extBut _ _ c1 (e2 _ _ c3 (e1.extBut _ _ c1 q))) ⟨oe,e3.extBut _ _ hez hoe,hce⟩
 |some x =>
  have hy:ys[k]?=none:=by rcases hend with q | q;rw[hx] at q;cases q;exact q
  refine wpAny_bind (o90 (h1.extBut e1.extBut D.i1z) (hl1.extBut e1.extBut D.l1z) hx λg2 r2 e2=>wpAny_pure ?_)
  have t2:IsPair g2 TO a b:=e2.extBut _ _ D.TOi1 (e1.extBut _ _ D.TOz hTO)
  refine wpAny_bind (wpAny_seqItems t2 rfl (wpAny_bind (wpAny_updateSeq_pair t2 λg3 t3 e3=>?_)))
  refine wpAny_bind (wpAny_letGo (wpAny_pure ?_));refine wpAny_bind (wpAny_bind (wpAny_onRaise ?_));show wpAny _ _ (Builtin.SmallTypes.nextOf (.ref i2) >>= _) _ _ _
  refine wpAny_bind (l00 hh (((h2.extBut e1.extBut D.i2z).extBut e2.extBut D.i12.symm).extBut e3.extBut D.TOi2.symm) (((hl2.extBut e1.extBut D.l2z).extBut e2.extBut D.l2i1).extBut e3.extBut D.l2TO) hy λg4 e e4 he=>?_)
  obtain⟨oe,hoe,hce⟩:=he
  have z4:IsZip g4 z TI TO .ellipsis:=e4 _ _ D.i2z.symm (e3.extBut _ _ D.TOz.symm (e2.extBut _ _ D.i1z.symm z1))
  have hez:e≠z:=λq=>by subst q;rw[z4] at hoe;cases hoe;simp at hce
  exact wpAny_setField_rec z4 (by simp) λg5 _ e5=>fin g5 e (λc o c1 c2 c3 c4 q=>e5.extBut _ _ c1 (e4 _ _ c4 (e3.extBut _ _ c2 (e2.extBut _ _ c3 (e1.extBut _ _ c1 q))))) ⟨oe,e5.extBut _ _ hez hoe,hce⟩
noncomputable abbrev zT1(h:Heap)(l1:Addr):Heap:=h.push { cls:=.type "tuple_iterator",data:=.fields #[.ref l1,.int 0 0] }
noncomputable abbrev zT2(h:Heap)(l1 l2:Addr):Heap:=(zT1 h l1).push { cls:=.type "tuple_iterator",data:=.fields #[.ref l2,.int 0 0] }
noncomputable abbrev zT3(h:Heap)(l1 l2:Addr):Heap:=(zT2 h l1 l2).push { cls:=.type "tuple",data:=.seq #[.ref h.objs.size,.ref (zT1 h l1).objs.size] }
noncomputable abbrev zT4(h:Heap)(l1 l2:Addr):Heap:=(zT3 h l1 l2).push { cls:=.type "tuple",data:=.seq #[.none,.none] }
noncomputable abbrev zT5(h:Heap)(l1 l2:Addr):Heap:=(zT4 h l1 l2).push { cls:=.type "zip",data:=.fields #[.none,.bool false,.bool false,.ref (zT2 h l1 l2).objs.size,.ref (zT3 h l1 l2).objs.size] }
theorem f51(l1 l2:Addr)(xs ys:Array Value) :
  Meets (Builtin.«zip.__new__» ⟨[.type "zip",.ref l1,.ref l2],[]⟩) (λ_ R s=>s.heap.IsTuple l1 xs∧s.heap.IsTuple l2 ys∧R (.ok (.ret (.ref (zT4 s.heap l1 l2).objs.size))) { s with heap:=zT5 s.heap l1 l2 }) :=
 .of_wp λP w A R s h=>by
  obtain⟨hp,g,d,tk,os⟩:=s;obtain⟨hl1,hl2,h⟩:=h
  have hsub:=sub_zip
  have hL1:Heap.IsTuple (Shared.heap ⟨hp,g,d,tk,os⟩) l1 xs:=hl1
  have hL2:Heap.IsTuple (Shared.heap ⟨hp.push { cls:=.type "tuple_iterator",data:=.fields #[.ref l1,.int 0 0] },g,d,tk,os⟩) l2 ys:=Heap.IsTuple.push hl2 _
  wp_walk using wpAny_pyIter_tuple hL1,wpAny_pyIter_tuple hL2
  exact⟨_,rfl,h⟩
theorem l01{l1 l2:Addr}{xs ys:Array Value}{Q:Value→Shared→Prop}(hl1:s.heap.IsTuple l1 xs)(hl2:s.heap.IsTuple l2 ys)
  (h:∀ h',IsZip h' (s.heap.objs.size + 4) (s.heap.objs.size + 2) (s.heap.objs.size + 3) .none→IsPair h' (s.heap.objs.size + 2) (.ref s.heap.objs.size) (.ref (s.heap.objs.size + 1))→IsPair h' (s.heap.objs.size + 3) .none .none →
   h'.IsTupleIter s.heap.objs.size l1 0→h'.IsTupleIter (s.heap.objs.size + 1) l2 0→(∀ c o,s.heap.get? c=some o→h'.get? c=some o)→Q (.ref (s.heap.objs.size + 4)) { s with heap:=h' }) :
  wpAny (model P w) A (call (.type "zip") [.ref l1,.ref l2]) Q E s:=by
 refine callType_new F.called_zip (by decide) (F.typeCall_zip_2 _ _) (F.newCall_zip_2 _ _) (λobj=>F.args_object_init_3 obj _ _) F.entry_zip_new (f51 l1 l2 xs ys) ⟨hl1,hl2,?_⟩
 have n1:(zT1 s.heap l1).objs.size=s.heap.objs.size + 1:=Heap.size_push ..
 have n2:(zT2 s.heap l1 l2).objs.size=s.heap.objs.size + 2:=by rw[Heap.size_push,n1]
 have n3:(zT3 s.heap l1 l2).objs.size=s.heap.objs.size + 3:=by rw[Heap.size_push,n2]
 have n4:(zT4 s.heap l1 l2).objs.size=s.heap.objs.size + 4:=by rw[Heap.size_push,n3]
 have g5:(zT5 s.heap l1 l2).get? (zT4 s.heap l1 l2).objs.size=some _:=Heap.get?_push_size _ rfl
 have g4:(zT5 s.heap l1 l2).get? (zT3 s.heap l1 l2).objs.size=some _:=Heap.get?_push_of_some _ (Heap.get?_push_size _ rfl)
 have g3:(zT5 s.heap l1 l2).get? (zT2 s.heap l1 l2).objs.size=some _:=Heap.get?_push_of_some _ (Heap.get?_push_of_some _ (Heap.get?_push_size _ rfl))
 have g2:(zT5 s.heap l1 l2).get? (zT1 s.heap l1).objs.size=some _:=Heap.get?_push_of_some _ (Heap.get?_push_of_some _ (Heap.get?_push_of_some _ (Heap.get?_push_size _ rfl)))
 have g1:(zT5 s.heap l1 l2).get? s.heap.objs.size=some _:=Heap.get?_push_of_some _ (Heap.get?_push_of_some _ (Heap.get?_push_of_some _ (Heap.get?_push_of_some _ (Heap.get?_push_size _ rfl))))
 show _∧_;rw[n2,n3,n4] at g5;rw[n1,n2] at g3;rw[n3] at g4;rw[n1] at g2;rw[n4]
 exact⟨⟨_,g5,rfl⟩,h _ g5 g3 g4 ⟨_,g1,rfl,rfl⟩ ⟨_,g2,rfl,rfl⟩ λc o q=>Heap.get?_push_of_some _ (Heap.get?_push_of_some _ (Heap.get?_push_of_some _ (Heap.get?_push_of_some _ (Heap.get?_push_of_some _ q))))⟩
end
end L2
namespace L2
open PySem PySem.Spec PyProof.Rows
section
variable {X:Cx}{pins:List (Addr × Obj)}{σ:St}{H:Hp}{s:Shared}{h':Heap}
theorem Inv.G50{t':Nat}{ch:List Addr}(I:Inv X pins σ H s)(hf:∀ b∈ch,e81 X pins H b)(k:∀ b o,b ∉ ch→s.heap.get? b=some o→h'.get? b=some o):Inv X pins σ H { s with heap:=h',toks:=t' }:=by
 have nch:∀ b u,H b=some u→b ∉ ch:=λb u e z=>by rw[(hf b z).1] at e;cases e
 refine I.step (g':=s.gens) (d':=s.drawn) (ch:=ch) (λb hb=>⟨(hf b hb).2.2.2.1,(hf b hb).2.1,(hf b hb).2.2.2.2.1,(hf b hb).2.2.2.2.2⟩) (λb o _ _ hc e _=>k b o hc e) (λb o _ _ hc e _=>⟨o.slots,k b o hc e⟩) (λ_ _ _ _ n=>n)
  (λb o hc e=>⟨o,k b o hc e⟩) (λ_ _ e=>e) (λ_ _ _ e=>e) (λb ps e=>⟨#[],by rw[e];simp⟩) (λm hm=>?_) (λb u e=>?_) I.bare
 ·obtain⟨o,es,ep,ho,r⟩:=hm
  exact⟨o,es,ep,k _ o (λz=>(hf _ z).2.1 rfl) ho,r⟩
 ·refine(I.hok b u e).x21 (λc v hc q=>k c v ?_ q) (λ_ q=>q) λ_ _ q=>q
  rcases hc with z | z
  ·rw[z];exact nch b u e
  ·exact nch c _ z
theorem Inv.y71{T:Addr}{o:HO}(I:Inv X pins σ H s)(f:e81 X pins H T)(h0:X.s₀.heap.objs.size≤T)(hok:HOk X.prog X.w (upd H T o) s.heap):Inv X pins σ (upd H T o) s:=by
 have u:=I.base
 refine⟨I.ok,I.os,I.bare,⟨u.keep,u.slot,λb ob e n hx=>?_,u.there,λb xs e=>?_,λb ob xs e=>?_,λb ps e=>?_⟩,I.loc,I.cell,?_,λx c e=>?_,λp hp=>?_,hok,I.len⟩
 ·rw[a50 (Nat.ne_of_lt (Nat.lt_of_lt_of_le (Heap.lt_size e) h0))];exact u.free b ob e n hx
 ·have z:=u.tups b xs e;rw[a50 (b30 z f.1)];exact z
 ·have z:=u.frzs b ob xs e;rw[a50 (b30 z f.1)];exact z
 ·obtain⟨more,z⟩:=u.tbls b ps e
  exact⟨more,by rw[a50 (b30 z f.1)];exact z⟩
 ·rw[a50 f.2.1.symm];exact I.free
 ·rw[a50 (f.2.2.2.2.1 x c e)];exact I.freeC x c e
 ·obtain⟨e,n,r⟩:=I.pin p hp
  exact⟨e,by rw[a50 (f.2.2.2.2.2 p hp)];exact n,r⟩
theorem HOk.F71{P:Program}{w:World}{H:Hp}{h:Heap}{D:Addr}{ys:List V}{its:List Value}(x:HOk P w H h)(hn:H D=none)(hv:Vals ys its)(hz:ys.length≤sizeLine)(ho:IsTup h D its.toArray):HOk P w (upd H D (.tup ys)) h:=λb u e=>by
 by_cases hb:b=D
 ·subst hb;rw[c30] at e;cases e;exact⟨hz,its,hv,ho⟩
 ·rw[a50 hb] at e
  exact(x b u e).x21 (λc v _ q=>q) (λc q=>by rw[a50 (b30 q hn)];exact q) λc xs q=>by rw[a50 (b30 q hn)];exact q
end
noncomputable def SqB:Bool→PySem.W.Frag→Hp→Addr→List V→Prop
 |true=>SqL
 |false=>SqT
noncomputable def N20:Bool→Heap→Addr→Addr→Nat→Prop
 |true=>Heap.IsListIter
 |false=>Heap.IsTupleIter
noncomputable def z01:Bool→Heap→Addr→Array Value→Prop
 |true=>Heap.IsList
 |false=>Heap.IsTuple
theorem N20.obj{b:Bool}{h:Heap}{it a:Addr}{i:Nat}(st:N20 b h it a i):∃ o,h.get? it=some o∧(∀ v,o.data=.cell v→False)∧∀ h':Heap,h'.get? it=some o→N20 b h' it a i:=by
 cases b with
 |true=>obtain⟨o,g,c,d⟩:=st;exact⟨o,g,(λv e=>by rw[d] at e;cases e),λh' k=>⟨o,k,c,d⟩⟩
 |false=>obtain⟨o,g,c,d⟩:=st;exact⟨o,g,(λv e=>by rw[d] at e;cases e),λh' k=>⟨o,k,c,d⟩⟩
theorem Inv.z11{X:Cx}{pins:List (Addr × Obj)}{σ:St}{H:Hp}{s:Shared}{b:Bool}{a:Addr}{xs:List V}(I:Inv X pins σ H s)(h:SqB b X.K H a xs):∃ its:List Value,Vals xs its∧z01 b s.heap a its.toArray∧a < s.heap.objs.size∧∀ ys,SqB b X.K H a ys→ys=xs:=by
 cases b with
 |true=>obtain⟨its,r,p,_⟩:=I.list h;exact⟨its,r,p.isList,by obtain⟨o,e,_⟩:=p.isList;exact Heap.lt_size e,λys h'=>I.Y70 h' h⟩
 |false=>obtain⟨its,r,p,_⟩:=I.tuple h;exact⟨its,r,p,by obtain⟨o,e,_⟩:=p;exact Heap.lt_size e,λys h'=>I.L70 h' h⟩
section
variable {P:Program}{w:World}{A:Around}{E:Value→Shared→Prop}{s:Shared}{b:Bool}{z TI TO i1 i2 l1 l2:Addr}{k:Nat}{xs ys:Array Value}{x y p q:Value}
theorem l11{Q:Option Value→Shared→Prop}(D:ZipApart z TI TO i1 i2 l1 l2)(hz:IsZip s.heap z TI TO .none)(hTI:IsPair s.heap TI (.ref i1) (.ref i2))(hTO:IsPair s.heap TO p q)(h1:N20 b s.heap i1 l1 k)(h2:N20 b s.heap i2 l2 k)(hl1:z01 b s.heap l1 xs)(hl2:z01 b s.heap l2 ys)(hx:xs[k]?=some x)(hy:ys[k]?=some y)
  (hQ:∀ h',IsZip h' z TI TO (rawInt s.heap.objs.size)→IsPair h' TO x y→N20 b h' i1 l1 (k + 1)→N20 b h' i2 l2 (k + 1)→IsPair h' s.heap.objs.size x y→h'.objs.size=s.heap.objs.size + 1 →
   (∀ c o,c≠z→c≠TO→c≠i1→c≠i2→s.heap.get? c=some o→h'.get? c=some o)→Q (some (.ref s.heap.objs.size)) { s with heap:=h' }):wpAny (model P w) A (pyNext (.ref z)) Q E s:=match b,h1,h2,hl1,hl2,hQ with
 |true,h1,h2,hl1,hl2,hQ=>wpAny_pyNext_zip_item D hz hTI hTO h1 h2 hl1 hl2 hx hy hQ
 |false,h1,h2,hl1,hl2,hQ=>k91 D hz hTI hTO h1 h2 hl1 hl2 hx hy hQ
theorem z21{Q:Option Value→Shared→Prop}(hh:A.handled=none)(D:ZipApart z TI TO i1 i2 l1 l2)(hz:IsZip s.heap z TI TO .none)(hTI:IsPair s.heap TI (.ref i1) (.ref i2))(hTO:IsPair s.heap TO p q)(h1:N20 b s.heap i1 l1 k)(h2:N20 b s.heap i2 l2 k)(hl1:z01 b s.heap l1 xs)(hl2:z01 b s.heap l2 ys)
  (hend:xs[k]?=none∨ys[k]?=none) (hQ:∀ h',(∀ c o,c≠z→c≠TO→c≠i1→c≠i2→s.heap.get? c=some o→h'.get? c=some o)→Q none { s with heap:=h' }):wpAny (model P w) A (pyNext (.ref z)) Q E s:=match b,h1,h2,hl1,hl2 with
 |true,h1,h2,hl1,hl2=>wpAny_pyNext_zip_end hh D hz hTI hTO h1 h2 hl1 hl2 hend hQ
 |false,h1,h2,hl1,hl2=>y91 hh D hz hTI hTO h1 h2 hl1 hl2 hend hQ
theorem l21{Q:Value→Shared→Prop}(hl1:z01 b s.heap l1 xs)(hl2:z01 b s.heap l2 ys)
  (h:∀ h',IsZip h' (s.heap.objs.size + 4) (s.heap.objs.size + 2) (s.heap.objs.size + 3) .none→IsPair h' (s.heap.objs.size + 2) (.ref s.heap.objs.size) (.ref (s.heap.objs.size + 1))→IsPair h' (s.heap.objs.size + 3) .none .none →
   N20 b h' s.heap.objs.size l1 0→N20 b h' (s.heap.objs.size + 1) l2 0→(∀ c o,s.heap.get? c=some o→h'.get? c=some o)→Q (.ref (s.heap.objs.size + 4)) { s with heap:=h' }):wpAny (model P w) A (call (.type "zip") [.ref l1,.ref l2]) Q E s:=match b,hl1,hl2,h with
 |true,hl1,hl2,h=>call_zip_2 hl1 hl2 λh' a1 a2 a3 a4 a5 _ a6=>h h' a1 a2 a3 a4 a5 a6
 |false,hl1,hl2,h=>l01 hl1 hl2 h
end
noncomputable def Itz(b:Bool)(K:PySem.W.Frag)(a c:Addr):It :=
 ⟨λi H=>∃ xs ys x y,SqB b K H a xs∧SqB b K H c ys∧xs[i]?=some x∧ys[i]?=some y,
  λi H v H'=>∃ T,v=.ref T∧H T=none∧∀ xs ys x y,SqB b K H a xs→SqB b K H c ys→xs[i]?=some x→ys[i]?=some y→H'=upd H T (.tup [x,y]),
  λi H=>∃ xs ys,SqB b K H a xs∧SqB b K H c ys∧(xs.length≤i∨ys.length≤i)⟩
theorem z31{P:Program}{w:World}{K:PySem.W.Frag}{es:List Expr}{ek:Nat}{ep:Pos}{b:Bool}{a c z TI TO i1 i2:Addr}(D:ZipApart z TI TO i1 i2 a c) :
  Turn P w K (.Tuple es ek ep) (Itz b K a c) [z,TI,TO,i1,i2] z (λi h=>IsZip h z TI TO .none∧IsPair h TI (.ref i1) (.ref i2)∧(∃ p q,IsPair h TO p q)∧N20 b h i1 a i∧N20 b h i2 c i) where
 mem:=by simp
 obj:=λi h st c hc=>by
  obtain⟨hz,hTI,⟨p,q,hTO⟩,h1,h2⟩:=st
  obtain⟨o1,h1,d1,_⟩:=h1.obj
  obtain⟨o2,h2,d2,_⟩:=h2.obj
  simp only[List.mem_cons,List.not_mem_nil,or_false] at hc
  rcases hc with rfl | rfl | rfl | rfl | rfl
  ·exact⟨_,hz,λv e=>by cases e⟩
  ·exact⟨_,hTI,λv e=>by cases e⟩
  ·exact⟨_,hTO,λv e=>by cases e⟩
  ·exact⟨_,h1,d1⟩
  ·exact⟨_,h2,d2⟩
 keep:=λi h h' st k=>by
  obtain⟨hz,hTI,⟨p,q,hTO⟩,h1,h2⟩:=st
  obtain⟨o1,h1,_,r1⟩:=h1.obj
  obtain⟨o2,h2,_,r2⟩:=h2.obj
  exact⟨k z (by simp) _ hz,k TI (by simp) _ hTI,⟨p,q,k TO (by simp) _ hTO⟩,r1 _ (k i1 (by simp) _ h1),r2 _ (k i2 (by simp) _ h2)⟩
 item:=by
  intro X hP hw hK hc i pins s σ H E I hf st hg
  subst hP hw hK
  obtain⟨xs,ys,x,y,hq1,hq2,hx,hy⟩:=hg
  obtain⟨v1,rv1,p1,_,z1⟩:=I.z11 hq1
  obtain⟨v2,rv2,p2,_,z2⟩:=I.z11 hq2
  obtain⟨u1,hu1,ru1⟩:=rv1.get hx
  obtain⟨u2,hu2,ru2⟩:=rv2.get hy
  obtain⟨hz,hTI,⟨p,q,hTO⟩,h1,h2⟩:=st
  refine l11 D hz hTI hTO h1 h2 p1 p2 (x:=u1) (y:=u2) (by simpa using hu1) (by simpa using hu2) λg1 gz gTO g1' g2' gT gs kp=>⟨_,rfl,?_⟩
  refine wpAny_letOwnedTupleGo_zip (s:={ s with heap:=g1 }) gz λg2 gz2 sb=>?_
  have hT:H s.heap.objs.size=none:=I.hok.fresh (Nat.le_refl _)
  have kall:∀ c o,c ∉ [z,TI,TO,i1,i2]→s.heap.get? c=some o→g2.get? c=some o:=λc o hc e=>by
   simp only[List.mem_cons,List.not_mem_nil,or_false,not_or] at hc
   exact sb.extBut _ _ hc.1 (kp c o hc.1 hc.2.2.1 hc.2.2.2.1 hc.2.2.2.2 e)
  have I2:Inv X pins σ H { s with heap:=g2 }:=I.G50 (t':=s.toks) hf kall
  have fT:e81 X pins H s.heap.objs.size:=I.i31 (Nat.le_refl _) hT
  have gT2:g2.get? s.heap.objs.size=some { cls:=.type "tuple",data:=.seq #[u1,u2] }:=sb.extBut _ _ (λe=>Nat.lt_irrefl _ (by have:=Heap.lt_size hz;rw[← e] at this;exact this)) gT
  have I3:Inv X pins σ (upd H s.heap.objs.size (.tup [x,y])) { s with heap:=g2 }:=I2.y71 fT I.sz (I2.hok.F71 hT (its:=[u1,u2]) (.cons ru1 (.cons ru2 .nil)) (by show 2≤sizeLine;rw[sizeLine_eq];decide) ⟨_,gT2,rfl,_,rfl⟩)
  have TI0:IsPair g2 TI (.ref i1) (.ref i2):=sb.extBut _ _ D.TIz (kp _ _ D.TIz D.TITO D.TIi1 D.TIi2 hTI)
  obtain⟨o1,w1,_,r1⟩:=g1'.obj
  obtain⟨o2,w2,_,r2⟩:=g2'.obj
  refine⟨.ref s.heap.objs.size,_,I3,rfl,⟨_,rfl,hT,λxs' ys' x' y' e1 e2 e3 e4=>?_⟩,⟨gz2,TI0,⟨_,_,sb.extBut _ _ D.TOz gTO⟩,r1 _ (sb.extBut _ _ D.i1z w1),r2 _ (sb.extBut _ _ D.i2z w2)⟩,λc hc=>?_⟩
  ·rw[z1 _ e1] at e3
   rw[z2 _ e2] at e4
   rw[hx] at e3;rw[hy] at e4
   cases e3;cases e4;rfl
  ·rw[a50]
   ·exact(hf c hc).1
   ·intro e
    obtain⟨o1,h1,_⟩:=h1.obj
    obtain⟨o2,h2,_⟩:=h2.obj
    have lt:c < s.heap.objs.size:=by
     simp only[List.mem_cons,List.not_mem_nil,or_false] at hc
     rcases hc with rfl | rfl | rfl | rfl | rfl
     ·exact Heap.lt_size hz
     ·exact Heap.lt_size hTI
     ·exact Heap.lt_size hTO
     ·exact Heap.lt_size h1
     ·exact Heap.lt_size h2
    rw[e] at lt
    exact Nat.lt_irrefl _ lt
 done:=by
  intro X hP hw hK hc i pins s σ H E I hf st hg
  subst hP hw hK
  obtain⟨xs,ys,hq1,hq2,hend⟩:=hg
  obtain⟨v1,rv1,p1,_⟩:=I.z11 hq1
  obtain⟨v2,rv2,p2,_⟩:=I.z11 hq2
  obtain⟨hz,hTI,⟨p,q,hTO⟩,h1,h2⟩:=st
  have l1:=rv1.length
  have l2:=rv2.length
  refine z21 (I.ok.hd hc) D hz hTI hTO h1 h2 p1 p2 (hend.elim (λe=>.inl (by simp;omega)) λe=>.inr (by simp;omega)) λg kp=>⟨rfl,I.G50 (t':=s.toks) hf λc o hcn e=>?_⟩
  simp only[List.mem_cons,List.not_mem_nil,or_false,not_or] at hcn
  exact kp c o hcn.1 hcn.2.2.1 hcn.2.2.2.1 hcn.2.2.2.2 e
 self:=λ_ _ _ _ _ st h=>wpAny_pyIter_zip st.1 h
noncomputable def A32(K:PySem.W.Frag)(ta:TA):TI:=λσ H R=>ta σ H λvs H1=>∃ b a c,vs=[.ref a,.ref c]∧(∃ xs,SqB b K H1 a xs)∧(∃ ys,SqB b K H1 c ys)∧R (Itz b K a c) H1
theorem boot_zip:bootBuiltins "zip"=some (.type "zip"):=by decide +kernel
theorem Z21{X:Cx}{a b:Expr}{es:List Expr}{ek:Nat}{ep:Pos}{ta:TA}{p pos:Pos}(hg:Gl X "zip")(hm:X.mg "zip"=none)(ha:PA X [a,b] ta)(hs:starEach [a,b] X.env=[(false,eval a X.env),(false,eval b X.env)]:=by rfl)(hs2:starEach [b] X.env=[(false,eval b X.env)]:=by rfl) :
  PI X (.Tuple es ek ep) (.Call (.Name "zip" p) [a,b] [] pos) (A32 X.K ta):=by
 intro pins s σ H R I h
 refine Call_ (s30 I hg hm boot_zip (PyProof.Rows.callWith_type1 (thn (ha pos pins s σ H _ I h) λus s1 ⟨vs,H1,I1,r1,q1⟩=>?_) (by rw[hs,hs2]) (by rw[hs2];rfl)))
 obtain⟨b,l1,l2,e,⟨xs,hq1⟩,⟨ys,hq2⟩,q⟩:=q1
 subst e
 obtain⟨u,w',rfl,r,r'⟩:=vals2 r1
 cases r;cases r'
 obtain⟨v1,rv1,p1,a1,_⟩:=I1.z11 hq1
 obtain⟨v2,rv2,p2,a2,_⟩:=I1.z11 hq2
 refine l21 p1 p2 λh' hz hTI hTO h1 h2 kp=>wpAny_pyIter_zip (s:={ s1 with heap:=h' }) hz ?_
 refine⟨_,[s1.heap.objs.size + 4,s1.heap.objs.size + 2,s1.heap.objs.size + 3,s1.heap.objs.size,s1.heap.objs.size + 1],_,_,H1,rfl,I1.kept (t':=s1.toks) kp,z31 (PyProof.Rows.zipApart_new a1 a2),⟨hz,hTI,⟨_,_,hTO⟩,h1,h2⟩,λc hc=>?_,q⟩
 have hc':s1.heap.objs.size≤c:=by
  simp only[List.mem_cons,List.not_mem_nil,or_false] at hc
  rcases hc with rfl | rfl | rfl | rfl | rfl
  ·exact Nat.le_add_right _ 4
  ·exact Nat.le_add_right _ 2
  ·exact Nat.le_add_right _ 3
  ·exact Nat.le_refl _
  ·exact Nat.le_add_right _ 1
 exact I1.i31 hc' (I1.hok.fresh hc')
theorem z41{X:Cx}(hc:X.calm=true):f30 X (.builtin "all") (λxs H Q=>∃ (a:Addr) (bs:List Bool),xs=[.ref a]∧SqL X.K H a (bs.map V.bl)∧Q (.bl (bs.all id)) H):=by
 intro pins s σ H xs us Q I r h
 obtain⟨a,bs,rfl,hq,q⟩:=h
 obtain⟨u,rfl,rx⟩:=vals1 r
 cases rx
 obtain⟨its,rv,pl,hz⟩:=I.list hq
 have hlt:a < s.heap.objs.size:=by obtain⟨_,e,_⟩:=pl.isList;exact Heap.lt_size e
 have hlen:its.length=bs.length:=by have:=rv.length;simpa using this.symm
 refine call_all_walk (wpAny_pyIter_list pl.isList ⟨_,_,_,_,_,_,λi=>(bs[i]?).getD true,rfl,Walks.list (by exact I.ok.hd hc) s.heap.objs.size a (Nat.ne_of_lt hlt) its.toArray,⟨⟨_,Heap.get?_push_size _ rfl,rfl,rfl⟩,pl.isList.push _⟩,?_,?_⟩)
 ·intro i v s' Q' E' hP hQ
  have hP':its[i]?=some v:=by simpa using hP
  have hi:i < bs.length:=by rw[← hlen];exact(List.getElem?_eq_some_iff.mp hP').1
  obtain⟨v',hv',rv'⟩:=rv.get (i:=i) (x:=.bl bs[i]) (by simp[hi])
  rw[hP'] at hv';cases hv'
  cases (show v=Value.bool _ from rv')
  exact wpAny_truthy_bool (by simpa [hi] using hQ)
 ·intro h' tk kp
  refine⟨.bl (bs.all id),H,I.kept λb o e=>kp b o (by simpa using Nat.ne_of_lt (Heap.lt_size e)) (Heap.get?_push_of_some _ e),?_,q⟩
  show Value.bool _=Value.bool _
  rw[List.size_toArray,hlen,PyProof.Rows.LSm.range_all]
end L2
namespace MySort
open PySem PySem.W PyProof.Rows
noncomputable def run{α:Type}(cmp:Nat→Nat→Bool):KasT α→α
 |.ret a=>a
 |.ask i j k=>run cmp (k (cmp i j))
theorem run_bind{α β:Type}(cmp:Nat→Nat→Bool)(f:α→KasT β):∀ t:KasT α,run cmp (t.bind f)=run cmp (f (run cmp t))
 |.ret _=>rfl
 |.ask i j k=>run_bind cmp f (k (cmp i j))
section
variable (O:KeyOrd) (key:Nat→O.α)
noncomputable def kk(p:Array Nat)(i:Nat):O.α:=key (p.getD i 0)
noncomputable abbrev j80:Nat→Nat→Bool:=λi j=>O.blt (key i) (key j)
noncomputable def Up(p:Array Nat)(n:Nat):Prop:=∀ i j,i≤j→j < n→O.kle (kk O key p i) (kk O key p j)
noncomputable def Dn(p:Array Nat)(n:Nat):Prop:=∀ i j,i≤j→j < n→O.kle (kk O key p j) (kk O key p i)
variable {O key}
theorem s40{p q:Array Nat}{i j:Nat}(h:p[i]?=q[j]?):kk O key p i=kk O key q j:=by
 unfold kk;rw[Array.getD_eq_getD_getElem?,Array.getD_eq_getD_getElem?,h]
theorem l31{p:Array Nat}{i j:Nat}(hj:j≤p.size)(k:Nat):kk O key (kas_rev p i j) k=if i≤k∧k < j then kk O key p (i + j - 1 - k) else kk O key p k:=by
 have e:=getElem?_mirror_all (i:=i) hj k
 unfold kas_rev
 by_cases h1:i≤k∧k < j
 ·rw[if_pos h1] at e ⊢;exact s40 e
 ·rw[if_neg h1] at e ⊢;exact s40 e
theorem Z31{p:Array Nat}{k d:Nat}(hs:k < p.size)(hd:d≤k)(i:Nat) :
  kk O key (bubble p k d) i=if i=k - d then kk O key p k else if k - d < i∧i≤k then kk O key p (i - 1) else kk O key p i:=by
 have e:=getElem?_bubble hs d hd i
 by_cases h1:i=k - d
 ·rw[if_pos h1] at e ⊢;exact s40 e
 ·rw[if_neg h1] at e ⊢
  by_cases h2:k - d < i∧i≤k
  ·rw[if_pos h2] at e ⊢;exact s40 e
  ·rw[if_neg h2] at e ⊢;exact s40 e
theorem Up.more{p:Array Nat}{n:Nat}(h:Up O key p n)(h1:1≤n)(hl:O.kle (kk O key p (n - 1)) (kk O key p n)):Up O key p (n + 1):=by
 intro i j hij hj
 by_cases e:j=n
 ·subst e
  by_cases e2:i=j
  ·subst e2;exact KeyOrd.kle_refl _
  ·exact KeyOrd.kle_trans (h i (j - 1) (by omega) (by omega)) hl
 ·exact h i j hij (by omega)
theorem Dn.more{p:Array Nat}{n:Nat}(h:Dn O key p n)(h1:1≤n)(hl:O.kle (kk O key p n) (kk O key p (n - 1))):Dn O key p (n + 1):=by
 intro i j hij hj
 by_cases e:j=n
 ·subst e
  by_cases e2:i=j
  ·subst e2;exact KeyOrd.kle_refl _
  ·exact KeyOrd.kle_trans hl (h i (j - 1) (by omega) (by omega))
 ·exact h i j hij (by omega)
theorem l41{p:Array Nat}:∀ (f n:Nat),1≤n→Up O key p n →
  n≤run (j80 O key) (kas_asc p f n)∧run (j80 O key) (kas_asc p f n)≤n + f∧Up O key p (run (j80 O key) (kas_asc p f n)) ∧
   (run (j80 O key) (kas_asc p f n) < n + f→O.klt (kk O key p (run (j80 O key) (kas_asc p f n))) (kk O key p (run (j80 O key) (kas_asc p f n) - 1)))
 |0,n,h1,hu=>⟨Nat.le_refl _,Nat.le_refl _,hu,λh=>absurd h (Nat.lt_irrefl _)⟩
 |f + 1,n,h1,hu=>by
  show n≤run _ (if O.blt (kk O key p n) (kk O key p (n - 1))=true then KasT.ret n else kas_asc p f (n + 1))∧run _ (if O.blt (kk O key p n) (kk O key p (n - 1))=true then KasT.ret n else kas_asc p f (n + 1))≤n + (f + 1) ∧
   Up O key p (run _ (if O.blt (kk O key p n) (kk O key p (n - 1))=true then KasT.ret n else kas_asc p f (n + 1))) ∧
   (run _ (if O.blt (kk O key p n) (kk O key p (n - 1))=true then KasT.ret n else kas_asc p f (n + 1)) < n + (f + 1) →
    O.klt (kk O key p (run _ (if O.blt (kk O key p n) (kk O key p (n - 1))=true then KasT.ret n else kas_asc p f (n + 1)))) (kk O key p (run _ (if O.blt (kk O key p n) (kk O key p (n - 1))=true then KasT.ret n else kas_asc p f (n + 1)) - 1)))
  cases hb:O.blt (kk O key p n) (kk O key p (n - 1)) with
  |true =>
   simp only[if_true]
   exact⟨Nat.le_refl _,by show n≤n + (f + 1);omega,hu,λ_=>hb⟩
  |false =>
   simp only[Bool.false_eq_true,if_false]
   have ih:=l41 f (n + 1) (by omega) (hu.more h1 hb)
   refine⟨by omega,by omega,ih.2.2.1,λh=>ih.2.2.2 (by omega)⟩
theorem rev_eq{p:Array Nat}{i j:Nat}(hj:j≤p.size)(he:∀ k,i≤k→k < j→kk O key p k=kk O key p (j - 1))(k:Nat):kk O key (kas_rev p i j) k=kk O key p k:=by
 rw[l31 hj]
 split
 ·rw[he _ (by omega) (by omega),he k (by omega) (by omega)]
 ·rfl
theorem G60(p:Array Nat)(i j:Nat):(kas_rev p i j).Perm p:=mirror_perm _ _ _ _
theorem G70(p:Array Nat)(i j:Nat):(kas_rev p i j).size=p.size:=mirror_size _ _ _ _
structure DnR(O:KeyOrd)(key:Nat→O.α)(p0 p:Array Nat)(n q:Nat):Prop where
 perm:p.Perm p0
 size:p.size=p0.size
 pos:q + 1≤n
 dn:Dn O key p n
 eq:∀ k,n - (q + 1)≤k→k < n→kk O key p k=kk O key p (n - 1)
theorem DnR.rev{p0 p:Array Nat}{n q:Nat}(h:DnR O key p0 p n q)(hn:n≤p0.size):DnR O key p0 (kas_rev p (n - (q + 1)) n) n q:=by
 have hz:=h.size
 have e:=rev_eq (O:=O) (key:=key) (i:=n - (q + 1)) (j:=n) (p:=p) (by omega) h.eq
 exact⟨(G60 _ _ _).trans h.perm,(G70 _ _ _).trans hz,h.pos,λi j hij hj=>by rw[e,e];exact h.dn i j hij hj,λk h1 h2=>by rw[e,e];exact h.eq k h1 h2⟩
theorem T20{p0:Array Nat}:∀ (f:Nat) (p:Array Nat) (n q:Nat),DnR O key p0 p n q→n + f≤p0.size →
  n≤(run (j80 O key) (kas_desc f p n q)).2.1∧(run (j80 O key) (kas_desc f p n q)).2.1≤n + f ∧
   DnR O key p0 (run (j80 O key) (kas_desc f p n q)).1 (run (j80 O key) (kas_desc f p n q)).2.1 (run (j80 O key) (kas_desc f p n q)).2.2
 |0,p,n,q,h,_=>⟨Nat.le_refl _,Nat.le_refl _,h⟩
 |f + 1,p,n,q,h,hn=>by
  have hp:=h.pos
  have hz:=h.size
  have unf:run (j80 O key) (kas_desc (f + 1) p n q)=run (j80 O key) (if O.blt (kk O key p n) (kk O key p (n - 1))=true then(if q > 0 then kas_desc f (kas_rev p (n - (q + 1)) n) (n + 1) 0 else kas_desc f p (n + 1) 0)
   else .ask (p.getD (n - 1) 0) (p.getD n 0) λd=>if d=true then .ret (p,n,q) else kas_desc f p (n + 1) (q + 1)):=rfl
  rw[unf]
  cases hb:O.blt (kk O key p n) (kk O key p (n - 1)) with
  |true =>
   simp only[if_true]
   have go:∀ p',DnR O key p0 p' n q→(∀ k,kk O key p' k=kk O key p k)→n≤(run (j80 O key) (kas_desc f p' (n + 1) 0)).2.1∧(run (j80 O key) (kas_desc f p' (n + 1) 0)).2.1≤n + (f + 1) ∧
     DnR O key p0 (run (j80 O key) (kas_desc f p' (n + 1) 0)).1 (run (j80 O key) (kas_desc f p' (n + 1) 0)).2.1 (run (j80 O key) (kas_desc f p' (n + 1) 0)).2.2:=λp' h' e=>by
    have ih:=T20 f p' (n + 1) 0 ⟨h'.perm,h'.size,by omega,h'.dn.more (by omega) (by rw[e,e];exact KeyOrd.kle_of_klt hb),λk h1 h2=>by
     have:k=n:=by omega
     subst this;rfl⟩ (by omega)
    exact⟨by omega,by omega,ih.2.2⟩
   split
   ·exact go _ (h.rev (by omega)) (rev_eq (by omega) h.eq)
   ·exact go _ h λ_=>rfl
  |false =>
   simp only[Bool.false_eq_true,if_false]
   have unf2:run (j80 O key) (KasT.ask (p.getD (n - 1) 0) (p.getD n 0) λd=>if d=true then .ret (p,n,q) else kas_desc f p (n + 1) (q + 1)) =
    run (j80 O key) (if O.blt (kk O key p (n - 1)) (kk O key p n)=true then .ret (p,n,q) else kas_desc f p (n + 1) (q + 1)):=rfl
   rw[unf2]
   cases hc:O.blt (kk O key p (n - 1)) (kk O key p n) with
   |true =>
    simp only[if_true]
    exact⟨Nat.le_refl _,by show n≤n + (f + 1);omega,h⟩
   |false =>
    simp only[Bool.false_eq_true,if_false]
    have e:kk O key p n=kk O key p (n - 1):=O.total _ _ hb hc
    have ih:=T20 f p (n + 1) (q + 1) ⟨h.perm,h.size,by omega,h.dn.more (by omega) (by rw[e];exact KeyOrd.kle_refl _),λk h1 h2=>by
     show _=kk O key p n
     by_cases hk:k=n
     ·rw[hk]
     ·rw[e];exact h.eq k (by omega) (by omega)⟩ (by omega)
    exact⟨by omega,by omega,ih.2.2⟩
structure n92(O:KeyOrd)(key:Nat→O.α)(p0:Array Nat)(nrem:Nat)(r:Nat × Array Nat):Prop where
 perm:r.2.Perm p0
 size:r.2.size=p0.size
 lo:1≤r.1
 hi:r.1≤nrem
 up:Up O key r.2 r.1
theorem Z30{p0 p:Array Nat}{n nrem:Nat}(hp:p.Perm p0)(hz:p.size=p0.size)(hd:Dn O key p n)(h1:1≤n)(hn:n≤nrem)(hr:nrem≤p0.size):n92 O key p0 nrem (run (j80 O key) (kas_tail3 n nrem p)):=by
 unfold kas_tail3
 rw[run_bind]
 have hu:Up O key (kas_rev p 0 n) n:=λi j hij hj=>by
  rw[l31 (by omega),l31 (by omega),if_pos (by omega),if_pos (by omega)]
  exact hd _ _ (by omega) (by omega)
 have a:=l41 (O:=O) (key:=key) (p:=kas_rev p 0 n) (nrem - n) n h1 hu
 exact⟨(G60 _ _ _).trans hp,(G70 _ _ _).trans hz,by show 1≤run _ (kas_asc _ _ _);omega,by show run _ (kas_asc _ _ _)≤_;omega,a.2.2.1⟩
theorem A30{p0 p:Array Nat}{n nrem:Nat}(hp:p.Perm p0)(hz:p.size=p0.size)(hd:Dn O key p (n + 1))(hn:n + 1≤nrem)(hr:nrem≤p0.size):n92 O key p0 nrem (run (j80 O key) (kas_descPart n nrem p)):=by
 unfold kas_descPart
 rw[run_bind]
 have d:=T20 (O:=O) (key:=key) (p0:=p0) (nrem - (n + 1)) p (n + 1) 0 ⟨hp,hz,by omega,hd,λk h1 h2=>by
  have:k=n:=by omega
  subst this;rfl⟩ (by omega)
 obtain⟨d1,d2,d3⟩:=d
 have hpos:=d3.pos
 split
 ·have d4:=d3.rev (by omega)
  exact Z30 d4.perm d4.size d4.dn (by omega) (by omega) hr
 ·exact Z30 d3.perm d3.size d3.dn (by omega) (by omega) hr
theorem z51{p:Array Nat}{nrem:Nat}(h1:1≤nrem)(hr:nrem≤p.size):n92 O key p nrem (run (j80 O key) (kas_count nrem p)):=by
 unfold kas_count
 rw[run_bind]
 have a:=l41 (O:=O) (key:=key) (p:=p) (nrem - 1) 1 (Nat.le_refl _) (λi j hij hj=>by
  have:i=j:=by omega
  subst this;exact KeyOrd.kle_refl _)
 generalize run (j80 O key) (kas_asc p (nrem - 1) 1)=n at a ⊢
 obtain⟨a1,a2,a3,a4⟩:=a
 split
 ·exact⟨Array.Perm.refl _,rfl,a1,by show n≤nrem;omega,a3⟩
 ·rename_i hne
  have hlt:n < nrem:=by
   have:n≠nrem:=by simpa using hne
   omega
  have hl:=a4 (by omega)
  split
  ·rename_i h2
   have unf:run (j80 O key) (KasT.ask (p.getD 0 0) (p.getD (n - 1) 0) λc=>if c=true then .ret (n,p) else kas_descPart n nrem (kas_rev p 0 n)) =
    run (j80 O key) (if O.blt (kk O key p 0) (kk O key p (n - 1))=true then .ret (n,p) else kas_descPart n nrem (kas_rev p 0 n)):=rfl
   rw[unf]
   cases hb:O.blt (kk O key p 0) (kk O key p (n - 1)) with
   |true =>
    simp only[if_true]
    exact⟨Array.Perm.refl _,rfl,a1,by show n≤nrem;omega,a3⟩
   |false =>
    simp only[Bool.false_eq_true,if_false]
    have e0:kk O key p 0=kk O key p (n - 1):=O.total _ _ hb (a3 0 (n - 1) (by omega) (by omega))
    have e:∀ k,0≤k→k < n→kk O key p k=kk O key p (n - 1):=λk _ hk=>by
     refine KeyOrd.kle_antisymm (a3 k (n - 1) (by omega) (by omega)) ?_
     rw[← e0];exact a3 0 k (by omega) hk
    have er:=rev_eq (O:=O) (key:=key) (i:=0) (j:=n) (p:=p) (by omega) e
    refine A30 (G60 _ _ _) (G70 _ _ _) ?_ (by omega) hr
    have dn:Dn O key (kas_rev p 0 n) n:=λi j hij hj=>by
     rw[er,er,e i (by omega) (by omega),e j (by omega) (by omega)];exact KeyOrd.kle_refl _
    refine dn.more a1 ?_
    rw[er,er];exact KeyOrd.kle_of_klt hl
  ·have h2:n=1:=by omega
   subst h2
   refine A30 (Array.Perm.refl _) rfl ?_ (by omega) hr
   have dn:Dn O key p 1:=λi j hij hj=>by
    have:i=j:=by omega
    subst this;exact KeyOrd.kle_refl _
   exact dn.more (Nat.le_refl _) (KeyOrd.kle_of_klt hl)
theorem G80{p:Array Nat}{k:Nat}(hu:Up O key p k):∀ (f l r:Nat),l≤r→r≤k→r - l≤f→(∀ i,i < l→O.kle (kk O key p i) (kk O key p k))→(∀ i,r≤i→i < k→O.klt (kk O key p k) (kk O key p i)) →
  run (j80 O key) (kas_place p k f l r)≤k∧(∀ i,i < run (j80 O key) (kas_place p k f l r)→O.kle (kk O key p i) (kk O key p k))∧(∀ i,run (j80 O key) (kas_place p k f l r)≤i→i < k→O.klt (kk O key p k) (kk O key p i))
 |0,l,r,h1,h2,h3,h4,h5=>by
  have:l=r:=by omega
  subst this
  exact⟨h2,h4,h5⟩
 |f + 1,l,r,h1,h2,h3,h4,h5=>by
  have unf:kas_place p k (f + 1) l r=(if l ≥ r then .ret l else .ask (p.getD k 0) (p.getD ((l + r) / 2) 0) λc=>if c=true then kas_place p k f l ((l + r) / 2) else kas_place p k f ((l + r) / 2 + 1) r):=rfl
  rw[unf]
  by_cases hlr:l ≥ r
  ·rw[if_pos hlr]
   have:l=r:=by omega
   subst this
   exact⟨h2,h4,h5⟩
  ·rw[if_neg hlr]
   have unf2:run (j80 O key) (KasT.ask (p.getD k 0) (p.getD ((l + r) / 2) 0) λc=>if c=true then kas_place p k f l ((l + r) / 2) else kas_place p k f ((l + r) / 2 + 1) r) =
    run (j80 O key) (if O.blt (kk O key p k) (kk O key p ((l + r) / 2))=true then kas_place p k f l ((l + r) / 2) else kas_place p k f ((l + r) / 2 + 1) r):=rfl
   rw[unf2]
   cases hb:O.blt (kk O key p k) (kk O key p ((l + r) / 2)) with
   |true =>
    simp only[if_true]
    exact G80 hu f l ((l + r) / 2) (by omega) (by omega) (by omega) h4 λi hi hk=>KeyOrd.klt_of_klt_of_kle hb (hu _ i hi hk)
   |false =>
    simp only[Bool.false_eq_true,if_false]
    exact G80 hu f ((l + r) / 2 + 1) r (by omega) (by omega) (by omega) (λi hi=>KeyOrd.kle_trans (hu i ((l + r) / 2) (by omega) (by omega)) hb) h5
theorem F81{p0:Array Nat}:∀ (f:Nat) (p:Array Nat) (k:Nat),p.Perm p0→p.size=p0.size→Up O key p k→k + f≤p0.size →
  (run (j80 O key) (kas_bin f p k)).Perm p0∧Up O key (run (j80 O key) (kas_bin f p k)) (k + f)
 |0,p,k,hp,_,hu,_=>⟨hp,hu⟩
 |f + 1,p,k,hp,hz,hu,hk=>by
  have unf:kas_bin (f + 1) p k=(kas_place p k k 0 k).bind λl=>kas_bin f (bubble p k (k - l)) (k + 1):=rfl
  rw[unf,run_bind]
  have pl:=G80 (O:=O) (key:=key) hu k 0 k (by omega) (by omega) (by omega) (λi hi=>absurd hi (Nat.not_lt_zero _)) (λi h1 h2=>absurd h2 (by omega))
  generalize run (j80 O key) (kas_place p k k 0 k)=l at pl ⊢
  obtain⟨l1,l2,l3⟩:=pl
  have hb:=Z31 (O:=O) (key:=key) (p:=p) (k:=k) (d:=k - l) (by omega) (by omega)
  have hu':Up O key (bubble p k (k - l)) (k + 1):=λi j hij hj=>by
   rw[hb,hb]
   have el:k - (k - l)=l:=by omega
   rw[el]
   by_cases ei:i=l
   ·rw[if_pos ei]
    by_cases ej:j=l
    ·rw[if_pos ej];exact KeyOrd.kle_refl _
    ·rw[if_neg ej,if_pos (by omega)]
     exact KeyOrd.kle_of_klt (l3 _ (by omega) (by omega))
   ·rw[if_neg ei]
    by_cases hi:l < i∧i≤k
    ·rw[if_pos hi,if_neg (by omega),if_pos (by omega)]
     exact hu _ _ (by omega) (by omega)
    ·rw[if_neg hi]
     by_cases ej:j=l
     ·rw[if_pos ej];exact l2 _ (by omega)
     ·rw[if_neg ej]
      by_cases hj':l < j∧j≤k
      ·rw[if_pos hj'];exact hu _ _ (by omega) (by omega)
      ·rw[if_neg hj'];exact hu _ _ hij (by omega)
  have ih:=F81 (p0:=p0) f (bubble p k (k - l)) (k + 1) ((bubble_perm _ _ _).trans hp) ((bubble_size _ _ _).trans hz) hu' (by omega)
  exact⟨ih.1,by have:=ih.2;rwa [show k + 1 + f=k + (f + 1) by omega] at this⟩
theorem L31{n:Nat}(h1:1≤n):(run (j80 O key) (kas_sort n)).Perm (List.range n).toArray∧Up O key (run (j80 O key) (kas_sort n)) n:=by
 unfold kas_sort
 rw[run_bind]
 have c:=z51 (O:=O) (key:=key) (p:=(List.range n).toArray) h1 (by simp)
 generalize run (j80 O key) (kas_count n (List.range n).toArray)=r at c ⊢
 obtain⟨c1,c2,c3,c4,c5⟩:=c
 split
 ·have b:=F81 (O:=O) (key:=key) (n - max r.1 1) r.2 (max r.1 1) c1 c2 (by rw[Nat.max_eq_left c3];exact c5) (by simp;omega)
  exact⟨b.1,by have:=b.2;rwa [show max r.1 1 + (n - max r.1 1)=n by omega] at this⟩
 ·have:r.1=n:=by omega
  rw[this] at c5
  exact⟨c1,c5⟩
end
end MySort
namespace MySort
open PySem PySem.W PyProof.Rows
noncomputable def m90{α:Type}(n:Nat):KasT α→Prop
 |.ret _=>True
 |.ask i j k=>(i < n∧j < n)∧∀ b,m90 n (k b)
noncomputable def N30{α:Type}(G:α→Prop):KasT α→Prop
 |.ret a=>G a
 |.ask _ _ k=>∀ b,N30 G (k b)
theorem m90.bind{α β:Type}{n:Nat}{f:α→KasT β}{G:α→Prop}(hf:∀ a,G a→m90 n (f a)):∀ {t:KasT α},m90 n t→N30 G t→m90 n (t.bind f)
 |.ret a,_,g=>hf a g
 |.ask _ _ _,h,g=>⟨h.1,λb=>m90.bind hf (h.2 b) (g b)⟩
theorem N30.bind{α β:Type}{f:α→KasT β}{G:α→Prop}{G':β→Prop}(hf:∀ a,G a→N30 G' (f a)):∀ {t:KasT α},N30 G t→N30 G' (t.bind f)
 |.ret a,g=>hf a g
 |.ask _ _ _,g=>λb=>N30.bind hf (g b)
noncomputable def Low(n:Nat)(p:Array Nat):Prop:=∀ i,p.getD i 0 < n
theorem l51{n:Nat}{p q:Array Nat}(h1:1≤n)(hp:p.Perm q)(hq:∀ x∈q.toList,x < n):Low n p:=λi=>by
 by_cases hi:i < p.size
 ·have e:p.getD i 0=p[i]:=by simp[Array.getD,hi]
  rw[e]
  exact hq _ (hp.toList.mem_iff.mp (by simp))
 ·have e:p.getD i 0=0:=by simp[Array.getD,hi]
  rw[e];exact h1
structure Good(n:Nat)(q p:Array Nat):Prop where
 low:Low n p
 perm:p.Perm q
theorem Good.rev{n:Nat}{q p:Array Nat}(h1:1≤n)(hq:∀ x∈q.toList,x < n)(g:Good n q p)(i j:Nat):Good n q (kas_rev p i j) :=
 have e:=(mirror_perm p i j ((j - i) / 2)).trans g.perm
 ⟨l51 h1 e hq,e⟩
theorem Good.bub{n:Nat}{q p:Array Nat}(h1:1≤n)(hq:∀ x∈q.toList,x < n)(g:Good n q p)(i j:Nat):Good n q (bubble p i j) :=
 have e:=(bubble_perm p i j).trans g.perm
 ⟨l51 h1 e hq,e⟩
section
variable {n:Nat}{q:Array Nat}
theorem G90{p:Array Nat}(g:Low n p):∀ (f k:Nat),m90 n (kas_asc p f k)
 |0,_=>trivial
 |f + 1,k=>⟨⟨g _,g _⟩,λb=>by cases b with | true=>exact trivial | false=>exact G90 g f (k + 1)⟩
theorem s50{p:Array Nat}:∀ (f k:Nat),N30 (λ_=>True) (kas_asc p f k)
 |0,_=>trivial
 |f + 1,k=>λb=>by cases b with | true=>exact trivial | false=>exact s50 f (k + 1)
theorem A40(h1:1≤n)(hq:∀ x∈q.toList,x < n):∀ (f:Nat) (p:Array Nat) (k c:Nat),Good n q p→m90 n (kas_desc f p k c)∧N30 (λr=>Good n q r.1) (kas_desc f p k c)
 |0,p,k,c,g=>⟨trivial,g⟩
 |f + 1,p,k,c,g=>by
  have a:=λp' k' c' g'=>(A40 h1 hq f p' k' c' g').1
  have r:=λp' k' c' g'=>(A40 h1 hq f p' k' c' g').2
  refine⟨⟨⟨g.low _,g.low _⟩,λb=>?_⟩,λb=>?_⟩
  ·cases b with
   |true =>
    show m90 n (if c > 0 then kas_desc f (kas_rev p (k - (c + 1)) k) (k + 1) 0 else kas_desc f p (k + 1) 0)
    split
    ·exact a _ _ _ (g.rev h1 hq _ _)
    ·exact a _ _ _ g
   |false=>exact⟨⟨g.low _,g.low _⟩,λd=>by cases d with | true=>exact trivial | false=>exact a _ _ _ g⟩
  ·cases b with
   |true =>
    show N30 _ (if c > 0 then kas_desc f (kas_rev p (k - (c + 1)) k) (k + 1) 0 else kas_desc f p (k + 1) 0)
    split
    ·exact r _ _ _ (g.rev h1 hq _ _)
    ·exact r _ _ _ g
   |false=>exact λd=>by cases d with | true=>exact g | false=>exact r _ _ _ g
theorem p00(h1:1≤n)(hq:∀ x∈q.toList,x < n){p:Array Nat}(g:Good n q p)(k m:Nat):m90 n (kas_tail3 k m p)∧N30 (λr=>Good n q r.2) (kas_tail3 k m p) :=
 have g':=g.rev h1 hq 0 k
 And.intro (m90.bind (f:=λm'=>KasT.ret (m',kas_rev p 0 k)) (λ_ _=>True.intro) (G90 g'.low (m - k) k) (s50 (m - k) k)) (N30.bind (f:=λm'=>KasT.ret (m',kas_rev p 0 k)) (G':=λr=>Good n q r.2) (λ_ _=>g') (s50 (m - k) k))
theorem g50(h1:1≤n)(hq:∀ x∈q.toList,x < n){p:Array Nat}(g:Good n q p)(k m:Nat):m90 n (kas_descPart k m p)∧N30 (λr=>Good n q r.2) (kas_descPart k m p):=by
 have d:=A40 h1 hq (m - (k + 1)) p (k + 1) 0 g
 refine⟨m90.bind (λr gr=>?_) d.1 d.2,N30.bind (λr gr=>?_) d.2⟩
 ·split
  ·exact(p00 h1 hq (gr.rev h1 hq _ _) _ _).1
  ·exact(p00 h1 hq gr _ _).1
 ·split
  ·exact(p00 h1 hq (gr.rev h1 hq _ _) _ _).2
  ·exact(p00 h1 hq gr _ _).2
theorem f61(h1:1≤n)(hq:∀ x∈q.toList,x < n){p:Array Nat}(g:Good n q p)(m:Nat):m90 n (kas_count m p)∧N30 (λr=>Good n q r.2) (kas_count m p):=by
 refine⟨m90.bind (λk _=>?_) (G90 g.low _ _) (s50 _ _),N30.bind (λk _=>?_) (s50 _ _)⟩
 ·split
  ·exact trivial
  ·split
   ·exact⟨⟨g.low _,g.low _⟩,λb=>by cases b with | true=>exact trivial | false=>exact(g50 h1 hq (g.rev h1 hq _ _) _ _).1⟩
   ·exact(g50 h1 hq g _ _).1
 ·split
  ·exact g
  ·split
   ·exact λb=>by cases b with | true=>exact g | false=>exact(g50 h1 hq (g.rev h1 hq _ _) _ _).2
   ·exact(g50 h1 hq g _ _).2
theorem h00{p:Array Nat}(g:Low n p)(k:Nat):∀ (f l r:Nat),m90 n (kas_place p k f l r)∧N30 (λ_=>True) (kas_place p k f l r)
 |0,_,_=>⟨trivial,trivial⟩
 |f + 1,l,r=>by
  have e:kas_place p k (f + 1) l r=(if l ≥ r then .ret l else .ask (p.getD k 0) (p.getD ((l + r) / 2) 0) λc=>if c=true then kas_place p k f l ((l + r) / 2) else kas_place p k f ((l + r) / 2 + 1) r):=rfl
  rw[e]
  split
  ·exact⟨trivial,trivial⟩
  ·refine⟨⟨⟨g _,g _⟩,λb=>?_⟩,λb=>?_⟩
   ·cases b with
    |true=>exact(h00 g k f _ _).1
    |false=>exact(h00 g k f _ _).1
   ·cases b with
    |true=>exact(h00 g k f _ _).2
    |false=>exact(h00 g k f _ _).2
theorem Z40(h1:1≤n)(hq:∀ x∈q.toList,x < n):∀ (f:Nat) (p:Array Nat) (k:Nat),Good n q p→m90 n (kas_bin f p k)
 |0,_,_,_=>trivial
 |f + 1,p,k,g=>m90.bind (λl _=>Z40 h1 hq f _ _ (g.bub h1 hq _ _)) (h00 g.low k k 0 k).1 (h00 g.low k k 0 k).2
theorem l61(h1:1≤n):m90 n (kas_sort n):=by
 have hq:∀ x∈((List.range n).toArray).toList,x < n:=λx hx=>by simpa using hx
 have g:Good n (List.range n).toArray (List.range n).toArray:=⟨l51 h1 (Array.Perm.refl _) hq,Array.Perm.refl _⟩
 have c:=f61 h1 hq g n
 refine m90.bind (λr gr=>?_) c.1 c.2
 split
 ·exact Z40 h1 hq _ _ _ gr
 ·exact trivial
end
theorem N40{α:Type}{n:Nat}{cmp:Nat→Nat→Bool}{ask:Nat→Nat→(Bool→Shared→Prop)→Shared→Prop}{s:Shared}(h:∀ i j (C:Bool→Shared→Prop),i < n→j < n→C (cmp i j) s→ask i j C s){Q:α→Shared→Prop} :
  ∀ (t:KasT α),m90 n t→Q (run cmp t) s→t.kasWp ask Q s
 |.ret _,_,q=>q
 |.ask i j k,a,q=>h i j _ a.1.1 a.1.2 (N40 h (k (cmp i j)) (a.2 _) q)
noncomputable def i40:List Int→List Int→Bool
 |[],[]=>false
 |[],_::_=>true
 |_::_,[]=>false
 |x::r,y::q=>if x=y then i40 r q else decide (x < y)
theorem q60:∀ a,i40 a a=false
 |[]=>rfl
 |x::r=>by show(if x=x then i40 r r else _)=_;rw[if_pos rfl];exact q60 r
theorem p10:∀ a b c,i40 a b=true→i40 b c=true→i40 a c=true
 |[],[],_,h,_=>by cases h
 |[],_::_,[],_,h=>by cases h
 |[],_::_,_::_,_,_=>rfl
 |_::_,[],_,h,_=>by cases h
 |_::_,_::_,[],_,h=>by cases h
 |x::a,y::b,z::c,h1,h2=>by
  have h1:(if x=y then i40 a b else decide (x < y))=true:=h1
  have h2:(if y=z then i40 b c else decide (y < z))=true:=h2
  show(if x=z then i40 a c else decide (x < z))=true
  by_cases e1:x=y
  ·rw[if_pos e1] at h1
   by_cases e2:y=z
   ·rw[if_pos e2] at h2
    rw[if_pos (e1.trans e2)]
    exact p10 a b c h1 h2
   ·rw[if_neg e2] at h2
    rw[if_neg (by omega)]
    rw[e1];exact h2
  ·rw[if_neg e1] at h1
   have l1:x < y:=by simpa using h1
   by_cases e2:y=z
   ·rw[if_neg (by omega)];exact decide_eq_true (by omega)
   ·rw[if_neg e2] at h2
    have l2:y < z:=by simpa using h2
    rw[if_neg (by omega)];exact decide_eq_true (by omega)
theorem p20:∀ a b,i40 a b=false→i40 b a=false→a=b
 |[],[],_,_=>rfl
 |[],_::_,h,_=>by cases h
 |_::_,[],_,h=>by cases h
 |x::a,y::b,h1,h2=>by
  have h1:(if x=y then i40 a b else decide (x < y))=false:=h1
  have h2:(if y=x then i40 b a else decide (y < x))=false:=h2
  by_cases e:x=y
  ·subst e
   rw[if_pos rfl] at h1 h2
   rw[p20 a b h1 h2]
  ·rw[if_neg e] at h1
   rw[if_neg (Ne.symm e)] at h2
   have l1:¬ x < y:=by simpa using h1
   have l2:¬ y < x:=by simpa using h2
   omega
theorem Z50(a b c:List Int)(h:i40 a c=true):i40 a b=true∨i40 b c=true:=by
 cases hab:i40 a b with
 |true=>exact .inl rfl
 |false =>
  right
  cases hba:i40 b a with
  |true=>exact p10 b a c hba h
  |false=>rw[← p20 a b hab hba];exact h
noncomputable def L41:KeyOrd:=⟨List Int,i40,q60,p10,Z50,p20⟩
end MySort
namespace MySort
open PySem PySem.W PyProof.Rows
section
variable {P:Program}{w:World}{A:Around}{E:Value→Shared→Prop}{s:Shared}
noncomputable def sortedBy(ks:List (List Int))(p:List Nat):Prop:=p.Perm (List.range ks.length)∧(p.map λi=>ks.getD i []).Pairwise λx y=>i40 y x=false
theorem range_getD{α:Type}(d:α):∀ (l:List α),(List.range l.length).map (λi=>l.getD i d)=l:=λl=>by
 refine List.ext_getElem (by simp) λi h1 h2=>?_
 simp at h1
 simp[h1]
noncomputable def o02(P:Program)(w:World)(A:Around)(s:Shared)(vs:List Value)(Pr:List Nat→Prop)(kd:SortKind):Prop:=∃ p:List Nat,Pr p∧∀ (E:Value→Shared→Prop) (Q:Unit × SortSt→Shared→Prop),(∀ st',failedOf st'=none→arrOf st'=(p.toArray).map (kas_item (vs.toArray.zip vs.toArray))→Q ((),st') s)→wpAny (model P w) A (sortRuns'.run (SortSt.mk' kd (vs.toArray.zip vs.toArray) #[] 7 none)) Q E s
structure Z41(P:Program)(w:World)(A:Around)(s:Shared)(vs:List Value)(Pr:List Nat→Prop)(kd:SortKind):Prop where
 len:vs.length≤1000
 few:vs.length < 2→Pr (List.range vs.length)
 all:∀ p,Pr p→p.length=vs.length
 kind:2≤vs.length→∀ (E:Value→Shared→Prop) (Q:SortKind→Shared→Prop),Q kd s→wpAny (model P w) A (keyKind' vs.toArray) Q E s
 run:2≤vs.length→o02 P w A s vs Pr kd
theorem Z51{ks:List (List Int)}{n:Nat}(hl:n=ks.length)(h2:n < 2):sortedBy ks (List.range n):=by
 subst hl
 refine⟨.refl _,?_⟩
 rw[range_getD]
 match ks,h2 with
 |[],_=>exact .nil
 |[_],_=>simp
 |_::_::_,q=>simp at q;omega
theorem L51{vs:List Value}{ks:List (List Int)}{kd:SortKind}(hlen:vs.length=ks.length)(h64:vs.length < 64)(ask:∀ i j,i < vs.length→j < vs.length→∀ (E:Value→Shared→Prop) (C:Bool→Shared→Prop),C (i40 (ks.getD i []) (ks.getD j [])) s→wpAny (model P w) A (keyLt' kd (vs.getD i Value.none) (vs.getD j Value.none)) C E s)(h2':2≤vs.length):o02 P w A s vs (sortedBy ks) kd:=by
 have so:=L31 (O:=L41) (key:=λi=>ks.getD i []) (n:=vs.length) (by omega)
 refine⟨(run (j80 L41 λi=>ks.getD i []) (kas_sort vs.length)).toList,?_,λE Q q=>?_⟩
 ·generalize run (j80 L41 λi=>ks.getD i []) (kas_sort vs.length)=p at so
  refine⟨?_,?_⟩
  ·have:=so.1.toList;rw[hlen] at this;simpa using this
  ·rw[List.pairwise_iff_getElem]
   intro i j hi hj hij
   have hsz:p.size=vs.length:=by have:=so.1.size_eq;simpa using this
   have hi':i < p.size:=by simpa using hi
   have hj':j < p.size:=by simpa using hj
   have u:=so.2 i j (Nat.le_of_lt hij) (by omega)
   have g:∀ k,k < p.size→kk L41 (λi=>ks.getD i []) p k=ks.getD (p.toList.getD k 0) []:=λk hk=>by show ks.getD (p.getD k 0) []=_;rw[Array.getD_eq_getD_getElem?,List.getD_eq_getElem?_getD (l:=p.toList),Array.getElem?_toList]
   have u':i40 (ks.getD (p.toList.getD j 0) []) (ks.getD (p.toList.getD i 0) [])=false:=by
    have:=u;unfold KeyOrd.kle at this;rw[g i hi',g j hj'] at this;exact this
   simpa [hi',hj'] using u'
 ·refine wpAny_mono (kat_run (s:=s) (Q:=λst' s'=>s'=s∧failedOf st'=none∧arrOf st'=(run (j80 L41 λi=>ks.getD i []) (kas_sort vs.length)).map (kas_item (vs.toArray.zip vs.toArray)))
   (G:=λp s'=>s'=s∧p=run (j80 L41 λi=>ks.getD i []) (kas_sort vs.length)) rfl h2' h64 (λp st' s' a1 a2 a3 a4=>⟨a4.1,a3,by rw[a2,a4.2]⟩)
   (N40 (n:=vs.length) (cmp:=j80 L41 λi=>ks.getD i []) (λi j C hi hj hC=>ask i j hi hj _ C hC) (kas_sort vs.length) (l61 (by omega)) ⟨rfl,rfl⟩)) ?_ λ_ _ e=>e
  rintro ⟨⟨⟩,st'⟩ s' ⟨hs',hf,har⟩
  subst hs'
  exact q st' hf har
noncomputable def l71(h h':Heap):Prop:=∀ b o,h.get? b=some o→o.cls=.type "tuple"→h'.get? b=some o
theorem z61{a:Addr}{vs:List Value}{Pr:List Nat→Prop}{kd:SortKind}{n:Nat}{R:PySem.Fin→Shared→Prop}(ho:s.heap.get? a=some (seqObj "list" vs.toArray n))(hk:∀ h',l71 s.heap h'→Z41 P w A { s with heap:=h' } vs Pr kd)
  (h:∀ (p:List Nat) (h':Heap) (c:Nat),Pr p→(∀ b o,b≠a→s.heap.get? b=some o→h'.get? b=some o)→h'.get? a=some (seqObj "list" (p.map λi=>vs.getD i Value.none).toArray c)→R (.done (.ret .none)) { s with heap:=h' }) :
  wpAny (model P w) A (Builtin.«list.sort» ⟨[.ref a],[]⟩) R E s:=by
 have ha:a < s.heap.objs.size:=Heap.lt_size ho
 have h64:=(hk s.heap λ_ _ e _=>e).len
 have s1:=Heap.SameBut.update s.heap a (Obj.mapSeq λ_=>(#[]:Array Value))
 obtain⟨e1,ho1⟩:∃ e1,(s.heap.update a (Obj.mapSeq λ_=>(#[]:Array Value))).get? a=some (seqObj "list" #[] e1):=⟨_,get?_update_seq ho λ_=>#[]⟩
 have kp:∀ b o,b≠a→s.heap.get? b=some o→(((s.heap.update a (Obj.mapSeq λ_=>(#[]:Array Value))).push (seqObj "tuple" vs.toArray 0)).push (seqObj "list" #[] 0)).get? b=some o:=λb o hb e=>Heap.get?_push_of_some _ (Heap.get?_push_of_some _ ((s1.2 b hb).trans e))
 have ho6:(((s.heap.update a (Obj.mapSeq λ_=>(#[]:Array Value))).push (seqObj "tuple" vs.toArray 0)).push (seqObj "list" #[] 0)).get? a=some (seqObj "list" #[] e1):=Heap.get?_push_of_some _ (Heap.get?_push_of_some _ ho1)
 have hk6:=hk (((s.heap.update a (Obj.mapSeq λ_=>(#[]:Array Value))).push (seqObj "tuple" vs.toArray 0)).push (seqObj "list" #[] 0)) (λb o e hc=>kp b o (λq=>by subst q;rw[ho] at e;cases e;have hc':Value.type "list"=Value.type "tuple":=hc;injection hc' with hc';exact absurd hc' (by decide)) e)
 rw[list_sort_plain];refine wpAny_bind (listItems_at ho rfl (wpAny_bind (listUpdate_at ho rfl ?_ (by rw[List.size_toArray,sizeLine_eq];omega) (Nat.zero_le _))))
 refine wpAny_bind (seqEpoch_at ho1 rfl (wpAny_bind (wpAny_newTuple ?_ (by show vs.length≤_;rw[sizeLine_eq];omega))));refine wpAny_bind (wpAny_newList (wpAny_holding ?_) (Nat.zero_le _))
 show wpAny (model P w) A _ R E { s with heap:=((s.heap.update a (Obj.mapSeq λ_=>(#[]:Array Value))).push (seqObj "tuple" vs.toArray 0)).push (seqObj "list" #[] 0) }
 generalize hH:((s.heap.update a (Obj.mapSeq λ_=>(#[]:Array Value))).push (seqObj "tuple" vs.toArray 0)).push (seqObj "list" #[] 0)=h6 at kp ho6 hk6 ⊢
 have fin:∀ (p:List Nat) (out:Array Value),out=(p.map λi=>vs.getD i Value.none).toArray→Pr p→wpAny (model P w) A (do
   let touched:=(← seqEpoch a) != e1
   Builtin.List.listUpdate (.ref a) λ_=>out
   if touched then rule "list.sort.modified";raiseError "ValueError" "list modified during sort"
   ret .none) R E { s with heap:=h6 }:=λp out eo hp=>by
  subst eo
  have hsz:(p.map λi=>vs.getD i Value.none).toArray.size=vs.length:=by rw[List.size_toArray,List.length_map,(hk s.heap λ_ _ e _=>e).all p hp]
  have s2:=Heap.SameBut.update h6 a (Obj.mapSeq λ_=>(p.map λi=>vs.getD i Value.none).toArray)
  refine wpAny_bind (seqEpoch_at ho6 rfl (wpAny_bind (listUpdate_at ho6 rfl ?_ (Nat.zero_le _) (Nat.le_trans (Nat.le_of_eq hsz) (by rw[sizeLine_eq];omega)))))
  simp only[bne_self_eq_false,Bool.false_eq_true,if_false]
  exact wpAny_pure (h p _ _ hp (λb o hb e=>(s2.2 b hb).trans (kp b o hb e)) (get?_update_seq ho6 λ_=>(p.map λi=>vs.getD i Value.none).toArray))
 dsimp only
 by_cases h2:vs.toArray.size < 2
 ·rw[if_pos h2,if_pos h2];refine wpAny_bind (wpAny_pure ?_);rw[StateT.run_pure];refine wpAny_bind (wpAny_pure ?_);dsimp only
  refine fin (List.range vs.length) _ ?_ ((hk s.heap λ_ _ e _=>e).few (by simpa using h2))
  rw[range_getD];apply Array.toList_inj.mp;rw[Array.toList_map];show List.map _ (vs.toArray.zip vs.toArray).toList=vs;rw[ksk_zip];exact List.map_snd_zip (Nat.le_refl _)
 ·rw[if_neg h2,if_neg h2]
  have h2':2≤vs.length:=by simpa using h2
  refine wpAny_bind (hk6.kind h2' _ _ ?_)
  obtain⟨p,hp,hr⟩:=hk6.run h2'
  refine wpAny_bind (hr _ _ λst' hf har=>?_)
  dsimp only
  rw[hf]
  exact fin p _ (kat_snds rfl har) hp
end
end MySort
namespace TS
open PySem PySem.W PyProof.Rows
structure Tw where
 a:Array Nat
 pending:Array (Nat × Nat × Nat)
 minGallop:Nat
noncomputable abbrev TM:=StateT Tw Option
section
variable (n:Nat) (cmp:Nat→Nat→Bool)
noncomputable def ltT(x y:Nat):TM Bool:=if x < n∧y < n then pure (cmp x y) else λ_=>none
noncomputable def l81(arr:Array Nat)(i:Nat):TM Nat:=match arr.toList[i]? with
 |some p=>pure p
 |none=>λ_=>none
noncomputable def L61(i j:Nat):TM Bool:=do
 let a:=(← get).a
 ltT n cmp (← l81 a i) (← l81 a j)
noncomputable def w22(i j:Nat):TM Unit:=modify λs=>{ s with a:=mirror s.a i j ((j - i) / 2) }
noncomputable def mvL(a:Array Nat)(src dst:Nat):Array Nat:=⟨a.toList.take dst++((a.toList.drop src).take 1++((a.toList.take src).drop dst++a.toList.drop (src + 1)))⟩
theorem Z61{a:Array Nat}{src dst:Nat}(h:src < a.size)(h2:dst≤src):mvL a src dst=bubble a src (src - dst):=by
 apply Array.ext_getElem?
 intro k
 rw[getElem?_bubble h (src - dst) (by omega) k,show src - (src - dst)=dst by omega]
 have hl:src < a.toList.length:=h
 rw[← Array.getElem?_toList,← Array.getElem?_toList,← Array.getElem?_toList,← Array.getElem?_toList]
 show(a.toList.take dst++((a.toList.drop src).take 1++((a.toList.take src).drop dst++a.toList.drop (src + 1))))[k]?=_
 generalize a.toList=l at hl
 rw[List.getElem?_append,List.getElem?_append,List.getElem?_append,List.length_take,List.length_take,List.length_drop,List.length_drop,List.length_take,show min dst l.length=dst by omega,show min 1 (l.length - src)=1 by omega,show min src l.length - dst=src - dst by omega,List.getElem?_take,List.getElem?_take,List.getElem?_drop,List.getElem?_drop,List.getElem?_drop,List.getElem?_take]
 by_cases c1:k < dst
 ·rw[if_pos c1,if_pos c1,if_neg (by omega),if_neg (by omega)]
 ·rw[if_neg c1]
  by_cases c2:k=dst
  ·rw[if_pos (by omega),if_pos (by omega),if_pos c2,show src + (k - dst)=src by omega]
  ·rw[if_neg (by omega),if_neg c2]
   by_cases c3:k≤src
   ·rw[if_pos (by omega),if_pos (by omega),if_pos (by omega),show dst + (k - dst - 1)=k - 1 by omega]
   ·rw[if_neg (by omega),if_neg (by omega),show src + 1 + (k - dst - 1 - (src - dst))=k by omega]
noncomputable def L71(src dst:Nat):TM Unit:=λt=>if src < t.a.size∧dst≤src then some ((),{ t with a:=mvL t.a src dst }) else none
end
section
variable {prog:Program}{w:World}{A:Around}{E:Value→Shared→Prop}{s:Shared}{κ:SortKind}{it:Array Keyed}{n:Nat}{cmp:Nat→Nat→Bool}
noncomputable def co(κ:SortKind)(it:Array Keyed)(t:Tw):SortSt:=SortSt.mk' κ (t.a.map (kas_item it)) t.pending t.minGallop none
noncomputable def Sim(prog:Program)(w:World)(A:Around)(E:Value→Shared→Prop)(s:Shared)(κ:SortKind)(it:Array Keyed){α β:Type}(rel:β→α)(m:StateT SortSt Sem α)(f:TM β):Prop :=
 ∀ (t:Tw) (b:β) (t':Tw),f t=some (b,t')→∀ Q:α→SortSt→Shared→Prop,Q (rel b) (co κ it t') s→kasC (model prog w) A E m Q (co κ it t) s
local macro_rules | `(tactic| trivial)=>`(tactic| skip)
section
variable {α β α' β':Type}{r:β→α}{r':β'→α'}
theorem y50{a:α}(b:β)(e:a=r b):Sim prog w A E s κ it r (pure a) (pure b):=λt b' t' h Q q=>by
 cases h
 subst e
 exact kasC_pure q
theorem l10{m:StateT SortSt Sem α}{f:TM β}{k:α→StateT SortSt Sem α'}{g:β→TM β'}(h:Sim prog w A E s κ it r m f)(hk:∀ b,Sim prog w A E s κ it r' (k (r b)) (g b)):Sim prog w A E s κ it r' (m >>= k) (f >>= g):=λt b t' e Q q=>by
 have e:(f t).bind (λx=>g x.1 x.2)=some (b,t'):=e
 obtain⟨⟨b1,t1⟩,e1,e2⟩:=Option.bind_eq_some_iff.mp e
 exact kasC_bind (h t b1 t1 e1 _ (hk b1 t1 b t' e2 Q q))
theorem T30:Sim prog w A E s κ it (co κ it) (get:StateT SortSt Sem SortSt) (get:TM Tw):=λt b t' e Q q=>by
 cases e
 exact kasC_get q
theorem p30{F:SortSt→SortSt}{G:Tw→Tw}(h:∀ t,F (co κ it t)=co κ it (G t)):Sim prog w A E s κ it (λu:Unit=>u) (modify F:StateT SortSt Sem Unit) (modify G:TM Unit):=λt b t' e Q q=>by
 cases e
 refine kasC_modify ?_
 rw[h t]
 exact q
theorem z71{x:String}:Sim prog w A E s κ it (λu:Unit=>u) (liftM (rule x):StateT SortSt Sem Unit) (pure ():TM Unit):=λt b t' e Q q=>by
 cases e
 exact kasC_lift (wpAny_rule q)
theorem L81{c:Prop}[Decidable c]{m m':StateT SortSt Sem α}{f f':TM β}(h1:c→Sim prog w A E s κ it r m f)(h2:¬ c→Sim prog w A E s κ it r m' f'):Sim prog w A E s κ it r (if c then m else m') (if c then f else f'):=by
 split
 ·exact h1 (by assumption)
 ·exact h2 (by assumption)
noncomputable def x70(r:β→α):ForInStep β→ForInStep α
 |.done b=>.done (r b)
 |.yield b=>.yield (r b)
theorem Z60{body:Nat→α→StateT SortSt Sem (ForInStep α)}{body':Nat→β→TM (ForInStep β)}(h:∀ x b,Sim prog w A E s κ it (x70 r) (body x (r b)) (body' x b)):∀ (l:List Nat) (b:β),Sim prog w A E s κ it r (forIn l (r b) body) (forIn l b body')
 |[],b=>by
  rw[List.forIn_nil,List.forIn_nil]
  exact y50 b rfl
 |x::l,b=>by
  rw[List.forIn_cons,List.forIn_cons]
  refine l10 (h x b) λst=>?_
  cases st with
  |done b'=>exact y50 b' rfl
  |yield b'=>exact Z60 h l b'
end
noncomputable def Ora(prog:Program)(w:World)(A:Around)(s:Shared)(κ:SortKind)(it:Array Keyed)(n:Nat)(cmp:Nat→Nat→Bool):Prop:=∀ i j (C:Bool→Shared→Prop),i < n→j < n→C (cmp i j) s→kas_cmp prog w A κ it i j C s
theorem F91(O:Ora prog w A s κ it n cmp)(x y:Nat):Sim prog w A E s κ it (λo:Bool=>some o) (lt' (kas_item it x) (kas_item it y)) (ltT n cmp x y):=λt b t' e Q q=>by
 unfold ltT at e
 split at e
 ·rename_i h
  cases e
  rw[lt'_eq]
  refine kasC_bind (kasC_get ?_)
  exact kasC_bind (kasC_lift (wpAny_attempt (wpAny_mono (O x y (λc s'=>s'=s∧c=cmp x y) h.1 h.2 ⟨rfl,rfl⟩) (λc s' hc=>by obtain⟨rfl,rfl⟩:=hc;exact kasC_pure q) λ_ _ hF=>hF.elim)))
 ·cases e
theorem H00(p:Array Nat)(i:Nat):Sim prog w A E s κ it (kas_item it) (elem' (p.map (kas_item it)) i) (l81 p i):=by
 rw[elem'_eq]
 unfold l81
 rw[Array.getElem?_map,Array.getElem?_toList]
 cases p[i]? with
 |none=>exact λt b t' e=>by cases e
 |some x=>exact y50 x rfl
theorem z81(O:Ora prog w A s κ it n cmp)(i j:Nat):Sim prog w A E s κ it (λo:Bool=>some o) (ltAt' i j) (L61 n cmp i j):=by
 rw[ltAt'_eq]
 unfold L61
 refine l10 T30 λt=>?_
 exact l10 (H00 t.a i) λx=>l10 (H00 t.a j) λy=>F91 O x y
theorem L91(i j:Nat):Sim prog w A E s κ it (λu:Unit=>u) (reverseSlice' i j) (w22 i j):=by
 rw[reverseSlice'_eq]
 refine p30 λt=>?_
 show SortSt.mk' κ (mirror (t.a.map (kas_item it)) i j ((j - i) / 2)) t.pending t.minGallop none=SortSt.mk' κ ((mirror t.a i j ((j - i) / 2)).map (kas_item it)) t.pending t.minGallop none
 rw[show mirror (t.a.map (kas_item it)) i j ((j - i) / 2)=(mirror t.a i j ((j - i) / 2)).map (kas_item it) from kas_swaps_map (kas_item it) (λk=>i + k) (λk=>j - 1 - k) _ t.a]
theorem z91(k l:Nat):Sim prog w A E s κ it (λu:Unit=>u) (moveDown' k l) (L71 k l):=λt b t' e Q q=>by
 rw[moveDown'_eq]
 unfold L71 at e
 split at e
 ·rename_i h
  cases e
  refine kasC_modify ?_
  have e:bubble (t.a.map (kas_item it)) k (k - l)=(mvL t.a k l).map (kas_item it):=by
   rw[Z61 h.1 h.2]
   exact kas_swaps_map (kas_item it) (λi=>k - i) (λi=>k - i - 1) _ t.a
  show Q () (SortSt.mk' κ (bubble (t.a.map (kas_item it)) k (k - l)) t.pending t.minGallop none) s
  rw[e]
  exact q
 ·cases e
noncomputable def s60{β:Type}(f:Nat→β→TM (ForInStep β)):Nat→Nat→β→TM β
 |0,_,b=>pure b
 |n + 1,i,b=>f i b >>= λx=>match x with
  |.done b=>pure b
  |.yield b=>s60 f n (i + 1) b
theorem Z70{β:Type}(f:Nat→β→TM (ForInStep β)):∀ (n i:Nat) (b:β),s60 f n i b=forIn (List.range' i n 1) b f
 |0,_,_=>by rw[List.range'_zero,List.forIn_nil];rfl
 |n + 1,i,b=>by
  rw[List.range'_succ,List.forIn_cons]
  show(f i b >>= λx=>_)=_
  congr 1
  funext x
  cases x with
  |done b=>rfl
  |yield b=>exact Z70 f n (i + 1) b
theorem H10{α β:Type}{r:β→α}{a b:Nat}{c:β}{body:Nat→α→StateT SortSt Sem (ForInStep α)}{body':Nat→β→TM (ForInStep β)}(h:∀ x b,Sim prog w A E s κ it (x70 r) (body x (r b)) (body' x b)):Sim prog w A E s κ it r (forIn [a:b] (r c) body) (s60 body' (b - a) a c):=by
 rw[Std.Legacy.Range.forIn_eq_forIn_range',Z70]
 have e:[a:b].size=b - a:=by simp[Std.Legacy.Range.size]
 show Sim prog w A E s κ it r (forIn (List.range' a [a:b].size 1) (r c) body) _
 rw[e]
 exact Z60 h _ c
noncomputable def n00(prog:Program)(w:World)(A:Around)(E:Value→Shared→Prop)(s:Shared)(κ:SortKind)(it:Array Keyed){α β:Type}(r:β→α)(m:StateT SortSt Sem α):Type:={f:TM β // Sim prog w A E s κ it r m f}
section
variable {α β α' β':Type}{r:β→α}{r':β'→α'}
noncomputable def b20{a:α}(b:β)(e:a=r b):n00 prog w A E s κ it r (pure a):=⟨pure b,y50 b e⟩
noncomputable def a60{m:StateT SortSt Sem α}{k:α→StateT SortSt Sem α'}(h:n00 prog w A E s κ it r m)(hk:∀ b,n00 prog w A E s κ it r' (k (r b))):n00 prog w A E s κ it r' (m >>= k):=⟨h.1 >>= λb=>(hk b).1,l10 h.2 λb=>(hk b).2⟩
noncomputable def l20{c:Prop}[Decidable c]{m m':StateT SortSt Sem α}(h1:n00 prog w A E s κ it r m)(h2:n00 prog w A E s κ it r m'):n00 prog w A E s κ it r (if c then m else m'):=⟨if c then h1.1 else h2.1,L81 (λ_=>h1.2) λ_=>h2.2⟩
noncomputable def p90{m:StateT SortSt Sem α}:n00 prog w A E s κ it r m:=⟨λ_=>none,λ_ _ _ e=>by cases e⟩
noncomputable def A01{m m':StateT SortSt Sem α}(e:m=m')(h:n00 prog w A E s κ it r m'):n00 prog w A E s κ it r m:=⟨h.1,by rw[e];exact h.2⟩
noncomputable def q00{a b:Nat}(c:β){body:Nat→α→StateT SortSt Sem (ForInStep α)}(h:∀ x b,n00 prog w A E s κ it (x70 r) (body x (r b))):n00 prog w A E s κ it r (forIn [a:b] (r c) body):=⟨s60 (λx b=>(h x b).1) (b - a) a c,H10 λx b=>(h x b).2⟩
end
noncomputable def f71(O:Ora prog w A s κ it n cmp)(i j:Nat):n00 prog w A E s κ it (λo:Bool=>some o) (ltAt' i j):=⟨L61 n cmp i j,z81 O i j⟩
noncomputable def k12(i j:Nat):n00 prog w A E s κ it (λu:Unit=>u) (reverseSlice' i j):=⟨w22 i j,L91 i j⟩
noncomputable def o12(i j:Nat):n00 prog w A E s κ it (λu:Unit=>u) (moveDown' i j):=⟨L71 i j,z91 i j⟩
noncomputable def A11(x:String):n00 prog w A E s κ it (λu:Unit=>u) (liftM (rule x):StateT SortSt Sem Unit):=⟨pure (),z71⟩
noncomputable def A42(O:Ora prog w A s κ it n cmp)(lo n' ok:Nat):n00 prog w A E s κ it (λ_:Unit=>true) (binarySort' lo n' ok):=by
 refine A01 (binarySort'_eq lo n' ok) ?_
 refine a60 (r:=λ_:Unit=>((none,()):Option Bool × Unit)) (q00 () λk _=>?_) λ_=>b20 () rfl
 refine a60 (r:=λx:Nat × Nat=>((none,x):Option Bool × Nat × Nat)) (q00 (0,k) λ_ x=>?_) λx=>a60 (o12 _ _) λ_=>b20 (ForInStep.yield ()) rfl
 exact l20 (b20 (ForInStep.done x) rfl) (a60 (f71 O _ _) λo=>l20 (b20 (ForInStep.yield (x.1,_)) rfl) (b20 (ForInStep.yield (_,x.2)) rfl))
noncomputable def Z71(O:Ora prog w A s κ it n cmp)(lo z:Nat):n00 prog w A E s κ it (λm:Nat=>some m) (countRun' lo z):=by
 refine A01 (countRun'_eq lo z) ?_
 refine a60 (r:=λm:Nat=>((none,m):Option (Option Nat) × Nat)) (q00 1 λ_ m=>a60 (f71 O _ _) λ_=>l20 (b20 (ForInStep.done m) rfl) (b20 (ForInStep.yield (m + 1)) rfl)) λm=>?_
 refine l20 (b20 m rfl) (l20 (a60 (f71 O _ _) λ_=>l20 (b20 m rfl) (a60 (k12 _ _) λ_=>?_)) ?_)
 all_goals
  refine a60 (A11 _) λ_=>a60 (r:=λm:Nat=>((none,m,0):Option (Option Nat) × Nat × Nat)) (q00 (m + 1) λ_ m=>a60 (f71 O _ _) λ_=>l20 (l20 p90 (b20 (ForInStep.yield (m + 1)) rfl)) (a60 (f71 O _ _) λ_=>l20 (b20 (ForInStep.done m) rfl) p90)) λm=>?_
  exact l20 p90 (a60 (k12 _ _) λ_=>a60 (r:=λm:Nat=>((none,m):Option (Option Nat) × Nat)) (q00 m λ_ m=>a60 (f71 O _ _) λ_=>l20 (b20 (ForInStep.done m) rfl) (b20 (ForInStep.yield (m + 1)) rfl)) λm=>b20 m rfl)
noncomputable def tLt(O:Ora prog w A s κ it n cmp)(x y:Nat):n00 prog w A E s κ it (λo:Bool=>some o) (lt' (kas_item it x) (kas_item it y)):=⟨ltT n cmp x y,F91 O x y⟩
noncomputable def q70(p:Array Nat)(i:Nat):n00 prog w A E s κ it (kas_item it) (elem' (p.map (kas_item it)) i):=⟨l81 p i,H00 p i⟩
noncomputable def l91:Bool→Keyed→Array Keyed→Nat→Nat→Nat→StateT SortSt Sem (Option Nat):=sortPriv% PySem.Builtin.gallop
noncomputable def T40(O:Ora prog w A s κ it n cmp)(left:Bool)(y:Nat)(p:Array Nat)(base z hint:Nat):n00 prog w A E s κ it (λm:Nat=>some m) (l91 left (kas_item it y) (p.map (kas_item it)) base z hint):=by
 refine a60 (r:=λb:Bool=>some b) (a60 (q70 p (base + hint)) λx=>l20 (tLt O x y) (a60 (tLt O y x) λb=>b20 (!b) rfl)) λb=>?_
 refine l20 ?_ ?_ <;> refine a60 (r:=λx:Nat × Nat=>((none,x):Option (Option Nat) × Nat × Nat)) (q00 (0,1) λ_ x=>l20 (b20 (ForInStep.done x) rfl) (a60 (r:=λb:Bool=>some b) (a60 (q70 p _) λx=>l20 (tLt O x y) (a60 (tLt O y x) λb=>b20 (!b) rfl)) λb=>l20 (b20 (ForInStep.done x) rfl) (b20 (ForInStep.yield (x.2,2 * x.2 + 1)) rfl))) λx=>?_
 ·exact a60 (r:=λx:Nat × Nat=>((none,x):Option (Option Nat) × Nat × Nat)) (q00 (hint + x.1 + 1,hint + min x.2 (z - hint)) λ_ x=>l20 (b20 (ForInStep.done x) rfl) (a60 (r:=λb:Bool=>some b) (a60 (q70 p _) λx=>l20 (tLt O x y) (a60 (tLt O y x) λb=>b20 (!b) rfl)) λb=>l20 (b20 (ForInStep.yield (_,x.2)) rfl) (b20 (ForInStep.yield (x.1,_)) rfl))) λx=>b20 x.2 rfl
 ·exact a60 (r:=λx:Nat × Nat=>((none,x):Option (Option Nat) × Nat × Nat)) (q00 (hint + 1 - min x.2 (hint + 1),hint - x.1) λ_ x=>l20 (b20 (ForInStep.done x) rfl) (a60 (r:=λb:Bool=>some b) (a60 (q70 p _) λx=>l20 (tLt O x y) (a60 (tLt O y x) λb=>b20 (!b) rfl)) λb=>l20 (b20 (ForInStep.yield (_,x.2)) rfl) (b20 (ForInStep.yield (x.1,_)) rfl))) λx=>b20 x.2 rfl
noncomputable def T50{α β:Type}{r:β→α}{a b:Nat}{i:α}(b':Nat)(eb:b=b')(c:β)(ec:i=r c){body:Nat→α→StateT SortSt Sem (ForInStep α)}(h:∀ x b,n00 prog w A E s κ it (x70 r) (body x (r b))):n00 prog w A E s κ it r (forIn [a:b] i body):=⟨s60 (λx b=>(h x b).1) (b' - a) a c,by subst eb;subst ec;exact H10 λx b=>(h x b).2⟩
noncomputable def tIf{α β:Type}{r:β→α}{c:Prop}[Decidable c]{m m':StateT SortSt Sem α}(c':Bool)(e:c↔c'=true)(h1:n00 prog w A E s κ it r m)(h2:n00 prog w A E s κ it r m'):n00 prog w A E s κ it r (if c then m else m'):=⟨match c' with
 |true=>h1.1
 |false=>h2.1,by
 cases c' with
 |true=>rw[if_pos (e.mpr rfl)];exact h1.2
 |false=>rw[if_neg λh=>by cases e.mp h];exact h2.2⟩
noncomputable def M01:n00 prog w A E s κ it (co κ it) (get:StateT SortSt Sem SortSt):=⟨get,T30⟩
noncomputable def o22:Nat→StateT SortSt Sem Unit:=sortPriv% PySem.Builtin.setMinGallop
noncomputable def Z81(g:Nat):n00 prog w A E s κ it (λu:Unit=>u) (o22 g):=⟨modify λt=>{ t with minGallop:=g },p30 λ_=>rfl⟩
noncomputable def w32(O:Ora prog w A s κ it n cmp)(left:Bool)(y:Nat)(p:Array Nat)(base z z' hint:Nat)(e:z=z'):n00 prog w A E s κ it (λm:Nat=>some m) (l91 left (kas_item it y) (p.map (kas_item it)) base z hint):=A01 (by rw[e]) (T40 O left y p base z' hint)
noncomputable def A21:Array Keyed→Array Keyed→StateT SortSt Sem (Array Keyed):=sortPriv% PySem.Builtin.mergeLo
noncomputable def rs{γ:Type}(it:Array Keyed)(x:Option (Array Nat) × Array Nat × γ):Option (Array Keyed) × Array Keyed × γ:=(x.1.map (Array.map (kas_item it)),x.2.1.map (kas_item it),x.2.2)
theorem sz(it:Array Keyed)(i:Nat)(p:Array Nat):(i == (p.map (kas_item it)).size)=true↔(i == p.size)=true:=by rw[Array.size_map]
local macro_rules
 | `(tactic| ac_rfl)=>`(tactic| simp only[rs,x70,Option.map_some,Option.map_none,Array.map_append,Array.map_push,Array.map_extract,Array.size_map])
 | `(tactic| rwa [$O:term,$p:term,$q:term,$out:term,$ia:term,$ib:term,$mg:term,$ac:term,$bc:term])=>`(tactic| exact a60 (q70 $p $ia) λy=>tIf _ (sz _ _ _) (b20 (ForInStep.done (some (Array.push $out y++Array.extract $q $ib++Array.extract $p ($ia + 1)),Array.push $out y,$ia + 1,$ib,$mg,$ac,$bc)) (by ac_rfl)) (l20 (b20 (ForInStep.done (none,Array.push $out y,$ia + 1,$ib,$mg,$ac,$bc)) (by ac_rfl)) (b20 (ForInStep.yield (none,Array.push $out y,$ia + 1,$ib,$mg,$ac,$bc)) (by ac_rfl))))
 | `(tactic| rwa [$O:term,$p:term,$q:term,$out:term,$ia:term,$ib:term,$mg:term,$ac:term,$bc:term,$_x0:term])=>`(tactic| exact a60 (q70 $q $ib) λy=>tIf _ (sz _ _ _) (b20 (ForInStep.done (some (Array.push $out y++Array.extract $p $ia++Array.extract $q ($ib + 1)),Array.push $out y,$ia,$ib + 1,$mg,$ac,$bc)) (by ac_rfl)) (a60 (q70 $p $ia) λz=>a60 (w32 $O true z $q ($ib + 1) _ (Array.size $q - ($ib + 1)) 0 (by simp[rs])) λk=>l20 (tIf _ (sz _ _ _) (b20 (ForInStep.done (some (Array.push $out y++Array.extract $q ($ib + 1) ($ib + 1 + k)++Array.extract $p $ia++Array.extract $q ($ib + 1 + k)),Array.push $out y++Array.extract $q ($ib + 1) ($ib + 1 + k),$ia,$ib + 1 + k,$mg,$ac,k)) (by ac_rfl)) ((by rwa [$O:term,$p:term,$q:term,(Array.push $out y++Array.extract $q ($ib + 1) ($ib + 1 + k)),$ia:term,($ib + 1 + k),$mg:term,$ac:term,k]))) ((by rwa [$O:term,$p:term,$q:term,(Array.push $out y),$ia:term,($ib + 1),$mg:term,$ac:term,k]))))
 | `(tactic| rwa [$O:term,$p:term,$q:term,$out:term,$ia:term,$ib:term,$mg:term,$bc:term,$_x0:term,$_x1:term,$_x2:term])=>`(tactic| exact a60 (Z81 $mg) λ_=>a60 (q70 $q $ib) λy=>a60 (w32 $O false y $p $ia _ (Array.size $p - $ia) 0 (by simp[rs])) λk=>l20 (tIf _ (sz _ _ _) (b20 (ForInStep.done (some ($out++Array.extract $p $ia ($ia + k)++Array.extract $q $ib++Array.extract $p ($ia + k)),$out++Array.extract $p $ia ($ia + k),$ia + k,$ib,$mg,k,$bc)) (by ac_rfl)) (tIf _ (sz _ _ _) (b20 (ForInStep.done (some ($out++Array.extract $p $ia ($ia + k)++Array.extract $p ($ia + k)++Array.extract $q $ib),$out++Array.extract $p $ia ($ia + k),$ia + k,$ib,$mg,k,$bc)) (by ac_rfl)) ((by rwa [$O:term,$p:term,$q:term,($out++Array.extract $p $ia ($ia + k)),($ia + k),$ib:term,$mg:term,k,$bc:term,rfl])))) ((by rwa [$O:term,$p:term,$q:term,$out:term,$ia:term,$ib:term,$mg:term,k,$bc:term,rfl])))
noncomputable def A31(O:Ora prog w A s κ it n cmp)(p q:Array Nat):n00 prog w A E s κ it (Array.map (kas_item it)) (A21 (p.map (kas_item it)) (q.map (kas_item it))):=by
 refine a60 (A11 _) λ_=>a60 (q70 q 0) λx=>?_
 refine tIf _ (sz it _ _) (b20 (#[x]++p.extract 0++q.extract 1) (by simp only[Array.map_append,Array.map_extract,Array.size_map,List.map_toArray,List.map_cons,List.map_nil])) ?_
 refine tIf _ (sz it _ _) (b20 (#[x]++q.extract 1++p.extract 0) (by simp only[Array.map_append,Array.map_extract,Array.size_map,List.map_toArray,List.map_cons,List.map_nil])) ?_
 refine a60 M01 λt=>?_
 refine a60 (r:=rs it) (T50 (p.size + q.size) (by simp) (none,#[x],0,1,t.minGallop) (by simp[rs];rfl) λ_ st=>?_) λst=>?_
 ·obtain⟨_,out,ia,ib,mg⟩:=st
  refine a60 (r:=rs it) (T50 (p.size + q.size) (by simp) (none,out,ia,ib,0,0) (by simp[rs]) λ_ st=>?_) λst=>?_
  ·obtain⟨_,out,ia,ib,ac,bc⟩:=st
   refine a60 (q70 q ib) λy=>a60 (q70 p ia) λz=>a60 (tLt O y z) λo=>l20 (a60 (q70 q ib) λy=>?_) (a60 (q70 p ia) λy=>?_)
   ·exact tIf _ (sz it _ _) (b20 (ForInStep.done (some (out.push y++p.extract ia++q.extract (ib + 1)),out.push y,ia,ib + 1,0,bc + 1)) (by simp[rs,x70])) (l20 (b20 (ForInStep.done (none,out.push y,ia,ib + 1,0,bc + 1)) (by simp[rs,x70])) (b20 (ForInStep.yield (none,out.push y,ia,ib + 1,0,bc + 1)) (by simp[rs,x70])))
   ·exact tIf _ (sz it _ _) (b20 (ForInStep.done (some (out.push y++q.extract ib++p.extract (ia + 1)),out.push y,ia + 1,ib,ac + 1,0)) (by simp[rs,x70])) (l20 (b20 (ForInStep.done (none,out.push y,ia + 1,ib,ac + 1,0)) (by simp[rs,x70])) (b20 (ForInStep.yield (none,out.push y,ia + 1,ib,ac + 1,0)) (by simp[rs,x70])))
  ·obtain⟨o,out,ia,ib,ac,bc⟩:=st
   cases o with
   |some v=>exact b20 (ForInStep.done (some v,out,ia,ib,mg)) rfl
   |none =>
    refine a60 (A11 _) λ_=>?_
    refine a60 (r:=rs it) (T50 (p.size + q.size) (by simp) (none,out,ia,ib,mg + 1,ac,bc) (by simp[rs]) λ_ st=>?_) λst=>?_
    ·obtain⟨_,out,ia,ib,mg,ac,bc⟩:=st
     exact l20 ((by rwa [O,p,q,out,ia,ib,(mg - 1),bc,rfl,rfl,rfl])) ((by rwa [O,p,q,out,ia,ib,mg,bc,rfl,rfl,rfl]))
    ·obtain⟨o,out,ia,ib,mg,ac,bc⟩:=st
     cases o with
     |some v=>exact b20 (ForInStep.done (some v,out,ia,ib,mg)) rfl
     |none=>exact a60 (Z81 (mg + 1)) λ_=>b20 (ForInStep.yield (none,out,ia,ib,mg + 1)) rfl
 ·obtain⟨o,_⟩:=st
  cases o with
  |none=>exact p90
  |some v=>exact b20 v rfl
noncomputable def A52(t':Tw){S:SortSt}(e:S=co κ it t'):n00 prog w A E s κ it (λu:PUnit=>u) (set S:StateT SortSt Sem PUnit):=⟨modify λ_=>t',by subst e;exact p30 (F:=λ_=>co κ it t') λ_=>rfl⟩
noncomputable def o32{F:SortSt→SortSt}(G:Tw→Tw)(h:∀ t,F (co κ it t)=co κ it (G t)):n00 prog w A E s κ it (λu:Unit=>u) (modify F:StateT SortSt Sem Unit):=⟨modify G,p30 h⟩
theorem fold_map(f:Nat→Keyed)(d:Nat):∀ (l:List Nat) (j:Nat) (a:Array Nat),((l.map f).zipIdx j).foldl (λa x=>Array.setIfInBounds a (d + x.2) x.1) (a.map f)=((l.zipIdx j).foldl (λa x=>Array.setIfInBounds a (d + x.2) x.1) a).map f
 |[],_,_=>rfl
 |x::l,j,a=>by
  have e:(a.map f).setIfInBounds (d + j) (f x)=(a.setIfInBounds (d + j) x).map f:=by simp
  show((l.map f).zipIdx (j + 1)).foldl _ ((a.map f).setIfInBounds (d + j) (f x))=_
  rw[e]
  exact fold_map f d l (j + 1) _
noncomputable def spl(a:Array Nat)(d:Nat)(l:List Nat):Array Nat:=⟨a.toList.take d++(l++a.toList.drop (d + l.length))⟩
theorem G01(d:Nat):∀ (l:List Nat) (j:Nat) (a:Array Nat),d + j + l.length≤a.size→(l.zipIdx j).foldl (λa x=>Array.setIfInBounds a (d + x.2) x.1) a=spl a (d + j) l
 |[],j,a,_=>by
  show a=_
  unfold spl
  rw[List.length_nil,Nat.add_zero,List.nil_append,List.take_append_drop]
 |x::l,j,a,h=>by
  have hl:d + j + (l.length + 1)≤a.toList.length:=h
  show(l.zipIdx (j + 1)).foldl _ (a.setIfInBounds (d + j) x)=_
  rw[G01 d l (j + 1) _ (by rw[Array.size_setIfInBounds];have:a.toList.length=a.size:=rfl;omega)]
  unfold spl
  rw[Array.toList_setIfInBounds,List.set_eq_take_append_cons_drop,if_pos (by omega)]
  generalize a.toList=m at hl
  have e1:(m.take (d + j)).length=d + j:=by rw[List.length_take];omega
  have e2:(m.take (d + j)++x::m.drop (d + j + 1)).take (d + (j + 1))=m.take (d + j)++[x]:=by
   rw[List.take_append,e1,show d + (j + 1) - (d + j)=1 by omega,List.take_of_length_le (Nat.le_trans (Nat.le_of_eq e1) (by omega))]
   rfl
  have e3:(m.take (d + j)++x::m.drop (d + j + 1)).drop (d + (j + 1) + l.length)=m.drop (d + j + (l.length + 1)):=by
   rw[List.drop_append,e1,show d + (j + 1) + l.length - (d + j)=l.length + 1 by omega,List.drop_eq_nil_of_le (Nat.le_trans (Nat.le_of_eq e1) (by omega)),List.drop_succ_cons,List.drop_drop,List.nil_append,show d + j + 1 + l.length=d + j + (l.length + 1) by omega]
  rw[e2,e3,List.append_assoc]
  rfl
noncomputable def o42{F:SortSt→SortSt}(c:Tw→Bool)(G:Tw→Tw)(h:∀ t,c t=true→F (co κ it t)=co κ it (G t)):n00 prog w A E s κ it (λu:Unit=>u) (modify F:StateT SortSt Sem Unit):=⟨λt=>match c t with
 |true=>some ((),G t)
 |false=>none,λt b t' e Q q=>by
 dsimp only at e
 cases hc:c t with
 |false=>rw[hc] at e;cases e
 |true =>
  rw[hc] at e
  cases e
  refine kasC_modify ?_
  rw[h t hc]
  exact q⟩
noncomputable def Z80(O:Ora prog w A s κ it n cmp)(i:Nat):n00 prog w A E s κ it (λ_:Unit=>true) (mergeAt' i):=by
 refine a60 M01 λt=>?_
 generalize (pendingOf (co κ it t))[i]?=o1
 generalize (pendingOf (co κ it t))[i + 1]?=o2
 rcases o1 with _ | ⟨sa,na,pw⟩
 ·exact p90
 rcases o2 with _ | ⟨sb,nb,_⟩
 ·exact p90
 refine a60 (A52 { t with pending:=(t.pending.setIfInBounds i (sa,na + nb,pw)).eraseIdxIfInBounds (i + 1) } rfl) λ_=>?_
 refine a60 (q70 t.a sb) λy=>a60 (T40 O false y t.a sa na 0) λk=>?_
 refine l20 (b20 () rfl) (a60 (q70 t.a _) λy=>a60 (T40 O true y t.a sb nb (nb - 1)) λnb=>l20 (b20 () rfl) (l20 (a60 (A01 ?_ (A31 O (t.a.extract (sa + k) sb) (t.a.extract sb (sb + nb)))) λv=>?_) p90))
 ·rw[Array.map_extract,Array.map_extract];rfl
 ·refine a60 (o42 (λu=>Nat.ble (sa + k + v.toList.length) u.a.size) (λu=>{ u with a:=spl u.a (sa + k) v.toList }) λu hu=>?_) λ_=>a60 M01 λ_=>b20 () rfl
  have e:=fold_map (kas_item it) (sa + k) v.toList 0 u.a
  rw[← Array.toList_map,G01 (sa + k) v.toList 0 u.a (Nat.le_of_ble_eq_true hu)] at e
  exact congrArg (λa=>SortSt.mk' κ a u.pending u.minGallop none) e
structure w42(prog:Program)(w:World)(A:Around)(E:Value→Shared→Prop)(s:Shared)(κ:SortKind)(it:Array Keyed)(z:Nat)(m:StateT SortSt Sem Unit) where
 body:Nat→Nat→TM (ForInStep Nat)
 tail:Nat→TM Unit
 sim:Sim prog w A E s κ it (λu:Unit=>u) m (s60 body z 0 0 >>= tail)
noncomputable def mkH{α:Type}{r:Nat→α}{i:α}{z:Nat}(e0:i=r 0){B:Nat→α→StateT SortSt Sem (ForInStep α)}{k:α→StateT SortSt Sem Unit}(hb:∀ x lo,n00 prog w A E s κ it (x70 r) (B x (r lo)))(hk:∀ lo,n00 prog w A E s κ it (λu:Unit=>u) (k (r lo))) :
  w42 prog w A E s κ it z (forIn [0:z] i B >>= k) where
 body:=λx lo=>(hb x lo).1
 tail:=λlo=>(hk lo).1
 sim:=by
  subst e0
  exact l10 (H10 λx b=>(hb x b).2) λb=>(hk b).2
structure f81(prog:Program)(w:World)(A:Around)(E:Value→Shared→Prop)(s:Shared)(κ:SortKind)(it:Array Keyed)(m:StateT SortSt Sem Unit) where
 body:Tw→Nat→Nat→TM (ForInStep Nat)
 tail:Tw→Nat→TM Unit
 sim:Sim prog w A E s κ it (λu:Unit=>u) m (get >>= λt=>s60 (body t) t.a.size 0 0 >>= tail t)
noncomputable def mkW{F:SortSt→StateT SortSt Sem Unit}(h:∀ t:Tw,w42 prog w A E s κ it t.a.size (F (co κ it t))):f81 prog w A E s κ it (get >>= F) where
 body:=λt=>(h t).body
 tail:=λt=>(h t).tail
 sim:=l10 T30 λt=>(h t).sim
noncomputable def f81.cast{m m':StateT SortSt Sem Unit}(e:m=m')(h:f81 prog w A E s κ it m'):f81 prog w A E s κ it m:=⟨h.body,h.tail,by rw[e];exact h.sim⟩
noncomputable def h80(O:Ora prog w A s κ it n cmp):f81 prog w A E s κ it sortRuns':=by
 refine f81.cast sortRuns'_eq (mkW λt=>?_)
 generalize hz:Array.size (arrOf (co κ it t))=z
 have hz':t.a.size=z:=Array.size_map.symm.trans hz
 clear hz
 subst hz'
 refine mkH (r:=λm:Nat=>((none,m):Option Unit × Nat)) rfl (λ_ lo=>l20 (b20 (ForInStep.done lo) rfl) (a60 (Z71 O _ _) λm=>?_)) (λ_=>?_)
 ·refine l20 (a60 (A11 _) λ_=>a60 (A42 O _ _ _) λ_=>l20 p90 (a60 M01 λu=>?_)) (a60 M01 λu=>?_)
  all_goals
   generalize Array.back? (pendingOf (co κ it u))=o1
   rcases o1 with _ | ⟨s1,n1,_⟩
   ·exact a60 (o32 (λu=>{ u with pending:=u.pending.push (lo,_,0) }) λ_=>rfl) λ_=>b20 (ForInStep.yield (lo + _)) rfl
   ·refine a60 (r:=λ_:Unit=>((none,()):Option Unit × Unit)) (q00 () λ_ _=>a60 M01 λu=>?_) λ_=>a60 (o32 (λu=>{ u with pending:=u.pending.modify (u.pending.size - 1) λx=>(x.1,x.2.1,_) }) λ_=>rfl) λ_=>a60 (o32 (λu=>{ u with pending:=u.pending.push (lo,_,0) }) λ_=>rfl) λ_=>b20 (ForInStep.yield (lo + _)) rfl
    dsimp only
    generalize (if Array.size (pendingOf (co κ it u)) > 1 then(pendingOf (co κ it u))[Array.size (pendingOf (co κ it u)) - 2]? else none)=o2
    rcases o2 with _ | ⟨_,_,old⟩
    ·exact b20 (ForInStep.done ()) rfl
    ·exact l20 (b20 (ForInStep.done ()) rfl) (a60 (Z80 O _) λ_=>l20 p90 (b20 (ForInStep.yield ()) rfl))
 ·exact a60 (r:=λ_:Unit=>((none,()):Option Unit × Unit)) (q00 () λ_ _=>a60 M01 λu=>l20 (b20 (ForInStep.done ()) rfl) (a60 (Z80 O _) λ_=>l20 p90 (b20 (ForInStep.yield ()) rfl))) λ_=>b20 () rfl
end
end TS
namespace TS
open PySem PySem.W PyProof.Rows
noncomputable def upN:Nat→Nat→Nat→List Nat
 |0,_,h=>[h]
 |b + 1,v,h=>upN b (2 * v) (h + v)++upN b (2 * v) h
noncomputable def neN:Nat→Nat→Nat→List Nat
 |0,_,_=>[]
 |b + 1,v,h=>(h + v)::(neN b (2 * v) (h + v)++neN b (2 * v) h)
noncomputable def sN(b:Nat):List Nat:=0::neN b 1 0
noncomputable def A50:Nat→Nat→Nat→List Nat
 |0,_,_=>[]
 |k + 1,i,m=>if Nat.testBit m 0 then i::A50 k (i + 1) (m / 2) else A50 k (i + 1) (m / 2)
noncomputable def k22:List Nat→List Nat→Bool
 |[],[]=>false
 |[],_::_=>true
 |_::_,[]=>false
 |a::r,b::q=>if Nat.beq a b then k22 r q else Nat.blt a b
noncomputable def u50(K i j:Nat):Bool:=k22 (A50 K 0 i) (A50 K 0 j)
section
variable {prog:Program}{w:World}{A:Around}{E:Value→Shared→Prop}{s:Shared}{κ:SortKind}{it:Array Keyed}
noncomputable def T0(K:Nat):Tw:=⟨⟨List.range (2 ^ K)⟩,#[],7⟩
noncomputable def TZ(K p:Nat):Tw:=⟨⟨sN K⟩,#[(0,2 ^ K,p)],7⟩
theorem x80{β:Type}{f:Nat→β→TM (ForInStep β)}{n i:Nat}{b b':β}{t t':Tw}{r:Option (β × Tw)}(h:f i b t=some (.yield b',t'))(h2:s60 f n (i + 1) b' t'=r):s60 f (n + 1) i b t=r:=by
 show Option.bind (f i b t) _=r
 rw[h];exact h2
noncomputable def goW{K:Nat}(O:Ora prog w A s κ it (2 ^ K) (u50 K)):TM Unit:=get >>= λt=>s60 ((h80 (E:=E) O).body t) t.a.size 0 0 >>= (h80 (E:=E) O).tail t
theorem two{K n:Nat}{t:Tw}{r:Option (Unit × Tw)}(O:Ora prog w A s κ it (2 ^ K) (u50 K))(h:s60 ((h80 (E:=E) O).body (T0 K)) (2 ^ K) 0 0 (T0 K)=some (n,t))(h2:(h80 (E:=E) O).tail (T0 K) n t=r):goW (E:=E) O (T0 K)=r:=by
 show Option.bind (s60 ((h80 (E:=E) O).body (T0 K)) (List.range (2 ^ K)).length 0 0 (T0 K)) _=r
 rw[List.length_range,h];exact h2
theorem w1(O:Ora prog w A s κ it (2 ^ 1) (u50 1)):goW (E:=E) O (T0 1)=some ((),TZ 1 0):=by kernel_rfl
theorem w2(O:Ora prog w A s κ it (2 ^ 2) (u50 2)):goW (E:=E) O (T0 2)=some ((),TZ 2 0):=by kernel_rfl
theorem w3(O:Ora prog w A s κ it (2 ^ 3) (u50 3)):goW (E:=E) O (T0 3)=some ((),TZ 3 0):=by kernel_rfl
theorem w4(O:Ora prog w A s κ it (2 ^ 4) (u50 4)):goW (E:=E) O (T0 4)=some ((),TZ 4 0):=by kernel_rfl
theorem w5(O:Ora prog w A s κ it (2 ^ 5) (u50 5)):goW (E:=E) O (T0 5)=some ((),TZ 5 0):=by kernel_rfl
theorem w6(O:Ora prog w A s κ it (2 ^ 6) (u50 6)):goW (E:=E) O (T0 6)=some ((),TZ 6 1):=by kernel_rfl
theorem A62(O:Ora prog w A s κ it (2 ^ 7) (u50 7)):(h80 (E:=E) O).body (T0 7) 0 0 (T0 7)=some (.yield 32,⟨⟨sN 5++List.range' 32 96⟩,#[(0,32,0)],7⟩):=by kernel_rfl
theorem A72(O:Ora prog w A s κ it (2 ^ 7) (u50 7)):(h80 (E:=E) O).body (T0 7) 1 32 ⟨⟨sN 5++List.range' 32 96⟩,#[(0,32,0)],7⟩=some (.yield 64,⟨⟨sN 5++(upN 5 1 32++List.range' 64 64)⟩,#[(0,32,2),(32,32,0)],7⟩):=by kernel_rfl
theorem A82(O:Ora prog w A s κ it (2 ^ 7) (u50 7)):(h80 (E:=E) O).body (T0 7) 2 64 ⟨⟨sN 5++(upN 5 1 32++List.range' 64 64)⟩,#[(0,32,2),(32,32,0)],7⟩=some (.yield 96,⟨⟨sN 6++(upN 5 1 64++List.range' 96 32)⟩,#[(0,64,1),(64,32,0)],7⟩):=by kernel_rfl
theorem A92(O:Ora prog w A s κ it (2 ^ 7) (u50 7)):(h80 (E:=E) O).body (T0 7) 3 96 ⟨⟨sN 6++(upN 5 1 64++List.range' 96 32)⟩,#[(0,64,1),(64,32,0)],7⟩=some (.yield 128,⟨⟨sN 6++(upN 5 1 64++upN 5 1 96)⟩,#[(0,64,1),(64,32,2),(96,32,0)],7⟩):=by kernel_rfl
theorem B02(O:Ora prog w A s κ it (2 ^ 7) (u50 7)):s60 ((h80 (E:=E) O).body (T0 7)) 124 4 128 ⟨⟨sN 6++(upN 5 1 64++upN 5 1 96)⟩,#[(0,64,1),(64,32,2),(96,32,0)],7⟩=some (128,⟨⟨sN 6++(upN 5 1 64++upN 5 1 96)⟩,#[(0,64,1),(64,32,2),(96,32,0)],7⟩):=by kernel_rfl
theorem B12(O:Ora prog w A s κ it (2 ^ 7) (u50 7)):(h80 (E:=E) O).tail (T0 7) 128 ⟨⟨sN 6++(upN 5 1 64++upN 5 1 96)⟩,#[(0,64,1),(64,32,2),(96,32,0)],7⟩=some ((),TZ 7 1):=by kernel_rfl
theorem w7(O:Ora prog w A s κ it (2 ^ 7) (u50 7)):goW (E:=E) O (T0 7)=some ((),TZ 7 1):=two O (x80 (A62 O) (x80 (A72 O) (x80 (A82 O) (x80 (A92 O) (B02 O))))) (B12 O)
theorem B22(O:Ora prog w A s κ it (2 ^ 8) (u50 8)):(h80 (E:=E) O).body (T0 8) 0 0 (T0 8)=some (.yield 32,⟨⟨sN 5++List.range' 32 224⟩,#[(0,32,0)],7⟩):=by kernel_rfl
theorem B32(O:Ora prog w A s κ it (2 ^ 8) (u50 8)):(h80 (E:=E) O).body (T0 8) 1 32 ⟨⟨sN 5++List.range' 32 224⟩,#[(0,32,0)],7⟩=some (.yield 64,⟨⟨sN 5++(upN 5 1 32++List.range' 64 192)⟩,#[(0,32,3),(32,32,0)],7⟩):=by kernel_rfl
theorem B42(O:Ora prog w A s κ it (2 ^ 8) (u50 8)):(h80 (E:=E) O).body (T0 8) 2 64 ⟨⟨sN 5++(upN 5 1 32++List.range' 64 192)⟩,#[(0,32,3),(32,32,0)],7⟩=some (.yield 96,⟨⟨sN 6++(upN 5 1 64++List.range' 96 160)⟩,#[(0,64,2),(64,32,0)],7⟩):=by kernel_rfl
theorem B52(O:Ora prog w A s κ it (2 ^ 8) (u50 8)):(h80 (E:=E) O).body (T0 8) 3 96 ⟨⟨sN 6++(upN 5 1 64++List.range' 96 160)⟩,#[(0,64,2),(64,32,0)],7⟩=some (.yield 128,⟨⟨sN 6++(upN 5 1 64++(upN 5 1 96++List.range' 128 128))⟩,#[(0,64,2),(64,32,3),(96,32,0)],7⟩):=by kernel_rfl
theorem B62(O:Ora prog w A s κ it (2 ^ 8) (u50 8)):(h80 (E:=E) O).body (T0 8) 4 128 ⟨⟨sN 6++(upN 5 1 64++(upN 5 1 96++List.range' 128 128))⟩,#[(0,64,2),(64,32,3),(96,32,0)],7⟩=some (.yield 160,⟨⟨sN 7++(upN 5 1 128++List.range' 160 96)⟩,#[(0,128,1),(128,32,0)],7⟩):=by kernel_rfl
theorem B72(O:Ora prog w A s κ it (2 ^ 8) (u50 8)):(h80 (E:=E) O).body (T0 8) 5 160 ⟨⟨sN 7++(upN 5 1 128++List.range' 160 96)⟩,#[(0,128,1),(128,32,0)],7⟩=some (.yield 192,⟨⟨sN 7++(upN 5 1 128++(upN 5 1 160++List.range' 192 64))⟩,#[(0,128,1),(128,32,3),(160,32,0)],7⟩):=by kernel_rfl
theorem B82(O:Ora prog w A s κ it (2 ^ 8) (u50 8)):(h80 (E:=E) O).body (T0 8) 6 192 ⟨⟨sN 7++(upN 5 1 128++(upN 5 1 160++List.range' 192 64))⟩,#[(0,128,1),(128,32,3),(160,32,0)],7⟩=some (.yield 224,⟨⟨sN 7++(upN 6 1 128++(upN 5 1 192++List.range' 224 32))⟩,#[(0,128,1),(128,64,2),(192,32,0)],7⟩):=by kernel_rfl
theorem B92(O:Ora prog w A s κ it (2 ^ 8) (u50 8)):(h80 (E:=E) O).body (T0 8) 7 224 ⟨⟨sN 7++(upN 6 1 128++(upN 5 1 192++List.range' 224 32))⟩,#[(0,128,1),(128,64,2),(192,32,0)],7⟩=some (.yield 256,⟨⟨sN 7++(upN 6 1 128++(upN 5 1 192++upN 5 1 224))⟩,#[(0,128,1),(128,64,2),(192,32,3),(224,32,0)],7⟩):=by kernel_rfl
theorem C02(O:Ora prog w A s κ it (2 ^ 8) (u50 8)):s60 ((h80 (E:=E) O).body (T0 8)) 248 8 256 ⟨⟨sN 7++(upN 6 1 128++(upN 5 1 192++upN 5 1 224))⟩,#[(0,128,1),(128,64,2),(192,32,3),(224,32,0)],7⟩=some (256,⟨⟨sN 7++(upN 6 1 128++(upN 5 1 192++upN 5 1 224))⟩,#[(0,128,1),(128,64,2),(192,32,3),(224,32,0)],7⟩):=by kernel_rfl
theorem C12(O:Ora prog w A s κ it (2 ^ 8) (u50 8)):(h80 (E:=E) O).tail (T0 8) 256 ⟨⟨sN 7++(upN 6 1 128++(upN 5 1 192++upN 5 1 224))⟩,#[(0,128,1),(128,64,2),(192,32,3),(224,32,0)],7⟩=some ((),TZ 8 1):=by kernel_rfl
theorem w8(O:Ora prog w A s κ it (2 ^ 8) (u50 8)):goW (E:=E) O (T0 8)=some ((),TZ 8 1):=two O (x80 (B22 O) (x80 (B32 O) (x80 (B42 O) (x80 (B52 O) (x80 (B62 O) (x80 (B72 O) (x80 (B82 O) (x80 (B92 O) (C02 O))))))))) (C12 O)
theorem C22{K:Nat}(h1:1≤K)(h8:K≤8)(O:Ora prog w A s κ it (2 ^ K) (u50 K)):∃ p,goW (E:=E) O (T0 K)=some ((),TZ K p):=by
 match K,h1,h8,O with
 |1,_,_,O=>exact⟨_,w1 O⟩
 |2,_,_,O=>exact⟨_,w2 O⟩
 |3,_,_,O=>exact⟨_,w3 O⟩
 |4,_,_,O=>exact⟨_,w4 O⟩
 |5,_,_,O=>exact⟨_,w5 O⟩
 |6,_,_,O=>exact⟨_,w6 O⟩
 |7,_,_,O=>exact⟨_,w7 O⟩
 |8,_,_,O=>exact⟨_,w8 O⟩
theorem runL{K:Nat}{vs:List Value}(h1:1≤K)(h8:K≤8)(hv:vs.length=2 ^ K)(O:Ora prog w A s κ (vs.toArray.zip vs.toArray) (2 ^ K) (u50 K)):MySort.o02 prog w A s vs (λp=>p=sN K) κ:=by
 refine⟨sN K,rfl,λE Q q=>?_⟩
 obtain⟨pp,e⟩:=C22 (E:=E) h1 h8 O
 have r:=(h80 (E:=E) O).sim (T0 K) () (TZ K pp) e (λu st s'=>s'=s∧failedOf st=none∧arrOf st=((sN K).toArray).map (kas_item (vs.toArray.zip vs.toArray))) ⟨rfl,rfl,rfl⟩
 have est:SortSt.mk' κ (vs.toArray.zip vs.toArray) #[] 7 none=co κ (vs.toArray.zip vs.toArray) (T0 K):=by
  have e:=kas_range (vs.toArray.zip vs.toArray)
  rw[show(vs.toArray.zip vs.toArray).size=2 ^ K by simp[hv]] at e
  show _=SortSt.mk' κ ((List.toArray (List.range (2 ^ K))).map (kas_item (vs.toArray.zip vs.toArray))) #[] 7 none
  rw[e]
 rw[est]
 refine wpAny_mono r (λx s' h=>?_) λ_ _ e=>e
 obtain⟨rfl,h2,h3⟩:=h
 exact q x.2 h2 h3
end
end TS
namespace HT
open PySem PyProof.Rows
section
open PySem.SeqAt
open PySem.AutoSeq1 (wpAny_loadPart')
open PySem.MeetsSeq PySem.MeetsSeq2 PySem.MeetsSeq3
open MySort (i40)
noncomputable def leB(ns ms:List Int):Bool:=!i40 ms ns
theorem A41(x y:Int)(r q:List Int):leB (x::r) (y::q)=if x=y then leB r q else decide (x≤y):=by
 show(!(if y=x then i40 q r else decide (y < x)))=_
 by_cases e:x=y
 ·rw[if_pos e,if_pos e.symm];rfl
 ·rw[if_neg e,if_neg (Ne.symm e)]
  by_cases l:y < x
  ·rw[decide_eq_true l,decide_eq_false (by omega)];rfl
  ·rw[decide_eq_false l,decide_eq_true (by omega)];rfl
theorem A51(A:Around)(s:Shared)(a:Int)(t:Tok)(c:Int)(u:Tok)(P:Program)(w:World)(E:Value→Shared→Prop)(Q:Value→Shared→Prop)(h:Q (.bool (decide (a≤c))) s):wpAny (model P w) A (richCompare .LtE (.int a t) (.int c u)) Q E s :=
 (PyProof.Rows.le_int h:wpAny (model P w) A (compareOp .LtE (.int a t) (.int c u)) Q E s)
theorem H20(l b:Addr)(i1 i2:Array Value)(n n2:Nat)(dd dd2:Option Addr)(sl sl2:Array (Option Value))(ns ms:List Int)(hi:IntsAre i1.toList ns)(hj:IntsAre i2.toList ms) :
  Meets (Builtin.«tuple.__le__» ⟨[.ref l,.ref b],[]⟩) (λ_ R s=>s.heap.get? l=some { cls:=.type "tuple",dict:=dd,data:=.seq i1 n,slots:=sl }∧s.heap.get? b=some { cls:=.type "tuple",dict:=dd2,data:=.seq i2 n2,slots:=sl2 }∧R (.ok (.ret (.bool (leB ns ms)))) s) :=
 .of_wp λP w A R s h=>by
  obtain⟨hp,g,d,tk,os⟩:=s;obtain⟨hl,hb,h⟩:=h
  have f2:=AutoSeq1.sub_tuple_tuple
  have z1:i1.size=ns.length:=by rw[← hi.length];simp
  have z2:i2.size=ms.length:=by rw[← hj.length];simp
  wp_walk using wpAny_loadPart' hl,wpAny_loadPart' hb,wpAny_forIn_list _ (λrest b s'=>b.1=none∧s'=⟨hp,g,d,tk,os⟩∧∃ (vs ws:List Value) (ns' ms':List Int),rest=vs.zip ws∧IntsAre vs ns'∧IntsAre ws ms'∧ns'.length + i2.size=ms'.length + i1.size∧R (.ok (.ret (.bool (leB ns' ms')))) ⟨hp,g,d,tk,os⟩) _
  case turn =>
   rintro ⟨y,x⟩ rest b s' ⟨hb',rfl,vs,ws,ns',ms',hz,hvi,hwi,hlen,hR⟩
   cases hvi with
   |nil=>rw[List.zip_nil_left] at hz;cases hz
   |cons a t hvi' =>
    cases hwi with
    |nil=>rw[List.zip_nil_right] at hz;cases hz
    |cons c u hwi' =>
     rw[List.zip_cons_cons] at hz;injection hz with hyx hrest;injection hyx with hy hx;subst hy hx
     rw[A41] at hR;simp only[List.length_cons] at hlen
     obtain⟨e,he,hiff⟩:=y11 A.in1 ⟨hp,g,d,tk,os⟩ a t c u
     refine wpAny_bind (he P w _ _ ?_)
     cases e with
     |true =>
      rw[if_pos (hiff.mp rfl)] at hR;wp_walk
      exact⟨rfl,rfl,_,_,_,_,hrest,hvi',hwi',by omega,hR⟩
     |false =>
      rw[if_neg (λq=>absurd (hiff.mpr q) Bool.false_ne_true)] at hR
      have hri:=A51 A.in1 ⟨hp,g,d,tk,os⟩ a t c u P w
      wp_walk using hri
      exact⟨_,rfl,by simpa using hR⟩
  case fin =>
   rintro ⟨b1,b2⟩ s' ⟨hb',rfl,vs,ws,ns',ms',hz,hvi,hwi,hlen,hR⟩
   simp only at hb';subst hb'
   have hv:leB ns' ms'=decide (i1.size≤i2.size):=by
    cases hvi with
    |nil =>
     cases hwi with
     |nil=>simp only[List.length_nil] at hlen;exact(decide_eq_true (by omega)).symm
     |cons c u hw=>simp only[List.length_nil,List.length_cons] at hlen;exact(decide_eq_true (by omega)).symm
    |cons a t hv =>
     cases hwi with
     |nil=>simp only[List.length_nil,List.length_cons] at hlen;exact(decide_eq_false (by omega)).symm
     |cons c u hw=>rw[List.zip_cons_cons] at hz;cases hz
   rw[hv] at hR;wp_walk
   exact⟨_,rfl,by simpa [Builtin.Tuple.tupleCompareSizes] using hR⟩
  case h=>exact⟨rfl,rfl,i1.toList,i2.toList,ns,ms,rfl,hi,hj,by omega,h⟩
end
section
variable {P:Program}{w:World}{A:Around}{E:Value→Shared→Prop}{s:Shared}
theorem f91{l b:Addr}{i1 i2:Array Value}{ns ms:List Int}{Q:Value→Shared→Prop}(hl:IsTup s.heap l i1)(hb:IsTup s.heap b i2)(hi:IntsAre i1.toList ns)(hj:IntsAre i2.toList ms)
  (hu:A.units < cLine) (h:Q (.bool (leB ns ms)) s):wpAny (model P w) A (compareOp .LtE (.ref l) (.ref b)) Q E s:=by
 obtain⟨⟨cls,dd,data,sl⟩,ho,hc,n,hd⟩:=id hl;obtain⟨⟨cls2,dd2,data2,sl2⟩,ho2,hc2,n2,hd2⟩:=id hb
 simp only at hc hd hc2 hd2;subst hc hd hc2 hd2
 exact richCompare_meets_room (op:=.LtE) ⟨_,ho,rfl⟩ ⟨_,ho2,rfl⟩ PySem.F.slot_tuple_le PySem.F.entry_tuple_le (PySem.F.args_tuple_le_2 _ _) (H20 l b i1 i2 n n2 dd dd2 sl sl2 ns ms hi hj)
  ⟨ho,ho2,show Value.bool (leB ns ms)≠Value.notImplemented∧Q (.bool (leB ns ms)) s from⟨(λx=>nomatch x),h⟩⟩ hu
theorem M11{t b:Addr}{ws:List Value}{Q:Value→Shared→Prop}(ht:IsTup s.heap t #[])(hb:IsTup s.heap b ws.toArray)(h:Q (.ref b) s):wpAny (model P w) A (binaryOp .Add (.ref t) (.ref b)) Q E s:=by
 obtain⟨⟨cls,dd,data,sl⟩,ho,hc,n,hd⟩:=id ht;obtain⟨⟨cls2,dd2,data2,sl2⟩,ho2,hc2,n2,hd2⟩:=id hb
 simp only at hc hd hc2 hd2;subst hc hd hc2 hd2
 exact concat_meets ⟨_,ho,rfl⟩ ⟨_,ho2,rfl⟩ noFill_tuple_add seq_tuple_add PySem.F.slot_tuple_add PySem.F.entry_tuple_add (PySem.F.args_tuple_add_2 _ _) (tuple_addW0 t b #[] ws.toArray n n2 dd dd2 sl sl2 (by simp)) ⟨ho,ho2,h⟩
theorem N50:seqRepeat? (.type "tuple")=pure (some (.builtin "tuple.__mul__")):=by
 first | kernel_rfl | rfl | (unfold seqRepeat?;kernel_rfl)
theorem x90:fillsNumberSlot (.type "tuple") "mul"=pure false:=by
 first | kernel_rfl | rfl
theorem g01(a:Int)(t:Tok)(l:Addr)(xs:Array Value)(n:Nat)(dd:Option Addr)(sl:Array (Option Value)) :
  Meets (Builtin.«int.__rmul__» ⟨[.int a t,.ref l],[]⟩) (λ_ R s=>s.heap.get? l=some { cls:=.type "tuple",dict:=dd,data:=.seq xs n,slots:=sl }∧R (.ok (.ret Value.notImplemented)) s) :=
 .of_wp λP w A R s h=>by obtain⟨hp,g,d,tk,os⟩:=s;obtain⟨hl,h⟩:=h;wp_walk;exact⟨_,rfl,h⟩
theorem M21(l:Addr)(k:Int)(u:Tok)(n:Nat)(dd:Option Addr)(sl:Array (Option Value))(h1:¬ (decide (k < -(2 ^ 63)) || decide (k ≥ 2 ^ 63))=true) :
  Meets (Builtin.«tuple.__mul__» ⟨[.ref l,.int k u],[]⟩) (λ_ R s=>s.heap.get? l=some { cls:=.type "tuple",dict:=dd,data:=.seq #[] n,slots:=sl }∧R (.ok (.ret (.ref l))) s) :=
 .of_wp λP w A R s h=>by
  obtain⟨hp,g,d,tk,os⟩:=s;obtain⟨hl,h⟩:=h
  have f1:=AutoSeq1.idx_int
  have hc:((#[]:Array Value).isEmpty || k == 1)=true:=by simp
  wp_walk using AutoSeq1.wpAny_loadPart' hl
  simp only[h1,if_false]
  wp_walk using AutoSeq1.wpAny_loadPart' hl
  exact⟨_,rfl,h⟩
theorem A61(l:Addr)(xs:Array Value)(k:Int)(u:Tok)(n:Nat)(dd:Option Addr)(sl:Array (Option Value))(h1:¬ (decide (k < -(2 ^ 63)) || decide (k ≥ 2 ^ 63))=true)(h2:¬ (xs.isEmpty || k == 1)=true)(h3:¬ (decide (k≤0) || xs.isEmpty)=true)
  (h4:¬ (xs.size:Int) * k > (2 ^ 63 - 1) / 8) (h5:¬ Builtin.Tuple.tupleTooMany ((xs.size:Int) * k)=true) (h6:(List.foldl (λx y=>x++y) #[] (List.replicate k.toNat xs)).size≤sizeLine) :
  Meets (Builtin.«tuple.__mul__» ⟨[.ref l,.int k u],[]⟩) (λ_ R s=>s.heap.get? l=some { cls:=.type "tuple",dict:=dd,data:=.seq xs n,slots:=sl }∧R (.ok (.ret (.ref s.heap.objs.size))) { s with heap:=s.heap.push { cls:=.type "tuple",data:=.seq (List.foldl (λx y=>x++y) #[] (List.replicate k.toNat xs)) } }) :=
 .of_wp λP w A R s h=>by
  obtain⟨hp,g,d,tk,os⟩:=s;obtain⟨hl,h⟩:=h
  have f1:=AutoSeq1.idx_int
  wp_walk using AutoSeq1.wpAny_loadPart' hl
  simp only[h1,if_false]
  wp_walk using AutoSeq1.wpAny_loadPart' hl
  simp only[h4,h5,if_false]
  refine wpAny_bind (m:=Builtin.Tuple.tupleExact _) (wpAny_newObj_type (wpAny_pure ?_) h6)
  exact⟨_,rfl,h⟩
end
end HT
namespace HT
open PySem PyProof.Rows
theorem s70{α β:Type}(f:α→Option β)(g:α→β):∀ (l:List α),(∀ k∈l,f k=some (g k))→l.filterMap f=l.map g
 |[],_=>rfl
 |x::r,h=>by rw[List.filterMap_cons,h x List.mem_cons_self,List.map_cons,s70 f g r λk hk=>h k (List.mem_cons_of_mem _ hk)]
section
variable {P:Program}{w:World}{A:Around}{E:Value→Shared→Prop}{s:Shared}
theorem q80{t sl:Addr}{xs:Array Value}{vl vu:Value}{lo hi:Option Int}{Q:Value→Shared→Prop}(ht:IsTup s.heap t xs)(hs:s.heap.IsSliceOf sl vl vu .none)(pl:IsPart vl lo)(pu:IsPart vu hi)
  (hw:sIx xs.size 0 lo=0∧sIx xs.size xs.size hi=xs.size) (h:Q (.ref t) s):wpAny (model P w) A (getItem (.ref t) (.ref sl)) Q E s:=by
 obtain⟨os,hos,hcs,hds⟩:=id hs
 have hTs:s.TypeIs (.ref sl) "slice":=⟨os,hos,hcs⟩
 unfold getItem;try with_reducible refine wpAny_holding ?_
 first | refine wpAny_bind (wpAny_pure ?_) | skip
 refine wpAny_bind (wpAny_sequenceKey ht.typeIs (by decide) ?_);refine wpAny_bind (wpAny_callSpecial?_slot (name:=Str.ofString "__getitem__") ht.typeIs PyProof.Rows.slot_tuple_getitem (wpAny_call_entry PyProof.Rows.slot_tuple_getitem ht.typeIs entry_tuple_getitem ?_ (args_tuple_getitem _ _)))
 show wpAny _ _ (Builtin.Tuple.tupleItemsOf (.ref t) >>= _) _ _ s;refine wpAny_bind (tupleItemsOf_ ht (wpAny_bind (wpAny_typeOf hTs ?_)))
 rw[if_pos (by decide)];refine wpAny_bind (m40 hs pl pu ?_)
 rw[hw.1,hw.2]
 show wpAny _ _ (if (((0:Nat):Int) == 0&&(1:Int) == 1&&(xs.size - 0) == xs.size)=true then _ else _) _ _ s
 rw[if_pos (by simp)]
 refine wpAny_bind (m:=Builtin.Tuple.tupleIsExact _) ?_
 unfold Builtin.Tuple.tupleIsExact
 refine wpAny_bind (wpAny_typeOf ht.typeIs (wpAny_pure ?_))
 rw[if_pos (by decide)]
 first
  |exact wpAny_bind (wpAny_rule (wpAny_pure ⟨_,rfl,wpAny_pure h⟩))
  |exact wpAny_bind (wpAny_rule (wpAny_bind (wpAny_pure (wpAny_pure ⟨_,rfl,wpAny_pure h⟩))))
theorem u70{t sl:Addr}{xs:List Value}{u:Tok}{Q:Value→Shared→Prop}(ht:IsTup s.heap t xs.toArray)(hs:s.heap.IsSliceOf sl .none .none (.int (-1) u))
  (h:Q (.ref s.heap.objs.size) { s with heap:=s.heap.push { cls:=.type "tuple",data:=.seq xs.reverse.toArray } }) (hz:xs.length≤sizeLine):wpAny (model P w) A (getItem (.ref t) (.ref sl)) Q E s:=by
 obtain⟨os,hos,hcs,hds⟩:=id hs
 have hTs:s.TypeIs (.ref sl) "slice":=⟨os,hos,hcs⟩
 unfold getItem;try with_reducible refine wpAny_holding ?_
 first | refine wpAny_bind (wpAny_pure ?_) | skip
 refine wpAny_bind (wpAny_sequenceKey ht.typeIs (by decide) ?_);refine wpAny_bind (wpAny_callSpecial?_slot (name:=Str.ofString "__getitem__") ht.typeIs PyProof.Rows.slot_tuple_getitem (wpAny_call_entry PyProof.Rows.slot_tuple_getitem ht.typeIs entry_tuple_getitem ?_ (args_tuple_getitem _ _)))
 show wpAny _ _ (Builtin.Tuple.tupleItemsOf (.ref t) >>= _) _ _ s;refine wpAny_bind (tupleItemsOf_ ht (wpAny_bind (wpAny_typeOf hTs ?_)))
 rw[if_pos (by decide)]
 have app:∀ {R:Int × Int × Nat→Shared→Prop},R ((xs.length:Int) - 1,-1,xs.length) s→wpAny (model P w) A.in1 (Builtin.Slice.sliceApplied (.ref sl) (pure (xs.toArray.size:Int))) R E s:=λ{R} q=>by
  unfold Builtin.Slice.sliceApplied Builtin.Slice.sliceFields
  refine wpAny_bind (wpAny_bind (wpAny_field hos hds (x:=.none) rfl (wpAny_bind (wpAny_field hos hds (x:=.none) rfl (wpAny_bind (wpAny_field hos hds (x:=.int (-1) u) rfl (wpAny_pure ?_)))))))
  refine wpAny_bind (slicePart_int ?_)
  show wpAny _ _ (if ((-1:Int) == 0)=true then _ else _) _ _ s
  rw[if_neg (by decide)]
  refine wpAny_bind (slicePart_none (wpAny_bind (slicePart_none (wpAny_bind (wpAny_pure ?_)))))
  have e1:Builtin.Slice.sliceAdjust none none (-1) (xs.toArray.size:Int)=((xs.length:Int) - 1,-1):=by simp[Builtin.Slice.sliceAdjust]
  have e2:Builtin.Slice.slicePlaces ((xs.length:Int) - 1) (-1) (-1)=xs.length:=by
   unfold Builtin.Slice.slicePlaces
   rw[if_neg (by decide)]
   split
   ·simp only[Int.neg_neg,Int.ediv_one];omega
   ·omega
  show wpAny _ _ (match Builtin.Slice.sliceAdjust none none (-1) (xs.toArray.size:Int) with | (lo,hi)=>pure (lo,(-1:Int),Builtin.Slice.slicePlaces lo hi (-1))) _ _ s
  rw[e1]
  show wpAny _ _ (pure ((xs.length:Int) - 1,(-1:Int),Builtin.Slice.slicePlaces ((xs.length:Int) - 1) (-1) (-1))) _ _ s
  rw[e2]
  exact wpAny_pure q
 refine wpAny_bind (app ?_)
 show wpAny _ _ (if (((xs.length:Int) - 1) == 0&&(-1:Int) == 1&&xs.length == xs.toArray.size)=true then _ else _) _ _ s
 rw[if_neg (by simp)]
 have pick:((List.range xs.length).filterMap λ(k:Nat)=>xs.toArray[((xs.length:Int) - 1 + (k:Int) * -1).toNat]?)=xs.reverse:=by
  refine List.ext_getElem? λi=>?_
  have hall:∀ k∈List.range xs.length,xs.toArray[((xs.length:Int) - 1 + (k:Int) * -1).toNat]?=some (xs.getD (xs.length - 1 - k) Value.none):=λk hk=>by
   have hk':k < xs.length:=by simpa using hk
   have e:((xs.length:Int) - 1 + (k:Int) * -1).toNat=xs.length - 1 - k:=by omega
   rw[e]
   have:xs.length - 1 - k < xs.length:=by omega
   simp[this]
  rw[s70 _ _ _ hall,List.getElem?_map]
  by_cases hi:i < xs.length
  ·have h2:xs.length - 1 - i < xs.length:=by omega
   rw[List.getElem?_range hi,List.getElem?_reverse hi]
   simp[h2]
  ·rw[List.getElem?_eq_none (by simpa using hi),List.getElem?_eq_none (by simpa using hi)];rfl
 rw[pick]
 have hsz:sizeOk (.seq xs.reverse.toArray):=by show xs.reverse.toArray.size≤sizeLine;rw[List.size_toArray,List.length_reverse];exact hz
 first
  |exact wpAny_bind (m:=Builtin.Tuple.tupleExact _) (wpAny_newObj_type (wpAny_pure ⟨_,rfl,wpAny_pure h⟩) hsz)
  |exact wpAny_bind (m:=Builtin.Tuple.tupleExact _) (wpAny_newObj_type (wpAny_bind (wpAny_pure (wpAny_pure ⟨_,rfl,wpAny_pure h⟩))) hsz)
  |exact wpAny_bind (wpAny_bind (m:=Builtin.Tuple.tupleExact _) (wpAny_newObj_type (wpAny_pure (wpAny_pure ⟨_,rfl,wpAny_pure h⟩)) hsz))
  |exact wpAny_bind (wpAny_bind (m:=Builtin.Tuple.tupleExact _) (wpAny_newObj_type (wpAny_pure ⟨_,rfl,wpAny_pure h⟩) hsz))
end
end HT
namespace L2
open PySem PySem.Spec PyProof.Rows
theorem a30.sqT{K:PySem.W.Frag}{H H':Hp}{a:Addr}{xs:List V}(e:a30 H H')(h:SqT K H a xs):SqT K H' a xs:=by
 rcases h with (h | ⟨o,h⟩) | h
 ·exact .inl (.inl (e _ _ h))
 ·exact .inl (.inr ⟨o,e _ _ h⟩)
 ·exact .inr h
theorem a30.new{H:Hp}{p:Addr}(o:HO)(n:H p=none):a30 H (upd H p o):=λb u e=>by rw[a50 (b30 e n)];exact e
noncomputable def A71(K:PySem.W.Frag)(H:Hp)(zs:List V)(Q:VK):Prop:=∀ p H',a30 H H'→SqT K H' p zs→Q (.ref p) H'
section
variable {X:Cx}{pins:List (Addr × Obj)}{σ:St}{H:Hp}{s:Shared}
theorem A71.here{zs:List V}{Q:VK}{a:Addr}(q:A71 X.K H zs Q)(I:Inv X pins σ H s)(h:SqT X.K H a zs):EP X pins σ Q (.ref a) s:=⟨.ref a,H,I,rfl,q a H (a30.refl H) h⟩
theorem A71.new{zs:List V}{us:List Value}{Q:VK}(q:A71 X.K H zs Q)(I:Inv X pins σ H s)(r:Vals zs us)(hz:zs.length≤sizeLine) :
  EP X pins σ Q (.ref s.heap.objs.size) { s with heap:=s.heap.push { cls:=.type "tuple",data:=.seq us.toArray } } :=
 have hn:H s.heap.objs.size=none:=I.hok.fresh (Nat.le_refl _)
 ⟨.ref s.heap.objs.size,_,I.laid (t':=s.toks) (o:=.tup zs) (λb ob q=>Heap.get?_push_of_some _ q) (Nat.le_refl _) ⟨hz,_,r,IsTup.new _ _⟩,rfl,q _ _ (a30.new _ hn) (SqT.of c30)⟩
end
section
variable {X:Cx}
noncomputable def C32(K:PySem.W.Frag):R2:=λx y H Q=>∃ a b ns ms,x=.ref a∧y=.ref b∧SqT K H a (ns.map V.int)∧SqT K H b (ms.map V.int)∧Q (.bl (HT.leB ns ms)) H
theorem Z91(hu:X.A.units < cLine):OpR X (compareOp .LtE) (C32 X.K):=by
 intro pins s σ H x y v u Q I rx ry h
 obtain⟨a,b,ns,ms,rfl,rfl,ha,hb,q⟩:=h
 cases rx;cases ry
 obtain⟨v1,r1,p1,_⟩:=I.tuple ha
 obtain⟨v2,r2,p2,_⟩:=I.tuple hb
 exact HT.f91 p1 p2 (show IntsAre v1.toArray.toList ns from intsAre_of r1) (show IntsAre v2.toArray.toList ms from intsAre_of r2) hu ⟨.bl (HT.leB ns ms),H,I,rfl,q⟩
noncomputable def o52(K:PySem.W.Frag):R2:=λx y H Q=>∃ a b xs ys,x=.ref a∧y=.ref b∧SqT K H a xs∧SqT K H b ys∧xs.length + ys.length≤sizeLine∧A71 K H (xs++ys) Q
theorem M31:OpR X (binaryOp .Add) (o52 X.K):=by
 intro pins s σ H x y v u Q I rx ry h
 obtain⟨a,b,xs,ys,rfl,rfl,ha,hb,hz,q⟩:=h
 cases rx;cases ry
 obtain⟨v1,r1,p1,_⟩:=I.tuple ha
 obtain⟨v2,r2,p2,_⟩:=I.tuple hb
 by_cases hx:xs=[]
 ·subst hx
  have e:=r1.A10.mpr rfl
  subst e
  exact HT.M11 p1 p2 (q.here I hb)
 ·refine HT.K01 p1 p2 (λz=>hx (r1.A10.mp z)) (λz=>?_) (λz=>q.new I (r1.append r2) (by rw[List.length_append];exact hz)) (by rw[← r1.length,← r2.length];exact hz)
  have e:=r2.A10.mp z
  subst e
  rw[List.append_nil] at q
  exact q.here I ha
noncomputable def o62(K:PySem.W.Frag):R2:=λx y H Q=>∃ a k xs,x=.ref a∧y=.int k∧SqT K H a xs∧2≤k∧k < 1000000∧k.toNat * xs.length≤sizeLine∧A71 K H (List.replicate k.toNat xs).flatten Q
theorem M41:OpR X (binaryOp .Mult) (o62 X.K):=by
 intro pins s σ H x y v u Q I rx ry h
 obtain⟨a,k,xs,rfl,rfl,ha,hk,hk2,hz,q⟩:=h
 cases rx
 obtain⟨t,rfl⟩:=ry
 obtain⟨v1,r1,p1,_⟩:=I.tuple ha
 have hl:=r1.length
 obtain⟨⟨cls,dd,data,sl⟩,ho,hc,n,hd⟩:=id p1
 simp only at hc hd;subst hc hd
 have h1:¬ (decide (k < -(2 ^ 63)) || decide (k ≥ 2 ^ 63))=true:=by simp;omega
 refine wpAny_binaryOp_repeat_ref (T:="tuple") (U:="int") (by decide) ⟨_,ho,rfl⟩ (λs'=>typeIs_int s' k t) HT.x90 F.fills_int_mul F.slot_int_rmul HT.N50 F.slot_int_index.lookup
  (call_meets F.slot_int_rmul (typeIs_int s k t) F.entry_int_rmul (F.args_int_rmul_2 _ _) (HT.g01 k t a v1.toArray n dd sl) ⟨ho,rfl,⟨_,ho,rfl⟩,?_⟩)
 by_cases hx:xs=[]
 ·subst hx
  have e:=r1.A10.mpr rfl
  subst e
  refine call_meets F.slot_tuple_mul ⟨_,ho,rfl⟩ F.entry_tuple_mul (F.args_tuple_mul_2 _ _) (HT.M21 a k t n dd sl h1) ⟨ho,?_⟩
  have e2:(List.replicate k.toNat ([]:List V)).flatten=[]:=by simp
  rw[e2] at q
  exact q.here I ha
 ·have hv:v1≠[]:=λz=>hx (r1.A10.mp z)
  have hpos:0 < v1.length:=List.length_pos_iff.mpr hv
  have hfl:List.foldl (λx y=>x++y) #[] (List.replicate k.toNat v1.toArray)=(List.replicate k.toNat v1).flatten.toArray:=by
   have:=foldl_rep v1 k.toNat []
   rw[List.nil_append] at this
   exact this
  have hsz:v1.length * k.toNat≤sizeLine:=by rw[← hl,Nat.mul_comm];exact hz
  have hcast:((v1.toArray.size:Nat):Int) * k=((v1.length * k.toNat:Nat):Int):=by rw[List.size_toArray,Int.natCast_mul,Int.toNat_of_nonneg (by omega)]
  have hline:(sizeLine:Nat)≤(2 ^ 63 - 1) / 8:=by decide
  refine call_meets F.slot_tuple_mul ⟨_,ho,rfl⟩ F.entry_tuple_mul (F.args_tuple_mul_2 _ _) (HT.A61 a v1.toArray k t n dd sl h1 (by simp[hv];omega) (by simp[hv];omega) (by rw[hcast];generalize v1.length * k.toNat=m at hsz;omega) (by rw[hcast];generalize v1.length * k.toNat=m at hsz;unfold Builtin.Tuple.tupleTooMany;intro z;have z':=of_decide_eq_true z;omega)
   (by rw[hfl,List.size_toArray,len_rep,Nat.mul_comm];exact hsz)) ⟨ho,?_⟩
  rw[hfl]
  exact q.new I (r1.rep k.toNat) (by rw[len_rep];exact hz)
noncomputable def C42(K:PySem.W.Frag):V→Option Int→Option Int→Hp→VK→Prop:=λx lo hi H Q=>∃ a xs,x=.ref a∧SqT K H a xs∧A71 K H (y41 xs lo hi) Q
theorem M51:SlR X (C42 X.K):=by
 intro pins s σ H x v vl vu lo hi sl Q I rx hs pl pu h
 obtain⟨a,xs,rfl,hx,q⟩:=h
 cases rx
 obtain⟨its,r,ht,hz⟩:=I.tuple hx
 have hlen:its.toArray.size=xs.length:=by rw[List.size_toArray];exact r.length.symm
 refine⟨"tuple",_,PyProof.Rows.slot_tuple_getitem.lookup,ht.typeIs,?_⟩
 by_cases hw:HT.sIx xs.length 0 lo=0∧HT.sIx xs.length xs.length hi=xs.length
 ·refine HT.q80 ht hs pl pu (by rw[hlen];exact hw) ?_
  have e:y41 xs lo hi=xs:=by unfold y41;rw[hw.1,hw.2];simp
  rw[e] at q
  exact q.here I hx
 ·refine HT.u60 ht hs pl pu (by rw[hlen];exact hw) ?_ (by rw[hlen];exact hz)
  rw[hlen]
  exact q.new I ((r.drop (HT.sIx xs.length 0 lo)).take (HT.sIx xs.length xs.length hi - HT.sIx xs.length 0 lo)) (Nat.le_trans (A00 xs lo hi) hz)
noncomputable def k12(K:PySem.W.Frag)(te ts:TE):TE:=λσ H Q=>te σ H λx H1=>ts σ H1 λy H2=>y=.int (-1)∧((∃ a xs,x=.ref a∧SqT K H2 a xs∧A71 K H2 xs.reverse Q)∨∃ a xs,x=.ref a∧SqL K H2 a xs∧∀ p,H2 p=none→Q (.ref p) (upd H2 p (.lst xs.reverse)))
theorem w52{e st:Expr}{te ts:TE}{p2 pos:Pos}(he:PE X e te)(hst:PE X st ts):PE X (.Subscript e (.Slice none none (some st) p2) pos) (k12 X.K te ts):=by
 intro pins s σ H Q I h
 refine Subscript_ (thn (he pins s σ H _ I h) λv s1 ⟨x,H1,I1,r1,q1⟩=>?_)
 refine wpAny_Slice ?_
 rw[evalPart_none]
 refine wpAny_pure (wpAny_pure ?_)
 rw[evalPart_some]
 refine thn (hst pins s1 σ H1 _ I1 q1) λw' s2 ⟨y,H2,I2,r2,q2⟩=>?_
 obtain⟨rfl,q2⟩:=q2
 obtain⟨t,rfl⟩:=r2
 have I4:Inv X pins σ H2 { s2 with heap:=s2.heap.push { cls:=.type "slice",data:=.fields #[.none,.none,.int (-1) t] } }:=I2.kept (t':=s2.toks) λb ob q=>Heap.get?_push_of_some _ q
 show wpAny (model X.prog X.w) X.A (subscriptTail e (.Slice none none (some st) p2) v (.ref s2.heap.objs.size)) (EP X pins σ Q) X.xe { s2 with heap:=s2.heap.push { cls:=.type "slice",data:=.fields #[.none,.none,.int (-1) t] } }
 rcases q2 with ⟨a,xs,rfl,hq,q⟩ | ⟨a,xs,rfl,hq,q⟩
 ·cases r1
  obtain⟨its,r,ht,hz⟩:=I4.tuple hq
  exact tail_any (ops:=[.ref a,.ref s2.heap.objs.size]) ht.typeIs PyProof.Rows.slot_tuple_getitem.lookup (HT.u70 ht (Heap.IsSliceOf.new ..) (q.new I4 r.reverse (by rw[List.length_reverse];exact hz)) (by rw[← r.length];exact hz)) (by with_unfolding_all rfl)
 ·cases r1
  obtain⟨its,r,ht,hz⟩:=I4.list hq
  have hlen:=r.length
  refine tail_any (ops:=[.ref a,.ref s2.heap.objs.size]) ht.isList.typeIs slot_list_getitem.lookup (wpAny_getItem_list_slice ht.isList (Heap.IsSliceOf.new ..) .none .none (.int (-1) t) (by simp) ?_ (by rw[List.size_toArray] <;> omega)) (by with_unfolding_all rfl)
  rw[PySem.W.krv_pick]
  refine⟨.ref _,_,I4.laid (t':=s2.toks) (o:=.lst xs.reverse) (λb ob q=>Heap.get?_push_of_some _ q) (Nat.le_refl _) ?_,rfl,q _ (I4.hok.fresh (Nat.le_refl _))⟩
  exact⟨by rw[List.length_reverse];exact hz,its.reverse,0,r.reverse,Heap.get?_push_size _ rfl⟩
theorem a02:OpR X (compareOp .Is) (λx y H Q=>∃ b c,x=.bl b∧y=.bl c∧Q (.bl (b == c)) H):=by
 intro pins s σ H x y v u Q I rx ry h
 obtain⟨b,c,rfl,rfl,q⟩:=h
 cases rx;cases ry
 exact is_bool (Y90 I q rfl)
theorem m01:OpR X (compareOp .IsNot) (λx y H Q=>∃ b c,x=.bl b∧y=.bl c∧Q (.bl (b != c)) H):=by
 intro pins s σ H x y v u Q I rx ry h
 obtain⟨b,c,rfl,rfl,q⟩:=h
 cases rx;cases ry
 exact isnot_bool (Y90 I q rfl)
theorem Inv.big{pins:List (Addr × Obj)}{σ:St}{H:Hp}{s:Shared}(I:Inv X pins σ H s):sysModules < s.heap.objs.size:=by
 have h:mainGlobals < s.heap.objs.size:=(I.mod.glob.keeps I.bk).lt
 exact Nat.lt_trans (by decide) h
noncomputable def o72:TE:=λ_ H Q=>∀ p,H p=none→Q (.ref p) (upd H p (.dK []))
theorem M61{pos:Pos}:PE X (.Dict [] [] pos) o72:=λpins s σ H Q I h =>
 wpAny_Dict_empty ⟨.ref s.heap.objs.size,_,I.laid (a:=s.heap.objs.size) (o:=.dK []) (t':=s.toks) (λ_ _ q=>Heap.get?_push_of_some _ q) (Nat.le_refl _) ⟨Nat.zero_le _,beq_eq_false_iff_ne.mpr (Ne.symm (Nat.ne_of_lt I.big)),[],.nil,Heap.DictOf.new _⟩,rfl,h _ (I.hok.fresh (Nat.le_refl _))⟩
end
end L2
namespace MySort
open PySem PySem.W PyProof.Rows
section
variable {P:Program}{w:World}{A:Around}{E:Value→Shared→Prop}{s:Shared}
theorem T60{l:Addr}{o:Obj}{vs:List Value}{n:Nat}{Q:List Value→Shared→Prop}(ho:s.heap.get? l=some o)(hc:o.cls=.type "list"∨o.cls=.type "tuple")(hd:o.data=.seq vs.toArray n)
  (h:Q vs { s with heap:=(s.heap.push (seqObj "list" #[] 0)).update s.heap.objs.size (Obj.mapSeq (·++vs.toArray)) }) (hz:vs.length≤sizeLine):wpAny (model P w) A (collect (.ref l)) Q E s:=by
 unfold collect
 refine wpAny_bind (wpAny_runValue (codeAny_builtin entry_proto_collect' ?_));show wpAny _ _ (do again (.builtin "list.__iadd__" ⟨[← newList [],.ref l],[]⟩)) _ _ s
 refine wpAny_bind (wpAny_newList (wpAny_pure ⟨Code.quiet_builtin _ (by decide +kernel),codeAny_builtin entry_list_iadd' ?_⟩))
 show wpAny _ _ (Builtin.List.listExtendWith (.ref s.heap.objs.size) (.ref l) (.ref s.heap.objs.size)) _ _ { s with heap:=s.heap.push (seqObj "list" #[] 0) }
 unfold Builtin.List.listExtendWith
 have ho':(s.heap.push (seqObj "list" #[] 0)).get? l=some o:=Heap.get?_push_of_some _ ho
 have fin:wpAny (model P w) A (do
   let o ← load s.heap.objs.size
   match o.data with
   |.seq xs _=>pure xs.toList
   |_=>unsupported "internal:collect") Q E { s with heap:=(s.heap.push (seqObj "list" #[] 0)).update s.heap.objs.size (Obj.mapSeq (·++vs.toArray)) }:=by
  refine wpAny_bind (wpAny_load (get?_update_seq (Heap.get?_push_size _ rfl) _) ?_)
  show wpAny _ _ (pure ((#[]:Array Value)++vs.toArray).toList) Q E _
  rw[show((#[]:Array Value)++vs.toArray).toList=vs by simp];exact wpAny_pure h
 rcases hc with hc | hc
 ·refine wpAny_bind (wpAny_typeOf (T:="list") ⟨o,ho',hc⟩ ?_);rw[if_pos (by rw[show(Value.type "list" == Value.type "list")=true by rfl];simp)]
  refine wpAny_bind (listItems_at ho' hd (wpAny_bind (listItems_at (xs:=#[]) (n:=0) (Heap.get?_push_size _ rfl) rfl ?_)));rw[if_neg (by simp)]
  exact wpAny_bind (listUpdate_at (xs:=#[]) (n:=0) (Heap.get?_push_size _ rfl) rfl (wpAny_pure fin) (Nat.zero_le _) (by show(#[]++vs.toArray).size≤sizeLine + 1;simp only[Array.size_append,List.size_toArray,List.length_nil];omega))
 ·refine wpAny_bind (wpAny_typeOf (T:="tuple") ⟨o,ho',hc⟩ ?_);rw[if_pos (by rw[show(Value.type "tuple" == Value.type "tuple")=true by rfl];simp)]
  refine wpAny_bind (listItems_at ho' hd (wpAny_bind (listItems_at (xs:=#[]) (n:=0) (Heap.get?_push_size _ rfl) rfl ?_)));rw[if_neg (by simp)]
  exact wpAny_bind (listUpdate_at (xs:=#[]) (n:=0) (Heap.get?_push_size _ rfl) rfl (wpAny_pure fin) (Nat.zero_le _) (by show(#[]++vs.toArray).size≤sizeLine + 1;simp only[Array.size_append,List.size_toArray,List.length_nil];omega))
theorem m11{l:Addr}{o:Obj}{vs:List Value}{Pr:List Nat→Prop}{kd:SortKind}{n:Nat}{Q:Value→Shared→Prop}(ho:s.heap.get? l=some o)(hc:o.cls=.type "list"∨o.cls=.type "tuple")(hd:o.data=.seq vs.toArray n)
  (hk:∀ h',l71 s.heap h'→Z41 P w A.in1.in1 { s with heap:=h' } vs Pr kd)
  (h:∀ (p:List Nat) (h':Heap) (c:Nat),Pr p→(∀ b o,s.heap.get? b=some o→h'.get? b=some o)→h'.get? (s.heap.objs.size + 1)=some (seqObj "list" (p.map λi=>vs.getD i Value.none).toArray c)→Q (.ref (s.heap.objs.size + 1)) { s with heap:=h' }) :
  wpAny (model P w) A (call (.builtin "sorted") [.ref l]) Q E s:=by
 have h64:=(hk s.heap λ_ _ e _=>e).len
 refine Calls.call_function_entry kind_sorted plain_sorted entry_sorted (args_sorted1 _) ?_;unfold Builtin.«sorted»
 refine wpAny_bind (m:=checkCount "sorted" 1 1 _) (wpAny_pure ?_);refine wpAny_bind (T60 ho hc hd ?_ (by rw[sizeLine_eq];omega));refine wpAny_bind (wpAny_newList ?_ (by rw[sizeLine_eq];omega))
 have hsz:((s.heap.push (seqObj "list" #[] 0)).update s.heap.objs.size (Obj.mapSeq (·++vs.toArray))).objs.size=s.heap.objs.size + 1:=by rw[Heap.size_update,size_push']
 have hoL:(((s.heap.push (seqObj "list" #[] 0)).update s.heap.objs.size (Obj.mapSeq (·++vs.toArray))).push (seqObj "list" vs.toArray 0)).get? (s.heap.objs.size + 1)=some (seqObj "list" vs.toArray 0):=by rw[← hsz];exact Heap.get?_push_size _ rfl
 have keep:∀ b o,s.heap.get? b=some o→(((s.heap.push (seqObj "list" #[] 0)).update s.heap.objs.size (Obj.mapSeq (·++vs.toArray))).push (seqObj "list" vs.toArray 0)).get? b=some o:=λb o q=>by
  have hlt:b < s.heap.objs.size:=Heap.lt_size q
  rw[Heap.get?_push_ne _ _ _ (by rw[hsz];exact Nat.ne_of_lt (Nat.lt_succ_of_lt hlt)),Heap.get?_update_ne _ _ _ _ (Nat.ne_of_lt hlt),Heap.get?_push_ne _ _ _ (Nat.ne_of_lt hlt)];exact q
 show wpAny _ _ _ _ _ { s with heap:=((s.heap.push (seqObj "list" #[] 0)).update s.heap.objs.size (Obj.mapSeq (·++vs.toArray))).push (seqObj "list" vs.toArray 0) }
 rw[hsz]
 refine wpAny_bind (wpAny_holding (wpAny_call_entry slot_list_sort ⟨_,hoL,rfl⟩ entry_list_sort (z61 hoL (λh' kp=>hk h' λb o e hc=>kp b o (keep b o e) hc) λp h' c hp kp hD=>⟨_,rfl,wpAny_pure ⟨_,rfl,h p h' c hp (λb o e=>kp b o (Nat.ne_of_lt (Nat.lt_succ_of_lt (Heap.lt_size e))) (keep b o e)) hD⟩⟩) (args_list_sort _)))
end
end MySort
namespace L2
open PySem PySem.Spec PyProof.Rows
open MySort (sortedBy)
section
variable {X:Cx}
noncomputable def M71(X:Cx)(H:Hp)(xs:List V)(Pr:List Nat→Prop):Prop:=∀ (pins:List (Addr × Obj)) (σ:St) (s:Shared) (us:List Value),Inv X pins σ H s→Vals xs us→∃ kd,∀ h',MySort.l71 s.heap h'→MySort.Z41 X.prog X.w X.A.in1.in1 { s with heap:=h' } us Pr kd
theorem w40:f30 X (.builtin "sorted") (λargs H Q=>∃ a xs,∃ Pr:List Nat→Prop,args=[.ref a]∧(SqL X.K H a xs∨SqT X.K H a xs)∧M71 X H xs Pr∧(∀ p,Pr p→∀ i∈p,i < xs.length)∧∀ p l,Pr p→H l=none→Q (.ref l) (upd H l (.lst (p.map λi=>xs.getD i .non)))):=by
 intro pins s σ H args us Q I r h
 obtain⟨a,xs,Pr,rfl,hq,hk,hpr,q⟩:=h
 obtain⟨u,rfl,rx⟩:=vals1 r
 cases rx
 have go:∀ (its:List Value) (o:Obj) (n:Nat),Vals xs its→s.heap.get? a=some o→(o.cls=.type "list"∨o.cls=.type "tuple")→o.data=.seq its.toArray n→wpAny (model X.prog X.w) X.A (call (.builtin "sorted") [.ref a]) (EP X pins σ Q) X.xe s:=λits o n rv ho hc hd=>by
  obtain⟨kd,kw⟩:=hk pins σ s its I rv
  have k0:=kw s.heap λ_ _ e _=>e
  refine MySort.m11 ho hc hd kw λp h' c hp kp hD=>?_
  have hn:H (s.heap.objs.size + 1)=none:=I.hok.fresh (Nat.le_add_right _ 1)
  have hlen:(p.map λi=>xs.getD i .non).length≤sizeLine:=by rw[List.length_map,k0.all p hp,sizeLine_eq];have:=k0.len;omega
  have rv':Vals (p.map λi=>xs.getD i .non) (p.map λi=>its.getD i Value.none):=by
   have hall:=hpr p hp
   clear hp hD hlen
   induction p with
   |nil=>exact .nil
   |cons i r ih =>
    refine .cons ?_ (ih λj hj=>hall j (List.mem_cons_of_mem _ hj))
    have hi:=hall i List.mem_cons_self
    obtain⟨u,hu,ru⟩:=rv.get (i:=i) (x:=xs[i]) (by simp[hi])
    have e1:xs.getD i V.non=xs[i]:=by simp[hi]
    have e2:its.getD i Value.none=u:=by rw[List.getD_eq_getElem?_getD,hu];rfl
    show RelV (xs.getD i V.non) (its.getD i Value.none)
    rw[e1,e2];exact ru
  exact⟨.ref (s.heap.objs.size + 1),_,I.laid (t':=s.toks) kp (Nat.le_add_right _ 1) (show h70 X.prog X.w _ h' _ (.lst _) from⟨hlen,_,c,rv',hD⟩),rfl,q p _ hp hn⟩
 rcases hq with hq | hq
 ·obtain⟨its,rv,pl,_⟩:=I.list hq
  obtain⟨o,ho,hc,n,hd⟩:=pl.isList
  exact go its o n rv ho (.inl hc) hd
 ·obtain⟨its,rv,⟨o,ho,hc,n,hd⟩,_⟩:=I.tuple hq
  exact go its o n rv ho (.inr hc) hd
end
section
variable {K:PySem.W.Frag}{g:TG}{tt:TT}{te:TE}{σ0:St}{H:Hp}{Q:VK}
end
end L2
namespace L2
open PySem PySem.Spec PyProof.Rows
inductive D where
 |non | bl (b:Bool) | int (i:Int) | str (x:Str) | tup (ds:List D) | lst (ds:List D) | dct
noncomputable def D.ty:D→String
 |.non=>"NoneType"
 |.bl _=>"bool"
 |.int _=>"int"
 |.str _=>"str"
 |.tup _=>"tuple"
 |.lst _=>"list"
 |.dct=>"dict"
mutual
noncomputable def Has(K:PySem.W.Frag)(H:Hp):D→V→Prop
 |.non,v=>v=.non
 |.bl b,v=>v=.bl b
 |.int i,v=>v=.int i
 |.str x,v=>v=.str x
 |.tup ds,v=>∃ a xs,v=.ref a∧SqT K H a xs∧D90 K H ds xs
 |.lst ds,v=>∃ a xs,v=.ref a∧SqL K H a xs∧D90 K H ds xs
 |.dct,v=>∃ a kvs,v=.ref a∧H a=some (.dK kvs)
noncomputable def D90(K:PySem.W.Frag)(H:Hp):List D→List V→Prop
 |[],xs=>xs=[]
 |d::ds,xs=>∃ x r,xs=x::r∧Has K H d x∧D90 K H ds r
end
section
variable {K:PySem.W.Frag}{H H':Hp}
end
noncomputable def isB(T C:String):Bool:=T == C || (T == "bool"&&C == "int")
theorem M81(K:PySem.W.Frag)(d:D):∀ C∈["int","bool","tuple","list","str"],PySem.W.kitOne K (.type d.ty) (.type C)=some (isB d.ty C):=by
 intro C hC
 simp only[List.mem_cons,List.not_mem_nil,or_false] at hC
 rcases hC with rfl | rfl | rfl | rfl | rfl <;> cases d <;> first | rfl | kernel_rfl | decide +kernel
section
variable {X:Cx}
theorem A81:f30 X (.builtin "isinstance") (λxs H Q=>∃ d x C,xs=[x,.ty C]∧Has X.K H d x∧C∈["int","bool","tuple","list","str"]∧Q (.bl (isB d.ty C)) H):=by
 intro pins s σ H xs us Q I r h
 obtain⟨d,x,C,rfl,hd,hC,q⟩:=h
 obtain⟨u,w',rfl,rx,rt⟩:=vals2 r
 cases (show w'=Value.type C from rt)
 have e:=M81 X.K d C hC
 have fin:∀ tk,EP X pins σ Q (.bool (isB d.ty C)) { s with toks:=tk }:=λtk=>⟨.bl _,H,I.tok tk,rfl,q⟩
 cases d with
 |non=>unfold Has at hd;subst hd;cases rx;exact PySem.W.kia_one PySem.W.kitx_none I.kIn True.intro e (λz=>nomatch z) fin
 |bl b=>unfold Has at hd;subst hd;cases rx;exact PySem.W.kia_one PySem.W.kitx_bool I.kIn True.intro e (λz=>nomatch z) fin
 |int i=>unfold Has at hd;subst hd;obtain⟨t,rfl⟩:=rx;exact PySem.W.kia_one PySem.W.kitx_int I.kIn True.intro e (λz=>nomatch z) fin
 |str y=>unfold Has at hd;subst hd;obtain⟨t,rfl⟩:=rx;exact PySem.W.kia_one PySem.W.kitx_str I.kIn True.intro e (λz=>nomatch z) fin
 |tup ds =>
  unfold Has at hd
  obtain⟨a,ys,rfl,hq,_⟩:=hd
  cases rx
  obtain⟨its,_,⟨o,h1,h2,_⟩,_⟩:=I.tuple hq
  exact PySem.W.kia_one PySem.W.kitx_tuple I.kIn ⟨o,h1,h2⟩ e (λz=>nomatch z) fin
 |lst ds =>
  unfold Has at hd
  obtain⟨a,ys,rfl,hq,_⟩:=hd
  cases rx
  obtain⟨its,_,pl,_⟩:=I.list hq
  obtain⟨o,h1,h2,_⟩:=pl.isList
  exact PySem.W.kia_one PySem.W.kitx_list I.kIn ⟨o,h1,h2⟩ e (λz=>nomatch z) fin
 |dct =>
  unfold Has at hd
  obtain⟨a,kvs,rfl,hq⟩:=hd
  cases rx
  obtain⟨_,_,vs,_,p⟩:=(show h70 X.prog X.w H s.heap a (.dK kvs) from I.hok a _ hq)
  obtain⟨o,es,ep,h1,h2,_⟩:=p
  exact PySem.W.kia_one PySem.W.kitx_dict I.kIn ⟨o,h1,h2.1⟩ e (λz=>nomatch z) fin
end
noncomputable def hide(st:Addr)(H:Hp):Hp:=λb=>if b=st then none else H b
theorem e10(st:Addr)(H:Hp):a30 (hide st H) H:=λb o e=>by
 unfold hide at e
 split at e
 ·cases e
 ·exact e
theorem A60{st:Addr}{H H':Hp}(e:∀ b o,b≠st→H b=some o→H' b=some o):a30 (hide st H) (hide st H'):=λb o h=>by
 unfold hide at h ⊢
 by_cases q:b=st
 ·rw[if_pos q] at h;cases h
 ·rw[if_neg q] at h ⊢;exact e b o q h
theorem H30{st b:Addr}{H:Hp}{o:HO}(h:H b=some o)(n:b≠st):hide st H b=some o:=by
 unfold hide;rw[if_neg n];exact h
end L2
namespace L2
open PySem PySem.Spec PyProof.Rows
theorem A91{σ:St}{H:Hp}{R:Bool→Hp→Prop}(h:R true H):y81 σ H R:=h
end L2
namespace L2
open PySem PySem.Spec PyProof.Rows
section
variable {X:Cx}
end
end L2
namespace L2
open PySem PySem.Spec PyProof.Rows
section
variable {X:Cx}
theorem a12(K:PySem.W.Frag)(d:D):PySem.W.kitAny K (.type d.ty) [.type "tuple",.type "list"]=some (isB d.ty "tuple" || isB d.ty "list"):=by
 have e1:=M81 K d "tuple" (by simp)
 have e2:=M81 K d "list" (by simp)
 unfold PySem.W.kitAny
 rw[e1]
 cases isB d.ty "tuple" with
 |true=>rfl
 |false =>
  show PySem.W.kitAny K (.type d.ty) [.type "list"]=_
  unfold PySem.W.kitAny
  rw[e2]
  cases isB d.ty "list" <;> rfl
theorem m21:f30 X (.builtin "isinstance") (λxs H Q=>∃ d x a,xs=[x,.ref a]∧Has X.K H d x∧SqT X.K H a [.ty "tuple",.ty "list"]∧Q (.bl (isB d.ty "tuple" || isB d.ty "list")) H):=by
 intro pins s σ H xs us Q I r h
 obtain⟨d,x,a,rfl,hd,hq,q⟩:=h
 obtain⟨u,w',rfl,rx,rt⟩:=vals2 r
 cases (show w'=Value.ref a from rt)
 obtain⟨its,rv,⟨⟨cls,dd,data,sl⟩,ho,hc,n,hdt⟩,_⟩:=I.tuple hq
 simp only at hc hdt;subst hc hdt
 have eits:its=[.type "tuple",.type "list"]:=by
  cases rv with
  |cons p r=>cases r with
   |cons p2 r2=>cases r2;rw[show _=Value.type "tuple" from p,show _=Value.type "list" from p2]
 subst eits
 have e:=a12 X.K d
 have fin:∀ tk,EP X pins σ Q (.bool (isB d.ty "tuple" || isB d.ty "list")) { s with toks:=tk }:=λtk=>⟨.bl _,H,I.tok tk,rfl,q⟩
 cases d with
 |non=>unfold Has at hd;subst hd;cases rx;exact PySem.W.kia_tup PySem.W.kitx_none I.kIn True.intro ho e (λz=>nomatch z) fin
 |bl b=>unfold Has at hd;subst hd;cases rx;exact PySem.W.kia_tup PySem.W.kitx_bool I.kIn True.intro ho e (λz=>nomatch z) fin
 |int i=>unfold Has at hd;subst hd;obtain⟨t,rfl⟩:=rx;exact PySem.W.kia_tup PySem.W.kitx_int I.kIn True.intro ho e (λz=>nomatch z) fin
 |str y=>unfold Has at hd;subst hd;obtain⟨t,rfl⟩:=rx;exact PySem.W.kia_tup PySem.W.kitx_str I.kIn True.intro ho e (λz=>nomatch z) fin
 |tup ds =>
  unfold Has at hd
  obtain⟨b,ys,rfl,hq',_⟩:=hd
  cases rx
  obtain⟨_,_,⟨o,h1,h2,_⟩,_⟩:=I.tuple hq'
  exact PySem.W.kia_tup PySem.W.kitx_tuple I.kIn ⟨o,h1,h2⟩ ho e (λz=>nomatch z) fin
 |lst ds =>
  unfold Has at hd
  obtain⟨b,ys,rfl,hq',_⟩:=hd
  cases rx
  obtain⟨_,_,pl,_⟩:=I.list hq'
  obtain⟨o,h1,h2,_⟩:=pl.isList
  exact PySem.W.kia_tup PySem.W.kitx_list I.kIn ⟨o,h1,h2⟩ ho e (λz=>nomatch z) fin
 |dct =>
  unfold Has at hd
  obtain⟨b,kvs,rfl,hq'⟩:=hd
  cases rx
  obtain⟨_,_,vs,_,p⟩:=(show h70 X.prog X.w H s.heap b (.dK kvs) from I.hok b _ hq')
  obtain⟨o,es,ep,h1,h2,_⟩:=p
  exact PySem.W.kia_tup PySem.W.kitx_dict I.kIn ⟨o,h1,h2.1⟩ ho e (λz=>nomatch z) fin
end
end L2
namespace L2
open PySem PySem.Spec PyProof.Rows PySem.SeqAt
theorem H40(l b:Addr)(es:Array DictEntry)(n:Nat)(it:Array Value)(n2:Nat)(dd dd2:Option Addr)(sl sl2:Array (Option Value)) :
  Meets (Builtin.«dict.__ne__» ⟨[.ref l,.ref b],[]⟩) (λ_ R s=>s.heap.get? l=some { cls:=.type "dict",dict:=dd,data:=.dict es n,slots:=sl }∧s.heap.get? b=some { cls:=.type "tuple",dict:=dd2,data:=.seq it n2,slots:=sl2 }∧R (.ok (.ret .notImplemented)) s) :=
 .of_wp λprog w A R s h=>by
  obtain⟨hp,g,d,tk,os⟩:=s
  obtain⟨hl,hb,h⟩:=h
  have f1:=F.sub_tuple_dict
  wp_walk using wpAny_loadPart' hl,wpAny_loadPart' hb
  exact⟨_,rfl,h⟩
theorem H50(l b:Addr)(es:Array DictEntry)(n:Nat)(it:Array Value)(n2:Nat)(dd dd2:Option Addr)(sl sl2:Array (Option Value)) :
  Meets (Builtin.«tuple.__ne__» ⟨[.ref b,.ref l],[]⟩) (λ_ R s=>s.heap.get? l=some { cls:=.type "dict",dict:=dd,data:=.dict es n,slots:=sl }∧s.heap.get? b=some { cls:=.type "tuple",dict:=dd2,data:=.seq it n2,slots:=sl2 }∧R (.ok (.ret .notImplemented)) s) :=
 .of_wp λprog w A R s h=>by
  obtain⟨hp,g,d,tk,os⟩:=s
  obtain⟨hl,hb,h⟩:=h
  have f1:=F.sub_dict_tuple
  wp_walk using wpAny_loadPart' hl,wpAny_loadPart' hb
  exact⟨_,rfl,h⟩
section
variable {X:Cx}
theorem M91(hu:X.A.units + 64 < cLine):OpR X (compareOp .NotEq) (λx y H Q=>∃ a b kvs xs,x=.ref a∧y=.ref b∧H a=some (.dK kvs)∧SqT X.K H b xs∧Q (.bl true) H):=by
 intro pins s σ H x y v u Q I rx ry h
 obtain⟨a,b,kvs,xs,rfl,rfl,ha,hb,q⟩:=h
 cases rx;cases ry
 obtain⟨v2,r2,⟨o2,h2,c2,n2,d2⟩,_⟩:=I.tuple hb
 obtain⟨_,_,vs,_,p⟩:=(show h70 X.prog X.w H s.heap a (.dK kvs) from I.hok a _ ha)
 obtain⟨o1,es,n1,h1,c1,d1,_⟩:=p
 have c1:=c1.1
 obtain⟨cls,dd,data,sl⟩:=o1
 obtain⟨cls2,dd2,data2,sl2⟩:=o2
 simp only at c1 d1 c2 d2
 subst c1 d1 c2 d2
 have hne:a≠b:=λe=>by
  subst e
  rw[h1] at h2
  simp at h2
 have hu':X.A.units < cLine:=by omega
 refine rc_ne_decline_or (k:=false) ⟨_,h1,rfl⟩ ⟨_,h2,rfl⟩ (by decide) F.sub_tuple_dict F.slot_dict_ne F.slot_tuple_ne_refl
  (λ_ hq=>call_meets F.slot_dict_ne ⟨_,h1,rfl⟩ F.entry_dict_ne (F.args_dict_ne_2 _ _) (H40 a b es n1 v2.toArray n2 dd dd2 sl sl2) ⟨h1,h2,hq⟩)
  (λ_ hq=>call_meets F.slot_tuple_ne_refl ⟨_,h2,rfl⟩ F.entry_tuple_ne (F.args_tuple_ne_2 _ _) (H50 a b es n1 v2.toArray n2 dd dd2 sl sl2) ⟨h1,h2,hq⟩)
  (λ_ hq=>wpAny_isSame_ref_other hne h1 h2 (by simp) hq) (.inr hu') ⟨.bl true,H,I,rfl,q⟩
end
end L2
namespace L2
open PySem PySem.Spec PyProof.Rows
section
variable {P:Program}{w:World}{A:Around}{E:Value→Shared→Prop}{s:Shared}
noncomputable abbrev eT1(h:Heap)(l:Addr):Heap:=h.push { cls:=.type "tuple_iterator",data:=.fields #[.ref l,.int 0 0] }
noncomputable abbrev eT2(h:Heap)(l:Addr):Heap:=(eT1 h l).push { cls:=.type "enumerate",data:=.fields #[.none,.bool false,.ref h.objs.size,rawInt 0,.none,.none] }
theorem T70(l:Addr)(xs:Array Value) :
  Meets (Builtin.«enumerate.__new__» ⟨[.type "enumerate",.ref l],[]⟩) (λ_ R s=>s.heap.IsTuple l xs∧R (.ok (.ret (.ref (eT1 s.heap l).objs.size))) { s with heap:=eT2 s.heap l }) :=
 .of_wp λP w A R s h=>by
  obtain⟨hp,g,d,tk,os⟩:=s;obtain⟨hl,h⟩:=h
  have hsub:=sub_enumerate
  have hL1:Heap.IsTuple (Shared.heap ⟨hp,g,d,tk,os⟩) l xs:=hl
  wp_walk;refine wpAny_stack_any λq=>wpAny_pure ?_;split
  ·rename_i c _ _ _ _ _;cases (c == Value.type "enumerate") <;> (wp_walk using wpAny_pyIter_tuple hL1) <;> exact⟨_,rfl,h⟩
  ·wp_walk using wpAny_pyIter_tuple hL1
   exact⟨_,rfl,h⟩
theorem g21{l:Addr}{xs:Array Value}{Q:Value→Shared→Prop}(hl:s.heap.IsTuple l xs)
  (h:∀ h',IsEnum h' (s.heap.objs.size + 1) s.heap.objs.size 0 .none→h'.IsTupleIter s.heap.objs.size l 0→(∀ c o,s.heap.get? c=some o→h'.get? c=some o)→Q (.ref (s.heap.objs.size + 1)) { s with heap:=h' }) :
  wpAny (model P w) A (call (.type "enumerate") [.ref l]) Q E s:=by
 refine callType_new F.called_enumerate (by decide) (F.typeCall_enumerate_1 _) (F.newCall_enumerate_1 _) (λobj=>F.args_object_init_2 obj _) F.entry_enumerate_new (T70 l xs) ⟨hl,?_⟩
 have n1:(eT1 s.heap l).objs.size=s.heap.objs.size + 1:=Heap.size_push ..
 have g2:(eT2 s.heap l).get? (eT1 s.heap l).objs.size=some _:=Heap.get?_push_size _ rfl
 have g1:(eT2 s.heap l).get? s.heap.objs.size=some _:=Heap.get?_push_of_some _ (Heap.get?_push_size _ rfl)
 show _∧_;rw[n1] at g2;rw[n1]
 exact⟨⟨_,g2,rfl⟩,h _ g2 ⟨_,g1,rfl,rfl⟩ λc o q=>Heap.get?_push_of_some _ (Heap.get?_push_of_some _ q)⟩
theorem m31(hh:A.handled=none){it l:Addr}{xs:Array Value}(n:l≠it):Draws P w A it [it,l] xs.size (λi x=>xs[i]?=some x) (λi h=>h.IsTupleIter it l i∧h.IsTuple l xs) where
 live:=λi h q=>by obtain⟨⟨o,e,_⟩,_⟩:=q;exact⟨o,e⟩
 frame:=λi h h' q k=>by
  obtain⟨⟨o,e,r⟩,⟨o',e',r'⟩⟩:=q
  exact⟨⟨o,k it (by simp) _ e,r⟩,⟨o',k l (by simp) _ e',r'⟩⟩
 item:=λi s Q E hi q k=>o90 q.1 q.2 (x:=xs[i]) (by simp[hi]) λh' h1 h2=>k _ h' s.toks (by simp[hi]) ⟨h1,q.2.extBut h2.extBut n⟩ h2
 done:=λs Q E q k=>l00 hh q.1 q.2 (by simp) λh' e h1 h2=>k h' e h1 h2
end
theorem G11{P:Program}{w:World}{A:Around}(b:Bool)(hh:A.handled=none){it l:Addr}{xs:Array Value}(n:l≠it):Draws P w A it [it,l] xs.size (λi x=>xs[i]?=some x) (λi h=>N20 b h it l i∧z01 b h l xs):=match b with
 |true=>Draws.list hh it l n xs
 |false=>m31 hh n
noncomputable def Ite(b:Bool)(K:PySem.W.Frag)(a:Addr):It :=
 ⟨λi H=>∃ xs x,SqB b K H a xs∧xs[i]?=some x,
  λi H v H'=>∃ T,v=.ref T∧H T=none∧∀ xs x,SqB b K H a xs→xs[i]?=some x→H'=upd H T (.tup [.int i,x]),
  λi H=>∃ xs,SqB b K H a xs∧xs.length=i⟩
theorem m41{P:Program}{w:World}{K:PySem.W.Frag}{es:List Expr}{ek:Nat}{ep:Pos}{a e it:Addr}{b:Bool}(h1:e≠it)(h2:a≠e)(h3:a≠it) :
  Turn P w K (.Tuple es ek ep) (Ite b K a) [e,it] e (λi h=>(∃ old,IsEnum h e it i old)∧N20 b h it a i) where
 mem:=by simp
 obj:=λi h st c hc=>by
  obtain⟨⟨old,he⟩,st⟩:=st
  obtain⟨o1,g1,d1,_⟩:=st.obj
  simp only[List.mem_cons,List.not_mem_nil,or_false] at hc
  rcases hc with rfl | rfl
  ·exact⟨_,he,λv e=>by cases e⟩
  ·exact⟨_,g1,d1⟩
 keep:=λi h h' st k=>by
  obtain⟨⟨old,he⟩,st⟩:=st
  obtain⟨o1,g1,_,r1⟩:=st.obj
  exact⟨⟨old,k e (by simp) _ he⟩,r1 h' (k it (by simp) _ g1)⟩
 item:=by
  intro X hP hw hK hc i pins s σ H E I hf st hg
  subst hP hw hK
  obtain⟨xs,x,hq,hx⟩:=hg
  obtain⟨v1,rv,p1,_,z1⟩:=I.z11 hq
  obtain⟨u,hu,ru⟩:=rv.get hx
  obtain⟨⟨old,he⟩,hi⟩:=st
  have hl:i < v1.toArray.size:=by simpa using (List.getElem?_eq_some_iff.mp hu).1
  refine wpAny_pyNext_enum_itemD (G11 (A:=X.A.in1) b (by exact I.ok.hd hc) h3) he ⟨hi,p1⟩ hl h1 (by simp[h1,h2.symm]) λy g1 tk hy ge gs gT sz kp=>⟨_,rfl,?_⟩
  have hy':v1[i]?=some y:=by simpa using hy
  rw[hu] at hy';cases hy'
  refine wpAny_letOwnedTupleGo_enum (s:={ s with heap:=g1,toks:=tk + 1 }) ge λg2 ge2 sb=>?_
  have hT:H s.heap.objs.size=none:=I.hok.fresh (Nat.le_refl _)
  have kall:∀ c o,c ∉ [e,it]→s.heap.get? c=some o→g2.get? c=some o:=λc o hc q=>by
   simp only[List.mem_cons,List.not_mem_nil,or_false,not_or] at hc
   exact sb.extBut _ _ hc.1 (kp c o hc.1 hc.2 q)
  have I2:Inv X pins σ H { s with heap:=g2,toks:=tk + 1 }:=I.G50 (t':=tk + 1) hf kall
  have fT:e81 X pins H s.heap.objs.size:=I.i31 (Nat.le_refl _) hT
  have gT2:g2.get? s.heap.objs.size=some { cls:=.type "tuple",data:=.seq #[.int i tk,u] }:=sb.extBut _ _ (λq=>Nat.lt_irrefl _ (by have:=Heap.lt_size he;rw[← q] at this;exact this)) gT
  have I3:Inv X pins σ (upd H s.heap.objs.size (.tup [.int i,x])) { s with heap:=g2,toks:=tk + 1 }:=I2.y71 fT I.sz (I2.hok.F71 hT (its:=[.int i tk,u]) (.cons ⟨_,rfl⟩ (.cons ru .nil)) (by show 2≤sizeLine;rw[sizeLine_eq];decide) ⟨_,gT2,rfl,_,rfl⟩)
  refine⟨.ref s.heap.objs.size,_,I3,rfl,⟨_,rfl,hT,λxs' x' e1 e2=>?_⟩,⟨⟨_,ge2⟩,by obtain⟨o,q1,_,q2⟩:=gs.1.obj;exact q2 _ (sb.extBut _ _ h1.symm q1)⟩,λc hc=>?_⟩
  ·rw[z1 _ e1] at e2
   rw[hx] at e2
   cases e2;rfl
  ·rw[a50]
   ·exact(hf c hc).1
   ·intro q
    simp only[List.mem_cons,List.not_mem_nil,or_false] at hc
    rcases hc with hc | hc
    ·exact Nat.lt_irrefl _ (by have:=Heap.lt_size he;rw[← hc,q] at this;exact this)
    ·obtain⟨o,ho,_⟩:=N20.obj hi;exact Nat.lt_irrefl _ (by have:=Heap.lt_size ho;rw[← hc,q] at this;exact this)
 done:=by
  intro X hP hw hK hc i pins s σ H E I hf st hg
  subst hP hw hK
  obtain⟨xs,hq,rfl⟩:=hg
  obtain⟨v1,rv,p1,_,z1⟩:=I.z11 hq
  obtain⟨⟨old,he⟩,hi⟩:=st
  refine wpAny_pyNext_enum_endD (G11 (A:=X.A.in1) (xs:=v1.toArray) b (by exact I.ok.hd hc) h3) he ⟨by rw[show v1.toArray.size=xs.length by simpa using rv.length.symm];exact hi,p1⟩ λg kp=>⟨rfl,I.G50 (t':=s.toks) hf λc o hcn q=>?_⟩
  simp only[List.mem_cons,List.not_mem_nil,or_false,not_or] at hcn
  exact kp c o hcn.2 q
 self:=λ_ _ _ _ _ st h=>by obtain⟨⟨_,he⟩,_⟩:=st;exact wpAny_pyIter_enum he h
noncomputable def o82(K:PySem.W.Frag)(ta:TA):TI:=λσ H R=>ta σ H λvs H1=>∃ b a,vs=[.ref a]∧(∃ xs,SqB b K H1 a xs)∧R (Ite b K a) H1
theorem g31{P:Program}{w:World}{A:Around}{E:Value→Shared→Prop}{s:Shared}{b:Bool}{l:Addr}{xs:Array Value}{Q:Value→Shared→Prop}(hl:z01 b s.heap l xs)
  (h:∀ h',IsEnum h' (s.heap.objs.size + 1) s.heap.objs.size 0 .none→N20 b h' s.heap.objs.size l 0→(∀ c o,s.heap.get? c=some o→h'.get? c=some o)→Q (.ref (s.heap.objs.size + 1)) { s with heap:=h' }) :
  wpAny (model P w) A (call (.type "enumerate") [.ref l]) Q E s:=match b,hl,h with
 |true,hl,h=>call_enumerate_list hl λh' a b _ c=>h h' a b c
 |false,hl,h=>g21 hl h
theorem m51:bootBuiltins "enumerate"=some (.type "enumerate"):=by decide +kernel
theorem N01{X:Cx}{a:Expr}{es:List Expr}{ek:Nat}{ep:Pos}{ta:TA}{p pos:Pos}(hg:Gl X "enumerate")(hm:X.mg "enumerate"=none)(ha:PA X [a] ta)(hs:starEach [a] X.env=[(false,eval a X.env)]:=by rfl) :
  PI X (.Tuple es ek ep) (.Call (.Name "enumerate" p) [a] [] pos) (o82 X.K ta):=by
 intro pins s σ H R I h
 refine Call_ (s30 I hg hm m51 (PyProof.Rows.callWith_type1 (thn (ha pos pins s σ H _ I h) λus s1 ⟨vs,H1,I1,r1,q1⟩=>?_) (by rw[hs];rfl) (by rfl)))
 obtain⟨b,l1,e,⟨xs,hq1⟩,q⟩:=q1
 subst e
 obtain⟨u,rfl,r⟩:=vals1 r1
 cases r
 obtain⟨v1,rv1,p1,a1,_⟩:=I1.z11 hq1
 refine g31 p1 λh' he h1 kp=>wpAny_pyIter_enum (s:={ s1 with heap:=h' }) he ?_
 refine⟨_,[s1.heap.objs.size + 1,s1.heap.objs.size],_,_,H1,rfl,I1.kept (t':=s1.toks) kp,m41 (Nat.succ_ne_self _) (Nat.ne_of_lt (Nat.lt_succ_of_lt a1)) (Nat.ne_of_lt a1),⟨⟨_,he⟩,h1⟩,λc hc=>?_,q⟩
 have hc':s1.heap.objs.size≤c:=by
  simp only[List.mem_cons,List.not_mem_nil,or_false] at hc
  rcases hc with rfl | rfl
  ·exact Nat.le_add_right _ 1
  ·exact Nat.le_refl _
 exact I1.i31 hc' (I1.hok.fresh hc')
end L2
namespace HT
open PySem PySem.W PyProof.Rows
set_option maxRecDepth 100000
section
variable {P:Program}{w:World}{A:Around}{E:Value→Shared→Prop}{s:Shared}
theorem H60{r:Addr}{a b c:Int}{t u v:Tok}{n:Nat}{Q:List Value→Shared→Prop}(hh:A.handled=none)(hr:IsRange s.heap r a b c t u v)(hs:Builtin.Range.small a b c=true)(hn:Builtin.Range.rangeSize a b c=n)(hl:n≤2 ^ 24)
  (hQ:∀ (h':Heap) (tk:Nat) (acc:Array Value),(∀ b o,s.heap.get? b=some o→h'.get? b=some o)→s.heap.objs.size≤h'.objs.size→ItemsOf (λi v=>∃ t,v=.int (a + i * c) t) acc n→Q acc.toList { s with heap:=h',toks:=tk }):wpAny (model P w) A (collect (.ref r)) Q E s:=by
 unfold collect
 refine wpAny_bind (wpAny_runValue (codeAny_builtin PySem.F.entry_proto_collect ?_));rw[Around.under_plainId PySem.F.plain_proto_collect _]
 show wpAny _ A.in1 (newList [] >>= λl=>again (.builtin "list.__iadd__" ⟨[l,.ref r],[]⟩)) _ _ s
 refine wpAny_bind (wpAny_newObj_type (wpAny_pure ⟨plainId_quiet PySem.F.plain_list_iadd _,codeAny_builtin PySem.F.entry_list_iadd ?_⟩));rw[Around.under_plainId PySem.F.plain_list_iadd _]
 show wpAny _ A.in1 (Builtin.List.listExtendWith (.ref s.heap.objs.size) (.ref r) (.ref s.heap.objs.size)) _ _ { s with heap:=s.heap.push (seqObj "list" #[] 0) }
 have hS:(s.heap.push (seqObj "list" #[] 0)).get? s.heap.objs.size=some { cls:=.type "list",data:=.seq #[] 0 }:=Heap.get?_push_size _ rfl
 refine wpAny_mono (wpAny_extend_range (A:=A) (s:={ s with heap:=s.heap.push (seqObj "list" #[] 0) }) (R:=λx s'=>x=.ok (.ret (.ref s.heap.objs.size))∧∃ h' tk acc c',s'={ s with heap:=h',toks:=tk }∧(∀ b o,s.heap.get? b=some o→h'.get? b=some o)∧h'.get? s.heap.objs.size=some { cls:=.type "list",dict:=none,data:=.seq acc c',slots:=#[] }∧ItemsOf (λi v=>∃ t,v=.int (a + i * c) t) acc n) hh (Heap.get?_push_of_some _ hr) hs hn hl _ (.ref s.heap.objs.size) 0 hS λh' tk acc c' hk hS' hi=>⟨rfl,h',tk,acc,c',rfl,λb o e=>hk b o (Nat.ne_of_lt (Heap.lt_size e)) (Heap.get?_push_of_some _ e),hS',hi⟩) (λfin s' h=>?_) λe s' h=>?_
 ·have go:∀ s',(∃ h' tk acc c',s'={ s with heap:=h',toks:=tk }∧(∀ b o,s.heap.get? b=some o→h'.get? b=some o)∧h'.get? s.heap.objs.size=some { cls:=.type "list",dict:=none,data:=.seq acc c',slots:=#[] }∧ItemsOf (λi v=>∃ t,v=.int (a + i * c) t) acc n)→wpAny (model P w) A (match Value.ref s.heap.objs.size with
   |Value.ref a=>do
    match (← load a).data with
     |Data.seq xs _=>pure xs.toList
     |_=>unsupported "internal:collect"
   |_=>unsupported "internal:collect") Q E s':=λs' ⟨h',tk,acc,c',e,hk,hS',hi⟩=>by
   subst e
   show wpAny _ A (load s.heap.objs.size >>= _) _ _ _
   exact wpAny_bind (wpAny_load hS' (wpAny_pure (hQ h' tk acc hk (Nat.le_of_lt (Heap.lt_size hS')) hi)))
  cases fin with
  |done f =>
   obtain⟨e,h⟩:=h
   cases e
   exact go _ h
  |again c'=>exact⟨h.1,codeAny_mono h.2 λx s'' hx=>by obtain⟨rfl,hx⟩:=hx;exact go _ hx⟩
 ·exact absurd h.1 (by simp)
open AutoSeq1 (wpAny_loadPart')
theorem A70{r:Addr}{a b c:Int}{t u v:Tok}{n:Nat}{Q:Value→Shared→Prop}(hh:A.handled=none)(hr:IsRange s.heap r a b c t u v)(hs:Builtin.Range.small a b c=true)(hn:Builtin.Range.rangeSize a b c=n)(hl:n≤200000)
  (hQ:∀ (h':Heap) (tk:Nat) (acc:Array Value),(∀ b o,s.heap.get? b=some o→h'.get? b=some o)→s.heap.objs.size≤h'.objs.size→ItemsOf (λi v=>∃ t,v=.int (a + i * c) t) acc n→Q (.ref h'.objs.size) { s with heap:=h'.push { cls:=.type "tuple",data:=.seq acc },toks:=tk }) :
  codeAny (model P w) A (.call (.builtin "tuple.__new__") ⟨[.type "tuple",.ref r],[]⟩) (wants Q E) s:=by
 refine codeAny_of_tree ?_;show wpAny _ A.in1 (do checkBuiltinCall "tuple.__new__" ⟨[.type "tuple",.ref r],[]⟩;again (.builtin "tuple.__new__" ⟨[.type "tuple",.ref r],[]⟩)) _ _ s
 refine wpAny_bind (wpAny_of_eq (PySem.F.newCall_tuple_1 _) (wpAny_pure ⟨plainId_quiet PySem.F.plain_tuple_new _,codeAny_builtin PySem.F.entry_tuple_new ?_⟩));rw[Around.under_plainId PySem.F.plain_tuple_new _]
 have k1:=sub_tuple_self;have k2:=init_tuple_lookup;have k3:=madeHere_tuple
 have k4:s.TypeIs (.ref r) "range":=⟨_,hr,rfl⟩
 wp_walk using wpAny_typeOf k4,H60 (n:=n) (show A.in1.handled=none from hh) hr hs hn (by omega)
 intro h' tk acc hk hz hi
 show wpAny _ _ (Builtin.Tuple.tupleExact acc.toList.toArray >>= λv=>ret v) _ _ _
 unfold Builtin.Tuple.tupleExact;rw[Array.toArray_toList]
 refine wpAny_bind (wpAny_newObj_type (wpAny_pure (hQ h' tk acc hk hz hi)) (by show acc.size≤_;rw[hi.1,sizeLine_eq];omega))
theorem tuple_range{r:Addr}{a b c:Int}{t u v:Tok}{n:Nat}{Q:Value→Shared→Prop}(hh:A.handled=none)(hr:IsRange s.heap r a b c t u v)(hs:Builtin.Range.small a b c=true)(hn:Builtin.Range.rangeSize a b c=n)(hl:n≤200000)
  (hQ:∀ (h':Heap) (tk:Nat) (acc:Array Value),(∀ b o,s.heap.get? b=some o→h'.get? b=some o)→s.heap.objs.size≤h'.objs.size→ItemsOf (λi v=>∃ t,v=.int (a + i * c) t) acc n→Q (.ref h'.objs.size) { s with heap:=h'.push { cls:=.type "tuple",data:=.seq acc },toks:=tk }):wpAny (model P w) A (call (.type "tuple") [.ref r]) Q E s:=by
 refine callType_codes (Q₁:=λobj s₁=>s₁.TypeIs obj "tuple"∧Q obj s₁) PySem.F.called_tuple (PySem.F.typeCall_tuple_1 _) PySem.F.entry_object_init (A70 hh hr hs hn hl λh' tk acc hk hz hi=>⟨⟨_,Heap.get?_push_size _ rfl,rfl⟩,hQ h' tk acc hk hz hi⟩) λobj s₁ h₁=>?_
 exact⟨h₁.1,PySem.F.args_object_init_2 obj _,object_init_meets PySem.F.called_tuple.init.lookup PySem.F.called_tuple.made (by decide) P w A.in1 _ s₁ ⟨h₁.1,rfl,h₁.2⟩⟩
end
end HT
namespace L2
open PySem PySem.Spec PyProof.Rows
theorem h70.there{P:Program}{w:World}{H:Hp}{h:Heap}{a:Addr}{o:HO}(x:h70 P w H h a o):∃ u,h.get? a=some u:=by
 cases o with
 |lst xs=>obtain⟨_,_,_,_,e⟩:=x;exact⟨_,e⟩
 |tup xs=>obtain⟨_,_,_,o,e,_⟩:=x;exact⟨_,e⟩
 |dK kvs=>obtain⟨_,_,_,_,o,_,_,e,_⟩:=x;exact⟨_,e⟩
 |dT kvs=>obtain⟨_,_,_,_,o,_,_,e,_⟩:=x;exact⟨_,e⟩
 |set S n=>obtain⟨o,_,_,_,e,_⟩:=x;exact⟨_,e⟩
 |ins C dx fs=>obtain⟨_,_,_,e,_⟩:=x;exact⟨_,e⟩
 |own y=>obtain⟨_,e⟩:=x;exact⟨_,e⟩
 |xd fs=>obtain⟨_,⟨_,_,_,e,_⟩,_⟩:=x;exact⟨_,e⟩
 |rng lo hi=>obtain⟨_,_,_,e⟩:=x;exact⟨_,e⟩
 |frz ob u=>obtain⟨e,_⟩:=x;exact⟨_,e⟩
 |tbl ps=>exact⟨_,(show h.get? a=some _ from x)⟩
 |met f y=>exact⟨_,(show h.get? a=some _ from x)⟩
 |ext φ=>obtain⟨_,⟨_,e⟩,_⟩:=x;exact⟨_,e⟩
noncomputable def InB(B:Heap)(fs:List Addr)(H':Hp)(h h':Heap):Prop:=∀ b u,h'.get? b=some u→b ∉ fs→((∃ o,h.get? b=some o)∨H' b≠none)→B.get? b=some u
noncomputable def CX1(P:Program)(w:World):CXT:=λouter H s E e s'=>∃ (a:Addr) (cls a0:Value) (H':Hp) (B:Heap),e=.ref a∧s'.os=s.os∧AllBare s'.gens∧Un (frs outer) [] H H' s.heap s'.heap∧HOk P w H' s'.heap ∧
 Heap.FlyingW B outer a cls a0 s'.heap∧H' a=none∧InB B (frs outer) H' s.heap s'.heap∧E cls (some a) H'
section
variable {X:Cx}{pins:List (Addr × Obj)}{σ:St}{H H':Hp}{s s':Shared}{B h'':Heap}{a:Addr}{cls a0:Value}{E:XK}
theorem m61(hS:X.stack=X.env::X.outer)(hx:X.ex=[])(hf:X.env.frame=some X.env.locals)(I:Inv X pins σ H s)(os:s'.os=s.os)(bare:AllBare s'.gens)(un:Un (frs X.stack) [] H H' s.heap s'.heap)(hok:HOk X.prog X.w H' s'.heap)
  (bB:InB B (frs X.stack) H' s.heap s'.heap) (na:H' a=none) (fl:Heap.FlyingW B X.outer a cls a0 h'') (sm:s'.heap.UpToSlots h'') (he:E cls (some a) H'):CX1 X.prog X.w X.outer X.H₀ X.s₀ E (.ref a) { s' with heap:=h'' }:=by
 have hfs:frs X.stack=X.env.locals::frs X.outer:=by rw[hS];unfold frs;rw[List.filterMap_cons,hf]
 have U1:=I.base
 rw[hx] at U1
 have U:Un (frs X.stack) [] X.H₀ H' X.s₀.heap s'.heap:=(U1.mono (λb hb=>by rw[hfs];exact List.mem_cons_of_mem _ hb) λb hb=>hb).trans un
 have nL:∀ b o,X.s₀.heap.get? b=some o→b ∉ frs X.outer→b ∉ frs X.stack:=λb o e hn hm=>by
  rw[hfs] at hm
  rcases List.mem_cons.mp hm with z | z
  ·exact absurd (Heap.lt_size e) (by rw[z];exact Nat.not_lt.mpr I.ok.above)
  ·exact hn z
 have frN:∀ b∈frs X.stack,H' b=none:=λb hb=>by
  obtain⟨_,o,ho,_⟩:=I.stack.mem hb
  exact un.free b o ho (I.S40 b hb) (by simp)
 have old:∀ b o,X.s₀.heap.get? b=some o→b ∉ frs X.outer→∃ u,s'.heap.get? b=some u∧B.get? b=some u:=λb o e hn=>by
  obtain⟨o1,e1⟩:=U1.there b o e (by simp)
  obtain⟨o2,e2⟩:=un.there b o1 e1 (by simp)
  exact⟨o2,e2,bB b o2 e2 (nL b o e hn) (.inl ⟨o1,e1⟩)⟩
 have trk:∀ b,H' b≠none→∃ u,s'.heap.get? b=some u∧B.get? b=some u:=λb hb=>by
  obtain⟨o,e⟩:=Option.ne_none_iff_exists'.mp hb
  obtain⟨u,eu⟩:=(hok b o e).there
  exact⟨u,eu,bB b u eu (λhm=>by rw[frN b hm] at e;cases e) (.inr hb)⟩
 refine⟨a,cls,a0,H',B,rfl,os.trans I.os,bare,⟨λb o e n hb _=>?_,λb o e n hb _=>?_,λb o e n hb=>U.free b o e n hb,λb o e _=>?_,U.tups,U.frzs,U.tbls⟩,λc o e=>?_,fl,na,λb u e hn hor=>?_,he⟩
 ·obtain⟨u,e1,e2⟩:=old b o e hb
  have e3:=U.keep b o e n (nL b o e hb) (by simp)
  rw[e1] at e3;cases e3
  exact fl.1 b _ e2
 ·obtain⟨sl,e1⟩:=U.slot b o e n (by rw[hfs];exact List.mem_cons_of_mem _ hb) (by simp)
  obtain⟨_,o',ho',hd⟩:=I.ok.w91.mem hb
  rw[e] at ho';cases ho'
  obtain⟨sl',e2⟩:=sm b _ e1 hd
  exact⟨sl',e2⟩
 ·by_cases hb:b∈frs X.outer
  ·obtain⟨_,o',ho',_⟩:=fl.2.2.1.mem hb
   exact⟨o',ho'⟩
  ·obtain⟨u,_,e2⟩:=old b o e hb
   exact⟨u,fl.1 b _ e2⟩
 ·refine(hok c o e).x21 (λb u hb q=>?_) (λ_ q=>q) λ_ _ q=>q
  have hbn:H' b≠none:=by
   rcases hb with rfl | hb
   ·rw[e];exact λz=>nomatch z
   ·rw[hb];exact λz=>nomatch z
  obtain⟨u',e1,e2⟩:=trk b hbn
  rw[q] at e1;cases e1
  exact fl.1 b _ e2
 ·have:∃ u',B.get? b=some u':=by
   rcases hor with ⟨o,ho⟩ | hor
   ·obtain⟨u',_,e2⟩:=old b o ho hn
    exact⟨u',e2⟩
   ·obtain⟨u',_,e2⟩:=trk b hor
    exact⟨u',e2⟩
  obtain⟨u',e2⟩:=this
  have e3:=fl.1 b _ e2
  rw[e] at e3;cases e3
  exact e2
end
section
variable {P:Program}{w:World}{K:PySem.W.Frag}{mg:Str→Option Value}{base:Heap}{N:List Str}{qual:Str}{scope:Scope}{f:Addr}{cd:Value}{A:Around}{outer:List Env}{s₀:Shared}{H₀:Hp}{E:XK}
theorem m71{pins:List (Addr × Obj)}{σ:St}{H:Hp}{s:Shared}{h':Heap}{e:Addr}{cls:Value}{vs:List Value}(I:Inv (M40 (CX1 P w) P w K mg base N qual scope f cd A outer s₀ H₀ E) pins σ H s)(hx:Heap.MadeExcOf s.heap h' e cls vs)(he:E cls (some e) H) :
  (M40 (CX1 P w) P w K mg base N qual scope f cd A outer s₀ H₀ E).xe (.ref e) { s with heap:=h' }:=by
 have hin:∀ env∈(M40 (CX1 P w) P w K mg base N qual scope f cd A outer s₀ H₀ E).stack,∀ a,env.frame=some a→a∈frs (M40 (CX1 P w) P w K mg base N qual scope f cd A outer s₀ H₀ E).stack:=λenv he a ha=>List.mem_filterMap.mpr ⟨env,he,ha⟩
 have kB:(PySem.W.hideAll s.heap (frs (M40 (CX1 P w) P w K mg base N qual scope f cd A outer s₀ H₀ E).stack)).StaysIn s.heap:=λb o q=>PySem.W.of_hideAll _ q
 show wpAny _ _ (leaving _ _) _ _ _
 refine wpAny_leaves_madeW (base:=PySem.W.hideAll s.heap (frs (M40 (CX1 P w) P w K mg base N qual scope f cd A outer s₀ H₀ E).stack)) (h:=s.heap) I.ok.frames rfl kB (PySem.W.funFrames_hide I.stack hin) hx λh'' t fl _ _ sm=>?_
 have na:H e=none:=by
  cases z:H e with
  |none=>rfl
  |some o=>obtain⟨u,eu⟩:=(I.hok e o z).there;rw[hx.new] at eu;cases eu
 refine m61 (X:=M40 (CX1 P w) P w K mg base N qual scope f cd A outer s₀ H₀ E) (s':={ s with heap:=h' }) rfl rfl rfl I rfl I.bare (Un.kept hx.keeps) (I.hok.kept hx.keeps) (λb u q hn hor=>?_) na fl sm he
 have:∃ o,s.heap.get? b=some o:=by
  rcases hor with hor | hor
  ·exact hor
  ·obtain⟨o,z⟩:=Option.ne_none_iff_exists'.mp hor
   exact(I.hok b o z).there
 obtain⟨o,ho⟩:=this
 have:=hx.keeps b o ho
 have q':h'.get? b=some u:=q
 rw[this] at q';cases q'
 exact PySem.W.hideAll_get _ ho hn
theorem o92:Passes (CX1 P w) (M40 (CX1 P w) P w K mg base N qual scope f cd A outer s₀ H₀ E) E:=by
 intro pins σ H s e s' I h
 obtain⟨a,cls,a0,H',B,rfl,os,bare,un,hok,fl,na,bB,he⟩:=h
 show wpAny _ _ (leaving _ _) _ _ _
 refine wpAny_leaves_onW I.ok.frames rfl fl λh'' fl' sm=>?_
 exact m61 (X:=M40 (CX1 P w) P w K mg base N qual scope f cd A outer s₀ H₀ E) (s':=s') rfl rfl rfl I os bare un hok bB na fl' sm he
end
end L2
namespace L2
open PySem PySem.Spec PyProof.Rows
theorem N11{K:PySem.W.Frag}{h:Heap}{C:Addr}{bmB:List Value}{newId:String}(KX:K.In h)(hq:PySem.W.excIn K C bmB newId=true) :
  ∃ bm N nm q bs hdct sn sub ab col dd k0 k1 k2 k3 k5 mN,h.get? C=some (excClassObj nm q C N bs bm hdct sn sub ab col dd k0 k1 k2 k3 k5 newId)∧h.Ns N mN∧mN "__init__"=none∧OwnTail h bmB bm:=by
 unfold PySem.W.excIn at hq
 split at hq
 case h_2=>cases hq
 case h_1 dd cd sl ho =>
  split at hq
  case h_2=>cases hq
  case h_1 C' bm k0 k1 k2 k3 n k5 hm hs =>
   simp only[Bool.and_eq_true,beq_iff_eq,Bool.not_eq_true'] at hq
   obtain⟨⟨⟨⟨⟨z1,z2⟩,hdel⟩,ht⟩,hok⟩,hni⟩:=hq
   subst z1 z2
   cases cd with
   |mk nm bs mro ns qn hd sn sub ab col del =>
    dsimp only at hm hdel hok hni
    subst hm hdel
    have esl:sl=#[k0,k1,k2,k3,some (.builtin n),k5]:=by cases sl with | mk l=>simp only at hs;rw[hs]
    subst esl
    refine⟨bm,ns,nm,qn,bs,hd,sn,sub,ab,col,dd,k0,k1,k2,k3,k5,h.nsMap ns,KX _ _ ho,?_,PySem.W.nsMap_none_of_in KX hok hni,PySem.W.tail_of_in KX ht⟩
    exact .of_isNs (PySem.W.isNs_of_in KX hok)
noncomputable def H70(X:Cx)(E:XK):Prop:=∀ (pins:List (Addr × Obj)) (σ:St) (H:Hp) (s:Shared) (h':Heap) (e:Addr) (cls:Value) (vs:List Value),Inv X pins σ H s→Heap.MadeExcOf s.heap h' e cls vs→E cls (some e) H→X.xe (.ref e) { s with heap:=h' }
theorem m81{P:Program}{w:World}{K:PySem.W.Frag}{mg:Str→Option Value}{base:Heap}{N:List Str}{qual:Str}{scope:Scope}{f:Addr}{cd:Value}{A:Around}{outer:List Env}{s₀:Shared}{H₀:Hp}{E:XK} :
  H70 (M40 (CX1 P w) P w K mg base N qual scope f cd A outer s₀ H₀ E) E:=λ_ _ _ _ _ _ _ _ I hx he=>m71 I hx he
noncomputable def a22(E:XK)(C:Addr)(t:TA):TS:=λ_ σ H=>t σ H λvs H1=>vs.length≤sizeLine∧∀ e,H1 e=none→E (.ref C) (some e) H1
section
variable {X:Cx}{x:Str}{C:Addr}{E:XK}{e₀:Expr}{rest:List Expr}{t:TA}{np cpos pos:Pos}
theorem B01(hE:H70 X E)(hc:X.calm=true)(hg:Gl X x)(hm:X.mg x=some (.ref C))(hq:PySem.W.excIn X.K C [.type "ValueError",.type "Exception",.type "BaseException",.type "object"] "ValueError.__new__"=true)(ha:PA X (e₀::rest) t)
  (hdb:(x == ("__debug__":Str))=false:=by decide) (he:starEach (e₀::rest) X.env=(false,eval e₀ X.env)::starEach rest X.env:=by rfl) (hpl:(backTo cpos (starEach rest X.env)).any (·.1)=false:=by rfl) :
  PS X (.Raise (some (.Call (.Name x np) (e₀::rest) [] cpos)) none pos) (a22 E C t):=by
 intro pins s σ H D I h
 obtain⟨bm,N,nm,q,bs,hdct,sn,sub,ab,col,dd,k0,k1,k2,k3,k5,mN,hC,hN,hni,T⟩:=N11 I.ok.mod.kin hq
 refine wpAny_Raise_call_subT (C:=C) (nm:=nm) (q:=q) (N:=N) (bs:=bs) (bm:=bm) (hdct:=hdct) (sn:=sn) (sub:=sub) (ab:=ab) (col:=col) (dd:=dd) (k0:=k0) (k1:=k1) (k2:=k2) (k3:=k3) (k5:=k5)
  PySem.F.excBase_ValueError (mN:=mN) (T.hasType PySem.F.excBase_ValueError.hasBase) (I.ok.hd hc) (by rw[he];exact hpl) hni (S50 I hg hm ⟨rfl,?_⟩ hdb)
 have k:=ha cpos pins s σ H _ I h
 rw[he] at k ⊢
 refine Calls.evalArgs_plain (thn k λus s2 ⟨vs,H2,I2,r,z,q⟩=>⟨rfl,by show us.length≤_;rw[← r.length];exact z,I2.bk _ _ hC,hN.keeps I2.bk,T.keeps I2.bk,λh' e hx=>?_⟩)
 refine hE pins σ H2 s2 h' e _ us I2 hx (q e ?_)
 cases z:H2 e with
 |none=>rfl
 |some o=>obtain⟨u,eu⟩:=(I2.hok e o z).there;rw[hx.new] at eu;cases eu
end
section
variable {P:Program}{w:World}{K:PySem.W.Frag}{mg:Str→Option Value}{base:Heap}
end
end L2
namespace L2
open PySem PySem.Spec PyProof.Rows PySem.W PySem.Builtin PySem.Builtin.ObjectAttr PySem.Builtin.Getset_descriptor
section
variable {prog:Program}{w:World}{A:Around}{E:Value→Shared→Prop}{K:PySem.W.Frag}{h:Heap}{gg:Array GenState}{d:Drawn}{t:Nat}{os:OsState}{x D:Addr}{ox:Obj}
end
section
variable {X:Cx}
end
end L2
namespace L2
open PySem PySem.Spec PyProof.Rows
section
variable {X:Cx}{pins:List (Addr × Obj)}{σ:St}{H H':Hp}{s s':Shared}{B h4:Heap}
end
end L2
namespace L2
open PySem PySem.Spec PyProof.Rows
section
variable {X:Cx}{k i j:Nat}{f C D:Addr}{x y z n:Str}{p1 p2 p3 p4 p5 p6 p7 p8 p9:Pos}
end
end L2
namespace L2
open PySem PySem.Spec PyProof.Rows
end L2
namespace L2
open PySem PySem.Spec PyProof.Rows
section
variable {P:Program}{w:World}{K:PySem.W.Frag}{mg:Str→Option Value}{base:Heap}{N:List Str}{qual:Str}{scope:Scope}{f:Addr}{cd:Value}{cl:List (Str × Addr)}{A:Around}{outer:List Env}{s₀:Shared}{H₀:Hp}{E:XK}
end
end L2
namespace L2
open PySem PySem.Spec PyProof.Rows
noncomputable def recAt(c:Addr)(qual:Str):Heap→Prop:=λh=>h.CodeRec (.ref c) qual
section
variable {P:Program}{w:World}{K:PySem.W.Frag}{mg:Str→Option Value}{base:Heap}{N:List Str}{qual:Str}{scope:Scope}{f c':Addr}{cl:List (Str × Addr)}{s₀:Shared}{H₀:Hp}{k:Nat}{pm ctv cls:Value}{params:Arguments}{body:Expr}{vs:List V}
end
end L2
namespace L2
open PySem PySem.Spec PyProof.Rows
noncomputable def Tab(H:Hp)(P:Addr)(qual:Str):Prop:=∃ ps:Array Value,H P=some (.tbl ps)∧TriplesOk ps.toList∧∀ pos c,codeAmong pos ps.toList=some c→∃ c',c=.ref c'∧H c'=some (.ext (recAt c' qual))
section
variable {X:Cx}{pins:List (Addr × Obj)}{σ:St}{H:Hp}{s:Shared}{c P:Addr}{qual:Str}{params:Arguments}{body:Expr}{lsc:Scope}{lpos:Pos}{A:Around}{Q:Value→Shared→Prop}{E:Value→Shared→Prop}
end
end L2
namespace L2
open PySem PySem.Spec PyProof.Rows
section
variable {X:Cx}{c P f:Addr}{fd:FuncData}{qual g par:Str}{N:List Str}{params:Arguments}{body:Expr}{lsc:Scope}{lpos p pos:Pos}{k kr:Nat}{cls:Value}{sp:Shared→Sp}
end
end L2
namespace L2
open PySem PySem.Spec PyProof.Rows
noncomputable def BMain(mg:Str→Option Value)(h:Heap):Prop:=∃ bm ob,mg "__builtins__"=some (.ref bm)∧bm≠builtinsNs∧h.get? bm=some ob∧ob.cls=.type "module"∧ob.dict=some builtinsNs∧ob.data=.plain
end L2
namespace L2
open PySem PySem.Spec PyProof.Rows
theorem a32{P:Program}{w:World}{X:Cx}:Passes (CX1 P w) X (λ_ _ _=>False):=λ_ _ _ _ _ _ _ h=>by
 obtain⟨_,_,_,_,_,_,_,_,_,_,_,_,_,e⟩:=h
 exact e.elim
theorem Tab.same{H H':Hp}{P:Addr}{q:Str}(t:Tab H P q)(s:a30 H H'):Tab H' P q:=by
 obtain⟨ps,e,tr,h⟩:=t
 refine⟨ps,s _ _ e,tr,λpos c hc=>?_⟩
 obtain⟨c',e1,e2⟩:=h pos c hc
 exact⟨c',e1,s _ _ e2⟩
section
variable {K:PySem.W.Frag}{H H':Hp}{P:Addr}{ps:Array Value}
end
end L2
namespace L2
open PySem PySem.Spec PyProof.Rows
section
variable {X:Cx}{k i j:Nat}{f C D:Addr}{x y z n:Str}{p1 p2 p3 p4 p5 p6 p7 p8 p9:Pos}
end
end L2
namespace L2
open PySem PySem.Spec PyProof.Rows
section
variable {P:Program}{w:World}{K:PySem.W.Frag}{mg:Str→Option Value}{base:Heap}{N:List Str}{qual:Str}{scope:Scope}{f c':Addr}{cl:List (Str × Addr)}{s₀:Shared}{H₀:Hp}{k:Nat}{pm ctv cls:Value}{params:Arguments}{body:Expr}{vs:List V}
end
end L2
namespace L2
open PySem PySem.Spec PyProof.Rows
section
variable {X:Cx}{c P f:Addr}{fd:FuncData}{qual g par:Str}{N:List Str}{params:Arguments}{body:Expr}{lsc:Scope}{lpos p pos:Pos}{k kr:Nat}{cls:Value}{sp:Shared→Sp}
end
end L2
namespace L2
open PySem PySem.Spec PyProof.Rows
section
variable {P:Program}{w:World}{K:PySem.W.Frag}{mg:Str→Option Value}{base:Heap}
section
variable {X:Cx}{c0 c1 c2:Addr}{x x0 x1 x2:Str}{p p0 p1 p2 p3 q0 q1 q2 q3 r0 r1 r2 r3:Pos}
end
end
end L2
namespace Q
open PySem L2
noncomputable abbrev Z:=Option (Int × Bool)
inductive S where
 |d (x:D) | fr (xs:List D) | z
inductive R (α:Type) where
 |ok (a:α) (z:Z) | er (c:Nat) (z:Z)
noncomputable abbrev M(α:Type):=Z→Option (R α)
noncomputable def M.ret{α:Type}(a:α):M α:=λz=>some (.ok a z)
noncomputable def M.no{α:Type}:M α:=λ_=>none
noncomputable def M.of{α:Type}:Option α→M α
 |some a=>M.ret a
 |none=>M.no
noncomputable def M.bind{α β:Type}(m:M α)(f:α→M β):M β:=λz=>match m z with
 |some (.ok a z1)=>f a z1
 |some (.er c z1)=>some (.er c z1)
 |none=>none
noncomputable def M.calm{α:Type}(m:M α):M α:=λz=>match m z with
 |some (.ok a z1)=>some (.ok a z1)
 |_=>none
noncomputable abbrev Env:=List (Option S)
noncomputable def pl:List S→Option D
 |[.d x]=>some x
 |[.fr xs]=>some (.lst xs)
 |_=>none
noncomputable def one:List S→Option S
 |[s]=>some s
 |_=>none
noncomputable def plS:S→S
 |.fr xs=>.d (.lst xs)
 |s=>s
noncomputable def plD:S→Option D
 |.d x=>some x
 |.fr xs=>some (.lst xs)
 |.z=>none
noncomputable def plA:List S→Option (List D)
 |[]=>some []
 |.d x::r=>(plA r).map (x::·)
 |.fr xs::r=>(plA r).map (.lst xs::·)
 |.z::_=>none
inductive Bi where
 |add | sub | mul | fdiv | mod | pow
inductive Cm where
 |eq | ne | lt | le | gt | ge | is | isnt | mem
inductive Bf where
 |len | sorted | tuple | list | sum | min | max | abs | all | int | sset | k02
inductive Ty where
 |int | bool | tuple | list | str | seq
inductive Pat where
 |v (i:Nat) | tup (ps:Pat) | nil | cons (p r:Pat)
inductive It where
 |seq | rng1 | rng2 | zip | enum
inductive Ex where
 |nil | cons (a r:Ex)
 |var (i:Nat) | con (x:D) | gint (g:Str) (i:Int)
 |tup (as:Ex) | lst (as:Ex)
 |bin (o:Bi) (a b:Ex) | cmp (o:Cm) (a b:Ex) | neg (a:Ex)
 |not (a:Ex) | and (a b:Ex) | or (a b:Ex) | orT (a b:Ex) | ite (c a b:Ex)
 |ch (o o':Cm) (a b c:Ex)
 |bf (f:Bf) (as:Ex) | isi (t:Ty) (a:Ex)
 |idx (a i:Ex) | sl (a lo hi:Ex)
 |call (f:Nat) (as:Ex)
 |comp (own:Nat) (capt:List Nat) (p:Pat) (it:It) (src cond el:Ex)
 |zget (i k:Nat) | lrng (b:Bool) (as:Ex)
noncomputable abbrev most:Nat:=100000
noncomputable def E00:Nat:=2 ^ 4000
mutual
noncomputable def eqD:D→D→Bool
 |.non,.non=>true
 |.bl a,.bl b=>a == b
 |.int a,.int b=>a == b
 |.str a,.str b=>a == b
 |.bl a,.int b=>(if a then 1 else 0) == b
 |.int a,.bl b=>a == (if b then 1 else 0)
 |.tup a,.tup b=>a42 a b
 |.lst a,.lst b=>a42 a b
 |.dct,.dct=>true
 |_,_=>false
noncomputable def a42:List D→List D→Bool
 |[],[]=>true
 |a::r,b::q=>eqD a b&&a42 r q
 |_,_=>false
end
mutual
/-- -1,0,1: less,alike,greater;none: not to be compared -/
noncomputable def ltD:D→D→Option Bool
 |.int a,.int b=>some (decide (a < b))
 |.tup a,.tup b=>B11 a b
 |_,_=>none
noncomputable def B11:List D→List D→Option Bool
 |[],[]=>some false
 |[],_::_=>some true
 |_::_,[]=>some false
 |a::r,b::q=>if eqD a b then B11 r q else ltD a b
end
mutual
/-- no dict within,its texts as they should be -/
noncomputable def w50:D→Bool
 |.dct=>false
 |.tup l=>f60 l
 |.lst l=>f60 l
 |.str x=>PyData.strOk x
 |_=>true
noncomputable def f60:List D→Bool
 |[]=>true
 |x::r=>w50 x&&f60 r
end
mutual
noncomputable def deep:D→Nat
 |.tup l=>i50 l + 1
 |.lst l=>i50 l + 1
 |_=>0
noncomputable def i50:List D→Nat
 |[]=>0
 |x::r=>Nat.max (deep x) (i50 r)
end
noncomputable def okD(d:D):Bool:=w50 d&&decide (deep d≤40)
noncomputable def U51(l:List D):Bool:=f60 l&&decide (i50 l≤39)
theorem e20{c:Prop}[Decidable c]{α:Type}{a:Option α}{b:α}(h:(if c then a else none)=some b):c∧a=some b:=by
 by_cases k:c
 ·rw[if_pos k] at h;exact⟨k,h⟩
 ·rw[if_neg k] at h;cases h
noncomputable def eqO(a b:D):Option Bool:=if okD a&&okD b then some (eqD a b) else none
noncomputable def eqE:D→D→Option Bool
 |.tup l,.tup []=>some l.isEmpty
 |_,_=>none
noncomputable def eqQ(a b:D):Option Bool:=if okD a&&okD b then some (eqD a b) else eqE a b
noncomputable def ltO(a b:D):Option Bool:=if okD a&&okD b then ltD a b else none
noncomputable def memD(x:D)(l:List D):Bool:=l.any λy=>eqD y x
noncomputable def U61(x:D)(l:List D):Option Bool:=if okD x&&U51 l then some (memD x l) else none
noncomputable def T80:List D→Option (List Int)
 |[]=>some []
 |.int i::r=>(T80 r).map (i::·)
 |_=>none
noncomputable def y60:Bi→D→D→Option S
 |.add,.int i,.int j=>some (.d (.int (i + j)))
 |.add,.tup a,.tup b=>if a.length + b.length≤most then some (.d (.tup (a++b))) else none
 |.add,.lst a,.lst b=>if a.length + b.length≤most then some (.fr (a++b)) else none
 |.sub,.int i,.int j=>some (.d (.int (i - j)))
 |.mul,.int i,.int j=>if i.natAbs < E00∧j.natAbs < E00 then some (.d (.int (i * j))) else none
 |.mul,.tup a,.int j=>if 2≤j∧j.toNat * a.length≤most∧j < 1000000 then some (.d (.tup (List.replicate j.toNat a).flatten)) else none
 |.mul,.lst a,.int j=>if 0≤j∧j.toNat * a.length≤most∧j < 1000000 then some (.fr (List.replicate j.toNat a).flatten) else none
 |.fdiv,.int i,.int j=>if 0 < j∧j.natAbs < E00 then some (.d (.int (i / j))) else none
 |.mod,.int i,.int j=>if 0 < j then some (.d (.int (i % j))) else none
 |.pow,.int i,.int j=>if 0≤j∧j≤1000∧i.natAbs < 2 ^ 64 then some (.d (.int (i ^ j.toNat))) else none
 |_,_,_=>none
noncomputable def E10:D→Bool
 |.non=>true
 |_=>false
noncomputable def neO:D→D→Option Bool
 |.dct,.tup _=>some true
 |a,b=>(eqO a b).map (!·)
noncomputable def y70:Cm→D→D→Option Bool
 |.eq,a,b=>eqQ a b
 |.ne,a,b=>neO a b
 |.lt,a,b=>ltO a b
 |.gt,.int a,.int b=>some (decide (b < a))
 |.le,.int a,.int b=>some (decide (a≤b))
 |.le,.tup a,.tup b=>(T80 a).bind λns=>(T80 b).map λms=>HT.leB ns ms
 |.ge,.int a,.int b=>some (decide (b≤a))
 |.is,.bl a,.bl b=>some (a == b)
 |.is,a,.non=>some (E10 a)
 |.isnt,.bl a,.bl b=>some (a != b)
 |.isnt,a,.non=>some (!E10 a)
 |.mem,a,.tup l=>U61 a l
 |.mem,a,.lst l=>U61 a l
 |_,_,_=>none
noncomputable def k32:Ty→D→Bool
 |.int,.int _=>true
 |.int,.bl _=>true
 |.bool,.bl _=>true
 |.tuple,.tup _=>true
 |.list,.lst _=>true
 |.str,.str _=>true
 |.seq,.tup _=>true
 |.seq,.lst _=>true
 |_,_=>false
noncomputable def asB:D→Option Bool
 |.bl b=>some b
 |_=>none
noncomputable def a52:D→Option (List D)
 |.tup l=>some l
 |_=>none
noncomputable def asI:D→Option Int
 |.int i=>some i
 |_=>none
noncomputable def Z90:D→Option (List D)
 |.tup l=>some l
 |.lst l=>some l
 |_=>none
mutual
/-- the numbers within,laid flat -/
noncomputable def flt:D→List Int
 |.int i=>[i]
 |.tup l=>w62 l
 |_=>[]
noncomputable def w62:List D→List Int
 |[]=>[]
 |x::r=>flt x++w62 r
end
mutual
/-- the same,of numbers and tuples alone -/
noncomputable def eqT:D→D→Bool
 |.int i,.int j=>i == j
 |.tup a,.tup b=>S10 a b
 |_,_=>false
noncomputable def S10:List D→List D→Bool
 |[],[]=>true
 |x::r,y::q=>eqT x y&&S10 r q
 |_,_=>false
end
noncomputable def m91:D→Nat
 |.int _=>0
 |.tup (.int _::_)=>1
 |.tup (.tup _::_)=>2
 |_=>3
noncomputable def s80(x y:D):Bool:=m91 y == m91 x&&(ltD x y == some (MySort.i40 (flt x) (flt y))&&(eqT x y || !(flt x == flt y)))
noncomputable def w60(l:List D):Bool:=l.all λx=>decide (m91 x < 3)&&(okD x&&l.all (s80 x))
noncomputable def B21(k:D):List D→List D
 |[]=>[k]
 |y::r=>if MySort.i40 (flt y) (flt k) then y::B21 k r else k::y::r
noncomputable def H80:List D→List D
 |[]=>[]
 |k::r=>B21 k (H80 r)
noncomputable def s10(k m:Nat):D:=.tup ((TS.A50 k 0 m).map λ(i:Nat)=>.int i)
noncomputable def g60(k:Nat):List D:=(List.range (2 ^ k)).map (s10 k)
noncomputable def B31(k:Nat):List D:=(TS.sN k).map (s10 k)
noncomputable def w72(l:List D):Option (List D):=((List.range 9).find? λk=>S10 l (g60 k)).map B31
noncomputable def sortedS(x:D):Option S:=(Z90 x).bind λl=>if l.length < 64∧w60 l=true then some (.fr (H80 l)) else(w72 l).map S.fr
noncomputable def B41:List D→Option Int
 |[]=>some 0
 |.int i::r=>(B41 r).map (i + ·)
 |_=>none
noncomputable def bfD:Bf→List D→Option S
 |.len,[x]=>(Z90 x).map λl=>.d (.int l.length)
 |.tuple,[x]=>(Z90 x).map λl=>.d (.tup l)
 |.list,[x]=>(Z90 x).map λl=>.fr l
 |.all,[.lst l]=>(l.mapM asB).map λbs=>.d (.bl (bs.all id))
 |.sorted,[x]=>sortedS x
 |.sum,[x]=>((Z90 x).bind B41).map λi=>.d (.int i)
 |.min,[.int i,.int j]=>some (.d (.int (if j < i then j else i)))
 |.max,[.int i,.int j]=>some (.d (.int (if j > i then j else i)))
 |.abs,[.int i]=>some (.d (.int (if i < 0 then -i else i)))
 |.int,[.bl b]=>some (.d (.int (if b then 1 else 0)))
 |.int,[.int i]=>some (.d (.int i))
 |_,_=>none
noncomputable def L30:D→D→Option D
 |.tup l,.int i=>atI l i
 |.lst l,.int i=>atI l i
 |_,_=>none
noncomputable def cutD(l:List D)(lo hi:Option Int):List D:=(l.drop (HT.sIx l.length 0 lo)).take (HT.sIx l.length l.length hi - HT.sIx l.length 0 lo)
noncomputable def slD:D→Option Int→Option Int→Option S
 |.tup l,lo,hi=>some (.d (.tup (cutD l lo hi)))
 |.lst l,lo,hi=>some (.fr (cutD l lo hi))
 |_,_,_=>none
noncomputable def n01:List S→Option (Option Int)
 |[]=>some none
 |[.d (.int i)]=>some (some i)
 |_=>none
noncomputable def y00:List D→Nat→List D
 |[],_=>[]
 |x::r,i=>.tup [.int i,x]::y00 r (i + 1)
noncomputable def y80:List D→List D→List D
 |x::r,y::q=>.tup [x,y]::y80 r q
 |_,_=>[]
noncomputable def inR:Int→Bool
 |.ofNat n=>Nat.blt n 100000
 |.negSucc n=>Nat.blt n 99999
theorem A80{j:Int}:inR j=true↔-100000 < j∧j < 100000:=by
 cases j with
 |ofNat n=>show Nat.ble (n + 1) 100000=true↔_;rw[Nat.ble_eq];show _↔-100000 < (n:Int)∧(n:Int) < 100000;omega
 |negSucc n=>show Nat.ble (n + 1) 99999=true↔_;rw[Nat.ble_eq,Int.negSucc_eq];omega
noncomputable def itD:It→List D→Option (List D)
 |.seq,[x]=>Z90 x
 |.rng1,[.int j]=>if inR j=true then some ((List.range j.toNat).map λ(i:Nat)=>D.int i) else none
 |.rng2,[.int i,.int j]=>if inR i=true∧inR j=true then some ((List.range (j - i).toNat).map λ(k:Nat)=>D.int (i + k)) else none
 |.zip,[.tup a,.tup b]=>some (y80 a b)
 |.zip,[.lst a,.lst b]=>some (y80 a b)
 |.enum,[.tup a]=>some (y00 a 0)
 |.enum,[.lst a]=>some (y00 a 0)
 |_,_=>none
noncomputable def lrS:Bool→List D→S
 |true,xs=>.d (.tup xs)
 |false,xs=>.fr xs
noncomputable def lrN:Bool→Str
 |true=>"tuple"
 |false=>"list"
noncomputable def lrD:List D→Option (List D)
 |[x]=>itD .rng1 [x]
 |l=>itD .rng2 l
mutual
noncomputable def e30:Pat→D→Env→Option Env
 |.v i=>λx ρ=>some (ρ.set i (some (.d x)))
 |.tup ps=>λx ρ=>match x with
  |.tup l=>bindL ps l ρ
  |_=>none
 |.nil=>λ_ _=>none
 |.cons _ _=>λ_ _=>none
noncomputable def bindL:Pat→List D→Env→Option Env
 |.nil=>λl ρ=>match l with
  |[]=>some ρ
  |_=>none
 |.cons p r=>λl ρ=>match l with
  |x::l=>(e30 p x ρ).bind λρ=>bindL r l ρ
  |_=>none
 |.v _=>λ_ _=>none
 |.tup _=>λ_ _=>none
end
noncomputable def turns(f:D→M (Option D)):List D→M (List D)
 |[]=>M.ret []
 |x::r=>M.bind (f x) λo=>M.bind (turns f r) λl=>M.ret (match o with | some y=>y::l | none=>l)
noncomputable def p50(fc fe:Env→M (List S))(p:Pat)(ρ0:Env)(x:D):M (Option D):=M.bind (M.of (e30 p x ρ0)) λρ'=>M.bind (fc ρ') λc=>match c with
 |[]=>M.bind (fe ρ') λy=>M.bind (M.of (pl y)) λy=>M.ret (some y)
 |[.d (.bl true)]=>M.bind (fe ρ') λy=>M.bind (M.of (pl y)) λy=>M.ret (some y)
 |[.d (.bl false)]=>M.ret none
 |_=>M.no
noncomputable def n11(k:Nat):Option (Option S)→Z→Option (R (List S))
 |some (some .z),some p=>if k=0 then some (.ok [.d (.int p.1)] (some p)) else if k=1 then some (.ok [.d (.bl p.2)] (some p)) else none
 |_,_=>none
noncomputable abbrev FT:=Bool→Nat→List S→M S
noncomputable abbrev i60(F:FT):FT:=λ_=>F true
noncomputable def ev:FT→Ex→Env→M (List S)
 |F,.nil=>λ_=>M.ret []
 |F,.cons a r=>λρ=>M.bind (ev F a ρ) λx=>M.bind (M.of (one x)) λs=>M.bind (ev F r ρ) λy=>M.ret (s::y)
 |F,.var i=>λρ=>match ρ[i]? with
  |some (some s)=>M.ret [plS s]
  |_=>M.no
 |F,.con x=>λ_=>M.ret [.d x]
 |F,.gint _ i=>λ_=>M.ret [.d (.int i)]
 |F,.tup as=>λρ=>M.bind (ev F as ρ) λl=>M.bind (M.of (plA l)) λds=>if ds.length≤most then M.ret [.d (.tup ds)] else M.no
 |F,.lst as=>λρ=>M.bind (ev F as ρ) λl=>M.bind (M.of (plA l)) λds=>if ds.length≤most then M.ret [.fr ds] else M.no
 |F,.bin o a b=>λρ=>M.bind (ev F a ρ) λx=>M.bind (M.of (pl x)) λx=>M.bind (ev F b ρ) λy=>M.bind (M.of (pl y)) λy=>M.bind (M.of (y60 o x y)) λs=>M.ret [s]
 |F,.cmp o a b=>λρ=>M.bind (ev F a ρ) λx=>M.bind (M.of (pl x)) λx=>M.bind (ev F b ρ) λy=>M.bind (M.of (pl y)) λy=>M.bind (M.of (y70 o x y)) λb=>M.ret [.d (.bl b)]
 |F,.neg a=>λρ=>M.bind (ev F a ρ) λx=>M.bind (M.of ((pl x).bind asI)) λi=>M.ret [.d (.int (-i))]
 |F,.not a=>λρ=>M.bind (ev F a ρ) λx=>M.bind (M.of ((pl x).bind asB)) λb=>M.ret [.d (.bl !b)]
 |F,.and a b=>λρ=>M.bind (ev F a ρ) λx=>M.bind (M.of ((pl x).bind asB)) λc=>if c then M.bind (ev F b ρ) λy=>M.bind (M.of ((pl y).bind asB)) λc=>M.ret [.d (.bl c)] else M.ret [.d (.bl false)]
 |F,.or a b=>λρ=>M.bind (ev F a ρ) λx=>M.bind (M.of ((pl x).bind asB)) λc=>if c then M.ret [.d (.bl true)] else M.bind (ev F b ρ) λy=>M.bind (M.of ((pl y).bind asB)) λc=>M.ret [.d (.bl c)]
 |F,.orT a b=>λρ=>M.calm (M.bind (ev F a ρ) λx=>M.bind (M.of ((pl x).bind a52)) λl=>if l.isEmpty then M.bind (ev F b ρ) λy=>M.bind (M.of ((pl y).bind a52)) λl=>M.ret [.d (.tup l)] else M.ret [.d (.tup l)])
 |F,.ite c a b=>λρ=>M.bind (ev F c ρ) λx=>M.bind (M.of ((pl x).bind asB)) λc=>if c then ev F a ρ else ev F b ρ
 |F,.ch o o' a b c=>λρ=>M.bind (ev F a ρ) λx=>M.bind (M.of (pl x)) λx=>M.bind (ev F b ρ) λy=>M.bind (M.of (pl y)) λy=>M.bind (M.of (y70 o x y)) λk =>
   if k then M.bind (ev F c ρ) λw=>M.bind (M.of (pl w)) λw=>M.bind (M.of (y70 o' y w)) λk=>M.ret [.d (.bl k)] else M.ret [.d (.bl false)]
 |F,.bf f as=>λρ=>M.bind (ev F as ρ) λl=>M.bind (M.of (plA l)) λds=>M.bind (M.of (bfD f ds)) λs=>M.ret [s]
 |F,.isi t a=>λρ=>M.bind (ev F a ρ) λx=>M.bind (M.of (pl x)) λx=>M.ret [.d (.bl (k32 t x))]
 |F,.idx a i=>λρ=>M.bind (ev F a ρ) λx=>M.bind (M.of (pl x)) λx=>M.bind (ev F i ρ) λy=>M.bind (M.of (pl y)) λy=>M.bind (M.of (L30 x y)) λr=>M.ret [.d r]
 |F,.sl a lo hi=>λρ=>M.bind (ev F a ρ) λx=>M.bind (M.of (pl x)) λx=>M.bind (ev F lo ρ) λu=>M.bind (M.of (n01 u)) λu=>M.bind (ev F hi ρ) λv=>M.bind (M.of (n01 v)) λv=>M.bind (M.of (slD x u v)) λs=>M.ret [s]
 |F,.call f as=>λρ=>M.bind (ev F as ρ) λl=>M.bind (F false f (l.map plS)) λs=>M.ret [s]
 |F,.comp own capt p it src cond el=>λρ=>M.bind (ev F src ρ) λl=>M.bind (M.of ((plA l).bind (itD it))) λxs=>if xs.length≤most then M.bind (M.calm (turns (p50 (ev F cond) (ev F el) p (List.replicate own none++capt.map λi=>(ρ[i]?).getD none)) xs)) λys=>M.ret [.fr ys] else M.no
 |F,.zget i k=>λρ z=>n11 k ρ[i]? z
 |F,.lrng b as=>λρ=>M.bind (ev F as ρ) λl=>M.bind (M.of ((plA l).bind lrD)) λxs=>M.ret [lrS b xs]
noncomputable def N60(ρ:Env):Env:=ρ.map λo=>match o with
 |some .z=>none
 |o=>o
inductive Sm where
 |nil | seq (s r:Sm)
 |set (p:Pat) (e:Ex) | ret (e:Ex) | iff (c:Ex) (t e:Sm)
 |fr (p:Pat) (it:It) (src:Ex) (b:Sm) | whl (c:Ex) (b:Sm)
 |rais (c:Nat) | exp (e:Ex)
 |app (i:Nat) (e:Ex) | aug (o:Bi) (i:Nat) (e:Ex)
 |newz (i:Nat) (f:Nat) (as:Ex) | zset (i:Nat) (e:Ex) | apop (i j:Nat) (e:Ex)
inductive O where
 |nx (ρ:Env) | rt (s:S)
mutual
/-- no list within -/
noncomputable def bare:D→Bool
 |.lst _=>false
 |.tup l=>q90 l
 |.dct=>false
 |_=>true
noncomputable def q90:List D→Bool
 |[]=>true
 |x::r=>bare x&&q90 r
end
noncomputable def g41:S→Bool
 |.d x=>bare x
 |.fr xs=>q90 xs
 |.z=>true
noncomputable def T90(ρ:Env):Env:=ρ.map λo=>o.map plS
noncomputable def D10(b:Bool):Option S→Option S
 |some (.fr xs)=>some (if b then .fr xs else .d (.lst xs))
 |o=>o
theorem a01(b:Bool)(ρ:Env):ρ.map (D10 b)=if b then ρ else T90 ρ:=by
 have h:∀ o:Option S,D10 b o=if b then o else o.map plS:=λo=>by
  match o with
  |some (.fr xs)=>cases b <;> rfl
  |some (.d _)=>cases b <;> rfl
  |some .z=>cases b <;> rfl
  |none=>cases b <;> rfl
 rw[show D10 b=λo=>if b then o else o.map plS from funext h]
 cases b with
 |true=>exact List.map_id ρ
 |false=>rfl
noncomputable def n20(s:S)(ρ:Env):Env:=ρ.map (D10 (g41 s))
noncomputable def N70:Pat→S→Env→Option Env
 |p,.d x,ρ=>e30 p x ρ
 |.v i,s,ρ=>if i < ρ.length then some (ρ.set i (some s)) else none
 |_,_,_=>none
noncomputable def S20(f:D→Env→M O):List D→Env→M O
 |[],ρ=>M.ret (.nx ρ)
 |x::r,ρ=>M.bind (f x ρ) λo=>match o with
  |.nx ρ=>S20 f r ρ
  |.rt s=>M.ret (.rt s)
noncomputable def G21(c:Env→M (List S))(f:Env→M O):Nat→Env→M O
 |0,_=>M.no
 |n + 1,ρ=>M.bind (c ρ) λx=>M.bind (M.of ((pl x).bind asB)) λk=>if k then M.bind (f ρ) λo=>match o with
  |.nx ρ=>G21 c f n ρ
  |.rt s=>M.ret (.rt s)
  else M.ret (.nx ρ)
noncomputable def ownAt(ρ:Env)(i:Nat):Option (List D):=match ρ[i]? with
 |some (some (.fr xs))=>some xs
 |_=>none
noncomputable def w82(xs:List D)(i:Int)(y:D):Option (List D):=(ixN xs.length i).map λj=>xs.set j y
noncomputable def N21:D→Bool
 |.tup l=>q90 l
 |.lst l=>q90 l
 |_=>true
noncomputable def N80(l:List S):Bool:=match plA l with
 |some ds=>ds.all N21
 |none=>false
noncomputable def noS:S→Option S
 |.z=>none
 |s=>some s
noncomputable def N31:(it:It)→(e:Ex)→Option {i:Nat // it=.seq∧e=.cons (.var i) .nil}
 |.seq,.cons (.var i) .nil=>some ⟨i,rfl,rfl⟩
 |_,_=>none
noncomputable def g51:List S→Bool
 |[]=>false
 |.d (.lst _)::_=>true
 |_::r=>g51 r
noncomputable def N90(it:It)(e:Ex)(l:List S)(ρ:Env):Env:=match N31 it e with
 |some i=>ρ.set i.1 ((ρ[i.1]?.getD none).map plS)
 |none=>match g51 l with
  |true=>T90 ρ
  |false=>ρ
noncomputable def n21(it:It)(e:Ex)(l:List S)(ρ:Env):Env:=(N90 it e l ρ).map (D10 (N80 l))
noncomputable abbrev U71:Nat:=20000
noncomputable def n31(ρ:Env)(i j:Nat)(xs ys:List D)(k:Int):Option O :=
 if i≠j∧0≤k∧inR k=true∧xs.length < most then(ys[k.toNat]?).bind λy=>if bare y=true then some (.nx ((ρ.set j (some (.fr (ys.eraseIdx k.toNat)))).set i (some (.fr (xs++[y]))))) else none else none
noncomputable def a62(F:FT)(i j:Nat)(e:Ex):Env→M O:=λρ=>M.bind (M.of (ownAt ρ i)) λxs=>M.bind (M.of (ownAt ρ j)) λys=>M.bind (ev F e ρ) λl=>M.bind (M.of ((pl l).bind asI)) λk=>M.bind (M.of (n31 ρ i j xs ys k)) λo=>M.ret o
noncomputable def n41(tp:Bool)(ρ:Env)(i:Nat):List S→Option (R O)
 |[.fr [.int n,.bl b]]=>if tp then some (.ok (.nx ((N60 ρ).set i (some .z))) (some (n,b))) else none
 |_=>none
noncomputable def n51(ρ:Env)(v:Int):Option (Option S)→Z→Option (R O)
 |some (some .z),some p=>some (.ok (.nx ρ) (some (v,p.2)))
 |_,_=>none
noncomputable def ex(F:FT)(tp:Bool):Sm→Env→M O
 |.nil=>λρ=>M.ret (.nx ρ)
 |.seq s r=>λρ=>M.bind (ex F tp s ρ) λo=>match o with
  |.nx ρ=>ex F tp r ρ
  |.rt s=>M.ret (.rt s)
 |.set p e=>λρ=>M.bind (ev F e ρ) λl=>M.bind (M.of (one l)) λs=>M.bind (M.of (N70 p s (n20 s ρ))) λρ=>M.ret (.nx ρ)
 |.ret e=>λρ=>match e with
  |.var i=>(match ρ[i]? with
   |some (some s)=>M.bind (M.of (noS s)) λs=>M.ret (.rt s)
   |_=>M.no)
  |e=>M.bind (ev F e ρ) λl=>M.bind (M.of ((one l).bind noS)) λs=>M.ret (.rt s)
 |.iff c t e=>λρ=>M.bind (ev F c ρ) λx=>M.bind (M.of ((pl x).bind asB)) λc=>if c then ex F tp t ρ else ex F tp e ρ
 |.fr p it src b=>λρ=>M.bind (ev F src ρ) λl=>M.bind (M.of ((plA l).bind (itD it))) λxs=>S20 (λx ρ=>M.bind (M.of (e30 p x ρ)) λρ=>ex F tp b ρ) xs (n21 it src l ρ)
 |.whl c b=>λρ=>G21 (ev F c) (ex F tp b) U71 ρ
 |.rais c=>λ_ z=>some (.er c z)
 |.exp e=>λρ=>M.bind (ev F e ρ) λl=>M.bind (M.of (one l)) λ_=>M.ret (.nx ρ)
 |.app i e=>λρ=>M.bind (M.of (ownAt ρ i)) λxs=>M.bind (ev F e ρ) λl=>M.bind (M.of (pl l)) λx=>if bare x=true∧xs.length < most then M.ret (.nx (ρ.set i (some (.fr (xs++[x]))))) else M.no
 |.aug o i e=>λρ=>M.bind (M.of ((ρ[i]?.getD none).bind plD)) λy=>M.bind (ev F e ρ) λl=>M.bind (M.of ((pl l).bind asI)) λx=>M.bind (M.of ((asI y).bind λy=>y60 o (.int y) (.int x))) λs=>M.bind (M.of (N70 (.v i) s (n20 s ρ))) λρ=>M.ret (.nx ρ)
 |.newz i f as=>λρ=>M.bind (ev F (.call f as) ρ) λl=>λ_=>n41 tp ρ i l
 |.zset i e=>λρ=>M.bind (ev F e ρ) λl=>M.bind (M.of ((pl l).bind asI)) λv=>λz=>n51 ρ v ρ[i]? z
 |.apop i j e=>λρ=>a62 F i j e ρ
inductive Df where
 |code (ps ns:Nat) (b:Sm) | prim (f:List S→M S)
noncomputable def H90:Z→Z→Z
 |none,_=>none
 |some _,z=>z
noncomputable def start(ns:Nat)(l:List S):Env:=l.map some++List.replicate (ns - l.length) none
noncomputable def run(F:FT):Df→List S→M S
 |.code ps ns b,l=>λz=>if l.length=ps∧ps≤ns then(match ex F z.isNone b (start ns (l.map plS)) z with
  |some (.ok (.nx _) z1)=>some (.ok (.d .non) (H90 z z1))
  |some (.ok (.rt s) z1)=>some (.ok s (H90 z z1))
  |some (.er c z1)=>some (.er c (H90 z z1))
  |none=>none) else none
 |.prim f,l=>f l
noncomputable def b10(T:List Df):Nat→Nat→List S→M S
 |k + 3,f,l=>match T[f]? with
  |some d=>run (λb g m=>match b with | true=>b10 T k g m | false=>b10 T (k + 2) g m) d l
  |none=>M.no
 |_,_,_=>M.no
noncomputable abbrev U00(T:List Df)(k:Nat):FT:=λb g m=>match b with | true=>b10 T (k - 2) g m | false=>b10 T k g m
theorem U10(T:List Df)(k f:Nat)(l:List S):b10 T (k + 3) f l=match T[f]? with
  |some d=>run (U00 T (k + 2)) d l
  |none=>M.no:=rfl
end Q
namespace Q
open PySem L2 PySem.Spec PyProof.Rows
noncomputable def p60(K:PySem.W.Frag)(H:Hp)(a:Addr)(xs:List V):Prop:=Rd H a (.lst xs)∨∃ (its:Array Value) (n:Nat),K.lookup a=some { cls:=.type "list",data:=.seq its n }∧its.size≤sizeLine∧Vals xs its.toList
theorem p60.of{K:PySem.W.Frag}{H:Hp}{a:Addr}{xs:List V}(h:H a=some (.lst xs)):p60 K H a xs:=.inl (.inl h)
theorem p60.sq{K:PySem.W.Frag}{H:Hp}{a:Addr}{xs:List V}(h:p60 K H a xs):SqL K H a xs:=by
 rcases h with h | ⟨its,n,h1,h2,h3⟩
 ·exact .inl h
 ·exact .inr ⟨_,its,n,h1,rfl,rfl,rfl,h2,h3⟩
theorem p60.same{K:PySem.W.Frag}{H H':Hp}{a:Addr}{xs:List V}(h:p60 K H a xs)(e:a30 H H'):p60 K H' a xs:=by
 rcases h with (h | ⟨o,h⟩) | h
 ·exact .inl (.inl (e _ _ h))
 ·exact .inl (.inr ⟨o,e _ _ h⟩)
 ·exact .inr h
theorem p60.mem{X:Cx}{pins:List (Addr × Obj)}{σ:L2.St}{H:Hp}{s:Shared}{a:Addr}{xs:List V}(I:Inv X pins σ H s)(h:p60 X.K H a xs):xs.length≤sizeLine∧∃ (its:List Value) (n:Nat),Vals xs its∧xs.length=its.length∧s.heap.get? a=some { cls:=.type "list",data:=.seq its.toArray n }:=by
 rcases h with (h | ⟨o,h⟩) | ⟨its,n,h1,h2,h3⟩
 ·exact I.n82 h
 ·obtain⟨e,z,its,n,r,e2⟩:=I.hok a _ h
  exact⟨z,its,n,r,r.length,e2⟩
 ·refine⟨by rw[h3.length,Array.length_toList];exact h2,its.toList,n,h3,h3.length,?_⟩
  have:=I.kIn a _ h1
  rw[Array.toArray_toList];exact this
mutual
noncomputable def Hd(K:PySem.W.Frag)(H:Hp):D→V→Prop
 |.non,v=>v=.non
 |.bl b,v=>v=.bl b
 |.int i,v=>v=.int i
 |.str x,v=>v=.str x
 |.tup ds,v=>∃ a xs,v=.ref a∧SqT K H a xs∧HdA K H ds xs
 |.lst ds,v=>∃ a xs,v=.ref a∧p60 K H a xs∧HdA K H ds xs
 |.dct,v=>∃ a kvs,v=.ref a∧H a=some (.dK kvs)
noncomputable def HdA(K:PySem.W.Frag)(H:Hp):List D→List V→Prop
 |[],xs=>xs=[]
 |d::ds,xs=>∃ x r,xs=x::r∧Hd K H d x∧HdA K H ds r
end
section
variable {K:PySem.W.Frag}{H H':Hp}
mutual
theorem Hd.same(e:a30 H H'):∀ {d:D}{v:V},Hd K H d v→Hd K H' d v
 |.non,_,h=>by unfold Hd at h ⊢;exact h
 |.bl _,_,h=>by unfold Hd at h ⊢;exact h
 |.int _,_,h=>by unfold Hd at h ⊢;exact h
 |.str _,_,h=>by unfold Hd at h ⊢;exact h
 |.tup ds,_,h=>by
  unfold Hd at h ⊢
  obtain⟨a,xs,rfl,h1,h2⟩:=h
  exact⟨a,xs,rfl,e.sqT h1,HdA.same e h2⟩
 |.lst ds,_,h=>by
  unfold Hd at h ⊢
  obtain⟨a,xs,rfl,h1,h2⟩:=h
  exact⟨a,xs,rfl,h1.same e,HdA.same e h2⟩
 |.dct,_,h=>by
  unfold Hd at h ⊢
  obtain⟨a,kvs,rfl,h1⟩:=h
  exact⟨a,kvs,rfl,e _ _ h1⟩
theorem HdA.same(e:a30 H H'):∀ {ds:List D}{xs:List V},HdA K H ds xs→HdA K H' ds xs
 |[],_,h=>by unfold HdA at h ⊢;exact h
 |d::ds,_,h=>by
  unfold HdA at h ⊢
  obtain⟨x,r,rfl,h1,h2⟩:=h
  exact⟨x,r,rfl,Hd.same e h1,HdA.same e h2⟩
end
mutual
theorem Hd.has:∀ {d:D}{v:V},Hd K H d v→Has K H d v
 |.non,_,h=>by unfold Hd at h;unfold Has;exact h
 |.bl _,_,h=>by unfold Hd at h;unfold Has;exact h
 |.int _,_,h=>by unfold Hd at h;unfold Has;exact h
 |.str _,_,h=>by unfold Hd at h;unfold Has;exact h
 |.tup ds,_,h=>by
  unfold Hd at h;unfold Has
  obtain⟨a,xs,rfl,h1,h2⟩:=h
  exact⟨a,xs,rfl,h1,HdA.has h2⟩
 |.lst ds,_,h=>by
  unfold Hd at h;unfold Has
  obtain⟨a,xs,rfl,h1,h2⟩:=h
  exact⟨a,xs,rfl,h1.sq,HdA.has h2⟩
 |.dct,_,h=>by unfold Hd at h;unfold Has;exact h
theorem HdA.has:∀ {ds:List D}{xs:List V},HdA K H ds xs→D90 K H ds xs
 |[],_,h=>by unfold HdA at h;unfold D90;exact h
 |d::ds,_,h=>by
  unfold HdA at h;unfold D90
  obtain⟨x,r,rfl,h1,h2⟩:=h
  exact⟨x,r,rfl,Hd.has h1,HdA.has h2⟩
end
theorem HdA.nil:HdA K H [] []:=by unfold HdA;rfl
theorem HdA.cons{d:D}{ds:List D}{x:V}{xs:List V}(h:Hd K H d x)(r:HdA K H ds xs):HdA K H (d::ds) (x::xs):=by unfold HdA;exact⟨x,xs,rfl,h,r⟩
theorem HdA.b50{d:D}{ds:List D}{xs:List V}(h:HdA K H (d::ds) xs):∃ x r,xs=x::r∧Hd K H d x∧HdA K H ds r:=by unfold HdA at h;exact h
theorem HdA.e70{xs:List V}(h:HdA K H [] xs):xs=[]:=by unfold HdA at h;exact h
theorem HdA.length:∀ {ds:List D}{xs:List V},HdA K H ds xs→xs.length=ds.length
 |[],_,h=>by rw[h.e70];rfl
 |d::ds,_,h=>by
  obtain⟨x,r,rfl,_,h2⟩:=h.b50
  simp[h2.length]
theorem HdA.get:∀ {ds:List D}{xs:List V}{i:Nat}{d:D},HdA K H ds xs→ds[i]?=some d→∃ x,xs[i]?=some x∧Hd K H d x
 |[],_,_,_,_,e=>by simp at e
 |d::ds,_,i,d',h,e=>by
  obtain⟨y,r,rfl,h1,h2⟩:=h.b50
  cases i with
  |zero=>simp at e;subst e;exact⟨y,rfl,h1⟩
  |succ i =>
   obtain⟨x',e1,e2⟩:=HdA.get (i:=i) h2 (by simpa using e)
   exact⟨x',by simpa using e1,e2⟩
theorem HdA.append:∀ {ds es:List D}{xs ys:List V},HdA K H ds xs→HdA K H es ys→HdA K H (ds++es) (xs++ys)
 |[],_,_,_,h,g=>by rw[h.e70];exact g
 |d::ds,_,_,_,h,g=>by
  obtain⟨x,r,rfl,h1,h2⟩:=h.b50
  exact .cons h1 (HdA.append h2 g)
theorem HdA.take:∀ {ds:List D}{xs:List V} (n:Nat),HdA K H ds xs→HdA K H (ds.take n) (xs.take n)
 |ds,xs,0,_=>by simp;exact .nil
 |[],_,n + 1,h=>by rw[h.e70];simp;exact .nil
 |d::ds,_,n + 1,h=>by
  obtain⟨x,r,rfl,h1,h2⟩:=h.b50
  exact .cons h1 (HdA.take n h2)
theorem HdA.drop:∀ {ds:List D}{xs:List V} (n:Nat),HdA K H ds xs→HdA K H (ds.drop n) (xs.drop n)
 |ds,xs,0,h=>by simpa using h
 |[],_,n + 1,h=>by rw[h.e70];simp;exact .nil
 |d::ds,_,n + 1,h=>by
  obtain⟨x,r,rfl,h1,h2⟩:=h.b50
  exact HdA.drop n h2
theorem HdA.reverse:∀ {ds:List D}{xs:List V},HdA K H ds xs→HdA K H ds.reverse xs.reverse
 |[],_,h=>by rw[h.e70];simp;exact .nil
 |d::ds,_,h=>by
  obtain⟨x,r,rfl,h1,h2⟩:=h.b50
  rw[List.reverse_cons,List.reverse_cons]
  exact(HdA.reverse h2).append (.cons h1 .nil)
theorem HdA.rep{ds:List D}{xs:List V}(h:HdA K H ds xs):∀ n:Nat,HdA K H (List.replicate n ds).flatten (List.replicate n xs).flatten
 |0=>by simp;exact .nil
 |n + 1=>by rw[List.replicate_succ,List.replicate_succ,List.flatten_cons,List.flatten_cons];exact h.append (h.rep n)
theorem HdA.set:∀ {ds:List D}{xs:List V}{d:D}{x:V} (i:Nat),HdA K H ds xs→Hd K H d x→HdA K H (ds.set i d) (xs.set i x)
 |[],_,_,_,_,h,_=>by rw[h.e70];simp;exact .nil
 |e::ds,_,d,x,i,h,g=>by
  obtain⟨y,r,rfl,h1,h2⟩:=h.b50
  cases i with
  |zero=>exact .cons g h2
  |succ i=>exact .cons h1 (HdA.set i h2 g)
theorem HdA.ints:∀ ns:List Int,HdA K H (ns.map D.int) (ns.map V.int)
 |[]=>.nil
 |n::r=>.cons (by unfold Hd;rfl) (HdA.ints r)
theorem Hd.h60{i:Int}{v:V}(h:Hd K H (.int i) v):v=.int i:=by unfold Hd at h;exact h
theorem Hd.bl_{b:Bool}{v:V}(h:Hd K H (.bl b) v):v=.bl b:=by unfold Hd at h;exact h
theorem Hd.a72{v:V}(h:Hd K H .non v):v=.non:=by unfold Hd at h;exact h
theorem Hd.p02{x:Str}{v:V}(h:Hd K H (.str x) v):v=.str x:=by unfold Hd at h;exact h
theorem Hd.A90{ds:List D}{v:V}(h:Hd K H (.tup ds) v):∃ a xs,v=.ref a∧SqT K H a xs∧HdA K H ds xs:=by unfold Hd at h;exact h
theorem Hd.a11{ds:List D}{v:V}(h:Hd K H (.lst ds) v):∃ a xs,v=.ref a∧p60 K H a xs∧HdA K H ds xs:=by unfold Hd at h;exact h
theorem Hd.int{i:Int}:Hd K H (.int i) (.int i):=by unfold Hd;rfl
theorem Hd.bl{b:Bool}:Hd K H (.bl b) (.bl b):=by unfold Hd;rfl
theorem Hd.non:Hd K H .non .non:=by unfold Hd;rfl
theorem Hd.str{x:Str}:Hd K H (.str x) (.str x):=by unfold Hd;rfl
theorem Hd.tup{a:Addr}{xs:List V}{ds:List D}(h:SqT K H a xs)(r:HdA K H ds xs):Hd K H (.tup ds) (.ref a):=by unfold Hd;exact⟨a,xs,rfl,h,r⟩
theorem Hd.lst{a:Addr}{xs:List V}{ds:List D}(h:H a=some (.lst xs))(r:HdA K H ds xs):Hd K H (.lst ds) (.ref a):=by unfold Hd;exact⟨a,xs,rfl,p60.of h,r⟩
end
noncomputable def noT(H:Hp):Hp:=λb=>match H b with
 |some (.tbl _)=>none
 |o=>o
theorem O00{H:Hp}{b:Addr}{o:HO}(h:noT H b=some o):H b=some o∧∀ ps,o≠.tbl ps:=by
 unfold noT at h
 split at h
 ·cases h
 ·rename_i n
  exact⟨h,λps e=>n ps (by rw[h,e])⟩
theorem U20{H:Hp}{b:Addr}{o:HO}(h:H b=some o)(n:∀ ps,o≠.tbl ps):noT H b=some o:=by
 unfold noT
 split
 ·rename_i ps e
  rw[h] at e
  cases e
  exact absurd rfl (n ps)
 ·exact h
theorem y90(H:Hp):a30 (noT H) H:=λ_ _ h=>(O00 h).1
theorem a21{H H':Hp}(e:a30 H H'):a30 (noT H) (noT H'):=λb o h=>U20 (e b o (O00 h).1) (O00 h).2
noncomputable def hz(zA:Option Addr)(H:Hp):Hp:=match zA with
 |some a=>hide a (noT H)
 |none=>noT H
class Tb where
 tb:List (Addr × Str)
variable [TB:Tb]
noncomputable def zAt(zA:Option Addr)(z:Z)(H:Hp):Prop:=match zA,z with
 |some a,some (n,b)=>H a=some (.lst [.int n,.bl b])
 |none,none=>True
 |_,_=>False
structure d60(zA:Option Addr)(z:Z)(H:Hp):Prop where
 zat:zAt zA z H
 tab:∀ p∈TB.tb,Tab H p.1 p.2
theorem a20(zA:Option Addr)(H:Hp):a30 (hz zA H) H:=by
 cases zA with
 |none=>exact y90 H
 |some a=>exact a30.trans (e10 a _) (y90 H)
theorem i70{zA:Option Addr}{H H':Hp}(e:a30 H H'):a30 (hz zA H) (hz zA H'):=by
 cases zA with
 |none=>exact a21 e
 |some a=>exact A60 λb o _ h=>a21 e b o h
theorem c80{zA:Option Addr}{H:Hp}{b:Addr}{o:HO}(h:H b=some o)(n:zA≠some b)(ht:∀ ps,o≠.tbl ps:=by exact λ_ h=>nomatch h):hz zA H b=some o:=by
 cases zA with
 |none=>exact U20 h ht
 |some a=>exact H30 (U20 h ht) λe=>n (by rw[e])
theorem r00{zA:Option Addr}{H:Hp}{b:Addr}{o:HO}(h:hz zA H b=some o):H b=some o∧zA≠some b:=by
 cases zA with
 |none=>exact⟨y90 H b o h,λe=>nomatch e⟩
 |some a =>
  refine⟨y90 H b o (e10 a _ b o h),λe=>?_⟩
  cases e
  have:hide b (noT H) b=some o:=h
  unfold hide at this
  rw[if_pos rfl] at this;cases this
theorem s90{zA:Option Addr}{H:Hp}{b:Addr}{o:HO}(h:hz zA H b=some o):∀ ps,o≠.tbl ps:=by
 cases zA with
 |none=>exact(O00 h).2
 |some a=>exact(O00 (e10 a _ b o h)).2
structure Ext(zA:Option Addr)(H H':Hp):Prop where
 same:a30 (hz zA H) (hz zA H')
 tbl:∀ b ps,H b=some (.tbl ps)→∃ qs,H' b=some (.tbl qs)
instance {zA:Option Addr}{H H':Hp}:CoeFun (Ext zA H H') (λ_=>∀ b o,hz zA H b=some o→hz zA H' b=some o):=⟨λx=>x.same⟩
instance {zA:Option Addr}{H H':Hp}:CoeOut (Ext zA H H') (a30 (hz zA H) (hz zA H')):=⟨λx=>x.same⟩
theorem Ext.refl{zA:Option Addr}{H:Hp}:Ext zA H H:=⟨a30.refl _,λb ps h=>⟨ps,h⟩⟩
theorem Ext.trans{zA:Option Addr}{H H1 H2:Hp}(a:Ext zA H H1)(b:Ext zA H1 H2):Ext zA H H2:=⟨a30.trans a.same b.same,λc ps h=>let ⟨qs,h1⟩:=a.tbl c ps h;b.tbl c qs h1⟩
theorem Ext.of{zA:Option Addr}{H H':Hp}(e:a30 H H'):Ext zA H H':=⟨i70 e,λb ps h=>⟨ps,e b _ h⟩⟩
theorem Ext.at{zA:Option Addr}{H H':Hp}(e:Ext zA H H'){a:Addr}{o:HO}(h:H a=some o)(n:zA≠some a)(ht:∀ ps,o≠.tbl ps:=by exact λ_ h=>nomatch h):H' a=some o:=(r00 (e.same a o (c80 h n ht))).1
theorem Ext.free{zA:Option Addr}{H H':Hp}(e:Ext zA H H'){a:Addr}(h:H' a=none)(n:zA≠some a):H a=none:=by
 cases q:H a with
 |none=>rfl
 |some o =>
  by_cases ht:∃ ps,o=.tbl ps
  ·obtain⟨ps,rfl⟩:=ht
   obtain⟨qs,q'⟩:=e.tbl a ps q
   rw[q'] at h;cases h
  ·rw[e.at q n λps z=>ht ⟨ps,z⟩] at h;cases h
theorem zAt.same{zA:Option Addr}{z:Z}{H H':Hp}(h:zAt zA z H)(e:a30 H H'):zAt zA z H':=by
 cases zA with
 |none=>cases z with
  |none=>trivial
  |some _=>exact h.elim
 |some a=>cases z with
  |none=>exact h.elim
  |some p=>exact e _ _ h
theorem d60.same{zA:Option Addr}{z:Z}{H H':Hp}(h:d60 zA z H)(e:a30 H H'):d60 zA z H':=⟨h.zat.same e,λp hp=>(h.tab p hp).same e⟩
theorem Tab.upd{H:Hp}{P a:Addr}{q:Str}{xs:List V}{o:HO}(t:Tab H P q)(h:H a=some (.lst xs)):Tab (upd H a o) P q:=by
 obtain⟨ps,e,tr,k⟩:=t
 have ne:∀ {b:Addr}{u:HO},H b=some u→(∀ l,u≠.lst l)→b≠a:=λ{b u} e1 e2 z=>by
  subst z
  rw[h] at e1
  cases e1
  exact e2 _ rfl
 refine⟨ps,by rw[a50 (ne e λ_ z=>nomatch z)];exact e,tr,λpos c hc=>?_⟩
 obtain⟨c',e1,e2⟩:=k pos c hc
 exact⟨c',e1,by rw[a50 (ne e2 λ_ z=>nomatch z)];exact e2⟩
theorem d60.N41{K:PySem.W.Frag}{zA:Option Addr}{z:Z}{H:Hp}(h:d60 zA z H){a:Addr}{xs:List V}(t:SqT K H a xs):SqT K (hz zA H) a xs:=by
 have h:=h.zat
 rcases t with (t | ⟨o,t⟩) | t
 ·refine .inl (.inl (c80 t λe=>?_))
  subst e
  cases z with
  |none=>exact h.elim
  |some p =>
   have h':H a=some (.lst [.int p.1,.bl p.2]):=h
   rw[t] at h';cases h'
 ·refine .inl (.inr ⟨o,c80 t λe=>?_⟩)
  subst e
  cases z with
  |none=>exact h.elim
  |some p =>
   have h':H a=some (.lst [.int p.1,.bl p.2]):=h
   rw[t] at h';cases h'
 ·exact .inr t
theorem d60.n61{zA:Option Addr}{z:Z}{H:Hp}(h:d60 zA z H){a:Addr}(n:H a=none):zA≠some a:=λe=>by
 have h:=h.zat
 subst e
 cases z with
 |none=>exact h.elim
 |some p =>
  have h':H a=some (.lst [.int p.1,.bl p.2]):=h
  rw[n] at h';cases h'
noncomputable def RvS(K:PySem.W.Frag)(zA:Option Addr)(H0 H:Hp):S→V→Prop
 |.d x,v=>Hd K (hz zA H) x v
 |.fr xs,v=>∃ a ys,v=.ref a∧H0 a=none∧zA≠some a∧H a=some (.lst ys)∧HdA K (hide a (hz zA H)) xs ys
 |.z,v=>∃ a,zA=some a∧v=.ref a
noncomputable def RvP(K:PySem.W.Frag)(zA:Option Addr)(H:Hp):S→V→Prop
 |.d x,v=>Hd K (hz zA H) x v
 |.fr xs,v=>Hd K (hz zA H) (.lst xs) v
 |.z,v=>∃ a,zA=some a∧v=.ref a
section
variable {K:PySem.W.Frag}{zA:Option Addr}{H0 H H':Hp}
theorem RvS.pl{s:S}{v:V}(h:RvS K zA H0 H s v):RvP K zA H s v:=by
 cases s with
 |d x=>exact h
 |z=>exact h
 |fr xs =>
  obtain⟨a,ys,rfl,_,h2,h3,h4⟩:=h
  exact Hd.lst (c80 h3 h2) (h4.same (e10 a _))
theorem RvP.plS{s:S}{v:V}(h:RvP K zA H s v):RvP K zA H (plS s) v:=by cases s <;> exact h
theorem RvP.mono{s:S}{v:V}(h:RvP K zA H s v)(e:Ext zA H H'):RvP K zA H' s v:=by
 cases s with
 |d x=>exact Hd.same e h
 |z=>exact h
 |fr xs=>exact Hd.same e h
theorem RvS.mono{s:S}{v:V}(h:RvS K zA H0 H s v)(e:Ext zA H H'):RvS K zA H0 H' s v:=by
 cases s with
 |d x=>exact Hd.same e h
 |z=>exact h
 |fr xs =>
  obtain⟨a,ys,rfl,h1,h2,h3,h4⟩:=h
  exact⟨a,ys,rfl,h1,h2,e.at h3 h2,h4.same (A60 λb o _ q=>e b o q)⟩
theorem RvS.from{H1:Hp}{s:S}{v:V}(h:RvS K zA H1 H s v)(e:Ext zA H0 H1):RvS K zA H0 H s v:=by
 cases s with
 |d x=>exact h
 |z=>exact h
 |fr xs =>
  obtain⟨a,ys,rfl,h1,h2,h3⟩:=h
  exact⟨a,ys,rfl,e.free h1 h2,h2,h3⟩
theorem RvP.d_{s:S}{v:V}{x:D}(h:RvP K zA H s v)(e:plD s=some x):Hd K (hz zA H) x v:=by
 cases s with
 |d y=>cases e;exact h
 |fr xs=>cases e;exact h
 |z=>cases e
end
noncomputable abbrev RvA(K:PySem.W.Frag)(zA:Option Addr)(H:Hp):List S→List V→Prop:=Paired (RvP K zA H)
theorem RvA.mono{K:PySem.W.Frag}{zA:Option Addr}{H H':Hp}{l:List S}{vs:List V}(h:RvA K zA H l vs)(e:Ext zA H H'):RvA K zA H' l vs:=Paired.U41 h λ_ _ q=>q.mono e
theorem RvA.plS{K:PySem.W.Frag}{zA:Option Addr}{H:Hp}:∀ {l:List S}{vs:List V},RvA K zA H l vs→RvA K zA H (l.map plS) vs
 |_,_,.nil=>.nil
 |_,_,.cons r t=>.cons r.plS (RvA.plS t)
theorem RvA.ds{K:PySem.W.Frag}{zA:Option Addr}{H:Hp}:∀ {l:List S}{vs:List V}{ds:List D},RvA K zA H l vs→plA l=some ds→HdA K (hz zA H) ds vs
 |_,_,_,.nil,e=>by cases e;exact .nil
 |.d x::r,_,_,.cons h t,e=>by
  simp only[plA,Option.map_eq_some_iff] at e
  obtain⟨l,e,rfl⟩:=e
  exact .cons h (RvA.ds t e)
 |.fr x::r,_,_,.cons h t,e=>by
  simp only[plA,Option.map_eq_some_iff] at e
  obtain⟨l,e,rfl⟩:=e
  exact .cons h (RvA.ds t e)
 |.z::r,_,_,.cons h t,e=>by simp[plA] at e
theorem f40{l:List S}{x:D}(h:pl l=some x):∃ s,l=[s]∧plD s=some x:=by
 unfold pl at h
 split at h
 ·exact⟨_,rfl,h⟩
 ·exact⟨_,rfl,h⟩
 ·cases h
theorem M.bind_some{α β:Type}{m:M α}{f:α→M β}{z:Z}{r:R β}(h:M.bind m f z=some r):(∃ a z1,m z=some (.ok a z1)∧f a z1=some r)∨(∃ c z1,m z=some (.er c z1)∧r=.er c z1):=by
 unfold M.bind at h
 split at h
 ·exact .inl ⟨_,_,by assumption,h⟩
 ·cases h;exact .inr ⟨_,_,by assumption,rfl⟩
 ·cases h
theorem M.a10{α β:Type}{o:Option α}{f:α→M β}{z:Z}{r:R β}(h:M.bind (M.of o) f z=some r):∃ a,o=some a∧f a z=some r:=by
 cases o with
 |none=>cases h
 |some a=>exact⟨a,rfl,h⟩
end Q
set_option exponentiation.threshold 5000
namespace Q
open PySem L2 PySem.Spec PyProof.Rows
variable [TB:Tb]
section
variable {K:PySem.W.Frag}{zA:Option Addr}{z:Z}{H:Hp}
theorem B51{p:Addr}{o:HO}(hp:H p=none):a30 (hz zA H) (hide p (hz zA (upd H p o))):=λb u e=>by
 obtain⟨e1,e2⟩:=r00 e
 have hb:b≠p:=λq=>by subst q;rw[hp] at e1;cases e1
 exact H30 (c80 (by rw[a50 hb];exact e1) e2 (s90 e)) hb
theorem g30{H0:Hp}{i:Int}:RvS K zA H0 H (.d (.int i)) (.int i):=Hd.int (K:=K) (H:=hz zA H)
theorem g70{H0:Hp}{b:Bool}:RvS K zA H0 H (.d (.bl b)) (.bl b):=Hd.bl (K:=K) (H:=hz zA H)
theorem x01{H0:Hp}{x:D}{v:V}(h:Hd K (hz zA H) x v):RvS K zA H0 H (.d x) v:=h
theorem t00{p:Addr}{xs:List D}{ys:List V}(st:d60 zA z H)(h:HdA K (hz zA H) xs ys)(hp:H p=none):RvS K zA H (upd H p (.lst ys)) (.fr xs) (.ref p) :=
 ⟨p,ys,rfl,hp,st.n61 hp,c30,h.same (B51 hp)⟩
theorem tupQ{xs:List D}{ys:List V}{Q:VK}(st:d60 zA z H)(h:HdA K (hz zA H) xs ys)(q:∀ v H',a30 H H'→RvS K zA H H' (.d (.tup xs)) v→Q v H'):A71 K H ys Q :=
 λp H' sm hq=>q _ _ sm (x01 (Hd.tup ((st.same sm).N41 hq) (h.same (i70 sm))))
end
noncomputable def rD2(K:PySem.W.Frag)(f:D→D→Option S):R2:=λx y H Q=>∃ zA z dx dy s,d60 zA z H∧Hd K (hz zA H) dx x∧Hd K (hz zA H) dy y∧f dx dy=some s∧∀ v H',a30 H H'→RvS K zA H H' s v→Q v H'
noncomputable def rDn(K:PySem.W.Frag)(f:List D→Option S):List V→Hp→VK→Prop:=λxs H Q=>∃ zA z ds s,d60 zA z H∧HdA K (hz zA H) ds xs∧f ds=some s∧∀ v H',a30 H H'→RvS K zA H H' s v→Q v H'
section
variable {X:Cx}
theorem bits_le{k:Int}(h:k.natAbs < E00):Builtin.Int.intBits k≤4000:=by
 unfold Builtin.Int.intBits
 split
 ·exact Nat.zero_le _
 ·have hn:k.natAbs < 2 ^ 4000:=h
  have:k.natAbs.log2 < 4000:=by
   rcases Nat.eq_zero_or_pos k.natAbs with h0 | hp
   ·rw[h0];decide
   ·exact(Nat.log2_lt (Nat.ne_of_gt hp)).mpr hn
  omega
theorem G31{i j:Int}(hi:i.natAbs < E00)(hj:j.natAbs < E00):IntMulOk i j:=by
 have h1:=bits_le hi
 have h2:=bits_le hj
 unfold IntMulOk
 intro h
 rw[Bool.and_eq_true] at h
 have h3:=h.2
 unfold Builtin.Int.intTooBig at h3
 simp only[decide_eq_true_eq] at h3
 have:(8000:Nat) < bitsLine:=by decide
 omega
theorem n71{i j:Int}(hj:j.natAbs < E00):Builtin.divisionGoesByPylong i j=false:=by
 refine PyProof.noPylong_of_log2 ?_
 rcases Nat.eq_zero_or_pos j.natAbs with h0 | hp
 ·rw[h0];decide
 ·have:j.natAbs.log2 < 4000:=(Nat.log2_lt (Nat.ne_of_gt hp)).mpr hj
  omega
theorem e40{n:Nat}(h:n≤most):n≤sizeLine:=Nat.le_trans h (by rw[sizeLine_eq];decide)
noncomputable def p12(K:PySem.W.Frag):R2:=λx y H Q=>∃ l b xs zs,x=.ref l∧y=.ref b∧p60 K H l xs∧p60 K H b zs∧xs.length + zs.length≤sizeLine∧∀ p,H p=none→Q (.ref p) (upd H p (.lst (xs++zs)))
noncomputable def p22(K:PySem.W.Frag):R2:=λx y H Q=>∃ l k xs,x=.ref l∧y=.int k∧p60 K H l xs∧-(2 ^ 63)≤k∧k < 2 ^ 63∧xs.length * k.toNat≤sizeLine∧∀ p,H p=none→Q (.ref p) (upd H p (.lst (List.replicate k.toNat xs).flatten))
theorem N51:OpR X (binaryOp .Add) (p12 X.K):=by
 intro pins s σ H x y v u Q I rx ry h
 obtain⟨l,b,xs,zs,rfl,rfl,hH,hB,hz,q⟩:=h
 cases rx
 cases ry
 obtain⟨z,its,n,r,hl,e⟩:=hH.mem I
 obtain⟨z2,its2,n2,r2,hl2,e2⟩:=hB.mem I
 refine PySem.P.add_list e e2 ?_ (by rw[List.size_toArray,List.size_toArray];omega)
 have ea:its.toArray++its2.toArray=(its++its2).toArray:=by simp
 rw[ea]
 exact⟨.ref _,_,I.w12 (t':=s.toks) (r.append r2) (by rw[List.length_append];omega),rfl,q _ I.fresh⟩
theorem N61:OpR X (binaryOp .Mult) (p22 X.K):=by
 intro pins s σ H x y v u Q I rx ry h
 obtain⟨l,k,xs,rfl,rfl,hH,h1,h2,hz,q⟩:=h
 cases rx
 obtain⟨t,rfl⟩:=ry
 obtain⟨z,its,n,r,hl,e⟩:=hH.mem I
 have hlen:its.toArray.size * k.toNat≤sizeLine:=by rw[List.size_toArray,← hl];exact hz
 have hcap:¬ its.toArray.size * k.toNat > (2 ^ 63 - 1) / 8:=by
  have:(sizeLine:Nat)≤(2 ^ 63 - 1) / 8:=by decide
  omega
 have hfit:¬ (!Builtin.List.listFitsIndex k)=true:=by
  rw[fitsIndex_both h1 h2]
  exact Bool.false_ne_true
 have hlong:¬ Builtin.List.listTooLong (its.toArray.size * k.toNat)=true:=by
  rw[y51 hlen]
  exact Bool.false_ne_true
 have hnew:List.foldl (λx1 x2=>x1++x2) #[] (List.replicate (if its.toArray.isEmpty=true then 0 else k.toNat) its.toArray)=(List.replicate k.toNat its).flatten.toArray:=by
  have f0:∀ m:Nat,List.foldl (λx1 x2=>x1++x2) #[] (List.replicate m its.toArray)=(List.replicate m its).flatten.toArray:=λm=>by
   have:=foldl_rep its m []
   rw[List.nil_append] at this
   exact this
  rw[f0]
  cases its with
  |nil=>simp
  |cons a r'=>rw[if_neg (by simp)]
 refine wpAny_binaryOp_repeat_ref (T:="list") (U:="int") (by decide) ⟨_,e,rfl⟩ (λs'=>typeIs_int s' k t) noFill_list_mul F.fills_int_mul F.slot_int_rmul repeat_list F.slot_int_index.lookup
  (call_meets F.slot_int_rmul (typeIs_int s k t) F.entry_int_rmul (F.args_int_rmul_2 _ _) (int___rmul___int_list k t l its.toArray n)
   ⟨e,rfl,⟨_,e,rfl⟩,call_meets F.slot_list_mul ⟨_,e,rfl⟩ F.entry_list_mul (F.args_list_mul_2 _ _) (AutoListH.list___mul___list_int_3 l its.toArray n k t hfit hcap hlong) ⟨e,?_⟩⟩)
 rw[hnew]
 exact⟨.ref _,_,I.w12 (t':=s.toks) (r.rep k.toNat) (by rw[len_rep,Nat.mul_comm];exact hz),rfl,q _ I.fresh⟩
theorem N71:OpR X (binaryOp .Add) (rD2 X.K (y60 .add)):=by
 intro pins s σ H x y v u Q I rx ry h
 obtain⟨zA,z,dx,dy,w,st,hx,hy,e,q⟩:=h
 cases dx with
 |int i =>
  cases dy with
  |int j =>
   cases e;cases hx.h60;cases hy.h60
   exact X71 pins s σ H _ _ v u Q I rx ry ⟨i,j,rfl,rfl,q _ _ (a30.refl H) g30⟩
  |_=>cases e
 |tup a =>
  cases dy with
  |tup b =>
   obtain⟨hl,e⟩:=e20 e
   cases e
   obtain⟨p,xs,rfl,h1,h2⟩:=hx.A90
   obtain⟨p',ys,rfl,h3,h4⟩:=hy.A90
   exact M31 pins s σ H _ _ v u Q I rx ry ⟨p,p',xs,ys,rfl,rfl,(a20 zA H).sqT h1,(a20 zA H).sqT h3,e40 (by rw[h2.length,h4.length];exact hl),tupQ st (h2.append h4) q⟩
  |_=>cases e
 |lst a =>
  cases dy with
  |lst b =>
   obtain⟨hl,e⟩:=e20 e
   cases e
   obtain⟨p,xs,rfl,h1,h2⟩:=hx.a11
   obtain⟨p',ys,rfl,h3,h4⟩:=hy.a11
   exact N51 pins s σ H _ _ v u Q I rx ry ⟨p,p',xs,ys,rfl,rfl,h1.same (a20 zA H),h3.same (a20 zA H),e40 (by rw[h2.length,h4.length];exact hl),λr hr=>q _ _ (a30.new _ hr) (t00 st (h2.append h4) hr)⟩
  |_=>cases e
 |_=>cases e
theorem N81:OpR X (binaryOp .Sub) (rD2 X.K (y60 .sub)):=by
 intro pins s σ H x y v u Q I rx ry h
 obtain⟨zA,z,dx,dy,w,st,hx,hy,e,q⟩:=h
 cases dx with
 |int i =>
  cases dy with
  |int j =>
   cases e;cases hx.h60;cases hy.h60
   exact X81 pins s σ H _ _ v u Q I rx ry ⟨i,j,rfl,rfl,q _ _ (a30.refl H) g30⟩
  |_=>cases e
 |_=>cases e
theorem N91:OpR X (binaryOp .Mult) (rD2 X.K (y60 .mul)):=by
 intro pins s σ H x y v u Q I rx ry h
 obtain⟨zA,z,dx,dy,w,st,hx,hy,e,q⟩:=h
 cases dx with
 |int i =>
  cases dy with
  |int j =>
   obtain⟨hl,e⟩:=e20 e
   cases e;cases hx.h60;cases hy.h60
   obtain⟨t,rfl⟩:=rx
   obtain⟨t',rfl⟩:=ry
   exact mul_int ⟨.int (i * j),H,I.tok _,⟨_,rfl⟩,q _ _ (a30.refl H) g30⟩ (G31 hl.1 hl.2)
  |_=>cases e
 |tup a =>
  cases dy with
  |int j =>
   obtain⟨hl,e⟩:=e20 e
   cases e;cases hy.h60
   obtain⟨p,xs,rfl,h1,h2⟩:=hx.A90
   exact M41 pins s σ H _ _ v u Q I rx ry ⟨p,j,xs,rfl,rfl,(a20 zA H).sqT h1,hl.1,hl.2.2,e40 (by rw[h2.length];exact hl.2.1),tupQ st (h2.rep _) q⟩
  |_=>cases e
 |lst a =>
  cases dy with
  |int j =>
   obtain⟨hl,e⟩:=e20 e
   cases e;cases hy.h60
   obtain⟨p,xs,rfl,h1,h2⟩:=hx.a11
   exact N61 pins s σ H _ _ v u Q I rx ry ⟨p,j,xs,rfl,rfl,h1.same (a20 zA H),by omega,by omega,e40 (by rw[h2.length,Nat.mul_comm];exact hl.2.1),λr hr=>q _ _ (a30.new _ hr) (t00 st (h2.rep _) hr)⟩
  |_=>cases e
 |_=>cases e
theorem B61:OpR X (binaryOp .FloorDiv) (rD2 X.K (y60 .fdiv)):=by
 intro pins s σ H x y v u Q I rx ry h
 obtain⟨zA,z,dx,dy,w,st,hx,hy,e,q⟩:=h
 cases dx with
 |int i =>
  cases dy with
  |int j =>
   obtain⟨hl,e⟩:=e20 e
   cases e;cases hx.h60;cases hy.h60
   obtain⟨t,rfl⟩:=rx
   obtain⟨t',rfl⟩:=ry
   refine floordiv_int (by omega) ⟨.int (i / j),H,I.tok _,⟨s.toks,?_⟩,q _ _ (a30.refl H) g30⟩ (.inl (n71 hl.2))
   rw[Int.fdiv_eq_ediv_of_nonneg _ (by omega)]
  |_=>cases e
 |_=>cases e
theorem O01:OpR X (binaryOp .Mod) (rD2 X.K (y60 .mod)):=by
 intro pins s σ H x y v u Q I rx ry h
 obtain⟨zA,z,dx,dy,w,st,hx,hy,e,q⟩:=h
 cases dx with
 |int i =>
  cases dy with
  |int j =>
   obtain⟨hl,e⟩:=e20 e
   cases e;cases hx.h60;cases hy.h60
   exact X91 pins s σ H _ _ v u Q I rx ry ⟨i,j,rfl,rfl,hl,q _ _ (a30.refl H) g30⟩
  |_=>cases e
 |_=>cases e
theorem O11:OpR X (binaryOp .Pow) (rD2 X.K (y60 .pow)):=by
 intro pins s σ H x y v u Q I rx ry h
 obtain⟨zA,z,dx,dy,w,st,hx,hy,e,q⟩:=h
 cases dx with
 |int i =>
  cases dy with
  |int j =>
   obtain⟨hl,e⟩:=e20 e
   cases e;cases hx.h60;cases hy.h60
   exact Y01 pins s σ H _ _ v u Q I rx ry ⟨i,j,rfl,rfl,⟨hl.1,by omega,hl.2.2⟩,q _ _ (a30.refl H) g30⟩
  |_=>cases e
 |_=>cases e
noncomputable def opB:Bi→Operator
 |.add=>.Add | .sub=>.Sub | .mul=>.Mult | .fdiv=>.FloorDiv | .mod=>.Mod | .pow=>.Pow
theorem opD(o:Bi):OpR X (binaryOp (opB o)) (rD2 X.K (y60 o)):=by
 cases o
 ·exact N71
 ·exact N81
 ·exact N91
 ·exact B61
 ·exact O01
 ·exact O11
mutual
noncomputable def toP:D→PyData
 |.non=>.none
 |.bl b=>.bool b
 |.int i=>.int i
 |.str x=>.str x
 |.tup l=>.tuple (L40 l)
 |.lst l=>.list (L40 l)
 |.dct=>.none
noncomputable def L40:List D→List PyData
 |[]=>[]
 |x::r=>toP x::L40 r
end
end
end Q
namespace Q
open PySem L2 PySem.Spec PyProof.Rows
variable [TB:Tb]
mutual
theorem O10:∀ a b:D,w50 a=true→w50 b=true→PyData.eqv (toP a) (toP b)=eqD a b
 |.non,b,_,h=>by cases b <;> first | rfl | (simp[w50] at h)
 |.bl _,b,_,h=>by cases b <;> first | rfl | (simp[w50] at h)
 |.int _,b,_,h=>by cases b <;> first | rfl | (simp[w50] at h)
 |.str _,b,_,h=>by cases b <;> first | rfl | (simp[w50] at h)
 |.tup l,b,ha,h=>by
  cases b with
  |tup q =>
   exact U30 l q (by simpa [w50] using ha) (by simpa [w50] using h)
  |dct=>simp[w50] at h
  |_=>rfl
 |.lst l,b,ha,h=>by
  cases b with
  |lst q =>
   exact U30 l q (by simpa [w50] using ha) (by simpa [w50] using h)
  |dct=>simp[w50] at h
  |_=>rfl
 |.dct,_,h,_=>by simp[w50] at h
theorem U30:∀ a b:List D,f60 a=true→f60 b=true→PyData.eqvAll (L40 a) (L40 b)=a42 a b
 |[],[],_,_=>rfl
 |[],_::_,_,_=>rfl
 |_::_,[],_,_=>rfl
 |x::r,y::q,ha,hb=>by
  simp only[f60,Bool.and_eq_true] at ha hb
  simp only[L40,PyData.eqvAll,a42]
  rw[O10 x y ha.1 hb.1,U30 r q ha.2 hb.2]
end
mutual
theorem E20:∀ a:D,w50 a=true→(toP a).canLay0=true
 |.non,_=>rfl
 |.bl _,_=>rfl
 |.int _,_=>rfl
 |.str _,h=>h
 |.tup l,h=>B00 l h
 |.lst l,h=>B00 l h
 |.dct,h=>by cases h
theorem B00:∀ a:List D,f60 a=true→PyData.canLayAll0 (L40 a)=true
 |[],_=>rfl
 |x::r,h=>by
  simp only[f60,Bool.and_eq_true] at h
  simp only[L40,PyData.canLayAll0,E20 x h.1,B00 r h.2,Bool.and_self]
end
mutual
theorem I00:∀ a:D,(toP a).depth=deep a
 |.non=>rfl
 |.bl _=>rfl
 |.int _=>rfl
 |.str _=>rfl
 |.tup l=>congrArg (· + 1) (I10 l)
 |.lst l=>congrArg (· + 1) (I10 l)
 |.dct=>rfl
theorem I10:∀ a:List D,PyData.depthAll (L40 a)=i50 a
 |[]=>rfl
 |x::r=>by
  simp only[L40,PyData.depthAll,i50]
  rw[I00 x,I10 r]
end
noncomputable def g61(h:Heap)(u:Value)(d:D):Prop:=w50 d=true∧∃ as,Reads h u (toP d) as
noncomputable def d80(h:Heap)(us:List Value)(ds:List D):Prop:=f60 ds=true∧∃ as,ReadsAll h us (L40 ds) as
section
variable {X:Cx}{pins:List (Addr × Obj)}{σ:L2.St}{H:Hp}{s:Shared}
mutual
theorem n30(I:Inv X pins σ H s):∀ {d:D}{v:V}{u:Value},Hd X.K H d v→RelV v u→w50 d=true→∃ as,Reads s.heap u (toP d) as
 |.non,_,_,h,r,_=>by cases h.a72;cases r;exact⟨_,.none⟩
 |.bl b,_,_,h,r,_=>by cases h.bl_;cases r;exact⟨_,.bool b⟩
 |.int i,_,_,h,r,_=>by cases h.h60;obtain⟨t,rfl⟩:=r;exact⟨_,.int i t⟩
 |.str x,_,_,h,r,_=>by cases h.p02;obtain⟨t,rfl⟩:=r;exact⟨_,.str x t⟩
 |.tup l,_,_,h,r,f=>by
  obtain⟨a,xs,rfl,h1,h2⟩:=h.A90
  cases r
  obtain⟨its,rv,⟨o,e1,e2,n,e3⟩,_⟩:=I.tuple h1
  obtain⟨as,ra⟩:=B10 I h2 rv f
  exact⟨_,.tuple e1 e2 e3 (by simpa using ra)⟩
 |.lst l,_,_,h,r,f=>by
  obtain⟨a,xs,rfl,h1,h2⟩:=h.a11
  cases r
  obtain⟨its,rv,⟨o,n,e1,e2,_,e3⟩,_⟩:=I.list h1.sq
  obtain⟨as,ra⟩:=B10 I h2 rv f
  exact⟨_,.list e1 e2 e3 (by simpa using ra)⟩
 |.dct,_,_,_,_,f=>by cases f
theorem B10(I:Inv X pins σ H s):∀ {ds:List D}{vs:List V}{us:List Value},HdA X.K H ds vs→Vals vs us→f60 ds=true→∃ as,ReadsAll s.heap us (L40 ds) as
 |[],_,_,h,r,_=>by cases h.e70;cases r;exact⟨_,.nil⟩
 |d::ds,_,_,h,r,f=>by
  obtain⟨x,xs,rfl,h1,h2⟩:=h.b50
  cases r with
  |cons r1 r2 =>
   simp only[f60,Bool.and_eq_true] at f
   obtain⟨_,a1⟩:=n30 I h1 r1 f.1
   obtain⟨_,a2⟩:=B10 I h2 r2 f.2
   exact⟨_,.cons a1 a2⟩
end
end
theorem t10{d:D}(h:okD d=true):w50 d=true∧SeqAt.shaped (toP d)=true:=by
 unfold okD at h
 rw[Bool.and_eq_true,decide_eq_true_eq] at h
 refine⟨h.1,?_⟩
 unfold SeqAt.shaped
 rw[E20 d h.1,I00,Bool.true_and,decide_eq_true_eq]
 omega
section
variable {X:Cx}
theorem a82{a b:D}{c:Bool}(h:eqE a b=some c):∃ l,a=.tup l∧b=.tup []∧c=l.isEmpty:=by
 unfold eqE at h
 split at h
 ·cases h;exact⟨_,rfl,rfl,rfl⟩
 ·cases h
theorem a92(hu:X.A.units + 64 < cLine):OpR X (compareOp .Eq) (rD2 X.K λa b=>(eqQ a b).map λc=>.d (.bl c)):=by
 intro pins s σ H x y v u Q I rx ry h
 obtain⟨zA,z,dx,dy,w,st,hx,hy,e,q⟩:=h
 unfold eqQ at e
 dsimp only at e
 split at e
 ·rename_i ok
  cases e
  rw[Bool.and_eq_true] at ok
  obtain⟨f1,s1⟩:=t10 ok.1
  obtain⟨f2,s2⟩:=t10 ok.2
  obtain⟨as,r1⟩:=n30 I (hx.same (a20 zA H)) rx f1
  obtain⟨bs,r2⟩:=n30 I (hy.same (a20 zA H)) ry f2
  exact eq_dataH r1 r2 s1 s2 hu ⟨.bl _,H,I,rfl,by rw[O10 dx dy f1 f2];exact q _ _ (a30.refl H) g70⟩
 ·obtain⟨c,h1,h2⟩:=Option.map_eq_some_iff.mp e
  obtain⟨l,rfl,rfl,rfl⟩:=a82 h1
  subst h2
  obtain⟨a,xs,rfl,k1,k2⟩:=hx.A90
  obtain⟨b,ys,rfl,k3,k4⟩:=hy.A90
  cases k4.e70
  cases rx;cases ry
  obtain⟨its,rv,ht,_⟩:=I.tuple ((a20 zA H).sqT k1)
  obtain⟨iu,ru,hu2,_⟩:=I.tuple ((a20 zA H).sqT k3)
  cases ru
  have e1:its.length=l.length:=by rw[← rv.length,k2.length]
  refine SeqAt.eq_tupleAt (e:=λ_=>true) ht hu2 (by omega) (λj _ h2=>absurd h2 (Nat.not_lt_zero j)) ⟨.bl _,H,I,rfl,?_⟩
  have e2:((List.range (min its.toArray.size ([]:List Value).toArray.size)).all (λ_=>true)&&its.toArray.size == ([]:List Value).toArray.size)=l.isEmpty:=by
   simp only[List.size_toArray,List.length_nil,Nat.min_zero,List.range_zero,List.all_nil,Bool.true_and,e1]
   cases l <;> rfl
  rw[e2]
  exact q _ _ (a30.refl H) g70
theorem b02(hu:X.A.units + 64 < cLine):OpR X (compareOp .NotEq) (rD2 X.K λa b=>(eqO a b).map λc=>.d (.bl !c)):=by
 intro pins s σ H x y v u Q I rx ry h
 obtain⟨zA,z,dx,dy,w,st,hx,hy,e,q⟩:=h
 unfold eqO at e
 dsimp only at e
 split at e
 ·rename_i ok
  cases e
  rw[Bool.and_eq_true] at ok
  obtain⟨f1,s1⟩:=t10 ok.1
  obtain⟨f2,s2⟩:=t10 ok.2
  obtain⟨as,r1⟩:=n30 I (hx.same (a20 zA H)) rx f1
  obtain⟨bs,r2⟩:=n30 I (hy.same (a20 zA H)) ry f2
  exact ne_dataH r1 r2 s1 s2 hu ⟨.bl _,H,I,rfl,by rw[O10 dx dy f1 f2];exact q _ _ (a30.refl H) g70⟩
 ·cases e
theorem O21(hu:X.A.units + 64 < cLine):OpR X (compareOp .NotEq) (rD2 X.K λa b=>(neO a b).map λc=>.d (.bl c)):=by
 intro pins s σ H x y v u Q I rx ry h
 obtain⟨zA,z,dx,dy,w,st,hx,hy,e,q⟩:=h
 unfold neO at e
 dsimp only at e
 split at e
 ·cases e
  unfold Hd at hx
  obtain⟨a,kvs,rfl,h1⟩:=hx
  obtain⟨b,xs,rfl,h2,_⟩:=hy.A90
  exact M91 hu pins s σ H _ _ v u Q I rx ry ⟨a,b,kvs,xs,rfl,rfl,(r00 h1).1,(a20 zA H).sqT h2,q _ _ (a30.refl H) g70⟩
 ·refine b02 hu pins s σ H _ _ v u Q I rx ry ⟨zA,z,dx,dy,w,st,hx,hy,?_,q⟩
  rw[← e,Option.map_map]
  rfl
end
theorem n81{l:List D}(h:U51 l=true):f60 l=true∧i50 l≤39:=by
 unfold U51 at h
 rw[Bool.and_eq_true,decide_eq_true_eq] at h
 exact h
theorem I20{d:D}(h:okD d=true):deep d≤40:=by
 unfold okD at h
 rw[Bool.and_eq_true,decide_eq_true_eq] at h
 exact h.2
theorem U40(x:D)(fx:w50 x=true):∀ l:List D,f60 l=true→((L40 l).any λy=>PyData.eqv y (toP x))=memD x l
 |[],_=>rfl
 |y::r,h=>by
  simp only[f60,Bool.and_eq_true] at h
  show(PyData.eqv (toP y) (toP x) || (L40 r).any λy=>PyData.eqv y (toP x))=(eqD y x || memD x r)
  rw[O10 y x h.1 fx,U40 x fx r h.2]
section
variable {X:Cx}
theorem n91{x:D}{l:List D}{b:Bool}(h:U61 x l=some b):okD x=true∧U51 l=true∧b=memD x l:=by
 unfold U61 at h
 split at h
 ·rename_i ok
  rw[Bool.and_eq_true] at ok
  cases h
  exact⟨ok.1,ok.2,rfl⟩
 ·cases h
theorem room_in{A:Around}(hu:A.units + 64 < cLine){l:List D}{x:D}(h:okD x=true):A.units + 1 + min (PyData.depthAll (L40 l)) (toP x).depth < cLine:=by
 have h1:=I20 h
 have h2:min (PyData.depthAll (L40 l)) (toP x).depth≤(toP x).depth:=Nat.min_le_right _ _
 have h3:=I00 x
 omega
theorem O31(hu:X.A.units + 64 < cLine):OpR X (compareOp .In) (rD2 X.K λa b=>(y70 .mem a b).map λc=>.d (.bl c)):=by
 intro pins s σ H x y v u Q I rx ry h
 obtain⟨zA,z,dx,dy,w,st,hx,hy,e,q⟩:=h
 cases dy with
 |tup l =>
  obtain⟨b,e1,e2⟩:=Option.map_eq_some_iff.mp e
  subst e2
  obtain⟨o1,o2,rfl⟩:=n91 e1
  obtain⟨f2,_⟩:=n81 o2
  obtain⟨f1,_⟩:=t10 o1
  obtain⟨as,r1⟩:=n30 I (hx.same (a20 zA H)) rx f1
  obtain⟨bs,r2⟩:=n30 I (hy.same (a20 zA H)) ry (by simpa [w50] using f2)
  exact SeqAt.in_tuple_reads r2 r1 (B00 l f2) (E20 dx f1) (room_in hu o1) ⟨.bl _,H,I,rfl,by rw[U40 dx f1 l f2];exact q _ _ (a30.refl H) g70⟩
 |lst l =>
  obtain⟨b,e1,e2⟩:=Option.map_eq_some_iff.mp e
  subst e2
  obtain⟨o1,o2,rfl⟩:=n91 e1
  obtain⟨f2,_⟩:=n81 o2
  obtain⟨f1,_⟩:=t10 o1
  obtain⟨as,r1⟩:=n30 I (hx.same (a20 zA H)) rx f1
  obtain⟨bs,r2⟩:=n30 I (hy.same (a20 zA H)) ry (by simpa [w50] using f2)
  exact SeqAt.in_list_reads r2 r1 (B00 l f2) (E20 dx f1) (room_in hu o1) ⟨.bl _,H,I,rfl,by rw[U40 dx f1 l f2];exact q _ _ (a30.refl H) g70⟩
 |_=>cases e
end
end Q
namespace Q
open PySem L2 PySem.Spec PyProof.Rows
variable [TB:Tb]
noncomputable def p32(A:Around)(s:Shared)(v u:Value)(b:Bool):Prop:=∀ (P:Program) (w:World) (E:Value→Shared→Prop) (Q:Value→Shared→Prop),Q (.bool b) s→wpAny (model P w) A (richCompare .Lt v u) Q E s
section
open PySem.SeqAt
open PySem.AutoSeq1 (wpAny_loadPart')
open PySem.MeetsSeq PySem.MeetsSeq2 PySem.MeetsSeq3
inductive Lx (A:Around) (s:Shared):List Value→List Value→Bool→Prop
 |nn:Lx A s [] [] false
 |nc {u us}:Lx A s [] (u::us) true
 |cn {v vs}:Lx A s (v::vs) [] false
 |eq {v u vs us b}:EqAt A s v u true→Lx A s vs us b→Lx A s (v::vs) (u::us) b
 |ne {v u vs us b}:EqAt A s v u false→p32 A s v u b→Lx A s (v::vs) (u::us) b
theorem B20(l b:Addr)(items items2:Array Value)(n n2:Nat)(dd dd2:Option Addr)(sl sl2:Array (Option Value))(c:Bool) :
  Meets (Builtin.«tuple.__lt__» ⟨[.ref l,.ref b],[]⟩)
   (λA R s=>s.heap.get? l=some { cls:=.type "tuple",dict:=dd,data:=.seq items n,slots:=sl }∧s.heap.get? b=some { cls:=.type "tuple",dict:=dd2,data:=.seq items2 n2,slots:=sl2 } ∧
    Lx A.in1 s items.toList items2.toList c∧R (.ok (.ret (.bool c))) s) :=
 .of_wp λprog w A R s h=>by
  obtain⟨hp,g,d,tk,os⟩:=s;obtain⟨hl,hb,hx,h⟩:=h
  have f2:=AutoSeq1.sub_tuple_tuple
  wp_walk using wpAny_loadPart' hl,wpAny_loadPart' hb,wpAny_forIn_list _ (λrest b s'=>b.1=none∧s'=⟨hp,g,d,tk,os⟩∧∃ (vs ws:List Value),rest=vs.zip ws ∧
   vs.length + items2.size=ws.length + items.size∧Lx A.in1 ⟨hp,g,d,tk,os⟩ vs ws c) _
  case turn =>
   rintro ⟨y,x⟩ rest b s' ⟨hb',rfl,vs,ws,hz,hlen,hR⟩
   cases hR with
   |nn=>rw[List.zip_nil_left] at hz;cases hz
   |nc=>rw[List.zip_nil_left] at hz;cases hz
   |cn=>rw[List.zip_nil_right] at hz;cases hz
   |eq he hr =>
    rw[List.zip_cons_cons] at hz
    injection hz with hyx hrest
    injection hyx with hy hx'
    subst hy hx'
    simp only[List.length_cons] at hlen
    refine wpAny_bind (he prog w _ _ ?_)
    wp_walk
    exact⟨rfl,rfl,_,_,hrest,by omega,hr⟩
   |ne he hr =>
    rw[List.zip_cons_cons] at hz
    injection hz with hyx hrest
    injection hyx with hy hx'
    subst hy hx'
    refine wpAny_bind (he prog w _ _ ?_)
    have hri:=λE Q q=>hr prog w E Q q
    wp_walk using hri
    exact⟨_,rfl,by simpa using h⟩
  case fin =>
   rintro ⟨b1,b2⟩ s' ⟨hb',rfl,vs,ws,hz,hlen,hR⟩
   simp only at hb'
   subst hb'
   have hv:c=decide (items.size < items2.size):=by
    cases hR with
    |nn=>simp only[List.length_nil] at hlen;exact(decide_eq_false (by omega)).symm
    |nc=>simp only[List.length_nil,List.length_cons] at hlen;exact(decide_eq_true (by omega)).symm
    |cn=>simp only[List.length_nil,List.length_cons] at hlen;exact(decide_eq_false (by omega)).symm
    |eq he hr=>rw[List.zip_cons_cons] at hz;cases hz
    |ne he hr=>rw[List.zip_cons_cons] at hz;cases hz
   rw[hv] at h
   wp_walk
   exact⟨_,rfl,by simpa [Builtin.Tuple.tupleCompareSizes] using h⟩
  case h =>
   exact⟨rfl,rfl,items.toList,items2.toList,rfl,by simp;omega,hx⟩
end
theorem o01{A:Around}{s:Shared}{l b:Addr}{i1 i2:Array Value}{c:Bool}(hl:IsTup s.heap l i1)(hb:IsTup s.heap b i2)(hu:A.units < cLine)(hx:Lx A.in1 s i1.toList i2.toList c):p32 A s (.ref l) (.ref b) c:=by
 intro P w E Q h
 obtain⟨⟨cls,dd,data,sl⟩,ho,hc,n,hd⟩:=id hl;obtain⟨⟨cls2,dd2,data2,sl2⟩,ho2,hc2,n2,hd2⟩:=id hb
 simp only at hc hd hc2 hd2;subst hc hd hc2 hd2
 exact richCompare_meets_room (op:=.Lt) ⟨_,ho,rfl⟩ ⟨_,ho2,rfl⟩ PySem.F.slot_tuple_lt PySem.F.entry_tuple_lt (PySem.F.args_tuple_lt_2 _ _) (B20 l b i1 i2 n n2 dd dd2 sl sl2 c)
  ⟨ho,ho2,hx,show Value.bool c≠Value.notImplemented∧Q (.bool c) s from⟨(λx=>nomatch x),h⟩⟩ hu
theorem b12{A:Around}{s:Shared}{v u:Value}{a b:D}(ha:g61 s.heap v a)(hb:g61 s.heap u b)(hu:A.units + deep a < cLine):SeqAt.EqAt A s v u (eqD a b):=by
 obtain⟨f1,as,r1⟩:=ha
 obtain⟨f2,bs,r2⟩:=hb
 rw[← O10 a b f1 f2]
 have h:=I00 a
 have h2:min (toP a).depth (toP b).depth≤(toP a).depth:=Nat.min_le_left _ _
 exact SeqAt.eqAt_reads (toP a) (toP b) A s v u as bs r1 r2 (E20 a f1) (E20 b f2) (by omega)
theorem d80.b50{h:Heap}{us:List Value}{d:D}{ds:List D}(x:d80 h us (d::ds)):∃ u r,us=u::r∧g61 h u d∧d80 h r ds:=by
 obtain⟨f,as,r⟩:=x
 simp only[f60,Bool.and_eq_true] at f
 cases r with
 |cons r1 r2=>exact⟨_,_,rfl,⟨f.1,_,r1⟩,f.2,_,r2⟩
theorem d80.e70{h:Heap}{us:List Value}(x:d80 h us []):us=[]:=by
 obtain⟨_,as,r⟩:=x
 cases r;rfl
theorem in1_units(A:Around):A.in1.units=A.units + 1:=rfl
theorem O41:∀ (n:Nat) {A:Around}{s:Shared},
  (∀ (a b:D) (v u:Value) (c:Bool),deep a≤n→g61 s.heap v a→g61 s.heap u b→ltD a b=some c→A.units + n < cLine→p32 A s v u c) ∧
  (∀ (a b:List D) (vs us:List Value) (c:Bool),i50 a < n→d80 s.heap vs a→d80 s.heap us b→B11 a b=some c→A.units + n < cLine→Lx A.in1 s vs us c):=by
 intro n
 induction n with
 |zero =>
  intro A s
  refine⟨λa b v u c hd ha hb e hu=>?_,λa b vs us c hd=>absurd hd (Nat.not_lt_zero _)⟩
  cases a with
  |int i =>
   cases b with
   |int j =>
    cases e
    obtain⟨_,_,r1⟩:=ha
    obtain⟨_,_,r2⟩:=hb
    cases r1;cases r2
    exact λP w E Q h=>HT.Z20 A s i _ j _ P w E Q h
   |_=>cases e
  |tup l=>simp[deep] at hd
  |_=>cases e
 |succ n ih =>
  have rows:∀ {A:Around}{s:Shared} (a b:List D) (vs us:List Value) (c:Bool),i50 a < n + 1→d80 s.heap vs a→d80 s.heap us b→B11 a b=some c→A.units + (n + 1) < cLine→Lx A.in1 s vs us c:=by
   intro A s a
   induction a with
   |nil =>
    intro b vs us c _ ha hb e hu
    cases ha.e70
    cases b with
    |nil=>cases hb.e70;cases e;exact .nn
    |cons y q=>obtain⟨u,r,rfl,_⟩:=hb.b50;cases e;exact .nc
   |cons x r ihr =>
    intro b vs us c hd ha hb e hu
    obtain⟨v,vs',rfl,a1,a2⟩:=ha.b50
    cases b with
    |nil=>cases hb.e70;cases e;exact .cn
    |cons y q =>
     obtain⟨u,us',rfl,b1,b2⟩:=hb.b50
     simp only[i50] at hd
     have d1:deep x≤n:=Nat.le_of_lt_succ (Nat.lt_of_le_of_lt (Nat.le_max_left _ _) hd)
     have d2:i50 r < n + 1:=Nat.lt_of_le_of_lt (Nat.le_max_right _ _) hd
     have hu1:A.in1.units + n < cLine:=by rw[in1_units];omega
     have he:=b12 (A:=A.in1) a1 b1 (by omega)
     simp only[B11] at e
     cases hq:eqD x y with
     |true =>
      rw[hq] at he e
      exact .eq he (ihr q vs' us' c d2 a2 b2 (by simpa using e) hu)
     |false =>
      rw[hq] at he e
      exact .ne he ((ih (A:=A.in1) (s:=s)).1 x y v u c d1 a1 b1 (by simpa using e) hu1)
  intro A s
  refine⟨λa b v u c hd ha hb e hu=>?_,rows⟩
  cases a with
  |int i =>
   cases b with
   |int j =>
    cases e
    obtain⟨_,_,r1⟩:=ha
    obtain⟨_,_,r2⟩:=hb
    cases r1;cases r2
    exact λP w E Q h=>HT.Z20 A s i _ j _ P w E Q h
   |_=>cases e
  |tup l =>
   cases b with
   |tup q =>
    obtain⟨f1,as,r1⟩:=ha
    obtain⟨f2,bs,r2⟩:=hb
    simp only[deep] at hd
    cases r1 with
    |tuple k1 k2 k3 k4 =>
     cases r2 with
     |tuple m1 m2 m3 m4 =>
      exact o01 ⟨_,k1,k2,_,k3⟩ ⟨_,m1,m2,_,m3⟩ (by omega) (rows l q _ _ c (by omega) ⟨by simpa [w50] using f1,_,k4⟩ ⟨by simpa [w50] using f2,_,m4⟩ e hu)
   |_=>cases e
  |_=>cases e
section
variable {X:Cx}
theorem b22{a b:D}{c:Bool}(h:ltO a b=some c):okD a=true∧okD b=true∧ltD a b=some c:=by
 unfold ltO at h
 split at h
 ·rename_i ok
  rw[Bool.and_eq_true] at ok
  exact⟨ok.1,ok.2,h⟩
 ·cases h
theorem b32(hu:X.A.units + 64 < cLine):OpR X (compareOp .Lt) (rD2 X.K λa b=>(y70 .lt a b).map λc=>.d (.bl c)):=by
 intro pins s σ H x y v u Q I rx ry h
 obtain⟨zA,z,dx,dy,w,st,hx,hy,e,q⟩:=h
 obtain⟨b,e1,e2⟩:=Option.map_eq_some_iff.mp e
 subst e2
 obtain⟨o1,o2,e3⟩:=b22 (show ltO dx dy=some b from e1)
 obtain⟨f1,_⟩:=t10 o1
 obtain⟨f2,_⟩:=t10 o2
 obtain⟨as,r1⟩:=n30 I (hx.same (a20 zA H)) rx f1
 obtain⟨bs,r2⟩:=n30 I (hy.same (a20 zA H)) ry f2
 exact(O41 40 (A:=X.A) (s:=s)).1 dx dy v u b (I20 o1) ⟨f1,as,r1⟩ ⟨f2,bs,r2⟩ e3 (by omega) _ _ _ _ ⟨.bl b,H,I,rfl,q _ _ (a30.refl H) g70⟩
theorem U50{K:PySem.W.Frag}{H:Hp}:∀ {l:List D}{ns:List Int}{vs:List V},T80 l=some ns→HdA K H l vs→vs=ns.map V.int∧l=ns.map D.int
 |[],_,_,e,h=>by cases e;rw[h.e70];exact⟨rfl,rfl⟩
 |.int i::r,_,_,e,h=>by
  obtain⟨ms,e1,rfl⟩:=Option.map_eq_some_iff.mp e
  obtain⟨x,xs,rfl,h1,h2⟩:=h.b50
  cases h1.h60
  obtain⟨rfl,rfl⟩:=U50 e1 h2
  exact⟨rfl,rfl⟩
 |.non::_,_,_,e,_=>by cases e
 |.bl _::_,_,_,e,_=>by cases e
 |.str _::_,_,_,e,_=>by cases e
 |.tup _::_,_,_,e,_=>by cases e
 |.lst _::_,_,_,e,_=>by cases e
 |.dct::_,_,_,e,_=>by cases e
theorem b42(hu:X.A.units + 64 < cLine):OpR X (compareOp .LtE) (rD2 X.K λa b=>(y70 .le a b).map λc=>.d (.bl c)):=by
 intro pins s σ H x y v u Q I rx ry h
 obtain⟨zA,z,dx,dy,w,st,hx,hy,e,q⟩:=h
 cases dx with
 |int i =>
  cases dy with
  |int j =>
   cases e;cases hx.h60;cases hy.h60
   exact n12 pins s σ H _ _ v u Q I rx ry ⟨i,j,rfl,rfl,q _ _ (a30.refl H) g70⟩
  |_=>cases e
 |tup a =>
  cases dy with
  |tup b =>
   obtain⟨c,e1,e2⟩:=Option.map_eq_some_iff.mp e
   subst e2
   obtain⟨ns,n1,e1⟩:=Option.bind_eq_some_iff.mp (show(T80 a).bind _=_ from e1)
   obtain⟨ms,n2,rfl⟩:=Option.map_eq_some_iff.mp e1
   obtain⟨p,xs,rfl,h1,h2⟩:=hx.A90
   obtain⟨p',ys,rfl,h3,h4⟩:=hy.A90
   obtain⟨rfl,_⟩:=U50 n1 h2
   obtain⟨rfl,_⟩:=U50 n2 h4
   exact Z91 (by omega) pins s σ H _ _ v u Q I rx ry ⟨p,p',ns,ms,rfl,rfl,(a20 zA H).sqT h1,(a20 zA H).sqT h3,q _ _ (a30.refl H) g70⟩
  |_=>cases e
 |_=>cases e
theorem b52:OpR X (compareOp .Gt) (rD2 X.K λa b=>(y70 .gt a b).map λc=>.d (.bl c)):=by
 intro pins s σ H x y v u Q I rx ry h
 obtain⟨zA,z,dx,dy,w,st,hx,hy,e,q⟩:=h
 cases dx with
 |int i =>
  cases dy with
  |int j =>
   cases e;cases hx.h60;cases hy.h60
   exact n22 pins s σ H _ _ v u Q I rx ry ⟨i,j,rfl,rfl,q _ _ (a30.refl H) g70⟩
  |_=>cases e
 |_=>cases e
theorem b62:OpR X (compareOp .GtE) (rD2 X.K λa b=>(y70 .ge a b).map λc=>.d (.bl c)):=by
 intro pins s σ H x y v u Q I rx ry h
 obtain⟨zA,z,dx,dy,w,st,hx,hy,e,q⟩:=h
 cases dx with
 |int i =>
  cases dy with
  |int j =>
   cases e;cases hx.h60;cases hy.h60
   exact n32 pins s σ H _ _ v u Q I rx ry ⟨i,j,rfl,rfl,q _ _ (a30.refl H) g70⟩
  |_=>cases e
 |_=>cases e
theorem a31{K:PySem.W.Frag}{H:Hp}{d:D}{v:V}(h:Hd K H d v):decide (v=.non)=E10 d:=by
 cases d with
 |non=>cases h.a72;rfl
 |bl b=>cases h.bl_;rfl
 |int i=>cases h.h60;rfl
 |str x=>cases h.p02;rfl
 |tup l=>obtain⟨a,xs,rfl,_⟩:=h.A90;rfl
 |lst l=>obtain⟨a,xs,rfl,_⟩:=h.a11;rfl
 |dct=>unfold Hd at h;obtain⟨a,kvs,rfl,_⟩:=h;rfl
theorem b72:OpR X (compareOp .Is) (rD2 X.K λa b=>(y70 .is a b).map λc=>.d (.bl c)):=by
 intro pins s σ H x y v u Q I rx ry h
 obtain⟨zA,z,dx,dy,w,st,hx,hy,e,q⟩:=h
 cases dy with
 |bl b =>
  cases dx with
  |bl a =>
   cases e;cases hx.bl_;cases hy.bl_
   exact a02 pins s σ H _ _ v u Q I rx ry ⟨a,b,rfl,rfl,q _ _ (a30.refl H) g70⟩
  |_=>cases e
 |non =>
  have e':some (S.d (.bl (E10 dx)))=some w:=by cases dx <;> exact e
  cases e'
  cases hy.a72
  refine Y21 pins s σ H _ _ v u Q I rx ry ⟨rfl,?_⟩
  rw[a31 hx]
  exact q _ _ (a30.refl H) g70
 |_=>cases dx <;> cases e
theorem B71:OpR X (compareOp .IsNot) (rD2 X.K λa b=>(y70 .isnt a b).map λc=>.d (.bl c)):=by
 intro pins s σ H x y v u Q I rx ry h
 obtain⟨zA,z,dx,dy,w,st,hx,hy,e,q⟩:=h
 cases dy with
 |bl b =>
  cases dx with
  |bl a =>
   cases e;cases hx.bl_;cases hy.bl_
   exact m01 pins s σ H _ _ v u Q I rx ry ⟨a,b,rfl,rfl,q _ _ (a30.refl H) g70⟩
  |_=>cases e
 |non =>
  have e':some (S.d (.bl (!E10 dx)))=some w:=by cases dx <;> exact e
  cases e'
  cases hy.a72
  refine J61 pins s σ H _ _ v u Q I rx ry ⟨rfl,?_⟩
  rw[a31 hx]
  exact q _ _ (a30.refl H) g70
 |_=>cases dx <;> cases e
noncomputable def opC:Cm→CmpOp
 |.eq=>.Eq | .ne=>.NotEq | .lt=>.Lt | .le=>.LtE | .gt=>.Gt | .ge=>.GtE | .is=>.Is | .isnt=>.IsNot | .mem=>.In
theorem U81(hu:X.A.units + 64 < cLine)(o:Cm):OpR X (compareOp (opC o)) (rD2 X.K λa b=>(y70 o a b).map λc=>.d (.bl c)):=by
 cases o
 ·exact a92 hu
 ·exact O21 hu
 ·exact b32 hu
 ·exact b42 hu
 ·exact b52
 ·exact b62
 ·exact b72
 ·exact B71
 ·exact O31 hu
end
end Q
namespace Q
open PySem L2 PySem.Spec PyProof.Rows
variable [TB:Tb]
section
variable {X:Cx}
theorem HdA.one{K:PySem.W.Frag}{H:Hp}{d:D}{xs:List V}(h:HdA K H [d] xs):∃ x,xs=[x]∧Hd K H d x:=by
 obtain⟨x,r,rfl,h1,h2⟩:=h.b50
 rw[h2.e70]
 exact⟨x,rfl,h1⟩
theorem HdA.two{K:PySem.W.Frag}{H:Hp}{d e:D}{xs:List V}(h:HdA K H [d,e] xs):∃ x y,xs=[x,y]∧Hd K H d x∧Hd K H e y:=by
 obtain⟨x,r,rfl,h1,h2⟩:=h.b50
 obtain⟨y,rfl,h3⟩:=h2.one
 exact⟨x,y,rfl,h1,h3⟩
theorem a41{K:PySem.W.Frag}{zA:Option Addr}{H:Hp}{d:D}{l:List D}{v:V}(h:Hd K (hz zA H) d v)(e:Z90 d=some l):∃ a xs,v=.ref a∧(SqL K H a xs∨SqT K H a xs)∧HdA K (hz zA H) l xs:=by
 cases d with
 |tup m =>
  cases e
  obtain⟨a,xs,rfl,h1,h2⟩:=h.A90
  exact⟨a,xs,rfl,.inr ((a20 zA H).sqT h1),h2⟩
 |lst m =>
  cases e
  obtain⟨a,xs,rfl,h1,h2⟩:=h.a11
  exact⟨a,xs,rfl,.inl (h1.same (a20 zA H)).sq,h2⟩
 |_=>cases e
theorem b82:f30 X (.builtin "len") (rDn X.K (bfD .len)):=by
 intro pins s σ H xs us Q I r h
 obtain⟨zA,z,ds,w,st,hx,e,q⟩:=h
 match ds,e with
 |[d],e =>
  obtain⟨l,e1,rfl⟩:=Option.map_eq_some_iff.mp (show(Z90 d).map _=some w from e)
  obtain⟨x,rfl,h1⟩:=hx.one
  obtain⟨a,ys,rfl,h2,h3⟩:=a41 h1 e1
  exact M60 pins s σ H _ us Q I r ⟨a,ys,rfl,h2,by rw[h3.length];exact q _ _ (a30.refl H) g30⟩
theorem B81:f30 X (.type "tuple") (rDn X.K (bfD .tuple)):=by
 intro pins s σ H xs us Q I r h
 obtain⟨zA,z,ds,w,st,hx,e,q⟩:=h
 match ds,e with
 |[d],e =>
  obtain⟨l,e1,rfl⟩:=Option.map_eq_some_iff.mp (show(Z90 d).map _=some w from e)
  obtain⟨x,rfl,h1⟩:=hx.one
  obtain⟨a,ys,rfl,h2,h3⟩:=a41 h1 e1
  refine G20 pins s σ H _ us Q I r ⟨a,ys,rfl,?_⟩
  rcases h2 with h2 | h2
  ·refine .inl ⟨h2,λp hp=>q _ _ (a30.new _ hp) (x01 (Hd.tup ((st.same (a30.new _ hp)).N41 (SqT.of c30)) (h3.same (i70 (a30.new _ hp)))))⟩
  ·exact .inr ⟨h2,q _ _ (a30.refl H) (x01 (Hd.tup (st.N41 h2) h3))⟩
theorem O51:f30 X (.type "list") (rDn X.K (bfD .list)):=by
 intro pins s σ H xs us Q I r h
 obtain⟨zA,z,ds,w,st,hx,e,q⟩:=h
 match ds,e with
 |[d],e =>
  obtain⟨l,e1,rfl⟩:=Option.map_eq_some_iff.mp (show(Z90 d).map _=some w from e)
  obtain⟨x,rfl,h1⟩:=hx.one
  obtain⟨a,ys,rfl,h2,h3⟩:=a41 h1 e1
  exact M70 pins s σ H _ us Q I r ⟨a,ys,rfl,h2,λp hp=>q _ _ (a30.new _ hp) (t00 st h3 hp)⟩
theorem G41{K:PySem.W.Frag}{H:Hp}:∀ {l:List D}{bs:List Bool}{vs:List V},l.mapM asB=some bs→HdA K H l vs→vs=bs.map V.bl
 |[],_,_,e,h=>by simp at e;subst e;rw[h.e70];rfl
 |x::r,_,_,e,h=>by
  simp only[List.mapM_cons,bind,Option.bind_eq_some_iff] at e
  obtain⟨b,e1,bs,e2,e3⟩:=e
  cases e3
  obtain⟨y,ys,rfl,h1,h2⟩:=h.b50
  cases x with
  |bl c=>cases e1;cases h1.bl_;rw[G41 e2 h2];rfl
  |_=>cases e1
theorem b92(hc:X.calm=true):f30 X (.builtin "all") (rDn X.K (bfD .all)):=by
 intro pins s σ H xs us Q I r h
 obtain⟨zA,z,ds,w,st,hx,e,q⟩:=h
 match ds,e with
 |[.lst l],e =>
  obtain⟨bs,e1,rfl⟩:=Option.map_eq_some_iff.mp (show(l.mapM asB).map _=some w from e)
  obtain⟨x,rfl,h1⟩:=hx.one
  obtain⟨a,ys,rfl,h2,h3⟩:=h1.a11
  rw[G41 e1 h3] at h2
  exact z41 hc pins s σ H _ us Q I r ⟨a,bs,rfl,(h2.same (a20 zA H)).sq,q _ _ (a30.refl H) g70⟩
theorem a51:∀ {ns:List Int}{vs:List Value},Vals (ns.map V.int) vs→∃ xs:List (Int × Tok),vs=xs.map (λp=>.int p.1 p.2)∧xs.map (·.1)=ns
 |[],_,h=>by cases h;exact⟨[],rfl,rfl⟩
 |n::r,_,h=>by
  cases h with
  |cons h1 h2 =>
   obtain⟨t,rfl⟩:=h1
   obtain⟨xs,rfl,e⟩:=a51 h2
   exact⟨(n,t)::xs,rfl,by rw[List.map_cons,e]⟩
theorem B91(hc:X.calm=true):f30 X (.builtin "sum") (λxs H Q=>∃ (a:Addr) (ns:List Int),xs=[.ref a]∧(SqL X.K H a (ns.map V.int)∨SqT X.K H a (ns.map V.int))∧Q (.int ns.sum) H):=by
 intro pins s σ H xs us Q I r h
 obtain⟨a,ns,rfl,hq,q⟩:=h
 obtain⟨u,rfl,rx⟩:=vals1 r
 cases rx
 have fin:∀ {its:List Value},Vals (ns.map V.int) its→∃ xs:Array (Int × Tok),its.toArray=intItems xs∧preSum (numAt xs) xs.size=ns.sum:=λ{its} rv=>by
  obtain⟨xs,rfl,e⟩:=a51 rv
  exact⟨xs.toArray,by simp[intItems],by rw[preSum_eq,List.take_of_length_le (by simp)];simp[e]⟩
 rcases hq with hq | hq
 ·obtain⟨its,rv,p,_⟩:=I.list hq
  obtain⟨xs,e1,e2⟩:=fin rv
  exact sum_intListG (I.ok.hd hc) (e1 ▸ p.isList) λh' tk t' k=>⟨.int ns.sum,H,I.kept k,by rw[e2];exact⟨_,rfl⟩,q⟩
 ·obtain⟨its,rv,p,_⟩:=I.tuple hq
  obtain⟨xs,e1,e2⟩:=fin rv
  exact W.ktm_sumG (I.ok.hd hc) (e1 ▸ p) λh' tk t' k=>⟨.int ns.sum,H,I.kept k,by rw[e2];exact⟨_,rfl⟩,q⟩
theorem G51{K:PySem.W.Frag}{H:Hp}:∀ {l:List D}{i:Int}{vs:List V},B41 l=some i→HdA K H l vs→∃ ns:List Int,vs=ns.map V.int∧ns.sum=i
 |[],_,_,e,h=>by cases e;rw[h.e70];exact⟨[],rfl,rfl⟩
 |.int j::r,_,_,e,h=>by
  obtain⟨k,e1,rfl⟩:=Option.map_eq_some_iff.mp (show(B41 r).map _=_ from e)
  obtain⟨v,q,rfl,h1,h2⟩:=h.b50
  obtain⟨ns,rfl,e2⟩:=G51 e1 h2
  cases h1.h60
  exact⟨j::ns,rfl,by rw[List.sum_cons,e2]⟩
theorem c02(hc:X.calm=true):f30 X (.builtin "sum") (rDn X.K (bfD .sum)):=by
 intro pins s σ H xs us Q I r h
 obtain⟨zA,z,ds,w,st,hx,e,q⟩:=h
 match ds,e with
 |[d],e =>
  obtain⟨i,e1,rfl⟩:=Option.map_eq_some_iff.mp (show((Z90 d).bind B41).map _=some w from e)
  obtain⟨l,e2,e3⟩:=Option.bind_eq_some_iff.mp e1
  obtain⟨x,rfl,h1⟩:=hx.one
  obtain⟨a,ys,rfl,h2,h3⟩:=a41 h1 e2
  obtain⟨ns,rfl,rfl⟩:=G51 e3 h3
  exact B91 hc pins s σ H _ us Q I r ⟨a,ns,rfl,h2,q _ _ (a30.refl H) (show Hd X.K (hz zA H) _ _ from Hd.int)⟩
theorem c12(hc:X.calm=true):f30 X (.builtin "min") (rDn X.K (bfD .min)):=by
 intro pins s σ H xs us Q I r h
 obtain⟨zA,z,ds,w,st,hx,e,q⟩:=h
 match ds,e with
 |[.int i,.int j],e =>
  cases e
  obtain⟨x,y,rfl,h1,h2⟩:=hx.two
  cases h1.h60;cases h2.h60
  exact j51 hc pins s σ H _ us Q I r ⟨i,j,rfl,q _ _ (a30.refl H) g30⟩
theorem c22(hc:X.calm=true):f30 X (.builtin "max") (rDn X.K (bfD .max)):=by
 intro pins s σ H xs us Q I r h
 obtain⟨zA,z,ds,w,st,hx,e,q⟩:=h
 match ds,e with
 |[.int i,.int j],e =>
  cases e
  obtain⟨x,y,rfl,h1,h2⟩:=hx.two
  cases h1.h60;cases h2.h60
  exact j41 hc pins s σ H _ us Q I r ⟨i,j,rfl,q _ _ (a30.refl H) g30⟩
theorem c32:f30 X (.builtin "abs") (rDn X.K (bfD .abs)):=by
 intro pins s σ H xs us Q I r h
 obtain⟨zA,z,ds,w,st,hx,e,q⟩:=h
 match ds,e with
 |[.int i],e =>
  cases e
  obtain⟨x,rfl,h1⟩:=hx.one
  cases h1.h60
  exact y01 pins s σ H _ us Q I r ⟨i,rfl,q _ _ (a30.refl H) g30⟩
theorem c42:f30 X (.type "int") (rDn X.K (bfD .int)):=by
 intro pins s σ H xs us Q I r h
 obtain⟨zA,z,ds,w,st,hx,e,q⟩:=h
 match ds,e with
 |[.int i],e =>
  cases e
  obtain⟨x,rfl,h1⟩:=hx.one
  cases h1.h60
  exact L90 pins s σ H _ us Q I r (.inl ⟨i,rfl,q _ _ (a30.refl H) g30⟩)
 |[.bl b],e =>
  cases e
  obtain⟨x,rfl,h1⟩:=hx.one
  cases h1.bl_
  exact L90 pins s σ H _ us Q I r (.inr ⟨b,rfl,q _ _ (a30.refl H) g30⟩)
noncomputable def tyN:Ty→String
 |.int=>"int" | .bool=>"bool" | .tuple=>"tuple" | .list=>"list" | .str=>"str" | .seq=>""
theorem O61(t:Ty)(d:D)(h:t≠.seq):isB d.ty (tyN t)=k32 t d:=by
 cases t <;> cases d <;> first | rfl | (exact absurd rfl h) | decide
theorem C01(d:D):(isB d.ty "tuple" || isB d.ty "list")=k32 .seq d:=by cases d <;> rfl
theorem at_of{K:PySem.W.Frag}{H:Hp}{l:List D}{xs:List V}{i:Int}{d:D}(h:HdA K H l xs)(e:atI l i=some d):∃ v,atI xs i=some v∧Hd K H d v:=by
 unfold atI at e ⊢
 obtain⟨j,e1,e2⟩:=Option.bind_eq_some_iff.mp e
 rw[h.length,e1]
 exact h.get e2
theorem ixD:IxR X (rD2 X.K λa b=>(L30 a b).map S.d):=by
 intro value slice pins s σ H x y v u Q I rx ry h hs
 obtain⟨zA,z,dx,dy,w,st,hx,hy,e,q⟩:=h
 obtain⟨r,e1,rfl⟩:=Option.map_eq_some_iff.mp e
 cases dx with
 |tup l =>
  cases dy with
  |int i =>
   cases hy.h60
   obtain⟨a,xs,rfl,h1,h2⟩:=hx.A90
   obtain⟨v',e2,h3⟩:=at_of h2 e1
   exact Y91 value slice pins s σ H _ _ v u Q I rx ry ⟨a,xs,i,v',rfl,rfl,(a20 zA H).sqT h1,e2,q _ _ (a30.refl H) (x01 h3)⟩ hs
  |_=>cases e1
 |lst l =>
  cases dy with
  |int i =>
   cases hy.h60
   obtain⟨a,xs,rfl,h1,h2⟩:=hx.a11
   obtain⟨v',e2,h3⟩:=at_of h2 e1
   exact k31 value slice pins s σ H _ _ v u Q I rx ry ⟨a,xs,i,v',rfl,rfl,(h1.same (a20 zA H)).sq,e2,q _ _ (a30.refl H) (x01 h3)⟩ hs
  |_=>cases e1
 |_=>cases e1
theorem G61{K:PySem.W.Frag}{H:Hp}{l:List D}{xs:List V}(h:HdA K H l xs)(lo hi:Option Int):HdA K H (cutD l lo hi) (y41 xs lo hi):=by
 unfold cutD y41
 rw[h.length]
 exact(h.drop _).take _
noncomputable def C52(K:PySem.W.Frag):V→Option Int→Option Int→Hp→VK→Prop:=λx lo hi H Q=>∃ zA z dx s,d60 zA z H∧Hd K (hz zA H) dx x∧slD dx lo hi=some s∧∀ v H',a30 H H'→RvS K zA H H' s v→Q v H'
theorem C62:SlR X (C52 X.K):=by
 intro pins s σ H x v vl vu lo hi sl Q I rx hs pl pu h
 obtain⟨zA,z,dx,w,st,hx,e,q⟩:=h
 cases dx with
 |tup l =>
  cases e
  obtain⟨a,xs,rfl,h1,h2⟩:=hx.A90
  exact M51 pins s σ H _ v vl vu lo hi sl Q I rx hs pl pu ⟨a,xs,rfl,(a20 zA H).sqT h1,tupQ st (G61 h2 lo hi) q⟩
 |lst l =>
  cases e
  obtain⟨a,xs,rfl,h1,h2⟩:=hx.a11
  exact K41 pins s σ H _ v vl vu lo hi sl Q I rx hs pl pu ⟨a,xs,rfl,(h1.same (a20 zA H)).sq,λp hp=>q _ _ (a30.new _ hp) (t00 st (G61 h2 lo hi) hp)⟩
 |_=>cases e
end
end Q
namespace Q
open PySem L2 PySem.Spec PyProof.Rows
open PySem.W (KatLex KatTups kat_nil kat_cons kat_go kat_yes kat_no kat_one kat_lt kat_kind kas_kind kat_lt_int)
theorem B30(k:D):∀ l,(B21 k l).Perm (k::l)
 |[]=>.refl _
 |y::r=>by
  unfold B21
  split
  ·exact((B30 k r).cons y).trans (.swap _ _ _)
  ·exact .refl _
theorem u80:∀ l,(H80 l).Perm l
 |[]=>.refl _
 |k::r=>(B30 k _).trans ((u80 r).cons k)
theorem o21(k:D):∀ l,l.Pairwise (λx y=>MySort.i40 (flt y) (flt x)=false)→(B21 k l).Pairwise (λx y=>MySort.i40 (flt y) (flt x)=false)
 |[],_=>List.pairwise_singleton _ _
 |y::r,h=>by
  obtain⟨h1,h2⟩:=List.pairwise_cons.mp h
  unfold B21
  split
  ·rename_i hy
   refine List.pairwise_cons.mpr ⟨λz hz=>?_,o21 k r h2⟩
   rcases List.mem_cons.mp ((B30 k r).mem_iff.mp hz) with rfl | hz
   ·cases q:MySort.i40 (flt z) (flt y) with
    |false=>rfl
    |true=>have:=MySort.p10 _ _ _ hy q;rw[MySort.q60] at this;cases this
   ·exact h1 z hz
  ·rename_i hy
   refine List.pairwise_cons.mpr ⟨λz hz=>?_,h⟩
   rcases List.mem_cons.mp hz with rfl | hz
   ·simpa using hy
   ·cases q:MySort.i40 (flt z) (flt k) with
    |false=>rfl
    |true =>
     rcases MySort.Z50 _ (flt y) _ q with q | q
     ·rw[h1 z hz] at q;cases q
     ·exact absurd q hy
theorem a61:∀ l,(H80 l).Pairwise (λx y=>MySort.i40 (flt y) (flt x)=false)
 |[]=>.nil
 |k::r=>o21 k _ (a61 r)
mutual
theorem G71:∀ x y:D,eqT x y=true→x=y
 |.int i,y,h=>by
  cases y with
  |int j=>rw[eq_of_beq (show(i == j)=true from h)]
  |_=>cases h
 |.tup a,y,h=>by
  cases y with
  |tup b=>rw[U60 a b h]
  |_=>cases h
 |.non,y,h=>by cases y <;> cases h
 |.bl _,y,h=>by cases y <;> cases h
 |.str _,y,h=>by cases y <;> cases h
 |.lst _,y,h=>by cases y <;> cases h
 |.dct,y,h=>by cases y <;> cases h
theorem U60:∀ x y:List D,S10 x y=true→x=y
 |[],[],_=>rfl
 |[],_::_,h=>by cases h
 |_::_,[],h=>by cases h
 |x::r,y::q,h=>by
  have h:(eqT x y&&S10 r q)=true:=h
  rw[Bool.and_eq_true] at h
  rw[G71 x y h.1,U60 r q h.2]
end
variable [TB:Tb]
theorem O71{l:List D}{p:List Nat}(ok:∀ x∈l,∀ y∈l,flt x=flt y→x=y)(h:MySort.sortedBy (l.map flt) p):(p.map λi=>l.getD i .non)=H80 l:=by
 have h1:=h.1.map λi=>l.getD i .non
 rw[List.length_map,MySort.range_getD] at h1
 have e:((p.map λi=>l.getD i .non).map flt)=p.map λi=>(l.map flt).getD i []:=by
  rw[List.map_map]
  refine List.map_congr_left λi hi=>?_
  have:i < l.length:=by have:=h.1.mem_iff.mp hi;simpa using this
  simp[this]
 have h2:(p.map λi=>l.getD i .non).Pairwise λx y=>MySort.i40 (flt y) (flt x)=false:=by
  have:=h.2
  rw[← e,List.pairwise_map] at this
  exact this
 refine List.Perm.eq_of_pairwise (le:=λx y=>MySort.i40 (flt y) (flt x)=false) (λa b ha hb p q=>?_) h2 (a61 l) (h1.trans (u80 l).symm)
 exact ok a (h1.mem_iff.mp ha) b ((u80 l).mem_iff.mp hb) (MySort.p20 _ _ q p)
mutual
theorem C11{h h':Heap}(kp:MySort.l71 h h'):∀ (d:D) {u:Value}{as:List Addr},eqT d d=true→Reads h u (toP d) as→Reads h' u (toP d) as
 |.int i,_,_,_,r=>by cases r;exact .int _ _
 |.tup l,_,_,e,r=>by
  cases r with
  |tuple k1 k2 k3 k4=>exact .tuple (kp _ _ k1 k2) k2 k3 (n40 kp l e k4)
 |.non,_,_,e,_=>by cases e
 |.bl _,_,_,e,_=>by cases e
 |.str _,_,_,e,_=>by cases e
 |.lst _,_,_,e,_=>by cases e
 |.dct,_,_,e,_=>by cases e
theorem n40{h h':Heap}(kp:MySort.l71 h h'):∀ (l:List D) {us:List Value}{as:List Addr},S10 l l=true→ReadsAll h us (L40 l) as→ReadsAll h' us (L40 l) as
 |[],_,_,_,r=>by cases r;exact .nil
 |x::q,_,_,e,r=>by
  have e:(eqT x x&&S10 q q)=true:=e
  rw[Bool.and_eq_true] at e
  cases r with
  |cons r1 r2=>exact .cons (C11 kp x e.1 r1) (n40 kp q e.2 r2)
end
theorem d80.get{h:Heap}:∀ {us:List Value}{l:List D}{i:Nat}{d:D},d80 h us l→l[i]?=some d→g61 h (us.getD i Value.none) d
 |_,[],i,d,_,e=>by cases e
 |us,x::r,i,d,hd,e=>by
  obtain⟨u,q,rfl,h1,h2⟩:=hd.b50
  cases i with
  |zero=>cases e;simpa using h1
  |succ i=>simpa using d80.get h2 (by simpa using e)
theorem d80.len{h:Heap}:∀ {us:List Value}{l:List D},d80 h us l→us.length=l.length
 |_,[],hd=>by rw[hd.e70];rfl
 |us,x::r,hd=>by
  obtain⟨u,q,rfl,h1,h2⟩:=hd.b50
  simp[d80.len h2]
noncomputable def G81(l:List D):Prop:=∀ x r,l=x::r→∃ i,x=.int i
theorem w92{P:Program}{w:World}{A:Around}{s:Shared}{b fin:Bool}{Q:Bool→Shared→Prop}(hu:A.units + 40 < cLine):∀ (a c:List D) {vs us:List Value}{r:Bool} (i:Nat),d80 s.heap vs a→d80 s.heap us c→B11 a c=some r→i50 a≤39 →
  ((b&&i == 0)=true→G81 a∧G81 c)→fin=decide (vs.length < us.length)→Q r s→KatLex P w A b fin Q (vs.zip us) i s
 |[],[],_,_,r,i,ha,hc,e,_,_,hf,q=>by
  cases ha.e70;cases hc.e70;cases e;subst hf;exact kat_nil q
 |[],y::t,_,_,r,i,ha,hc,e,_,_,hf,q=>by
  cases ha.e70
  obtain⟨u,us,rfl,_,_⟩:=hc.b50
  cases e;subst hf;exact kat_nil q
 |x::l,[],_,_,r,i,ha,hc,e,_,_,hf,q=>by
  cases hc.e70
  obtain⟨v,vs,rfl,_,_⟩:=ha.b50
  cases e;subst hf;exact kat_nil q
 |x::l,y::t,_,_,r,i,ha,hc,e,hd,hi,hf,q=>by
  obtain⟨v,vs,rfl,a1,a2⟩:=ha.b50
  obtain⟨u,us,rfl,c1,c2⟩:=hc.b50
  have d1:deep x≤39:=Nat.le_trans (Nat.le_max_left _ _) hd
  have d2:i50 l≤39:=Nat.le_trans (Nat.le_max_right _ _) hd
  have e:(if eqD x y=true then B11 l t else ltD x y)=some r:=e
  refine kat_cons (b12 (A:=A) a1 c1 (by omega) P w _ _ ?_)
  refine kat_go (λz=>?_) λz=>?_
  ·rw[if_pos z] at e
   refine kat_yes (w92 hu l t (i + 1) a2 c2 e d2 (λk=>?_) (by rw[hf];simp) q)
   simp at k
  ·rw[if_neg (by rw[z];exact Bool.false_ne_true)] at e
   refine kat_no ?_
   cases hb:(b&&i == 0) with
   |true =>
    obtain⟨f1,f2⟩:=hi hb
    obtain⟨m,rfl⟩:=f1 x l rfl
    obtain⟨n,rfl⟩:=f2 y t rfl
    cases e
    obtain⟨_,_,r1⟩:=a1
    obtain⟨_,_,r2⟩:=c1
    cases r1;cases r2
    exact oneLt_int q
   |false=>exact kat_one _ _ ((O41 39 (A:=A) (s:=s)).1 x y v u r d1 a1 c1 e (by omega) P w _ _ q)
theorem U70{x:D}(h:m91 x=0):∃ i,x=.int i:=by
 cases x with
 |int i=>exact⟨i,rfl⟩
 |tup l =>
  cases l with
  |nil=>cases h
  |cons y r=>cases y <;> cases h
 |_=>cases h
theorem U80{x:D}{k:Nat}(h:m91 x=k)(h1:1≤k)(h3:k < 3):∃ y r,x=.tup (y::r)∧(k=1→∃ i,y=.int i)∧(k=2→∃ l,y=.tup l):=by
 cases x with
 |tup l =>
  cases l with
  |nil=>have:k=3:=h.symm;omega
  |cons y r =>
   refine⟨y,r,rfl,λe=>?_,λe=>?_⟩ <;> subst e <;> cases y <;> first | exact⟨_,rfl⟩ | cases h
 |int i=>have:k=0:=h.symm;omega
 |_=>have:k=3:=h.symm;omega
theorem O81{h:Heap}{k:Nat}(h1:1≤k)(h3:k < 3):∀ {us:List Value}{l:List D},d80 h us l→(∀ x∈l,m91 x=k)→∃ fs,KatTups h us fs∧fs.length=us.length∧∀ v∈fs,(k=1→∃ i t,v=Value.int i t)∧(k=2→∃ a o,v=Value.ref a∧h.get? a=some o∧o.cls=.type "tuple")
 |_,[],hd,_=>by rw[hd.e70];exact⟨[],.nil,rfl,λv hv=>absurd hv (by simp)⟩
 |_,x::r,hd,hk=>by
  obtain⟨u,q,rfl,⟨_,as,r1⟩,h2⟩:=hd.b50
  obtain⟨fs,t1,t2,t3⟩:=O81 h1 h3 h2 λy hy=>hk y (List.mem_cons_of_mem _ hy)
  obtain⟨y,l,rfl,y1,y2⟩:=U80 (hk x List.mem_cons_self) h1 h3
  cases r1 with
  | @tuple a o vs n xs as k1 k2 k3 k4 =>
   cases hv:vs.toList with
   |nil=>rw[hv] at k4;cases k4
   |cons f fr =>
    rw[hv] at k4
    cases k4 with
    |cons f1 f2 =>
     refine⟨f::fs,.cons k1 k2 k3 (by rw[← Array.getElem?_toList,hv];rfl) t1,by simp[t2],λv hm=>?_⟩
     rcases List.mem_cons.mp hm with rfl | hm
     ·refine⟨λe=>?_,λe=>?_⟩
      ·obtain⟨i,rfl⟩:=y1 e
       cases f1;exact⟨_,_,rfl⟩
      ·obtain⟨m,rfl⟩:=y2 e
       cases f1 with
       |tuple g1 g2 g3 g4=>exact⟨_,_,rfl,g1,g2⟩
     ·exact t3 v hm
noncomputable def kdOf:Nat→SortKind
 |0=>oneType'
 |1=>tuples' true
 |_=>tuples' false
theorem U90{x y:D}(h:s80 x y=true):m91 y=m91 x∧ltD x y=some (MySort.i40 (flt x) (flt y))∧(flt x=flt y→x=y):=by
 unfold s80 at h
 rw[Bool.and_eq_true,Bool.and_eq_true,Bool.or_eq_true] at h
 refine⟨eq_of_beq h.1,eq_of_beq h.2.1,λe=>?_⟩
 rcases h.2.2 with k | k
 ·exact G71 _ _ k
 ·rw[e] at k;simp at k
theorem G91{P:Program}{w:World}{A:Around}{s:Shared}{us:List Value}{l:List D}{k:Nat}(h64:us.length < 64)(hd:d80 s.heap us l)(hu:A.units + 40 < cLine)(k3:k < 3)(hk:∀ x∈l,m91 x=k)(ho:∀ x∈l,okD x=true)(hp:∀ x∈l,∀ y∈l,s80 x y=true):MySort.Z41 P w A s us (MySort.sortedBy (l.map flt)) (kdOf k) where
 len:=by omega
 few h2:=MySort.Z51 (by rw[List.length_map];exact hd.len) h2
 all p hp:=by rw[hp.1.length_eq,List.length_range,List.length_map,hd.len]
 kind h2 E Q q:=by
  match k,k3,hk,q with
  |0,_,hk,q =>
   refine kas_kind h2 (T:=.type "int") (λv hv=>?_) rfl rfl q
   obtain⟨i,hi,rfl⟩:=List.mem_iff_getElem.mp hv
   have hi':i < l.length:=by rw[← hd.len];exact hi
   obtain⟨_,as,r⟩:=hd.get (i:=i) (d:=l[i]) (by simp[hi'])
   obtain⟨n,hn⟩:=U70 (hk l[i] (List.getElem_mem hi'))
   rw[hn] at r
   have e:us.getD i Value.none=us[i]:=by simp[hi]
   rw[e] at r
   generalize us[i]=v at r
   cases r
   exact PySem.W.Looks.of_pure rfl
  |1,_,hk,q =>
   obtain⟨fs,t1,t2,t3⟩:=O81 (by decide) (by decide) hd hk
   exact kat_kind (T:=.type "int") t1 (by omega) (λv hv=>by obtain⟨i,t,rfl⟩:=(t3 v hv).1 rfl;exact PySem.W.Looks.of_pure rfl) rfl q
  |2,_,hk,q =>
   obtain⟨fs,t1,t2,t3⟩:=O81 (by decide) (by decide) hd hk
   exact kat_kind (T:=.type "tuple") t1 (by omega) (λv hv=>by
    obtain⟨a,o,rfl,g1,g2⟩:=(t3 v hv).2 rfl
    rw[← g2];exact(PySem.W.Looks.ld g1).andThen .now) rfl q
 run:=MySort.L51 (by rw[List.length_map];exact hd.len) h64 λi j hi hj E C hC=>by
  have hi':i < l.length:=by rw[← hd.len];exact hi
  have hj':j < l.length:=by rw[← hd.len];exact hj
  have mi:=List.getElem_mem hi'
  have mj:=List.getElem_mem hj'
  obtain⟨_,h2,_⟩:=U90 (hp _ mi _ mj)
  have a1:=hd.get (i:=i) (d:=l[i]) (by simp[hi'])
  have b1:=hd.get (i:=j) (d:=l[j]) (by simp[hj'])
  have e1:(l.map flt).getD i []=flt l[i]:=by simp[hi']
  have e2:(l.map flt).getD j []=flt l[j]:=by simp[hj']
  rw[e1,e2] at hC
  generalize MySort.i40 (flt l[i]) (flt l[j])=c at h2 hC
  have kx:=hk _ mi
  have ky:=hk _ mj
  have ox:=I20 (ho _ mi)
  generalize l[i]=x at *
  generalize l[j]=y at *
  have tup:∀ b:Bool,1≤k→(b=true→k=1)→wpAny (model P w) A (keyLt' (tuples' b) (us.getD i Value.none) (us.getD j Value.none)) C E s:=λb h1 hb=>by
   obtain⟨x1,xr,rfl,x2,_⟩:=U80 kx h1 k3
   obtain⟨y1,yr,rfl,y2,_⟩:=U80 ky h1 k3
   obtain⟨f1,as,r1⟩:=a1
   obtain⟨f2,bs,r2⟩:=b1
   generalize us.getD i Value.none=v at r1
   generalize us.getD j Value.none=u at r2
   cases r1 with
   |tuple p1 p2 p3 p4 =>
    cases r2 with
    |tuple q1 q2 q3 q4 =>
     refine kat_lt p1 p3 q1 q3 (w92 hu (x1::xr) (y1::yr) 0 ⟨f1,_,p4⟩ ⟨f2,_,q4⟩ h2 (by have:deep (.tup (x1::xr))=i50 (x1::xr) + 1:=rfl;omega) (λz=>?_) (by simp) hC)
     have hb1:=hb (by simpa using z)
     exact⟨λa q e=>by cases e;exact x2 hb1,λa q e=>by cases e;exact y2 hb1⟩
  match k,k3,kx,ky,tup with
  |0,_,kx,ky,_ =>
   obtain⟨m,rfl⟩:=U70 kx
   obtain⟨n,rfl⟩:=U70 ky
   cases h2
   obtain⟨_,_,r1⟩:=a1
   obtain⟨_,_,r2⟩:=b1
   generalize us.getD i Value.none=v at r1
   generalize us.getD j Value.none=u at r2
   cases r1;cases r2
   exact kat_lt_int hC
  |1,_,_,_,tup=>exact tup true (by decide) λ_=>rfl
  |2,_,_,_,tup=>exact tup false (by decide) λh=>by cases h
theorem HdA.pick{K:PySem.W.Frag}{H:Hp}{l:List D}{vs:List V}(h:HdA K H l vs):∀ {p:List Nat},(∀ i∈p,i < l.length)→HdA K H (p.map λi=>l.getD i .non) (p.map λi=>vs.getD i .non)
 |[],_=>.nil
 |i::p,hp=>by
  have hi:=hp i List.mem_cons_self
  refine .cons ?_ (HdA.pick h λj hj=>hp j (List.mem_cons_of_mem _ hj))
  obtain⟨v,e1,e2⟩:=h.get (i:=i) (d:=l[i]) (by simp[hi])
  have g1:l.getD i .non=l[i]:=by simp[hi]
  have g2:vs.getD i .non=v:=by rw[List.getD_eq_getElem?_getD,e1];rfl
  show Hd K H (l.getD i .non) (vs.getD i .non)
  rw[g1,g2];exact e2
end Q
namespace Q
open PySem L2 PySem.Spec PyProof.Rows
open PySem.W (kas_mapM kas_first_eq kas_item kas_item_eq kas_cmp)
theorem O91{k:Nat}(h:k≤8):∀ i∈TS.sN k,i < 2 ^ k:=by
 have:∀ k,k < 9→((TS.sN k).all λi=>Nat.blt i (2 ^ k))=true:=by decide +kernel
 intro i hi
 exact Nat.blt_eq.mp (List.all_eq_true.mp (this k (by omega)) i hi)
theorem c52{k:Nat}(h:k≤8):(TS.sN k).length=2 ^ k:=by
 have:∀ k,k < 9→Nat.beq (TS.sN k).length (2 ^ k)=true:=by decide +kernel
 exact Nat.eq_of_beq_eq_true (this k (by omega))
theorem t20{k i:Nat}(h:i < 2 ^ k):(g60 k)[i]?=some (s10 k i):=by
 unfold g60
 rw[List.getElem?_map,List.getElem?_range h];rfl
theorem c62{k:Nat}(h:k≤8):((TS.sN k).map λi=>(g60 k).getD i .non)=B31 k :=
 List.map_congr_left λi hi=>by rw[List.getD_eq_getElem?_getD,t20 (O91 h i hi)];rfl
theorem o31:∀ a b:List Nat,B11 (a.map λ(i:Nat)=>.int i) (b.map λ(i:Nat)=>.int i)=some (TS.k22 a b)
 |[],[]=>rfl
 |[],_::_=>rfl
 |_::_,[]=>rfl
 |a::r,b::q=>by
  show(if ((a:Int) == (b:Int))=true then B11 (r.map λ(i:Nat)=>.int i) (q.map λ(i:Nat)=>.int i) else some (decide ((a:Int) < b)))=some (if Nat.beq a b=true then TS.k22 r q else Nat.blt a b)
  rw[o31 r q]
  by_cases h:a=b
  ·subst h;rw[if_pos (by simp),if_pos (Nat.beq_refl a)]
  ·rw[if_neg (by simp;omega),if_neg λe=>h (Nat.eq_of_beq_eq_true e)]
   congr 1
   rw[Bool.eq_iff_iff,decide_eq_true_eq,Nat.blt_eq]
   omega
variable [TB:Tb]
section
variable {P:Program}{w:World}{A:Around}{E:Value→Shared→Prop}{s:Shared}
noncomputable def TupAt(h:Heap)(v:Value):Prop:=∃ a o xs n,v=.ref a∧h.get? a=some o∧o.cls=.type "tuple"∧o.data=.seq xs n
theorem a71{a:Addr}{o:Obj}{xs:Array Value}{n:Nat}{Q:Option Value→Shared→Prop}(ho:s.heap.get? a=some o)(hc:o.cls=.type "tuple")(hd:o.data=.seq xs n)(q:Q xs[0]? s):wpAny (model P w) A (firstOfTuple' (.ref a)) Q E s:=by
 rw[kas_first_eq]
 refine wpAny_bind (PySem.W.Looks.here (show PySem.W.Looks (model P w) s.heap (typeOf (.ref a)) o.cls from(PySem.W.Looks.ld ho).andThen .now) ?_)
 rw[hc,if_neg (by first | decide | simp)]
 exact wpAny_bind (listItems_at ho hd (wpAny_pure q))
theorem O20:∀ (vs:List Value),(∀ v∈vs,TupAt s.heap v)→∃ fs:List (Option Value),∀ Q,Q fs s→wpAny (model P w) A (vs.mapM firstOfTuple') Q E s
 |[],_=>⟨[],λQ q=>by rw[List.mapM_nil];exact wpAny_pure q⟩
 |v::vs,h=>by
  obtain⟨fs,hf⟩:=O20 vs λu hu=>h u (List.mem_cons_of_mem _ hu)
  obtain⟨a,o,xs,n,rfl,ho,hc,hd⟩:=h v List.mem_cons_self
  refine⟨xs[0]?::fs,λQ q=>?_⟩
  rw[List.mapM_cons]
  exact wpAny_bind (a71 ho hc hd (wpAny_bind (hf _ (wpAny_pure q))))
theorem P01{a:Addr}{o:Obj}{n:Nat}{vs:List Value}{Q:SortKind→Shared→Prop}(ho:s.heap.get? a=some o)(hc:o.cls=.type "tuple")(hd:o.data=.seq #[] n)(h:∀ v∈vs,TupAt s.heap v)(q:Q oneType' s):wpAny (model P w) A (keyKind' (Value.ref a::vs).toArray) Q E s:=by
 obtain⟨fs,hf⟩:=O20 (P:=P) (w:=w) (A:=A) (E:=E) vs h
 rw[keyKind'_eq,List.mapM_toArray,map_eq_pure_bind,List.mapM_cons]
 refine wpAny_bind (wpAny_bind (wpAny_bind (a71 ho hc hd (wpAny_bind (hf _ (wpAny_pure (wpAny_pure ?_)))))))
 rw[if_neg (by simp),if_neg (by simp)]
 rw[oneTypeOnly'_eq,List.mapM_toArray,map_eq_pure_bind]
 refine wpAny_bind (wpAny_bind (wpAny_bind (kas_mapM (r:=.type "tuple") _ (λv hv Q' hq=>?_) (wpAny_pure ?_))))
 ·have:TupAt s.heap v:=by
   rcases List.mem_cons.mp hv with rfl | hv
   ·exact⟨_,_,_,_,rfl,ho,hc,hd⟩
   ·exact h v hv
  obtain⟨b,o',xs,m,rfl,ho',hc',_⟩:=this
  rw[← hc'] at hq
  exact PySem.W.Looks.here (show PySem.W.Looks (model P w) s.heap (typeOf (.ref b)) o'.cls from(PySem.W.Looks.ld ho').andThen .now) hq
 ·have hall:((List.map (λ_=>Value.type "tuple") (Value.ref a::vs)).toArray.all λx=>x == Value.type "tuple")=true:=by
   simp only[List.all_toArray,List.all_map,List.all_eq_true]
   intro _ _
   rfl
  have h0:(List.map (λ_=>Value.type "tuple") (Value.ref a::vs)).toArray[0]?=some (Value.type "tuple"):=by simp
  rw[h0]
  simp only[hall,if_true]
  exact wpAny_pure (wpAny_pure q)
theorem c72{l b:Addr}{i1 i2:Array Value}{c:Bool}{Q:Bool→Shared→Prop}(hl:IsTup s.heap l i1)(hb:IsTup s.heap b i2)(hu:A.units < cLine)(hx:Lx A.in1 s i1.toList i2.toList c)(q:Q c s):wpAny (model P w) A (keyLt' oneType' (.ref l) (.ref b)) Q E s:=by
 obtain⟨⟨cls,dd,data,sl⟩,ho,hc,n,hd⟩:=id hl;obtain⟨⟨cls2,dd2,data2,sl2⟩,ho2,hc2,n2,hd2⟩:=id hb
 simp only at hc hd hc2 hd2;subst hc hd hc2 hd2
 rw[keyLt'_oneType,oneLt'_eq]
 simp only[if_true]
 refine wpAny_bind (wpAny_cRoomFor hu (wpAny_bind (wpAny_callSpecialIfBound?_slot ⟨_,ho,rfl⟩ PySem.F.slot_tuple_lt (call_meets PySem.F.slot_tuple_lt ⟨_,ho,rfl⟩ PySem.F.entry_tuple_lt (PySem.F.args_tuple_lt_2 _ _) (B20 l b i1 i2 n n2 dd dd2 sl sl2 c) ⟨ho,ho2,hx,?_⟩))))
 exact wpAny_truthy_bool q
theorem c82{us:List Value}{k:Nat}(h8:k≤8)(hd:d80 s.heap us (g60 k))(hu:A.units + 40 < cLine):MySort.Z41 P w A s us (λp=>p=TS.sN k) oneType' where
 len:=by rw[hd.len,g60,List.length_map,List.length_range];exact Nat.le_trans (Nat.pow_le_pow_right (by decide) h8) (by decide)
 few h2:=by
  rw[hd.len,g60,List.length_map,List.length_range] at h2 ⊢
  cases k with
  |zero=>rfl
  |succ k=>have:=Nat.one_le_two_pow (n:=k);rw[Nat.pow_succ] at h2;omega
 all p hp:=by subst hp;rw[hd.len,g60,List.length_map,List.length_range,c52 h8]
 kind h2 E Q q:=by
  have ht:∀ i v,us[i]?=some v→∃ xs n a o,v=.ref a∧s.heap.get? a=some o∧o.cls=.type "tuple"∧o.data=.seq xs n∧(i=0→xs=#[]):=λi v e=>by
   have hi:i < us.length:=(List.getElem?_eq_some_iff.mp e).1
   have hi':i < 2 ^ k:=by rw[hd.len,g60,List.length_map,List.length_range] at hi;exact hi
   obtain⟨_,as,r⟩:=hd.get (t20 hi')
   have e2:us.getD i Value.none=v:=by rw[List.getD_eq_getElem?_getD,e];rfl
   rw[e2] at r
   have z0:∀ k,TS.A50 k 0 0=[]:=λk=>by
    have:∀ k i,TS.A50 k i 0=[]:=λk=>by
     induction k with
     |zero=>exact λ_=>rfl
     |succ k ih=>exact λi=>ih (i + 1)
    exact this k 0
   cases i with
   |zero =>
    have r:Reads s.heap v (toP (.tup ((TS.A50 k 0 0).map λ(i:Nat)=>.int i))) as:=r
    rw[z0] at r
    cases r with
    | @tuple a o vs n xs as k1 k2 k3 k4 =>
     have:vs.toList=[]:=by cases hv:vs.toList with | nil=>rfl | cons _ _=>rw[hv] at k4;cases k4
     exact⟨vs,n,a,o,rfl,k1,k2,k3,λ_=>Array.toList_eq_nil_iff.mp this⟩
   |succ i =>
    cases r with
    | @tuple a o vs n xs as k1 k2 k3 k4=>exact⟨vs,n,a,o,rfl,k1,k2,k3,λe=>by cases e⟩
  match us,ht with
  |[],_=>simp at h2
  |v::vs,ht =>
   obtain⟨xs,n,a,o,rfl,h1,h3,h4,h5⟩:=ht 0 v rfl
   cases h5 rfl
   refine P01 h1 h3 h4 (λu hu=>?_) q
   obtain⟨i,hi,rfl⟩:=List.mem_iff_getElem.mp hu
   obtain⟨xs,n,a,o,e,h1,h3,h4,_⟩:=ht (i + 1) vs[i] (by simp[hi])
   exact⟨a,o,xs,n,e,h1,h3,h4⟩
 run h2:=by
  have hl:us.length=2 ^ k:=by rw[hd.len,g60,List.length_map,List.length_range]
  have h1:1≤k:=by
   cases k with
   |zero=>rw[hl] at h2;exact absurd h2 (by decide)
   |succ k=>omega
  refine TS.runL h1 h8 hl λi j C hi hj hC=>?_
  have e1:=kas_item_eq us i
  have e2:=kas_item_eq us j
  show wpAny (model P w) A (keyLt' oneType' (kas_item (pairsOf us) i).1 (kas_item (pairsOf us) j).1) C _ s
  rw[e1,e2]
  obtain⟨f1,as,r1⟩:=hd.get (t20 hi)
  obtain⟨f2,bs,r2⟩:=hd.get (t20 hj)
  show wpAny (model P w) A (keyLt' oneType' (us.getD i Value.none) (us.getD j Value.none)) C _ s
  generalize us.getD i Value.none=v at r1
  generalize us.getD j Value.none=u at r2
  cases r1 with
  |tuple p1 p2 p3 p4 =>
   cases r2 with
   |tuple q1 q2 q3 q4 =>
    refine c72 ⟨_,p1,p2,_,p3⟩ ⟨_,q1,q2,_,q3⟩ (by omega) ((O41 40).2 _ _ _ _ _ ?_ ⟨f1,_,p4⟩ ⟨f2,_,q4⟩ (o31 _ _) (by omega)) hC
    have:∀ l:List Nat,i50 (l.map λ(i:Nat)=>.int i)=0:=λl=>by
     induction l with
     |nil=>rfl
     |cons x r ih=>show Nat.max 0 _=0;rw[ih];rfl
    rw[this];decide
end
section
variable {X:Cx}
theorem P11{zA:Option Addr}{H:Hp}{k:Nat}{xs:List V}(hu:X.A.units + 64 < cLine)(hd:HdA X.K H (g60 k) xs)(h8:k≤8):M71 X H xs (λp=>p=TS.sN k):=by
 intro pins σ s us I rv
 have ci:∀ l:List Nat,f60 (l.map λ(i:Nat)=>.int i)=true∧S10 (l.map λ(i:Nat)=>.int i) (l.map λ(i:Nat)=>.int i)=true:=λl=>by
  induction l with
  |nil=>exact⟨rfl,rfl⟩
  |cons x r ih=>exact⟨ih.1,by show((x:Int) == (x:Int)&&_)=true;rw[ih.2];simp⟩
 have cl:∀ l:List Nat,f60 (l.map (s10 k))=true∧S10 (l.map (s10 k)) (l.map (s10 k))=true:=λl=>by
  induction l with
  |nil=>exact⟨rfl,rfl⟩
  |cons x r ih =>
   refine⟨?_,?_⟩
   ·show(f60 _&&_)=true;rw[(ci _).1,ih.1];rfl
   ·show(S10 _ _&&_)=true;rw[(ci _).2,ih.2];rfl
 obtain⟨as,ra⟩:=B10 I hd rv (cl _).1
 exact⟨oneType',λh' kp=>c82 h8 ⟨(cl _).1,_,n40 kp _ (cl _).2 ra⟩ (by show X.A.units + 1 + 1 + 40 < cLine;omega)⟩
end
end Q
namespace Q
open PySem L2 PySem.Spec PyProof.Rows
variable [TB:Tb]
section
variable {X:Cx}
theorem P21{zA:Option Addr}{H:Hp}{l:List D}{xs:List V}(hu:X.A.units + 64 < cLine)(hd:HdA X.K H l xs)(h64:l.length < 64)(ok:w60 l=true):M71 X H xs (MySort.sortedBy (l.map flt)):=by
 intro pins σ s us I rv
 replace h64:us.length < 64:=by rw[← rv.length,hd.length];exact h64
 have all:∀ x∈l,m91 x < 3∧okD x=true∧∀ y∈l,s80 x y=true:=λx hx=>by
  have:=List.all_eq_true.mp ok x hx
  rw[Bool.and_eq_true,Bool.and_eq_true,decide_eq_true_eq,List.all_eq_true] at this
  exact⟨this.1,this.2.1,this.2.2⟩
 have hf:f60 l=true:=by
  clear hd
  induction l with
  |nil=>rfl
  |cons x r ih =>
   have h1:=(t10 (all x List.mem_cons_self).2.1).1
   show(w50 x&&f60 r)=true
   rw[h1]
   have ok':w60 r=true:=List.all_eq_true.mpr λy hy=>by
    obtain⟨a,b,c⟩:=all y (List.mem_cons_of_mem _ hy)
    rw[Bool.and_eq_true,Bool.and_eq_true,decide_eq_true_eq,List.all_eq_true]
    exact⟨a,b,λz hz=>c z (List.mem_cons_of_mem _ hz)⟩
   exact ih ok' λy hy=>⟨(all y (List.mem_cons_of_mem _ hy)).1,(all y (List.mem_cons_of_mem _ hy)).2.1,λz hz=>(all y (List.mem_cons_of_mem _ hy)).2.2 z (List.mem_cons_of_mem _ hz)⟩
 obtain⟨as,ra⟩:=B10 I hd rv hf
 have pure:S10 l l=true:=by
  clear hd ra hf ok
  have:∀ q:List D,(∀ x∈q,eqT x x=true)→S10 q q=true:=λq=>by
   induction q with
   |nil=>intro _;rfl
   |cons x r ih=>intro h;show(eqT x x&&S10 r r)=true;rw[h x List.mem_cons_self,ih λy hy=>h y (List.mem_cons_of_mem _ hy)];rfl
  refine this l λx hx=>?_
  have h:=(all x hx).2.2 x hx
  unfold s80 at h
  rw[Bool.and_eq_true,Bool.and_eq_true,Bool.or_eq_true] at h
  rcases h.2.2 with k | k
  ·exact k
  ·simp at k
 cases l with
 |nil=>exact⟨kdOf 0,λh' kp=>G91 h64 ⟨hf,_,n40 kp _ pure ra⟩ (by show X.A.units + 1 + 1 + 40 < cLine;omega) (by decide) (λx hx=>absurd hx (by simp)) (λx hx=>absurd hx (by simp)) λx hx=>absurd hx (by simp)⟩
 |cons x r =>
  have hx:=all x List.mem_cons_self
  exact⟨kdOf (m91 x),λh' kp=>G91 h64 ⟨hf,_,n40 kp _ pure ra⟩ (by show X.A.units + 1 + 1 + 40 < cLine;omega) hx.1 (λy hy=>(U90 (hx.2.2 y hy)).1) (λy hy=>(all y hy).2.1) λy hy=>(all y hy).2.2⟩
theorem o41(hu:X.A.units + 64 < cLine):f30 X (.builtin "sorted") (rDn X.K (bfD .sorted)):=by
 intro pins s σ H xs us Q I r h
 obtain⟨zA,z,ds,w,st,hx,e,q⟩:=h
 match ds,e with
 |[x],e =>
  have e:sortedS x=some w:=e
  unfold sortedS at e
  obtain⟨l,h1,e⟩:=Option.bind_eq_some_iff.mp e
  obtain⟨v,rfl,hv⟩:=hx.one
  have go:∀ (a:Addr) (ys:List V),v=.ref a→(SqL X.K H a ys∨SqT X.K H a ys)→HdA X.K (hz zA H) l ys→wpAny (model X.prog X.w) X.A (call (.builtin "sorted") us) (EP X pins σ Q) X.xe s:=λa ys hva hq hd=>by
   subst hva
   by_cases c:l.length < 64∧w60 l=true
   ·rw[if_pos c] at e
    cases e
    obtain⟨h64,ok⟩:=c
    refine w40 pins s σ H _ us Q I r ⟨a,ys,MySort.sortedBy (l.map flt),rfl,hq,P21 (zA:=zA) hu (hd.same (a20 zA H)) h64 ok,λp hp i hi=>by have:=hp.1.mem_iff.mp hi;rw[hd.length];simpa using this,λp lA hp hn=>?_⟩
    have hd2:=hd.pick (p:=p) λi hi=>by have:=hp.1.mem_iff.mp hi;simpa using this
    rw[O71 (λx hx y hy=>?_) hp] at hd2
    ·exact q _ _ (a30.new _ hn) (t00 st hd2 hn)
    ·have:=List.all_eq_true.mp ok x hx
     rw[Bool.and_eq_true,Bool.and_eq_true,List.all_eq_true] at this
     exact(U90 (this.2.2 y hy)).2.2
   ·rw[if_neg c] at e
    obtain⟨l',e1,rfl⟩:=Option.map_eq_some_iff.mp e
    obtain⟨k,e2,rfl⟩:=Option.map_eq_some_iff.mp e1
    have e3:=U60 _ _ (List.find?_some (p:=λk=>S10 l (g60 k)) e2)
    have k8:k≤8:=by have:=List.mem_of_find?_eq_some e2;simp at this;omega
    subst e3
    refine w40 pins s σ H _ us Q I r ⟨a,ys,λp=>p=TS.sN k,rfl,hq,P11 (zA:=zA) hu (hd.same (a20 zA H)) k8,λp hp i hi=>?_,λp lA hp hn=>?_⟩
    ·subst hp;rw[hd.length,g60,List.length_map,List.length_range];exact O91 k8 i hi
    ·subst hp
     have hd2:=hd.pick (p:=TS.sN k) λi hi=>by rw[g60,List.length_map,List.length_range];exact O91 k8 i hi
     rw[c62 k8] at hd2
     exact q _ _ (a30.new _ hn) (t00 st hd2 hn)
  cases x with
  |tup m =>
   cases h1
   obtain⟨a,ys,rfl,k1,k2⟩:=hv.A90
   exact go a ys rfl (.inr ((a20 zA H).sqT k1)) k2
  |lst m =>
   cases h1
   obtain⟨a,ys,rfl,k1,k2⟩:=hv.a11
   exact go a ys rfl (.inl (k1.same (a20 zA H)).sq) k2
  |_=>cases h1
end
end Q
namespace Q
open PySem L2 PySem.Spec PyProof.Rows
variable [TB:Tb]
structure Gs where
 fns:List (Str × List Str)
 nums:List (Str × Int)
 F:FT
 cls:Nat→Addr
 lv:Nat
noncomputable def EPost(G:Gs)(zA:Option Addr)(E:XK)(c:Nat)(z:Z)(H:Hp):Prop:=∀ e H',Ext zA H H'→d60 zA z H'→H' e=none→E (.ref (G.cls c)) (some e) H'
theorem EPost.mono{G:Gs}{zA:Option Addr}{E:XK}{c:Nat}{z:Z}{H H1:Hp}(h:EPost G zA E c z H)(e:Ext zA H H1):EPost G zA E c z H1:=λa H' x s n=>h a H' (e.trans x) s n
noncomputable def p42(K:PySem.W.Frag)(G:Gs)(zA:Option Addr)(E:XK)(H:Hp)(Q:VK):R S→Prop
 |.ok s z'=>∀ v H',Ext zA H H'→d60 zA z' H'→RvS K zA H H' s v→Q v H'
 |.er c z'=>EPost G zA E c z' H
noncomputable def V00(K:PySem.W.Frag)(G:Gs)(zA:Option Addr)(E:XK)(H:Hp)(Q:VK):R (List S)→Prop
 |.ok l z'=>∃ s,l=[s]∧∀ v H',Ext zA H H'→d60 zA z' H'→RvS K zA H H' s v→Q v H'
 |.er c z'=>EPost G zA E c z' H
noncomputable def p52(K:PySem.W.Frag)(G:Gs)(zA:Option Addr)(E:XK)(H:Hp)(Q:List V→Hp→Prop):R (List S)→Prop
 |.ok l z'=>∀ vs H',Ext zA H H'→d60 zA z' H'→Paired (RvS K zA H H') l vs→Q vs H'
 |.er c z'=>EPost G zA E c z' H
noncomputable def C21(G:Gs)(zA:Option Addr)(E:XK)(H:Hp)(Q:Bool→Hp→Prop):R (List S)→Prop
 |.ok l z'=>∃ b,l=[.d (.bl b)]∧∀ H',Ext zA H H'→d60 zA z' H'→Q b H'
 |.er c z'=>EPost G zA E c z' H
noncomputable def z00(K:PySem.W.Frag)(zA:Option Addr)(H:Hp)(ρ:Env)(σ:L2.St):Prop:=∀ (i:Nat) (s:S),ρ[i]?=some (some s)→∃ v,σ[i]?=some (some v)∧RvP K zA H s v
theorem z00.mono{K:PySem.W.Frag}{zA:Option Addr}{H H':Hp}{ρ:Env}{σ:L2.St}(h:z00 K zA H ρ σ)(e:Ext zA H H'):z00 K zA H' ρ σ:=λi s q=>let ⟨v,a,b⟩:=h i s q;⟨v,a,b.mono e⟩
noncomputable def tI(K:PySem.W.Frag)(G:Gs)(E:XK)(x:Ex):TE:=λσ H Q=>∃ zA ρ z r,z00 K zA H ρ σ∧d60 zA z H∧ev G.F x ρ z=some r∧V00 K G zA E H Q r
noncomputable def tA(K:PySem.W.Frag)(G:Gs)(E:XK)(x:Ex):TA:=λσ H Q=>∃ zA ρ z r,z00 K zA H ρ σ∧d60 zA z H∧ev G.F x ρ z=some r∧p52 K G zA E H Q r
noncomputable def tT(K:PySem.W.Frag)(G:Gs)(E:XK)(x:Ex):TT:=λσ H Q=>∃ zA ρ z r,z00 K zA H ρ σ∧d60 zA z H∧ev G.F x ρ z=some r∧C21 G zA E H Q r
noncomputable def spF(K:PySem.W.Frag)(G:Gs)(f n:Nat):Sp:=λvs H Q E=>vs.length=n∧∃ zA z ss r,RvA K zA H ss vs∧d60 zA z H∧G.F false f ss z=some r∧p42 K G zA E H Q r
section
variable {K:PySem.W.Frag}{G:Gs}{E:XK}{a x:Ex}{ρ:Env}{z:Z}{zA:Option Addr}{σ:L2.St}{H:Hp}
theorem k00{α:Type}{k:List S→M α}{r:R α}{Q':VK}(rel:z00 K zA H ρ σ)(st:d60 zA z H)(h:M.bind (ev G.F a ρ) k z=some r)(her:∀ c z1,r=.er c z1→EPost G zA E c z1 H)
  (hok:∀ l z1,k l z1=some r→∃ s,l=[s]∧∀ v H1,Ext zA H H1→d60 zA z1 H1→RvS K zA H H1 s v→Q' v H1):tI K G E a σ H Q':=by
 rcases M.bind_some h with ⟨l,z1,e1,e2⟩ | ⟨c,z1,e1,e2⟩
 ·exact⟨zA,ρ,z,_,rel,st,e1,hok l z1 e2⟩
 ·exact⟨zA,ρ,z,_,rel,st,e1,her c z1 e2⟩
theorem g71{α:Type}{k:List S→M α}{r:R α}{Q':List V→Hp→Prop}(rel:z00 K zA H ρ σ)(st:d60 zA z H)(h:M.bind (ev G.F a ρ) k z=some r)(her:∀ c z1,r=.er c z1→EPost G zA E c z1 H)
  (hok:∀ l z1,k l z1=some r→∀ vs H1,Ext zA H H1→d60 zA z1 H1→Paired (RvS K zA H H1) l vs→Q' vs H1):tA K G E a σ H Q':=by
 rcases M.bind_some h with ⟨l,z1,e1,e2⟩ | ⟨c,z1,e1,e2⟩
 ·exact⟨zA,ρ,z,_,rel,st,e1,hok l z1 e2⟩
 ·exact⟨zA,ρ,z,_,rel,st,e1,her c z1 e2⟩
theorem O30{α:Type}{k:Bool→M α}{r:R α}{Q':Bool→Hp→Prop}(rel:z00 K zA H ρ σ)(st:d60 zA z H)(h:M.bind (ev G.F a ρ) (λx=>M.bind (M.of ((pl x).bind asB)) k) z=some r)(her:∀ c z1,r=.er c z1→EPost G zA E c z1 H)
  (hok:∀ b z1,k b z1=some r→∀ H1,Ext zA H H1→d60 zA z1 H1→Q' b H1):tT K G E a σ H Q':=by
 rcases M.bind_some h with ⟨l,z1,e1,e2⟩ | ⟨c,z1,e1,e2⟩
 ·obtain⟨b,e3,e4⟩:=M.a10 e2
  obtain⟨d,e5,e6⟩:=Option.bind_eq_some_iff.mp e3
  have el:l=[.d (.bl b)]:=by
   obtain⟨s,rfl,hs⟩:=f40 e5
   cases s with
   |d y=>cases hs;cases d <;> first | (cases e6;rfl) | cases e6
   |fr ys=>cases hs;cases e6
   |z=>cases hs
  exact⟨zA,ρ,z,_,rel,st,e1,b,el,hok b z1 e4⟩
 ·exact⟨zA,ρ,z,_,rel,st,e1,her c z1 e2⟩
theorem B40{l:List S}{s:S}(h:one l=some s):l=[s]:=by
 unfold one at h
 split at h
 ·cases h;rfl
 ·cases h
end
theorem PE.imp{X:Cx}{e:Expr}{t t':TE}(h:PE X e t)(i:∀ σ H Q,t' σ H Q→t σ H Q):PE X e t':=λpins s σ H Q I q=>h pins s σ H Q I (i _ _ _ q)
theorem PT.imp{X:Cx}{e:Expr}{t t':TT}(h:PT X e t)(i:∀ σ H Q,t' σ H Q→t σ H Q):PT X e t':=λpins s σ H Q I q=>h pins s σ H Q I (i _ _ _ q)
theorem PW.imp{X:Cx}{e:Expr}{t t':TT}(h:PW X e t)(i:∀ σ H Q,t' σ H Q→t σ H Q):PW X e t':=λw pins s σ H Q I q=>h w pins s σ H Q I (i _ _ _ q)
theorem PA.imp{X:Cx}{e:List Expr}{t t':TA}(h:PA X e t)(i:∀ σ H Q,t' σ H Q→t σ H Q):PA X e t':=λp pins s σ H Q I q=>h p pins s σ H Q I (i _ _ _ q)
noncomputable def noStar:Expr→Bool
 |.Starred ..=>false
 |_=>true
theorem b90{e:Expr}(h:noStar e=true)(es:List Expr)(env:PySem.Env):starEach (e::es) env=(false,eval e env)::starEach es env:=by
 cases e <;> first | rfl | cases h
theorem t30:∀ {es:List Expr} (env:PySem.Env) (pos:Pos),es.all noStar=true→(backTo pos (starEach es env)).any (·.1)=false
 |[],_,_,_=>rfl
 |e::es,env,pos,h=>by
  rw[List.all_cons,Bool.and_eq_true] at h
  rw[b90 h.1]
  show(false || (backTo pos (starEach es env)).any (·.1))=false
  rw[t30 env pos h.2];rfl
noncomputable def plainT:Expr→Bool
 |.UnaryOp .Not _ _=>false
 |.BoolOp ..=>false
 |.IfExp ..=>false
 |.Compare ..=>false
 |_=>true
theorem o51{e:Expr}(h:plainT e=true)(env:PySem.Env)(whole:Sem Value):isTrue e env whole=(do let v ← whole;standAt e.pos;holding [v] (truthy v)):=by
 cases e with
 |UnaryOp op _ _=>cases op <;> first | rfl | cases h
 |BoolOp _ _ _=>cases h
 |IfExp _ _ _ _=>cases h
 |Compare _ _ _ _=>cases h
 |_=>rfl
noncomputable def V10:Expr→Bool
 |.Slice ..=>false
 |_=>true
theorem E30{e:Expr}(h:V10 e=true):k21 e:=λo i=>by
 cases e with
 |Slice _ _ _ _=>cases h
 |_=>rfl
noncomputable def y10:Expr→Bool
 |.Set ..=>false
 |_=>true
theorem o61{e:Expr}(h:y10 e=true)(op:CmpOp):behindInMarks op e=false:=by
 cases e with
 |Set _ _ _=>cases h
 |_=>rfl
structure a80(X:Cx)(G:Gs)(E:XK)(x:Ex)(e:Expr):Prop where
 pe:PE X e (tI X.K G E x)
 pt:(∀ t a b p,e≠.IfExp t a b p)→PT X e (tT X.K G E x)
 pw:∀ op vs p,e=.BoolOp op vs p→PW X e (tT X.K G E x)
theorem b00{X:Cx}{G:Gs}{E:XK}{x:Ex}{e:Expr}(h:PE X e (tI X.K G E x))(hp:plainT e=true):a80 X G E x e:=by
 refine⟨h,λ_=>PT.imp (W11 h (o51 hp X.env)) λσ H Q q=>?_,λop vs p he=>?_⟩
 ·obtain⟨zA,ρ,z,r,rel,st,e,po⟩:=q
  refine⟨zA,ρ,z,r,rel,st,e,?_⟩
  cases r with
  |er c z1=>exact po
  |ok l z1 =>
   obtain⟨b,rfl,po⟩:=po
   exact⟨_,rfl,λv H' ex st' rv=>⟨b,Hd.bl_ (show Hd X.K (hz zA H') (.bl b) v from rv),po H' ex st'⟩⟩
 ·subst he;cases hp
noncomputable def isL:Ex→Bool
 |.nil=>true
 |.cons _ _=>true
 |_=>false
noncomputable def Good(X:Cx)(G:Gs)(E:XK):Ex→List Expr→Prop
 |.nil,es=>es=[]
 |.cons a r,es=>∃ e es',es=e::es'∧noStar e=true∧a80 X G E a e∧isL r=true∧Good X G E r es'
 |x,es=>∃ e,es=[e]∧a80 X G E x e
theorem Good.args{X:Cx}{G:Gs}{E:XK}:∀ {x:Ex}{es:List Expr},isL x=true→Good X G E x es→PA X es (tA X.K G E x)∧es.all noStar=true:=by
 intro x
 induction x with
 |nil =>
  intro es _ h
  have h:es=[]:=h
  subst h
  refine⟨PA.imp D50 λσ H Q q=>?_,rfl⟩
  obtain⟨zA,ρ,z,r,rel,st,e,po⟩:=q
  cases e
  exact po [] H Ext.refl st .nil
 |cons a r _ ih =>
  intro es _ h
  obtain⟨e,es',rfl,ns,g,lr,gr⟩:=h
  obtain⟨h1,h2⟩:=ih lr gr
  refine⟨PA.imp (k90 g.pe h1 (b90 ns es' X.env)) λσ H Q q=>?_,by rw[List.all_cons,ns,h2];rfl⟩
  obtain⟨zA,ρ,z,rr,rel,st,e,po⟩:=q
  have her:∀ c z1,rr=.er c z1→EPost G zA E c z1 H:=λc z1 e=>by subst e;exact po
  refine k00 rel st e her λl z1 e1=>?_
  obtain⟨s,hs,e2⟩:=M.a10 e1
  refine⟨s,B40 hs,λv H1 x1 st1 rv=>?_⟩
  refine g71 (rel.mono x1) st1 e2 (λc z2 q=>(her c z2 q).mono x1) λl2 z2 e3 vs H2 x2 st2 rvs=>?_
  cases e3
  exact po (v::vs) H2 (x1.trans x2) st2 (.cons (rv.mono x2) (Paired.U41 rvs λ_ _ q=>q.from x1))
 |_=>intro es h;cases h
end Q
namespace Q
open PySem L2 PySem.Spec PyProof.Rows
variable [TB:Tb]
noncomputable def P31:List Str:=["len","sorted","tuple","list","sum","min","max","abs","all","any","int","bool","str","isinstance","range","zip","enumerate","set"]
structure XI(lm:Bool)(X:Cx)(G:Gs)(E:XK)(N:List Str)(sc:Scope):Prop where
 gok:∀ f nm ps,G.fns[f]?=some (nm,ps)→∃ fa fd,X.mg nm=some (.ref fa)∧PySem.W.keepIn X.K (.ref fa)=true∧Binds X.K fd ps []∧f11 X.prog X.w X.K X.mg X.base (CX1 X.prog X.w) G.lv fa fd ps (spF X.K G f ps.length)
 num:∀ p∈G.nums,∃ t,X.mg p.1=some (.int p.2 t)
 blt:∀ n∈P31,X.mg n=none
 hN:X.N=N
 nd:N.Nodup
 vis:∀ x∈N,Vis X.env.scope x
 glb:∀ x,sc.names.lookup x=some .globalImplicit→Gl X x
 cel:∀ x,(sc.names.lookup x=some .cell∨sc.names.lookup x=some .free)→(X.env.kindOf x=some .cell∨X.env.kindOf x=some .free)
 calm:X.calm=true
 room:S00 G.lv X.A
 pas:Passes (CX1 X.prog X.w) X E
noncomputable def glob(sc:Scope)(x:Str):Bool:=sc.names.lookup x == some .globalImplicit&&!(x == ("__debug__":Str))&&!(x == ("__name__":Str))
noncomputable def c70(x:Str):Bool:=!(x == ("__debug__":Str))&&!(x == ("__classdict__":Str))
noncomputable def c92:Const→D→Bool
 |.int i,.int j=>i == j
 |.bool a,.bl b=>a == b
 |.str x,.str y=>x == y
 |.none,.non=>true
 |_,_=>false
noncomputable def bfN:Bf→Str × Bool
 |.len=>("len",false) | .sorted=>("sorted",false) | .tuple=>("tuple",true) | .list=>("list",true) | .sum=>("sum",false) | .min=>("min",false) | .max=>("max",false) | .abs=>("abs",false)
 |.all=>("all",false) | .int=>("int",true) | .sset=>("sorted",false) | .k02=>("len",false)
noncomputable def served:Bf→Bool
 |.len | .tuple | .list | .min | .max | .abs | .all | .int | .sorted | .sum=>true
 |_=>false
mutual
noncomputable def h90(N:List Str)(loc:Str→Bool):Pat→Expr→Bool
 |.v i=>λe=>match e with
  |.Name x _=>N[i]? == some x&&loc x
  |_=>false
 |.tup ps=>λe=>match e with
  |.Tuple es _ _=>g81 N loc ps es
  |_=>false
 |.nil=>λ_=>false
 |.cons _ _=>λ_=>false
noncomputable def g81(N:List Str)(loc:Str→Bool):Pat→List Expr→Bool
 |.nil=>λes=>es.isEmpty
 |.cons p r=>λes=>match es with
  |e::es=>noStar e&&h90 N loc p e&&g81 N loc r es
  |[]=>false
 |.v _=>λ_=>false
 |.tup _=>λ_=>false
end
noncomputable def m50:Expr→Bool
 |.Tuple ..=>true
 |_=>false
noncomputable def c40:Expr→List Str
 |.Name x _=>[x]
 |.Tuple es _ _=>names es
 |_=>[]
where names:List Expr→List Str
 |[]=>[]
 |.Name x _::r=>x::names r
 |.Tuple [.Name a _,.Name b _] _ _::r=>a::b::names r
 |_::r=>names r
noncomputable def a81(csc sc:Scope)(N own:List Str)(capt:List (Str × Nat)):Bool :=
 csc.kind == .function&&csc.names.all (λy=>y.2 != .cell)&&csc.names.all (λy=>y.2 != .local || csc.names.lookup y.1 == some .local) &&
  csc.names.all (λy=>y.2 != .free || (sc.names.lookup y.1 == some .cell || sc.names.lookup y.1 == some .free))&&capt.all (λp=>N[p.2]? == some p.1&&csc.names.lookup p.1 == some .free) &&
  own.all (λx=>csc.names.lookup x == some .local)&&decide (own++capt.map (·.1)).Nodup
noncomputable def d90(N:List Str):List Nat→List (Str × Nat)
 |[]=>[]
 |i::r=>match N[i]? with
  |some x=>(x,i)::d90 N r
  |none=>d90 N r
noncomputable def opt{α:Type}(o:Option α)(f:α→Bool):Bool:=match o with
 |some a=>f a
 |none=>false
theorem a40{α:Type}{o:Option α}{f:α→Bool}(h:opt o f=true):∃ a,o=some a∧f a=true:=by
 cases o with
 |none=>cases h
 |some a=>exact⟨a,rfl,h⟩
noncomputable def x02:(e:List Expr)→Option {q:Str × Pos // e=[.Name q.1 q.2]}
 |[.Name n p]=>some ⟨(n,p),rfl⟩
 |_=>none
noncomputable def p62:(e:List Expr)→Option {q:Const × Nat × Pos // e=[.Constant q.1 q.2.1 q.2.2]}
 |[.Constant c k p]=>some ⟨(c,k,p),rfl⟩
 |_=>none
noncomputable def p72:(e:List Expr)→Option {q:Pos // e=[.Dict [] [] q]}
 |[.Dict [] [] p]=>some ⟨p,rfl⟩
 |_=>none
noncomputable def p82:(e:List Expr)→Option {q:List Expr × Nat × Pos // e=[.Tuple q.1 q.2.1 q.2.2]}
 |[.Tuple l k p]=>some ⟨(l,k,p),rfl⟩
 |_=>none
noncomputable def p92:(e:List Expr)→Option {q:List Expr × Pos // e=[.List q.1 q.2]}
 |[.List l p]=>some ⟨(l,p),rfl⟩
 |_=>none
noncomputable def q02:(e:List Expr)→Option {q:Expr × Operator × Expr × Pos // e=[.BinOp q.1 q.2.1 q.2.2.1 q.2.2.2]}
 |[.BinOp l o r p]=>some ⟨(l,o,r,p),rfl⟩
 |_=>none
noncomputable def q12:(e:List Expr)→Option {q:Expr × CmpOp × Expr × Pos // e=[.Compare q.1 [q.2.1] [q.2.2.1] q.2.2.2]}
 |[.Compare l [o] [r] p]=>some ⟨(l,o,r,p),rfl⟩
 |_=>none
noncomputable def q22:(e:List Expr)→Option {q:Expr × Pos // e=[.UnaryOp .USub q.1 q.2]}
 |[.UnaryOp .USub x p]=>some ⟨(x,p),rfl⟩
 |_=>none
noncomputable def q32:(e:List Expr)→Option {q:Expr × Pos // e=[.UnaryOp .Not q.1 q.2]}
 |[.UnaryOp .Not x p]=>some ⟨(x,p),rfl⟩
 |_=>none
noncomputable def q42:(e:List Expr)→Option {q:Expr × Expr × List Expr × Pos // e=[.BoolOp .And (q.1::q.2.1::q.2.2.1) q.2.2.2]}
 |[.BoolOp .And (l::r::v) p]=>some ⟨(l,r,v,p),rfl⟩
 |_=>none
noncomputable def x12:(e:List Expr)→Option {q:Expr × Expr × List Expr × Pos // e=[.BoolOp .Or (q.1::q.2.1::q.2.2.1) q.2.2.2]}
 |[.BoolOp .Or (l::r::v) p]=>some ⟨(l,r,v,p),rfl⟩
 |_=>none
noncomputable def q52:(e:List Expr)→Option {q:Expr × Expr × Expr × Pos // e=[.IfExp q.1 q.2.1 q.2.2.1 q.2.2.2]}
 |[.IfExp t x y p]=>some ⟨(t,x,y,p),rfl⟩
 |_=>none
noncomputable def C72:(e:List Expr)→Option {q:Expr × CmpOp × CmpOp × Expr × Expr × Pos // e=[.Compare q.1 [q.2.1,q.2.2.1] [q.2.2.2.1,q.2.2.2.2.1] q.2.2.2.2.2]}
 |[.Compare l [o,o2] [r,s] p]=>some ⟨(l,o,o2,r,s,p),rfl⟩
 |_=>none
noncomputable def x22:(e:List Expr)→Option {q:Str × Pos × Expr × List Expr × Pos // e=[.Call (.Name q.1 q.2.1) (q.2.2.1::q.2.2.2.1) [] q.2.2.2.2]}
 |[.Call (.Name n q1) (x::l) [] p]=>some ⟨(n,q1,x,l,p),rfl⟩
 |_=>none
noncomputable def q62:(e:List Expr)→Option {q:Str × Pos × Expr × Expr × Pos // e=[.Call (.Name q.1 q.2.1) [q.2.2.1,q.2.2.2.1] [] q.2.2.2.2]}
 |[.Call (.Name n q1) [x,ty] [] p]=>some ⟨(n,q1,x,ty,p),rfl⟩
 |_=>none
noncomputable def C82:(e:List Expr)→Option {q:Expr × Expr × Pos // e=[.Subscript q.1 q.2.1 q.2.2]}
 |[.Subscript v x p]=>some ⟨(v,x,p),rfl⟩
 |_=>none
noncomputable def C92:(e:List Expr)→Option {q:Expr × Option Expr × Option Expr × Pos × Pos // e=[.Subscript q.1 (.Slice q.2.1 q.2.2.1 none q.2.2.2.1) q.2.2.2.2]}
 |[.Subscript v (.Slice l h none q1) p]=>some ⟨(v,l,h,q1,p),rfl⟩
 |_=>none
noncomputable def d02:(e:List Expr)→Option {q:Expr × Expr × Expr × List Expr × Scope × Pos // e=[.ListComp q.1 [⟨q.2.1,q.2.2.1,q.2.2.2.1,0⟩] q.2.2.2.2.1 q.2.2.2.2.2]}
 |[.ListComp elt [⟨tg,iter,ifs,0⟩] csc p]=>some ⟨(elt,tg,iter,ifs,csc,p),rfl⟩
 |_=>none
noncomputable def U91:(e:Expr)→Option {q:Str × Pos × Expr × Pos // e=.Call (.Name q.1 q.2.1) [q.2.2.1] [] q.2.2.2}
 |.Call (.Name n q1) [a] [] p=>some ⟨(n,q1,a,p),rfl⟩
 |_=>none
noncomputable def V01:(e:Expr)→Option {q:Str × Pos × Expr × Expr × Pos // e=.Call (.Name q.1 q.2.1) [q.2.2.1,q.2.2.2.1] [] q.2.2.2.2}
 |.Call (.Name n q1) [a,b] [] p=>some ⟨(n,q1,a,b,p),rfl⟩
 |_=>none
noncomputable def shN:(e:Expr)→Option {q:Str × Pos // e=.Name q.1 q.2}
 |.Name n p=>some ⟨(n,p),rfl⟩
 |_=>none
noncomputable def x32:(e:Expr)→Option {q:Str × Pos × Str × Pos × Nat × Pos // e=.Tuple [.Name q.1 q.2.1,.Name q.2.2.1 q.2.2.2.1] q.2.2.2.2.1 q.2.2.2.2.2}
 |.Tuple [.Name a q1,.Name b q2] k p=>some ⟨(a,q1,b,q2,k,p),rfl⟩
 |_=>none
noncomputable def D02:(e:List Expr)→Option {q:Str × Pos × Int × Nat × Pos × Pos // e=[.Subscript (.Name q.1 q.2.1) (.Constant (.int q.2.2.1) q.2.2.2.1 q.2.2.2.2.1) q.2.2.2.2.2]}
 |[.Subscript (.Name n p) (.Constant (.int j) c q1) r]=>some ⟨(n,p,j,c,q1,r),rfl⟩
 |_=>none
noncomputable def D12:(e:List Expr)→Option {q:Str × Pos × Str × Pos × List Expr × Pos × Pos // e=[.Call (.Name q.1 q.2.1) [.Call (.Name q.2.2.1 q.2.2.2.1) q.2.2.2.2.1 [] q.2.2.2.2.2.1] [] q.2.2.2.2.2.2]}
 |[.Call (.Name n p) [.Call (.Name m q1) l [] r] [] t]=>some ⟨(n,p,m,q1,l,r,t),rfl⟩
 |_=>none
noncomputable def tyE(sc:Scope):Ty→Expr→Bool
 |.seq=>λe=>opt (x32 e) λq=>q.1.1 == ("tuple":Str)&&q.1.2.2.1 == ("list":Str)&&glob sc "tuple"&&glob sc "list"
 |t=>λe=>opt (shN e) λq=>q.1.1 == Str.ofString (tyN t)&&glob sc (Str.ofString (tyN t))
noncomputable def d12:D→Bool
 |.dct=>true
 |_=>false
noncomputable def ifB:Expr→Bool
 |.IfExp ..=>true
 |_=>false
noncomputable def mt:Bool→List (Str × List Str)→List (Str × Int)→Ex→Scope→List Str→List Expr→Bool
 |lm,fns,nums,.nil=>λ_ _ es=>es.isEmpty
 |lm,fns,nums,.cons a r=>λsc N es=>match es with
  |e::es=>noStar e&&!isL a&&isL r&&mt lm fns nums a sc N [e]&&mt lm fns nums r sc N es
  |[]=>false
 |lm,fns,nums,.var i=>λ_ N es=>opt (x02 es) λq=>N[i]? == some q.1.1&&c70 q.1.1
 |lm,fns,nums,.con d=>λ_ _ es=>(opt (p62 es) λq=>c92 q.1.1 d) || opt (p72 es) λ_=>d12 d
 |lm,fns,nums,.gint g i=>λsc _ es=>opt (x02 es) λq=>q.1.1 == g&&glob sc q.1.1&&nums.contains (g,i)
 |lm,fns,nums,.tup as=>λsc N es=>opt (p82 es) λq=>isL as&&mt lm fns nums as sc N q.1.1
 |lm,fns,nums,.lst as=>λsc N es=>opt (p92 es) λq=>isL as&&mt lm fns nums as sc N q.1.1
 |lm,fns,nums,.bin o a b=>λsc N es=>opt (q02 es) λq=>q.1.2.1 == opB o&&!isL a&&!isL b&&mt lm fns nums a sc N [q.1.1]&&mt lm fns nums b sc N [q.1.2.2.1]
 |lm,fns,nums,.cmp o a b=>λsc N es=>opt (q12 es) λq=>q.1.2.1 == opC o&&y10 q.1.2.2.1&&!isL a&&!isL b&&mt lm fns nums a sc N [q.1.1]&&mt lm fns nums b sc N [q.1.2.2.1]
 |lm,fns,nums,.neg a=>λsc N es=>opt (q22 es) λq=>!isL a&&mt lm fns nums a sc N [q.1.1]
 |lm,fns,nums,.not a=>λsc N es=>opt (q32 es) λq=>!isL a&&!ifB q.1.1&&mt lm fns nums a sc N [q.1.1]
 |lm,fns,nums,.and a b=>λsc N es=>opt (q42 es) λq=>!isL a&&!isL b&&!ifB q.1.1&&mt lm fns nums a sc N [q.1.1]&&(if q.1.2.2.1.isEmpty then !ifB q.1.2.1&&mt lm fns nums b sc N [q.1.2.1] else mt lm fns nums b sc N [.BoolOp .And (q.1.2.1::q.1.2.2.1) q.1.2.2.2])
 |lm,fns,nums,.or a b=>λsc N es=>opt (x12 es) λq=>!isL a&&!isL b&&!ifB q.1.1&&mt lm fns nums a sc N [q.1.1]&&(if q.1.2.2.1.isEmpty then !ifB q.1.2.1&&mt lm fns nums b sc N [q.1.2.1] else mt lm fns nums b sc N [.BoolOp .Or (q.1.2.1::q.1.2.2.1) q.1.2.2.2])
 |lm,fns,nums,.orT a b=>λsc N es=>opt (x12 es) λq=>!isL a&&!isL b&&q.1.2.2.1.isEmpty&&mt lm fns nums a sc N [q.1.1]&&mt lm fns nums b sc N [q.1.2.1]
 |lm,fns,nums,.ite c a b=>λsc N es=>opt (q52 es) λq=>!isL c&&!isL a&&!isL b&&!ifB q.1.1&&mt lm fns nums c sc N [q.1.1]&&mt lm fns nums a sc N [q.1.2.1]&&mt lm fns nums b sc N [q.1.2.2.1]
 |lm,fns,nums,.ch o o' a b c=>λsc N es=>opt (C72 es) λq=>q.1.2.1 == opC o&&q.1.2.2.1 == opC o'&&y10 q.1.2.2.2.2.1&&!isL a&&!isL b&&!isL c&&mt lm fns nums a sc N [q.1.1]&&mt lm fns nums b sc N [q.1.2.2.2.1]&&mt lm fns nums c sc N [q.1.2.2.2.2.1]
 |lm,fns,nums,.bf f as=>λsc N es=>opt (x22 es) λq=>served f&&q.1.1 == (bfN f).1&&glob sc q.1.1&&isL as&&mt lm fns nums as sc N (q.1.2.2.1::q.1.2.2.2.1)
 |lm,fns,nums,.isi t a=>λsc N es=>opt (q62 es) λq=>q.1.1 == ("isinstance":Str)&&glob sc q.1.1&&noStar q.1.2.2.1&&!isL a&&mt lm fns nums a sc N [q.1.2.2.1]&&tyE sc t q.1.2.2.2.1
 |lm,fns,nums,.idx a i=>λsc N es=>opt (C82 es) λq=>V10 q.1.2.1&&!isL a&&!isL i&&mt lm fns nums a sc N [q.1.1]&&mt lm fns nums i sc N [q.1.2.1]
 |lm,fns,nums,.sl a lo hi=>λsc N es=>opt (C92 es) λq=>!isL a&&isL lo&&isL hi&&mt lm fns nums a sc N [q.1.1]&&mt lm fns nums lo sc N q.1.2.1.toList&&mt lm fns nums hi sc N q.1.2.2.1.toList
 |lm,fns,nums,.call f as=>λsc N es=>opt (x22 es) λq=>(opt fns[f]? λp=>p.1 == q.1.1&&p.2.length == q.1.2.2.2.1.length + 1)&&glob sc q.1.1&&isL as&&mt lm fns nums as sc N (q.1.2.2.1::q.1.2.2.2.1)
 |lm,fns,nums,.comp own capt p it src cond el=>λsc N es=>opt (d02 es) λq =>
   (c40 q.1.2.1).length == own&&(d90 N capt).length == capt.length&&a81 q.1.2.2.2.2.1 sc N (c40 q.1.2.1) (d90 N capt)&&h90 (c40 q.1.2.1++(d90 N capt).map (·.1)) (λx=>(c40 q.1.2.1).contains x) p q.1.2.1&&isL src&&!isL el&&isL cond&&q.1.2.2.2.1.length≤1&&noStar q.1.1&&y10 q.1.2.2.1 &&
    q.1.2.2.2.1.all (λc=>!ifB c) &&
    (match it with
    |.seq=>mt lm fns nums src sc N [q.1.2.2.1]
    |.rng1=>opt (U91 q.1.2.2.1) λr=>r.1.1 == ("range":Str)&&glob sc r.1.1&&mt lm fns nums src sc N [r.1.2.2.1]
    |.rng2=>opt (V01 q.1.2.2.1) λr=>r.1.1 == ("range":Str)&&glob sc r.1.1&&mt lm fns nums src sc N [r.1.2.2.1,r.1.2.2.2.1]
    |.zip=>opt (V01 q.1.2.2.1) λr=>r.1.1 == ("zip":Str)&&glob sc r.1.1&&m50 q.1.2.1&&mt lm fns nums src sc N [r.1.2.2.1,r.1.2.2.2.1]
    |.enum=>opt (U91 q.1.2.2.1) λr=>r.1.1 == ("enumerate":Str)&&glob sc r.1.1&&m50 q.1.2.1&&mt lm fns nums src sc N [r.1.2.2.1])&&mt false fns nums cond q.1.2.2.2.2.1 (c40 q.1.2.1++(d90 N capt).map (·.1)) q.1.2.2.2.1&&mt false fns nums el q.1.2.2.2.2.1 (c40 q.1.2.1++(d90 N capt).map (·.1)) [q.1.1]
 |lm,fns,nums,.lrng b as=>λsc N es=>opt (D12 es) λq=>q.1.1 == lrN b&&q.1.2.2.1 == ("range":Str)&&glob sc (lrN b)&&glob sc "range"&&isL as&&decide (1≤q.1.2.2.2.2.1.length∧q.1.2.2.2.2.1.length≤2)&&mt lm fns nums as sc N q.1.2.2.2.2.1
 |lm,fns,nums,.zget i k=>λ_ N es=>opt (D02 es) λq=>N[i]? == some q.1.1&&c70 q.1.1&&q.1.2.2.1 == (k:Int)
theorem d50{sc:Scope}{x:Str}(h:glob sc x=true):sc.names.lookup x=some .globalImplicit∧(x == ("__debug__":Str))=false∧x≠"__name__":=by
 unfold glob at h
 simp only[Bool.and_eq_true,Bool.not_eq_true',beq_iff_eq] at h
 refine⟨h.1.1,h.1.2,λe=>?_⟩
 subst e
 simp at h
section
variable {lm:Bool}{X:Cx}{G:Gs}{E:XK}{N:List Str}{sc:Scope}
theorem d22{K:PySem.W.Frag}{zA:Option Addr}{H0 H:Hp}{s:S}{v:V}(h:RvP K zA H s v):RvS K zA H0 H (plS s) v:=by cases s <;> exact h
theorem P41{e:Expr}(h:(!ifB e)=true):∀ t a b p,e≠.IfExp t a b p:=by
 intro t a b p he
 subst he
 cases h
theorem a70{x:Ex}{e:Expr}(hL:isL x=false)(h:Good X G E x [e]):a80 X G E x e:=by
 cases x with
 |nil=>cases hL
 |cons _ _=>cases hL
 |_ =>
  obtain⟨e',h1,h2⟩:=(show ∃ e',[e]=[e']∧a80 X G E _ e' from h)
  cases h1
  exact h2
theorem b60{x:Ex}{e:Expr}(hL:isL x=false)(h:a80 X G E x e):Good X G E x [e]:=by
 cases x with
 |nil=>cases hL
 |cons _ _=>cases hL
 |_=>exact⟨e,rfl,h⟩
theorem f50{zA:Option Addr}{H:Hp}{Q:VK}{r:R (List S)}(po:V00 X.K G zA E H Q r):∀ c z1,r=.er c z1→EPost G zA E c z1 H:=λc z1 e=>by subst e;exact po
theorem O40{zA:Option Addr}{H:Hp}{Q:Bool→Hp→Prop}{r:R (List S)}(po:C21 G zA E H Q r):∀ c z1,r=.er c z1→EPost G zA E c z1 H:=λc z1 e=>by subst e;exact po
theorem q72(x:XI lm X G E N sc){i:Nat}{n:Str}{pos:Pos}(h1:N[i]?=some n)(h2:c70 n=true):a80 X G E (.var i) (.Name n pos):=by
 unfold c70 at h2
 simp only[Bool.and_eq_true,Bool.not_eq_true'] at h2
 refine b00 (PE.imp (w30 (i:=i) (by rw[x.hN];exact h1) (x.vis n (List.mem_of_getElem? h1)) h2.1 h2.2) λσ H Q q=>?_) rfl
 obtain⟨zA,ρ,z,r,rel,st,e,po⟩:=q
 have e':(match ρ[i]? with | some (some s)=>M.ret [plS s] | _=>M.no) z=some r:=e
 cases hs:ρ[i]? with
 |none=>rw[hs] at e';cases e'
 |some o =>
  cases o with
  |none=>rw[hs] at e';cases e'
  |some s =>
   rw[hs] at e'
   cases e'
   obtain⟨v,hv,rv⟩:=rel i s hs
   obtain⟨s',e',po⟩:=po
   cases e'
   exact⟨v,hv,po v H Ext.refl st (d22 rv)⟩
theorem q82{c:Const}{d:D}{j:Nat}{pos:Pos}(h:c92 c d=true):a80 X G E (.con d) (.Constant c j pos):=by
 refine b00 ?_ rfl
 have fin:∀ {v:V},(∀ H,Hd X.K H d v)→∀ σ H Q,tI X.K G E (.con d) σ H Q→tC v σ H Q:=λ{v} hd σ H Q q=>by
  obtain⟨zA,ρ,z,r,rel,st,e,po⟩:=q
  cases e
  obtain⟨s',e',po⟩:=po
  cases e'
  exact po v H Ext.refl st (x01 (hd _))
 cases c with
 |int i=>cases d <;> first | (simp only[c92,beq_iff_eq] at h;subst h;exact PE.imp i81 (fin λH=>Hd.int)) | (cases h)
 |bool b=>cases d <;> first | (simp only[c92,beq_iff_eq] at h;subst h;exact PE.imp l22 (fin λH=>Hd.bl)) | (cases h)
 |str y=>cases d <;> first | (simp only[c92,beq_iff_eq] at h;subst h;exact PE.imp F01 (fin λH=>Hd.str)) | (cases h)
 |none=>cases d <;> first | exact PE.imp W01 (fin λH=>Hd.non) | (cases h)
 |_=>cases h
theorem q92{pos:Pos}:a80 X G E (.con .dct) (.Dict [] [] pos):=by
 refine b00 (PE.imp M61 λσ H Q q=>?_) rfl
 obtain⟨zA,ρ,z,r,rel,st,e,po⟩:=q
 cases e
 obtain⟨s',e',po⟩:=po
 cases e'
 intro p hp
 refine po _ _ (Ext.of (a30.new _ hp)) (st.same (a30.new _ hp)) (x01 ?_)
 unfold Hd
 exact⟨p,[],rfl,c80 c30 (st.n61 hp)⟩
theorem d32(x:XI lm X G E N sc){g:Str}{i:Int}{pos:Pos}(h1:glob sc g=true)(h2:(g,i)∈G.nums):a80 X G E (.gint g i) (.Name g pos):=by
 obtain⟨k1,k2,_⟩:=d50 h1
 obtain⟨t,ht⟩:=x.num _ h2
 refine b00 (PE.imp (I91 (v:=.int i) (x.glb g k1) ht ⟨t,rfl⟩ k2) λσ H Q q=>?_) rfl
 obtain⟨zA,ρ,z,r,rel,st,e,po⟩:=q
 cases e
 obtain⟨s',e',po⟩:=po
 cases e'
 exact po _ H Ext.refl st g30
theorem I30{K:PySem.W.Frag}{zA:Option Addr}{H0 H:Hp}{l:List S}{vs:List V}{ds:List D}(h:Paired (RvS K zA H0 H) l vs)(e:plA l=some ds):HdA K (hz zA H) ds vs:=RvA.ds (Paired.U41 h λ_ _ q=>q.pl) e
theorem r02{as:Ex}{l:List Expr}{k:Nat}{pos:Pos}(hL:isL as=true)(g:Good X G E as l):a80 X G E (.tup as) (.Tuple l k pos):=by
 refine b00 (PE.imp (F51 (g.args hL).1) λσ H Q q=>?_) rfl
 obtain⟨zA,ρ,z,r,rel,st,e,po⟩:=q
 refine g71 rel st e (f50 po) λl z1 e1 vs H1 x1 st1 rvs=>?_
 obtain⟨ds,hd,e2⟩:=M.a10 e1
 split at e2
 ·rename_i hm
  cases e2
  obtain⟨s',e',po⟩:=po
  cases e'
  have h:=I30 rvs hd
  exact⟨e40 (by rw[h.length];exact hm),λp hp=>po _ _ (x1.trans (Ext.of (a30.new _ hp))) (st1.same (a30.new _ hp)) (x01 (Hd.tup ((st1.same (a30.new _ hp)).N41 (SqT.of c30)) (h.same (i70 (a30.new _ hp)))))⟩
 ·cases e2
theorem r12{as:Ex}{l:List Expr}{pos:Pos}(hL:isL as=true)(g:Good X G E as l):a80 X G E (.lst as) (.List l pos):=by
 refine b00 (PE.imp (Y51 (g.args hL).1) λσ H Q q=>?_) rfl
 obtain⟨zA,ρ,z,r,rel,st,e,po⟩:=q
 refine g71 rel st e (f50 po) λl z1 e1 vs H1 x1 st1 rvs=>?_
 obtain⟨ds,hd,e2⟩:=M.a10 e1
 split at e2
 ·rename_i hm
  cases e2
  obtain⟨s',e',po⟩:=po
  cases e'
  have h:=I30 rvs hd
  exact⟨e40 (by rw[h.length];exact hm),λp hp=>po _ _ (x1.trans (Ext.of (a30.new _ hp))) (st1.same (a30.new _ hp)) ((t00 st1 h hp).from x1)⟩
 ·cases e2
theorem a91{α:Type}{a b:Ex}{k:D→D→M α}{zA:Option Addr}{ρ:Env}{z:Z}{r:R α}{σ:L2.St}{H:Hp}{Q:V→V→Hp→Prop}(rel:z00 X.K zA H ρ σ)(st:d60 zA z H)
  (h:M.bind (ev G.F a ρ) (λx=>M.bind (M.of (pl x)) λx=>M.bind (ev G.F b ρ) λy=>M.bind (M.of (pl y)) λy=>k x y) z=some r) (her:∀ c z1,r=.er c z1→EPost G zA E c z1 H)
  (hk:∀ dx dy z2 v w H2,k dx dy z2=some r→Ext zA H H2→d60 zA z2 H2→Hd X.K (hz zA H2) dx v→Hd X.K (hz zA H2) dy w→Q v w H2) :
  tI X.K G E a σ H λv H1=>tI X.K G E b σ H1 λw H2=>Q v w H2:=by
 refine k00 rel st h her λl z1 e1=>?_
 obtain⟨dx,p1,e2⟩:=M.a10 e1
 obtain⟨s1,rfl,q1⟩:=f40 p1
 refine⟨s1,rfl,λv H1 x1 st1 rv=>?_⟩
 refine k00 (rel.mono x1) st1 e2 (λc z2 q=>(her c z2 q).mono x1) λm z2 e3=>?_
 obtain⟨dy,p2,e4⟩:=M.a10 e3
 obtain⟨s2,rfl,q2⟩:=f40 p2
 exact⟨s2,rfl,λw H2 x2 st2 rw'=>hk dx dy z2 v w H2 e4 (x1.trans x2) st2 ((rv.pl.mono x2).d_ q1) (rw'.pl.d_ q2)⟩
theorem e80{zA:Option Addr}{H H2:Hp}{z2:Z}{s:S}{Q:VK}(po:V00 X.K G zA E H Q (.ok [s] z2))(x:Ext zA H H2)(st:d60 zA z2 H2):∀ v H',a30 H2 H'→RvS X.K zA H2 H' s v→Q v H':=λv H' sm rv=>by
 obtain⟨s',e',po⟩:=po
 cases e'
 exact po v H' (x.trans (Ext.of sm)) (st.same sm) (rv.from x)
theorem r22{o:Bi}{a b:Ex}{l r:Expr}{pos:Pos}(ga:a80 X G E a l)(gb:a80 X G E b r):a80 X G E (.bin o a b) (.BinOp l (opB o) r pos):=by
 refine b00 (PE.imp (m72 (opD o) ga.pe gb.pe) λσ H Q q=>?_) rfl
 obtain⟨zA,ρ,z,rr,rel,st,e,po⟩:=q
 refine a91 rel st e (f50 po) λdx dy z2 v w H2 e2 x2 st2 h1 h2=>?_
 obtain⟨s,hs,e3⟩:=M.a10 e2
 cases e3
 exact⟨zA,z2,dx,dy,s,st2,h1,h2,hs,e80 po x2 st2⟩
theorem H01{zA:Option Addr}{H:Hp}{Q:Bool→Hp→Prop}{r:R (List S)}(po:C21 G zA E H Q r):V00 X.K G zA E H (λx H'=>∃ k,x=.bl k∧Q k H') r:=by
 cases r with
 |er c z1=>exact po
 |ok l z1 =>
  obtain⟨b,rfl,po⟩:=po
  exact⟨_,rfl,λv H' ex st' rv=>⟨b,Hd.bl_ (show Hd X.K (hz zA H') (.bl b) v from rv),po H' ex st'⟩⟩
theorem r32(x:XI lm X G E N sc){o:Cm}{a b:Ex}{l r:Expr}{pos:Pos}(hs:y10 r=true)(ga:a80 X G E a l)(gb:a80 X G E b r):a80 X G E (.cmp o a b) (.Compare l [opC o] [r] pos):=by
 have key:∀ σ H Q,tI X.K G E (.cmp o a b) σ H Q→tOp (rD2 X.K λa b=>(y70 o a b).map λc=>.d (.bl c)) (tI X.K G E a) (tI X.K G E b) σ H Q:=λσ H Q q=>by
  obtain⟨zA,ρ,z,rr,rel,st,e,po⟩:=q
  refine a91 rel st e (f50 po) λdx dy z2 v w H2 e2 x2 st2 h1 h2=>?_
  obtain⟨c,hc,e3⟩:=M.a10 e2
  cases e3
  exact⟨zA,z2,dx,dy,_,st2,h1,h2,by show Option.map _ (y70 o dx dy)=_;rw[hc];rfl,e80 po x2 st2⟩
 refine⟨PE.imp (J71 (U81 x.room.units o) ga.pe gb.pe (o61 hs _)) key,λ_=>PT.imp (J81 (U81 x.room.units o) ga.pe gb.pe (o61 hs _)) λσ H Q q=>?_,λop vs p h=>by cases h⟩
 obtain⟨zA,ρ,z,rr,rel,st,e,po⟩:=q
 exact key σ H _ ⟨zA,ρ,z,rr,rel,st,e,H01 po⟩
theorem r42{a:Ex}{l:Expr}{pos:Pos}(ga:a80 X G E a l):a80 X G E (.neg a) (.UnaryOp .USub l pos):=by
 refine b00 (PE.imp (m82 Y11 ga.pe) λσ H Q q=>?_) rfl
 obtain⟨zA,ρ,z,rr,rel,st,e,po⟩:=q
 refine k00 rel st e (f50 po) λm z1 e1=>?_
 obtain⟨i,p1,e2⟩:=M.a10 e1
 obtain⟨d,p2,p3⟩:=Option.bind_eq_some_iff.mp p1
 obtain⟨s1,rfl,q1⟩:=f40 p2
 cases e2
 refine⟨s1,rfl,λv H1 x1 st1 rv=>?_⟩
 have hd:=rv.pl.d_ q1
 cases d with
 |int j =>
  cases p3
  exact⟨i,hd.h60,e80 po x1 st1 _ _ (a30.refl H1) g30⟩
 |_=>cases p3
theorem r52{a:Ex}{l:Expr}{pos:Pos}(ga:a80 X G E a l)(hn:∀ t x y p,l≠.IfExp t x y p):a80 X G E (.not a) (.UnaryOp .Not l pos):=by
 refine⟨PE.imp (W71 ga.pe) λσ H Q q=>?_,λ_=>PT.imp (W41 (ga.pt hn)) λσ H Q q=>?_,λop vs p h=>by cases h⟩
 ·obtain⟨zA,ρ,z,rr,rel,st,e,po⟩:=q
  refine k00 rel st e (f50 po) λm z1 e1=>?_
  obtain⟨b,p1,e2⟩:=M.a10 e1
  obtain⟨d,p2,p3⟩:=Option.bind_eq_some_iff.mp p1
  obtain⟨s1,rfl,q1⟩:=f40 p2
  cases e2
  refine⟨s1,rfl,λv H1 x1 st1 rv=>?_⟩
  have hd:=rv.pl.d_ q1
  cases d with
  |bl c =>
   cases p3
   exact⟨b,hd.bl_,e80 po x1 st1 _ _ (a30.refl H1) g70⟩
  |_=>cases p3
 ·obtain⟨zA,ρ,z,rr,rel,st,e,po⟩:=q
  refine O30 rel st e (O40 po) λb z1 e1 H1 x1 st1=>?_
  cases e1
  obtain⟨b',e',po⟩:=po
  cases e'
  exact po H1 x1 st1
end
end Q
namespace Q
open PySem L2 PySem.Spec PyProof.Rows
variable [TB:Tb]
section
variable {lm:Bool}{X:Cx}{G:Gs}{E:XK}{N:List Str}{sc:Scope}
theorem I40{a:Ex}{k:Bool→M (List S)}{zA:Option Addr}{ρ:Env}{z:Z}{r:R (List S)}{σ:L2.St}{H:Hp}{Q':VK}(rel:z00 X.K zA H ρ σ)(st:d60 zA z H)
  (h:M.bind (ev G.F a ρ) (λx=>M.bind (M.of ((pl x).bind asB)) k) z=some r) (her:∀ c z1,r=.er c z1→EPost G zA E c z1 H)
  (hok:∀ b z1,k b z1=some r→∀ H1,Ext zA H H1→d60 zA z1 H1→Q' (.bl b) H1):tI X.K G E a σ H Q':=by
 refine k00 rel st h her λm z1 e1=>?_
 obtain⟨b,p1,e2⟩:=M.a10 e1
 obtain⟨d,p2,p3⟩:=Option.bind_eq_some_iff.mp p1
 obtain⟨s1,rfl,q1⟩:=f40 p2
 refine⟨s1,rfl,λv H1 x1 st1 rv=>?_⟩
 have hd:=rv.pl.d_ q1
 cases d with
 |bl c =>
  cases p3
  rw[hd.bl_]
  exact hok b z1 e2 H1 x1 st1
 |_=>cases p3
theorem r62{a b:Ex}{l r:Expr}{vs:List Expr}{p:Pos}(ga:a80 X G E a l)(hl:∀ t x y p,l≠.IfExp t x y p)
  (gb:a80 X G E b (.BoolOp .And (r::vs) p)):a80 X G E (.and a b) (.BoolOp .And (l::r::vs) p):=by
 have pw:PW X (.BoolOp .And (l::r::vs) p) (tT X.K G E (.and a b)):=by
  refine PW.imp (W31 (ga.pt hl) (gb.pw _ _ _ rfl)) λσ H Q q=>?_
  obtain⟨zA,ρ,z,rr,rel,st,e,po⟩:=q
  refine O30 rel st e (O40 po) λc z1 e1 H1 x1 st1=>?_
  cases c with
  |true =>
   rw[if_pos rfl]
   rw[if_pos rfl] at e1
   refine O30 (rel.mono x1) st1 e1 (λc z2 q=>((O40 po) c z2 q).mono x1) λc z2 e2 H2 x2 st2=>?_
   cases e2
   obtain⟨b',e',po⟩:=po
   cases e'
   exact po H2 (x1.trans x2) st2
  |false =>
   rw[if_neg Bool.false_ne_true]
   rw[if_neg Bool.false_ne_true] at e1
   cases e1
   obtain⟨b',e',po⟩:=po
   cases e'
   exact po H1 x1 st1
 refine⟨PE.imp (W61 ga.pe gb.pe) λσ H Q q=>?_,λ_=>pw.pt,λop vs p h=>pw⟩
 obtain⟨zA,ρ,z,rr,rel,st,e,po⟩:=q
 refine I40 rel st e (f50 po) λc z1 e1 H1 x1 st1=>⟨c,rfl,?_⟩
 cases c with
 |true =>
  rw[if_pos rfl]
  rw[if_pos rfl] at e1
  refine I40 (rel.mono x1) st1 e1 (λc z2 q=>((f50 po) c z2 q).mono x1) λc z2 e2 H2 x2 st2=>?_
  cases e2
  exact e80 po (x1.trans x2) st2 _ _ (a30.refl H2) g70
 |false =>
  rw[if_neg Bool.false_ne_true]
  rw[if_neg Bool.false_ne_true] at e1
  cases e1
  exact e80 po x1 st1 _ _ (a30.refl H1) g70
theorem D22{a b:Ex}{l r:Expr}{vs:List Expr}{p:Pos}(ga:a80 X G E a l)(hl:∀ t x y p,l≠.IfExp t x y p)
  (gb:a80 X G E b (.BoolOp .Or (r::vs) p)):a80 X G E (.or a b) (.BoolOp .Or (l::r::vs) p):=by
 have pw:PW X (.BoolOp .Or (l::r::vs) p) (tT X.K G E (.or a b)):=by
  refine PW.imp (l32 (ga.pt hl) (gb.pw _ _ _ rfl)) λσ H Q q=>?_
  obtain⟨zA,ρ,z,rr,rel,st,e,po⟩:=q
  refine O30 rel st e (O40 po) λc z1 e1 H1 x1 st1=>?_
  cases c with
  |false =>
   rw[if_neg Bool.false_ne_true]
   rw[if_neg Bool.false_ne_true] at e1
   refine O30 (rel.mono x1) st1 e1 (λc z2 q=>((O40 po) c z2 q).mono x1) λc z2 e2 H2 x2 st2=>?_
   cases e2
   obtain⟨b',e',po⟩:=po
   cases e'
   exact po H2 (x1.trans x2) st2
  |true =>
   rw[if_pos rfl]
   rw[if_pos rfl] at e1
   cases e1
   obtain⟨b',e',po⟩:=po
   cases e'
   exact po H1 x1 st1
 refine⟨PE.imp (l62 ga.pe gb.pe) λσ H Q q=>?_,λ_=>pw.pt,λop vs p h=>pw⟩
 obtain⟨zA,ρ,z,rr,rel,st,e,po⟩:=q
 refine I40 rel st e (f50 po) λc z1 e1 H1 x1 st1=>⟨c,rfl,?_⟩
 cases c with
 |false =>
  rw[if_neg Bool.false_ne_true]
  rw[if_neg Bool.false_ne_true] at e1
  refine I40 (rel.mono x1) st1 e1 (λc z2 q=>((f50 po) c z2 q).mono x1) λc z2 e2 H2 x2 st2=>?_
  cases e2
  exact e80 po (x1.trans x2) st2 _ _ (a30.refl H2) g70
 |true =>
  rw[if_pos rfl]
  rw[if_pos rfl] at e1
  cases e1
  exact e80 po x1 st1 _ _ (a30.refl H1) g70
theorem d42{op:BoolOp}{b:Ex}{r:Expr}{p:Pos}(gb:a80 X G E b r)(hr:∀ t x y p,r≠.IfExp t x y p):a80 X G E b (.BoolOp op [r] p):=by
 have pw:PW X (.BoolOp op [r] p) (tT X.K G E b):=by
  cases op with
  |And=>exact J01 (gb.pt hr)
  |Or=>exact W21 (gb.pt hr)
 exact⟨W51 gb.pe,λ_=>pw.pt,λ_ _ _ _=>pw⟩
theorem V00.d52{zA:Option Addr}{H H1:Hp}{Q:VK}{rr:R (List S)}(po:V00 X.K G zA E H Q rr)(x1:Ext zA H H1):V00 X.K G zA E H1 Q rr:=by
 cases rr with
 |er c z1=>exact EPost.mono po x1
 |ok l z2 =>
  obtain⟨s,e',po⟩:=po
  exact⟨s,e',λv H' x' st' rv=>po v H' (x1.trans x') st' (rv.from x1)⟩
theorem O50{α:Type}{m:M α}{z:Z}{r:R α}(h:M.calm m z=some r):m z=some r∧∃ a z1,r=.ok a z1:=by
 unfold M.calm at h
 split at h
 ·rename_i a z1 e
  cases h
  exact⟨e,a,z1,rfl⟩
 ·cases h
theorem d62{a b:Expr}{ta tb:TE}{pos:Pos}(ha:PE X a ta)(hb:PE X b tb):PE X (.BoolOp .Or [a,b] pos) (λσ H Q=>ta σ H λx H1=>∃ t xs,x=.ref t∧SqT X.K H1 t xs∧if xs.isEmpty=true then tb σ H1 Q else Q x H1):=by
 intro pins s σ H Q I h
 refine BoolOp_or (thn (ha pins s σ H _ I h) λv s1 ⟨x,H1,I1,r1,q1⟩=>?_)
 obtain⟨t,xs,rfl,hq,q1⟩:=q1
 obtain⟨its,hv,ht,hl⟩:=I1.tuple hq
 have hlen:xs.length=its.length:=hv.length
 cases r1
 refine truthy_tuple ht (by rw[List.size_toArray,← hlen];have:=sizeLine_eq;omega) ?_
 cases xs with
 |nil =>
  cases its with
  |nil=>exact BoolOp_one (hb pins _ σ H1 Q (I1.tok _) q1)
  |cons _ _=>cases hlen
 |cons y r =>
  cases its with
  |nil=>cases hlen
  |cons _ _=>exact⟨.ref t,H1,I1.tok _,rfl,q1⟩
theorem H11{y:List S}{l:List D}(h:(pl y).bind a52=some l):∃ s,y=[s]∧plD s=some (.tup l):=by
 obtain⟨d,p2,p3⟩:=Option.bind_eq_some_iff.mp h
 obtain⟨s1,rfl,q1⟩:=f40 p2
 cases d with
 |tup l=>cases p3;exact⟨s1,rfl,q1⟩
 |_=>cases p3
theorem r72{a b:Ex}{l r:Expr}{p:Pos}(ga:a80 X G E a l)(gb:a80 X G E b r):a80 X G E (.orT a b) (.BoolOp .Or [l,r] p):=by
 have no:∀ {zA:Option Addr}{ρ:Env}{z:Z}{rr:R (List S)}{H:Hp}{Q:Bool→Hp→Prop},ev G.F (.orT a b) ρ z=some rr→C21 G zA E H Q rr→False:=λe po=>by
  obtain⟨e,u,z1,rfl⟩:=O50 e
  obtain⟨c,rfl,_⟩:=po
  rcases M.bind_some e with ⟨m,z2,_,e2⟩ | ⟨c,z2,_,e2⟩
  ·obtain⟨ds,_,e3⟩:=M.a10 e2
   split at e3
   ·rcases M.bind_some e3 with ⟨m,z2,_,e2⟩ | ⟨c,z2,_,e2⟩
    ·obtain⟨ds,_,e3⟩:=M.a10 e2
     cases e3
    ·cases e2
   ·cases e3
  ·cases e2
 refine⟨PE.imp (d62 ga.pe gb.pe) λσ H Q q=>?_,λ_ pins s σ H Q I ⟨_,_,_,_,_,_,e,po⟩=>(no e po).elim,λ_ _ _ _ wh pins s σ H Q I ⟨_,_,_,_,_,_,e,po⟩=>(no e po).elim⟩
 obtain⟨zA,ρ,z,rr,rel,st,e,po⟩:=q
 obtain⟨e,u,z1,rfl⟩:=O50 e
 refine k00 rel st e (f50 po) λm z1 e1=>?_
 obtain⟨ds,p1,e2⟩:=M.a10 e1
 obtain⟨s1,rfl,q1⟩:=H11 p1
 refine⟨s1,rfl,λv H1 x1 st1 rv=>?_⟩
 have hd:=rv.pl.d_ q1
 obtain⟨t,xs,rfl,h1,h2⟩:=hd.A90
 refine⟨t,xs,rfl,(a20 zA H1).sqT h1,?_⟩
 cases ds with
 |nil =>
  cases h2.e70
  have po:=po.d52 x1
  refine k00 (rel.mono x1) st1 e2 (f50 po) λm z1 e1=>?_
  obtain⟨ds,p1,e2⟩:=M.a10 e1
  obtain⟨s1,rfl,q1⟩:=H11 p1
  cases e2
  exact⟨s1,rfl,λv H2 x2 st2 rv=>e80 po x2 st2 _ _ (a30.refl H2) (rv.pl.d_ q1)⟩
 |cons y r =>
  obtain⟨u,w,rfl,_⟩:=h2.b50
  cases e2
  exact e80 po x1 st1 _ _ (a30.refl H1) hd
theorem r82{c a b:Ex}{t x y:Expr}{p:Pos}(gc:a80 X G E c t)(ht:∀ a b d p,t≠.IfExp a b d p)(ga:a80 X G E a x)(gb:a80 X G E b y):a80 X G E (.ite c a b) (.IfExp t x y p):=by
 refine⟨PE.imp (x41 (gc.pt ht) ga.pe gb.pe) λσ H Q q=>?_,λh=>absurd rfl (h t x y p),λop vs p h=>by cases h⟩
 obtain⟨zA,ρ,z,rr,rel,st,e,po⟩:=q
 refine O30 rel st e (f50 po) λk z1 e1 H1 x1 st1=>?_
 have po1:=po.d52 x1
 cases k with
 |true =>
  rw[if_pos rfl]
  rw[if_pos rfl] at e1
  exact⟨zA,ρ,z1,rr,rel.mono x1,st1,e1,po1⟩
 |false =>
  rw[if_neg Bool.false_ne_true]
  rw[if_neg Bool.false_ne_true] at e1
  exact⟨zA,ρ,z1,rr,rel.mono x1,st1,e1,po1⟩
theorem D32(x:XI lm X G E N sc){o o':Cm}{a b c:Ex}{l r s:Expr}{pos:Pos}(hs:y10 s=true)(ga:a80 X G E a l)(gb:a80 X G E b r)(gc:a80 X G E c s):a80 X G E (.ch o o' a b c) (.Compare l [opC o,opC o'] [r,s] pos):=by
 have hm:lastMarks [opC o,opC o'] [r,s]=false:=o61 hs _
 have key:∀ σ H Q,tI X.K G E (.ch o o' a b c) σ H Q→j31 (rD2 X.K λa b=>(y70 o a b).map λc=>.d (.bl c)) (rD2 X.K λa b=>(y70 o' a b).map λc=>.d (.bl c)) (tI X.K G E a) (tI X.K G E b) (tI X.K G E c) σ H Q:=λσ H Q q=>by
  obtain⟨zA,ρ,z,rr,rel,st,e,po⟩:=q
  refine a91 rel st e (f50 po) λdx dy z2 v w H2 e2 x2 st2 h1 h2=>?_
  obtain⟨k,hk,e3⟩:=M.a10 e2
  refine⟨zA,z2,dx,dy,.d (.bl k),st2,h1,h2,by show Option.map _ (y70 o dx dy)=_;rw[hk];rfl,λv3 H3 sm rv=>⟨k,Hd.bl_ (show Hd X.K (hz zA H3) (.bl k) v3 from rv),?_⟩⟩
  have x3:=x2.trans (Ext.of sm)
  have st3:=st2.same sm
  cases k with
  |true =>
   rw[if_pos rfl]
   rw[if_pos rfl] at e3
   refine k00 (rel.mono x3) st3 e3 (λc z2 q=>((f50 po) c z2 q).mono x3) λm z4 e4=>?_
   obtain⟨dw,p1,e5⟩:=M.a10 e4
   obtain⟨k',hk',e6⟩:=M.a10 e5
   obtain⟨s1,rfl,q1⟩:=f40 p1
   cases e6
   refine⟨s1,rfl,λv4 H4 x4 st4 rv4=>?_⟩
   exact⟨zA,z4,dy,dw,_,st4,(h2.same (a30.trans (i70 sm) x4)),rv4.pl.d_ q1,by show Option.map _ (y70 o' dy dw)=_;rw[hk'];rfl,e80 po (x3.trans x4) st4⟩
  |false =>
   rw[if_neg Bool.false_ne_true]
   rw[if_neg Bool.false_ne_true] at e3
   cases e3
   exact e80 po x3 st3 _ _ (a30.refl H3) g70
 refine⟨PE.imp (x81 (U81 x.room.units o) (U81 x.room.units o') ga.pe gb.pe gc.pe hm) key,λ_=>PT.imp (x91 (U81 x.room.units o) (U81 x.room.units o') ga.pe gb.pe gc.pe hm) λσ H Q q=>?_,λop vs p h=>by cases h⟩
 obtain⟨zA,ρ,z,rr,rel,st,e,po⟩:=q
 exact key σ H _ ⟨zA,ρ,z,rr,rel,st,e,H01 po⟩
theorem H21{f:Bf}{as:Ex}:∀ σ H Q,tI X.K G E (.bf f as) σ H Q→tCB (rDn X.K (bfD f)) (tA X.K G E as) σ H Q:=λσ H Q q=>by
 obtain⟨zA,ρ,z,rr,rel,st,e,po⟩:=q
 refine g71 rel st e (f50 po) λl z1 e1 vs H1 x1 st1 rvs=>?_
 obtain⟨ds,hd,e2⟩:=M.a10 e1
 obtain⟨s,hs,e3⟩:=M.a10 e2
 cases e3
 exact⟨zA,z1,ds,s,st1,I30 rvs hd,hs,e80 po x1 st1⟩
theorem V20(x:XI lm X G E N sc){f:Bf}{as:Ex}{n:Str}{id:String}{e:Expr}{l:List Expr}{p pos:Pos}(hc:f30 X (.builtin id) (rDn X.K (bfD f)))(hb:n∈P31)(hv:bootBuiltins n=some (.builtin id))(hg:glob sc n=true)(hL:isL as=true)(g:Good X G E as (e::l)):a80 X G E (.bf f as) (.Call (.Name n p) (e::l) [] pos):=by
 obtain⟨k1,k2,k3⟩:=d50 hg
 obtain⟨ha,hs⟩:=g.args hL
 rw[List.all_cons,Bool.and_eq_true] at hs
 exact b00 (PE.imp (G00 hc (x.glb n k1) (x.blt n hb) hv ha k3 k2 (b90 hs.1 l X.env) (t30 X.env pos hs.2)) H21) rfl
theorem P51(x:XI lm X G E N sc){f:Bf}{as:Ex}{n:Str}{T:String}{e:Expr}{l:List Expr}{p pos:Pos}(hc:f30 X (.type T) (rDn X.K (bfD f)))(hb:n∈P31)(hv:bootBuiltins n=some (.type T))(hg:glob sc n=true)(hL:isL as=true)(g:Good X G E as (e::l)):a80 X G E (.bf f as) (.Call (.Name n p) (e::l) [] pos):=by
 obtain⟨k1,k2,k3⟩:=d50 hg
 obtain⟨ha,hs⟩:=g.args hL
 rw[List.all_cons,Bool.and_eq_true] at hs
 exact b00 (PE.imp (j71 hc (x.glb n k1) (x.blt n hb) hv ha k3 k2 (b90 hs.1 l X.env) (t30 X.env pos hs.2)) H21) rfl
theorem d72:bootBuiltins "len"=some (.builtin "len"):=by decide +kernel
theorem o71:bootBuiltins "sorted"=some (.builtin "sorted"):=by decide +kernel
theorem d82:bootBuiltins "all"=some (.builtin "all"):=by decide +kernel
theorem d92:bootBuiltins "sum"=some (.builtin "sum"):=by decide +kernel
theorem e02:bootBuiltins "min"=some (.builtin "min"):=by decide +kernel
theorem e12:bootBuiltins "max"=some (.builtin "max"):=by decide +kernel
theorem e22:bootBuiltins "abs"=some (.builtin "abs"):=by decide +kernel
theorem t40:bootBuiltins "isinstance"=some (.builtin "isinstance"):=by decide +kernel
theorem e32:bootBuiltins "int"=some (.type "int"):=by decide +kernel
theorem I50:bootBuiltins "tuple"=some (.type "tuple"):=by decide +kernel
theorem V30:bootBuiltins "list"=some (.type "list"):=by decide +kernel
theorem D42(x:XI lm X G E N sc){f:Bf}{as:Ex}{n:Str}{e:Expr}{l:List Expr}{p pos:Pos}(hf:served f=true)(hn:n=(bfN f).1)(hg:glob sc n=true)(hL:isL as=true)(g:Good X G E as (e::l)):a80 X G E (.bf f as) (.Call (.Name n p) (e::l) [] pos):=by
 subst hn
 cases f with
 |len=>exact V20 x b82 (by decide) d72 hg hL g
 |tuple=>exact P51 x B81 (by decide) I50 hg hL g
 |list=>exact P51 x O51 (by decide) V30 hg hL g
 |min=>exact V20 x (c12 x.calm) (by decide) e02 hg hL g
 |max=>exact V20 x (c22 x.calm) (by decide) e12 hg hL g
 |abs=>exact V20 x c32 (by decide) e22 hg hL g
 |all=>exact V20 x (b92 x.calm) (by decide) d82 hg hL g
 |int=>exact P51 x c42 (by decide) e32 hg hL g
 |sorted=>exact V20 x (o41 x.room.units) (by decide) o71 hg hL g
 |sum=>exact V20 x (c02 x.calm) (by decide) d92 hg hL g
 |_=>cases hf
theorem r92(t:Ty)(h:t≠.seq):Str.ofString (tyN t)∈P31∧bootBuiltins (Str.ofString (tyN t))=some (.type (tyN t))∧tyN t∈["int","bool","tuple","list","str"]:=by
 cases t with
 |seq=>exact absurd rfl h
 |_=>decide +kernel
theorem e42(x:XI lm X G E N sc){t:Ty}{a:Ex}{n:Str}{e:Expr}{p pos p2:Pos}(hs:t≠.seq)
  (hg2:glob sc (Str.ofString (tyN t))=true) (hn:n="isinstance") (hg:glob sc n=true) (ns:noStar e=true) (ga:a80 X G E a e):a80 X G E (.isi t a) (.Call (.Name n p) [e,.Name (Str.ofString (tyN t)) p2] [] pos):=by
 obtain⟨hb,hv,ht⟩:=r92 t hs
 subst hn
 obtain⟨k1,k2,k3⟩:=d50 hg
 obtain⟨m1,m2,m3⟩:=d50 hg2
 refine b00 (PE.imp (G00 A81 (x.glb _ k1) (x.blt _ (by decide)) t40 (k90 ga.pe (k90 (S60 (v:=.ty (tyN t)) (x.glb _ m1) (x.blt _ hb) hv rfl m3 m2) D50) (b90 ns _ _)) k3 k2 (b90 ns _ _) rfl) λσ H Q q=>?_) rfl
 obtain⟨zA,ρ,z,rr,rel,st,e,po⟩:=q
 refine k00 rel st e (f50 po) λm z1 e1=>?_
 obtain⟨d,p1,e2⟩:=M.a10 e1
 obtain⟨s1,rfl,q1⟩:=f40 p1
 cases e2
 refine⟨s1,rfl,λv H1 x1 st1 rv=>⟨d,v,tyN t,rfl,((rv.pl.d_ q1).same (a20 zA H1)).has,ht,?_⟩⟩
 rw[O61 t d hs]
 exact e80 po x1 st1 _ _ (a30.refl H1) g70
theorem e52(x:XI lm X G E N sc){a:Ex}{n:Str}{e:Expr}{p pos p1 p2 p3:Pos}{k:Nat}(hg2:glob sc "tuple"=true)(hg3:glob sc "list"=true)(hn:n="isinstance")(hg:glob sc n=true)(ns:noStar e=true)(ga:a80 X G E a e) :
  a80 X G E (.isi .seq a) (.Call (.Name n p) [e,.Tuple [.Name "tuple" p1,.Name "list" p2] k p3] [] pos):=by
 subst hn
 obtain⟨k1,k2,k3⟩:=d50 hg
 obtain⟨m1,m2,m3⟩:=d50 hg2
 obtain⟨l1,l2,l3⟩:=d50 hg3
 refine b00 (PE.imp (G00 m21 (x.glb _ k1) (x.blt _ (by decide)) t40 (k90 ga.pe (k90 (F51 (k90 (S60 (v:=.ty "tuple") (x.glb _ m1) (x.blt _ (by decide)) I50 rfl m3 m2)
  (k90 (S60 (v:=.ty "list") (x.glb _ l1) (x.blt _ (by decide)) V30 rfl l3 l2) D50))) D50) (b90 ns _ _)) k3 k2 (b90 ns _ _) rfl) λσ H Q q=>?_) rfl
 obtain⟨zA,ρ,z,rr,rel,st,e,po⟩:=q
 refine k00 rel st e (f50 po) λm z1 e1=>?_
 obtain⟨d,p1,e2⟩:=M.a10 e1
 obtain⟨s1,rfl,q1⟩:=f40 p1
 cases e2
 refine⟨s1,rfl,λv H1 x1 st1 rv=>⟨by show 2≤sizeLine;rw[sizeLine_eq];decide,λt ht=>?_⟩⟩
 have sm:a30 H1 (upd H1 t (.tup [.ty "tuple",.ty "list"])):=a30.new _ ht
 refine⟨d,v,t,rfl,((rv.pl.d_ q1).same (a30.trans (a20 zA H1) sm)).has,SqT.of c30,?_⟩
 rw[C01 d]
 exact e80 po x1 st1 _ _ sm g70
theorem s02{a i:Ex}{v x:Expr}{pos:Pos}(hs:V10 x=true)(ga:a80 X G E a v)(gi:a80 X G E i x):a80 X G E (.idx a i) (.Subscript v x pos):=by
 refine b00 (PE.imp (Y81 ixD ga.pe gi.pe (E30 hs)) λσ H Q q=>?_) rfl
 obtain⟨zA,ρ,z,rr,rel,st,e,po⟩:=q
 refine a91 rel st e (f50 po) λdx dy z2 v w H2 e2 x2 st2 h1 h2=>?_
 obtain⟨c,hc,e3⟩:=M.a10 e2
 cases e3
 exact⟨zA,z2,dx,dy,_,st2,h1,h2,by show Option.map _ (L30 dx dy)=_;rw[hc];rfl,e80 po x2 st2⟩
theorem e62(x:XI lm X G E N sc){i k:Nat}{n:Str}{c:Nat}{p q pos:Pos}(h1:N[i]?=some n)(h2:c70 n=true):a80 X G E (.zget i k) (.Subscript (.Name n p) (.Constant (.int k) c q) pos):=by
 unfold c70 at h2
 simp only[Bool.and_eq_true,Bool.not_eq_true'] at h2
 refine b00 (PE.imp (Y81 k31 (w30 (i:=i) (by rw[x.hN];exact h1) (x.vis n (List.mem_of_getElem? h1)) h2.1 h2.2) i81 (E30 rfl)) λσ H Q qq=>?_) rfl
 obtain⟨zA,ρ,z,rr,rel,st,e,po⟩:=qq
 have e0:n11 k ρ[i]? z=some rr:=e
 unfold n11 at e0
 split at e0
 ·rename_i p hs
  obtain⟨v,hv,a,hz',rfl⟩:=rel i .z hs
  subst hz'
  have st':H a=some (.lst [.int p.1,.bl p.2]):=st.zat
  refine⟨_,hv,a,[.int p.1,.bl p.2],(k:Int),?_⟩
  split at e0
  ·rename_i hk
   subst hk
   cases e0
   obtain⟨s',e',po⟩:=po
   cases e'
   exact⟨_,rfl,rfl,SqL.of st',rfl,po _ H Ext.refl st g30⟩
  ·split at e0
   ·rename_i hk
    subst hk
    cases e0
    obtain⟨s',e',po⟩:=po
    cases e'
    exact⟨_,rfl,rfl,SqL.of st',rfl,po _ H Ext.refl st (x01 Hd.bl)⟩
   ·cases e0
 ·cases e0
end
section
variable {lm:Bool}{X:Cx}{G:Gs}{E:XK}{N:List Str}{sc:Scope}
theorem b01(a:Int):∀ (n:Nat) {its:List Value},its.length=n→(∀ i,i < n→∃ v t,its[i]?=some v∧v=.int (a + (i:Nat)) t)→Vals ((List.range n).map λ(k:Nat)=>V.int (a + k)) its:=by
 intro n its hl h
 have:∀ (m:Nat) (l:List Value) (o:Nat),l.length=m→(∀ i,i < m→∃ v t,l[i]?=some v∧v=.int (a + (o + i:Nat)) t)→Vals ((List.range' o m 1).map λ(k:Nat)=>V.int (a + k)) l:=by
  intro m
  induction m with
  |zero =>
   intro l o hl _
   rw[List.length_eq_zero_iff.mp hl]
   exact .nil
  |succ m ih =>
   intro l o hl h
   cases l with
   |nil=>cases hl
   |cons x r =>
    obtain⟨v,t,e1,e2⟩:=h 0 (Nat.succ_pos m)
    simp only[List.getElem?_cons_zero,Option.some.injEq] at e1
    subst e1
    rw[List.range'_succ,List.map_cons]
    refine .cons ⟨t,by rw[e2];simp⟩ (ih r (o + 1) (by simpa using hl) λi hi=>?_)
    obtain⟨v,t,e1,e2⟩:=h (i + 1) (Nat.succ_lt_succ hi)
    exact⟨v,t,by simpa using e1,by rw[e2];congr 1;omega⟩
 rw[List.range_eq_range']
 exact this n its 0 hl λi hi=>by
  obtain⟨v,t,e1,e2⟩:=h i hi
  exact⟨v,t,e1,by rw[e2];simp⟩
theorem o81:bootBuiltins "range"=some (.type "range"):=by decide +kernel
noncomputable def lrV:List V→Option (Int × Int)
 |[.int j]=>some (0,j)
 |[.int i,.int j]=>some (i,j)
 |_=>none
noncomputable def lrO:Bool→List V→HO
 |true=>HO.tup
 |false=>HO.lst
noncomputable def lrT:Bool→String
 |true=>"tuple"
 |false=>"list"
noncomputable def s12(b:Bool)(ta:TA):TE:=λσ H Q=>ta σ H λvs H1=>∃ i j:Int,lrV vs=some (i,j)∧-100000 < i∧i < 100000∧-100000 < j∧j < 100000∧∀ l,H1 l=none→Q (.ref l) (upd H1 l (lrO b ((List.range (j - i).toNat).map λ(k:Nat)=>V.int (i + k))))
theorem e72{pins:List (Addr × Obj)}{σ:L2.St}{H1:Hp}{s1:Shared}{r:Addr}{i j:Int}{t u v:Tok}{Q:VK}(hc:X.calm=true)(I2:Inv X pins σ H1 s1)(hr:IsRange s1.heap r i j 1 t u v)(i1:-100000 < i)(i2:i < 100000)(j1:-100000 < j)(j2:j < 100000)
  (q:∀ l,H1 l=none→Q (.ref l) (upd H1 l (.lst ((List.range (j - i).toNat).map λ(k:Nat)=>V.int (i + k))))):wpAny (model X.prog X.w) X.A (call (.type "list") [.ref r]) (EP X pins σ Q) X.xe s1:=by
 have hz:Builtin.Range.rangeSize i j 1=(((j - i).toNat:Nat):Int):=by rw[rangeSize_one];split <;> omega
 refine call_list_range (n:=(j - i).toNat) (I2.ok.hd hc) hr (small_one (by omega) (by omega) (by omega) (by omega)) hz (by omega) λh' tk acc' c' kp hS hacc=>?_
 have rv:Vals ((List.range (j - i).toNat).map λ(k:Nat)=>V.int (i + k)) acc'.toList:=by
  refine b01 i (j - i).toNat ?_ λi hi=>?_
  ·rw[Array.length_toList];exact hacc.1
  ·have hlt:i < acc'.size:=by rw[hacc.1];exact hi
   obtain⟨t,e⟩:=hacc.2 i acc'[i] (Array.getElem?_eq_getElem hlt)
   exact⟨acc'[i],t,by rw[Array.getElem?_toList];exact Array.getElem?_eq_getElem hlt,by rw[e];simp⟩
 have hlen:((List.range (j - i).toNat).map λ(k:Nat)=>V.int (i + k)).length≤sizeLine:=by rw[List.length_map,List.length_range,sizeLine_eq];omega
 have hn:=I2.hok.fresh (Nat.le_refl _)
 exact⟨.ref _,_,I2.laid (t':=tk) kp (Nat.le_refl _) (show h70 X.prog X.w _ h' _ (.lst _) from⟨hlen,acc'.toList,c',rv,by rw[Array.toArray_toList];exact hS⟩),rfl,q _ hn⟩
theorem P61{pins:List (Addr × Obj)}{σ:L2.St}{H1:Hp}{s1:Shared}{r:Addr}{i j:Int}{t u v:Tok}{Q:VK}(hc:X.calm=true)(I2:Inv X pins σ H1 s1)(hr:IsRange s1.heap r i j 1 t u v)(i1:-100000 < i)(i2:i < 100000)(j1:-100000 < j)(j2:j < 100000)
  (q:∀ l,H1 l=none→Q (.ref l) (upd H1 l (.tup ((List.range (j - i).toNat).map λ(k:Nat)=>V.int (i + k))))):wpAny (model X.prog X.w) X.A (call (.type "tuple") [.ref r]) (EP X pins σ Q) X.xe s1:=by
 have hz:Builtin.Range.rangeSize i j 1=(((j - i).toNat:Nat):Int):=by rw[rangeSize_one];split <;> omega
 refine HT.tuple_range (n:=(j - i).toNat) (I2.ok.hd hc) hr (small_one (by omega) (by omega) (by omega) (by omega)) hz (by omega) λh' tk acc' kp hsz hacc=>?_
 have rv:Vals ((List.range (j - i).toNat).map λ(k:Nat)=>V.int (i + k)) acc'.toList:=by
  refine b01 i (j - i).toNat ?_ λi hi=>?_
  ·rw[Array.length_toList];exact hacc.1
  ·have hlt:i < acc'.size:=by rw[hacc.1];exact hi
   obtain⟨t,e⟩:=hacc.2 i acc'[i] (Array.getElem?_eq_getElem hlt)
   exact⟨acc'[i],t,by rw[Array.getElem?_toList];exact Array.getElem?_eq_getElem hlt,by rw[e];simp⟩
 have hlen:((List.range (j - i).toNat).map λ(k:Nat)=>V.int (i + k)).length≤sizeLine:=by rw[List.length_map,List.length_range,sizeLine_eq];omega
 exact⟨.ref _,_,I2.laid (t':=tk) (λb o e=>Heap.get?_push_of_some _ (kp b o e)) hsz (show h70 X.prog X.w _ _ _ (.tup _) from⟨hlen,acc'.toList,rv,⟨_,Heap.get?_push_size _ rfl,rfl,0,by rw[Array.toArray_toList]⟩⟩),rfl,q _ (I2.hok.fresh hsz)⟩
theorem o91(b:Bool){pins:List (Addr × Obj)}{σ:L2.St}{H1:Hp}{s1:Shared}{r:Addr}{i j:Int}{t u v:Tok}{Q:VK}(hc:X.calm=true)(I2:Inv X pins σ H1 s1)(hr:IsRange s1.heap r i j 1 t u v)(i1:-100000 < i)(i2:i < 100000)(j1:-100000 < j)(j2:j < 100000)
  (q:∀ l,H1 l=none→Q (.ref l) (upd H1 l (lrO b ((List.range (j - i).toNat).map λ(k:Nat)=>V.int (i + k))))):wpAny (model X.prog X.w) X.A (call (.type (lrT b)) [.ref r]) (EP X pins σ Q) X.xe s1:=by
 cases b with
 |true=>exact P61 hc I2 hr i1 i2 j1 j2 q
 |false=>exact e72 hc I2 hr i1 i2 j1 j2 q
theorem s22(b:Bool):bootBuiltins (lrN b)=some (.type (lrT b)):=by
 cases b with
 |true=>exact I50
 |false=>exact V30
theorem p01(b:Bool){e:Expr}{l:List Expr}{ta:TA}{p p2 pos pos2:Pos}(hc:X.calm=true)(hg:Gl X (lrN b))(hm:X.mg (lrN b)=none)(hg2:Gl X "range")(hm2:X.mg "range"=none)(ha:PA X (e::l) ta)(hs:noStar e=true)(hs2:l.all noStar=true) :
  PE X (.Call (.Name (lrN b) p) [.Call (.Name "range" p2) (e::l) [] pos2] [] pos) (s12 b ta):=by
 intro pins s σ H Q I h
 refine Call_ (s30 I hg hm (s22 b) (PyProof.Rows.callWith_type1 (Calls.spliced_cons ?_) rfl rfl) (by cases b <;> decide) (by cases b <;> decide))
 refine Call_ (s30 I hg2 hm2 o81 (PyProof.Rows.callWith_type1 (thn (ha pos2 pins s σ H _ I h) λus s1 ⟨vs,H1,I1,r1,q1⟩=>?_) (b90 hs l X.env) (t30 X.env pos2 hs2)))
 obtain⟨i,j,hv,i1,i2,j1,j2,q⟩:=q1
 match vs,hv with
 |[.int _],hv =>
  cases hv
  obtain⟨u,rfl,r⟩:=vals1 r1
  obtain⟨t,rfl⟩:=r
  exact call_range_1 (Calls.spliced_nil (o91 b hc (I1.kept λb o e=>Heap.get?_push_of_some _ e) (IsRange.new ..) i1 i2 j1 j2 q))
 |[.int _,.int _],hv =>
  cases hv
  obtain⟨u,u',rfl,r,r'⟩:=vals2 r1
  obtain⟨t,rfl⟩:=r
  obtain⟨t',rfl⟩:=r'
  exact call_range_2 (Calls.spliced_nil (o91 b hc (I1.kept λb o e=>Heap.get?_push_of_some _ e) (IsRange.new ..) i1 i2 j1 j2 q))
theorem C31:∀ {ds xs:List D},lrD ds=some xs→∃ i j:Int,((ds=[.int j]∧i=0)∨ds=[.int i,.int j])∧-100000 < i∧i < 100000∧-100000 < j∧j < 100000∧xs=(List.range (j - i).toNat).map λ(k:Nat)=>D.int (i + k)
 |[],_,h=>by cases h
 |[x],xs,h=>by
  cases x with
  |int j =>
   obtain⟨hj,h⟩:=e20 h
   have hj:=A80.mp hj
   exact⟨0,j,.inl ⟨rfl,rfl⟩,by omega,by omega,hj.1,hj.2,by cases h;simp⟩
  |_=>cases h
 |[x,y],xs,h=>by
  cases x with
  |int i =>
   cases y with
   |int j =>
    obtain⟨hj,h⟩:=e20 h
    have h1:=A80.mp hj.1
    have h2:=A80.mp hj.2
    exact⟨i,j,.inr rfl,h1.1,h1.2,h2.1,h2.2,by cases h;rfl⟩
   |_=>cases h
  |_=>cases h
 |x::y::_::_,_,h=>by
  cases x with
  |int i=>cases y <;> cases h
  |_=>cases h
theorem e82(x:XI lm X G E N sc){b:Bool}{as:Ex}{a:Expr}{l:List Expr}{p p2 pos pos2:Pos}(h1:glob sc (lrN b)=true)(h2:glob sc "range"=true)(hL:isL as=true)(g:Good X G E as (a::l)):a80 X G E (.lrng b as) (.Call (.Name (lrN b) p) [.Call (.Name "range" p2) (a::l) [] pos2] [] pos):=by
 obtain⟨k1,_,_⟩:=d50 h1
 obtain⟨m1,_,_⟩:=d50 h2
 obtain⟨ha,hs⟩:=g.args hL
 rw[List.all_cons,Bool.and_eq_true] at hs
 refine b00 (PE.imp (p01 b x.calm (x.glb _ k1) (x.blt _ (by cases b <;> decide)) (x.glb _ m1) (x.blt _ (by decide)) ha hs.1 hs.2) λσ H Q q=>?_) rfl
 obtain⟨zA,ρ,z,rr,rel,st,e,po⟩:=q
 refine g71 rel st e (f50 po) λl z1 e1 vs H1 x1 st1 rvs=>?_
 obtain⟨xs,hx,e2⟩:=M.a10 e1
 cases e2
 obtain⟨s',e',po⟩:=po
 cases e'
 obtain⟨ds,h3,h4⟩:=Option.bind_eq_some_iff.mp hx
 have hd:=I30 rvs h3
 have fin:∀ i j:Int,xs=(List.range (j - i).toNat).map (λ(k:Nat)=>D.int (i + k))→∀ lA,H1 lA=none→Q (.ref lA) (upd H1 lA (lrO b ((List.range (j - i).toNat).map λ(k:Nat)=>V.int (i + k)))):=λi j ex lA hn=>by
  subst ex
  have hI:=HdA.ints (K:=X.K) (H:=hz zA H1) ((List.range (j - i).toNat).map λ(k:Nat)=>i + (k:Int))
  rw[List.map_map,List.map_map] at hI
  cases b with
  |false=>exact po _ _ (x1.trans (Ext.of (a30.new _ hn))) (st1.same (a30.new _ hn)) ((t00 st1 hI hn).from x1)
  |true=>exact po _ _ (x1.trans (Ext.of (a30.new _ hn))) (st1.same (a30.new _ hn)) (x01 (Hd.tup ((st1.same (a30.new _ hn)).N41 (SqT.of c30)) (hI.same (i70 (a30.new _ hn)))))
 obtain⟨i,j,hds,j1,j2,j3,j4,ex⟩:=C31 h4
 refine⟨i,j,?_,j1,j2,j3,j4,fin i j ex⟩
 rcases hds with ⟨rfl,rfl⟩ | rfl
 ·obtain⟨v,rfl,h5⟩:=hd.one
  cases h5.h60
  rfl
 ·obtain⟨v,w,rfl,h5,h6⟩:=hd.two
  cases h5.h60;cases h6.h60
  rfl
end
end Q
namespace Q
open PySem L2 PySem.Spec PyProof.Rows
variable [TB:Tb]
section
variable {lm:Bool}{X:Cx}{G:Gs}{E:XK}{N:List Str}{sc:Scope}
noncomputable def tPO(K:PySem.W.Frag)(G:Gs)(E:XK)(x:Ex):TO:=λσ H Q=>∃ zA ρ z r,z00 K zA H ρ σ∧d60 zA z H∧ev G.F x ρ z=some r∧(match r with
 |.ok l z'=>∃ o,n01 l=some o∧∀ H',Ext zA H H'→d60 zA z' H'→Q o H'
 |.er c z'=>EPost G zA E c z' H)
theorem e92{x:Ex}{e:Option Expr}(hL:isL x=true)(g:Good X G E x e.toList):PO X e (tPO X.K G E x):=by
 cases e with
 |none =>
  cases x with
  |nil =>
   refine λpins s σ H Q I q=>K21 pins s σ H Q I ?_
   obtain⟨zA,ρ,z,r,rel,st,e,po⟩:=q
   cases e
   obtain⟨o,e',po⟩:=po
   cases e'
   exact po H Ext.refl st
  |cons a r=>obtain⟨e,es,h,_⟩:=g;cases h
  |_=>cases hL
 |some e =>
  cases x with
  |nil=>cases (show [e]=[] from g)
  |cons a r =>
   obtain⟨e',es,h,ns,ga,lr,gr⟩:=g
   cases h
   refine λpins s σ H Q I q=>K31 ga.pe pins s σ H Q I ?_
   obtain⟨zA,ρ,z,rr,rel,st,e,po⟩:=q
   have her:∀ c z1,rr=.er c z1→EPost G zA E c z1 H:=λc z1 e=>by subst e;exact po
   have rn:r=.nil:=by
    cases r with
    |nil=>rfl
    |cons b q=>obtain⟨e,es,h,_⟩:=gr;cases h
    |_=>cases lr
   subst rn
   refine k00 rel st e her λl z1 e1=>?_
   obtain⟨s,hs,e2⟩:=M.a10 e1
   cases e2
   obtain⟨o,e',po⟩:=po
   refine⟨s,B40 hs,λv H1 x1 st1 rv=>?_⟩
   cases s with
   |d y =>
    cases y with
    |int i =>
     cases e'
     exact⟨i,Hd.h60 (show Hd X.K (hz zA H1) (.int i) v from rv),po H1 x1 st1⟩
    |_=>cases e'
   |fr ys=>cases e'
   |z=>cases e'
  |_=>cases hL
theorem D52{a lo hi:Ex}{v:Expr}{l h:Option Expr}{p pos:Pos}(ga:a80 X G E a v)(hl:isL lo=true)(hh:isL hi=true)(gl:Good X G E lo l.toList)(gh:Good X G E hi h.toList):a80 X G E (.sl a lo hi) (.Subscript v (.Slice l h none p) pos):=by
 refine b00 (PE.imp (y31 C62 ga.pe (e92 hl gl) (e92 hh gh)) λσ H Q q=>?_) rfl
 obtain⟨zA,ρ,z,rr,rel,st,e,po⟩:=q
 refine k00 rel st e (f50 po) λm z1 e1=>?_
 obtain⟨dx,p1,e2⟩:=M.a10 e1
 obtain⟨s1,rfl,q1⟩:=f40 p1
 refine⟨s1,rfl,λw H1 x1 st1 rv=>?_⟩
 rcases M.bind_some e2 with ⟨u,z2,e3,e4⟩ | ⟨c,z2,e3,e4⟩
 ·obtain⟨o,ho,e5⟩:=M.a10 e4
  refine⟨zA,ρ,z1,_,rel.mono x1,st1,e3,o,ho,λH2 x2 st2=>?_⟩
  rcases M.bind_some e5 with ⟨u',z3,e6,e7⟩ | ⟨c,z3,e6,e7⟩
  ·obtain⟨o',ho',e8⟩:=M.a10 e7
   refine⟨zA,ρ,z2,_,(rel.mono x1).mono x2,st2,e6,o',ho',λH3 x3 st3=>?_⟩
   obtain⟨s,hs,e9⟩:=M.a10 e8
   cases e9
   exact⟨zA,z3,dx,s,st3,((rv.pl.mono (x2.trans x3)).d_ q1),hs,e80 po ((x1.trans x2).trans x3) st3⟩
  ·exact⟨zA,ρ,z2,_,(rel.mono x1).mono x2,st2,e6,((f50 po) c z3 e7).mono (x1.trans x2)⟩
 ·exact⟨zA,ρ,z1,_,rel.mono x1,st1,e3,((f50 po) c z2 e4).mono x1⟩
theorem f02{ρ:Env}:∀ {x:Ex}{es:List Expr}{z z1:Z}{l:List S},isL x=true→Good X G E x es→ev G.F x ρ z=some (.ok l z1)→l.length=es.length:=by
 intro x
 induction x with
 |nil =>
  intro es z z1 l _ h e
  have h:es=[]:=h
  subst h
  cases e
  rfl
 |cons a r _ ih =>
  intro es z z1 l _ h e
  obtain⟨e',es',rfl,ns,g,lr,gr⟩:=h
  rcases M.bind_some e with ⟨m,z2,e1,e2⟩ | ⟨c,z2,e1,e2⟩
  ·obtain⟨s,hs,e3⟩:=M.a10 e2
   rcases M.bind_some e3 with ⟨m',z3,e4,e5⟩ | ⟨c,z3,e4,e5⟩
   ·cases e5
    rw[List.length_cons,List.length_cons,ih lr gr e4]
   ·cases e5
  ·cases e2
 |_=>intro es z z1 l h;cases h
theorem s_call(x:XI lm X G E N sc){f:Nat}{as:Ex}{n:Str}{ps:List Str}{e:Expr}{l:List Expr}{p pos:Pos}(hf:G.fns[f]?=some (n,ps))(hl:ps.length=l.length + 1)(hg:glob sc n=true)(hL:isL as=true)(g:Good X G E as (e::l)) :
  a80 X G E (.call f as) (.Call (.Name n p) (e::l) [] pos):=by
 obtain⟨k1,k2,k3⟩:=d50 hg
 obtain⟨fa,fd,m1,m2,m3,F⟩:=x.gok f n ps hf
 obtain⟨ha,hs⟩:=g.args hL
 rw[List.all_cons,Bool.and_eq_true] at hs
 refine b00 (PE.imp (J91 F x.room (x.glb n k1) m1 m2 m3 .nil x.pas ha k2 (b90 hs.1 l X.env) (t30 X.env pos hs.2)) λσ H Q q=>?_) rfl
 obtain⟨zA,ρ,z,rr,rel,st,e,po⟩:=q
 have e0:M.bind (ev G.F as ρ) (λl=>M.bind (G.F false f (l.map plS)) λs=>M.ret [s]) z=some rr:=e
 rcases M.bind_some e0 with ⟨m,z1,e1,e2⟩ | ⟨c,z1,e1,e2⟩
 ·refine⟨zA,ρ,z,_,rel,st,e1,λvs H1 x1 st1 rvs=>?_⟩
  have hv:vs.length=ps.length:=by rw[← rvs.length,f02 hL g e1,hl];rfl
  show spF X.K G f ps.length (vs++[]) H1 Q E
  rw[List.append_nil]
  refine⟨hv,zA,z1,m.map plS,?_⟩
  have ra:RvA X.K zA H1 (m.map plS) vs:=RvA.plS (Paired.U41 rvs λ_ _ q=>q.pl)
  rcases M.bind_some e2 with ⟨s,z2,e3,e4⟩ | ⟨c,z2,e3,e4⟩
  ·cases e4
   refine⟨_,ra,st1,e3,λv H2 x2 st2 rv=>?_⟩
   obtain⟨s',e',po⟩:=po
   cases e'
   exact po v H2 (x1.trans x2) st2 (rv.from x1)
  ·exact⟨_,ra,st1,e3,((f50 po) c z2 e4).mono x1⟩
 ·exact⟨zA,ρ,z,_,rel,st,e1,(f50 po) c z1 e2⟩
noncomputable def k42:Pat→Nat
 |.nil=>0
 |.cons _ r=>k42 r + 1
 |_=>0
mutual
noncomputable def gP(K:PySem.W.Frag):Pat→TG
 |.v i=>e71 i
 |.tup ps=>v52 K (k42 ps) (gL K ps)
 |.nil=>λ_ _ _ _=>False
 |.cons _ _=>λ_ _ _ _=>False
noncomputable def gL(K:PySem.W.Frag):Pat→TGs
 |.nil=>v42
 |.cons p r=>X01 (gP K p) (gL K r)
 |.v _=>λ_ _ _ _=>False
 |.tup _=>λ_ _ _ _=>False
end
end
end Q
namespace Q
open PySem L2 PySem.Spec PyProof.Rows
variable [TB:Tb]
theorem H31{e:Expr}(h:noStar e=true)(es:List Expr)(env:PySem.Env):assignEach (e::es) env=(false,assign e env)::assignEach es env:=by
 cases e <;> first | rfl | cases h
structure C41(X:Cx)(N:List Str)(loc:Str→Bool):Prop where
 hN:X.N=N
 nd:N.Nodup
 lc:∀ x,loc x=true→Loc X.env.scope x
 fn:∀ x,loc x=true→(X.fn x=true∨X.env.scope.names.lookup x=some .local)
 calm:X.calm=true
theorem E40:∀ {es:List Expr} (env:PySem.Env),es.all noStar=true→(assignEach es env).length=es.length∧(assignEach es env).findIdx? (·.1)=none
 |[],_,_=>⟨rfl,rfl⟩
 |e::es,env,h=>by
  rw[List.all_cons,Bool.and_eq_true] at h
  obtain⟨h1,h2⟩:=E40 env h.2
  rw[H31 h.1]
  refine⟨by rw[List.length_cons,List.length_cons,h1],?_⟩
  rw[List.findIdx?_cons,h2];rfl
theorem b11{N:List Str}{loc:Str→Bool}:∀ {r:Pat}{es:List Expr},g81 N loc r es=true→es.length=k42 r∧es.all noStar=true
 |.nil,es,h=>by
  unfold g81 at h
  have:es=[]:=List.isEmpty_iff.mp h
  subst this
  exact⟨rfl,rfl⟩
 |.cons p r,es,h=>by
  unfold g81 at h
  cases es with
  |nil=>cases h
  |cons e es =>
   rw[Bool.and_eq_true,Bool.and_eq_true] at h
   obtain⟨h1,h2⟩:=b11 (r:=r) h.2
   exact⟨by rw[List.length_cons,h1];rfl,by rw[List.all_cons,h.1.1,h2];rfl⟩
 |.v _,_,h=>by unfold g81 at h;cases h
 |.tup _,_,h=>by unfold g81 at h;cases h
mutual
theorem p11{X:Cx}{N:List Str}{loc:Str→Bool}(L:C41 X N loc):∀ {p:Pat}{e:Expr},h90 N loc p e=true→PG X e (gP X.K p)
 |.v i,e,h=>by
  unfold h90 at h
  cases e with
  |Name x pos =>
   rw[Bool.and_eq_true,beq_iff_eq] at h
   unfold gP
   exact J31 (by rw[L.hN];exact L.nd) (by rw[L.hN];exact h.1) (L.lc x h.2) (L.fn x h.2)
  |_=>cases h
 |.tup ps,e,h=>by
  unfold h90 at h
  cases e with
  |Tuple es k pos =>
   obtain⟨h1,h2⟩:=b11 h
   obtain⟨h3,h4⟩:=E40 X.env h2
   unfold gP
   exact X11 L.calm (H41 L h) (by rw[h3,h1]) h4
  |_=>cases h
 |.nil,e,h=>by unfold h90 at h;cases h
 |.cons _ _,e,h=>by unfold h90 at h;cases h
theorem H41{X:Cx}{N:List Str}{loc:Str→Bool}(L:C41 X N loc):∀ {r:Pat}{es:List Expr},g81 N loc r es=true→PGs X es (gL X.K r)
 |.nil,es,h=>by
  unfold g81 at h
  have:es=[]:=List.isEmpty_iff.mp h
  subst this
  unfold gL
  exact J41
 |.cons p r,es,h=>by
  unfold g81 at h
  cases es with
  |nil=>cases h
  |cons e es =>
   rw[Bool.and_eq_true,Bool.and_eq_true] at h
   unfold gL
   exact x61 (p11 L h.1.2) (H41 L h.2) (by rw[H31 h.1.1];rfl)
 |.v _,_,h=>by unfold g81 at h;cases h
 |.tup _,_,h=>by unfold g81 at h;cases h
end
section
variable {K:PySem.W.Frag}{zA:Option Addr}{H:Hp}
theorem z00.set{ρ:Env}{σ:L2.St}{i:Nat}{s:S}{v:V}(h:z00 K zA H ρ σ)(hl:ρ.length=σ.length)(r:RvP K zA H s v):z00 K zA H (ρ.set i (some s)) (σ.set i (some v)):=by
 intro j t e
 by_cases hj:j=i
 ·subst hj
  have hlt:j < ρ.length:=by
   have:=(List.getElem?_eq_some_iff.mp e).1
   simpa using this
  rw[List.getElem?_set_self hlt] at e
  cases e
  exact⟨v,List.getElem?_set_self (by rw[← hl];exact hlt),r⟩
 ·rw[List.getElem?_set_ne (Ne.symm hj)] at e
  obtain⟨w,h1,h2⟩:=h j t e
  exact⟨w,by rw[List.getElem?_set_ne (Ne.symm hj)];exact h1,h2⟩
theorem B50:∀ {r:Pat}{l:List D}{ρ ρ':Env},bindL r l ρ=some ρ'→l.length=k42 r
 |.nil,l,ρ,ρ',e=>by
  unfold bindL at e
  cases l with
  |nil=>rfl
  |cons x l=>cases e
 |.cons p r,l,ρ,ρ',e=>by
  unfold bindL at e
  cases l with
  |nil=>cases e
  |cons x l =>
   obtain⟨ρ1,e1,e2⟩:=Option.bind_eq_some_iff.mp e
   rw[List.length_cons,B50 e2];rfl
 |.v _,_,_,_,e=>by unfold bindL at e;cases e
 |.tup _,_,_,_,e=>by unfold bindL at e;cases e
mutual
theorem p21:∀ {p:Pat}{d:D}{ρ ρ':Env},e30 p d ρ=some ρ'→∀ {σ:L2.St}{v:V}{R:L2.St→Hp→Prop},z00 K zA H ρ σ→ρ.length=σ.length→Hd K (hz zA H) d v →
  (∀ σ',z00 K zA H ρ' σ'→ρ'.length=σ'.length→R σ' H)→gP K p v σ H R
 |.v i,d,ρ,ρ',e,σ,v,R,rel,hl,hd,k=>by
  unfold e30 at e
  cases e
  unfold gP
  exact k _ (rel.set hl (show RvP K zA H (.d d) v from hd)) (by rw[List.length_set,List.length_set,hl])
 |.tup ps,d,ρ,ρ',e,σ,v,R,rel,hl,hd,k=>by
  unfold e30 at e
  cases d with
  |tup l =>
   obtain⟨a,xs,rfl,h1,h2⟩:=hd.A90
   unfold gP
   exact⟨a,xs,rfl,(a20 zA H).sqT h1,by rw[h2.length];exact B50 e,b21 e rel hl h2 k⟩
  |_=>cases e
 |.nil,_,_,_,e,_,_,_,_,_,_,_=>by unfold e30 at e;cases e
 |.cons _ _,_,_,_,e,_,_,_,_,_,_,_=>by unfold e30 at e;cases e
theorem b21:∀ {r:Pat}{l:List D}{ρ ρ':Env},bindL r l ρ=some ρ'→∀ {σ:L2.St}{vs:List V}{R:L2.St→Hp→Prop},z00 K zA H ρ σ→ρ.length=σ.length→HdA K (hz zA H) l vs →
  (∀ σ',z00 K zA H ρ' σ'→ρ'.length=σ'.length→R σ' H)→gL K r vs σ H R
 |.nil,l,ρ,ρ',e,σ,vs,R,rel,hl,hd,k=>by
  unfold bindL at e
  cases l with
  |nil =>
   cases e
   unfold gL
   exact⟨hd.e70,k σ rel hl⟩
  |cons x l=>cases e
 |.cons p r,l,ρ,ρ',e,σ,vs,R,rel,hl,hd,k=>by
  unfold bindL at e
  cases l with
  |nil=>cases e
  |cons x l =>
   obtain⟨ρ1,e1,e2⟩:=Option.bind_eq_some_iff.mp e
   obtain⟨v,ws,rfl,h1,h2⟩:=hd.b50
   unfold gL
   exact⟨v,ws,rfl,p21 e1 rel hl h1 λσ' r' l'=>b21 e2 r' l' h2 k⟩
 |.v _,_,_,_,e,_,_,_,_,_,_,_=>by unfold bindL at e;cases e
 |.tup _,_,_,_,e,_,_,_,_,_,_,_=>by unfold bindL at e;cases e
end
end
end Q
namespace Q
open PySem L2 PySem.Spec PyProof.Rows
variable [TB:Tb]
structure s32(K:PySem.W.Frag)(zA:Option Addr)(J:L2.It)(xs:List D)(H1:Hp):Prop where
 go:∀ i H,Ext zA H1 H→i < xs.length→J.go i H
 yld:∀ i H x H' z d,Ext zA H1 H→d60 zA z H→J.yld i H x H'→xs[i]?=some d→a30 H H'∧Hd K (hz zA H') d x
 stop:∀ H,Ext zA H1 H→J.stop xs.length H
structure ItB(K:PySem.W.Frag)(J:L2.It)(xs:List D)(B:Hp):Prop where
 go:∀ i H,a30 B H→i < xs.length→J.go i H
 yld:∀ i H x H' zA z d,a30 B (hz zA H)→d60 zA z H→J.yld i H x H'→xs[i]?=some d→a30 H H'∧∀ C,a30 B C→(∀ a ys,SqT K (hz zA H') a ys→SqT K C a ys)→Hd K C d x
 stop:∀ H,a30 B H→J.stop xs.length H
section
variable {K:PySem.W.Frag}{B:Hp}
theorem ItB.ok{zA:Option Addr}{H1:Hp}{J:L2.It}{xs:List D}(h:ItB K J xs (hz zA H1)):s32 K zA J xs H1 :=
 ⟨λi H x=>h.go i H (a30.trans x (a20 zA H)),λi H x H' z d e st y k=>let ⟨s,f⟩:=h.yld i H x H' zA z d e st y k;⟨s,f _ (a30.trans e (i70 s)) λ_ _ q=>q⟩,λH x=>h.stop H (a30.trans x (a20 zA H))⟩
theorem b31{a:Addr}{xs:List D}{ys:List V}(h:p60 K B a ys)(r:HdA K B xs ys):ItB K (Itl K a) xs B where
 go:=λi H x hi=>⟨ys,ys[i]'(by rw[r.length];exact hi),(h.same x).sq,by simp⟩
 yld:=λi H v H' zA z d x st y e=>by
  obtain⟨rfl,y⟩:=y
  have y1:=y ys ((h.same x).same (a20 zA _)).sq
  obtain⟨w,e1,e2⟩:=r.get e
  rw[y1] at e1;cases e1
  exact⟨a30.refl _,λC c _=>e2.same c⟩
 stop:=λH x=>⟨ys,(h.same x).sq,by rw[r.length];exact Nat.le_refl _⟩
theorem p31{a:Addr}{xs:List D}{ys:List V}(h:SqT K B a ys)(r:HdA K B xs ys):ItB K (Itt K a) xs B where
 go:=λi H x hi=>⟨ys,ys[i]'(by rw[r.length];exact hi),a30.sqT x h,by simp⟩
 yld:=λi H v H' zA z d x st y e=>by
  obtain⟨rfl,y⟩:=y
  have y1:=y ys ((a20 zA _).sqT (a30.sqT x h))
  obtain⟨w,e1,e2⟩:=r.get e
  rw[y1] at e1;cases e1
  exact⟨a30.refl _,λC c _=>e2.same c⟩
 stop:=λH x=>⟨ys,a30.sqT x h,by rw[r.length];exact Nat.le_refl _⟩
theorem p41(lo:Int)(n:Nat):ItB K (Itr lo n) ((List.range n).map λ(k:Nat)=>D.int (lo + k)) B where
 go:=λi H x hi=>by show i < n;simpa using hi
 yld:=λi H v H' zA z d x st y e=>by
  obtain⟨rfl,rfl⟩:=y
  rw[List.getElem?_map] at e
  obtain⟨k,e1,rfl⟩:=Option.map_eq_some_iff.mp e
  obtain⟨h1,h2⟩:=List.getElem?_eq_some_iff.mp e1
  rw[List.getElem_range] at h2
  subst h2
  exact⟨a30.refl _,λ_ _ _=>Hd.int⟩
 stop:=λH x=>by show n≤_;simp
end
section
variable {K:PySem.W.Frag}{zA:Option Addr}{H1:Hp}
theorem zip_get:∀ {a b:List D}{i:Nat}{d:D},(y80 a b)[i]?=some d→∃ x y,a[i]?=some x∧b[i]?=some y∧d=.tup [x,y]
 |[],_,_,_,e=>by simp[y80] at e
 |_::_,[],_,_,e=>by simp[y80] at e
 |x::r,y::q,0,d,e=>by simp[y80] at e;exact⟨x,y,rfl,rfl,e.symm⟩
 |x::r,y::q,i + 1,d,e=>by
  obtain⟨u,v,h1,h2,h3⟩:=zip_get (a:=r) (b:=q) (i:=i) (by simpa [y80] using e)
  exact⟨u,v,by simpa using h1,by simpa using h2,h3⟩
theorem V40:∀ (a b:List D),(y80 a b).length=min a.length b.length
 |[],_=>by simp[y80]
 |_::_,[]=>by simp[y80]
 |x::r,y::q=>by simp only[y80,List.length_cons,V40 r q];omega
theorem p51{B:Hp}{bb:Bool}{a b:Addr}{xs ys:List D}{us ws:List V}(h:∀ H,a30 B H→SqB bb K H a us)(r:HdA K B xs us)(h':∀ H,a30 B H→SqB bb K H b ws)(r':HdA K B ys ws):ItB K (Itz bb K a b) (y80 xs ys) B where
 go:=λi H x hi=>by
  rw[V40] at hi
  exact⟨us,ws,us[i]'(by rw[r.length];omega),ws[i]'(by rw[r'.length];omega),h H x,h' H x,by simp,by simp⟩
 yld:=λi H v H' zA z d x st y e=>by
  obtain⟨T,rfl,hT,y⟩:=y
  obtain⟨d1,d2,e1,e2,rfl⟩:=zip_get e
  obtain⟨w1,f1,g1⟩:=r.get e1
  obtain⟨w2,f2,g2⟩:=r'.get e2
  have y1:=y us ws w1 w2 (h H (a30.trans x (a20 zA H))) (h' H (a30.trans x (a20 zA H))) f1 f2
  subst y1
  have sm:a30 H (upd H T (.tup [w1,w2])):=a30.new _ hT
  exact⟨sm,λC c t=>Hd.tup (t _ _ ((st.same sm).N41 (SqT.of c30))) (.cons (g1.same c) (.cons (g2.same c) .nil))⟩
 stop:=λH x=>⟨us,ws,h H x,h' H x,by rw[V40,r.length,r'.length];omega⟩
end
noncomputable def PX(P:D→Prop):D→Prop
 |.tup l=>∀ y∈l,P y
 |.lst l=>∀ y∈l,P y
 |_=>True
noncomputable def ItX(K:PySem.W.Frag)(zA:Option Addr)(H H':Hp)(l:List S)(J:L2.It)(xs:List D):Prop :=
 ∀ (P:D→Prop) (B:Hp),a30 B (hz zA H')→(∀ a ys,SqT K (hz zA H') a ys→SqT K B a ys)→(∀ d v,P d→Hd K (hz zA H') d v→Hd K B d v)→(∀ ds,plA l=some ds→∀ d∈ds,PX P d) →
  (∀ a ys,p60 K (hz zA H') a ys→((H a=none∧H' a=some (.lst ys))∨g51 l=true)→p60 K B a ys)→ItB K J xs B
theorem HdA.move{K:PySem.W.Frag}{H B:Hp}{P:D→Prop}(mv:∀ d v,P d→Hd K H d v→Hd K B d v):∀ {ds:List D}{vs:List V},(∀ y∈ds,P y)→HdA K H ds vs→HdA K B ds vs
 |[],_,_,h=>by rw[h.e70];exact .nil
 |d::ds,_,p,h=>by
  obtain⟨x,r,rfl,h1,h2⟩:=h.b50
  exact .cons (mv d x (p d List.mem_cons_self) h1) (HdA.move mv (λy hy=>p y (List.mem_cons_of_mem _ hy)) h2)
theorem ItX.ok{K:PySem.W.Frag}{zA:Option Addr}{H H':Hp}{l:List S}{J:L2.It}{xs:List D}(h:ItX K zA H H' l J xs):s32 K zA J xs H':=by
 refine(h (λ_=>True) (hz zA H') (a30.refl _) (λ_ _ q=>q) (λ_ _ _ q=>q) (λds _ d _=>?_) λ_ _ q _=>q).ok
 cases d <;> first | trivial | exact λ_ _=>trivial
noncomputable def tIt(K:PySem.W.Frag)(G:Gs)(E:XK)(it:It)(src:Ex):TI:=λσ H R=>∃ zA ρ z r,z00 K zA H ρ σ∧d60 zA z H∧ev G.F src ρ z=some r∧(match r with
 |.ok l z'=>∃ xs,(plA l).bind (itD it)=some xs∧∀ J H',Ext zA H H'→d60 zA z' H'→ItX K zA H H' l J xs→R J H'
 |.er c z'=>EPost G zA E c z' H)
section
variable {lm:Bool}{X:Cx}{G:Gs}{E:XK}{N:List Str}{sc:Scope}
theorem f12{zA:Option Addr}{H:Hp}{it:It}{P:L2.It→Hp→Prop}{r:R (List S)}(po:(match r with | .ok l z'=>∃ xs,(plA l).bind (itD it)=some xs∧∀ J H',Ext zA H H'→d60 zA z' H'→ItX X.K zA H H' l J xs→P J H' | .er c z'=>EPost G zA E c z' H)):∀ c z1,r=.er c z1→EPost G zA E c z1 H:=λc z1 e=>by subst e;exact po
theorem p61{s:S}{ds:List D}(h:plA [s]=some ds):∃ d,ds=[d]∧plD s=some d:=by
 cases s with
 |d x=>cases h;exact⟨x,rfl,rfl⟩
 |fr xs=>cases h;exact⟨_,rfl,rfl⟩
 |z=>cases h
theorem H51{tg e:Expr}{a:Ex}(g:a80 X G E a e):PI X tg e (tIt X.K G E .seq (.cons a .nil)):=by
 intro pins s σ H R I q
 obtain⟨zA,ρ,z,rr,rel,st,ee,po⟩:=q
 have e0:M.bind (ev G.F a ρ) (λx=>M.bind (M.of (one x)) λs=>M.bind (ev G.F .nil ρ) λy=>M.ret (s::y)) z=some rr:=ee
 rcases M.bind_some e0 with ⟨m,z1,e1,e2⟩ | ⟨c,z1,e1,e2⟩
 ·obtain⟨t,ht,e3⟩:=M.a10 e2
  cases e3
  have hm:=B40 ht
  subst hm
  obtain⟨xs,hx,po⟩:=po
  obtain⟨ds,h1,h2⟩:=Option.bind_eq_some_iff.mp hx
  obtain⟨d,rfl,h3⟩:=p61 h1
  cases d with
  |tup l =>
   cases h2
   refine F31 g.pe pins s σ H R I ⟨zA,ρ,z,_,rel,st,e1,t,rfl,λv H1 x1 st1 rv=>?_⟩
   obtain⟨b,ys,rfl,k1,k2⟩:=(rv.pl.d_ h3).A90
   exact⟨b,rfl,⟨ys,(a20 zA H1).sqT k1⟩,po _ H1 x1 st1 λP B sub tup mv pa sf=>p31 (tup _ _ k1) (HdA.move mv (show ∀ y∈xs,P y from pa _ h1 _ List.mem_cons_self) k2)⟩
  |lst l =>
   cases h2
   refine S80 g.pe pins s σ H R I ⟨zA,ρ,z,_,rel,st,e1,t,rfl,λv H1 x1 st1 rv=>?_⟩
   have fin:∀ {b:Addr}{ys:List V},p60 X.K (hz zA H1) b ys→HdA X.K (hz zA H1) xs ys→((H b=none∧H1 b=some (.lst ys))∨g51 [t]=true)→∃ a,V.ref b=.ref a∧(∃ xs,SqL X.K H1 a xs)∧R (Itl X.K a) H1:=λ{b ys} k1 k2 k5=>by
    exact⟨b,rfl,⟨ys,(k1.same (a20 zA H1)).sq⟩,po _ H1 x1 st1 λP B sub tup mv pa sf=>b31 (sf _ _ k1 k5) (HdA.move mv (show ∀ y∈xs,P y from pa _ h1 _ List.mem_cons_self) k2)⟩
   cases t with
   |z=>cases h3
   |d x =>
    cases h3
    obtain⟨b,ys,rfl,k1,k2⟩:=Hd.a11 (show Hd X.K (hz zA H1) (.lst xs) v from rv)
    exact fin k1 k2 (.inr rfl)
   |fr x =>
    cases h3
    obtain⟨b,ys,rfl,k0,k1,k2,k3⟩:=rv
    exact fin (p60.of (c80 k2 k1)) (k3.same (e10 b _)) (.inl ⟨k0,k2⟩)
  |_=>cases h2
 ·exact S80 g.pe pins s σ H R I ⟨zA,ρ,z,_,rel,st,e1,(f12 po) c z1 e2⟩
theorem I60{l:List S}{it:It}{xs:List D}(h:(plA l).bind (itD it)=some xs):∃ ds,plA l=some ds∧itD it ds=some xs:=Option.bind_eq_some_iff.mp h
theorem p71(x:XI lm X G E N sc){tg a:Expr}{as:Ex}{n:Str}{p pos:Pos}(hn:n="range")(hg:glob sc n=true)(hL:isL as=true)(g:Good X G E as [a]):PI X tg (.Call (.Name n p) [a] [] pos) (tIt X.K G E .rng1 as):=by
 subst hn
 obtain⟨k1,k2,k3⟩:=d50 hg
 obtain⟨ha,hs⟩:=g.args hL
 rw[List.all_cons,Bool.and_eq_true] at hs
 intro pins s σ H R I q
 refine j11 (x.glb _ k1) (x.blt _ (by decide)) ha (b90 hs.1 [] X.env) pins s σ H R I ?_
 obtain⟨zA,ρ,z,rr,rel,st,ee,po⟩:=q
 refine⟨zA,ρ,z,rr,rel,st,ee,?_⟩
 cases rr with
 |er c z1=>exact po
 |ok l z1 =>
  obtain⟨xs,hx,po⟩:=po
  intro vs H1 x1 st1 rvs
  obtain⟨ds,h1,h2⟩:=I60 hx
  have hd:=I30 rvs h1
  match ds,h2 with
  |[.int j],h2 =>
   obtain⟨hj,h2⟩:=e20 h2
   have hj:=A80.mp hj
   cases h2
   obtain⟨v,rfl,h3⟩:=hd.one
   cases h3.h60
   refine⟨j,rfl,by omega,by omega,po _ H1 x1 st1 λP B sub tup mv pa sf=>?_⟩
   have:=p41 (K:=X.K) (B:=B) 0 j.toNat
   simpa using this
theorem p81(x:XI lm X G E N sc){tg a b:Expr}{as:Ex}{n:Str}{p pos:Pos}(hn:n="range")(hg:glob sc n=true)(hL:isL as=true)(g:Good X G E as [a,b]):PI X tg (.Call (.Name n p) [a,b] [] pos) (tIt X.K G E .rng2 as):=by
 subst hn
 obtain⟨k1,k2,k3⟩:=d50 hg
 obtain⟨ha,hs⟩:=g.args hL
 rw[List.all_cons,List.all_cons,Bool.and_eq_true,Bool.and_eq_true] at hs
 intro pins s σ H R I q
 refine j21 (x.glb _ k1) (x.blt _ (by decide)) ha (by rw[b90 hs.1,b90 hs.2.1];rfl) (b90 hs.2.1 [] X.env) pins s σ H R I ?_
 obtain⟨zA,ρ,z,rr,rel,st,ee,po⟩:=q
 refine⟨zA,ρ,z,rr,rel,st,ee,?_⟩
 cases rr with
 |er c z1=>exact po
 |ok l z1 =>
  obtain⟨xs,hx,po⟩:=po
  intro vs H1 x1 st1 rvs
  obtain⟨ds,h1,h2⟩:=I60 hx
  have hd:=I30 rvs h1
  match ds,h2 with
  |[.int i,.int j],h2 =>
   obtain⟨hj,h2⟩:=e20 h2
   have hi:=A80.mp hj.1
   have hj:=A80.mp hj.2
   cases h2
   obtain⟨v,w,rfl,h3,h4⟩:=hd.two
   cases h3.h60;cases h4.h60
   exact⟨i,j,rfl,by omega,po _ H1 x1 st1 λP B sub tup mv pa sf=>p41 i (j - i).toNat⟩
theorem P71{l:List S}{x y:D}(h:plA l=some [x,y]):∃ s t,l=[s,t]∧plD s=some x∧plD t=some y:=by
 match l,h with
 |[s,t],h=>exact⟨s,t,rfl,by cases s <;> cases t <;> first | (cases h;exact⟨rfl,rfl⟩) | (cases h;done)⟩
 |[],h=>cases h
 |[s],h=>cases s <;> cases h
 |s::t::u::r,h=>exfalso;cases s <;> cases t <;> cases u <;> first | (cases h;done) | (simp only[plA,Option.map_map,Option.map_eq_some_iff] at h;obtain⟨_,_,h⟩:=h;cases h)
theorem C51{s t:S}(h:g51 [s]=true):g51 [s,t]=true:=by
 match s,h with
 |.d (.lst _),_=>rfl
theorem C61{s t:S}(h:g51 [t]=true):g51 [s,t]=true:=by
 match s with
 |.d (.lst _)=>rfl
 |.d .non | .d (.bl _) | .d (.int _) | .d (.str _) | .d (.tup _) | .d .dct | .fr _ | .z=>exact h
theorem p91{K:PySem.W.Frag}{zA:Option Addr}{H H1:Hp}{t:S}{v:V}{a:List D}(rv:RvS K zA H H1 t v)(h:plD t=some (.lst a)):∃ b ys,v=.ref b∧p60 K (hz zA H1) b ys∧HdA K (hz zA H1) a ys∧((H b=none∧H1 b=some (.lst ys))∨g51 [t]=true):=by
 cases t with
 |d x =>
  cases h
  obtain⟨b,ys,rfl,k1,k2⟩:=Hd.a11 (show Hd K (hz zA H1) (.lst a) _ from rv)
  exact⟨b,ys,rfl,k1,k2,.inr rfl⟩
 |fr x =>
  cases h
  obtain⟨b,ys,rfl,k0,k1,k2,k3⟩:=rv
  exact⟨b,ys,rfl,p60.of (c80 k2 k1),k3.same (e10 b _),.inl ⟨k0,k2⟩⟩
 |z=>cases h
theorem q01(x:XI lm X G E N sc){tg a b:Expr}{as:Ex}{n:Str}{p pos:Pos}(ht:m50 tg=true)(hn:n="zip")(hg:glob sc n=true)(hL:isL as=true)(g:Good X G E as [a,b]):PI X tg (.Call (.Name n p) [a,b] [] pos) (tIt X.K G E .zip as):=by
 subst hn
 obtain⟨k1,k2,k3⟩:=d50 hg
 obtain⟨ha,hs⟩:=g.args hL
 rw[List.all_cons,List.all_cons,Bool.and_eq_true,Bool.and_eq_true] at hs
 cases tg with
 |Tuple es ek ep =>
  intro pins s σ H R I q
  refine Z21 (x.glb _ k1) (x.blt _ (by decide)) ha (by rw[b90 hs.1,b90 hs.2.1];rfl) (b90 hs.2.1 [] X.env) pins s σ H R I ?_
  obtain⟨zA,ρ,z,rr,rel,st,ee,po⟩:=q
  refine⟨zA,ρ,z,rr,rel,st,ee,?_⟩
  cases rr with
  |er c z1=>exact po
  |ok l z1 =>
   obtain⟨xs,hx,po⟩:=po
   intro vs H1 x1 st1 rvs
   obtain⟨ds,h1,h2⟩:=I60 hx
   have hd:=I30 rvs h1
   match ds,h2 with
   |[.tup a,.tup b],h2 =>
    cases h2
    obtain⟨v,w,rfl,h3,h4⟩:=hd.two
    obtain⟨p1,us,rfl,m1,m2⟩:=h3.A90
    obtain⟨p2,ws,rfl,m3,m4⟩:=h4.A90
    exact⟨false,p1,p2,rfl,⟨us,(a20 zA H1).sqT m1⟩,⟨ws,(a20 zA H1).sqT m3⟩,po _ H1 x1 st1 λP B sub tup mv pa sf=>p51 (λ_ x=>a30.sqT x (tup _ _ m1)) (HdA.move mv (show ∀ y∈a,P y from pa _ h1 _ List.mem_cons_self) m2) (λ_ x=>a30.sqT x (tup _ _ m3)) (HdA.move mv (show ∀ y∈b,P y from pa _ h1 _ (List.mem_cons_of_mem _ List.mem_cons_self)) m4)⟩
   |[.lst a,.lst b],h2 =>
    cases h2
    obtain⟨t1,t2,rfl,e1,e2⟩:=P71 h1
    cases rvs with
    |cons rv1 rn =>
     cases rn with
     |cons rv2 rn =>
      cases rn
      obtain⟨p1,us,rfl,m1,m2,m3⟩:=p91 rv1 e1
      obtain⟨p2,ws,rfl,m4,m5,m6⟩:=p91 rv2 e2
      refine⟨true,p1,p2,rfl,⟨us,(m1.same (a20 zA H1)).sq⟩,⟨ws,(m4.same (a20 zA H1)).sq⟩,po _ H1 x1 st1 λP B sub tup mv pa sf=>p51 (λ_ x=>((sf _ _ m1 (m3.imp id λq=>?_)).same x).sq) (HdA.move mv (show ∀ y∈a,P y from pa _ h1 _ List.mem_cons_self) m2) (λ_ x=>((sf _ _ m4 (m6.imp id λq=>?_)).same x).sq) (HdA.move mv (show ∀ y∈b,P y from pa _ h1 _ (List.mem_cons_of_mem _ List.mem_cons_self)) m5)⟩
      ·exact C51 q
      ·exact C61 q
 |_=>cases ht
theorem b41:∀ {a:List D}{i n:Nat}{d:D},(y00 a n)[i]?=some d→∃ x,a[i]?=some x∧d=.tup [.int ((n + i:Nat):Int),x]
 |[],_,_,_,e=>by simp[y00] at e
 |x::r,0,n,d,e=>by simp[y00] at e;exact⟨x,rfl,e.symm⟩
 |x::r,i + 1,n,d,e=>by
  obtain⟨u,h1,h2⟩:=b41 (a:=r) (i:=i) (n:=n + 1) (by simpa [y00] using e)
  exact⟨u,by simpa using h1,by rw[h2,show n + 1 + i=n + (i + 1) by omega]⟩
theorem I70:∀ (a:List D) (n:Nat),(y00 a n).length=a.length
 |[],_=>rfl
 |x::r,n=>by simp only[y00,List.length_cons,I70 r]
theorem b51{B:Hp}{b:Bool}{a:Addr}{xs:List D}{us:List V}(h:∀ H,a30 B H→SqB b X.K H a us)(r:HdA X.K B xs us):ItB X.K (Ite b X.K a) (y00 xs 0) B where
 go:=λi H x hi=>by
  rw[I70] at hi
  exact⟨us,us[i]'(by rw[r.length];omega),h H x,by simp⟩
 yld:=λi H v H' zA z d x st y e=>by
  obtain⟨T,rfl,hT,y⟩:=y
  obtain⟨d1,e1,rfl⟩:=b41 e
  obtain⟨w1,f1,g1⟩:=r.get e1
  have y1:=y us w1 (h H (a30.trans x (a20 zA H))) f1
  subst y1
  have sm:a30 H (upd H T (.tup [.int i,w1])):=a30.new _ hT
  exact⟨sm,λC c t=>Hd.tup (t _ _ ((st.same sm).N41 (SqT.of c30))) (.cons (by rw[Nat.zero_add];exact Hd.int) (.cons (g1.same c) .nil))⟩
 stop:=λH x=>⟨us,h H x,by rw[I70,r.length]⟩
theorem P81{l:List S}{d:D}(h:plA l=some [d]):∃ s,l=[s]:=by
 cases l with
 |nil=>cases h
 |cons s r =>
  cases r with
  |nil=>exact⟨s,rfl⟩
  |cons t q=>exfalso;cases s <;> cases t <;> first | (cases h;done) | (simp only[plA,Option.map_map,Option.map_eq_some_iff] at h;obtain⟨_,_,h⟩:=h;cases h)
theorem b61(x:XI lm X G E N sc){tg a:Expr}{as:Ex}{n:Str}{p pos:Pos}(ht:m50 tg=true)(hn:n="enumerate")(hg:glob sc n=true)(hL:isL as=true)(g:Good X G E as [a]):PI X tg (.Call (.Name n p) [a] [] pos) (tIt X.K G E .enum as):=by
 subst hn
 obtain⟨k1,k2,k3⟩:=d50 hg
 obtain⟨ha,hs⟩:=g.args hL
 rw[List.all_cons,Bool.and_eq_true] at hs
 cases tg with
 |Tuple es ek ep =>
  intro pins s σ H R I q
  refine N01 (x.glb _ k1) (x.blt _ (by decide)) ha (b90 hs.1 [] X.env) pins s σ H R I ?_
  obtain⟨zA,ρ,z,rr,rel,st,ee,po⟩:=q
  refine⟨zA,ρ,z,rr,rel,st,ee,?_⟩
  cases rr with
  |er c z1=>exact po
  |ok l z1 =>
   obtain⟨xs,hx,po⟩:=po
   intro vs H1 x1 st1 rvs
   obtain⟨ds,h1,h2⟩:=I60 hx
   have hd:=I30 rvs h1
   match ds,h2 with
   |[.tup a],h2 =>
    cases h2
    obtain⟨v,rfl,h3⟩:=hd.one
    obtain⟨p1,us,rfl,m1,m2⟩:=h3.A90
    exact⟨false,p1,rfl,⟨us,(a20 zA H1).sqT m1⟩,po _ H1 x1 st1 λP B sub tup mv pa sf=>b51 (λ_ x=>a30.sqT x (tup _ _ m1)) (HdA.move mv (show ∀ y∈a,P y from pa _ h1 _ List.mem_cons_self) m2)⟩
   |[.lst a],h2 =>
    cases h2
    have fin:∀ (b:Addr) (ys:List V),p60 X.K (hz zA H1) b ys→HdA X.K (hz zA H1) a ys→((H b=none∧H1 b=some (.lst ys))∨g51 l=true)→∃ bb p,[V.ref b]=[.ref p]∧(∃ xs,SqB bb X.K H1 p xs)∧R (Ite bb X.K p) H1:=λb ys k1 k2 k5 =>
     ⟨true,b,rfl,⟨ys,(k1.same (a20 zA H1)).sq⟩,po _ H1 x1 st1 λP B sub tup mv pa sf=>b51 (λ_ x=>((sf _ _ k1 k5).same x).sq) (HdA.move mv (show ∀ y∈a,P y from pa _ h1 _ List.mem_cons_self) k2)⟩
    obtain⟨t,rfl⟩:=P81 h1
    cases rvs with
    |cons rv rn =>
     cases rn
     cases t with
     |d x =>
      cases h1
      obtain⟨b,ys,rfl,k1,k2⟩:=Hd.a11 (show Hd X.K (hz zA H1) (.lst a) _ from rv)
      exact fin _ _ k1 k2 (.inr rfl)
     |fr x =>
      cases h1
      obtain⟨b,ys,rfl,k0,k1,k2,k3⟩:=rv
      exact fin _ _ (p60.of (c80 k2 k1)) (k3.same (e10 b _)) (.inl ⟨k0,k2⟩)
     |z=>cases h1
 |_=>cases ht
noncomputable abbrev EF:XK:=λ_ _ _=>False
noncomputable def ttC(K:PySem.W.Frag)(G:Gs):Ex→TT
 |.nil=>y81
 |.cons c _=>tT K G EF c
 |_=>λ_ _ _=>False
theorem g91{f:D→M (Option D)}{x:D}{r ys:List D}{z z2:Z}(h:turns f (x::r) z=some (.ok ys z2)):∃ o z1 l,f x z=some (.ok o z1)∧turns f r z1=some (.ok l z2)∧ys=(match o with | some y=>y::l | none=>l):=by
 rcases M.bind_some (show M.bind (f x) _ z=_ from h) with ⟨o,z1,e1,e2⟩ | ⟨c,z1,e1,e2⟩
 ·rcases M.bind_some e2 with ⟨l,z3,e3,e4⟩ | ⟨c,z3,e3,e4⟩
  ·cases e4
   exact⟨o,z1,l,e1,e3,rfl⟩
  ·cases e4
 ·cases e2
theorem P91{zA:Option Addr}{J:L2.It}{xs ys:List D}{H1:Hp}{z1 z2:Z}{p:Pat}{cond el:Ex}{ρ0:Env}{σ0:L2.St}{Q:VK}(IT:s32 X.K zA J xs H1)(hm:xs.length≤most)(rel0:z00 X.K zA H1 ρ0 σ0)(len:ρ0.length=σ0.length)(st1:d60 zA z1 H1)
  (hc:cond=.nil∨∃ c,cond=.cons c .nil) (e:turns (p50 (ev G.F cond) (ev G.F el) p ρ0) xs z1=some (.ok ys z2))
  (fin:∀ H2 vs l,Ext zA H1 H2→d60 zA z2 H2→HdA X.K (hz zA H2) ys vs→H2 l=none→Q (.ref l) (upd H2 l (.lst vs))):K91 J σ0 H1 (gP X.K p) (ttC X.K G cond) (tI X.K G EF el) Q:=by
 refine⟨λi m vs H=>m=xs.length - i∧i≤xs.length∧vs.length≤i∧∃ yd z rest,Ext zA H1 H∧d60 zA z H∧HdA X.K (hz zA H) yd vs∧turns (p50 (ev G.F cond) (ev G.F el) p ρ0) (xs.drop i) z=some (.ok rest z2)∧ys=yd++rest,
  ⟨xs.length,rfl,Nat.zero_le _,Nat.zero_le _,[],z1,ys,Ext.refl,st1,.nil,by simpa using e,rfl⟩,?_⟩
 rintro i m vs H ⟨rfl,hi,hv,yd,z,rest,x,st,hd,et,ey⟩
 by_cases hlt:i < xs.length
 ·refine .inr ⟨IT.go i H x hlt,Nat.lt_of_le_of_lt hv (Nat.lt_of_lt_of_le hlt (e40 hm)),
   λws H'=>ws.length≤i + 1∧∃ yd z rest,Ext zA H1 H'∧d60 zA z H'∧HdA X.K (hz zA H') yd ws∧turns (p50 (ev G.F cond) (ev G.F el) p ρ0) (xs.drop (i + 1)) z=some (.ok rest z2)∧ys=yd++rest,
   λws H' q=>⟨xs.length - (i + 1),by omega,rfl,hlt,q.1,q.2⟩,λv H' y=>?_⟩
  obtain⟨sm,hx⟩:=IT.yld i H v H' z xs[i] x st y (by simp[hlt])
  rw[List.drop_eq_getElem_cons hlt] at et
  obtain⟨o,z3,l,f1,f2,f3⟩:=g91 et
  obtain⟨ρ',b1,f4⟩:=M.a10 (show M.bind (M.of (e30 p xs[i] ρ0)) _ z=_ from f1)
  have x':Ext zA H1 H':=x.trans (Ext.of sm)
  have st':=st.same sm
  refine p21 b1 (rel0.mono x') len hx λσ' rel' len'=>?_
  have yes:∀ {za:Z}{Ha:Hp},Ext zA H' Ha→d60 zA za Ha→M.bind (ev G.F el ρ') (λy=>M.bind (M.of (pl y)) λy=>M.ret (some y)) za=some (.ok o z3)→tI X.K G EF el σ' Ha (λy H4=>(vs++[y]).length≤i + 1∧∃ yd z rest,Ext zA H1 H4∧d60 zA z H4∧HdA X.K (hz zA H4) yd (vs++[y])∧turns (p50 (ev G.F cond) (ev G.F el) p ρ0) (xs.drop (i + 1)) z=some (.ok rest z2)∧ys=yd++rest):=λ{za Ha} xa sta ea=>by
   refine k00 (rel'.mono xa) sta ea (λc z1 h=>by cases h) λm z4 e4=>?_
   obtain⟨d,p1,e5⟩:=M.a10 e4
   obtain⟨s1,rfl,q1⟩:=f40 p1
   cases e5
   refine⟨s1,rfl,λw H4 x4 st4 rv=>⟨by rw[List.length_append];simp;omega,yd++[d],z3,l,(x'.trans xa).trans x4,st4,?_,f2,by rw[ey,f3,List.append_assoc];rfl⟩⟩
   exact(hd.same (a30.trans (i70 sm) (a30.trans xa.same x4.same))).append (.cons (rv.pl.d_ q1) .nil)
  rcases hc with rfl | ⟨c,rfl⟩
  ·have f5:M.bind (ev G.F el ρ') (λy=>M.bind (M.of (pl y)) λy=>M.ret (some y)) z=some (.ok o z3):=f4
   have ty:ttC X.K G .nil=y81:=rfl
   rw[ty]
   refine A91 ?_
   dsimp only
   rw[if_pos rfl]
   exact yes Ext.refl st' f5
  ·rcases M.bind_some (show M.bind (ev G.F (.cons c .nil) ρ') _ z=_ from f4) with ⟨m,za,e1,e2⟩ | ⟨q,za,e1,e2⟩
   ·rcases M.bind_some (show M.bind (ev G.F c ρ') _ z=_ from e1) with ⟨m',zb,e3,e4⟩ | ⟨q,zb,e3,e4⟩
    ·obtain⟨s,hs,e5⟩:=M.a10 e4
     cases e5
     have hm':=B40 hs
     subst hm'
     show tT X.K G EF c σ' H' _
     have tb:∃ b,s=.d (.bl b):=by
      cases s with
      |d y=>cases y with
       |bl b=>exact⟨b,rfl⟩
       |_=>cases e2
      |fr _=>cases e2
      |z=>cases e2
     obtain⟨b,rfl⟩:=tb
     refine⟨zA,ρ',z,_,rel',st',e3,b,rfl,λHa xa sta=>?_⟩
     cases b with
     |true =>
      rw[if_pos rfl]
      exact yes xa sta e2
     |false =>
      rw[if_neg Bool.false_ne_true]
      cases e2
      exact⟨Nat.le_trans hv (Nat.le_succ _),yd,z3,l,x'.trans xa,sta,hd.same (a30.trans (i70 sm) xa),f2,by rw[ey,f3]⟩
    ·cases e4
   ·cases e2
 ·have hi':i=xs.length:=by omega
  subst hi'
  rw[List.drop_length] at et
  cases et
  refine .inl ⟨IT.stop H x,λl hl=>fin H vs l x st (by rw[ey,List.append_nil];exact hd) hl⟩
end
end Q
namespace Q
open PySem L2 PySem.Spec PyProof.Rows
variable [TB:Tb]
section
variable {K:PySem.W.Frag}{zA:Option Addr}{z:Z}{H H2:Hp}{P:Addr}{q:Str}
end
section
variable {lm:Bool}{X:Cx}{G:Gs}{E:XK}{N:List Str}{sc:Scope}
end
end Q
namespace Q
open PySem L2 PySem.Spec PyProof.Rows
variable [TB:Tb]
theorem h20{env:PySem.Env}{k0:NameKind}(hk:k0≠.free):∀ {names:List (Str × NameKind)}{x:Str},names.lookup x=some k0 →
  (names.map λ(n,k)=>if (k == NameKind.free&&env.scope.kind == .function&&env.kindOf n == some .cell) then(n,NameKind.cell) else(n,k)).lookup x=some k0
 |[],_,h=>by simp at h
 |(n,k)::r,x,h=>by
  have ih:=@h20 env k0 hk r x
  show List.lookup x ((if (k == NameKind.free&&env.scope.kind == .function&&env.kindOf n == some .cell)=true then(n,NameKind.cell) else(n,k))::_)=_
  cases hx:x == n with
  |true =>
   simp only[List.lookup_cons,hx] at h
   cases h
   have:(k0 == NameKind.free)=false:=by simpa using hk
   rw[this,Bool.false_and,Bool.false_and,if_neg Bool.false_ne_true]
   simp only[List.lookup_cons,hx]
  |false =>
   simp only[List.lookup_cons,hx] at h
   by_cases hq:(k == NameKind.free&&env.scope.kind == .function&&env.kindOf n == some .cell)=true
   ·rw[if_pos hq];simp only[List.lookup_cons,hx];exact ih h
   ·rw[if_neg hq];simp only[List.lookup_cons,hx];exact ih h
section
variable {lm:Bool}{X:Cx}{G:Gs}{E:XK}{N:List Str}{sc csc:Scope}{on:List Str}{cs:List (Str × Nat)}
structure f22(csc sc:Scope)(N on:List Str)(cs:List (Str × Nat)):Prop where
 kind:csc.kind=.function
 nocell:∀ y∈csc.names,y.2≠.cell
 locs:∀ y∈csc.names,y.2=.local→csc.names.lookup y.1=some .local
 frees:∀ y∈csc.names,y.2=.free→(sc.names.lookup y.1=some .cell∨sc.names.lookup y.1=some .free)
 captd:∀ p∈cs,N[p.2]?=some p.1∧csc.names.lookup p.1=some .free
 own:∀ x∈on,csc.names.lookup x=some .local
 nd:(on++cs.map (·.1)).Nodup
theorem s42(h:a81 csc sc N on cs=true):f22 csc sc N on cs:=by
 unfold a81 at h
 simp only[Bool.and_eq_true] at h
 obtain⟨⟨⟨⟨⟨⟨h1,h2⟩,h3⟩,h4⟩,h5⟩,h6⟩,h7⟩:=h
 rw[List.all_eq_true] at h2 h3 h4 h5 h6
 refine⟨by simpa using h1,λy hy=>by simpa using h2 y hy,λy hy hl=>?_,λy hy hf=>?_,λp hp=>by simpa using h5 p hp,λx hx=>by simpa using h6 x hx,of_decide_eq_true h7⟩
 ·have:=h3 y hy;rw[hl] at this;simpa using this
 ·have:=h4 y hy
  rw[hf] at this
  simpa using this
theorem Q01(x:XI lm X G E N sc)(c:f22 csc sc N on cs):D70 X csc on cs:=⟨c.kind,c.nocell,c.locs,λy hy hf=>x.cel _ (c.frees y hy hf),λp hp=>by rw[x.hN];exact c.captd p hp⟩
theorem q11(x:XI lm X G E N sc)(c:f22 csc sc N on cs)(cl:List (Str × Addr))(C:Addr)(s:Shared)(H:Hp)(fp:List Addr):XI false (b70 X (d30 on cs) csc cl C s H fp) G EF (on++cs.map (·.1)) csc where
 gok:=x.gok
 num:=x.num
 blt:=x.blt
 hN:=rfl
 nd:=c.nd
 vis:=λy hy=>by
  rcases List.mem_append.mp hy with h | h
  ·exact .inl (h20 (by decide) (c.own y h))
  ·obtain⟨p,hp,rfl⟩:=List.mem_map.mp h
   rcases o80 (env:=X.env) (c.captd p hp).2 with h | h
   ·exact .inr (.inl h)
   ·exact .inr (.inr h)
 glb:=λy hy=>h20 (by decide) hy
 cel:=λy hy=>by
  rcases hy with h | h
  ·exact .inl (h20 (by decide) h)
  ·exact o80 (env:=X.env) h
 calm:=x.calm
 room:=x.room
 pas:=a32
theorem C71(x:XI lm X G E N sc)(c:f22 csc sc N on cs)(cl:List (Str × Addr))(C:Addr)(s:Shared)(H:Hp)(fp:List Addr):C41 (b70 X (d30 on cs) csc cl C s H fp) (on++cs.map (·.1)) (λy=>on.contains y) where
 hN:=rfl
 nd:=c.nd
 lc:=λy hy=>.inl (h20 (by decide) (c.own y (by simpa using hy)))
 fn:=λy hy=>.inr (h20 (by decide) (c.own y (by simpa using hy)))
 calm:=x.calm
theorem b71{N:List Str}:∀ {capt:List Nat},(d90 N capt).length=capt.length→(d90 N capt).map (·.2)=capt
 |[],_=>rfl
 |i::r,h=>by
  have le:∀ l:List Nat,(d90 N l).length≤l.length:=by
   intro l
   induction l with
   |nil=>exact Nat.le_refl _
   |cons j q ih =>
    unfold d90
    split
    ·rw[List.length_cons,List.length_cons];omega
    ·rw[List.length_cons];omega
  unfold d90 at h ⊢
  split at h
  ·rename_i y hy
   rw[List.length_cons,List.length_cons] at h
   rw[List.map_cons,b71 (by omega)]
  ·have:=le r
   rw[List.length_cons] at h
   omega
theorem C81{zA:Option Addr}{H:Hp}{ρ:Env}{σ:L2.St}{capt:List Nat}(rel:z00 X.K zA H ρ σ)(h:cs.map (·.2)=capt):z00 X.K zA H (List.replicate on.length none++capt.map λi=>(ρ[i]?).getD none) (q50 on cs σ) ∧
  (List.replicate on.length (none:Option S)++capt.map λi=>(ρ[i]?).getD none).length=(q50 on cs σ).length:=by
 subst h
 constructor
 ·intro j s e
  unfold q50
  by_cases hj:j < on.length
  ·rw[List.getElem?_append_left (by simpa using hj)] at e
   simp[List.getElem?_replicate,hj] at e
  ·rw[List.getElem?_append_right (by simpa using hj),List.length_replicate,List.getElem?_map,List.getElem?_map] at e
   rw[List.getElem?_append_right (by simpa using hj),List.length_map,List.getElem?_map]
   cases hp:cs[j - on.length]? with
   |none=>rw[hp] at e;simp at e
   |some p =>
    rw[hp] at e
    simp only[Option.map_some,Option.some.injEq] at e
    have e2:ρ[p.2]?=some (some s):=by
     cases hr:ρ[p.2]? with
     |none=>rw[hr] at e;cases e
     |some o=>rw[hr] at e;exact congrArg some e
    obtain⟨v,h1,h2⟩:=rel p.2 s e2
    exact⟨v,by simp[h1],h2⟩
 ·unfold q50
  simp
theorem q21{e:Expr}(h:y10 e=true)(env:PySem.Env)(x:Value):foldedSetIterable e env x=pure x:=by
 cases e with
 |Set _ _ _=>cases h
 |_=>rfl
noncomputable def E50(X:Cx)(G:Gs)(E:XK)(x:Ex)(elt tg iter:Expr)(ifs:List Expr)(csc:Scope):Prop:=∃ (own:List Str) (capt:List (Str × Nat)) (wi:TI) (g:TG) (tt:TT) (te:TE),D70 X csc own capt∧PI X tg iter wi ∧
 (∀ cl C s H fp,PG (b70 X (d30 own capt) csc cl C s H fp) tg g)∧(∀ cl C s H fp,PTs (b70 X (d30 own capt) csc cl C s H fp) ifs tt)∧(∀ cl C s H fp,PE (b70 X (d30 own capt) csc cl C s H fp) elt te) ∧
 (∀ x,foldedSetIterable iter X.env x=pure x)∧∀ σ H Q,tI X.K G E x σ H Q→L01 own capt wi g tt te σ H Q
theorem s52(x:XI lm X G E N sc){p:Pat}{it:It}{src cond el:Ex}{capt:List Nat}{elt tg iter:Expr}{ifs:List Expr}(c:f22 csc sc N on cs)(hcap:cs.map (·.2)=capt)(hp:h90 (on++cs.map (·.1)) (λy=>on.contains y) p tg=true)
  (hi:PI X tg iter (tIt X.K G E it src)) (hns:y10 iter=true) (hc:(cond=.nil∧ifs=[])∨∃ q f,cond=.cons q .nil∧ifs=[f]∧∀ cl C s H fp,PT (b70 X (d30 on cs) csc cl C s H fp) f (tT X.K G EF q))
  (he:∀ cl C s H fp,PE (b70 X (d30 on cs) csc cl C s H fp) elt (tI X.K G EF el)):E50 X G E (.comp on.length capt p it src cond el) elt tg iter ifs csc:=by
 have ht:∀ cl C s H fp,PTs (b70 X (d30 on cs) csc cl C s H fp) ifs (ttC X.K G cond):=by
  rcases hc with ⟨rfl,rfl⟩ | ⟨q,f,rfl,rfl,h⟩
  ·exact λcl C s H fp=>K61
  ·exact λcl C s H fp=>K71 (h cl C s H fp)
 refine⟨on,cs,tIt X.K G E it src,gP X.K p,ttC X.K G cond,tI X.K G EF el,Q01 x c,hi,λcl C s H fp=>p11 (C71 x c cl C s H fp) hp,ht,he,q21 hns X.env,λσ H Q q=>?_⟩
 obtain⟨zA,ρ,z,rr,rel,st,e,po⟩:=q
 have e0:M.bind (ev G.F src ρ) (λl=>M.bind (M.of ((plA l).bind (itD it))) λxs=>if xs.length≤most then M.bind (M.calm (turns (p50 (ev G.F cond) (ev G.F el) p (List.replicate on.length none++capt.map λi=>(ρ[i]?).getD none)) xs)) λys=>M.ret [.fr ys] else M.no) z=some rr:=e
 rcases M.bind_some e0 with ⟨m,z1,e1,e2⟩ | ⟨k,z1,e1,e2⟩
 ·obtain⟨xs,hx,e3⟩:=M.a10 e2
  refine⟨zA,ρ,z,_,rel,st,e1,xs,hx,λJ H1 x1 st1 IT'=>?_⟩
  have IT:=IT'.ok
  split at e3
  ·rename_i hm
   rcases M.bind_some e3 with ⟨ys,z2,e4,e5⟩ | ⟨k,z2,e4,e5⟩
   ·cases e5
    have e6:turns (p50 (ev G.F cond) (ev G.F el) p (List.replicate on.length none++capt.map λi=>(ρ[i]?).getD none)) xs z1=some (.ok ys z2):=by
     unfold M.calm at e4
     split at e4
     ·rename_i h;cases e4;exact h
     ·cases e4
    obtain⟨r1,r2⟩:=C81 (on:=on) (rel.mono x1) hcap
    refine P91 IT hm r1 r2 st1 (by rcases hc with ⟨h,_⟩ | ⟨q,_,h,_⟩;exact .inl h;exact .inr ⟨q,h⟩) e6 λH2 vs l x2 st2 hd hl=>?_
    exact e80 po (x1.trans x2) st2 _ _ (a30.new _ hl) (t00 st2 hd hl)
   ·unfold M.calm at e4
    split at e4 <;> cases e4
  ·cases e3
 ·exact⟨zA,ρ,z,_,rel,st,e1,(f50 po) k z1 e2⟩
theorem E50.good{x:Ex}{elt tg iter:Expr}{ifs:List Expr}{csc:Scope}{pos:Pos}(hc:X.calm=true)(h:E50 X G E x elt tg iter ifs csc):a80 X G E x (.ListComp elt [⟨tg,iter,ifs,0⟩] csc pos):=by
 obtain⟨own,capt,wi,g,tt,te,h1,h2,h3,h4,h5,h6,h7⟩:=h
 exact b00 (PE.imp (L11 hc h1 h2 h3 h4 h5 h6) h7) rfl
theorem b40{x:Ex}(h:(!isL x)=true):isL x=false:=by simpa using h
theorem q31{x:Ex}{e:Expr}(hL:isL x=true)(g:Good X G E x [e]):∃ a,x=.cons a .nil∧a80 X G E a e:=by
 cases x with
 |nil=>cases (show [e]=[] from g)
 |cons a r =>
  obtain⟨e',es,h,ns,ga,lr,gr⟩:=g
  cases h
  cases r with
  |nil=>exact⟨a,rfl,ga⟩
  |cons b q=>obtain⟨e,es,h,_⟩:=gr;cases h
  |_=>cases lr
 |_=>cases hL
theorem O60{lm:Bool}{G:Gs}{own:Nat}{capt:List Nat}{p:Pat}{it:It}{src cond el:Ex}(ihs:(∀ {X:Cx}{E:XK}{N:List Str}{sc:Scope},XI lm X G E N sc→∀ {es:List Expr},mt lm G.fns G.nums src sc N es=true→Good X G E src es))(ihc:(∀ {X:Cx}{E:XK}{N:List Str}{sc:Scope},XI false X G E N sc→∀ {es:List Expr},mt false G.fns G.nums cond sc N es=true→Good X G E cond es))(ihe:(∀ {X:Cx}{E:XK}{N:List Str}{sc:Scope},XI false X G E N sc→∀ {es:List Expr},mt false G.fns G.nums el sc N es=true→Good X G E el es))
  {X:Cx}{E:XK}{N:List Str}{sc:Scope} (x:XI lm X G E N sc) {elt tg iter:Expr}{ifs:List Expr}{csc:Scope} (h:(c40 tg).length == own&&(d90 N capt).length == capt.length&&a81 csc sc N (c40 tg) (d90 N capt)&&h90 (c40 tg++(d90 N capt).map (·.1)) (λx=>(c40 tg).contains x) p tg&&isL src&&!isL el&&isL cond&&ifs.length≤1&&noStar elt&&y10 iter&&ifs.all (λc=>!ifB c) &&
    (match it with
    |.seq=>mt lm G.fns G.nums src sc N [iter]
    |.rng1=>opt (U91 iter) λr=>r.1.1 == ("range":Str)&&glob sc r.1.1&&mt lm G.fns G.nums src sc N [r.1.2.2.1]
    |.rng2=>opt (V01 iter) λr=>r.1.1 == ("range":Str)&&glob sc r.1.1&&mt lm G.fns G.nums src sc N [r.1.2.2.1,r.1.2.2.2.1]
    |.zip=>opt (V01 iter) λr=>r.1.1 == ("zip":Str)&&glob sc r.1.1&&m50 tg&&mt lm G.fns G.nums src sc N [r.1.2.2.1,r.1.2.2.2.1]
    |.enum=>opt (U91 iter) λr=>r.1.1 == ("enumerate":Str)&&glob sc r.1.1&&m50 tg&&mt lm G.fns G.nums src sc N [r.1.2.2.1])&&mt false G.fns G.nums cond csc (c40 tg++(d90 N capt).map (·.1)) ifs&&mt false G.fns G.nums el csc (c40 tg++(d90 N capt).map (·.1)) [elt]):E50 X G E (.comp own capt p it src cond el) elt tg iter ifs csc:=by
 simp only[Bool.and_eq_true,beq_iff_eq,decide_eq_true_eq] at h
 obtain⟨⟨⟨⟨⟨⟨⟨⟨⟨⟨⟨⟨⟨h1,h2⟩,h3⟩,h4⟩,h5⟩,h6⟩,h7⟩,h8⟩,h9⟩,h10⟩,h11⟩,h12⟩,h13⟩,h14⟩:=h
 subst h1
 have c:=s42 h3
 have hi:PI X tg iter (tIt X.K G E it src):=by
  cases it with
  |seq =>
   obtain⟨a,rfl,ga⟩:=q31 h5 (ihs x h12)
   exact H51 ga
  |rng1 =>
   obtain⟨⟨⟨n,_,a,_⟩,rfl⟩,-,h12⟩:=a40 h12
   simp only[Bool.and_eq_true,beq_iff_eq] at h12
   exact p71 x h12.1.1 h12.1.2 h5 (ihs x h12.2)
  |rng2 =>
   obtain⟨⟨⟨n,_,a,b,_⟩,rfl⟩,-,h12⟩:=a40 h12
   simp only[Bool.and_eq_true,beq_iff_eq] at h12
   exact p81 x h12.1.1 h12.1.2 h5 (ihs x h12.2)
  |zip =>
   obtain⟨⟨⟨n,_,a,b,_⟩,rfl⟩,-,h12⟩:=a40 h12
   simp only[Bool.and_eq_true,beq_iff_eq] at h12
   exact q01 x h12.1.2 h12.1.1.1 h12.1.1.2 h5 (ihs x h12.2)
  |enum =>
   obtain⟨⟨⟨n,_,a,_⟩,rfl⟩,-,h12⟩:=a40 h12
   simp only[Bool.and_eq_true,beq_iff_eq] at h12
   exact b61 x h12.1.2 h12.1.1.1 h12.1.1.2 h5 (ihs x h12.2)
 have hc:(cond=.nil∧ifs=[])∨∃ q f,cond=.cons q .nil∧ifs=[f]∧∀ cl C s H fp,PT (b70 X (d30 (c40 tg) (d90 N capt)) csc cl C s H fp) f (tT X.K G EF q):=by
  match ifs,h8,h11,h13 with
  |[],_,_,h13 =>
   cases cond with
   |nil=>exact .inl ⟨rfl,rfl⟩
   |cons a r=>cases h13
   |_=>cases h7
  |[f],_,h11,h13 =>
   cases cond with
   |nil=>cases h13
   |cons a r =>
    have h13':(noStar f&&!isL a&&isL r&&mt false G.fns G.nums a csc (c40 tg++(d90 N capt).map (·.1)) [f]&&mt false G.fns G.nums r csc (c40 tg++(d90 N capt).map (·.1)) [])=true:=h13
    simp only[Bool.and_eq_true] at h13'
    have rn:r=.nil:=by
     cases r with
     |nil=>rfl
     |cons b q=>cases h13'.2
     |_=>cases h13'.1.1.2
    subst rn
    simp only[List.all_cons,List.all_nil,Bool.and_true] at h11
    refine .inr ⟨a,f,rfl,rfl,λcl C s H fp=>?_⟩
    obtain⟨e',es,he,ns,ga,lr,gr⟩:=ihc (q11 x c cl C s H fp) h13
    cases he
    exact ga.pt (P41 h11)
   |_=>cases h7
 refine s52 x c (b71 h2) h4 hi h10 hc λcl C s H fp=>?_
 exact(a70 (b40 h6) (ihe (q11 x c cl C s H fp) h14)).pe
theorem f32:∀ (t:Ex) {lm:Bool}{G:Gs}{X:Cx}{E:XK}{N:List Str}{sc:Scope},XI lm X G E N sc→∀ {es:List Expr},mt lm G.fns G.nums t sc N es=true→Good X G E t es:=by
 intro t
 induction t with
 |nil =>
  intro lm G X E N sc x es h
  exact List.isEmpty_iff.mp h
 |cons a r iha ihr =>
  intro lm G X E N sc x es h
  cases es with
  |nil=>cases h
  |cons e es =>
   have h:(noStar e&&!isL a&&isL r&&mt lm G.fns G.nums a sc N [e]&&mt lm G.fns G.nums r sc N es)=true:=h
   simp only[Bool.and_eq_true] at h
   obtain⟨⟨⟨⟨h1,h2⟩,h3⟩,h4⟩,h5⟩:=h
   exact⟨e,es,rfl,h1,a70 (b40 h2) (iha x h4),h3,ihr x h5⟩
 |var i =>
  intro lm G X E N sc x es h
  obtain⟨⟨q,rfl⟩,-,h⟩:=a40 h
  simp only[Bool.and_eq_true,beq_iff_eq] at h
  exact b60 rfl (q72 x h.1 h.2)
 |con d =>
  intro lm G X E N sc x es h
  rcases (Bool.or_eq_true _ _).mp h with h | h
  ·obtain⟨⟨q,rfl⟩,-,h⟩:=a40 h
   exact b60 rfl (q82 h)
  ·obtain⟨⟨p,rfl⟩,-,h⟩:=a40 h
   cases d with
   |dct=>exact b60 rfl q92
   |_=>cases h
 |gint g i =>
  intro lm G X E N sc x es h
  obtain⟨⟨⟨n,p⟩,rfl⟩,-,h⟩:=a40 h
  simp only[Bool.and_eq_true,beq_iff_eq,List.contains_iff_mem] at h
  obtain⟨⟨rfl,h2⟩,h3⟩:=h
  exact b60 rfl (d32 x h2 h3)
 |tup as ih =>
  intro lm G X E N sc x es h
  obtain⟨⟨q,rfl⟩,-,h⟩:=a40 h
  simp only[Bool.and_eq_true] at h
  exact b60 rfl (r02 h.1 (ih x h.2))
 |lst as ih =>
  intro lm G X E N sc x es h
  obtain⟨⟨q,rfl⟩,-,h⟩:=a40 h
  simp only[Bool.and_eq_true] at h
  exact b60 rfl (r12 h.1 (ih x h.2))
 |bin o a b iha ihb =>
  intro lm G X E N sc x es h
  obtain⟨⟨⟨l,op,r,p⟩,rfl⟩,-,h⟩:=a40 h
  simp only[Bool.and_eq_true,beq_iff_eq] at h
  obtain⟨⟨⟨⟨rfl,h2⟩,h3⟩,h4⟩,h5⟩:=h
  exact b60 rfl (r22 (a70 (b40 h2) (iha x h4)) (a70 (b40 h3) (ihb x h5)))
 |cmp o a b iha ihb =>
  intro lm G X E N sc x es h
  obtain⟨⟨⟨l,op,r,p⟩,rfl⟩,-,h⟩:=a40 h
  simp only[Bool.and_eq_true,beq_iff_eq] at h
  obtain⟨⟨⟨⟨⟨rfl,h1⟩,h2⟩,h3⟩,h4⟩,h5⟩:=h
  exact b60 rfl (r32 x h1 (a70 (b40 h2) (iha x h4)) (a70 (b40 h3) (ihb x h5)))
 |neg a ih =>
  intro lm G X E N sc x es h
  obtain⟨⟨q,rfl⟩,-,h⟩:=a40 h
  simp only[Bool.and_eq_true] at h
  exact b60 rfl (r42 (a70 (b40 h.1) (ih x h.2)))
 |not a ih =>
  intro lm G X E N sc x es h
  obtain⟨⟨q,rfl⟩,-,h⟩:=a40 h
  simp only[Bool.and_eq_true] at h
  obtain⟨⟨h1,h2⟩,h3⟩:=h
  exact b60 rfl (r52 (a70 (b40 h1) (ih x h3)) (P41 h2))
 |and a b iha ihb =>
  intro lm G X E N sc x es h
  obtain⟨⟨⟨l,r,vs,p⟩,rfl⟩,-,h⟩:=a40 h
  simp only[Bool.and_eq_true] at h
  obtain⟨⟨⟨⟨h1,h2⟩,h3⟩,h4⟩,h5⟩:=h
  refine b60 rfl (r62 (a70 (b40 h1) (iha x h4)) (P41 h3) ?_)
  cases vs with
  |nil =>
   rw[if_pos (show([]:List Expr).isEmpty=true from rfl),Bool.and_eq_true] at h5
   exact d42 (a70 (b40 h2) (ihb x h5.2)) (P41 h5.1)
  |cons v vs =>
   rw[if_neg (by exact Bool.false_ne_true)] at h5
   exact a70 (b40 h2) (ihb x h5)
 |or a b iha ihb =>
  intro lm G X E N sc x es h
  obtain⟨⟨⟨l,r,vs,p⟩,rfl⟩,-,h⟩:=a40 h
  simp only[Bool.and_eq_true] at h
  obtain⟨⟨⟨⟨h1,h2⟩,h3⟩,h4⟩,h5⟩:=h
  refine b60 rfl (D22 (a70 (b40 h1) (iha x h4)) (P41 h3) ?_)
  cases vs with
  |nil =>
   rw[if_pos (show([]:List Expr).isEmpty=true from rfl),Bool.and_eq_true] at h5
   exact d42 (a70 (b40 h2) (ihb x h5.2)) (P41 h5.1)
  |cons v vs =>
   rw[if_neg (by exact Bool.false_ne_true)] at h5
   exact a70 (b40 h2) (ihb x h5)
 |orT a b iha ihb =>
  intro lm G X E N sc x es h
  obtain⟨⟨⟨l,r,vs,p⟩,rfl⟩,-,h⟩:=a40 h
  simp only[Bool.and_eq_true] at h
  obtain⟨⟨⟨⟨h1,h2⟩,h3⟩,h4⟩,h5⟩:=h
  cases vs with
  |nil=>exact b60 rfl (r72 (a70 (b40 h1) (iha x h4)) (a70 (b40 h2) (ihb x h5)))
  |cons v vs=>cases h3
 |ite c a b ihc iha ihb =>
  intro lm G X E N sc x es h
  obtain⟨⟨q,rfl⟩,-,h⟩:=a40 h
  simp only[Bool.and_eq_true] at h
  obtain⟨⟨⟨⟨⟨⟨h1,h2⟩,h3⟩,h4⟩,h5⟩,h6⟩,h7⟩:=h
  exact b60 rfl (r82 (a70 (b40 h1) (ihc x h5)) (P41 h4) (a70 (b40 h2) (iha x h6)) (a70 (b40 h3) (ihb x h7)))
 |ch o o' a b c iha ihb ihc =>
  intro lm G X E N sc x es h
  obtain⟨⟨⟨l,op,op',r,s,p⟩,rfl⟩,-,h⟩:=a40 h
  simp only[Bool.and_eq_true,beq_iff_eq] at h
  obtain⟨⟨⟨⟨⟨⟨⟨⟨rfl,rfl⟩,h1⟩,h2⟩,h3⟩,h4⟩,h5⟩,h6⟩,h7⟩:=h
  exact b60 rfl (D32 x h1 (a70 (b40 h2) (iha x h5)) (a70 (b40 h3) (ihb x h6)) (a70 (b40 h4) (ihc x h7)))
 |bf f as ih =>
  intro lm G X E N sc x es h
  obtain⟨⟨q,rfl⟩,-,h⟩:=a40 h
  simp only[Bool.and_eq_true,beq_iff_eq] at h
  obtain⟨⟨⟨⟨h1,h2⟩,h3⟩,h4⟩,h5⟩:=h
  exact b60 rfl (D42 x h1 h2 h3 h4 (ih x h5))
 |isi t a ih =>
  intro lm G X E N sc x es h
  obtain⟨⟨⟨n,q,e,ty,p⟩,rfl⟩,-,h⟩:=a40 h
  simp only[Bool.and_eq_true,beq_iff_eq] at h
  obtain⟨⟨⟨⟨⟨h1,h2⟩,h3⟩,h4⟩,h5⟩,h6⟩:=h
  have g:=a70 (b40 h4) (ih x h5)
  refine b60 rfl ?_
  have one:∀ t:Ty,t≠.seq→(opt (shN ty) λq=>q.1.1 == Str.ofString (tyN t)&&glob sc (Str.ofString (tyN t)))=true→a80 X G E (.isi t a) (.Call (.Name n q) [e,ty] [] p):=λt hs h6=>by
   obtain⟨⟨⟨a,_⟩,rfl⟩,-,h6⟩:=a40 h6
   simp only[Bool.and_eq_true,beq_iff_eq] at h6
   obtain⟨rfl,k1⟩:=h6
   exact e42 x hs k1 h1 h2 h3 g
  cases t with
  |seq =>
   obtain⟨⟨⟨a,_,b,_,_,_⟩,rfl⟩,-,h6⟩:=a40 h6
   simp only[Bool.and_eq_true,beq_iff_eq] at h6
   obtain⟨⟨⟨rfl,rfl⟩,k1⟩,k2⟩:=h6
   exact e52 x k1 k2 h1 h2 h3 g
  |_=>exact one _ (λh=>by cases h) h6
 |idx a i iha ihi =>
  intro lm G X E N sc x es h
  obtain⟨⟨q,rfl⟩,-,h⟩:=a40 h
  simp only[Bool.and_eq_true] at h
  obtain⟨⟨⟨⟨h1,h2⟩,h3⟩,h4⟩,h5⟩:=h
  exact b60 rfl (s02 h1 (a70 (b40 h2) (iha x h4)) (a70 (b40 h3) (ihi x h5)))
 |sl a lo hi iha ihl ihh =>
  intro lm G X E N sc x es h
  obtain⟨⟨q,rfl⟩,-,h⟩:=a40 h
  simp only[Bool.and_eq_true] at h
  obtain⟨⟨⟨⟨⟨h1,h2⟩,h3⟩,h4⟩,h5⟩,h6⟩:=h
  exact b60 rfl (D52 (a70 (b40 h1) (iha x h4)) h2 h3 (ihl x h5) (ihh x h6))
 |call f as ih =>
  intro lm G X E N sc x es h
  obtain⟨⟨⟨n,q,e,l,p⟩,rfl⟩,-,h⟩:=a40 h
  simp only[Bool.and_eq_true] at h
  obtain⟨⟨⟨h1,h2⟩,h3⟩,h4⟩:=h
  obtain⟨pr,hf,h1'⟩:=a40 h1
  simp only[Bool.and_eq_true,beq_iff_eq] at h1'
  obtain⟨rfl,h7⟩:=h1'
  exact b60 rfl (s_call x hf h7 h2 h3 (ih x h4))
 |comp own capt p it src cond el ihs ihc ihe =>
  intro lm G X E N sc x es h
  obtain⟨⟨q,rfl⟩,-,h⟩:=a40 h
  exact b60 rfl ((O60 ihs ihc ihe x h).good x.calm)
 |lrng b as ih =>
  intro lm G X E N sc x es h
  obtain⟨⟨⟨n,p,m,q,a,r,t⟩,rfl⟩,-,h⟩:=a40 h
  simp only[Bool.and_eq_true,beq_iff_eq] at h
  obtain⟨⟨⟨⟨⟨⟨h1,h2⟩,h3⟩,h4⟩,h5⟩,h7⟩,h6⟩:=h
  subst h1;subst h2
  cases a with
  |nil=>simp at h7
  |cons a l=>exact b60 rfl (e82 x h3 h4 h5 (ih x h6))
 |zget i k =>
  intro lm G X E N sc x es h
  obtain⟨⟨⟨n,p,j,c,q,r⟩,rfl⟩,-,h⟩:=a40 h
  simp only[Bool.and_eq_true,beq_iff_eq] at h
  obtain⟨⟨h1,h2⟩,h3⟩:=h
  have h3:j=(k:Int):=h3
  subst h3
  exact b60 rfl (e62 x h1 h2)
theorem sound(G:Gs)(t:Ex){lm:Bool}{X:Cx}{E:XK}{N:List Str}{sc:Scope}(x:XI lm X G E N sc){es:List Expr}(h:mt lm G.fns G.nums t sc N es=true):Good X G E t es:=f32 t x h
end
end Q
namespace Q
open PySem L2 PySem.Spec PyProof.Rows
variable [TB:Tb]
open Classical in
noncomputable def hw(ow:Nat→Option Addr)(H:Hp):Hp:=λb=>if ∃ i,ow i=some b then none else H b
section
variable {K:PySem.W.Frag}{ow:Nat→Option Addr}{H H':Hp}
theorem i80:a30 (hw ow H) H:=λb o e=>by
 unfold hw at e
 split at e
 ·cases e
 ·exact e
theorem h30{b:Addr}{o:HO}(h:H b=some o)(n:∀ i,ow i≠some b):hw ow H b=some o:=by
 unfold hw
 rw[if_neg (λ⟨i,e⟩=>n i e)]
 exact h
theorem B60{b:Addr}{o:HO}(h:hw ow H b=some o):H b=some o∧∀ i,ow i≠some b:=by
 refine⟨i80 b o h,λi e=>?_⟩
 unfold hw at h
 rw[if_pos ⟨i,e⟩] at h
 cases h
theorem c90(e:a30 H H'):a30 (hw ow H) (hw ow H'):=λb o h=>by
 obtain⟨h1,h2⟩:=B60 h
 exact h30 (e b o h1) h2
theorem u90:hw (λ_=>none) H=H:=by
 funext b
 unfold hw
 rw[if_neg (λ⟨i,e⟩=>by cases e)]
theorem q41{a:Addr}{xs:List V}(h:SqT K H a xs)(hl:∀ i b,ow i=some b→∃ ys,H b=some (.lst ys)):SqT K (hw ow H) a xs:=by
 rcases h with (h | ⟨o,h⟩) | h
 ·refine .inl (.inl (h30 h λi e=>?_))
  obtain⟨ys,q⟩:=hl i a e
  rw[h] at q;cases q
 ·refine .inl (.inr ⟨o,h30 h λi e=>?_⟩)
  obtain⟨ys,q⟩:=hl i a e
  rw[h] at q;cases q
 ·exact .inr h
mutual
theorem I80(hl:∀ i b,ow i=some b→∃ ys,H b=some (.lst ys)):∀ {d:D}{v:V},bare d=true→Hd K H d v→Hd K (hw ow H) d v
 |.non,_,_,h=>by rw[h.a72];exact Hd.non
 |.bl _,_,_,h=>by rw[h.bl_];exact Hd.bl
 |.int _,_,_,h=>by rw[h.h60];exact Hd.int
 |.str _,_,_,h=>by rw[h.p02];exact Hd.str
 |.tup l,_,b,h=>by
  obtain⟨a,xs,rfl,h1,h2⟩:=h.A90
  exact Hd.tup (q41 h1 hl) (z10 hl (by simpa [bare] using b) h2)
 |.lst _,_,b,_=>by cases b
 |.dct,_,b,_=>by cases b
theorem z10(hl:∀ i b,ow i=some b→∃ ys,H b=some (.lst ys)):∀ {ds:List D}{vs:List V},q90 ds=true→HdA K H ds vs→HdA K (hw ow H) ds vs
 |[],_,_,h=>by rw[h.e70];exact .nil
 |d::ds,_,b,h=>by
  obtain⟨x,r,rfl,h1,h2⟩:=h.b50
  simp only[q90,Bool.and_eq_true] at b
  exact .cons (I80 hl b.1 h1) (z10 hl b.2 h2)
end
end
noncomputable def RvW(K:PySem.W.Frag)(zA:Option Addr)(ow:Nat→Option Addr)(H:Hp)(i:Nat):S→V→Prop
 |.d x,v=>ow i=none∧Hd K (hw ow (hz zA H)) x v
 |.fr xs,v=>∃ a ys,ow i=some a∧v=.ref a∧H a=some (.lst ys)∧HdA K (hw ow (hz zA H)) xs ys
 |.z,v=>ow i=none∧∃ a,zA=some a∧v=.ref a
structure RW(K:PySem.W.Frag)(H0:Hp)(zE zA:Option Addr)(ow:Nat→Option Addr)(H:Hp)(ρ:Env)(σ:L2.St):Prop where
 len:ρ.length=σ.length
 inj:∀ i j a,ow i=some a→ow j=some a→i=j
 zne:∀ i a,ow i=some a→zA≠some a
 own:∀ i a,ow i=some a→∃ xs,ρ[i]?=some (some (.fr xs))
 wor:∀ i s,ρ[i]?=some (some s)→∃ v,σ[i]?=some (some v)∧RvW K zA ow H i s v
 ext:Ext zE H0 H
 zok:zA=zE∨(zE=none∧∀ a,zA=some a→H0 a=none)
 new:∀ i a,ow i=some a→H0 a=none
section
variable {K:PySem.W.Frag}{H0 H H':Hp}{zE zA:Option Addr}{ow:Nat→Option Addr}{ρ:Env}{σ:L2.St}
theorem RW.lst(r:RW K H0 zE zA ow H ρ σ):∀ i a,ow i=some a→∃ ys,H a=some (.lst ys):=λi a e=>by
 obtain⟨xs,h⟩:=r.own i a e
 obtain⟨v,h1,a',ys,h2,h3,h4,h5⟩:=r.wor i _ h
 rw[e] at h2;cases h2
 exact⟨ys,h4⟩
theorem RW.Q11(r:RW K H0 zE zA ow H ρ σ):∀ i a,ow i=some a→∃ ys,hz zA H a=some (.lst ys):=λi a e=>by
 obtain⟨ys,h⟩:=r.lst i a e
 exact⟨ys,c80 h (r.zne i a e)⟩
theorem RvW.pl{i:Nat}{s:S}{v:V}(h:RvW K zA ow H i s v)(hz':∀ a,ow i=some a→zA≠some a):RvP K zA H s v:=by
 cases s with
 |d x=>exact h.2.same i80
 |z=>exact h.2
 |fr xs =>
  obtain⟨a,ys,h1,rfl,h3,h4⟩:=h
  exact Hd.lst (c80 h3 (hz' a h1)) (h4.same i80)
theorem RW.O70(r:RW K H0 zE zA ow H ρ σ):z00 K zA H ρ σ:=λi s e=>by
 obtain⟨v,h1,h2⟩:=r.wor i s e
 exact⟨v,h1,h2.pl λa q=>r.zne i a q⟩
theorem RvW.mono{i:Nat}{s:S}{v:V}(h:RvW K zA ow H i s v)(hz':∀ a,ow i=some a→zA≠some a)(x:Ext zA H H'):RvW K zA ow H' i s v:=by
 cases s with
 |d y=>exact⟨h.1,h.2.same (c90 x)⟩
 |z=>exact h
 |fr xs =>
  obtain⟨a,ys,h1,rfl,h3,h4⟩:=h
  exact⟨a,ys,h1,rfl,x.at h3 (hz' a h1),h4.same (c90 x)⟩
theorem H61(zA:Option Addr)(H:Hp):a30 (hz zA H) (hz none H):=λ_ _ h=>c80 (r00 h).1 (λq=>nomatch q) (s90 h)
theorem q51(e:Ext zE H0 H)(zok:zA=zE∨(zE=none∧∀ a,zA=some a→H0 a=none))(x:Ext zA H H'):Ext zE H0 H':=by
 rcases zok with rfl | ⟨rfl,hn⟩
 ·exact e.trans x
 ·refine⟨λb o h=>?_,λb ps h=>let ⟨qs,q⟩:=e.tbl b ps h;x.tbl b qs q⟩
  have h1:=e.same b o h
  refine c80 (x.at (r00 h1).1 (λq=>?_) (s90 h1)) (λq=>nomatch q) (s90 h1)
  have h0:=(r00 h).1
  rw[hn b q] at h0;cases h0
theorem RW.mono(r:RW K H0 zE zA ow H ρ σ)(x:Ext zA H H'):RW K H0 zE zA ow H' ρ σ :=
 ⟨r.len,r.inj,r.zne,r.own,λi s e=>let ⟨v,h1,h2⟩:=r.wor i s e;⟨v,h1,h2.mono (λa q=>r.zne i a q) x⟩,q51 r.ext r.zok x,r.zok,r.new⟩
theorem RW.young(r:RW K H0 zE zA ow H ρ σ){a:Addr}(h:H a=none)(n:zA≠some a):H0 a=none∧zE≠some a:=by
 have hE:zE≠some a:=λq=>by
  rcases r.zok with rfl | ⟨rfl,_⟩
  ·exact n q
  ·cases q
 exact⟨r.ext.free h hE,hE⟩
theorem RW.out(r:RW K H0 zE zA ow H ρ σ){s:S}{v:V}(hs:s≠.z)(x:Ext zA H H')(h:RvS K zA H H' s v):RvS K zE H0 H' s v:=by
 have sm:a30 (hz zA H') (hz zE H'):=by
  rcases r.zok with rfl | ⟨rfl,_⟩
  ·exact a30.refl _
  ·exact H61 _ _
 cases s with
 |d y=>exact Hd.same sm h
 |z=>exact absurd rfl hs
 |fr xs =>
  obtain⟨a,ys,rfl,h1,h2,h3,h4⟩:=h
  obtain⟨k1,k2⟩:=r.young h1 h2
  exact⟨a,ys,rfl,k1,k2,h3,h4.same (A60 λb o _ q=>sm b o q)⟩
theorem RW.D62(r:RW K H0 zE zA ow H ρ σ){i:Nat}{s:S}(hs:s≠.z)(e:ρ[i]?=some (some s)):∃ v,σ[i]?=some (some v)∧RvS K zE H0 H s v:=by
 obtain⟨v,h1,h2⟩:=r.wor i s e
 have sm:a30 (hz zA H) (hz zE H):=by
  rcases r.zok with rfl | ⟨rfl,_⟩
  ·exact a30.refl _
  ·exact H61 _ _
 refine⟨v,h1,?_⟩
 cases s with
 |d y=>exact Hd.same (a30.trans i80 sm) h2.2
 |z=>exact absurd rfl hs
 |fr xs =>
  obtain⟨a,ys,k1,rfl,k3,k4⟩:=h2
  have n:=r.zne i a k1
  have hE:zE≠some a:=λq=>by
   rcases r.zok with rfl | ⟨rfl,_⟩
   ·exact n q
   ·cases q
  refine⟨a,ys,rfl,r.new i a k1,hE,k3,k4.same λb o q=>?_⟩
  obtain⟨q1,q2⟩:=B60 q
  exact H30 (sm b o q1) λz=>q2 i (by rw[z];exact k1)
theorem RW.T90(r:RW K H0 zE zA ow H ρ σ):RW K H0 zE zA (λ_=>none) H (T90 ρ) σ:=by
 refine⟨by unfold Q.T90;rw[List.length_map];exact r.len,λi j a h=>(by cases h),λi a h=>(by cases h),λi a h=>(by cases h),λi s e=>?_,r.ext,r.zok,λi a h=>(by cases h)⟩
 unfold Q.T90 at e
 rw[List.getElem?_map] at e
 obtain⟨o,e1,e2⟩:=Option.map_eq_some_iff.mp e
 cases o with
 |none=>cases e2
 |some s0 =>
  cases e2
  obtain⟨v,h1,h2⟩:=r.O70 i s0 e1
  refine⟨v,h1,?_⟩
  cases s0 with
  |d y=>exact⟨rfl,by rw[u90];exact h2⟩
  |fr xs=>exact⟨rfl,by rw[u90];exact h2⟩
  |z=>exact⟨rfl,h2⟩
noncomputable def ow0(ow:Nat→Option Addr)(i:Nat):Nat→Option Addr:=λj=>if j=i then none else ow j
noncomputable def ow1(ow:Nat→Option Addr)(i:Nat)(a:Addr):Nat→Option Addr:=λj=>if j=i then some a else ow j
theorem RvW.move{ow':Nat→Option Addr}{j:Nat}{s:S}{v:V}(h:RvW K zA ow H j s v)(e:ow' j=ow j)(sm:a30 (hw ow (hz zA H)) (hw ow' (hz zA H')))(hk:∀ a,ow j=some a→H' a=H a):RvW K zA ow' H' j s v:=by
 cases s with
 |d y=>exact⟨by rw[e];exact h.1,h.2.same sm⟩
 |z=>exact⟨by rw[e];exact h.1,h.2⟩
 |fr xs =>
  obtain⟨a,ys,h1,rfl,h3,h4⟩:=h
  exact⟨a,ys,by rw[e];exact h1,rfl,by rw[hk a h1];exact h3,h4.same sm⟩
theorem getElem?_set'{α:Type}{l:List α}{i j:Nat}{x y:α}(h:(l.set i x)[j]?=some y):(j=i∧y=x∧i < l.length)∨(j≠i∧l[j]?=some y):=by
 by_cases hj:j=i
 ·subst hj
  have hlt:j < l.length:=by
   have:=(List.getElem?_eq_some_iff.mp h).1
   simpa using this
  rw[List.getElem?_set_self hlt] at h
  cases h
  exact .inl ⟨rfl,rfl,hlt⟩
 ·rw[List.getElem?_set_ne (Ne.symm hj)] at h
  exact .inr ⟨hj,h⟩
theorem RW.D72(r:RW K H0 zE zA ow H ρ σ){i:Nat}{x:D}{v:V}(h:Hd K (hw ow (hz zA H)) x v):RW K H0 zE zA (ow0 ow i) H (ρ.set i (some (.d x))) (σ.set i (some v)):=by
 have sub:∀ j a,ow0 ow i j=some a→j≠i∧ow j=some a:=λj a e=>by
  unfold ow0 at e
  split at e
  ·cases e
  ·rename_i n;exact⟨n,e⟩
 have sm:a30 (hw ow (hz zA H)) (hw (ow0 ow i) (hz zA H)):=λb o e=>by
  obtain⟨e1,e2⟩:=B60 e
  exact h30 e1 λj q=>e2 j (sub j b q).2
 refine⟨by rw[List.length_set,List.length_set];exact r.len,λj k a h1 h2=>r.inj j k a (sub j a h1).2 (sub k a h2).2,λj a h1=>r.zne j a (sub j a h1).2,λj a h1=>?_,λj s e=>?_,r.ext,r.zok,λj a h1=>r.new j a (sub j a h1).2⟩
 ·obtain⟨n,h2⟩:=sub j a h1
  obtain⟨xs,h3⟩:=r.own j a h2
  exact⟨xs,by rw[List.getElem?_set_ne (Ne.symm n)];exact h3⟩
 ·rcases getElem?_set' e with ⟨rfl,e1,hlt⟩ | ⟨n,e1⟩
  ·cases e1
   exact⟨v,List.getElem?_set_self (by rw[← r.len];exact hlt),by unfold ow0;exact if_pos rfl,h.same sm⟩
  ·obtain⟨w,h1,h2⟩:=r.wor j s e1
   exact⟨w,by rw[List.getElem?_set_ne (Ne.symm n)];exact h1,h2.move (by unfold ow0;exact if_neg n) sm λ_ _=>rfl⟩
theorem RW.D82(r:RW K H0 zE zA ow H ρ σ){i:Nat}{v:V}(h:∃ a,zA=some a∧v=.ref a):RW K H0 zE zA (ow0 ow i) H (ρ.set i (some .z)) (σ.set i (some v)):=by
 have sub:∀ j a,ow0 ow i j=some a→j≠i∧ow j=some a:=λj a e=>by
  unfold ow0 at e
  split at e
  ·cases e
  ·rename_i n;exact⟨n,e⟩
 have sm:a30 (hw ow (hz zA H)) (hw (ow0 ow i) (hz zA H)):=λb o e=>by
  obtain⟨e1,e2⟩:=B60 e
  exact h30 e1 λj q=>e2 j (sub j b q).2
 refine⟨by rw[List.length_set,List.length_set];exact r.len,λj k a h1 h2=>r.inj j k a (sub j a h1).2 (sub k a h2).2,λj a h1=>r.zne j a (sub j a h1).2,λj a h1=>?_,λj s e=>?_,r.ext,r.zok,λj a h1=>r.new j a (sub j a h1).2⟩
 ·obtain⟨n,h2⟩:=sub j a h1
  obtain⟨xs,h3⟩:=r.own j a h2
  exact⟨xs,by rw[List.getElem?_set_ne (Ne.symm n)];exact h3⟩
 ·rcases getElem?_set' e with ⟨rfl,e1,hlt⟩ | ⟨n,e1⟩
  ·cases e1
   exact⟨v,List.getElem?_set_self (by rw[← r.len];exact hlt),by unfold ow0;exact if_pos rfl,h⟩
  ·obtain⟨w,h1,h2⟩:=r.wor j s e1
   exact⟨w,by rw[List.getElem?_set_ne (Ne.symm n)];exact h1,h2.move (by unfold ow0;exact if_neg n) sm λ_ _=>rfl⟩
theorem RW.D92(r:RW K H0 zE zA ow H ρ σ){i:Nat}{xs:List D}{a:Addr}{ys:List V}(x:Ext zA H H')(hn:H a=none)(za:zA≠some a)(hl:H' a=some (.lst ys))(h:HdA K (hw (ow1 ow i a) (hz zA H')) xs ys)(hi:i < ρ.length) :
  RW K H0 zE zA (ow1 ow i a) H' (ρ.set i (some (.fr xs))) (σ.set i (some (.ref a))):=by
 have r':=r.mono x
 have old:∀ j b,ow j=some b→b≠a:=λj b e q=>by
  obtain⟨zs,h1⟩:=r.lst j b e
  rw[q,hn] at h1;cases h1
 have sub:∀ j b,ow1 ow i a j=some b→(j=i∧b=a)∨(j≠i∧ow j=some b):=λj b e=>by
  unfold ow1 at e
  split at e
  ·rename_i n;cases e;exact .inl ⟨n,rfl⟩
  ·rename_i n;exact .inr ⟨n,e⟩
 have sm:a30 (hw ow (hz zA H)) (hw (ow1 ow i a) (hz zA H')):=λb o e=>by
  obtain⟨e1,e2⟩:=B60 e
  have e3:=(r00 e1).1
  have hb:b≠a:=λq=>by rw[q,hn] at e3;cases e3
  refine h30 (x b o e1) λj q=>?_
  rcases sub j b q with ⟨_,q⟩ | ⟨_,q⟩
  ·exact hb q
  ·exact e2 j q
 refine⟨by rw[List.length_set,List.length_set];exact r.len,λj k b h1 h2=>?_,λj b h1=>?_,λj b h1=>?_,λj s e=>?_,r'.ext,r.zok,λj b h1=>?_⟩
 ·rcases sub j b h1 with ⟨q1,q2⟩ | ⟨q1,q2⟩
  ·rcases sub k b h2 with ⟨p1,p2⟩ | ⟨p1,p2⟩
   ·rw[q1,p1]
   ·exact absurd q2 (old k b p2)
  ·rcases sub k b h2 with ⟨p1,p2⟩ | ⟨p1,p2⟩
   ·exact absurd p2 (old j b q2)
   ·exact r.inj j k b q2 p2
 ·rcases sub j b h1 with ⟨_,q2⟩ | ⟨_,q2⟩
  ·rw[q2];exact za
  ·exact r.zne j b q2
 ·rcases sub j b h1 with ⟨q1,q2⟩ | ⟨q1,q2⟩
  ·rw[q1];exact⟨xs,List.getElem?_set_self hi⟩
  ·obtain⟨zs,h3⟩:=r.own j b q2
   exact⟨zs,by rw[List.getElem?_set_ne (Ne.symm q1)];exact h3⟩
 ·rcases getElem?_set' e with ⟨rfl,e1,hlt⟩ | ⟨n,e1⟩
  ·cases e1
   exact⟨.ref a,List.getElem?_set_self (by rw[← r.len];exact hlt),a,ys,by unfold ow1;exact if_pos rfl,rfl,hl,h⟩
  ·obtain⟨w,h1,h2⟩:=r.wor j s e1
   refine⟨w,by rw[List.getElem?_set_ne (Ne.symm n)];exact h1,h2.move (by unfold ow1;exact if_neg n) sm λb q=>?_⟩
   obtain⟨zs,k⟩:=r.lst j b q
   rw[k]
   exact x.at k (r.zne j b q)
 ·rcases sub j b h1 with ⟨_,q2⟩ | ⟨_,q2⟩
  ·rw[q2];exact(r.young hn za).1
  ·exact r.new j b q2
theorem RW.upd(r:RW K H0 zE zA ow H ρ σ){i:Nat}{a:Addr}{xs:List D}{ys:List V}(e:ow i=some a)(h:HdA K (hw ow (hz zA H)) xs ys):RW K H0 zE zA ow (upd H a (.lst ys)) (ρ.set i (some (.fr xs))) σ:=by
 have za:=r.zne i a e
 have sm:a30 (hw ow (hz zA H)) (hw ow (hz zA (L2.upd H a (.lst ys)))):=λb o q=>by
  obtain⟨e1,e2⟩:=B60 q
  obtain⟨e3,e4⟩:=r00 e1
  have hb:b≠a:=λz=>e2 i (by rw[z];exact e)
  exact h30 (c80 (by rw[a50 hb];exact e3) e4 (s90 e1)) e2
 obtain⟨xs0,h0⟩:=r.own i a e
 have hi:i < ρ.length:=(List.getElem?_eq_some_iff.mp h0).1
 obtain⟨v0,s0,a0,ys0,q1,q2,q3,q4⟩:=r.wor i _ h0
 rw[e] at q1;cases q1
 refine⟨by rw[List.length_set];exact r.len,r.inj,r.zne,λj b h1=>?_,λj s q=>?_,⟨λb o q=>?_,λb ps q=>?_⟩,r.zok,r.new⟩
 ·by_cases hj:j=i
  ·subst hj;exact⟨xs,List.getElem?_set_self hi⟩
  ·obtain⟨zs,h3⟩:=r.own j b h1
   exact⟨zs,by rw[List.getElem?_set_ne (Ne.symm hj)];exact h3⟩
 ·rcases getElem?_set' q with ⟨rfl,e1,hlt⟩ | ⟨n,e1⟩
  ·cases e1
   exact⟨v0,s0,a,ys,e,q2,c30,h.same sm⟩
  ·obtain⟨w,h1,h2⟩:=r.wor j s e1
   refine⟨w,h1,h2.move rfl sm λb q=>?_⟩
   have hb:b≠a:=λz=>n (r.inj j i b q (by rw[z];exact e))
   exact a50 hb
 ·obtain⟨e1,e2⟩:=r00 (r.ext b o q)
  have hb:b≠a:=λz=>by
   have:=(r00 q).1
   rw[z,r.new i a e] at this;cases this
  exact c80 (by rw[a50 hb];exact e1) e2 (s90 q)
 ·obtain⟨qs,e1⟩:=r.ext.tbl b ps q
  have hb:b≠a:=λz=>by rw[z,q3] at e1;cases e1
  exact⟨qs,by rw[a50 hb];exact e1⟩
end
end Q
namespace Q
open PySem L2 PySem.Spec PyProof.Rows
variable [TB:Tb]
noncomputable def k52:Option Addr→Z→Z
 |none,_=>none
 |some _,z=>z
noncomputable def p70(K:PySem.W.Frag)(G:Gs)(E:XK)(H0:Hp)(zE:Option Addr)(B:Hp)(D:Ends):R O→Prop
 |.ok (.nx ρ) z=>∀ zA ow σ H,RW K H0 zE zA ow H ρ σ→d60 zA z H→a30 B (hw ow (hz zA H))→D.nx σ H
 |.ok (.rt s) z=>∀ v H,s≠.z→Ext zE H0 H→d60 zE (k52 zE z) H→RvS K zE H0 H s v→D.rt v H
 |.er c z=>∀ e H,Ext zE H0 H→d60 zE (k52 zE z) H→H e=none→E (.ref (G.cls c)) (some e) H
noncomputable def tX(K:PySem.W.Frag)(G:Gs)(E:XK)(H0:Hp)(zE:Option Addr)(x:Sm):TS:=λD σ H=>∃ zA ow ρ z r,RW K H0 zE zA ow H ρ σ∧d60 zA z H∧ex G.F zE.isNone x ρ z=some r∧p70 K G E H0 zE (hw ow (hz zA H)) D r
section
variable {K:PySem.W.Frag}{G:Gs}{E:XK}{H0 H H':Hp}{zE zA:Option Addr}{ow:Nat→Option Addr}{ρ:Env}{σ:L2.St}{Dn:Ends}{z:Z}
theorem V11(zok:zA=zE∨(zE=none∧∀ a,zA=some a→H0 a=none))(st:d60 zA z H):d60 zE (k52 zE z) H:=by
 cases zE with
 |none=>exact⟨trivial,st.tab⟩
 |some a =>
  rcases zok with rfl | ⟨h,_⟩
  ·exact st
  ·cases h
theorem p70.er_{B:Hp}{c:Nat}(po:p70 K G E H0 zE B Dn (.er c z))(r:RW K H0 zE zA ow H ρ σ):EPost G zA E c z H:=λe H' x st n=>po e H' (q51 r.ext r.zok x) (V11 r.zok st) n
theorem p70.ers{B:Hp}{rr:R O}(po:p70 K G E H0 zE B Dn rr)(r:RW K H0 zE zA ow H ρ σ):∀ c z1,rr=.er c z1→EPost G zA E c z1 H:=λc z1 e=>by subst e;exact po.er_ r
theorem p70.mono{B B':Hp}{rr:R O}(po:p70 K G E H0 zE B Dn rr)(h:a30 B B'):p70 K G E H0 zE B' Dn rr:=by
 match rr,po with
 |.ok (.nx _) _,po=>exact λzA ow σ H r st sm=>po zA ow σ H r st (a30.trans h sm)
 |.ok (.rt _) _,po=>exact po
 |.er _ _,po=>exact po
theorem z20{H:Hp}(ow:Nat→Option Addr)(i:Nat):a30 (hw ow H) (hw (ow0 ow i) H):=λb o e=>by
 obtain⟨e1,e2⟩:=B60 e
 refine h30 e1 λj q=>?_
 unfold ow0 at q
 split at q
 ·cases q
 ·exact e2 j q
theorem B70{H:Hp}(ow:Nat→Option Addr):a30 (hw ow H) (hw (λ_=>none) H):=λb o e=>h30 (B60 e).1 λj q=>nomatch q
theorem C91{a:Addr}(x:Ext zA H H')(hn:H a=none)(i:Nat):a30 (hw ow (hz zA H)) (hw (ow1 ow i a) (hz zA H')):=λb o e=>by
 obtain⟨e1,e2⟩:=B60 e
 have e3:=(r00 e1).1
 have hb:b≠a:=λq=>by rw[q,hn] at e3;cases e3
 refine h30 (x b o e1) λj q=>?_
 unfold ow1 at q
 split at q
 ·cases q;exact hb rfl
 ·exact e2 j q
theorem V50{a:Addr}{o:HO}{i:Nat}(e:ow i=some a):a30 (hw ow (hz zA H)) (hw ow (hz zA (upd H a o))):=λb u q=>by
 obtain⟨e1,e2⟩:=B60 q
 obtain⟨e3,e4⟩:=r00 e1
 have hb:b≠a:=λw=>e2 i (by rw[w];exact e)
 exact h30 (c80 (by rw[a50 hb];exact e3) e4 (s90 e1)) e2
mutual
theorem D01:∀ {p:Pat}{d:D}{ρ ρ':Env},e30 p d ρ=some ρ'→∀ {ow:Nat→Option Addr}{σ:L2.St}{v:V}{R:L2.St→Hp→Prop},RW K H0 zE zA ow H ρ σ→Hd K (hw ow (hz zA H)) d v →
  (∀ ow' σ',RW K H0 zE zA ow' H ρ' σ'→a30 (hw ow (hz zA H)) (hw ow' (hz zA H))→R σ' H)→gP K p v σ H R
 |.v i,d,ρ,ρ',e,ow,σ,v,R,r,hd,k=>by
  unfold e30 at e
  cases e
  unfold gP
  exact k _ _ (r.D72 hd) (z20 ow i)
 |.tup ps,d,ρ,ρ',e,ow,σ,v,R,r,hd,k=>by
  unfold e30 at e
  cases d with
  |tup l =>
   obtain⟨a,xs,rfl,h1,h2⟩:=hd.A90
   unfold gP
   exact⟨a,xs,rfl,(a20 zA H).sqT (a30.sqT i80 h1),by rw[h2.length];exact B50 e,q61 e r h2 k⟩
  |_=>cases e
 |.nil,_,_,_,e,_,_,_,_,_,_,_=>by unfold e30 at e;cases e
 |.cons _ _,_,_,_,e,_,_,_,_,_,_,_=>by unfold e30 at e;cases e
theorem q61:∀ {r:Pat}{l:List D}{ρ ρ':Env},bindL r l ρ=some ρ'→∀ {ow:Nat→Option Addr}{σ:L2.St}{vs:List V}{R:L2.St→Hp→Prop},RW K H0 zE zA ow H ρ σ→HdA K (hw ow (hz zA H)) l vs →
  (∀ ow' σ',RW K H0 zE zA ow' H ρ' σ'→a30 (hw ow (hz zA H)) (hw ow' (hz zA H))→R σ' H)→gL K r vs σ H R
 |.nil,l,ρ,ρ',e,ow,σ,vs,R,r,hd,k=>by
  unfold bindL at e
  cases l with
  |nil =>
   cases e
   unfold gL
   exact⟨hd.e70,k ow σ r (a30.refl _)⟩
  |cons x l=>cases e
 |.cons p q,l,ρ,ρ',e,ow,σ,vs,R,r,hd,k=>by
  unfold bindL at e
  cases l with
  |nil=>cases e
  |cons x l =>
   obtain⟨ρ1,e1,e2⟩:=Option.bind_eq_some_iff.mp e
   obtain⟨v,ws,rfl,h1,h2⟩:=hd.b50
   unfold gL
   exact⟨v,ws,rfl,D01 e1 r h1 λow' σ' r' sm=>q61 e2 r' (h2.same sm) λow2 σ2 r2 sm2=>k ow2 σ2 r2 (a30.trans sm sm2)⟩
 |.v _,_,_,_,e,_,_,_,_,_,_,_=>by unfold bindL at e;cases e
 |.tup _,_,_,_,e,_,_,_,_,_,_,_=>by unfold bindL at e;cases e
end
theorem q71(r:RW K H0 zE zA ow H ρ σ)(s:S):∃ ow',RW K H0 zE zA ow' H (n20 s ρ) σ∧a30 (hw ow (hz zA H)) (hw ow' (hz zA H))∧(g41 s=true∨∀ i,ow' i=none):=by
 unfold n20
 rw[a01]
 cases hb:g41 s with
 |true=>exact⟨ow,r,a30.refl _,.inl rfl⟩
 |false=>exact⟨_,r.T90,B70 ow,.inr λ_=>rfl⟩
theorem b81{p:Pat}{s:S}{v:V}{ρ':Env}{R:L2.St→Hp→Prop}(r:RW K H0 zE zA ow H ρ σ)(x:Ext zA H H')(rv:RvS K zA H H' s v)(e:N70 p s (n20 s ρ)=some ρ')
  (k:∀ ow' σ',RW K H0 zE zA ow' H' ρ' σ'→a30 (hw ow (hz zA H)) (hw ow' (hz zA H'))→R σ' H'):gP K p v σ H' R:=by
 obtain⟨owk,r1,s1,b1⟩:=q71 r s
 have r2:=r1.mono x
 have s2:a30 (hw ow (hz zA H)) (hw owk (hz zA H')):=a30.trans s1 (c90 x)
 cases s with
 |d y =>
  have e':e30 p y (n20 (.d y) ρ)=some ρ':=by cases p <;> exact e
  refine D01 e' r2 ?_ λow' σ' r3 s3=>k ow' σ' r3 (a30.trans s2 s3)
  rcases b1 with b1 | b1
  ·exact I80 r2.Q11 b1 rv
  ·have:owk=λ_=>none:=funext b1
   subst this
   rw[u90];exact rv
 |z =>
  cases p with
  |v i =>
   simp only[N70] at e
   split at e
   ·cases e
    unfold gP
    exact k _ _ (r2.D82 rv) (a30.trans s2 (z20 owk i))
   ·cases e
  |_=>cases e
 |fr xs =>
  cases p with
  |v i =>
   simp only[N70] at e
   split at e
   ·rename_i hi
    cases e
    unfold gP
    obtain⟨a,ys,rfl,h1,h2,h3,h4⟩:=rv
    refine k _ _ (r1.D92 x h1 h2 h3 ?_ hi) (a30.trans s1 (C91 x h1 i))
    rcases b1 with b1 | b1
    ·refine z10 (λj b q=>?_) b1 (h4.same (e10 a _))
     unfold ow1 at q
     split at q
     ·cases q;exact⟨ys,c80 h3 h2⟩
     ·exact r2.Q11 j b q
    ·refine h4.same λb o q=>?_
     have hb:b≠a:=λw=>by subst w;unfold hide at q;rw[if_pos rfl] at q;cases q
     refine h30 (e10 a _ b o q) λj w=>?_
     unfold ow1 at w
     split at w
     ·cases w;exact hb rfl
     ·rw[b1 j] at w;cases w
   ·cases e
  |_=>cases e
end
end Q
namespace Q
open PySem L2 PySem.Spec PyProof.Rows
variable [TB:Tb]
theorem Q21{tg v:Expr}{env:PySem.Env}(h:m50 v=false):swappedStores [tg] v env=pure none:=by
 cases v <;> first | (cases h;done) | (cases tg <;> rfl)
theorem Q31{ts vs:List Expr}{k k':Nat}{p p':Pos}{env:PySem.Env}(h:vs.all (foldedForSure 8)=true):swappedStores [.Tuple ts k p] (.Tuple vs k' p') env=pure none:=by
 unfold swappedStores
 simp only[h,if_true]
 split
 ·rfl
 ·split
  ·rfl
  ·split
   ·rfl
   ·rfl
noncomputable def q81(look:Str→Option NameKind):Expr→Bool
 |.Name id _=>look id != some .local
 |_=>true
theorem Q41{ts vs:List Expr}{k k':Nat}{p p':Pos}{env:PySem.Env}(h:ts.any (q81 env.kindOf)=true):swappedStores [.Tuple ts k p] (.Tuple vs k' p') env=pure none:=by
 have hl:∀ (l:Nat) (ts:List Expr),ts.any (q81 env.kindOf)=true→(ts.filterMap fun
   |.Name id pos=>if env.kindOf id == some .local&&pos.line == l then some id else none
   |_=>none).length < ts.length:=by
  intro l ts
  induction ts with
  |nil=>intro h;cases h
  |cons e r ih =>
   intro h
   have le:=List.length_filterMap_le (fun
    |.Name id pos=>if env.kindOf id == some .local&&pos.line == l then some id else none
    |_=>none:Expr→Option Str) r
   rw[List.any_cons,Bool.or_eq_true] at h
   rw[List.filterMap_cons]
   split
   ·rw[List.length_cons];omega
   ·rename_i b hb
    rcases h with h | h
    ·exfalso
     cases e with
     |Name id pos =>
      have h':(env.kindOf id != some .local)=true:=h
      simp only[bne_iff_ne,ne_eq] at h'
      simp[h'] at hb
     |_=>cases hb
    ·have:=ih h
     rw[List.length_cons,List.length_cons];omega
 unfold swappedStores
 dsimp only
 split
 ·rfl
 ·split
  ·rfl
  ·have:=hl ((ts.head?.map (·.pos.line)).getD 0) ts h
   rw[if_pos]
   simp only[Bool.or_eq_true,bne_iff_ne,ne_eq]
   exact .inl (Nat.ne_of_lt this)
theorem f42{x y:Str}{a b:Expr}{px py pt pt2:Pos}{k k2:Nat}{env:PySem.Env}(hb:env.blockKind=.function)(hx:env.kindOf x=some .local)(hy:env.kindOf y=some .local)(hxy:(x == y)=false)(hl:(py.line == px.line)=true)
  (ha:noStar a=true) (hb':noStar b=true) (hf:[a,b].all (foldedForSure 8)=false) (hc:[a,b].all (constantsAlone 8)=false) :
  swappedStores [.Tuple [.Name x px,.Name y py] k pt] (.Tuple [a,b] k2 pt2) env=pure (some [x,y]):=by
 have hbk:(env.blockKind != .function)=false:=by rw[hb];rfl
 have e1:(x == x)=true:=beq_self_eq_true x
 have hyx:(y == x)=false:=by
  cases h:y == x with
  |false=>rfl
  |true=>rw[beq_iff_eq] at h;subst h;rw[e1] at hxy;cases hxy
 have hl2:(Expr.Name x px).pos.line=px.line:=rfl
 have hl3:(Expr.Name y py).pos.line=py.line:=rfl
 have hl':py.line=px.line:=by simpa using hl
 unfold swappedStores
 simp only[List.filterMap,List.head?,Option.map,Option.getD,hx,hy,hf,hc,hbk,hl2,hl']
 simp[List.eraseDups,List.eraseDupsBy,List.eraseDupsBy.loop,hyx,hxy]
 intro h
 rcases h with h | h
 ·cases a <;> first | (cases h;done) | (cases ha;done)
 ·cases b <;> first | (cases h;done) | (cases hb';done)
noncomputable def O80:Expr→Bool
 |.ListComp ..=>false
 |.SetComp ..=>false
 |.DictComp ..=>false
 |_=>true
theorem t50{v:Expr}{n:Nat}{env:PySem.Env}(h:O80 v=true)(t:Option Expr):swapsWith v t n env=pure false:=by
 cases v <;> first | rfl | (cases h;done)
theorem O90{v tg:Expr}{n:Nat}{env:PySem.Env}(h:(match tg with | .Name ..=>true | _=>false)=false):swapsWith v (some tg) n env=pure false:=by
 cases v <;> first | rfl | (cases tg <;> first | rfl | (cases h;done))
theorem D11{el:Expr}{gs:List Comprehension}{sc:Scope}{p px:Pos}{t:Str}{n:Nat}{env:PySem.Env}:∃ b,swapsWith (.ListComp el gs sc p) (some (.Name t px)) n env=pure b:=⟨_,rfl⟩
structure XS(lm:Bool)(X:Cx)(G:Gs)(E:XK)(N:List Str)(sc:Scope)(cn:List Str):Prop extends XI lm X G E N sc where
 sco:X.env.scope=sc
 fnk:sc.kind=.function
 own:PassesOwn (model X.prog X.w) X.A X.env X.xe
 can:H70 X E
 fnx:∀ x,X.fn x=true
 cls:∀ c x,cn[c]?=some x→X.mg x=some (.ref (G.cls c))∧PySem.W.excIn X.K (G.cls c) [.type "ValueError",.type "Exception",.type "BaseException",.type "object"] "ValueError.__new__"=true
noncomputable def I90(sc:Scope)(x:Str):Bool:=sc.names.lookup x == some .local || sc.names.lookup x == some .cell
section
variable {lm:Bool}{X:Cx}{G:Gs}{E:XK}{N:List Str}{sc:Scope}{cn:List Str}{H0:Hp}{zE:Option Addr}
theorem XS.loc(x:XS lm X G E N sc cn):C41 X N (I90 sc):=by
 refine⟨x.hN,x.nd,λy h=>?_,λy _=>.inl (x.fnx y),x.calm⟩
 unfold I90 at h
 rw[Bool.or_eq_true,beq_iff_eq,beq_iff_eq] at h
 rw[x.sco];exact h
theorem XS.bk(x:XS lm X G E N sc cn):X.env.blockKind=.function:=by
 unfold Env.blockKind
 rw[x.sco,x.fnk];rfl
theorem PS.imp{st:Stmt}{t t':TS}(h:PS X st t)(i:∀ D σ H,t' D σ H→t D σ H):PS X st t':=λpins s σ H D I q=>h pins s σ H D I (i _ _ _ q)
theorem PSs.imp{st:List Stmt}{t t':TS}(h:PSs X st t)(i:∀ D σ H,t' D σ H→t D σ H):PSs X st t':=λpins s σ H D I q=>h pins s σ H D I (i _ _ _ q)
theorem PI.imp{tg e:Expr}{t t':TI}(h:PI X tg e t)(i:∀ σ H R,t' σ H R→t σ H R):PI X tg e t':=λpins s σ H R I q=>h pins s σ H R I (i _ _ _ q)
theorem s62:PSs X [] (tX X.K G E H0 zE .nil):=PSs.imp J11 λD σ H q=>by
 obtain⟨zA,ow,ρ,z,r,rw,st,e,po⟩:=q
 cases e
 exact po zA ow σ H rw st (a30.refl _)
theorem s72{s r:Sm}{st:Stmt}{rest:List Stmt}(h1:PS X st (tX X.K G E H0 zE s))(h2:PSs X rest (tX X.K G E H0 zE r)):PSs X (st::rest) (tX X.K G E H0 zE (.seq s r)):=PSs.imp (x51 h1 h2) λD σ H q=>by
 obtain⟨zA,ow,ρ,z,rr,rw,st,e,po⟩:=q
 have e0:M.bind (ex G.F zE.isNone s ρ) (λo=>match o with | .nx ρ=>ex G.F zE.isNone r ρ | .rt s=>M.ret (.rt s)) z=some rr:=e
 rcases M.bind_some e0 with ⟨o,z1,e1,e2⟩ | ⟨c,z1,e1,e2⟩
 ·refine⟨zA,ow,ρ,z,_,rw,st,e1,?_⟩
  cases o with
  |nx ρ1=>exact λzA' ow' σ' H' rw' st' sm=>⟨zA',ow',ρ1,z1,rr,rw',st',e2,po.mono sm⟩
  |rt s=>cases e2;exact po
 ·subst e2
  exact⟨zA,ow,ρ,z,_,rw,st,e1,po⟩
theorem H71{p:Pat}{e:Ex}{D:Ends}{σ:L2.St}{H:Hp}(q:tX X.K G E H0 zE (.set p e) D σ H):X31 (tI X.K G E e) (gP X.K p) D σ H:=by
 obtain⟨zA,ow,ρ,z,rr,rw,st,ee,po⟩:=q
 refine k00 rw.O70 st ee (po.ers rw) λl z1 e1=>?_
 obtain⟨s,hs,e2⟩:=M.a10 e1
 refine⟨s,B40 hs,λv H1 x1 st1 rv=>?_⟩
 obtain⟨ρ',hb,e3⟩:=M.a10 e2
 cases e3
 exact b81 rw x1 rv hb λow' σ' r' sm=>po zA ow' σ' H1 r' st1 sm
theorem x42{K:PySem.W.Frag}{i:Nat}:gP K (.v i)=e71 i:=by unfold gP;rfl
theorem s82(x:XS lm X G E N sc cn){i:Nat}{e:Ex}{y:Str}{v:Expr}{px pos:Pos}(hi:N[i]?=some y)(hl:I90 sc y=true)(g:a80 X G E e v)
  (hc:∀ elt gs csc q,v=.ListComp elt gs csc q→∃ tg iter ifs,gs=[⟨tg,iter,ifs,0⟩]∧E50 X G E e elt tg iter ifs csc) (hno:∀ a b c d,v≠.SetComp a b c d) (hnd:∀ a b c d f,v≠.DictComp a b c d f) :
  PS X (.Assign [.Name y px] v pos) (tX X.K G E H0 zE (.set (.v i) e)):=by
 have L:=x.loc
 refine PS.imp (t:=X31 (tI X.K G E e) (e71 i)) ?_ λD σ H q=>by rw[← x42 (K:=X.K)];exact H71 q
 have h1:X.N.Nodup:=by rw[x.hN];exact x.nd
 have h2:X.N[i]?=some y:=by rw[x.hN];exact hi
 by_cases hv:∃ elt gs csc q,v=.ListComp elt gs csc q
 ·obtain⟨elt,gs,csc,q,rfl⟩:=hv
  obtain⟨b,hb⟩:=D11 (el:=elt) (gs:=gs) (sc:=csc) (p:=q) (px:=px) (t:=y) (n:=pos.line) (env:=X.env)
  cases b with
  |false=>exact i91 h1 h2 (L.lc y hl) g.pe hb (L.fn y hl)
  |true =>
   obtain⟨tg,iter,ifs,rfl,own,capt,wi,gg,tt,te,k1,k2,k3,k4,k5,k6,k7⟩:=hc elt gs csc q rfl
   refine PS.imp (L21 h1 h2 (L.lc y hl) hb x.calm k1 k2 k3 k4 k5 k6 (L.fn y hl)) λD σ H q=>k7 _ _ _ q
 ·exact i91 h1 h2 (L.lc y hl) g.pe (t50 (by cases v <;> first | rfl | exact absurd rfl (hno _ _ _ _) | exact absurd rfl (hnd _ _ _ _ _) | exact absurd ⟨_,_,_,_,rfl⟩ hv) _) (L.fn y hl)
theorem q91(x:XS lm X G E N sc cn){p:Pat}{e:Ex}{tg v:Expr}{pos:Pos}(hp:h90 N (I90 sc) p tg=true)(g:a80 X G E e v)(ht:m50 tg=true)(hv:swappedStores [tg] v X.env=pure none) :
  PS X (.Assign [tg] v pos) (tX X.K G E H0 zE (.set p e)):=by
 refine PS.imp (F21 g.pe (p11 x.loc hp) ?_ hv ?_) λD σ H q=>H71 q
 ·exact O90 (by cases tg <;> first | rfl | (cases ht;done))
 ·cases tg <;> first | rfl | (cases ht;done)
theorem s92(x:XS lm X G E N sc cn){i j:Nat}{ea eb:Ex}{a b:Expr}{y w:Str}{px py pt pt2 pos:Pos}{k k2:Nat}(hi:N[i]?=some y)(hj:N[j]?=some w)(hyw:(y == w)=false)(hy:sc.names.lookup y=some .local)(hw':sc.names.lookup w=some .local)
  (g:Good X G E (.cons ea (.cons eb .nil)) [a,b]) (hs:swappedStores [.Tuple [.Name y px,.Name w py] k pt] (.Tuple [a,b] k2 pt2) X.env=pure (some [y,w])) :
  PS X (.Assign [.Tuple [.Name y px,.Name w py] k pt] (.Tuple [a,b] k2 pt2) pos) (tX X.K G E H0 zE (.set (.tup (.cons (.v i) (.cons (.v j) .nil))) (.tup (.cons ea (.cons eb .nil))))):=by
 have hij:i≠j:=λh=>by
  subst h
  rw[hi] at hj;cases hj
  rw[beq_self_eq_true] at hyw;cases hyw
 refine PS.imp (X41 x.calm (by rw[x.hN];exact x.nd) (by rw[x.hN];exact hi) (by rw[x.hN];exact hj) hij (by rw[x.sco];exact hy) (by rw[x.sco];exact hw') (g.args rfl).1 hs rfl) λD σ H q=>?_
 obtain⟨zA,ow,ρ,z,rr,rw,st,ee,po⟩:=q
 have e0:M.bind (M.bind (ev G.F (.cons ea (.cons eb .nil)) ρ) λl=>M.bind (M.of (plA l)) λds=>if ds.length≤most then M.ret [S.d (.tup ds)] else M.no) (λl=>M.bind (M.of (one l)) λs=>M.bind (M.of (N70 (.tup (.cons (.v i) (.cons (.v j) .nil))) s (n20 s ρ))) λρ=>M.ret (O.nx ρ)) z=some rr:=ee
 rcases M.bind_some e0 with ⟨l0,z0,e1,e2⟩ | ⟨c,z1,e1,e2⟩
 ·rcases M.bind_some e1 with ⟨l,z1,e3,e4⟩ | ⟨c,z1,e3,e4⟩
  ·obtain⟨ds,hds,e5⟩:=M.a10 e4
   split at e5
   ·cases e5
    obtain⟨s,hs',e6⟩:=M.a10 e2
    cases hs'
    obtain⟨ρ',hb,e7⟩:=M.a10 e6
    cases e7
    refine⟨zA,ρ,z,_,rw.O70,st,e3,λvs H1 x1 st1 rvs=>?_⟩
    have hd:=I30 rvs hds
    obtain⟨owk,r1,s1,b1⟩:=q71 rw (.d (.tup ds))
    have hb':bindL (.cons (.v i) (.cons (.v j) .nil)) ds (n20 (.d (.tup ds)) ρ)=some ρ':=by
     have:e30 (.tup (.cons (.v i) (.cons (.v j) .nil))) (.tup ds) (n20 (.d (.tup ds)) ρ)=some ρ':=hb
     unfold e30 at this;exact this
    have r2:=r1.mono x1
    have hd2:HdA X.K (hw owk (hz zA H1)) ds vs:=by
     rcases b1 with b1 | b1
     ·exact z10 r2.Q11 (by simpa [g41,bare] using b1) hd
     ·have:owk=λ_=>none:=funext b1
      subst this
      rw[u90];exact hd
    have:=q61 hb' (R:=D.nx) r2 hd2 λow' σ' r' sm=>po zA ow' σ' H1 r' st1 (a30.trans s1 (a30.trans (c90 x1) sm))
    unfold gL at this
    obtain⟨v,vr,rfl,this⟩:=this
    unfold gP gL at this
    obtain⟨u,ur,rfl,this⟩:=this
    unfold gP gL at this
    obtain⟨rfl,this⟩:=this
    exact⟨v,u,rfl,this⟩
   ·cases e5
  ·cases e4
 ·subst e2
  rcases M.bind_some e1 with ⟨l,z2,e3,e4⟩ | ⟨c,z2,e3,e4⟩
  ·obtain⟨ds,hds,e5⟩:=M.a10 e4
   split at e5 <;> cases e5
  ·cases e4
   exact⟨zA,ρ,z,_,rw.O70,st,e3,po.er_ rw⟩
theorem H81{s t:S}(h:noS s=some t):s=t∧t≠.z:=by
 cases s with
 |z=>cases h
 |d _=>cases h;exact⟨rfl,λh=>nomatch h⟩
 |fr _=>cases h;exact⟨rfl,λh=>nomatch h⟩
theorem f52(x:XS lm X G E N sc cn){i:Nat}{n:Str}{p pos:Pos}(h1:N[i]?=some n)(h2:c70 n=true):PS X (.Return (some (.Name n p)) pos) (tX X.K G E H0 zE (.ret (.var i))):=by
 unfold c70 at h2
 simp only[Bool.and_eq_true,Bool.not_eq_true'] at h2
 refine PS.imp (F11 (w30 (i:=i) (by rw[x.hN];exact h1) (x.vis n (List.mem_of_getElem? h1)) h2.1 h2.2)) λD σ H q=>?_
 obtain⟨zA,ow,ρ,z,rr,rw,st,ee,po⟩:=q
 have e0:(match ρ[i]? with | some (some s)=>M.bind (M.of (noS s)) λs=>M.ret (O.rt s) | _=>M.no) z=some rr:=ee
 cases hs:ρ[i]? with
 |none=>rw[hs] at e0;cases e0
 |some o =>
  cases o with
  |none=>rw[hs] at e0;cases e0
  |some s =>
   rw[hs] at e0
   obtain⟨t,ht,e1⟩:=M.a10 e0
   cases e1
   obtain⟨rfl,nz⟩:=H81 ht
   obtain⟨v,k1,k2⟩:=rw.D62 nz hs
   exact⟨v,k1,po v H nz rw.ext (V11 rw.zok st) k2⟩
theorem t02{e:Ex}{v:Expr}{pos:Pos}(hv:∀ i,e≠.var i)(g:a80 X G E e v):PS X (.Return (some v) pos) (tX X.K G E H0 zE (.ret e)):=by
 refine PS.imp (F11 g.pe) λD σ H q=>?_
 obtain⟨zA,ow,ρ,z,rr,rw,st,ee,po⟩:=q
 have e0:M.bind (ev G.F e ρ) (λl=>M.bind (M.of ((one l).bind noS)) λs=>M.ret (O.rt s)) z=some rr:=by
  cases e <;> first | exact ee | exact absurd rfl (hv _)
 refine k00 rw.O70 st e0 (po.ers rw) λl z1 e1=>?_
 obtain⟨t,ht,e2⟩:=M.a10 e1
 cases e2
 obtain⟨s,hs,hn⟩:=Option.bind_eq_some_iff.mp ht
 obtain⟨rfl,nz⟩:=H81 hn
 exact⟨s,B40 hs,λv H1 x1 st1 rv=>po v H1 nz (q51 rw.ext rw.zok x1) (V11 rw.zok st1) (rw.out nz x1 rv)⟩
theorem E02{c:Ex}{t u:Sm}{ce:Expr}{a b:List Stmt}{pos:Pos}(g:a80 X G E c ce)(hn:∀ t a b p,ce≠.IfExp t a b p)(ha:PSs X a (tX X.K G E H0 zE t))(hb:PSs X b (tX X.K G E H0 zE u)) :
  PS X (.If ce a b pos) (tX X.K G E H0 zE (.iff c t u)):=by
 refine PS.imp (l92 (g.pt hn) ha hb) λD σ H q=>?_
 obtain⟨zA,ow,ρ,z,rr,rw,st,ee,po⟩:=q
 refine O30 rw.O70 st ee (po.ers rw) λb z1 e1 H1 x1 st1=>?_
 have r1:=rw.mono x1
 have sm:a30 (hw ow (hz zA H)) (hw ow (hz zA H1)):=c90 x1
 cases b with
 |true=>exact⟨zA,ow,ρ,z1,rr,r1,st1,e1,po.mono sm⟩
 |false=>exact⟨zA,ow,ρ,z1,rr,r1,st1,e1,po.mono sm⟩
theorem t12{e:Ex}{v:Expr}{pos:Pos}(g:a80 X G E e v)(h:O80 v=true):PS X (.Expr v pos) (tX X.K G E H0 zE (.exp e)):=by
 refine PS.imp (S70 g.pe (t50 h none)) λD σ H q=>?_
 obtain⟨zA,ow,ρ,z,rr,rw,st,ee,po⟩:=q
 have e0:M.bind (ev G.F e ρ) (λl=>M.bind (M.of (one l)) λ_=>M.ret (O.nx ρ)) z=some rr:=ee
 refine k00 rw.O70 st e0 (po.ers rw) λl z1 e1=>?_
 obtain⟨s,hs,e2⟩:=M.a10 e1
 cases e2
 exact⟨s,B40 hs,λv H1 x1 st1 rv=>po zA ow σ H1 (rw.mono x1) st1 (c90 x1)⟩
noncomputable def k62:Bi→Operator→Bool
 |.mul,.Mult=>true
 |.add,.Add=>true
 |_,_=>false
theorem f62{o:Bi}{op:Operator}(h:k62 o op=true):PIp X op λx y H Q=>∃ i j k,x=.int i∧y=.int j∧y60 o (.int i) (.int j)=some (.d (.int k))∧Q (.int k) H:=by
 intro pins s σ H x y v u Q I r1 r2 q
 obtain⟨i,j,k,rfl,rfl,e,q⟩:=q
 obtain⟨t,rfl⟩:=r1
 obtain⟨t',rfl⟩:=r2
 cases o <;> cases op <;> first | (cases h;done) | skip
 ·cases e;exact iadd_int ⟨.int _,H,I.tok _,⟨_,rfl⟩,q⟩
 ·obtain⟨hl,e⟩:=e20 e
  cases e;exact imul_int ⟨.int _,H,I.tok _,⟨_,rfl⟩,q⟩ (G31 hl.1 hl.2)
theorem Q51{o:Bi}{op:Operator}(h:k62 o op=true){i j:Int}{s:S}(e:y60 o (.int i) (.int j)=some s):∃ k,s=.d (.int k):=by
 cases o <;> cases op <;> first | (cases h;done) | skip
 ·cases e;exact⟨_,rfl⟩
 ·obtain⟨_,e⟩:=e20 e
  cases e;exact⟨_,rfl⟩
theorem f72{d:D}{i:Int}(h:asI d=some i):d=.int i:=by cases d <;> first | (cases h;rfl) | (cases h;done)
theorem t22(x:XS lm X G E N sc cn){i:Nat}{o:Bi}{e:Ex}{y:Str}{v:Expr}{op:Operator}{px pos:Pos}(hi:N[i]?=some y)(hl:I90 sc y=true)(ho:k62 o op=true)(g:a80 X G E e v):PS X (.AugAssign (.Name y px) op v pos) (tX X.K G E H0 zE (.aug o i e)):=by
 have L:=x.loc
 refine PS.imp (X51 (i:=i) (by rw[x.hN];exact x.nd) (by rw[x.hN];exact hi) (L.lc y hl) g.pe (f62 ho) (L.fn y hl)) λD σ H q=>?_
 obtain⟨zA,ow,ρ,z,rr,rw,st,ee,po⟩:=q
 obtain⟨yd,hy,e1⟩:=M.a10 ee
 obtain⟨s0,hs0,hy⟩:=Option.bind_eq_some_iff.mp hy
 have hr:ρ[i]?=some (some s0):=by
  cases h:ρ[i]? with
  |none=>rw[h] at hs0;cases hs0
  |some w=>rw[h] at hs0;cases hs0;rfl
 obtain⟨w,k1,k2⟩:=rw.wor i s0 hr
 refine⟨w,k1,?_⟩
 refine k00 rw.O70 st e1 (po.ers rw) λl z1 e2=>?_
 obtain⟨xi,hx,e3⟩:=M.a10 e2
 obtain⟨dx,hx1,hx2⟩:=Option.bind_eq_some_iff.mp hx
 obtain⟨s1,rfl,hs1⟩:=f40 hx1
 cases f72 hx2
 refine⟨s1,rfl,λu H1 x1 st1 rv=>?_⟩
 obtain⟨s2,hb,e4⟩:=M.a10 e3
 obtain⟨yi,hyi,hb⟩:=Option.bind_eq_some_iff.mp hb
 cases f72 hyi
 obtain⟨k,rfl⟩:=Q51 ho hb
 have hw:w=.int yi:=by
  cases s0 with
  |d x=>cases hy;exact(show Hd X.K (hw ow (hz zA H)) (.int yi) w from k2.2).h60
  |fr xs=>cases hy
  |z=>cases hy
 refine⟨yi,xi,k,hw,(show Hd X.K (hz zA H1) (.int xi) u from rv.pl.d_ hs1).h60,hb,?_⟩
 obtain⟨ρ',hp,e5⟩:=M.a10 e4
 cases e5
 have:=b81 (R:=λσ' H'=>D.nx σ' H') rw x1 g30 hp λow' σ' r' sm=>po zA ow' σ' H1 r' st1 sm
 rw[x42] at this
 exact this
theorem x_raise(x:XS lm X G E N sc cn){c:Nat}{n:Str}{y:Str}{k:Nat}{p1 p2 p3 p4:Pos}(hc:cn[c]?=some n)(hg:glob sc n=true):PS X (.Raise (some (.Call (.Name n p1) [.Constant (.str y) k p2] [] p3)) none p4) (tX X.K G E H0 zE (.rais c)):=by
 obtain⟨k1,k2,_⟩:=d50 hg
 obtain⟨m1,m2⟩:=x.cls c n hc
 refine PS.imp (B01 x.can x.calm (x.glb n k1) m1 m2 (k90 F01 D50) k2 rfl rfl) λD σ H q=>?_
 obtain⟨zA,ow,ρ,z,rr,rw,st,ee,po⟩:=q
 cases ee
 exact⟨by show 1≤sizeLine;decide,λe hn=>po e H rw.ext (V11 rw.zok st) hn⟩
end
end Q
namespace Q
open PySem L2 PySem.Spec PyProof.Rows
variable [TB:Tb]
section
variable {K:PySem.W.Frag}{H0 H H':Hp}{zE zA:Option Addr}{ow:Nat→Option Addr}{ρ:Env}{σ:L2.St}
theorem f70{i j:Nat}{a:Addr}(e:ow0 ow i j=some a):j≠i∧ow j=some a:=by
 unfold ow0 at e
 split at e
 ·cases e
 ·rename_i n;exact⟨n,e⟩
theorem z30{i:Nat}:ow0 ow i i=none:=if_pos rfl
theorem r01{i j:Nat}(h:j≠i):ow0 ow i j=ow j:=if_neg h
theorem D21{ρ:Env}{j:Nat}{s:S}(h:(N60 ρ)[j]?=some (some s)):ρ[j]?=some (some s)∧s≠.z:=by
 unfold N60 at h
 rw[List.getElem?_map] at h
 obtain⟨o,e1,e2⟩:=Option.map_eq_some_iff.mp h
 cases o with
 |none=>cases e2
 |some t =>
  cases t with
  |z=>cases e2
  |d x=>cases e2;exact⟨e1,λh=>nomatch h⟩
  |fr x=>cases e2;exact⟨e1,λh=>nomatch h⟩
theorem Q61{ρ:Env}{j:Nat}{xs:List D}(h:ρ[j]?=some (some (.fr xs))):(N60 ρ)[j]?=some (some (.fr xs)):=by
 unfold N60
 rw[List.getElem?_map,h];rfl
theorem RW.E12(r:RW K H0 none zA ow H ρ σ){i:Nat}{a:Addr}{ys:List V}(x:Ext zA H H')(hn:H a=none)(za:zA≠some a)(hl:H' a=some (.lst ys)) :
  RW K H0 none (some a) (ow0 ow i) H' ((N60 ρ).set i (some .z)) (σ.set i (some (.ref a)))∧a30 (hw ow (hz zA H)) (hw (ow0 ow i) (hz (some a) H')):=by
 have r':=r.mono x
 have old:∀ j b,ow j=some b→b≠a:=λj b e q=>by
  obtain⟨zs,h1⟩:=r.lst j b e
  rw[q,hn] at h1;cases h1
 have sm:a30 (hw ow (hz zA H)) (hw (ow0 ow i) (hz (some a) H')):=λb o e=>by
  obtain⟨e1,e2⟩:=B60 e
  have hb:b≠a:=λq=>by
   have e3:H b=some o:=(r00 e1).1
   rw[q,hn] at e3;cases e3
  exact h30 (c80 (r00 (x b o e1)).1 (λq=>by cases q;exact hb rfl) (s90 e1)) λj q=>e2 j (f70 q).2
 have dl:(N60 ρ).length=ρ.length:=by unfold N60;rw[List.length_map]
 refine⟨⟨by rw[List.length_set,List.length_set,dl];exact r.len,λj k b h1 h2=>r.inj j k b (f70 h1).2 (f70 h2).2,λj b h1 q=>?_,λj b h1=>?_,λj s e=>?_,r'.ext,.inr ⟨rfl,λb q=>?_⟩,λj b h1=>r.new j b (f70 h1).2⟩,sm⟩
 ·cases q
  exact old j _ (f70 h1).2 rfl
 ·obtain⟨n,h2⟩:=f70 h1
  obtain⟨xs,h3⟩:=r.own j b h2
  exact⟨xs,by rw[List.getElem?_set_ne (Ne.symm n)];exact Q61 h3⟩
 ·rcases getElem?_set' e with ⟨rfl,e1,hlt⟩ | ⟨n,e1⟩
  ·cases e1
   exact⟨.ref a,List.getElem?_set_self (by rw[← r.len,← dl];exact hlt),z30,a,rfl,rfl⟩
  ·obtain⟨e1,nz⟩:=D21 e1
   obtain⟨w,h1,h2⟩:=r.wor j s e1
   refine⟨w,by rw[List.getElem?_set_ne (Ne.symm n)];exact h1,?_⟩
   cases s with
   |d y=>exact⟨by rw[r01 n];exact h2.1,h2.2.same sm⟩
   |z=>exact absurd rfl nz
   |fr xs =>
    obtain⟨b,zs,k1,rfl,k3,k4⟩:=h2
    exact⟨b,zs,by rw[r01 n];exact k1,rfl,x.at k3 (r.zne j b k1),k4.same sm⟩
 ·cases q
  exact(r.young hn za).1
theorem RW.plain(r:RW K H0 zE zA ow H ρ σ)(i:Nat):RW K H0 zE zA (ow0 ow i) H (ρ.set i ((ρ[i]?.getD none).map plS)) σ:=by
 have sm:=z20 (H:=hz zA H) ow i
 refine⟨by rw[List.length_set];exact r.len,λj k b h1 h2=>r.inj j k b (f70 h1).2 (f70 h2).2,λj b h1=>r.zne j b (f70 h1).2,λj b h1=>?_,λj s e=>?_,r.ext,r.zok,λj b h1=>r.new j b (f70 h1).2⟩
 ·obtain⟨n,h2⟩:=f70 h1
  obtain⟨xs,h3⟩:=r.own j b h2
  exact⟨xs,by rw[List.getElem?_set_ne (Ne.symm n)];exact h3⟩
 ·rcases getElem?_set' e with ⟨rfl,e1,hlt⟩ | ⟨n,e1⟩
  ·cases hs:ρ[j]? with
   |none=>rw[hs] at e1;cases e1
   |some o =>
    rw[hs] at e1
    cases o with
    |none=>cases e1
    |some s0 =>
     cases e1
     obtain⟨w,h1,h2⟩:=r.wor j s0 hs
     refine⟨w,h1,?_⟩
     cases s0 with
     |d y=>exact⟨z30,h2.2.same sm⟩
     |z=>exact⟨z30,h2.2⟩
     |fr xs =>
      obtain⟨b,zs,k1,rfl,k3,k4⟩:=h2
      refine⟨z30,Hd.lst (h30 (c80 k3 (r.zne j b k1)) λk q=>?_) (k4.same sm)⟩
      obtain⟨q1,q2⟩:=f70 q
      exact q1 (r.inj k j b q2 k1)
  ·obtain⟨w,h1,h2⟩:=r.wor j s e1
   exact⟨w,h1,h2.move (r01 n) sm λ_ _=>rfl⟩
end
theorem HdA.eraseIdx{K:PySem.W.Frag}{H:Hp}:∀ {ds:List D}{vs:List V} (n:Nat),HdA K H ds vs→HdA K H (ds.eraseIdx n) (vs.eraseIdx n)
 |[],_,n,h=>by rw[h.e70];exact .nil
 |d::ds,_,0,h=>by
  obtain⟨x,r,rfl,h1,h2⟩:=h.b50
  exact h2
 |d::ds,_,n + 1,h=>by
  obtain⟨x,r,rfl,h1,h2⟩:=h.b50
  exact .cons h1 (HdA.eraseIdx n h2)
section
variable {lm:Bool}{X:Cx}{G:Gs}{E:XK}{N:List Str}{sc:Scope}{cn:List Str}{H0:Hp}{zE:Option Addr}
theorem r11{α β:Type}{R:α→β→Prop}{a:α}{vs:List β}(h:Paired R [a] vs):∃ v,vs=[v]∧R a v:=by
 cases h with
 |cons h1 h2=>cases h2;exact⟨_,rfl,h1⟩
theorem d60.a50{zA:Option Addr}{z:Z}{H:Hp}{a:Addr}{o:HO}{xs:List V}(st:d60 zA z H)(n:zA≠some a)(h:H a=some (.lst xs)):d60 zA z (upd H a o):=by
 refine⟨?_,λp hp=>Tab.upd (st.tab p hp) h⟩
 have st:=st.zat
 cases zA with
 |none=>cases z <;> exact st
 |some b =>
  cases z with
  |none=>exact st
  |some p =>
   have hb:b≠a:=λq=>n (by rw[q])
   exact(L2.a50 hb).trans st
theorem r21{ρ:Env}{i:Nat}{xs:List D}(h:ownAt ρ i=some xs):ρ[i]?=some (some (.fr xs)):=by
 unfold ownAt at h
 split at h
 ·rename_i h1;cases h;exact h1
 ·cases h
theorem Q71{K:PySem.W.Frag}{zA:Option Addr}{H0 H:Hp}{s:S}{v:V}{x:D}(h:RvS K zA H0 H s v)(e:plD s=some x):Hd K (hz zA H) x v:=h.pl.d_ e
theorem t32(x:XS lm X G E N sc cn){i:Nat}{n:Str}{e:Ex}{v:Expr}{p apos cpos pos:Pos}(h1:N[i]?=some n)(h2:c70 n=true)(ns:noStar v=true)(g:a80 X G E e v)(hl:(apos.endLine == cpos.line)=true) :
  PS X (.Expr (.Call (.Attribute (.Name n p) "append" apos) [v] [] cpos) pos) (tX X.K G E H0 zE (.app i e)):=by
 unfold c70 at h2
 simp only[Bool.and_eq_true,Bool.not_eq_true'] at h2
 have ga:Good X G E (.cons e .nil) [v]:=⟨v,[],rfl,ns,g,rfl,rfl⟩
 have hs:=b90 ns [] X.env
 refine PS.imp (S70 (K51 PySem.F.plainAttrs_list PySem.F.slot_list_append PySem.F.type_list_append M90 (w30 (i:=i) (by rw[x.hN];exact h1) (x.vis n (List.mem_of_getElem? h1)) h2.1 h2.2) (ga.args rfl).1 rfl (by rw[hs];rfl) hl hs rfl) (t50 rfl none)) λD σ H q=>?_
 obtain⟨zA,ow,ρ,z,rr,rw,st,ee,po⟩:=q
 obtain⟨xs,hx,e1⟩:=M.a10 ee
 have ho:=r21 hx
 obtain⟨w,k1,a,ys,k2,rfl,k3,k4⟩:=rw.wor i _ ho
 refine⟨_,k1,.inl ⟨rfl,ys,SqL.of k3⟩,?_⟩
 have e2:M.bind (ev G.F (.cons e .nil) ρ) (λm=>M.bind (M.of (pl m)) λx=>if bare x=true∧xs.length < most then M.ret (O.nx (ρ.set i (some (.fr (xs++[x]))))) else M.no) z=some rr∨∃ c z1,ev G.F e ρ z=some (.er c z1)∧rr=.er c z1:=by
  rcases M.bind_some e1 with ⟨l,z1,e3,e4⟩ | ⟨c,z1,e3,e4⟩
  ·obtain⟨y,hy,e5⟩:=M.a10 e4
   obtain⟨s,rfl,hs⟩:=f40 hy
   refine .inl ?_
   show M.bind (M.bind (ev G.F e ρ) λx=>M.bind (M.of (one x)) λs=>M.bind (ev G.F .nil ρ) λy=>M.ret (s::y)) _ z=some rr
   simp only[M.bind,e3,M.of,one,M.ret,ev,hy]
   exact e5
  ·exact .inr ⟨c,z1,e3,e4⟩
 rcases e2 with e2 | ⟨c,z1,e3,rfl⟩
 ·refine g71 rw.O70 st e2 (po.ers rw) λl z1 e3 vs H1 x1 st1 rvs=>?_
  obtain⟨y,hy,e5⟩:=M.a10 e3
  obtain⟨s,rfl,hs⟩:=f40 hy
  split at e5
  ·rename_i hb
   cases e5
   obtain⟨u,rfl,ru⟩:=r11 rvs
   have r1:=rw.mono x1
   have k3':=x1.at k3 (rw.zne i a k2)
   have k4':HdA X.K (hw ow (hz zA H1)) xs ys:=k4.same (c90 x1)
   have hd:=I80 r1.Q11 hb.1 (Q71 ru hs)
   refine⟨a,ys,u,rfl,rfl,k3',Nat.lt_of_lt_of_le (by rw[k4.length];exact hb.2) (e40 (Nat.le_refl _)),?_⟩
   refine po zA ow σ _ (r1.upd k2 (k4'.append (.cons hd .nil))) ?_ (a30.trans (c90 x1) (V50 k2))
   exact st1.a50 (rw.zne i a k2) k3'
  ·cases e5
 ·refine⟨zA,ρ,z,.er c z1,rw.O70,st,?_,po.er_ rw⟩
  show M.bind (ev G.F e ρ) _ z=_
  simp only[M.bind,e3]
theorem f82(x:XS lm X G E N sc cn){i f:Nat}{as:Ex}{y:Str}{v:Expr}{px pos:Pos}(hi:N[i]?=some y)(hl:I90 sc y=true)(g:a80 X G E (.call f as) v)(hv:O80 v=true) :
  PS X (.Assign [.Name y px] v pos) (tX X.K G E H0 zE (.newz i f as)):=by
 have L:=x.loc
 refine PS.imp (i91 (i:=i) (by rw[x.hN];exact x.nd) (by rw[x.hN];exact hi) (L.lc y hl) g.pe (t50 hv _) (L.fn y hl)) λD σ H q=>?_
 obtain⟨zA,ow,ρ,z,rr,rw,st,ee,po⟩:=q
 refine k00 rw.O70 st ee (po.ers rw) λl z1 e1=>?_
 have e2:n41 zE.isNone ρ i l=some rr:=e1
 unfold n41 at e2
 split at e2
 ·split at e2
  ·rename_i m b hz'
   cases e2
   have zn:zE=none:=by
    cases zE with
    |none=>rfl
    |some _=>cases hz'
   subst zn
   refine⟨_,rfl,λu H1 x1 st1 rv=>?_⟩
   obtain⟨a,ys,rfl,k1,k2,k3,k4⟩:=rv
   obtain⟨v1,v2,rfl,h3,h4⟩:=k4.two
   cases h3.h60;cases h4.bl_
   obtain⟨r1,sm⟩:=rw.E12 (i:=i) x1 k1 k2 k3
   exact po (some a) _ _ H1 r1 ⟨k3,st1.tab⟩ sm
  ·cases e2
 ·cases e2
theorem f92(x:XS lm X G E N sc cn){i:Nat}{n:Str}{e:Ex}{v:Expr}{c:Nat}{p q tp pos:Pos}(h1:N[i]?=some n)(h2:c70 n=true)(g:a80 X G E e v) :
  PS X (.Assign [.Subscript (.Name n p) (.Constant (.int 0) c q) tp] v pos) (tX X.K G E H0 zE (.zset i e)):=by
 unfold c70 at h2
 simp only[Bool.and_eq_true,Bool.not_eq_true'] at h2
 refine PS.imp (F21 g.pe (X21 (w30 (i:=i) (by rw[x.hN];exact h1) (x.vis n (List.mem_of_getElem? h1)) h2.1 h2.2) i81 set_list (by intro u;rfl)) (show swapsWith v (some (.Subscript (.Name n p) (.Constant (.int 0) c q) tp)) pos.line X.env=pure false from O90 rfl) (by cases v <;> rfl)) λD σ H q=>?_
 obtain⟨zA,ow,ρ,z,rr,rw,st,ee,po⟩:=q
 refine k00 rw.O70 st ee (po.ers rw) λl z1 e1=>?_
 obtain⟨y,hy,e2⟩:=M.a10 e1
 obtain⟨dy,hy1,hy2⟩:=Option.bind_eq_some_iff.mp hy
 obtain⟨s,rfl,hs⟩:=f40 hy1
 refine⟨s,rfl,λu H1 x1 st1 rv=>?_⟩
 have e3:n51 ρ y ρ[i]? z1=some rr:=e2
 unfold n51 at e3
 split at e3
 ·rename_i p' hsl
  cases e3
  have r1:=rw.mono x1
  obtain⟨w,k1,k2,a,rfl,rfl⟩:=r1.wor i .z hsl
  have hu:u=.int y:=by
   have:=Q71 rv hs
   cases dy <;> first | (cases hy2;exact this.h60) | (cases hy2;done)
  subst hu
  have st':H1 a=some (.lst [.int p'.1,.bl p'.2]):=st1.zat
  refine⟨_,k1,a,[.int p'.1,.bl p'.2],0,0,rfl,rfl,st',rfl,?_⟩
  have x2:Ext (some a) H1 (upd H1 a (.lst [.int y,.bl p'.2])):=by
   refine⟨λb o h=>?_,λb ps h=>⟨ps,by rw[a50 (λz=>by rw[z,st'] at h;cases h)];exact h⟩⟩
   obtain⟨h3,h4⟩:=r00 h
   exact c80 (by rw[a50 (λz=>h4 (by rw[z]))];exact h3) h4 (s90 h)
  exact po (some a) ow σ _ (r1.mono x2) ⟨c30,λp hp=>Tab.upd (st1.tab p hp) st'⟩ (a30.trans (c90 x1.same) (c90 x2.same))
 ·cases e3
theorem t42(x:XS lm X G E N sc cn){c:Ex}{b:Sm}{ce:Expr}{body:List Stmt}{pos:Pos}(g:a80 X G E c ce)(hn:∀ t a b p,ce≠.IfExp t a b p)(hb:PSs X body (tX X.K G E H0 zE b)):PS X (.While ce body [] pos) (tX X.K G E H0 zE (.whl c b)):=by
 refine PS.imp (x71 x.own (g.pt hn) hb) λD σ H q=>?_
 obtain⟨zA,ow,ρ,z,rr,rw,st,ee,po⟩:=q
 refine⟨λm σ H=>∃ zA ow ρ z r,RW X.K H0 zE zA ow H ρ σ∧d60 zA z H∧G21 (ev G.F c) (ex G.F zE.isNone b) m ρ z=some r∧p70 X.K G E H0 zE (hw ow (hz zA H)) D r,⟨U71,zA,ow,ρ,z,rr,rw,st,ee,po⟩,?_⟩
 rintro m σ H ⟨zA,ow,ρ,z,rr,rw,st,ee,po⟩
 cases m with
 |zero=>cases ee
 |succ m =>
  refine O30 rw.O70 st ee (po.ers rw) λk z1 e1 H1 x1 st1=>?_
  have r1:=rw.mono x1
  have sm:a30 (hw ow (hz zA H)) (hw ow (hz zA H1)):=c90 x1
  cases k with
  |false =>
   cases e1
   exact po zA ow σ H1 r1 st1 sm
  |true =>
   rw[if_pos rfl]
   have e2:M.bind (ex G.F zE.isNone b ρ) (λo=>match o with | .nx ρ=>G21 (ev G.F c) (ex G.F zE.isNone b) m ρ | .rt s=>M.ret (.rt s)) z1=some rr:=e1
   refine⟨λσ' H'=>∃ zA ow ρ z r,RW X.K H0 zE zA ow H' ρ σ'∧d60 zA z H'∧G21 (ev G.F c) (ex G.F zE.isNone b) m ρ z=some r∧p70 X.K G E H0 zE (hw ow (hz zA H')) D r,λσ' H' h=>⟨m,Nat.lt_succ_self m,h⟩,?_⟩
   rcases M.bind_some e2 with ⟨o,z2,e3,e4⟩ | ⟨k,z2,e3,e4⟩
   ·refine⟨zA,ow,ρ,z1,_,r1,st1,e3,?_⟩
    cases o with
    |nx ρ1=>exact λzA' ow' σ' H' rw' st' sm'=>⟨zA',ow',ρ1,z2,rr,rw',st',e4,po.mono (a30.trans sm sm')⟩
    |rt s=>cases e4;exact po
   ·subst e4
    exact⟨zA,ow,ρ,z1,_,r1,st1,e3,po⟩
theorem Q81{i j:Nat}{e:Ex}{D:Ends}{σ:L2.St}{H:Hp}{zA:Option Addr}{ow:Nat→Option Addr}{ρ:Env}{z:Z}{rr:R O}(rw:RW X.K H0 zE zA ow H ρ σ)(st:d60 zA z H)(ee:a62 G.F i j e ρ z=some rr)(po:p70 X.K G E H0 zE (hw ow (hz zA H)) D rr) :
  W81 (tBM X.K "list" k41 (j82 i) (Y41 (tBM X.K "list" F61 (j82 j) (tA X.K G E (.cons e .nil))) w02)) D σ H:=by
 obtain⟨xs,hx,e1⟩:=M.a10 ee
 obtain⟨ys,hy,e1⟩:=M.a10 e1
 have ho:=r21 hx
 have hp:=r21 hy
 obtain⟨w,k1,a,us,k2,rfl,k3,k4⟩:=rw.wor i _ ho
 obtain⟨w',m1,b,ws,m2,rfl,m3,m4⟩:=rw.wor j _ hp
 refine⟨_,k1,.inl ⟨rfl,us,SqL.of k3⟩,⟨_,m1,.inl ⟨rfl,ws,SqL.of m3⟩,?_⟩⟩
 rcases M.bind_some e1 with ⟨l,z1,e3,e4⟩ | ⟨c,z1,e3,e4⟩
 ·obtain⟨k,hk,e5⟩:=M.a10 e4
  obtain⟨dk,hk1,hk2⟩:=Option.bind_eq_some_iff.mp hk
  obtain⟨s,rfl,hs⟩:=f40 hk1
  obtain⟨o,hv,e6⟩:=M.a10 e5
  cases e6
  refine⟨zA,ρ,z,.ok [s] z1,rw.O70,st,?_,λvs H1 x1 st1 rvs=>?_⟩
  ·show M.bind (ev G.F e ρ) _ z=_
   simp only[M.bind,e3,M.of,one,M.ret,ev]
  obtain⟨u,rfl,ru⟩:=r11 rvs
  have hu:u=.int k:=by
   have:=Q71 ru hs
   cases dk <;> first | (cases hk2;exact this.h60) | (cases hk2;done)
  subst hu
  unfold n31 at hv
  split at hv
  ·rename_i hb
   have hkk:=A80.mp hb.2.2.1
   obtain⟨y,hy1,hv⟩:=Option.bind_eq_some_iff.mp hv
   split at hv
   ·rename_i hby
    cases hv
    have r1:=rw.mono x1
    have m4':HdA X.K (hw ow (hz zA H1)) ys ws:=m4.same (c90 x1)
    have k4':HdA X.K (hw ow (hz zA H1)) xs us:=k4.same (c90 x1)
    obtain⟨yv,g1,g2⟩:=m4'.get hy1
    have hlt:k.toNat < ws.length:=(List.getElem?_eq_some_iff.mp g1).1
    have hab:a≠b:=λq=>hb.1 (rw.inj i j a k2 (by rw[q];exact m2))
    refine⟨b,ws,k,k.toNat,yv,rfl,rfl,x1.at m3 (rw.zne j b m2),by omega,by omega,?_,g1,?_⟩
    ·have h0:(0:Int)≤k:=hb.2.1
     exact seqIndex_of h0 (by omega)
    ·have r2:=r1.upd m2 (m4'.eraseIdx k.toNat)
     have sm2:=V50 (H:=H1) (zA:=zA) (o:=.lst (ws.eraseIdx k.toNat)) m2
     refine⟨a,us,yv,rfl,rfl,?_,?_,?_⟩
     ·rw[a50 hab];exact x1.at k3 (rw.zne i a k2)
     ·exact Nat.lt_of_lt_of_le (by rw[k4.length];exact hb.2.2.2) (e40 (Nat.le_refl _))
     ·exact po zA ow σ _ (r2.upd k2 ((k4'.same sm2).append (.cons (g2.same sm2) .nil))) ((st1.a50 (rw.zne j b m2) (x1.at m3 (rw.zne j b m2))).a50 (rw.zne i a k2) (by rw[a50 hab];exact x1.at k3 (rw.zne i a k2))) (a30.trans (c90 x1) (a30.trans sm2 (V50 k2)))
   ·cases hv
  ·cases hv
 ·subst e4
  refine⟨zA,ρ,z,.er c z1,rw.O70,st,?_,po.er_ rw⟩
  show M.bind (ev G.F e ρ) _ z=_
  simp only[M.bind,e3]
theorem g02(x:XS lm X G E N sc cn){i j:Nat}{n m:Str}{e:Ex}{v:Expr}{p p' apos cpos apos' cpos' pos:Pos}(h1:N[i]?=some n)(h2:c70 n=true)(h3:N[j]?=some m)(h4:c70 m=true)(ns:noStar v=true)(g:a80 X G E e v)(hl:(apos.endLine == cpos.line)=true)(hl':(apos'.endLine == cpos'.line)=true) :
  PS X (.Expr (.Call (.Attribute (.Name n p) "append" apos) [.Call (.Attribute (.Name m p') "pop" apos') [v] [] cpos'] [] cpos) pos) (tX X.K G E H0 zE (.apop i j e)):=by
 unfold c70 at h2 h4
 simp only[Bool.and_eq_true,Bool.not_eq_true'] at h2 h4
 have ga:Good X G E (.cons e .nil) [v]:=⟨v,[],rfl,ns,g,rfl,rfl⟩
 have hs:=b90 ns [] X.env
 refine PS.imp (S70 (K51 PySem.F.plainAttrs_list PySem.F.slot_list_append PySem.F.type_list_append M90 (w30 (i:=i) (by rw[x.hN];exact h1) (x.vis n (List.mem_of_getElem? h1)) h2.1 h2.2)
  (k90 (K51 PySem.F.plainAttrs_list PySem.F.slot_list_pop PySem.F.type_list_pop y61 (w30 (i:=j) (by rw[x.hN];exact h3) (x.vis m (List.mem_of_getElem? h3)) h4.1 h4.2) (ga.args rfl).1 rfl (by rw[hs];rfl) hl' hs rfl) D50) rfl rfl hl rfl rfl) (t50 rfl none)) λD σ H q=>?_
 obtain⟨zA,ow,ρ,z,rr,rw,st,ee,po⟩:=q
 exact Q81 rw st ee po
end
end Q
namespace Q
open PySem L2 PySem.Spec PyProof.Rows
variable [TB:Tb]
section
variable {lm:Bool}{X:Cx}{G:Gs}{E:XK}{N:List Str}{sc:Scope}{cn:List Str}{H0:Hp}{zE:Option Addr}
noncomputable def t52(K:PySem.W.Frag)(i:Nat):TI:=λσ H R=>∃ a,σ[i]?=some (some (.ref a))∧((∃ ys,SqT K H a ys)∧R (Itt K a) H∨(∃ ys,SqL K H a ys)∧R (Itl K a) H)
theorem g12(x:XI lm X G E N sc){tg:Expr}{i:Nat}{n:Str}{pos:Pos}(h1:N[i]?=some n)(h2:c70 n=true):PI X tg (.Name n pos) (t52 X.K i):=by
 unfold c70 at h2
 simp only[Bool.and_eq_true,Bool.not_eq_true'] at h2
 have hv:PE X (.Name n pos) (j82 i):=w30 (i:=i) (by rw[x.hN];exact h1) (x.vis n (List.mem_of_getElem? h1)) h2.1 h2.2
 intro pins s σ H R I q
 obtain⟨a,k,q | q⟩:=q
 ·exact F31 hv pins s σ H R I ⟨_,k,a,rfl,q.1,q.2⟩
 ·exact S80 hv pins s σ H R I ⟨_,k,a,rfl,q.1,q.2⟩
noncomputable def fBody(F:FT)(tp:Bool)(p:Pat)(b:Sm):D→Env→M O:=λx ρ=>M.bind (M.of (e30 p x ρ)) λρ=>ex F tp b ρ
theorem B80:∀ {l:List D}{d:D},q90 l=true→d∈l→bare d=true
 |x::r,d,h,hd=>by
  simp only[q90,Bool.and_eq_true] at h
  rcases List.mem_cons.mp hd with rfl | hd
  ·exact h.1
  ·exact B80 h.2 hd
theorem b91{p:Pat}{b:Sm}{J:L2.It}{xs:List D}{B:Hp}{D:Ends}{σ:L2.St}{H:Hp}{zA:Option Addr}{ow:Nat→Option Addr}{ρ:Env}{z:Z}{rr:R O}(IT:ItB X.K J xs B)
  (rw:RW X.K H0 zE zA ow H ρ σ) (st:d60 zA z H) (sm:a30 B (hw ow (hz zA H))) (ee:S20 (fBody G.F zE.isNone p b) xs ρ z=some rr) (po:p70 X.K G E H0 zE (hw ow (hz zA H)) D rr) :
  ∃ W:Nat→Nat→L2.St→Hp→Prop,(∃ m,W 0 m σ H)∧∀ i m σ H,W i m σ H →
   (J.stop i H∧D.nx σ H)∨(J.go i H∧∃ Nn:L2.St→Hp→Prop,(∀ σ' H',Nn σ' H'→∃ m',m' < m∧W (i + 1) m' σ' H')∧∀ x H',J.yld i H x H'→gP X.K p x σ H' λσ2 H2=>tX X.K G E H0 zE b { D with nx:=Nn,ct:=Nn,bk:=D.nx } σ2 H2):=by
 refine⟨λi m σ H=>m=xs.length - i∧i≤xs.length∧∃ zA ow ρ z r,RW X.K H0 zE zA ow H ρ σ∧d60 zA z H∧a30 B (hw ow (hz zA H))∧S20 (fBody G.F zE.isNone p b) (xs.drop i) ρ z=some r∧p70 X.K G E H0 zE (hw ow (hz zA H)) D r,
  ⟨xs.length,by simp,Nat.zero_le _,zA,ow,ρ,z,rr,rw,st,sm,by simpa using ee,po⟩,?_⟩
 rintro i m σ H ⟨rfl,hi,zA,ow,ρ,z,rr,rw,st,sm,ee,po⟩
 have sH:a30 B H:=a30.trans sm (a30.trans i80 (a20 zA H))
 by_cases hlt:i < xs.length
 ·refine .inr ⟨IT.go i H sH hlt,λσ' H'=>∃ zA ow ρ z r,RW X.K H0 zE zA ow H' ρ σ'∧d60 zA z H'∧a30 B (hw ow (hz zA H'))∧S20 (fBody G.F zE.isNone p b) (xs.drop (i + 1)) ρ z=some r∧p70 X.K G E H0 zE (hw ow (hz zA H')) D r,
   λσ' H' h=>⟨xs.length - (i + 1),by omega,rfl,hlt,h⟩,λx H' y=>?_⟩
  have hd0:xs[i]?=some xs[i]:=List.getElem?_eq_getElem hlt
  obtain⟨s1,hd⟩:=IT.yld i H x H' zA z _ (a30.trans sm i80) st y hd0
  rw[List.drop_eq_getElem_cons hlt] at ee
  have e0:M.bind (fBody G.F zE.isNone p b xs[i] ρ) (λo=>match o with | .nx ρ=>S20 (fBody G.F zE.isNone p b) (xs.drop (i + 1)) ρ | .rt s=>M.ret (.rt s)) z=some rr:=ee
  have r1:=rw.mono (Ext.of s1)
  have st1:=st.same s1
  have sm1:a30 (hw ow (hz zA H)) (hw ow (hz zA H')):=c90 (i70 s1)
  have hd1:=hd (hw ow (hz zA H')) (a30.trans sm sm1) λ_ _ q=>q41 q r1.Q11
  have fin:∀ {ρ1:Env}{o:O}{z1:Z},e30 p xs[i] ρ=some ρ1→ex G.F zE.isNone b ρ1 z=some (.ok o z1)→(match o with | .nx ρ=>S20 (fBody G.F zE.isNone p b) (xs.drop (i + 1)) ρ | .rt s=>M.ret (.rt s)) z1=some rr→gP X.K p x σ H' λσ2 H2=>tX X.K G E H0 zE b { D with nx:=λσ' H'=>∃ zA ow ρ z r,RW X.K H0 zE zA ow H' ρ σ'∧d60 zA z H'∧a30 B (hw ow (hz zA H'))∧S20 (fBody G.F zE.isNone p b) (xs.drop (i + 1)) ρ z=some r∧p70 X.K G E H0 zE (hw ow (hz zA H')) D r,ct:=λσ' H'=>∃ zA ow ρ z r,RW X.K H0 zE zA ow H' ρ σ'∧d60 zA z H'∧a30 B (hw ow (hz zA H'))∧S20 (fBody G.F zE.isNone p b) (xs.drop (i + 1)) ρ z=some r∧p70 X.K G E H0 zE (hw ow (hz zA H')) D r,bk:=D.nx } σ2 H2:=λ{ρ1 o z1} hbp e1 e2=>by
   refine D01 hbp r1 hd1 λow' σ' r2 sm2=>⟨zA,ow',ρ1,z,_,r2,st1,e1,?_⟩
   cases o with
   |nx ρ2=>exact λzA3 ow3 σ3 H3 r3 st3 sm3=>⟨zA3,ow3,ρ2,z1,rr,r3,st3,a30.trans sm (a30.trans sm1 (a30.trans sm2 sm3)),e2,po.mono (a30.trans sm1 (a30.trans sm2 sm3))⟩
   |rt s=>cases e2;exact po
  rcases M.bind_some e0 with ⟨o,z1,e1,e2⟩ | ⟨c,z1,e1,e2⟩
  ·obtain⟨ρ1,hbp,e3⟩:=M.a10 e1
   exact fin hbp e3 e2
  ·subst e2
   obtain⟨ρ1,hbp,e3⟩:=M.a10 e1
   exact D01 hbp r1 hd1 λow' σ' r2 sm2=>⟨zA,ow',ρ1,z,_,r2,st1,e3,po⟩
 ·have e:i=xs.length:=by omega
  subst e
  rw[List.drop_length] at ee
  cases ee
  exact .inl ⟨IT.stop H sH,po zA ow σ H rw st (a30.refl _)⟩
theorem g22(x:XS lm X G E N sc cn){p:Pat}{i:Nat}{n:Str}{b:Sm}{tg:Expr}{body:List Stmt}{np pos:Pos}(hp:h90 N (I90 sc) p tg=true)(h1:N[i]?=some n)(h2:c70 n=true)(hb:PSs X body (tX X.K G E H0 zE b)) :
  PS X (.For tg (.Name n np) body [] pos) (tX X.K G E H0 zE (.fr p .seq (.cons (.var i) .nil) b)):=by
 refine PS.imp (F41 x.own x.calm (g12 x.toXI h1 h2) (p11 x.loc hp) hb (λ_=>rfl)) λD σ H q=>?_
 obtain⟨zA,ow,ρ,z,rr,rw,st,ee,po⟩:=q
 have e0:M.bind (M.bind (match ρ[i]? with | some (some s)=>M.ret [plS s] | _=>M.no) λx=>M.bind (M.of (one x)) λs=>M.bind (ev G.F .nil ρ) λy=>M.ret (s::y)) (λl=>M.bind (M.of ((plA l).bind (itD .seq))) λxs=>S20 (fBody G.F zE.isNone p b) xs (n21 .seq (.cons (.var i) .nil) l ρ)) z=some rr:=ee
 cases hs:ρ[i]? with
 |none=>rw[hs] at e0;cases e0
 |some o =>
  cases o with
  |none=>rw[hs] at e0;cases e0
  |some s =>
   rw[hs] at e0
   have e1:M.bind (M.of ((plA [plS s]).bind (itD .seq))) (λxs=>S20 (fBody G.F zE.isNone p b) xs ((ρ.set i ((ρ[i]?.getD none).map plS)).map (D10 (N80 [plS s])))) z=some rr:=e0
   obtain⟨xs,hx,e2⟩:=M.a10 e1
   have r1:=rw.plain i
   have sm:=z20 (H:=hz zA H) ow i
   have hi:i < ρ.length:=(List.getElem?_eq_some_iff.mp hs).1
   have hsl:(ρ.set i ((ρ[i]?.getD none).map plS))[i]?=some (some (plS s)):=by rw[List.getElem?_set_self hi,hs];rfl
   obtain⟨w,k1,k2⟩:=r1.wor i _ hsl
   obtain⟨ds,h3,h4⟩:=Option.bind_eq_some_iff.mp hx
   obtain⟨d,rfl,h5⟩:=p61 h3
   have hd:Hd X.K (hw (ow0 ow i) (hz zA H)) d w:=by
    cases s with
    |d y=>cases h5;exact k2.2
    |fr ys=>cases h5;exact k2.2
    |z=>cases h5
   obtain⟨ow',r2,sm2⟩:∃ ow',RW X.K H0 zE zA ow' H ((ρ.set i ((ρ[i]?.getD none).map plS)).map (D10 (N80 [plS s]))) σ∧a30 (hw (ow0 ow i) (hz zA H)) (hw ow' (hz zA H)):=by
    rw[a01]
    cases N80 [plS s] with
    |true=>exact⟨_,r1,a30.refl _⟩
    |false=>exact⟨_,r1.T90,B70 _⟩
   cases d with
   |tup l =>
    cases h4
    obtain⟨a,ys,rfl,m1,m2⟩:=hd.A90
    exact⟨a,k1,.inl ⟨⟨ys,(a20 zA H).sqT (a30.sqT i80 m1)⟩,b91 (p31 m1 m2) r2 st sm2 e2 (po.mono (a30.trans sm sm2))⟩⟩
   |lst l =>
    cases h4
    obtain⟨a,ys,rfl,m1,m2⟩:=hd.a11
    exact⟨a,k1,.inr ⟨⟨ys,((m1.same i80).same (a20 zA H)).sq⟩,b91 (b31 m1 m2) r2 st sm2 e2 (po.mono (a30.trans sm sm2))⟩⟩
   |_=>cases h4
theorem t62(x:XS lm X G E N sc cn){p:Pat}{it:It}{src:Ex}{b:Sm}{tg iter:Expr}{body:List Stmt}{pos:Pos}(hp:h90 N (I90 sc) p tg=true)(hi:PI X tg iter (tIt X.K G E it src))(hns:y10 iter=true)(hv:N31 it src=none)(hb:PSs X body (tX X.K G E H0 zE b)) :
  PS X (.For tg iter body [] pos) (tX X.K G E H0 zE (.fr p it src b)):=by
 refine PS.imp (F41 x.own x.calm hi (p11 x.loc hp) hb (q21 hns X.env)) λD σ H q=>?_
 obtain⟨zA,ow,ρ,z,rr,rw,st,ee,po⟩:=q
 have e0:M.bind (ev G.F src ρ) (λl=>M.bind (M.of ((plA l).bind (itD it))) λxs=>S20 (fBody G.F zE.isNone p b) xs ((N90 it src l ρ).map (D10 (N80 l)))) z=some rr:=ee
 rcases M.bind_some e0 with ⟨l,z1,e1,e2⟩ | ⟨c,z1,e1,e2⟩
 ·obtain⟨xs,hx,e3⟩:=M.a10 e2
  refine⟨zA,ρ,z,_,rw.O70,st,e1,xs,hx,λJ H1 x1 st1 IT=>?_⟩
  have r1:=rw.mono x1
  have frz:S20 (fBody G.F zE.isNone p b) xs (T90 ρ) z1=some rr→_:=λe3=>b91 (G:=G) (E:=E) (D:=D) (IT (λ_=>True) (hz zA H1) (a30.refl _) (λ_ _ q=>q) (λ_ _ _ q=>q) (λds hds d hd=>by cases d <;> first | trivial | exact λ_ _=>trivial) λ_ _ q _=>q) r1.T90 st1 (by rw[u90];exact a30.refl _) e3 (po.mono (a30.trans (c90 x1) (B70 ow)))
  rw[a01] at e3
  have he:N90 it src l ρ=match g51 l with | true=>T90 ρ | false=>ρ:=by
   unfold N90;rw[hv] <;> cases g51 l <;> rfl
  have tt:T90 (T90 ρ)=T90 ρ:=by
   unfold T90
   rw[List.map_map]
   refine List.map_congr_left λo _=>?_
   match o with
   |none=>rfl
   |some (.d _)=>rfl
   |some (.fr _)=>rfl
   |some .z=>rfl
  cases hl:g51 l with
  |true =>
   rw[hl] at he
   rw[he] at e3
   dsimp only at e3
   rw[tt,ite_self] at e3
   exact frz e3
  |false =>
   rw[hl] at he
   rw[he] at e3
   dsimp only at e3
   split at e3
   ·rename_i hbb
    refine b91 (IT (λy=>bare y=true) (hw ow (hz zA H1)) i80 (λa ys q=>q41 q r1.Q11) (λd v hd q=>I80 r1.Q11 hd q) (λds hds d hd=>?_) λa ys q hor=>?_) r1 st1 (a30.refl _) e3 (po.mono (c90 x1))
    ·have h:=hbb
     unfold N80 at h
     rw[hds] at h
     have:=List.all_eq_true.mp h d hd
     cases d with
     |tup m=>exact λy hy=>B80 this hy
     |lst m=>exact λy hy=>B80 this hy
     |_=>trivial
    ·rcases hor with ⟨hn,hm1⟩ | hm
     ·refine p60.of (h30 (c80 hm1 (st.n61 hn)) λj w=>?_)
      obtain⟨zs,k⟩:=rw.lst j a w
      rw[hn] at k;cases k
     ·rw[hl] at hm;cases hm
   ·exact frz e3
 ·subst e2
  exact⟨zA,ρ,z,_,rw.O70,st,e1,po.er_ rw⟩
end
end Q
namespace Q
open PySem L2 PySem.Spec PyProof.Rows
variable [TB:Tb]
noncomputable def isQ:Sm→Bool
 |.nil=>true
 |.seq _ _=>true
 |_=>false
noncomputable def Q91:Expr→Bool
 |.IfExp ..=>false
 |_=>true
noncomputable def E22:Expr→Bool
 |.SetComp ..=>false
 |.DictComp ..=>false
 |_=>true
noncomputable def mtI(lm:Bool)(fns:List (Str × List Str))(nums:List (Str × Int))(it:It)(src:Ex)(sc:Scope)(N:List Str)(tg iter:Expr):Bool:=match it with
 |.seq=>mt lm fns nums src sc N [iter]
 |.rng1=>opt (U91 iter) λr=>r.1.1 == ("range":Str)&&glob sc r.1.1&&mt lm fns nums src sc N [r.1.2.2.1]
 |.rng2=>opt (V01 iter) λr=>r.1.1 == ("range":Str)&&glob sc r.1.1&&mt lm fns nums src sc N [r.1.2.2.1,r.1.2.2.2.1]
 |.zip=>opt (V01 iter) λr=>r.1.1 == ("zip":Str)&&glob sc r.1.1&&m50 tg&&mt lm fns nums src sc N [r.1.2.2.1,r.1.2.2.2.1]
 |.enum=>opt (U91 iter) λr=>r.1.1 == ("enumerate":Str)&&glob sc r.1.1&&m50 tg&&mt lm fns nums src sc N [r.1.2.2.1]
noncomputable def E32:(p:Pat)→Option {q:Nat × Nat // p=.tup (.cons (.v q.1) (.cons (.v q.2) .nil))}
 |.tup (.cons (.v i) (.cons (.v j) .nil))=>some ⟨(i,j),rfl⟩
 |_=>none
noncomputable def E42:(e:Ex)→Option {q:Ex × Ex // e=.tup (.cons q.1 (.cons q.2 .nil))}
 |.tup (.cons a (.cons b .nil))=>some ⟨(a,b),rfl⟩
 |_=>none
noncomputable def E52:(e:Expr)→Option {q:Expr × Expr × Nat × Pos // e=.Tuple [q.1,q.2.1] q.2.2.1 q.2.2.2}
 |.Tuple [a,b] k p=>some ⟨(a,b,k,p),rfl⟩
 |_=>none
noncomputable def E62(sc:Scope)(p:Pat)(e:Ex)(tg v:Expr):Bool:=opt (E32 p) λ_=>opt (E42 e) λ_=>opt (x32 tg) λt=>opt (E52 v) λu =>
  !(t.1.1 == t.1.2.2.1)&&sc.names.lookup t.1.1 == some .local&&sc.names.lookup t.1.2.2.1 == some .local&&t.1.2.2.2.1.line == t.1.2.1.line&&noStar u.1.1&&noStar u.1.2.1&&!([u.1.1,u.1.2.1].all (foldedForSure 8))&&!([u.1.1,u.1.2.1].all (constantsAlone 8))
noncomputable def isNm:Expr→Bool
 |.Name ..=>true
 |_=>false
noncomputable def setB(sc:Scope)(p:Pat)(e:Ex)(tg v:Expr):Bool :=
 if isNm tg then E22 v else if m50 tg then(if m50 v then(match v with | .Tuple vs _ _=>vs.all (foldedForSure 8) | _=>false) || (match tg with | .Tuple ts _ _=>ts.any (q81 λy=>sc.names.lookup y) | _=>false) || E62 sc p e tg v else true) else false
noncomputable def R01:(e:List Stmt)→Option {q:Expr × Expr × Pos // e=[.Assign [q.1] q.2.1 q.2.2]}
 |[.Assign [tg] v p]=>some ⟨(tg,v,p),rfl⟩
 |_=>none
noncomputable def t72:(e:List Stmt)→Option {q:Option Expr × Pos // e=[.Return q.1 q.2]}
 |[.Return v p]=>some ⟨(v,p),rfl⟩
 |_=>none
noncomputable def E72:(e:List Stmt)→Option {q:Expr × List Stmt × List Stmt × Pos // e=[.If q.1 q.2.1 q.2.2.1 q.2.2.2]}
 |[.If c a b p]=>some ⟨(c,a,b,p),rfl⟩
 |_=>none
noncomputable def t82:(e:List Stmt)→Option {q:Expr × Expr × List Stmt × Pos // e=[.For q.1 q.2.1 q.2.2.1 [] q.2.2.2]}
 |[.For tg iter body [] p]=>some ⟨(tg,iter,body,p),rfl⟩
 |_=>none
noncomputable def t92:(e:List Stmt)→Option {q:Expr × List Stmt × Pos // e=[.While q.1 q.2.1 [] q.2.2]}
 |[.While c body [] p]=>some ⟨(c,body,p),rfl⟩
 |_=>none
noncomputable def g32:(e:List Stmt)→Option {q:Expr × Pos // e=[.Raise (some q.1) none q.2]}
 |[.Raise (some x) none p]=>some ⟨(x,p),rfl⟩
 |_=>none
noncomputable def R11:(e:List Stmt)→Option {q:Expr × Pos // e=[.Expr q.1 q.2]}
 |[.Expr v p]=>some ⟨(v,p),rfl⟩
 |_=>none
noncomputable def u02:(e:Expr)→Option {q:Str × Pos × Str × Nat × Pos × Pos // e=.Call (.Name q.1 q.2.1) [.Constant (.str q.2.2.1) q.2.2.2.1 q.2.2.2.2.1] [] q.2.2.2.2.2}
 |.Call (.Name n p1) [.Constant (.str y) k p2] [] p3=>some ⟨(n,p1,y,k,p2,p3),rfl⟩
 |_=>none
noncomputable def R21:(e:Expr)→Option {q:Str × Pos × Str × Pos × Expr × Pos // e=.Call (.Attribute (.Name q.1 q.2.1) q.2.2.1 q.2.2.2.1) [q.2.2.2.2.1] [] q.2.2.2.2.2}
 |.Call (.Attribute (.Name n p) a ap) [v] [] cp=>some ⟨(n,p,a,ap,v,cp),rfl⟩
 |_=>none
noncomputable def E82:(e:Expr)→Option {q:Str × Pos × Nat × Pos × Pos // e=.Subscript (.Name q.1 q.2.1) (.Constant (.int 0) q.2.2.1 q.2.2.2.1) q.2.2.2.2}
 |.Subscript (.Name n p) (.Constant (.int 0) c q1) tp=>some ⟨(n,p,c,q1,tp),rfl⟩
 |_=>none
noncomputable def E92:(e:Expr)→Option {q:Str × Pos × Expr × Pos // e=.Subscript (.Name q.1 q.2.1) q.2.2.1 q.2.2.2}
 |.Subscript (.Name n p) w tp=>some ⟨(n,p,w,tp),rfl⟩
 |_=>none
noncomputable def F02:(e:Expr)→Option {q:Str × Pos // e=.Name q.1 q.2}
 |.Name n p=>some ⟨(n,p),rfl⟩
 |_=>none
noncomputable def u12:(e:List Stmt)→Option {q:Str × Pos × Operator × Expr × Pos // e=[.AugAssign (.Name q.1 q.2.1) q.2.2.1 q.2.2.2.1 q.2.2.2.2]}
 |[.AugAssign (.Name n p) op v pos]=>some ⟨(n,p,op,v,pos),rfl⟩
 |_=>none
noncomputable def D31:Ex→Bool
 |.con .non=>true
 |_=>false
noncomputable def mtS(lm:Bool)(fns:List (Str × List Str))(nums:List (Str × Int))(cn:List Str)(sc:Scope)(N:List Str):Sm→List Stmt→Bool
 |.nil,ss=>ss.isEmpty
 |.seq s r,ss=>opt ss.head? λst=>!isQ s&&isQ r&&mtS lm fns nums cn sc N s [st]&&mtS lm fns nums cn sc N r ss.tail
 |.set p e,ss=>opt (R01 ss) λq=>!isL e&&h90 N (I90 sc) p q.1.1&&mt lm fns nums e sc N [q.1.2.1]&&setB sc p e q.1.1 q.1.2.1
 |.ret e,ss=>opt (t72 ss) λq=>match q.1.1 with
  |some v=>!isL e&&mt lm fns nums e sc N [v]
  |none=>D31 e
 |.iff c t u,ss=>opt (E72 ss) λq=>!isL c&&Q91 q.1.1&&isQ t&&isQ u&&mt lm fns nums c sc N [q.1.1]&&mtS lm fns nums cn sc N t q.1.2.1&&mtS lm fns nums cn sc N u q.1.2.2.1
 |.fr p it src b,ss=>opt (t82 ss) λq=>h90 N (I90 sc) p q.1.1&&isL src&&y10 q.1.2.1&&isQ b&&mtI lm fns nums it src sc N q.1.1 q.1.2.1&&mtS lm fns nums cn sc N b q.1.2.2.1
 |.whl c b,ss=>opt (t92 ss) λq=>!isL c&&Q91 q.1.1&&isQ b&&mt lm fns nums c sc N [q.1.1]&&mtS lm fns nums cn sc N b q.1.2.1
 |.rais c,ss=>opt (g32 ss) λq=>opt (u02 q.1.1) λr=>cn[c]? == some r.1.1&&glob sc r.1.1
 |.exp e,ss=>opt (R11 ss) λq=>O80 q.1.1&&!isL e&&mt lm fns nums e sc N [q.1.1]
 |.app i e,ss=>opt (R11 ss) λq=>opt (R21 q.1.1) λr=>r.1.2.2.1 == ("append":Str)&&N[i]? == some r.1.1&&c70 r.1.1&&noStar r.1.2.2.2.2.1&&!isL e&&r.1.2.2.2.1.endLine == r.1.2.2.2.2.2.line&&mt lm fns nums e sc N [r.1.2.2.2.2.1]
 |.newz i f as,ss=>opt (R01 ss) λq=>opt (F02 q.1.1) λr=>N[i]? == some r.1.1&&I90 sc r.1.1&&O80 q.1.2.1&&mt lm fns nums (.call f as) sc N [q.1.2.1]
 |.zset i e,ss=>opt (R01 ss) λq=>opt (E82 q.1.1) λr=>N[i]? == some r.1.1&&c70 r.1.1&&!isL e&&mt lm fns nums e sc N [q.1.2.1]
 |.apop i j e,ss=>opt (R11 ss) λq=>opt (R21 q.1.1) λr=>opt (R21 r.1.2.2.2.2.1) λt=>r.1.2.2.1 == ("append":Str)&&t.1.2.2.1 == ("pop":Str)&&N[i]? == some r.1.1&&c70 r.1.1&&N[j]? == some t.1.1&&c70 t.1.1&&noStar t.1.2.2.2.2.1&&!isL e&&r.1.2.2.2.1.endLine == r.1.2.2.2.2.2.line&&t.1.2.2.2.1.endLine == t.1.2.2.2.2.2.line&&mt lm fns nums e sc N [t.1.2.2.2.2.1]
 |.aug o i e,ss=>opt (u12 ss) λq=>N[i]? == some q.1.1&&I90 sc q.1.1&&k62 o q.1.2.2.1&&!isL e&&mt lm fns nums e sc N [q.1.2.2.2.1]
section
variable {lm:Bool}{X:Cx}{G:Gs}{E:XK}{N:List Str}{sc:Scope}{cn:List Str}{H0:Hp}{zE:Option Addr}
theorem u22(x:XI lm X G E N sc){it:It}{src:Ex}{tg iter:Expr}(hL:isL src=true)(h:mtI lm G.fns G.nums it src sc N tg iter=true):PI X tg iter (tIt X.K G E it src):=by
 cases it with
 |seq =>
  obtain⟨a,rfl,ga⟩:=q31 hL (sound G src x h)
  exact H51 ga
 |rng1 =>
  obtain⟨⟨⟨n,_,a,_⟩,rfl⟩,-,h⟩:=a40 h
  simp only[Bool.and_eq_true,beq_iff_eq] at h
  exact p71 x h.1.1 h.1.2 hL (sound G src x h.2)
 |rng2 =>
  obtain⟨⟨⟨n,_,a,b,_⟩,rfl⟩,-,h⟩:=a40 h
  simp only[Bool.and_eq_true,beq_iff_eq] at h
  exact p81 x h.1.1 h.1.2 hL (sound G src x h.2)
 |zip =>
  obtain⟨⟨⟨n,_,a,b,_⟩,rfl⟩,-,h⟩:=a40 h
  simp only[Bool.and_eq_true,beq_iff_eq] at h
  exact q01 x h.1.2 h.1.1.1 h.1.1.2 hL (sound G src x h.2)
 |enum =>
  obtain⟨⟨⟨n,_,a,_⟩,rfl⟩,-,h⟩:=a40 h
  simp only[Bool.and_eq_true,beq_iff_eq] at h
  exact b61 x h.1.2 h.1.1.1 h.1.1.2 hL (sound G src x h.2)
theorem c01{e:Expr}(h:Q91 e=true):∀ t a b p,e≠.IfExp t a b p:=by
 intro t a b p he
 subst he
 cases h
noncomputable def GS(X:Cx)(G:Gs)(E:XK)(H0:Hp)(zE:Option Addr)(s:Sm)(ss:List Stmt):Prop:=(isQ s=true→PSs X ss (tX X.K G E H0 zE s))∧(isQ s=false→∃ st,ss=[st]∧PS X st (tX X.K G E H0 zE s))
theorem m60{s:Sm}{st:Stmt}(hq:isQ s=false)(h:PS X st (tX X.K G E H0 zE s)):GS X G E H0 zE s [st]:=⟨λk=>(by rw[hq] at k;cases k),λ_=>⟨st,rfl,h⟩⟩
theorem R31{x:XI lm X G E N sc}{e:Ex}{elt:Expr}{gs:List Comprehension}{csc:Scope}{q:Pos}(h:mt lm G.fns G.nums e sc N [.ListComp elt gs csc q]=true)(hL:isL e=false):∃ tg iter ifs,gs=[⟨tg,iter,ifs,0⟩]∧E50 X G E e elt tg iter ifs csc:=by
 cases e with
 |comp own capt p it src cond el =>
  match gs,h with
  |[⟨tg,iter,ifs,0⟩],h=>exact⟨tg,iter,ifs,rfl,O60 (λx _=>sound G src x) (λx _=>sound G cond x) (λx _=>sound G el x) x h⟩
 |nil=>cases hL
 |cons _ _=>cases hL
 |_=>cases h
theorem u32(x:XS lm X G E N sc cn){p:Pat}{e:Ex}{tg v:Expr}{pos:Pos}(h1:(!isL e)=true)(h2:h90 N (I90 sc) p tg=true)(h3:mt lm G.fns G.nums e sc N [v]=true)(h4:setB sc p e tg v=true):PS X (.Assign [tg] v pos) (tX X.K G E H0 zE (.set p e)):=by
 have g:=a70 (b40 h1) (sound G e x.toXI h3)
 unfold setB at h4
 split at h4
 ·rename_i hn
  cases tg with
  |Name y px =>
   cases p with
   |v i =>
    unfold h90 at h2
    rw[Bool.and_eq_true,beq_iff_eq] at h2
    refine s82 x h2.1 h2.2 g (λelt gs csc q hv=>?_) (λa b c d hv=>?_) (λa b c d f hv=>?_)
    ·subst hv;exact R31 (x:=x.toXI) h3 (b40 h1)
    ·subst hv;cases h4
    ·subst hv;cases h4
   |tup _=>unfold h90 at h2;cases h2
   |nil=>unfold h90 at h2;cases h2
   |cons _ _=>unfold h90 at h2;cases h2
  |_=>cases hn
 ·split at h4
  ·rename_i ht
   split at h4
   ·rename_i hv
    rw[Bool.or_eq_true,Bool.or_eq_true] at h4
    rcases h4 with (h4 | h4) | h4
    ·cases tg with
     |Tuple ts k tp =>
      cases v with
      |Tuple vs k' vp=>exact q91 x h2 g rfl (Q31 h4)
      |_=>cases hv
     |_=>cases ht
    ·cases tg with
     |Tuple ts k tp =>
      cases v with
      |Tuple vs k' vp =>
       refine q91 x h2 g rfl (Q41 ?_)
       have e:X.env.kindOf=λy=>sc.names.lookup y:=by funext y;unfold Env.kindOf;rw[x.sco]
       rw[e];exact h4
      |_=>cases hv
     |_=>cases ht
    ·obtain⟨⟨⟨i,j⟩,rfl⟩,-,h4⟩:=a40 h4
     obtain⟨⟨⟨ea,eb⟩,rfl⟩,-,h4⟩:=a40 h4
     obtain⟨⟨⟨y,px,w,py,kt,tp⟩,rfl⟩,-,h4⟩:=a40 h4
     obtain⟨⟨⟨a,b,kv,vp⟩,rfl⟩,-,h4⟩:=a40 h4
     simp only[Bool.and_eq_true,Bool.not_eq_true',beq_iff_eq] at h4
     obtain⟨⟨⟨⟨⟨⟨⟨k1,k2⟩,k3⟩,k4⟩,k5⟩,k6⟩,k7⟩,k8⟩:=h4
     unfold h90 at h2
     simp only[g81,h90,Bool.and_eq_true,beq_iff_eq] at h2
     obtain⟨⟨_,h21,_⟩,⟨_,h22,_⟩,_⟩:=h2
     have h3':(isL (.cons ea (.cons eb .nil))&&mt lm G.fns G.nums (.cons ea (.cons eb .nil)) sc N [a,b])=true:=h3
     rw[Bool.and_eq_true] at h3'
     have ga:Good X G E (.cons ea (.cons eb .nil)) [a,b]:=sound G (.cons ea (.cons eb .nil)) x.toXI h3'.2
     refine s92 x h21 h22 (by simpa using k1) k2 k3 ga (f42 x.bk ?_ ?_ (by simpa using k1) (by rw[k4];exact beq_self_eq_true _) k5 k6 k7 k8)
     ·unfold Env.kindOf;rw[x.sco];exact k2
     ·unfold Env.kindOf;rw[x.sco];exact k3
   ·rename_i hv
    exact q91 x h2 g ht (Q21 (by simpa using hv))
  ·cases h4
theorem r31{e:Ex}(h:D31 e=true):e=.con .non:=by
 unfold D31 at h
 split at h
 ·rfl
 ·cases h
theorem u42(x:XS lm X G E N sc cn){e:Ex}{o:Option Expr}{pos:Pos}(h:(match o with | some v=>!isL e&&mt lm G.fns G.nums e sc N [v] | none=>D31 e)=true):PS X (.Return o pos) (tX X.K G E H0 zE (.ret e)):=by
 cases o with
 |some v =>
  have h:(!isL e&&mt lm G.fns G.nums e sc N [v])=true:=h
  rw[Bool.and_eq_true] at h
  by_cases hv:∃ i,e=.var i
  ·obtain⟨i,rfl⟩:=hv
   have h2:=h.2
   cases v with
   |Name n p =>
    have h2:(N[i]? == some n&&c70 n)=true:=h2
    rw[Bool.and_eq_true,beq_iff_eq] at h2
    exact f52 x h2.1 h2.2
   |_=>cases h2
  ·exact t02 (λi hi=>hv ⟨i,hi⟩) (a70 (b40 h.1) (sound G e x.toXI h.2))
 |none =>
  have he:=r31 h
  subst he
  refine PS.imp J21 λD σ H q=>?_
  obtain⟨zA,ow,ρ,z,rr,rw,st,ee,po⟩:=q
  cases ee
  exact po .non H (λk=>nomatch k) rw.ext (V11 rw.zok st) (show Hd X.K (hz zE H) .non .non from Hd.non)
theorem F12(x:XS lm X G E N sc cn){p:Pat}{it:It}{src:Ex}{b:Sm}{tg iter:Expr}{body:List Stmt}{pos:Pos}(h1:h90 N (I90 sc) p tg=true)(h2:isL src=true)(h3:y10 iter=true)(h5:mtI lm G.fns G.nums it src sc N tg iter=true)(hb:PSs X body (tX X.K G E H0 zE b)) :
  PS X (.For tg iter body [] pos) (tX X.K G E H0 zE (.fr p it src b)):=by
 cases hv:N31 it src with
 |some q =>
  obtain⟨i,rfl,rfl⟩:=q
  have h5':(noStar iter&&!isL (.var i)&&isL .nil&&mt lm G.fns G.nums (.var i) sc N [iter]&&mt lm G.fns G.nums .nil sc N [])=true:=h5
  simp only[Bool.and_eq_true] at h5'
  have h7:=h5'.1.2
  cases iter with
  |Name n np =>
   have h7:(N[i]? == some n&&c70 n)=true:=h7
   rw[Bool.and_eq_true,beq_iff_eq] at h7
   exact g22 x h1 h7.1 h7.2 hb
  |_=>cases h7
 |none=>exact t62 x h1 (u22 x.toXI h2 h5) h3 hv hb
theorem g42(x:XS lm X G E N sc cn):∀ (s:Sm) {ss:List Stmt},mtS lm G.fns G.nums cn sc N s ss=true→GS X G E H0 zE s ss:=by
 intro s
 induction s with
 |nil =>
  intro ss h
  have:ss=[]:=List.isEmpty_iff.mp h
  subst this
  exact⟨λ_=>s62,λk=>by cases k⟩
 |seq s r ihs ihr =>
  intro ss h
  obtain⟨st,h0,h⟩:=a40 h
  cases ss with
  |nil=>cases h0
  |cons st' rest =>
   cases h0
   simp only[Bool.and_eq_true,Bool.not_eq_true',List.tail_cons] at h
   obtain⟨⟨⟨h1,h2⟩,h3⟩,h4⟩:=h
   obtain⟨st',he,hs⟩:=(ihs h3).2 h1
   cases he
   exact⟨λ_=>s72 hs ((ihr h4).1 h2),λk=>by cases k⟩
 |set p e =>
  intro ss h
  obtain⟨⟨q,rfl⟩,-,h⟩:=a40 h
  simp only[Bool.and_eq_true] at h
  exact m60 rfl (u32 x h.1.1.1 h.1.1.2 h.1.2 h.2)
 |ret e =>
  intro ss h
  obtain⟨⟨q,rfl⟩,-,h⟩:=a40 h
  exact m60 rfl (u42 x h)
 |iff c t u iht ihu =>
  intro ss h
  obtain⟨⟨q,rfl⟩,-,h⟩:=a40 h
  simp only[Bool.and_eq_true] at h
  obtain⟨⟨⟨⟨⟨⟨h1,h2⟩,h3⟩,h4⟩,h5⟩,h6⟩,h7⟩:=h
  exact m60 rfl (E02 (a70 (b40 h1) (sound G c x.toXI h5)) (c01 h2) ((iht h6).1 h3) ((ihu h7).1 h4))
 |fr p it src b ih =>
  intro ss h
  obtain⟨⟨q,rfl⟩,-,h⟩:=a40 h
  simp only[Bool.and_eq_true] at h
  obtain⟨⟨⟨⟨⟨h1,h2⟩,h3⟩,h4⟩,h5⟩,h6⟩:=h
  exact m60 rfl (F12 x h1 h2 h3 h5 ((ih h6).1 h4))
 |whl c b ih =>
  intro ss h
  obtain⟨⟨q,rfl⟩,-,h⟩:=a40 h
  simp only[Bool.and_eq_true] at h
  obtain⟨⟨⟨⟨h1,h2⟩,h3⟩,h4⟩,h5⟩:=h
  exact m60 rfl (t42 x (a70 (b40 h1) (sound G c x.toXI h4)) (c01 h2) ((ih h5).1 h3))
 |rais c =>
  intro ss h
  obtain⟨⟨⟨e,pos⟩,rfl⟩,-,h⟩:=a40 h
  dsimp only at h
  obtain⟨⟨⟨n,p1,y,k,p2,p3⟩,rfl⟩,-,h⟩:=a40 h
  simp only[Bool.and_eq_true,beq_iff_eq] at h
  exact m60 rfl (x_raise x h.1 h.2)
 |exp e =>
  intro ss h
  obtain⟨⟨q,rfl⟩,-,h⟩:=a40 h
  simp only[Bool.and_eq_true] at h
  exact m60 rfl (t12 (a70 (b40 h.1.2) (sound G e x.toXI h.2)) h.1.1)
 |app i e =>
  intro ss h
  obtain⟨⟨⟨v0,pos⟩,rfl⟩,-,h⟩:=a40 h
  dsimp only at h
  obtain⟨⟨⟨n,p1,a,apos,v,cpos⟩,rfl⟩,-,h⟩:=a40 h
  simp only[Bool.and_eq_true,beq_iff_eq] at h
  obtain⟨⟨⟨⟨⟨⟨h7,h8⟩,h2⟩,h3⟩,h4⟩,h5⟩,h6⟩:=h
  subst h7
  exact m60 rfl (t32 x h8 h2 h3 (a70 (b40 h4) (sound G e x.toXI h6)) (by rw[h5];exact beq_self_eq_true _))
 |newz i f as =>
  intro ss h
  obtain⟨⟨⟨tg,v,pos⟩,rfl⟩,-,h⟩:=a40 h
  dsimp only at h
  obtain⟨⟨⟨y,p1⟩,rfl⟩,-,h⟩:=a40 h
  simp only[Bool.and_eq_true,beq_iff_eq] at h
  obtain⟨⟨⟨h1,h2⟩,h3⟩,h4⟩:=h
  exact m60 rfl (f82 x h1 h2 (a70 rfl (sound G (.call f as) x.toXI h4)) h3)
 |zset i e =>
  intro ss h
  obtain⟨⟨⟨tg,v,pos⟩,rfl⟩,-,h⟩:=a40 h
  dsimp only at h
  obtain⟨⟨⟨n,p1,c,p2,p3⟩,rfl⟩,-,h⟩:=a40 h
  simp only[Bool.and_eq_true,beq_iff_eq] at h
  exact m60 rfl (f92 x h.1.1.1 h.1.1.2 (a70 (b40 h.1.2) (sound G e x.toXI h.2)))
 |apop i j e =>
  intro ss h
  obtain⟨⟨⟨v0,pos⟩,rfl⟩,-,h⟩:=a40 h
  dsimp only at h
  obtain⟨⟨⟨n,p1,a,apos,v1,cpos⟩,rfl⟩,-,h⟩:=a40 h
  dsimp only at h
  obtain⟨⟨⟨m,p2,b,apos',v,cpos'⟩,rfl⟩,-,h⟩:=a40 h
  simp only[Bool.and_eq_true,beq_iff_eq] at h
  obtain⟨⟨⟨⟨⟨⟨⟨⟨⟨⟨g1,g2⟩,g3⟩,g4⟩,g5⟩,g6⟩,g7⟩,g8⟩,g9⟩,g10⟩,g11⟩:=h
  subst g1;subst g2
  exact m60 rfl (g02 x g3 g4 g5 g6 g7 (a70 (b40 g8) (sound G e x.toXI g11)) (by rw[g9];exact beq_self_eq_true _) (by rw[g10];exact beq_self_eq_true _))
 |aug o i e =>
  intro ss h
  obtain⟨⟨⟨y,p1,op,v,pos⟩,rfl⟩,-,h⟩:=a40 h
  simp only[Bool.and_eq_true,beq_iff_eq] at h
  exact m60 rfl (t22 x h.1.1.1.1 h.1.1.1.2 h.1.1.2 (a70 (b40 h.1.2) (sound G e x.toXI h.2)))
end
end Q
namespace Q
open PySem L2 PySem.Spec PyProof.Rows
variable [TB:Tb]
structure GX(P:Program)(w:World)(K:PySem.W.Frag)(mg:Str→Option Value)(base:Heap)(G:Gs)(cn:List Str):Prop where
 gok:∀ f nm ps,G.fns[f]?=some (nm,ps)→∃ fa fd,mg nm=some (.ref fa)∧PySem.W.keepIn K (.ref fa)=true∧Binds K fd ps []∧f11 P w K mg base (CX1 P w) G.lv fa fd ps (spF K G f ps.length)
 num:∀ p∈G.nums,∃ t,mg p.1=some (.int p.2 t)
 blt:∀ n∈P31,mg n=none
 cls:∀ c x,cn[c]?=some x→mg x=some (.ref (G.cls c))∧PySem.W.excIn K (G.cls c) [.type "ValueError",.type "Exception",.type "BaseException",.type "object"] "ValueError.__new__"=true
section
variable {P:Program}{w:World}{K:PySem.W.Frag}{mg:Str→Option Value}{base:Heap}{G:Gs}{cn:List Str}
theorem g52(g:GX P w K mg base G cn){lm:Bool}{N ps:List Str}{qual:Str}{sc:Scope}{f:Addr}{fd:FuncData}{cd:Value}{A:Around}{outer:List PySem.Env}{s:Shared}{H:Hp}{E:XK}(S:q40 N ps sc)(hl:N.all (I90 sc)=true)
  (hr:S00 G.lv (A.deeper (envOfC qual sc s.heap.objs.size f cd))) (hc:fd.code=cd):XS lm (M40 (CX1 P w) P w K mg base N qual sc f cd A outer s H E) G E N sc cn where
 gok:=g.gok
 num:=g.num
 blt:=g.blt
 hN:=rfl
 nd:=S.nd
 vis:=λx hx=>by
  have:=List.all_eq_true.mp hl x hx
  unfold I90 at this
  rw[Bool.or_eq_true,beq_iff_eq,beq_iff_eq] at this
  rcases this with h | h
  ·exact .inl h
  ·exact .inr (.inl h)
 glb:=λx h=>h
 cel:=λx h=>h
 calm:=rfl
 room:=hr
 pas:=o92
 sco:=rfl
 fnk:=S.kind
 own:=PassesOwn.leaving
 can:=m81
 fnx:=λ_=>rfl
 cls:=g.cls
theorem F22{x qual:Str}{st:Stmt}{f:Addr}{fd:FuncData}{N ps:List Str}{k:Nat}{sp:Sp}(F:Fun K x qual st f fd)(S:q40 N ps (b80 st))(len:∀ vs H Q E,sp vs H Q E→vs.length=ps.length)
  (hb:∀ (cdv:Value),fd.code=cdv→∀ (A:Around) (outer:List PySem.Env) (s:Shared) (H:Hp) (vs:List V) (Q:VK) (E:XK),S00 k (A.deeper (envOfC qual (b80 st) s.heap.objs.size f cdv))→sp vs H Q E →
   ∃ t,PSs (M40 (CX1 P w) P w K mg base N qual (b80 st) f cdv A outer s H E) (n10 st) t∧t { nx:=λ_ H'=>Q .non H',rt:=Q } (L2.start N vs) H):f11 P w K mg base (CX1 P w) (k + 1) f fd ps sp:=by
 obtain⟨oc,od,kV,doc,pm,an,cdv,ct,osl,rfl,lk,hcd⟩:=F.ex
 exact n52 lk hcd S len λA outer s H vs Q E hr hsp=>hb cdv rfl A outer s H vs Q E hr hsp
theorem c11{K:PySem.W.Frag}{zA:Option Addr}{H:Hp}:∀ {ss:List S}{vs:List V}{i:Nat}{s:S}{n:Nat},RvA K zA H ss vs→(ss.map some++List.replicate n none)[i]?=some (some s)→∃ v,(vs.map some++List.replicate n none)[i]?=some (some v)∧RvP K zA H s v
 |[],_,i,s,n,h,e=>by
  cases h
  simp only[List.map_nil,List.nil_append] at e
  rw[List.getElem?_replicate] at e
  split at e <;> cases e
 |a::ss,_,0,s,n,h,e=>by
  cases h with
  |cons h1 h2 =>
   simp only[List.map_cons,List.cons_append,List.getElem?_cons_zero] at e
   cases e
   exact⟨_,rfl,h1⟩
 |a::ss,_,i + 1,s,n,h,e=>by
  cases h with
  |cons h1 h2 =>
   obtain⟨v,k1,k2⟩:=c11 (i:=i) (s:=s) (n:=n) h2 (by simpa using e)
   exact⟨v,by simpa using k1,k2⟩
theorem Paired.len{α β:Type}{R:α→β→Prop}:∀ {l:List α}{m:List β},Paired R l m→l.length=m.length
 |[],_,h=>by cases h;rfl
 |_::_,_,h=>by
  cases h with
  |cons h1 h2=>simp[Paired.len h2]
theorem D41{K:PySem.W.Frag}{zA:Option Addr}{H:Hp}{ss:List S}{vs:List V}{N:List Str}(h:RvA K zA H ss vs)(hn:∀ s∈ss,∀ xs,s≠.fr xs):RW K H zA zA (λ_=>none) H (Q.start N.length ss) (L2.start N vs):=by
 have hl:ss.length=vs.length:=Paired.len h
 refine⟨?_,λi j a e=>(nomatch e),λi a e=>(nomatch e),λi a e=>(nomatch e),λi s e=>?_,Ext.refl,.inl rfl,λi a e=>(nomatch e)⟩
 ·unfold Q.start L2.start
  simp[hl]
 ·unfold Q.start at e
  obtain⟨v,k1,k2⟩:=c11 h e
  refine⟨v,?_,?_⟩
  ·unfold L2.start
   rw[← hl];exact k1
  ·cases s with
   |d x=>exact⟨rfl,by rw[u90];exact k2⟩
   |z=>exact⟨rfl,k2⟩
   |fr xs =>
    rcases List.mem_append.mp (List.mem_of_getElem? e) with q | q
    ·obtain⟨s',q1,q2⟩:=List.mem_map.mp q
     cases q2
     exact absurd rfl (hn _ q1 xs)
    ·cases List.eq_of_mem_replicate q
theorem R41{zA:Option Addr}{z z1:Z}{H:Hp}(st:d60 zA z H):k52 zA z1=H90 z z1:=by
 have st:=st.zat
 cases zA with
 |none =>
  cases z with
  |none=>rfl
  |some p=>exact st.elim
 |some a =>
  cases z with
  |none=>exact st.elim
  |some p=>rfl
theorem r41{zA:Option Addr}{z:Z}{H:Hp}(st:d60 zA z H):z.isNone=zA.isNone:=by
 have st:=st.zat
 cases zA with
 |none =>
  cases z with
  |none=>rfl
  |some p=>exact st.elim
 |some a =>
  cases z with
  |none=>exact st.elim
  |some p=>rfl
theorem r51(g:GX P w K mg base G cn){lm:Bool}{N ps:List Str}{nm:Str}{st:Stmt}{fa:Addr}{fd:FuncData}{b:Sm}{f:Nat}{F':FT}(Fn:Fun K nm nm st fa fd)(Sc:q40 N ps (b80 st))(hl:N.all (I90 (b80 st))=true)
  (ch:mtS lm G.fns G.nums cn (b80 st) N b (n10 st)=true) (hq:isQ b=true)
  (hF:∀ l z,F' false f l z=run G.F (.code ps.length N.length b) l z):f11 P w K mg base (CX1 P w) (G.lv + 1) fa fd ps (spF K { G with F:=F',lv:=G.lv + 1 } f ps.length):=by
 refine F22 Fn Sc (λvs H Q E h=>h.1) λcdv hcd A outer s H vs Qv E hr hsp=>?_
 obtain⟨hlen,zA,z,ss,r,rv,st',e,po⟩:=hsp
 refine⟨_,(g42 (H0:=H) (zE:=zA) (g52 g Sc hl hr hcd) b ch).1 hq,?_⟩
 have e0:(if ss.length=ps.length∧ps.length≤N.length then(match ex G.F z.isNone b (Q.start N.length (ss.map plS)) z with
  |some (.ok (.nx _) z1)=>some (R.ok (S.d .non) (H90 z z1))
  |some (.ok (.rt s) z1)=>some (R.ok s (H90 z z1))
  |some (.er c z1)=>some (R.er c (H90 z z1))
  |none=>none) else none)=some r:=by
  have:=hF ss z
  exact this.symm.trans e
 rw[r41 st'] at e0
 split at e0
 ·have rw0:RW K H zA zA (λ_=>none) H (Q.start N.length (ss.map plS)) (L2.start N vs):=D41 rv.plS λs hs xs=>by
   obtain⟨s',_,rfl⟩:=List.mem_map.mp hs
   cases s' <;> exact λh=>nomatch h
  split at e0
  ·rename_i ρ z1 e1
   cases e0
   refine⟨zA,_,_,z,_,rw0,st',e1,λzA' ow' σ' H' r' st1 _=>?_⟩
   refine po .non H' r'.ext ?_ (show Hd K (hz zA H') .non .non from Hd.non)
   rw[← R41 st'];exact V11 r'.zok st1
  ·rename_i s1 z1 e1
   cases e0
   refine⟨zA,_,_,z,_,rw0,st',e1,λv H' nz x st1 rv'=>?_⟩
   exact po v H' x (by rw[← R41 st'];exact st1) rv'
  ·rename_i c z1 e1
   cases e0
   refine⟨zA,_,_,z,_,rw0,st',e1,λe H' x st1 hn=>?_⟩
   exact po e H' x (by rw[← R41 st'];exact st1) hn
  ·cases e0
 ·cases e0
noncomputable def lev(G:Gs)(T:List Df)(k:Nat):Gs:={ G with F:=U00 T k,lv:=k }
theorem g62{T:List Df}(num:∀ p∈G.nums,∃ t,mg p.1=some (.int p.2 t))(blt:∀ n∈P31,mg n=none)
  (cls:∀ c x,cn[c]?=some x→mg x=some (.ref (G.cls c))∧PySem.W.excIn K (G.cls c) [.type "ValueError",.type "Exception",.type "BaseException",.type "object"] "ValueError.__new__"=true)
  (hd:∀ (f:Nat) (nm:Str) (ps:List Str),G.fns[f]?=some (nm,ps)→∃ (fa:Addr) (fd:FuncData),mg nm=some (.ref fa)∧PySem.W.keepIn K (.ref fa)=true∧Binds K fd ps [] ∧
   ((∃ (lm:Bool) (N:List Str) (st:Stmt) (b:Sm),T[f]?=some (Df.code ps.length N.length b)∧Fun K nm nm st fa fd∧q40 N ps (b80 st)∧N.all (I90 (b80 st))=true∧isQ b=true∧mtS lm G.fns G.nums cn (b80 st) N b (n10 st)=true) ∨
    T[f]?=none)):∀ k,GX P w K mg base (lev G T k) cn:=by
 have zero:∀ k,k < 3→GX P w K mg base (lev G T k) cn:=λk hk=>by
  refine⟨λf nm ps h=>?_,num,blt,cls⟩
  obtain⟨fa,fd,h1,h2,h3,_⟩:=hd f nm ps h
  refine⟨fa,fd,h1,h2,h3,λvs H Q E q=>q.1,λA outer s H args us vs Q E hr he hb hv hs=>?_⟩
  obtain⟨_,zA,z,ss,r,_,_,e,_⟩:=hs
  match k,hk with
  |0,_=>cases e
  |1,_=>cases e
  |2,_=>cases e
 intro k
 induction k using Nat.strongRecOn with
 |ind k ih =>
  match k,ih with
  |0,_=>exact zero 0 (by decide)
  |1,_=>exact zero 1 (by decide)
  |2,_=>exact zero 2 (by decide)
  |k + 3,ih =>
   refine⟨λf nm ps h=>?_,num,blt,cls⟩
   obtain⟨fa,fd,h1,h2,h3,h4⟩:=hd f nm ps h
   refine⟨fa,fd,h1,h2,h3,?_⟩
   rcases h4 with ⟨lm,N,st,b,k1,k2,k3,k4,k5,k6⟩ | h4
   ·refine r51 (G:=lev G T (k + 2)) (F':=U00 T (k + 3)) (ih (k + 2) (by omega)) k2 k3 k4 k6 k5 λl z=>?_
    ·show(match T[f]? with | some d=>run (U00 T (k + 2)) d l | none=>M.no) z=_
     rw[k1];rfl
   ·refine⟨λvs H Q E q=>q.1,λA outer s H args us vs Q E hr he hb hv hs=>?_⟩
    obtain⟨_,zA,z,ss,r,_,_,e,_⟩:=hs
    have e':(match T[f]? with | some d=>run (U00 T (k + 2)) d ss | none=>M.no) z=some r:=e
    rw[h4] at e'
    cases e'
end
end Q
namespace L2
open PySem PySem.W PySem.Calls PyProof.Rows
noncomputable def B90(thr sok:Thread→Bool)(stp:SharedT→Thread→Option (SharedT × Thread)):Nat→SharedT→Thread→Option SharedT
 |0,_,_=>none
 |n + 1,s,t=>match thr t with
  |true=>some s
  |false=>match sok t with
   |false=>none
   |true=>match stp s t with
    |some (s',t')=>B90 thr sok stp n s' t'
    |none=>none
theorem P00{tb:String→Option Builtin}{p:Program}{w:World}{n₀:Nat}{ann:Option Value}:∀ {n:Nat}{s s':SharedT}{t:Thread},B90 through (stepOk n₀ ann) (stepT (denote tb) p w) n s t=some s'→topRun tb p w n₀ ann n s.abs t=some s'.abs
 |0,_,_,_,h=>by cases h
 |n + 1,s,s',t,h=>by
  unfold B90 at h
  unfold topRun
  cases ht:through t with
  |true=>rw[ht] at h;cases h;rfl
  |false =>
   rw[ht] at h
   cases hok:stepOk n₀ ann t with
   |false=>rw[hok] at h;cases h
   |true =>
    rw[hok] at h
    cases hst:stepT (denote tb) p w s t with
    |none=>rw[hst] at h;cases h
    |some r=>obtain⟨s₂,t₂⟩:=r;rw[hst] at h;rw[stepT_spec hst];exact P00 h
noncomputable def grow:List Obj→Nat→BT→BT
 |[],_,t=>t
 |o::r,i,t=>grow r (i + 1) (t.ins i o)
noncomputable def R51(w:World)(os:OsState):SharedT:=⟨grow (boot_heap w.params).objs.toList 0 .nil,11,(boot_heap w.params).life,Array.mk [],boot_drawn,boot_toks,os⟩
theorem r61:∀ (w:World) (os:OsState),(R51 w os).abs=⟨boot_heap w.params,Array.mk [],boot_drawn,boot_toks,os⟩:=λw os=>by kernel_rfl
theorem r71:∀ w:World,((boot_heap w.params).isNs mainGlobals&&(Array.mk []:Array GenState).size == 0,(boot_heap w.params).objs.size,(boot_heap w.params).nsMap mainGlobals "__annotations__")=(true,11,some (.ref 6)):=λw=>by kernel_rfl
theorem R61{p q:Program}{loose:List Str}{Xt:Shared→Bool}{α:Type}{Yf:Shared→α}{Ya:World→α}{N:Nat}
  (e:opening p=plainProg p.main.scope.names) (hN:Nat.ble 600 N=true) (f:∀ s,fenceModules? p s=some s)
  (run:∀ (w:World) (os:OsState),(B90 through (stepOk 11 (some (.ref 6))) (stepT (denote treeTable) p w) N (R51 w os) (topStub p)).map (λs =>
   (staticsOk (importedModules p.main.body) (boot_heap w.params) s.abs.heap&&namesBound p s.abs.heap&&gensDone s.abs&&laidKept (boot_heap w.params) s.abs.heap,
    openSeen q loose (importedModules p.main.body) Xt true s.abs,Yf s.abs))=some (true,openGood q loose,Ya w)):LeftO p q loose Xt Yf Ya N:=λw=>by
 obtain⟨⟨h,gs,d,k,os⟩,e1,e2⟩:=Option.map_eq_some_iff.mp (boot_open (N:=N) e hN f w)
 obtain⟨rfl,rfl,rfl,rfl⟩:h=boot_heap w.params∧gs=Array.mk []∧d=boot_drawn∧k=boot_toks:=by simpa using e2
 obtain⟨z1,z2,z3⟩:_∧_∧_:=by simpa only [Prod.mk.injEq] using r71 w
 obtain⟨s1,r1,r2⟩:=Option.map_eq_some_iff.mp (run w os)
 obtain⟨l1,l2,l3⟩:_∧_∧_:=by simpa only [Prod.mk.injEq] using r2
 have r:=P00 r1
 rw[r61] at r
 unfold openEnds
 rw[e1]
 show Option.map _ (topFrom treeTable p w N _)=_
 unfold topFrom
 dsimp only
 rw[z1,z2,z3,r]
 show Option.map _ (match staticsOk (importedModules p.main.body) (boot_heap w.params) s1.abs.heap&&namesBound p s1.abs.heap&&gensDone s1.abs&&laidKept (boot_heap w.params) s1.abs.heap with | true=>_ | false=>_)=_
 rw[l1]
 exact congrArg Option.some (Prod.ext l2 l3)
end L2
namespace L2
open PySem PySem.W PySem.Calls PyProof.Rows
noncomputable def P10(o:Obj):Bool:=match o with
 |⟨.none,none,.fields vs,sl⟩=>vs.isEmpty&&sl.isEmpty
 |_=>false
noncomputable def u52(h:Heap)(a:Addr):Option Obj:=match h.get? a with
 |some o=>if P10 o then none else some o
 |none=>none
noncomputable def fragOf(h:Heap):Frag:=(List.range h.objs.size).filterMap λa=>(u52 h a).map λo=>(a,o)
theorem t60(g:Addr→Option Obj)(a:Addr):∀ l:List Addr,(l.filterMap λa=>(g a).map λo=>(a,o)).lookup a=if a∈l then g a else none
 |[]=>rfl
 |b::r=>by
  by_cases hb:a=b
  ·subst hb
   rw[if_pos List.mem_cons_self]
   cases hg:g a with
   |none =>
    rw[List.filterMap_cons,hg]
    show(r.filterMap λa=>(g a).map λo=>(a,o)).lookup a=none
    rw[t60 g a r]
    split
    ·exact hg
    ·rfl
   |some o =>
    rw[List.filterMap_cons,hg]
    show List.lookup a ((a,o)::_)=some o
    rw[List.lookup_cons_self]
  ·have hm:(a∈b::r)↔a∈r:=by rw[List.mem_cons];exact⟨λh=>h.resolve_left hb,Or.inr⟩
   have ih:=t60 g a r
   have e:(if a∈b::r then g a else none)=if a∈r then g a else none:=by simp only[hm]
   rw[e,← ih]
   cases hg:g b with
   |none=>rw[List.filterMap_cons,hg];rfl
   |some o =>
    rw[List.filterMap_cons,hg]
    show List.lookup a ((b,o)::_)=_
    have:(a == b)=false:=by simpa using hb
    simp only[List.lookup,this]
theorem r81(h:Heap):(fragOf h).In h:=λa o e=>by
 unfold fragOf at e
 rw[t60] at e
 split at e
 ·unfold u52 at e
  cases hg:h.get? a with
  |none=>rw[hg] at e;cases e
  |some u =>
   rw[hg] at e
   dsimp only at e
   split at e
   ·cases e
   ·exact e
 ·cases e
theorem R71{o:Obj}(h:P10 o=true):o=tabObj #[]:=by
 unfold P10 at h
 split at h
 ·rename_i vs sl
  rw[Bool.and_eq_true,Array.isEmpty_iff,Array.isEmpty_iff] at h
  obtain⟨rfl,rfl⟩:=h
  rfl
 ·cases h
theorem h01{h:Heap}{a:Addr}{o:Obj}(e:h.get? a=some o)(t:P10 o=true):(fragOf h).lookup a=none:=by
 unfold fragOf
 rw[t60]
 split
 ·unfold u52;rw[e];exact if_pos t
 ·rfl
noncomputable def r91(K:Frag)(x:Str):Option (Str × Str × Arguments × FuncBody × Scope × Addr × List (Str × Addr) × Value × Addr × Bool):=match nsIn K mainGlobals x with
 |some (some (.ref at0))=>(match K.lookup at0 with
  |some ⟨_,_,.func fd,_⟩=>some (fd.name,fd.qualname,fd.params,fd.body,fd.scope,fd.globals,fd.closure,fd.defaults,fd.builtins,codeIn K fd.code x)
  |_=>none)
 |_=>none
noncomputable def R81(x:Str)(st:Stmt):Option (Str × Str × Arguments × FuncBody × Scope × Addr × List (Str × Addr) × Value × Addr × Bool):=some (x,x,G30 st,.stmts (n10 st),b80 st,mainGlobals,[],.none,builtinsNs,true)
theorem V60{K:Frag}{x:Str}{st:Stmt}(e:r91 K x=R81 x st):∃ f fd,nsIn K mainGlobals x=some (some (.ref f))∧Fun K x x st f fd∧∃ oc od sl,K.lookup f=some ⟨oc,od,.func fd,sl⟩:=by
 unfold r91 R81 at e
 split at e
 ·rename_i f hf
  split at e
  ·rename_i oc od fd sl hl
   obtain⟨nm,qn,pm,bd,sc,gl,cl,df,kd,dc,py,an,cd,ct,bl⟩:=fd
   simp only[Prod.mk.injEq,Option.some.injEq] at e
   obtain⟨rfl,rfl,rfl,rfl,rfl,rfl,rfl,rfl,rfl,hc⟩:=e
   exact⟨f,_,hf,⟨⟨oc,od,kd,dc,py,an,cd,ct,sl,rfl,hl,hc⟩,by simp only[keepIn,hl]⟩,oc,od,sl,hl⟩
  ·cases e
 ·cases e
noncomputable def tab0At(h:Heap)(T:Addr):Bool:=match h.get? T with
 |some o=>P10 o
 |none=>false
theorem s01{h:Heap}{T:Addr}(e:tab0At h T=true):h.get? T=some (tabObj #[]):=by
 unfold tab0At at e
 split at e
 ·rename_i o ho
  rw[ho,R71 e]
 ·cases e
noncomputable def s11(h:Heap)(K:Frag)(x:Str):Option Addr:=match nsIn K mainGlobals x with
 |some (some (.ref at0))=>(match K.lookup at0 with
  |some ⟨_,_,.func fn0,_⟩=>(match fn0.code with
   |.ref c=>(match K.lookup c with
    |some ⟨_,_,.fields vs,_⟩=>(match (vs[11]?:Option Value) with
     |some (.ref T)=>if codeHdIn K c T&&tab0At h T then some T else none
     |_=>none)
    |_=>none)
   |_=>none)
  |_=>none)
 |_=>none
theorem h31{h:Heap}{K:Frag}{x:Str}{T:Addr}(e:s11 h K x=some T):h.get? T=some (tabObj #[])∧∃ f oc od fd sl c,nsIn K mainGlobals x=some (some (.ref f))∧K.lookup f=some ⟨oc,od,.func fd,sl⟩∧fd.code=.ref c∧codeHdIn K c T=true:=by
 unfold s11 at e
 split at e
 ·rename_i f hf
  split at e
  ·rename_i oc od fd sl hl
   split at e
   ·rename_i c hc
    split at e
    ·split at e
     ·rename_i T' _
      split at e
      ·rename_i q
       cases e
       rw[Bool.and_eq_true] at q
       obtain⟨q1,q2⟩:=q
       exact⟨s01 q2,f,oc,od,fd,sl,c,hf,hl,hc,q1⟩
      ·cases e
     ·cases e
    ·cases e
   ·cases e
  ·cases e
 ·cases e
noncomputable def h41(K:Frag)(x:Str):Option Addr:=match nsIn K mainGlobals x with
 |some (some (.ref f))=>some f
 |_=>none
theorem D51{K:Frag}{x:Str}{f:Addr}(e:h41 K x=some f):nsIn K mainGlobals x=some (some (.ref f)):=by
 unfold h41 at e
 split at e
 ·cases e;assumption
 ·cases e
noncomputable def s21(K:Frag)(C:Addr):Bool:=excIn K C [.type "ValueError",.type "Exception",.type "BaseException",.type "object"] "ValueError.__new__"
noncomputable def H91(_:Str):Bool:=true
noncomputable def V70(K:Frag)(x:Str):Option Int:=match nsIn K mainGlobals x with
 |some (some (.int i _))=>some i
 |_=>none
theorem V80{K:Frag}{x:Str}{i:Int}(e:V70 K x=some i):∃ t,nsIn K mainGlobals x=some (some (.int i t)):=by
 unfold V70 at e
 split at e
 ·rename_i t h;cases e;exact⟨t,h⟩
 ·cases e
noncomputable def V90(K:Frag)(x:Str):Bool:=match nsIn K mainGlobals x with
 |some none=>true
 |_=>false
theorem W00{K:Frag}{x:Str}(e:V90 K x=true):nsIn K mainGlobals x=some none:=by
 unfold V90 at e
 split at e
 ·assumption
 ·cases e
structure m90 where
 ds:List (Str × Stmt)
 is:List (Str × Int)
 ns:List Str
 ms:List Str
 cs:List Str
noncomputable def m90.obs(q:m90)(s:Shared) :=
 let K:=fragOf s.heap
 (q.ds.map λd=>r91 K d.1,q.is.map λd=>V70 K d.1,q.ns.map (V90 K),q.ms.map λx=>(s11 s.heap K x).isSome,q.cs.map λx=>(h41 K x).map (s21 K),
  (specialIn K (.builtin "object.__class__") "__get__",takesIn K (.builtin "object.__class__")))
noncomputable def m90.due(q:m90)(_:World) :=
 (q.ds.map λd=>R81 d.1 d.2,q.is.map λd=>some d.2,q.ns.map λ_=>true,q.ms.map λ_=>true,q.cs.map λx=>some (H91 x),
  (some (some (Value.builtin "getset_descriptor.__get__")),some true))
structure Facts(q:m90)(K:Frag)(h:Heap):Prop where
 fn:∀ d∈q.ds,∃ f fd,nsIn K mainGlobals d.1=some (some (.ref f))∧Fun K d.1 d.1 d.2 f fd∧∃ oc od sl,K.lookup f=some ⟨oc,od,.func fd,sl⟩
 it:∀ d∈q.is,∃ t,nsIn K mainGlobals d.1=some (some (.int d.2 t))
 no:∀ x∈q.ns,nsIn K mainGlobals x=some none
 mt:∀ x∈q.ms,∃ T,h.get? T=some (tabObj #[])∧K.lookup T=none∧∃ f oc od fd sl c,nsIn K mainGlobals x=some (some (.ref f))∧K.lookup f=some ⟨oc,od,.func fd,sl⟩∧fd.code=.ref c∧codeHdIn K c T=true
 cl:∀ x∈q.cs,∃ C,nsIn K mainGlobals x=some (some (.ref C))∧s21 K C=H91 x
 sp:specialIn K (.builtin "object.__class__") "__get__"=some (some (Value.builtin "getset_descriptor.__get__"))
 tk:takesIn K (.builtin "object.__class__")=some true
theorem P20{α β:Type}{f g:α→β}:∀ {l:List α},l.map f=l.map g→∀ a∈l,f a=g a:=λ{l} h a ha=>List.map_inj_left.mp h a ha
theorem m90.facts(q:m90)(w:World)(s:Shared)(e:q.obs s=q.due w):Facts q (fragOf s.heap) s.heap:=by
 unfold m90.obs m90.due at e
 simp only[Prod.mk.injEq] at e
 obtain⟨e1,e2,e3,e4,e5,e6,e7⟩:=e
 refine⟨λd hd=>V60 (P20 e1 d hd),λd hd=>V80 (P20 e2 d hd),λx hx=>W00 (P20 e3 x hx),λx hx=>?_,λx hx=>?_,e6,e7⟩
 ·obtain⟨T,hT⟩:=Option.isSome_iff_exists.mp (P20 e4 x hx)
  obtain⟨h1,h2⟩:=h31 hT
  exact⟨T,h1,h01 h1 rfl,h2⟩
 ·obtain⟨C,h1,h2⟩:=Option.map_eq_some_iff.mp (P20 e5 x hx)
  exact⟨C,D51 h1,h2⟩
noncomputable def m90.hook(q:m90):Hook where
 α:=_
 obs:=q.obs
 val:=q.due
 says:=λ_ h=>∃ K:Frag,K.In h∧Facts q K h
 of:=λw s e=>⟨_,r81 _,q.facts w s e⟩
 keeps:=λ_ h h' ⟨K,X,F⟩ k=>⟨K,X.keeps k,⟨F.fn,F.it,F.no,λx hx=>let ⟨T,a,b⟩:=F.mt x hx;⟨T,k _ _ a,b⟩,F.cl,F.sp,F.tk⟩⟩
end L2
namespace L2
open PySem PySem.W PySem.Calls PyProof.Rows
end L2
namespace Q
open PySem L2 PySem.Spec PyProof.Rows
structure Row where
 nm:Str
 ps:List Str
 st:Stmt
 N:List Str
 b:Sm
 lm:Bool
noncomputable def s31(N ps:List Str)(sc:Scope):Bool:=sc.kind == .function&&!sc.isCoroutine&&!sc.isGenerator&&decide N.Nodup&&N.take ps.length == ps&&ps.all (λx=>sc.names.lookup x == some .local || sc.names.lookup x == some .cell)&&sc.names.all λy=>y.2 != .free
theorem c21{N ps:List Str}{sc:Scope}(h:s31 N ps sc=true):q40 N ps sc:=by
 unfold s31 at h
 simp only[Bool.and_eq_true,Bool.not_eq_true',beq_iff_eq,List.all_eq_true,decide_eq_true_eq,Bool.or_eq_true] at h
 obtain⟨⟨⟨⟨⟨⟨h1,h2⟩,h3⟩,h4⟩,h5⟩,h6⟩,h7⟩:=h
 exact⟨h1,h2,h3,h4,h5,h6,λy hy=>by simpa using h7 y hy⟩
noncomputable def I01(r:Row):Prop:=∀ (kV doc pm:Value) (an:Option Addr) (cdv ct:Value) (us:List Value),us.length=r.ps.length→bindArgs (PySem.W.fnOf r.nm r.nm (G30 r.st) (n10 r.st) (b80 r.st) .none kV doc pm an cdv ct) ⟨us,[]⟩=pure (r.ps.zip us)
noncomputable def n50:List Row→Prop
 |[]=>True
 |r::l=>I01 r∧n50 l
theorem n50.at:∀ {l:List Row}{r:Row},n50 l→r∈l→I01 r
 |_::_,_,h,.head _=>h.1
 |_::_,_,h,.tail _ m=>n50.at h.2 m
theorem us1{us:List Value}(h:us.length=1):∃ a,us=[a]:=List.length_eq_one_iff.mp h
theorem us2{us:List Value}(h:us.length=2):∃ a b,us=[a,b]:=by
 match us,h with
 |[a,b],_=>exact⟨a,b,rfl⟩
theorem us3{us:List Value}(h:us.length=3):∃ a b c,us=[a,b,c]:=by
 match us,h with
 |[a,b,c],_=>exact⟨a,b,c,rfl⟩
theorem us4{us:List Value}(h:us.length=4):∃ a b c d,us=[a,b,c,d]:=by
 match us,h with
 |[a,b,c,d],_=>exact⟨a,b,c,d,rfl⟩
theorem us5{us:List Value}(h:us.length=5):∃ a b c d e,us=[a,b,c,d,e]:=by
 match us,h with
 |[a,b,c,d,e],_=>exact⟨a,b,c,d,e,rfl⟩
noncomputable def V21(fns:List (Str × List Str))(nums:List (Str × Int))(cn:List Str)(r:Row):Bool:=mtS r.lm fns nums cn (b80 r.st) r.N r.b (n10 r.st)&&isQ r.b&&r.N.all (I90 (b80 r.st))&&s31 r.N r.ps (b80 r.st)
noncomputable def D20(rows:List Row):List (Str × List Str):=rows.map λr=>(r.nm,r.ps)
noncomputable def tabOf(rows:List Row):List Df:=rows.map λr=>Df.code r.ps.length r.N.length r.b
noncomputable def P30(rows:List Row)(nums:List (Str × Int))(cn:List Str):m90:=⟨rows.map (λr=>(r.nm,r.st)),nums,P31,[],cn⟩
noncomputable def clsAt(K:PySem.W.Frag)(cn:List Str)(c:Nat):Addr:=(h41 K (cn.getD c "")).getD 0
theorem g72{K:PySem.W.Frag}{C:Addr}{cn:List Str}{c:Nat}{x:Str}(hc:cn[c]?=some x)(h:PySem.W.nsIn K mainGlobals x=some (some (.ref C))):clsAt K cn c=C:=by
 unfold clsAt
 rw[List.getD_eq_getElem?_getD,hc]
 show(h41 K x).getD 0=C
 unfold h41
 rw[h];rfl
section
variable {P:Program}{w:World}{K:PySem.W.Frag}{mg:Str→Option Value}{base:Heap}
theorem ok0{k:Nat}{f:Addr}{fd:FuncData}{ps:List Str}{sp:Sp}(F:f11 P w K mg base (CX1 P w) k f fd ps sp):f11 P w K mg base CX0 k f fd ps (λvs H Q _=>sp vs H Q λ_ _ _=>False) :=
 ⟨λvs H Q E h=>F.len _ _ _ _ h,λA outer s H args us vs Q E hr he hb hv hs=>codeAny_mono (F.run A outer s H args us vs Q _ hr he hb hv hs) λr s' h=>by
  cases r with
  |error e =>
   obtain⟨_,_,_,_,_,_,_,_,_,_,_,_,_,hE⟩:=h
   exact hE.elim
  |ok fl=>cases fl <;> exact h⟩
theorem F32:TriplesOk (#[]:Array Value).toList:=by first | trivial | (unfold TriplesOk;trivial)
theorem p60.noT[TB:Tb]{H:Hp}{a:Addr}{xs:List V}(h:p60 K H a xs):p60 K (hz none H) a xs:=by
 rcases h with (h | ⟨o,h⟩) | h
 ·exact .inl (.inl (c80 h (λq=>nomatch q)))
 ·exact .inl (.inr ⟨o,c80 h (λq=>nomatch q)⟩)
 ·exact .inr h
theorem g82[TB:Tb]{G:Gs}{T:List Df}{k f:Nat}{H:Hp}{a:Addr}{ns:List Int}(pure:b10 T k f [.d (.lst (ns.map D.int))] none=some (.ok (.d (.bl true)) none))(hH:∀ p∈TB.tb,H p.1=some (.tbl #[]))(hS:p60 K H a (ns.map V.int)) :
  spF K (lev G T k) f 1 [.ref a] H (λv _=>v=.bl true) λ_ _ _=>False:=by
 refine⟨rfl,none,none,[.d (.lst (ns.map D.int))],_,.cons ?_ .nil,⟨trivial,λp hp=>⟨#[],hH p hp,F32,λpos c e=>nomatch e⟩⟩,pure,λv H' x st rv=>Hd.bl_ (show Hd K (hz none H') (.bl true) v from rv)⟩
 show Hd K (hz none H) (.lst (ns.map D.int)) (.ref a)
 unfold Hd
 exact⟨a,ns.map V.int,rfl,hS.noT,HdA.ints ns⟩
end
theorem g92{rows:List Row}{f:Nat}{nm:Str}{ps:List Str}(h:(D20 rows)[f]?=some (nm,ps)):∃ r∈rows,rows[f]?=some r∧r.nm=nm∧r.ps=ps:=by
 unfold D20 at h
 rw[List.getElem?_map] at h
 obtain⟨r,h1,h2⟩:=Option.map_eq_some_iff.mp h
 cases h2
 exact⟨r,List.mem_of_getElem? h1,h1,rfl,rfl⟩
section
variable [TB:Tb] {P:Program}{w:World}{K:PySem.W.Frag}{h:Heap}{mg:Str→Option Value}{base:Heap}{rows:List Row}{nums:List (Str × Int)}{cn:List Str}
theorem R91(Q:Facts (P30 rows nums cn) K h):∀ c x,cn[c]?=some x→PySem.W.nsIn K mainGlobals x=some (some (.ref (clsAt K cn c)))∧PySem.W.excIn K (clsAt K cn c) [.type "ValueError",.type "Exception",.type "BaseException",.type "object"] "ValueError.__new__"=true:=λc x hc=>by
 obtain⟨C,h1,h2⟩:=Q.cl x (List.mem_of_getElem? hc)
 rw[g72 hc h1]
 exact⟨h1,h2⟩
theorem S01(X:K.In h)(Gn:h.Ns mainGlobals mg)(Q:Facts (P30 rows nums cn) K h)(ok:rows.all (V21 (D20 rows) nums cn)=true)(bd:n50 rows)(F0:FT):∀ k,GX P w K mg base (lev ⟨D20 rows,nums,F0,clsAt K cn,0⟩ (tabOf rows) k) cn:=by
 refine g62 (λp hp=>?_) (λn hn=>?_) (λc x hc=>?_) λf nm ps hf=>?_
 ·obtain⟨t,e⟩:=Q.it p hp
  exact⟨t,PySem.W.mg_of X Gn e⟩
 ·exact PySem.W.mg_none_of X Gn (Q.no n hn)
 ·obtain⟨h1,h3⟩:=R91 Q c x hc
  exact⟨PySem.W.mg_of X Gn h1,h3⟩
 ·obtain⟨r,hr,hr2,rfl,rfl⟩:=g92 hf
  obtain⟨fa,fd,a1,F1,oc,od,sl,lk⟩:=Q.fn (r.nm,r.st) (List.mem_map.mpr ⟨r,hr,rfl⟩)
  have rb:=List.all_eq_true.mp ok r hr
  unfold V21 at rb
  simp only[Bool.and_eq_true] at rb
  obtain⟨⟨⟨b1,b2⟩,b3⟩,b4⟩:=rb
  refine⟨fa,fd,PySem.W.mg_of X Gn a1,F1.kp,F1.binds (bd.at hr),.inl ⟨r.lm,r.N,r.st,r.b,?_,F1,c21 b4,b3,b2,b1⟩⟩
  unfold tabOf
  rw[List.getElem?_map,hr2];rfl
theorem h02(X:K.In h)(Gn:h.Ns mainGlobals mg)(Q:Facts (P30 rows nums cn) K h)(ok:rows.all (V21 (D20 rows) nums cn)=true)(bd:n50 rows)(F0:FT)(k:Nat){i:Nat}{r:Row}(hi:rows[i]?=some r){fa:Addr}{fd:FuncData}(F1:Fun K r.nm r.nm r.st fa fd):f11 P w K mg base (CX1 P w) (k + 3) fa fd r.ps (spF K (lev ⟨D20 rows,nums,F0,clsAt K cn,0⟩ (tabOf rows) (k + 3)) i r.ps.length):=by
 have hr:=List.mem_of_getElem? hi
 have rb:=List.all_eq_true.mp ok r hr
 unfold V21 at rb
 simp only[Bool.and_eq_true] at rb
 obtain⟨⟨⟨b1,b2⟩,b3⟩,b4⟩:=rb
 refine r51 (G:=lev ⟨D20 rows,nums,F0,clsAt K cn,0⟩ (tabOf rows) (k + 2)) (F':=U00 (tabOf rows) (k + 3)) (S01 X Gn Q ok bd F0 (k + 2)) F1 (c21 b4) b3 b1 b2 λl z=>?_
 show(match (tabOf rows)[i]? with | some d=>run (U00 (tabOf rows) (k + 2)) d l | none=>M.no) z=_
 unfold tabOf
 rw[List.getElem?_map,hi];rfl
end
end Q
namespace Q
open PySem L2 PySem.Spec PyProof.Rows
theorem s41{P:Program}{w:World}{K:PySem.W.Frag}{mg mb:Str→Option Value}{k:Nat}{fa a:Addr}{fd:FuncData}{x:Str}{sp:Sp}{s₁:Shared}{vs:List Value}{ns:List Int}{ts:List Addr}
  (KX:K.In s₁.heap) (hns:s₁.heap.Ns mainGlobals mg) (hb:s₁.heap.Ns builtinsNs mb) (hbb:∀ x:Str,x≠"__name__"→mb x=bootBuiltins x) (hlim:s₁.heap.NoLimit) (hg:s₁.gens=#[])
  (ha:s₁.heap.get? a=some { cls:=.type "list",data:=.seq vs.toArray }) (hi:IntsAre vs ns) (hl:ns.length≤sizeLine) (hr:S00 k callerA)
  (hT:∀ Pt∈ts,s₁.heap.get? Pt=some (PySem.W.tabObj #[])∧K.lookup Pt=none∧∃ c,PySem.W.codeHdIn K c Pt=true) (bmn:BMain mg s₁.heap)
  (F:∀ base:Heap,K.In base→base.Ns mainGlobals mg→BMain mg base→f11 P w K mg base CX0 k fa fd [x] sp) (hbind:∀ (s:Shared) (u:Value),BindsTo s fd ⟨[u],[]⟩ [(x,u)])
  (hsp:∀ H:Hp,(∀ Pt∈ts,H Pt=some (.tbl #[]))→p60 K H a (ns.map V.int)→sp [.ref a] H (λv _=>v=.bl true) λ_ _ _=>False) :
  codeAny (model P w) callerA (.call (.ref fa) ⟨[.ref a],[]⟩) (λr s'=>r=.ok (.ret (.bool true))∧OldK s₁.heap s'.heap∧s'.os=s₁.os∧AllBare s'.gens) s₁:=by
 have rv:=N00 hi
 have lenV:=hi.length
 have naT:a ∉ ts:=λh=>by have:=(hT a h).1;rw[ha] at this;cases this
 have core:∀ H:Hp,(∀ Pt∈ts,H Pt=some (.tbl #[]))→(∀ b,H b=none∨b∈ts∨(b=a∧∃ xs,H b=some (.frz { cls:=.type "list",data:=.seq vs.toArray } (.lst xs))))→p60 K H a (ns.map V.int)→HOk P w H s₁.heap→(H a≠none→K.lookup a=none) →
   codeAny (model P w) callerA (.call (.ref fa) ⟨[.ref a],[]⟩) (λr s'=>r=.ok (.ret (.bool true))∧OldK s₁.heap s'.heap∧s'.os=s₁.os∧AllBare s'.gens) s₁:=by
  intro H hH hO hS hok hK
  have plainN:∀ {b:Addr}{o:Obj},s₁.heap.get? b=some o→(∀ xs n,o.data≠.seq xs n)→(∀ xs,o.data≠.fields xs)→H b=none:=λ{b o} e d1 d2=>by
   rcases hO b with z | z | ⟨z,_⟩
   ·exact z
   ·have:=(hT b z).1
    rw[e] at this;cases this
    exact absurd rfl (d2 _)
   ·rw[z,ha] at e;cases e
    exact absurd rfl (d1 _ _)
  have nsK:∀ {b:Addr}{m:Str→Option Value},s₁.heap.Ns b m→(x31 s₁.heap H).Ns b m:=λ{b m} ⟨o,es,ep,e,d,r⟩=>⟨o,es,ep,F80 e (plainN e (λxs n z=>by rw[d] at z;cases z) λxs z=>by rw[d] at z;cases z),d,r⟩
  have hKb:K.In (x31 s₁.heap H):=λb o e=>F80 (KX b o e) (by
   rcases hO b with z | z | ⟨z,xs,z2⟩
   ·exact z
   ·rw[(hT b z).2.1] at e;cases e
   ·rw[z] at e z2
    rw[hK (by rw[z2];exact λy=>nomatch y)] at e;cases e)
  have hM:Mod K mg (x31 s₁.heap H):=⟨hKb,nsK hns,⟨mb,nsK hb,hbb⟩,let ⟨mc,h1,h2⟩:=hlim;⟨mc,nsK h1,h2⟩⟩
  have hBM:BMain mg (x31 s₁.heap H):=by
   obtain⟨bm,ob,b1,b2,b3,b4,b5,b6⟩:=bmn
   exact⟨bm,ob,b1,b2,F80 b3 (plainN b3 (λxs n z=>by rw[b6] at z;cases z) λxs z=>by rw[b6] at z;cases z),b4,b5,b6⟩
  have e0:j92 P w K mg (x31 s₁.heap H) callerA [] s₁ H:=⟨rfl,hM,λb o e=>I81 e,Nat.le_of_eq (i61 _ _),trivial,λb hb=>absurd (show b∈([]:List Addr) from hb) (by simp),hok,.of_eq hg⟩
  refine codeAny_mono ((F _ hKb (nsK hns) hBM).run callerA [] s₁ H ⟨[.ref a],[]⟩ [.ref a] [.ref a] _ _ hr e0 (hbind s₁ (.ref a)) (.cons rfl .nil) (hsp H hH hS)) λr s' h=>?_
  cases r with
  |error e=>exact False.elim h
  |ok fl =>
   cases fl with
   |next=>exact False.elim h
   |brk=>exact False.elim h
   |cont=>exact False.elim h
   |ret u =>
    obtain⟨v,H',os,bare,un,hok',r',q⟩:=h
    have q':v=.bl true:=q
    subst q'
    obtain rfl:u=Value.bool true:=r'
    refine⟨rfl,⟨λb o e=>?_,λb o e=>un.there b o e (by simp)⟩,os,bare⟩
    rcases hO b with z | z | ⟨z,xs,z2⟩
    ·exact .inl (un.keep b o e z (by intro y;exact absurd (show b∈([]:List Addr) from y) (by simp)) (by simp))
    ·obtain⟨t1,_,c,t2⟩:=hT b z
     rw[e] at t1;cases t1
     obtain⟨more,m1⟩:=un.tbls b _ (hH b z)
     have m2:s'.heap.get? b=some { cls:=.none,data:=.fields (#[]++more) }:=hok' b _ m1
     have CH:=PySem.W.codeHd_of_K KX t2
     exact .inr (.inl ⟨(CH.tab e).isCodeTable,rfl,#[],more,rfl,m2⟩)
    ·have z3:=un.frzs b _ _ z2
     obtain⟨e1,_⟩:=hok b _ z2
     obtain⟨e2,_⟩:=hok' b _ z3
     rw[e] at e1;cases e1
     exact .inl e2
 cases hk:K.lookup a with
 |some o =>
  have e:=KX a o hk
  rw[ha] at e
  cases e
  refine core (λb=>if b∈ts then some (.tbl #[]) else none) (λPt h=>if_pos h) (λb=>?_) (.inr ⟨vs.toArray,_,hk,by rw[List.size_toArray,lenV];exact hl,by simpa using rv⟩) (λb u z=>?_) λz=>absurd (if_neg naT) z
  ·by_cases h:b∈ts
   ·exact .inr (.inl h)
   ·exact .inl (if_neg h)
  ·by_cases h:b∈ts
   ·have z':=(if_pos h).symm.trans z
    cases z'
    exact(hT b h).1
   ·have z':=(if_neg h).symm.trans z
    cases z'
 |none =>
  refine core (λb=>if b=a then some (.frz { cls:=.type "list",data:=.seq vs.toArray } (.lst (ns.map V.int))) else if b∈ts then some (.tbl #[]) else none) (λPt h=>?_) (λb=>?_) (.inl (.inr ⟨{ cls:=.type "list",data:=.seq vs.toArray },if_pos rfl⟩)) (λb u z=>?_) λ_=>hk
  ·rw[if_neg (λy=>naT (by rw[← y];exact h)),if_pos h]
  ·by_cases hb:b=a
   ·exact .inr (.inr ⟨hb,_,if_pos hb⟩)
   ·by_cases h:b∈ts
    ·exact .inr (.inl h)
    ·exact .inl (by rw[if_neg hb,if_neg h])
  ·by_cases hb:b=a
   ·have z':=(if_pos hb).symm.trans z
    cases z'
    subst hb
    exact⟨ha,by rw[List.length_map];exact hl,vs,_,rv,ha⟩
   ·replace z:=(if_neg hb).symm.trans z
    by_cases h:b∈ts
    ·have z':=(if_pos h).symm.trans z
     cases z'
     exact(hT b h).1
    ·have z':=(if_neg h).symm.trans z
     cases z'
theorem D61{l:PySem.W.OpenLaw}{n k:Nat}{q:Program}{loose:List Str}{XP:(Str→Option Value)→Heap→Prop}{d:DefRec}{A:m90}{x:Str}
  (hn:l.most=some n) (hn2:n≤sizeLine) (hdf:d.params.defaults=[]) (hr:S00 k callerA)
  (F:∀ (w:World) (mg:Str→Option Value) (fa:Addr) (h:Heap) (K:PySem.W.Frag),Facts A K h→K.In h→h.Ns mainGlobals mg→mg d.name=some (.ref fa) →
   ∃ (fd:FuncData) (ts:List Addr) (sp:Sp),(∀ Pt∈ts,h.get? Pt=some (PySem.W.tabObj #[])∧K.lookup Pt=none∧∃ c,PySem.W.codeHdIn K c Pt=true)∧(∀ (s:Shared) (u:Value),BindsTo s fd ⟨[u],[]⟩ [(x,u)]) ∧
    (∀ base:Heap,K.In base→base.Ns mainGlobals mg→BMain mg base→f11 l.prog w K mg base CX0 k fa fd [x] sp) ∧
    ∀ (H:Hp) (a:Addr) (ns:List Int),ns.length≤n→(∀ Pt∈ts,H Pt=some (.tbl #[]))→p60 K H a (ns.map V.int)→sp [.ref a] H (λv _=>v=.bl true) λ_ _ _=>False) :
  PySem.W.WalkO q loose XP A.hook.says l.row.toRowW d [] (λf vs=>PySem.call f vs):=by
 refine Att.T00 hn hdf λw s₀ s₁ mg mb fa o pm cd doc a vs ns G Y ho hd hcd hmg hobj hints hlen hg=>?_
 obtain⟨K,KX,FX⟩:=Y
 obtain⟨fd,ts,sp,hT,hb,hF,hsp⟩:=F w mg fa _ K FX KX G.T.g hmg
 exact s41 KX G.T.g G.T.b G.T.builtins G.T.nolimit hg hobj hints (Nat.le_trans hlen hn2) hr hT G.T.bmain hF hb λH hH hS=>hsp H a ns hlen hH hS
theorem S11{l:PySem.W.OpenLaw}{rows:List Row}{nums:List (Str × Int)}{cn:List Str}{k iL n:Nat}{rL:Row}(ok:rows.all (V21 (D20 rows) nums cn)=true)(bd:n50 rows)(hL:rows[iL]?=some rL)(hn:rL.nm="law")(hp:rL.ps=[("_law_script":Str)])
  (pure:∀ ns:List Int,ns.length≤n→b10 (tabOf rows) (k + 3) iL [.d (.lst (ns.map D.int))] none=some (.ok (.d (.bl true)) none)) (w:World) (mg:Str→Option Value) (fa:Addr) (h:Heap) (K:PySem.W.Frag) (Q:Facts (P30 rows nums cn) K h) (X:K.In h) (Gn:h.Ns mainGlobals mg) (hfa:mg "law"=some (.ref fa)) :
   ∃ (fd:FuncData) (ts:List Addr) (sp:Sp),(∀ Pt∈ts,h.get? Pt=some (PySem.W.tabObj #[])∧K.lookup Pt=none∧∃ c,PySem.W.codeHdIn K c Pt=true)∧(∀ (s:Shared) (u:Value),BindsTo s fd ⟨[u],[]⟩ [("_law_script",u)]) ∧
    (∀ base:Heap,K.In base→base.Ns mainGlobals mg→BMain mg base→f11 l.prog w K mg base CX0 (k + 3) fa fd ["_law_script"] sp) ∧
    ∀ (H:Hp) (a:Addr) (ns:List Int),ns.length≤n→(∀ Pt∈ts,H Pt=some (.tbl #[]))→p60 K H a (ns.map V.int)→sp [.ref a] H (λv _=>v=.bl true) λ_ _ _=>False:=by
 have hrL:rL∈rows:=List.mem_of_getElem? hL
 obtain⟨fL,fdL,aL,FL,ocL,odL,slL,lkL⟩:=Q.fn (rL.nm,rL.st) (List.mem_map.mpr ⟨rL,hrL,rfl⟩)
 have bL:=bd.at hrL
 have e:=hfa.symm.trans (PySem.W.mg_of X Gn (by rw[← hn];exact aL))
 cases e
 have bT:∀ (s:Shared) (u:Value),BindsTo s fdL ⟨[u],[]⟩ [("_law_script",u)]:=by
  obtain⟨_,_,kV,doc,pm,an,cdv,ct,_,e,_,_⟩:=FL.ex
  subst e
  intro s u
  have:=bL kV doc pm an cdv ct [u] (by rw[hp];rfl)
  rw[hp] at this
  exact .of_eq this
 let TB:Tb:=⟨[]⟩
 refine⟨fdL,[],λvs H Q _=>spF K (lev ⟨D20 rows,nums,λ_ _ _=>M.no,clsAt K cn,0⟩ (tabOf rows) (k + 3)) iL 1 vs H Q λ_ _ _=>False,λp hp=>(nomatch hp),bT,λbase kb nb bm=>?_,λH a ns hl hH hS=>g82 (pure ns hl) (λp hp=>nomatch hp) hS⟩
 have F:=ok0 (h02 (P:=l.prog) (w:=w) (base:=base) X Gn Q ok bd (λ_ _ _=>M.no) k hL FL)
 rw[hp] at F
 exact F
end Q
namespace Q
open L2 (D)
open PySem (Paired)
noncomputable def c31:Ex→Bool
 |.var _=>false
 |_=>true
noncomputable def F42:Ex→Env→Option (Option S)
 |.var i,ρ=>ρ[i]?
 |_,_=>none
noncomputable def x52:Option (Option S)→Option S
 |some (some s)=>noS s
 |_=>none
noncomputable def blS:S→Option Bool
 |.d (.bl b)=>some b
 |_=>none
noncomputable abbrev Du{α:Type}(_:α→Z→Prop)(_:Nat→Z→Prop):Type:=Unit
noncomputable abbrev Dv{α:Type}(_:α→Prop):Type:=Unit
structure W{α:Type}(m:M α)(z:Z)(Q:α→Z→Prop)(E:Nat→Z→Prop)(du:Du Q E:=()):Prop where
 ex:∃ r,m z=some r∧match r with
  |.ok a z1=>Q a z1
  |.er c z1=>E c z1
theorem W_e{α:Type}{m:M α}{z:Z}{Q:α→Z→Prop}{E:Nat→Z→Prop}:W m z Q E↔∃ r,m z=some r∧match r with
  |.ok a z1=>Q a z1
  |.er c z1=>E c z1:=⟨W.ex,W.mk⟩
noncomputable abbrev NE:Nat→Z→Prop:=λ_ _=>False
noncomputable def Get{α:Type}(o:Option α)(P:α→Prop)(_:Dv P:=()):Prop:=match o with
 |some a=>P a
 |none=>False
theorem h32{α:Type}{a:α}{P:α→Prop}:Get (some a) P↔P a:=Iff.rfl
theorem m70{α:Type}{o:Option α}{P:α→Prop}(h:Get o P):∃ a,o=some a∧P a:=by
 cases o with
 |none=>exact h.elim
 |some a=>exact⟨a,rfl,h⟩
theorem a00{α:Type}{o:Option α}{a:α}{P:α→Prop}(h:o=some a)(hp:P a):Get o P:=by rw[h];exact hp
section
variable {α β:Type}{m:M α}{z z1:Z}{Q Q':α→Z→Prop}{E E':Nat→Z→Prop}
theorem W.mono(h:W m z Q E)(hq:∀ a z,Q a z→Q' a z)(he:∀ c z,E c z→E' c z):W m z Q' E':=by
 obtain⟨r,e,h⟩:=h
 refine⟨r,e,?_⟩
 cases r with
 |ok a z1=>exact hq _ _ h
 |er c z1=>exact he _ _ h
theorem W.imp(h:W m z Q NE)(hq:∀ a z,Q a z→Q' a z):W m z Q' E':=h.mono hq λ_ _ h=>h.elim
theorem W.ok{a:α}(h:W m z (λb z2=>b=a∧z2=z1) NE):m z=some (.ok a z1):=by
 obtain⟨r,e,h⟩:=h
 cases r with
 |ok b z2=>obtain⟨rfl,rfl⟩:=h;exact e
 |er c z2=>exact h.elim
theorem W.er{c:Nat}(h:W m z (λ_ _=>False) (λd z2=>d=c∧z2=z1)):m z=some (.er c z1):=by
 obtain⟨r,e,h⟩:=h
 cases r with
 |ok b z2=>exact h.elim
 |er d z2=>obtain⟨rfl,rfl⟩:=h;exact e
theorem x62{a:α}(h:m z=some (.ok a z1)):W m z Q E↔Q a z1:=by
 rw[W_e]
 constructor
 ·rintro ⟨r,e,q⟩
  rw[h] at e;cases e
  exact q
 ·exact λq=>⟨_,h,q⟩
theorem F52{c:Nat}(h:m z=some (.er c z1)):W m z Q E↔E c z1:=by
 rw[W_e]
 constructor
 ·rintro ⟨r,e,q⟩
  rw[h] at e;cases e
  exact q
 ·exact λq=>⟨_,h,q⟩
theorem y20{a:α}:W (M.ret a) z Q E↔Q a z:=x62 rfl
theorem h42:W (M.no:M α) z Q E↔False:=⟨λ⟨_,e,_⟩=>(by cases e),False.elim⟩
theorem n60{f:α→M β}{Q:β→Z→Prop}:W (M.bind m f) z Q E↔W m z (λa z1=>W (f a) z1 Q E) E:=by
 constructor
 ·rintro ⟨r,e,q⟩
  unfold M.bind at e
  split at e
  ·rename_i a z1 e1
   exact⟨_,e1,r,e,q⟩
  ·rename_i c z1 e1
   cases e
   exact⟨_,e1,q⟩
  ·cases e
 ·rintro ⟨r,e,q⟩
  cases r with
  |ok a z1 =>
   obtain⟨r,e2,q⟩:=q
   refine⟨r,?_,q⟩
   unfold M.bind;rw[e];exact e2
  |er c z1 =>
   refine⟨.er c z1,?_,q⟩
   unfold M.bind;rw[e]
theorem I11:W (M.calm m) z Q E↔W m z Q NE:=by
 rw[W_e,W_e]
 unfold M.calm
 constructor
 ·rintro ⟨r,e,q⟩
  split at e
  ·rename_i a z1 e1
   cases e
   exact⟨_,e1,q⟩
  ·cases e
 ·rintro ⟨r,e,q⟩
  cases r with
  |ok a z1=>exact⟨.ok a z1,by rw[e],q⟩
  |er c z1=>exact q.elim
theorem S21(h:∀ a z,Q a z↔Q' a z):W m z Q E↔W m z Q' E:=⟨λx=>x.mono (λa z=>(h a z).mp) λ_ _ h=>h,λx=>x.mono (λa z=>(h a z).mpr) λ_ _ h=>h⟩
theorem wR{a:α}:Q a z↔W (M.ret a) z Q E:=y20.symm
theorem wN:False↔W (M.no:M α) z Q E:=h42.symm
theorem wT{c:Prop}[Decidable c]{a b:M α}{A B:Prop}(h1:A↔W a z Q E)(h2:B↔W b z Q E):(if c then A else B)↔W (if c then a else b) z Q E:=by
 split <;> assumption
theorem wG{o:Option β}{f:β→M α}{K:β→Prop}(h:∀ a,K a↔W (f a) z Q E):Get o K↔W (M.bind (M.of o) f) z Q E:=by
 cases o with
 |none=>exact h42.symm
 |some a=>exact h a
theorem wB{m:M β}{f:β→M α}{V:Prop}{K:β→Z→Prop}(h1:V↔W m z K E)(h2:∀ a z1,K a z1↔W (f a) z1 Q E):V↔W (M.bind m f) z Q E:=h1.trans ((S21 h2).trans n60.symm)
end
noncomputable def Wm{α:Type}(o:Option (R α))(Q:α→Z→Prop)(E:Nat→Z→Prop):Prop:=match o with
 |some (.ok a z1)=>Q a z1
 |some (.er c z1)=>E c z1
 |none=>False
theorem wM{α:Type}{m:M α}{z:Z}{Q:α→Z→Prop}{E:Nat→Z→Prop}:Wm (m z) Q E↔W m z Q E:=by
 rw[W_e]
 unfold Wm
 cases h:m z with
 |none=>exact⟨False.elim,λ⟨_,e,_⟩=>by cases e⟩
 |some r =>
  refine⟨λq=>⟨r,rfl,?_⟩,λ⟨_,e,q⟩=>?_⟩
  ·cases r <;> exact q
  ·cases e;cases r <;> exact q
noncomputable def Vr(o:Option (Option S))(z:Z)(Q:List S→Z→Prop)(_:Du Q NE:=()):Prop:=match o with
 |some (some s)=>Q [plS s] z
 |_=>False
noncomputable def WV:FT→Ex→Env→Z→(List S→Z→Prop)→(Nat→Z→Prop)→Prop
 |F,.nil=>λρ z Q E=>Q [] z
 |F,.cons a r=>λρ z Q E=>WV F a ρ z (λx z1=>Get (one x) λs=>WV F r ρ z1 (λy z2=>Q (s::y) z2) E) E
 |F,.con x=>λρ z Q E=>Q [.d x] z
 |F,.gint g i=>λρ z Q E=>Q [.d (.int i)] z
 |F,.tup as=>λρ z Q E=>WV F as ρ z (λl z1=>Get (plA l) λds=>if ds.length≤most then Q [.d (.tup ds)] z1 else False) E
 |F,.lst as=>λρ z Q E=>WV F as ρ z (λl z1=>Get (plA l) λds=>if ds.length≤most then Q [.fr ds] z1 else False) E
 |F,.bin o a b=>λρ z Q E=>WV F a ρ z (λx z1=>Get (pl x) λdx=>WV F b ρ z1 (λy z2=>Get (pl y) λdy=>Get (y60 o dx dy) λs=>Q [s] z2) E) E
 |F,.cmp o a b=>λρ z Q E=>WV F a ρ z (λx z1=>Get (pl x) λdx=>WV F b ρ z1 (λy z2=>Get (pl y) λdy=>Get (y70 o dx dy) λt=>Q [.d (.bl t)] z2) E) E
 |F,.neg a=>λρ z Q E=>WV F a ρ z (λx z1=>Get ((pl x).bind asI) λi=>Q [.d (.int (-i))] z1) E
 |F,.not a=>λρ z Q E=>WV F a ρ z (λx z1=>Get ((pl x).bind asB) λb=>Q [.d (.bl !b)] z1) E
 |F,.and a b=>λρ z Q E=>WV F a ρ z (λx z1=>Get ((pl x).bind asB) λc=>if c then WV F b ρ z1 (λy z2=>Get ((pl y).bind asB) λc=>Q [.d (.bl c)] z2) E else Q [.d (.bl false)] z1) E
 |F,.or a b=>λρ z Q E=>WV F a ρ z (λx z1=>Get ((pl x).bind asB) λc=>if c then Q [.d (.bl true)] z1 else WV F b ρ z1 (λy z2=>Get ((pl y).bind asB) λc=>Q [.d (.bl c)] z2) E) E
 |F,.orT a b=>λρ z Q E=>WV F a ρ z (λx z1=>Get ((pl x).bind a52) λl=>if l.isEmpty then WV F b ρ z1 (λy z2=>Get ((pl y).bind a52) λl=>Q [.d (.tup l)] z2) NE else Q [.d (.tup l)] z1) NE
 |F,.ite c a b=>λρ z Q E=>WV F c ρ z (λx z1=>Get ((pl x).bind asB) λc=>if c then WV F a ρ z1 Q E else WV F b ρ z1 Q E) E
 |F,.ch o o' a b c=>λρ z Q E=>WV F a ρ z (λx z1=>Get (pl x) λdx=>WV F b ρ z1 (λy z2=>Get (pl y) λdy=>Get (y70 o dx dy) λt=>if t then WV F c ρ z2 (λw z3=>Get (pl w) λdw=>Get (y70 o' dy dw) λt=>Q [.d (.bl t)] z3) E else Q [.d (.bl false)] z2) E) E
 |F,.bf f as=>λρ z Q E=>WV F as ρ z (λl z1=>Get (plA l) λds=>Get (bfD f ds) λs=>Q [s] z1) E
 |F,.isi t a=>λρ z Q E=>WV F a ρ z (λx z1=>Get (pl x) λx=>Q [.d (.bl (k32 t x))] z1) E
 |F,.idx a i=>λρ z Q E=>WV F a ρ z (λx z1=>Get (pl x) λdx=>WV F i ρ z1 (λy z2=>Get (pl y) λdy=>Get (L30 dx dy) λr=>Q [.d r] z2) E) E
 |F,.sl a lo hi=>λρ z Q E=>WV F a ρ z (λx z1=>Get (pl x) λdx=>WV F lo ρ z1 (λu z2=>Get (n01 u) λu=>WV F hi ρ z2 (λv z3=>Get (n01 v) λv=>Get (slD dx u v) λs=>Q [s] z3) E) E) E
 |F,.call f as=>λρ z Q E=>WV F as ρ z (λl z1=>W (F false f (l.map plS)) z1 (λs z2=>Q [s] z2) E) E
 |F,.comp own capt p it src cond el=>λρ z Q E=>WV F src ρ z (λl z1=>Get ((plA l).bind (itD it)) λxs=>if xs.length≤most then W (turns (p50 (ev F cond) (ev F el) p (List.replicate own none++capt.map λi=>(ρ[i]?).getD none)) xs) z1 (λys z2=>Q [.fr ys] z2) NE else False) E
 |F,.lrng b as=>λρ z Q E=>WV F as ρ z (λl z1=>Get ((plA l).bind lrD) λxs=>Q [lrS b xs] z1) E
 |F,.var i=>λρ z Q E=>Vr ρ[i]? z Q
 |F,.zget i k=>λρ z Q E=>Wm (n11 k ρ[i]? z) Q E
noncomputable def WE(F:FT)(e:Ex)(ρ:Env)(z:Z)(Q:List S→Z→Prop)(E:Nat→Z→Prop)(_:Du Q E:=()):Prop:=WV F e ρ z Q E
noncomputable def WX(F:FT)(tp:Bool):Sm→Env→Z→(O→Z→Prop)→(Nat→Z→Prop)→Prop
 |.nil=>λρ z Q E=>Q (.nx ρ) z
 |.seq s r=>λρ z Q E=>WX F tp s ρ z (λo z1=>match o with
  |.nx ρ=>WX F tp r ρ z1 Q E
  |.rt s=>Q (.rt s) z1) E
 |.set p e=>λρ z Q E=>WE F e ρ z (λl z1=>Get (one l) λs=>Get (N70 p s (n20 s ρ)) λρ'=>Q (.nx ρ') z1) E
 |.ret e=>λρ z Q E=>if c31 e then WE F e ρ z (λl z1=>Get ((one l).bind noS) λs=>Q (.rt s) z1) E else Get (x52 (F42 e ρ)) λs=>Q (.rt s) z
 |.iff c t e=>λρ z Q E=>WE F c ρ z (λx z1=>Get ((pl x).bind asB) λb=>if b then WX F tp t ρ z1 Q E else WX F tp e ρ z1 Q E) E
 |.exp e=>λρ z Q E=>WE F e ρ z (λl z1=>Get (one l) λ_=>Q (.nx ρ) z1) E
 |.rais c=>λρ z Q E=>E c z
 |.fr p it src b=>λρ z Q E=>WE F src ρ z (λl z1=>Get ((plA l).bind (itD it)) λxs=>W (S20 (λx ρ=>M.bind (M.of (e30 p x ρ)) λρ=>ex F tp b ρ) xs (n21 it src l ρ)) z1 Q E) E
 |.whl c b=>λρ z Q E=>W (G21 (ev F c) (ex F tp b) U71 ρ) z Q E
 |.zset i e=>λρ z Q E=>WE F e ρ z (λl z1=>Get ((pl l).bind asI) λv=>Wm (n51 ρ v ρ[i]? z1) Q E) E
 |.app i e=>λρ z Q E=>Get (ownAt ρ i) λxs=>WE F e ρ z (λl z1=>Get (pl l) λx=>if bare x=true∧xs.length < most then Q (.nx (ρ.set i (some (.fr (xs++[x]))))) z1 else False) E
 |.apop i j e=>λρ z Q E=>Get (ownAt ρ i) λxs=>Get (ownAt ρ j) λys=>WE F e ρ z (λl z1=>Get ((pl l).bind asI) λk=>Get (n31 ρ i j xs ys k) λo=>Q o z1) E
 |.newz i f as=>λρ z Q E=>WE F (.call f as) ρ z (λl z1=>Wm (n41 tp ρ i l) Q E) E
 |.aug o i e=>λρ z Q E=>Get ((ρ[i]?.getD none).bind plD) λy=>WE F e ρ z (λl z1=>Get ((pl l).bind asI) λx=>Get ((asI y).bind λy=>y60 o (.int y) (.int x)) λs=>Get (N70 (.v i) s (n20 s ρ)) λρ=>Q (.nx ρ) z1) E
noncomputable def WS(F:FT)(tp:Bool)(s:Sm)(ρ:Env)(z:Z)(Q:O→Z→Prop)(E:Nat→Z→Prop)(_:Du Q E:=()):Prop:=WX F tp s ρ z Q E
theorem h52:∀ (e:Ex) {F:FT}{ρ:Env}{z:Z}{Q:List S→Z→Prop}{E:Nat→Z→Prop},WV F e ρ z Q E↔W (ev F e ρ) z Q E:=by
 intro e
 induction e with
 |nil=>intros;exact wR
 |cons a r ha hr=>intros;exact wB ha λx z1=>wG λs=>wB hr λy z2=>wR
 |var i =>
  intro F ρ z Q E
  show Vr ρ[i]? z Q↔W (match ρ[i]? with | some (some s)=>M.ret [plS s] | _=>M.no) z Q E
  generalize ρ[i]?=o
  match o with
  |some (some s)=>exact wR
  |some none=>exact wN
  |none=>exact wN
 |con x=>intros;exact wR
 |gint g i=>intros;exact wR
 |tup a ha=>intros;exact wB ha λl z1=>wG λds=>wT wR wN
 |lst a ha=>intros;exact wB ha λl z1=>wG λds=>wT wR wN
 |bin o a b ha hb=>intros;exact wB ha λx z1=>wG λdx=>wB hb λy z2=>wG λdy=>wG λs=>wR
 |cmp o a b ha hb=>intros;exact wB ha λx z1=>wG λdx=>wB hb λy z2=>wG λdy=>wG λs=>wR
 |neg a ha=>intros;exact wB ha λx z1=>wG λi=>wR
 |not a ha=>intros;exact wB ha λx z1=>wG λi=>wR
 |and a b ha hb=>intros;exact wB ha λx z1=>wG λc=>wT (wB hb λy z2=>wG λc=>wR) wR
 |or a b ha hb=>intros;exact wB ha λx z1=>wG λc=>wT wR (wB hb λy z2=>wG λc=>wR)
 |orT a b ha hb=>intros;refine Iff.trans ?_ I11.symm;exact wB ha λx z1=>wG λl=>wT (wB hb λy z2=>wG λl=>wR) wR
 |ite c a b hc ha hb=>intros;exact wB hc λx z1=>wG λc=>wT ha hb
 |ch o o' a b c ha hb hc=>intros;exact wB ha λx z1=>wG λdx=>wB hb λy z2=>wG λdy=>wG λt=>wT (wB hc λw z3=>wG λdw=>wG λt=>wR) wR
 |bf f a ha=>intros;exact wB ha λl z1=>wG λds=>wG λs=>wR
 |isi t a ha=>intros;exact wB ha λx z1=>wG λx=>wR
 |idx a i ha hi=>intros;exact wB ha λx z1=>wG λdx=>wB hi λy z2=>wG λdy=>wG λr=>wR
 |sl a l h ha hl hh=>intros;exact wB ha λx z1=>wG λdx=>wB hl λu z2=>wG λu=>wB hh λv z3=>wG λv=>wG λs=>wR
 |call f a ha=>intros;exact wB ha λl z1=>wB Iff.rfl λs z2=>wR
 |comp own capt p it src cond el hs hc he=>intros;exact wB hs λl z1=>wG λxs=>wT (wB I11.symm λys z2=>wR) wN
 |zget i k=>intros;exact wM (m:=n11 k _)
 |lrng b a ha=>intros;exact wB ha λl z1=>wG λxs=>wR
theorem c10{e:Ex}{F:FT}{ρ:Env}{z:Z}{Q:List S→Z→Prop}{E:Nat→Z→Prop}:WE F e ρ z Q E↔W (ev F e ρ) z Q E:=h52 e
theorem u62{F:FT}{tp:Bool}{ρ:Env}{e:Ex}(h:c31 e=true):ex F tp (.ret e) ρ=M.bind (ev F e ρ) λl=>M.bind (M.of ((one l).bind noS)) λs=>M.ret (.rt s):=by
 cases e with
 |var i=>cases h
 |_=>rfl
theorem h62{F:FT}{tp:Bool}:∀ (s:Sm) {ρ:Env}{z:Z}{Q:O→Z→Prop}{E:Nat→Z→Prop},WX F tp s ρ z Q E↔W (ex F tp s ρ) z Q E:=by
 intro s
 induction s with
 |nil=>intros;exact wR
 |seq s r hs hr =>
  intros
  refine wB hs λo z1=>?_
  cases o with
  |nx ρ=>exact hr
  |rt s=>exact wR
 |set p e=>intros;exact wB c10 λl z1=>wG λs=>wG λρ'=>wR
 |ret e =>
  intro ρ z Q E
  show(if c31 e then _ else _)↔_
  cases h:c31 e with
  |true =>
   refine(iff_of_eq (if_pos rfl)).trans ?_
   rw[u62 h]
   exact wB c10 λl z1=>wG λs=>wR
  |false =>
   cases e with
   |var i =>
    refine(iff_of_eq (if_neg Bool.false_ne_true)).trans ?_
    show Get (x52 ρ[i]?) _↔W (match ρ[i]? with | some (some s)=>M.bind (M.of (noS s)) λs=>M.ret (O.rt s) | _=>M.no) z Q E
    generalize ρ[i]?=o
    match o with
    |some (some s)=>exact wG λs=>wR
    |some none=>exact wN
    |none=>exact wN
   |_=>cases h
 |iff c t u ht hu=>intros;exact wB c10 λx z1=>wG λc=>wT ht hu
 |exp e=>intros;exact wB c10 λl z1=>wG λs=>wR
 |rais c=>intros;exact(F52 rfl).symm
 |fr p it src b ih=>intros;exact wB c10 λl z1=>wG λxs=>Iff.rfl
 |whl c b ih=>intros;exact Iff.rfl
 |zset i e=>intros;exact wB c10 λl z1=>wG λv=>wM (m:=n51 _ v _)
 |app i e=>intros;exact wG λxs=>wB c10 λl z1=>wG λx=>wT wR wN
 |apop i j e=>intros;exact wG λxs=>wG λys=>wB c10 λl z1=>wG λk=>wG λo=>wR
 |newz i f as=>intros;exact wB c10 λl z1=>wM (m:=λ_=>n41 tp _ i l)
 |aug o i e=>intros;exact wG λy=>wB c10 λl z1=>wG λx=>wG λs=>wG λρ=>wR
theorem P40{F:FT}{tp:Bool}{s:Sm}{ρ:Env}{z:Z}{Q:O→Z→Prop}{E:Nat→Z→Prop}:WS F tp s ρ z Q E↔W (ex F tp s ρ) z Q E:=h62 s
theorem WS.mono{s:Sm}{F:FT}{tp:Bool}{ρ:Env}{z:Z}{Q Q':O→Z→Prop}{E E':Nat→Z→Prop}(h:WS F tp s ρ z Q E)(hq:∀ a z,Q a z→Q' a z)(he:∀ c z,E c z→E' c z):WS F tp s ρ z Q' E':=P40.mpr (W.mono (P40.mp h) hq he)
theorem S31{F:FT}{tp:Bool}{ρ:Env}{z:Z}{Q:O→Z→Prop}{E:Nat→Z→Prop}{s r:Sm}(Mid:Env→Z→Prop)(h:WS F tp s ρ z (λo z1=>match o with
  |.nx ρ=>Mid ρ z1
  |.rt s=>Q (.rt s) z1) E) (h2:∀ ρ z,Mid ρ z→WS F tp r ρ z Q E):WS F tp (.seq s r) ρ z Q E:=by
 refine WS.mono (s:=s) h (λo z1 h=>?_) λ_ _ h=>h
 cases o with
 |nx ρ=>exact h2 ρ z1 h
 |rt s=>exact h
section
variable {T:List Df}{k f ps ns:Nat}{b:Sm}{l:List S}{z:Z}{Q:S→Z→Prop}{E:Nat→Z→Prop}
theorem h72(h:T[f]?=some (.code ps ns b))(hl:l.length=ps)(hn:ps≤ns):W (b10 T (k + 3) f l) z Q E↔WS (U00 T (k + 2)) z.isNone b (start ns (l.map plS)) z (λo z1=>match o with
  |.nx _=>Q (.d .non) (H90 z z1)
  |.rt s=>Q s (H90 z z1)) λc z1=>E c (H90 z z1):=by
 refine Iff.trans ?_ P40.symm
 rw[U10,h]
 show W (λz=>if l.length=ps∧ps≤ns then(match ex (U00 T (k + 2)) z.isNone b (start ns (l.map plS)) z with
  |some (.ok (.nx _) z1)=>some (R.ok (S.d .non) (H90 z z1))
  |some (.ok (.rt s) z1)=>some (.ok s (H90 z z1))
  |some (.er c z1)=>some (.er c (H90 z z1))
  |none=>none) else none) z Q E↔_
 rw[W_e,W_e]
 constructor
 ·rintro ⟨r,e,q⟩
  rw[if_pos ⟨hl,hn⟩] at e
  split at e
  ·rename_i ρ z1 e1
   cases e
   exact⟨_,e1,q⟩
  ·rename_i s z1 e1
   cases e
   exact⟨_,e1,q⟩
  ·rename_i c z1 e1
   cases e
   exact⟨_,e1,q⟩
  ·cases e
 ·rintro ⟨r,e,q⟩
  rw[if_pos ⟨hl,hn⟩,e]
  match r,q with
  |.ok (.nx ρ) z1,q=>exact⟨_,rfl,q⟩
  |.ok (.rt s) z1,q=>exact⟨_,rfl,q⟩
  |.er c z1,q=>exact⟨_,rfl,q⟩
end
section
variable {F:FT}{tp:Bool}{ρ:Env}{z:Z}{E:Nat→Z→Prop}
theorem W10{f:D→M (Option D)}{o:D→Option D}:∀ {xs:List D}{Q:List D→Z→Prop},(∀ x∈xs,f x z=some (.ok (o x) z))→(W (turns f xs) z Q E↔Q (xs.filterMap o) z)
 |[],Q,_=>y20
 |x::r,Q,h=>by
  show W (M.bind (f x) _) z Q E↔_
  rw[n60,x62 (h x List.mem_cons_self),n60,W10 λy hy=>h y (List.mem_cons_of_mem _ hy),y20]
  rw[List.filterMap_cons]
  cases o x <;> rfl
theorem c41{f:D→M (Option D)}{I:Z→Prop}{P:D→D→Prop}:∀ {xs:List D}{z:Z}{Q:List D→Z→Prop},I z→(∀ x∈xs,∀ z,I z→W (f x) z (λo z1=>I z1∧∃ y,o=some y∧P x y) NE)→(∀ ys z1,I z1→Paired P xs ys→Q ys z1)→W (turns f xs) z Q E
 |[],z,Q,hi,_,q=>y20.mpr (q [] z hi .nil)
 |x::r,z,Q,hi,h,q=>by
  show W (M.bind (f x) _) z Q E
  rw[n60]
  refine(h x List.mem_cons_self z hi).imp λo z1 ⟨hi1,y,e,hp⟩=>?_
  subst e
  rw[n60]
  refine c41 hi1 (λx' hx'=>h x' (List.mem_cons_of_mem _ hx')) λys z2 hi2 hps=>?_
  exact y20.mpr (q _ _ hi2 (.cons hp hps))
theorem I21{f:D→Env→M O}{Q:O→Z→Prop}(I:List D→Env→Z→Prop):∀ (xs:List D) {ρ:Env}{z:Z},I xs ρ z→(∀ x r ρ z,I (x::r) ρ z→W (f x ρ) z (λo z1=>match o with
  |.nx ρ=>I r ρ z1
  |.rt s=>Q (.rt s) z1) E)→(∀ ρ z,I [] ρ z→Q (.nx ρ) z)→W (S20 f xs ρ) z Q E
 |[],ρ,z,hi,_,q=>y20.mpr (q _ _ hi)
 |x::r,ρ,z,hi,h,q=>by
  show W (M.bind (f x ρ) _) z Q E
  rw[n60]
  refine(h x r ρ z hi).mono (λo z1 ho=>?_) λ_ _ h=>h
  cases o with
  |nx ρ1=>exact I21 I r ho h q
  |rt s=>exact y20.mpr ho
theorem h82{c:Env→M (List S)}{f:Env→M O}{Q:O→Z→Prop}(I:Nat→Env→Z→Prop)(step:∀ n ρ z,I n ρ z→W (c ρ) z (λx z1=>Get ((pl x).bind asB) λk=>if k then W (f ρ) z1 (λo z2=>match o with
  |.nx ρ=>∃ m,m < n∧I m ρ z2
  |.rt s=>Q (.rt s) z2) E else Q (.nx ρ) z1) E):∀ (n m:Nat) {ρ:Env}{z:Z},I n ρ z→n < m→W (G21 c f m ρ) z Q E:=by
 intro n
 induction n using Nat.strongRecOn with
 |ind n ih =>
  intro m ρ z hi hm
  cases m with
  |zero=>omega
  |succ m =>
   show W (M.bind (c ρ) _) z Q E
   rw[n60]
   refine(step n ρ z hi).mono (λx z1 h=>?_) λ_ _ h=>h
   obtain⟨k,e,h⟩:=m70 h
   refine(wG (K:=λk=>if k=true then W (M.bind (f ρ) _) z1 Q E else W (M.ret (O.nx ρ)) z1 Q E) λk=>wT Iff.rfl Iff.rfl).mp (a00 e ?_)
   cases k with
   |true =>
    rw[if_pos rfl] at h ⊢
    rw[n60]
    refine h.mono (λo z2 h=>?_) λ_ _ h=>h
    cases o with
    |nx ρ1 =>
     obtain⟨j,hj,hi⟩:=h
     exact ih j hj m hi (by omega)
    |rt s=>exact y20.mpr h
   |false =>
    rw[if_neg Bool.false_ne_true] at h ⊢
    exact y20.mpr h
end
mutual
noncomputable def cE:D→Ex
 |.tup l=>.tup (cEs l)
 |.lst l=>.lst (cEs l)
 |.int i=>if i < 0 then .neg (.con (.int (-i))) else .con (.int i)
 |x=>.con x
noncomputable def cEs:List D→Ex
 |[]=>.nil
 |x::r=>.cons (cE x) (cEs r)
end
mutual
noncomputable def okC:D→Bool
 |.tup l=>decide (l.length≤most)&&u72 l
 |.lst l=>decide (l.length≤most)&&u72 l
 |_=>true
noncomputable def u72:List D→Bool
 |[]=>true
 |x::r=>okC x&&u72 r
end
noncomputable def cX(d:D)(_:okC d=true):Ex:=cE d
section
variable {F:FT}{ρ:Env}{z:Z}{Q:List S→Z→Prop}{E:Nat→Z→Prop}{a b c as:Ex}{p:Pat}{ρ0:Env}{x:D}{Q1:Option D→Z→Prop}
theorem s51:W (p50 (ev F .nil) (ev F a) p ρ0 x) z Q1 E↔Get (e30 p x ρ0) λρ=>WE F a ρ z (λy z1=>Get (pl y) λd=>Q1 (some d) z1) E :=
 (wG λρ=>show _↔W (M.bind (ev F a ρ) λy=>M.bind (M.of (pl y)) λy=>M.ret (some y)) z Q1 E from wB c10 λy z1=>wG λd=>wR).symm
theorem h92{l:List S}{m:M (List S)}{V:Prop}(h:V↔W (M.bind m λy=>M.bind (M.of (pl y)) λy=>M.ret (some y)) z Q1 E):(match l with | [s]=>Get (blS s) λb=>if b then V else Q1 none z | _=>l=[]∧V)↔W (match l with
  |[]=>M.bind m λy=>M.bind (M.of (pl y)) λy=>M.ret (some y)
  |[.d (.bl true)]=>M.bind m λy=>M.bind (M.of (pl y)) λy=>M.ret (some y)
  |[.d (.bl false)]=>M.ret none
  |_=>M.no) z Q1 E:=by
 match l with
 |[]=>exact⟨λx=>h.mp x.2,λx=>⟨rfl,h.mpr x⟩⟩
 |[.d (.bl true)]=>exact h32.trans ((iff_of_eq (if_pos rfl)).trans h)
 |[.d (.bl false)]=>exact h32.trans ((iff_of_eq (if_neg Bool.false_ne_true)).trans wR)
 |[.d .non]=>exact wN
 |[.d (.int _)]=>exact wN
 |[.d (.str _)]=>exact wN
 |[.d (.tup _)]=>exact wN
 |[.d (.lst _)]=>exact wN
 |[.d .dct]=>exact wN
 |[.fr _]=>exact wN
 |[.z]=>exact wN
 |s::_::_ =>
  refine⟨λx=>(by cases x.1),λx=>?_⟩
  cases s with
  |d y =>
   cases y with
   |bl b=>cases b <;> exact(h42.mp x).elim
   |_=>exact(h42.mp x).elim
  |_=>exact(h42.mp x).elim
theorem s61:W (p50 (ev F (.cons c .nil)) (ev F a) p ρ0 x) z Q1 E↔Get (e30 p x ρ0) λρ=>WE F c ρ z (λy z1=>Get (one y) λs=>Get (blS s) λb=>if b then WE F a ρ z1 (λy z2=>Get (pl y) λd=>Q1 (some d) z2) E else Q1 none z1) E:=by
 refine Iff.symm (wG λρ=>?_)
 refine wB (c10 (F:=F) (e:=.cons c .nil) (ρ:=ρ) (Q:=λl z1=>match l with | [s]=>Get (blS s) λb=>if b then WE F a ρ z1 (λy z2=>Get (pl y) λd=>Q1 (some d) z2) E else Q1 none z1 | _=>l=[]∧WE F a ρ z1 (λy z2=>Get (pl y) λd=>Q1 (some d) z2) E)) λl z1=>?_
 exact h92 (wB c10 λy z1=>wG λd=>wR)
end
section
variable {α:Type}{m:M α}{z z1:Z}{Q Q':α→Z→Prop}{E:Nat→Z→Prop}
theorem Wo{a:α}(h:m z=some (.ok a z1))(q:Q a z1):W m z Q E:=⟨_,h,q⟩
end
theorem i00{T:List Df}{k f ps ns:Nat}{b:Sm}{l:List S}{z:Z}{Q:S→Z→Prop}{E:Nat→Z→Prop}(h:T[f]?=some (.code ps ns b))(hl:l.length=ps)(hn:ps≤ns)(q:WS (U00 T (k + 2)) z.isNone b (start ns (l.map plS)) z (λo z1=>match o with
  |.nx _=>Q (.d .non) (H90 z z1)
  |.rt s=>Q s (H90 z z1)) λc z1=>E c (H90 z z1)):W (b10 T (k + 3) f l) z Q E:=(h72 h hl hn).mpr q
theorem ib{b:Bool}{A B:Prop}(ht:b=true→A)(hf:b=false→B):if b=true then A else B:=by
 cases b with
 |true=>exact ht rfl
 |false=>exact hf rfl
theorem it{b:Bool}{A B:Prop}(h:b=true)(a:A):if b=true then A else B:=by rw[if_pos h];exact a
theorem ie{b:Bool}{A B:Prop}(h:b=false)(a:B):if b=true then A else B:=by rw[h];exact a
theorem ip{c:Prop}[Decidable c]{A B:Prop}(h:c)(a:A):if c then A else B:=by rw[if_pos h];exact a
theorem s71(z:Z):H90 z z=z:=by cases z <;> rfl
theorem sd{s t:S}{z:Z}(h:s=t):s=t∧H90 z z=z:=⟨h,s71 z⟩
theorem sb{b c:Bool}{z:Z}(h:b=c):S.d (.bl b)=S.d (.bl c)∧H90 z z=z:=sd (by rw[h])
section
variable {F:FT}{tp:Bool}{z:Z}{E:Nat→Z→Prop}{p:Pat}
theorem P50{b:Sm}{Q:O→Z→Prop}{ρ:Env}(I:List D→Env→Z→Prop)(xs:List D)(hi:I xs ρ z)(h:∀ x r ρ z,I (x::r) ρ z→Get (e30 p x ρ) λρ=>WS F tp b ρ z (λo z1=>match o with
  |.nx ρ=>I r ρ z1
  |.rt s=>Q (.rt s) z1) E) (q:∀ ρ z,I [] ρ z→Q (.nx ρ) z):W (S20 (λx ρ=>M.bind (M.of (e30 p x ρ)) λρ=>ex F tp b ρ) xs ρ) z Q E :=
 I21 I xs hi (λx r ρ z hi=>(wG λρ=>P40).mp (h x r ρ z hi)) q
theorem S41{c:Ex}{b:Sm}{Q:O→Z→Prop}{ρ:Env}(I:Nat→Env→Z→Prop)(n:Nat)(hi:I n ρ z)(hn:n < U71)(h:∀ n ρ z,I n ρ z→WE F c ρ z (λx z1=>Get ((pl x).bind asB) λk=>if k then WS F tp b ρ z1 (λo z2=>match o with
  |.nx ρ=>∃ m,m < n∧I m ρ z2
  |.rt s=>Q (.rt s) z2) E else Q (.nx ρ) z1) E):W (G21 (ev F c) (ex F tp b) U71 ρ) z Q E:=by
 refine h82 I (λn ρ z hi=>?_) n U71 hi hn
 refine(c10.mp (h n ρ z hi)).mono (λx z1 h=>?_) λ_ _ h=>h
 obtain⟨k,e,h⟩:=m70 h
 refine a00 e ?_
 cases k with
 |true=>exact P40.mp h
 |false=>exact h
variable {ρ0:Env}{cond el:Ex}{xs:List D}{Q:List D→Z→Prop}
theorem i41(o:D→D)(h:∀ x∈xs,Get (e30 p x ρ0) λρ=>WE F el ρ z (λy z1=>Get (pl y) λd=>d=o x∧z1=z) NE)(q:Q (xs.map o) z):W (turns (p50 (ev F .nil) (ev F el) p ρ0) xs) z Q E:=by
 refine(W10 (o:=λx=>some (o x)) λx hx=>?_).mpr ?_
 ·refine W.ok (s51.mpr ?_)
  obtain⟨ρ,e,h⟩:=m70 (h x hx)
  refine a00 e (c10.mpr ((c10.mp h).imp λy z1 h=>?_))
  obtain⟨d,e,rfl,rfl⟩:=m70 h
  exact a00 e ⟨rfl,rfl⟩
 ·rw[show xs.filterMap (λx=>some (o x))=xs.map o from congrFun (List.filterMap_eq_map (f:=o)) xs];exact q
theorem u82{c:D→Bool}{o:D→D}:∀ xs:List D,xs.filterMap (λx=>if c x then some (o x) else none)=(xs.filter c).map o
 |[]=>rfl
 |x::r=>by
  rw[List.filterMap_cons,List.filter_cons]
  cases hc:c x with
  |false=>exact u82 r
  |true=>exact congrArg (o x::·) (u82 r)
theorem F62(c:D→Bool)(o:D→D)(h:∀ x∈xs,Get (e30 p x ρ0) λρ=>WE F cond ρ z (λy z1=>Get (one y) λs=>s=.d (.bl (c x))∧z1=z∧(c x=true→WE F el ρ z (λy z1=>Get (pl y) λd=>d=o x∧z1=z) NE)) NE)(q:Q ((xs.filter c).map o) z):W (turns (p50 (ev F (.cons cond .nil)) (ev F el) p ρ0) xs) z Q E:=by
 refine(W10 (o:=λx=>if c x then some (o x) else none) λx hx=>?_).mpr ?_
 ·refine W.ok (s61.mpr ?_)
  obtain⟨ρ,e,h⟩:=m70 (h x hx)
  refine a00 e (c10.mpr ((c10.mp h).imp λy z1 h=>?_))
  obtain⟨s,e,rfl,rfl,h⟩:=m70 h
  refine a00 e ?_
  show if c x=true then _ else _
  cases hc:c x with
  |false=>exact⟨rfl,rfl⟩
  |true =>
   refine c10.mpr ((c10.mp (h hc)).imp λy z1 h=>?_)
   obtain⟨d,e,rfl,rfl⟩:=m70 h
   exact a00 e ⟨rfl,rfl⟩
 ·rw[u82];exact q
theorem i02{I:Z→Prop}(o:D→D):∀ {xs:List D}{z:Z}{Q:List D→Z→Prop},I z→(∀ x∈xs,∀ z,I z→Get (e30 p x ρ0) λρ=>WE F cond ρ z (λy z1=>Get (one y) λs=>I z1∧∃ b,s=.d (.bl b)∧(b=true→WE F el ρ z1 (λy z2=>Get (pl y) λd=>d=o x∧z2=z1) NE)) NE) →
  (∀ ys z1,I z1→ys.Sublist (xs.map o)→Q ys z1)→W (turns (p50 (ev F (.cons cond .nil)) (ev F el) p ρ0) xs) z Q E
 |[],z,Q,hi,_,q=>y20.mpr (q [] z hi .slnil)
 |x::r,z,Q,hi,h,q=>by
  show W (M.bind (p50 _ _ p ρ0 x) _) z Q E
  refine n60.mpr (s61.mpr ?_)
  obtain⟨ρ,e,h0⟩:=m70 (h x List.mem_cons_self z hi)
  refine a00 e (c10.mpr ((c10.mp h0).imp λy z1 h1=>?_))
  obtain⟨s,e,hi1,b,rfl,h2⟩:=m70 h1
  refine a00 e ?_
  show if b=true then _ else _
  have hr:=λ{Q:List D→Z→Prop} (q:∀ ys z1,I z1→ys.Sublist (r.map o)→Q ys z1)=>i02 o (z:=z1) hi1 (λy hy=>h y (List.mem_cons_of_mem _ hy)) q
  cases b with
  |false=>exact n60.mpr (hr λys z2 hi2 hs=>y20.mpr (q ys z2 hi2 (hs.cons _)))
  |true =>
   refine c10.mpr ((c10.mp (h2 rfl)).imp λy z2 h3=>?_)
   obtain⟨d,e,rfl,rfl⟩:=m70 h3
   exact a00 e (n60.mpr (hr λys z2 hi2 hs=>y20.mpr (q _ z2 hi2 (hs.cons_cons _))))
theorem F72{I:Z→Prop}{P:D→D→Prop}(hi:I z)(h:∀ x∈xs,∀ z,I z→Get (e30 p x ρ0) λρ=>WE F el ρ z (λy z1=>Get (pl y) λd=>I z1∧P x d) NE)(q:∀ ys z1,I z1→Paired P xs ys→Q ys z1):W (turns (p50 (ev F .nil) (ev F el) p ρ0) xs) z Q E:=by
 refine c41 hi (λx hx z hz=>s51.mpr ?_) q
 obtain⟨ρ,e,h⟩:=m70 (h x hx z hz)
 refine a00 e (c10.mpr ((c10.mp h).imp λy z1 h=>?_))
 obtain⟨d,e,h⟩:=m70 h
 exact a00 e ⟨h.1,d,rfl,h.2⟩
end
end Q
namespace K3
open PySem L2 Q
noncomputable def top(i:Nat):Stmt:=PySem.Challenge.pw_tiechances_k72_whole_betters.main.body.getD i (.Pass ⟨0,0,0,0⟩)
noncomputable def nums:List (Str × Int):=[(("MOST_PLACES":Str),(6:Int)),(("MOST_TIES":Str),(8:Int)),(("MOST_BOTTOM":Str),(1000:Int))]
noncomputable abbrev v0:Ex:=.var 0
noncomputable abbrev v1:Ex:=.var 1
noncomputable abbrev v2:Ex:=.var 2
noncomputable abbrev v3:Ex:=.var 3
noncomputable abbrev v4:Ex:=.var 4
noncomputable abbrev v5:Ex:=.var 5
noncomputable abbrev v6:Ex:=.var 6
noncomputable abbrev v7:Ex:=.var 7
noncomputable abbrev v8:Ex:=.var 8
noncomputable abbrev v9:Ex:=.var 9
noncomputable abbrev v10:Ex:=.var 10
noncomputable abbrev v11:Ex:=.var 11
noncomputable abbrev n0:Ex:=.con (.int 0)
noncomputable abbrev n1:Ex:=.con (.int 1)
noncomputable abbrev n2:Ex:=.con (.int 2)
noncomputable abbrev c1(a:Ex):Ex:=.cons a .nil
noncomputable abbrev c2(a b:Ex):Ex:=.cons a (.cons b .nil)
noncomputable abbrev c3(a b c:Ex):Ex:=.cons a (.cons b (.cons c .nil))
noncomputable abbrev c4(a b c d:Ex):Ex:=.cons a (.cons b (.cons c (.cons d .nil)))
noncomputable abbrev c5(a b c d e:Ex):Ex:=.cons a (.cons b (.cons c (.cons d (.cons e .nil))))
noncomputable abbrev s1(a:Sm):Sm:=.seq a .nil
noncomputable abbrev p2(a b:Pat):Pat:=.tup (.cons a (.cons b .nil))
noncomputable abbrev f80:Nat:=0
noncomputable abbrev J00:Nat:=1
noncomputable abbrev I31:Nat:=2
noncomputable abbrev W20:Nat:=3
noncomputable abbrev P60:Nat:=4
noncomputable abbrev f90:Nat:=5
noncomputable abbrev k10:Nat:=6
noncomputable abbrev k20:Nat:=7
noncomputable abbrev c51:Nat:=8
noncomputable abbrev E60:Nat:=9
noncomputable abbrev c61:Nat:=10
noncomputable abbrev s81:Nat:=11
noncomputable abbrev k30:Nat:=12
noncomputable abbrev r10:Nat:=13
noncomputable abbrev c60:Nat:=14
noncomputable abbrev q10:Nat:=15
noncomputable abbrev E70:Nat:=16
noncomputable abbrev w70:Nat:=17
noncomputable abbrev r20:Nat:=18
noncomputable abbrev t70:Nat:=19
noncomputable abbrev i90:Nat:=20
noncomputable abbrev d00:Nat:=21
noncomputable abbrev g80:Nat:=22
noncomputable abbrev E80:Nat:=23
noncomputable abbrev h40:Nat:=24
noncomputable abbrev t80:Nat:=25
noncomputable abbrev P70:Nat:=26
noncomputable abbrev d10:Nat:=27
noncomputable abbrev W30:Nat:=28
noncomputable abbrev s91:Nat:=29
noncomputable abbrev z40:Nat:=30
noncomputable abbrev v00:Nat:=31
noncomputable abbrev C00:Nat:=32
noncomputable abbrev c71:Nat:=33
noncomputable abbrev w80:Nat:=34
noncomputable abbrev f10:Nat:=35
noncomputable abbrev l30:Nat:=36
noncomputable abbrev n70:Nat:=37
noncomputable abbrev q20:Nat:=38
noncomputable abbrev w90:Nat:=39
noncomputable abbrev a90:Nat:=40
noncomputable abbrev x00:Nat:=41
noncomputable abbrev E90:Nat:=42
noncomputable abbrev t90:Nat:=43
noncomputable abbrev l40:Nat:=44
noncomputable abbrev q30:Nat:=45
noncomputable abbrev l50:Nat:=46
noncomputable abbrev m80:Nat:=47
noncomputable abbrev i22:Nat:=48
noncomputable def g00:Sm:=(.seq (.whl (.cmp .gt v1 n0) (s1 (.set (p2 (.v 0) (.v 1)) (.tup (c2 v1 (.bin .mod v0 v1)))))) (s1 (.ret v0)))
noncomputable def J10:Sm:=(.seq (.set (.v 2) (.call f80 (c2 v0 v1))) (s1 (.ret (.tup (c2 (.bin .fdiv v0 v2) (.bin .fdiv v1 v2))))))
noncomputable def t01:Sm:=(s1 (.ret (.call J00 (c2 (.bin .add (.bin .mul (.idx v0 n0) (.idx v1 n1)) (.bin .mul (.idx v1 n0) (.idx v0 n1))) (.bin .mul (.idx v0 n1) (.idx v1 n1))))))
noncomputable def W40:Sm:=(s1 (.ret (.call I31 (c2 v0 (.tup (c2 (.neg (.idx v1 n0)) (.idx v1 n1)))))))
noncomputable def C10:Sm:=(s1 (.ret (.cmp .lt (.bin .mul (.idx v0 n0) (.idx v1 n1)) (.bin .mul (.idx v1 n0) (.idx v0 n1)))))
noncomputable def g20:Sm:=(.seq (.set (.v 1) (.con .non)) (.seq (.fr (p2 (.v 2) (.v 3)) .enum (c1 v0) (s1 (.iff (.or (.cmp .is v1 (.con .non)) (.call P60 (c2 (.idx v0 v1) v3))) (s1 (.set (.v 1) v2)) .nil))) (s1 (.ret v1))))
noncomputable def F00:Sm:=(s1 (.ret (.and (.isi .int v0) (.not (.isi .bool v0)))))
noncomputable def v40:Sm:=(s1 (.ret (.and (.call k10 (c1 v0)) (.ch .le .lt n0 v0 v1))))
noncomputable def J20:Sm:=(.seq (.iff (.or (.not (.isi .tuple v0)) (.cmp .ne (.bf .len (c1 v0)) n2)) (s1 (.ret (.con (.bl false)))) .nil) (.seq (.set (p2 (.v 2) (.v 3)) v0) (s1 (.ret (.and (.call k20 (c2 v2 v1)) (.and (.call k20 (c2 v3 v1)) (.cmp .lt v2 v3)))))))
noncomputable def v50:Sm:=(.seq (.iff (.or (.not (.isi .tuple v0)) (.cmp .gt (.bf .len (c1 v0)) (.gint "MOST_TIES" 8))) (s1 (.ret (.con (.bl false)))) .nil) (.seq (.iff (.not (.bf .all (c1 (.comp 1 [1] (.v 0) .seq (c1 v0) .nil (.call c51 (c2 v0 v1)))))) (s1 (.ret (.con (.bl false)))) .nil) (s1 (.ret (.bf .all (c1 (.comp 2 [] (p2 (.v 0) (.v 1)) .zip (c2 v0 (.sl v0 (c1 n1) .nil)) .nil (.cmp .le v0 v1))))))))
noncomputable def J30:Sm:=(.seq (.iff (.or (.not (.isi .tuple v0)) (.cmp .ne (.bf .len (c1 v0)) n2)) (s1 (.ret (.con (.bl false)))) .nil) (.seq (.set (p2 (.v 1) (.v 2)) v0) (s1 (.ret (.and (.call k10 (c1 v1)) (.and (.ch .le .le n1 v1 (.gint "MOST_PLACES" 6)) (.call E60 (c2 v2 v1))))))))
noncomputable def W50:Sm:=(s1 (.ret (.bf .all (c1 (.comp 2 [] (p2 (.v 0) (.v 1)) .zip (c2 v0 (.sl v0 (c1 n1) .nil)) .nil (.cmp .lt v0 v1))))))
noncomputable def e90:Sm:=(.seq (.iff (.not (.isi .tuple v0)) (s1 (.ret (.con (.bl false)))) .nil) (s1 (.ret (.and (.bf .all (c1 (.comp 1 [1] (.v 0) .seq (c1 v0) .nil (.call k20 (c2 v0 v1))))) (.call s81 (c1 v0))))))
noncomputable def r30:Sm:=(s1 (.iff (.not (.call c61 (c1 v0))) (s1 (.rais 0)) .nil))
noncomputable def j00:Sm:=(s1 (.iff (.or (.not (.call k30 (c2 v1 (.idx v0 n0)))) (.cmp .eq (.bf .len (c1 v1)) n0)) (s1 (.rais 2)) .nil))
noncomputable def j10:Sm:=(s1 (.iff (.not (.call k20 (c2 v1 (.bf .len (c1 (.idx v0 n1)))))) (s1 (.rais 4)) .nil))
noncomputable def v60:Sm:=(.seq (.set (p2 (.v 2) (.v 3)) v0) (.seq (.set (.v 4) (.lrng false (c1 v2))) (.seq (.fr (.v 5) .seq (c1 v1) (.seq (.set (p2 (.v 6) (.v 7)) (.idx v3 v5)) (.seq (.set (.v 8) (.idx v4 v6)) (.seq (.set (.v 9) (.idx v4 v7)) (s1 (.set (.v 4) (.comp 1 [8,9] (.v 0) .seq (c1 v4) .nil (.ite (.cmp .eq v0 v2) v1 v0)))))))) (s1 (.ret v4)))))
noncomputable def n80:Sm:=(.seq (.set (.v 3) (.call E70 (c2 v0 v1))) (s1 (.ret (.bf .all (c1 (.comp 1 [2,3] (.v 0) .seq (c1 v2) .nil (.cmp .eq (.idx v2 v0) (.idx v2 (.idx v1 n0)))))))))
noncomputable def r40:Sm:=(.seq (.iff (.or (.not (.isi .tuple v0)) (.cmp .ne (.bf .len (c1 v0)) n2)) (s1 (.ret (.con (.bl false)))) .nil) (.seq (.set (p2 (.v 1) (.v 2)) v0) (.seq (.iff (.or (.not (.call k10 (c1 v1))) (.not (.call k10 (c1 v2)))) (s1 (.ret (.con (.bl false)))) .nil) (.seq (.iff (.or (.not (.ch .le .le n1 v2 (.gint "MOST_BOTTOM" 1000))) (.not (.ch .le .le n0 v1 v2))) (s1 (.ret (.con (.bl false)))) .nil) (s1 (.ret (.cmp .eq (.call f80 (c2 v1 v2)) n1)))))))
noncomputable def l60:Sm:=(.seq (.exp (.call r10 (c1 v0))) (.seq (.iff (.or (.not (.isi .tuple v1)) (.cmp .ne (.bf .len (c1 v1)) (.bf .len (c1 (.idx v0 n1))))) (s1 (.ret (.con (.bl false)))) .nil) (s1 (.ret (.bf .all (c1 (.comp 1 [] (.v 0) .seq (c1 v1) .nil (.call r20 (c1 v0)))))))))
noncomputable def j20:Sm:=(s1 (.iff (.not (.call r20 (c1 v0))) (s1 (.rais 5)) .nil))
noncomputable def h50:Sm:=(s1 (.iff (.not (.call t70 (c2 v0 v1))) (s1 (.rais 6)) .nil))
noncomputable def l70:Sm:=(s1 (.ret (.bin .add (.bin .add (.sl v0 .nil (c1 v1)) (.tup (c1 v2))) (.sl v0 (c1 (.bin .add v1 n1)) .nil))))
noncomputable def v70:Sm:=(.seq (.set (.v 1) (cX (.lst [(.tup [])]) (by decide))) (.seq (.fr (.v 2) .rng1 (c1 (.bf .len (c1 (.idx v0 n1)))) (s1 (.set (.v 1) (.bin .add v1 (.comp 1 [2] (.v 0) .seq (c1 v1) .nil (.bin .add v0 (.tup (c1 v1)))))))) (s1 (.ret (.bf .sorted (c1 v1))))))
noncomputable def r50:Sm:=(.seq (.exp (.call r10 (c1 v0))) (.seq (.exp (.call c60 (c2 v0 v1))) (s1 (.ret (.comp 1 [0,1] (.v 0) .seq (c1 (.call E80 (c1 v0))) (c1 (.call w70 (c3 v1 v0 v2))) v0)))))
noncomputable def l80:Sm:=(.seq (.set (.v 1) n1) (.seq (.fr (.v 2) .seq (c1 v0) (s1 (.aug .mul 1 (.idx v2 n1)))) (s1 (.ret v1))))
noncomputable def C20:Sm:=(.seq (.set (.v 2) n1) (.seq (.fr (p2 (.v 3) (p2 (.v 4) (.v 5))) .enum (c1 v0) (s1 (.aug .mul 2 (.ite (.cmp .mem v3 v1) v4 (.bin .sub v5 v4))))) (s1 (.ret v2))))
noncomputable def n90:Sm:=(s1 (.ret (.call J00 (c2 (.bf .sum (c1 (.comp 1 [0] (.v 0) .seq (c1 v1) .nil (.call P70 (c2 v1 v0))))) (.call t80 (c1 v0))))))
noncomputable def W60:Sm:=(.seq (.exp (.call d00 (c2 v0 v1))) (.seq (.exp (.call c60 (c2 v0 v2))) (s1 (.ret (.call d10 (c2 v1 (.call h40 (c2 v0 v2))))))))
noncomputable def W70:Sm:=(.seq (.set (.v 3) (.call d10 (c2 (.call g80 (c3 v0 v2 (cX (.tup [(.int 1),(.int 1)]) (by decide)))) v1))) (s1 (.ret (.call W20 (c2 v3 (.call d10 (c2 (.call g80 (c3 v0 v2 (cX (.tup [(.int 0),(.int 1)]) (by decide)))) v1)))))))
noncomputable def J40:Sm:=(.seq (.exp (.call d00 (c2 v0 v1))) (.seq (.exp (.call c60 (c2 v0 v2))) (.seq (.set (.v 3) (.call h40 (c2 v0 v2))) (s1 (.ret (.comp 1 [1,3] (.v 0) .rng1 (c1 (.bf .len (c1 v1))) .nil (.call s91 (c3 v1 v2 v0))))))))
noncomputable def v80:Sm:=(s1 (.ret (.call f90 (c1 (.call z40 (c3 v0 v1 v2))))))
noncomputable def C30:Sm:=(s1 (.ret (.call W20 (c2 (.call d10 (c2 (.call g80 (c3 v0 v2 v3)) v1)) (.call d10 (c2 v0 v1))))))
noncomputable def t11:Sm:=(.seq (.exp (.call d00 (c2 v0 v1))) (.seq (.exp (.call c60 (c2 v0 v2))) (.seq (.exp (.call q10 (c2 v0 v3))) (.seq (.exp (.call i90 (c1 v4))) (s1 (.ret (.call C00 (c4 v1 (.call h40 (c2 v0 v2)) v3 v4))))))))
noncomputable def o00:Sm:=(.seq (.exp (.call d00 (c2 v0 v1))) (.seq (.exp (.call c60 (c2 v0 v2))) (.seq (.exp (.call i90 (c1 v3))) (.seq (.set (.v 4) (.call h40 (c2 v0 v2))) (.seq (.set (.v 5) (.comp 1 [1,3,4] (.v 0) .rng1 (c1 (.bf .len (c1 v1))) .nil (.call C00 (c4 v1 v3 v0 v2)))) (.seq (.set (.v 6) (.call f90 (c1 v5))) (.seq (.iff (.or (.cmp .is v6 (.con .non)) (.cmp .le (.idx (.idx v5 v6) n0) n0)) (s1 (.ret (.con .non))) .nil) (s1 (.ret v6)))))))))
noncomputable def j30:Sm:=(.seq (.set (p2 (.v 2) (.v 3)) (.tup (c2 (.bf .abs (c1 v0)) v1))) (.seq (.whl (.cmp .ne v3 n0) (s1 (.set (p2 (.v 2) (.v 3)) (.tup (c2 v3 (.bin .mod v2 v3)))))) (s1 (.ret (.tup (c2 (.bin .fdiv v0 v2) (.bin .fdiv v1 v2)))))))
noncomputable def r60:Sm:=(s1 (.ret (.call f10 (c2 (.bin .add (.bin .mul (.idx v0 n0) (.idx v1 n1)) (.bin .mul (.idx v1 n0) (.idx v0 n1))) (.bin .mul (.idx v0 n1) (.idx v1 n1))))))
noncomputable def o20:Sm:=(s1 (.ret (.call f10 (c2 (.bin .mul (.idx v0 n0) (.idx v1 n0)) (.bin .mul (.idx v0 n1) (.idx v1 n1))))))
noncomputable def f20:Sm:=(.seq (.iff (.cmp .lt v1 (.bf .len (c1 v0))) (s1 (.ret (.idx v0 v1))) .nil) (s1 (.ret n0)))
noncomputable def i10:Sm:=(.seq (.set (.v 2) (.call q20 (c2 v0 v1))) (.seq (.iff (.cmp .ge v2 (.bin .pow (.con (.int 10)) (.con (.int 18)))) (s1 (.ret (.lst (c2 (.bin .sub v2 (.bin .pow (.con (.int 10)) (.con (.int 18)))) (.con (.bl true)))))) .nil) (s1 (.ret (.lst (c2 (.bin .mod v2 (.con (.int 2147483647))) (.con (.bl false))))))))
noncomputable def r70:Sm:=(.seq (.iff (.zget 0 1) (.seq (.set (.v 2) (.bin .mod (.zget 0 0) v1)) (.seq (.zset 0 (.bin .fdiv (.zget 0 0) v1)) (s1 (.ret v2)))) .nil) (.seq (.zset 0 (.bin .mod (.bin .add (.bin .mul (.zget 0 0) (.con (.int 48271))) (.con (.int 29))) (.con (.int 2147483647)))) (.seq (.set (.v 3) (.bin .mod (.bin .add (.bin .add (.bin .mul (.zget 0 0) (.zget 0 0)) (.bin .mul (.con (.int 39373)) (.zget 0 0))) (.con (.int 7))) (.con (.int 2147483629)))) (.seq (.set (.v 3) (.bin .mod (.bin .add (.bin .mul v3 v3) (.bin .mul (.con (.int 16807)) v3)) (.con (.int 2147483587)))) (s1 (.ret (.bin .mod (.bin .fdiv v3 (.con (.int 8))) v1)))))))
noncomputable def o30:Sm:=(.seq (.set (.v 2) (.lrng false (c1 v1))) (.seq (.set (.v 3) (.lst .nil)) (.seq (.whl (.cmp .ne v2 (.lst .nil)) (s1 (.apop 3 2 (.call a90 (c2 v0 (.bf .len (c1 v2))))))) (s1 (.ret (.bf .tuple (c1 v3)))))))
noncomputable def v90:Sm:=(.seq (.set (.v 2) (.idx (cX (.lst [(.int 5),(.int 4),(.int 6),(.int 3),(.int 4),(.int 2),(.int 6),(.int 1)]) (by decide)) (.call a90 (c2 v0 (.con (.int 8)))))) (.seq (.set (.v 3) (.call x00 (c2 v0 v2))) (.seq (.set (.v 4) (.call a90 (c2 v0 (.con (.int 6))))) (.seq (.set (.v 5) (.lst .nil)) (.seq (.fr (.v 6) .rng2 (c2 n1 v2) (s1 (.app 5 (.tup (c2 (.idx v3 v6) (.idx v3 (.idx (.lst (.cons (.bin .sub v6 n1) (c5 (.bin .sub v6 n1) n0 (.bin .fdiv v6 n2) (.bin .sub v6 n1) n0))) v4))))))) (.seq (.iff (.and (.cmp .eq v4 n0) (.cmp .gt v2 n2)) (s1 (.app 5 (.tup (c2 (.idx v3 n0) (.idx v3 (.bin .sub v2 n1)))))) .nil) (.seq (.iff (.cmp .eq v4 (.con (.int 4))) (s1 (.set (.v 5) (.sl v5 (c1 n1) .nil))) .nil) (.seq (.fr (.v 7) .rng1 (c1 (.call a90 (c2 v0 (.con (.int 5))))) (.seq (.set (p2 (.v 8) (.v 9)) (.tup (c2 (.call a90 (c2 v0 v2)) (.call a90 (c2 v0 v2))))) (s1 (.iff (.cmp .ne v8 v9) (s1 (.app 5 (.tup (c2 v8 v9)))) .nil)))) (.seq (.iff (.and (.cmp .ne v5 (.lst .nil)) (.cmp .eq (.call a90 (c2 v0 (.con (.int 3)))) n0)) (s1 (.app 5 (.idx v5 (.call a90 (c2 v0 (.bf .len (c1 v5))))))) .nil) (.seq (.set (.v 5) (.sl v5 .nil (c1 v1))) (s1 (.ret (.tup (c2 v2 (.bf .tuple (c1 (.bf .sorted (c1 (.comp 2 [] (p2 (.v 0) (.v 1)) .seq (c1 v5) .nil (.tup (c2 (.bf .min (c2 v0 v1)) (.bf .max (c2 v0 v1)))))))))))))))))))))))
noncomputable def l90:Sm:=(.seq (.set (.v 2) (.bf .tuple (c1 (.comp 1 [0] (.v 0) .rng1 (c1 (.idx v1 n0)) (c1 (.cmp .eq (.call a90 (c2 v1 n2)) n0)) v0)))) (s1 (.ret (.idx (.lst (c3 (.orT v2 (cX (.tup [(.int 0)]) (by decide))) (.lrng true (c1 (.idx v1 n0))) (.orT v2 (.tup (c1 (.bin .sub (.idx v1 n0) n1)))))) (.call a90 (c2 v0 (.con (.int 3))))))))
noncomputable def m00:Sm:=(.seq (.set (.v 1) (.call a90 (c2 v0 (.con (.int 8))))) (.seq (.iff (.cmp .lt v1 n2) (s1 (.ret (.idx (cX (.lst [(.tup [(.int 0),(.int 1)]),(.tup [(.int 1),(.int 1)])]) (by decide)) v1))) .nil) (.seq (.set (.v 2) (.idx (.lst (.cons n2 (c5 (.con (.int 3)) (.con (.int 4)) (.bin .add n1 (.call a90 (c2 v0 (.con (.int 12))))) (.bin .add n1 (.call a90 (c2 v0 (.con (.int 1000))))) (.con (.int 1000))))) (.bin .sub v1 n2))) (s1 (.ret (.call f10 (c2 (.call a90 (c2 v0 (.bin .add v2 n1))) v2)))))))
noncomputable def j40:Sm:=(s1 (.ret (.bf .tuple (c1 (.comp 1 [0] (.v 0) .seq (c1 (.idx v1 n1)) .nil (.call l40 (c1 v1)))))))
noncomputable def r80:Sm:=(s1 (.ret (.cmp .lt (.bin .mul (.idx v0 n0) (.idx v1 n1)) (.bin .mul (.idx v1 n0) (.idx v0 n1)))))
noncomputable def c50:Sm:=(.seq (.set (.v 5) (.idx (.call z40 (c3 v0 v1 v2)) v3)) (.seq (.set (.v 6) (.idx v1 v3)) (.seq (.set (.v 7) (.call l30 (c2 v4 (.tup (c2 (.bin .sub n0 (.idx v6 n0)) (.idx v6 n1)))))) (.seq (.set (.v 8) (.call c71 (c5 v0 v1 v2 v3 v4))) (.seq (.iff (.or (.cmp .ne v8 (.call n70 (c2 v5 v7))) (.cmp .lt (.idx v5 n0) n0)) (s1 (.ret (.con (.bl false)))) .nil) (.seq (.set (.v 9) (.bin .add (.bin .add (.sl v1 .nil (c1 v3)) (cX (.tup [(.tup [(.int 0),(.int 1)])]) (by decide))) (.sl v1 (c1 (.bin .add v3 n1)) .nil))) (.seq (.set (.v 10) (.call l30 (c2 (.call W30 (c3 v0 v9 v2)) (.call n70 (c2 v6 v5))))) (.seq (.iff (.cmp .ne (.call W30 (c3 v0 v1 v2)) v10) (s1 (.ret (.con (.bl false)))) .nil) (s1 (.ret (.or (.cmp .ge (.idx v8 n0) n0) (.call l50 (c2 v4 v6)))))))))))))
noncomputable def t21:Sm:=(.seq (.fr (.v 1) .rng1 (c1 (.bf .max (c2 n1 (.bf .min (c2 (.bf .len (c1 v0)) (.con (.int 5))))))) (.seq (.newz 2 w90 (c2 v0 v1)) (.seq (.set (.v 3) (.call E90 (c2 v2 (.idx (cX (.lst [(.int 5),(.int 8)]) (by decide)) (.bf .int (c1 (.cmp .eq v1 n0))))))) (.seq (.set (p2 (.v 4) (.v 5)) (.tup (c2 (.call t90 (c2 v2 v3)) (.call q30 (c2 v2 v3))))) (.seq (.set (.v 6) (.call l40 (c1 v2))) (.seq (.iff (.cmp .ne (.cmp .is (.call v00 (c3 v3 v5 v4)) (.con .non)) (.cmp .eq (.idx v3 n1) (.tup .nil))) (s1 (.ret (.con (.bl false)))) .nil) (.seq (.set (.v 7) (.call w80 (c4 v3 v5 v4 v6))) (s1 (.iff (.cmp .ne (.idx v3 n1) (.tup .nil)) (.seq (.set (.v 8) (.call a90 (c2 v2 (.bf .len (c1 (.idx v3 n1)))))) (.seq (.set (.v 9) (.call z40 (c3 v3 v5 v4))) (.seq (.iff (.call l50 (c2 (.idx v9 (.call v00 (c3 v3 v5 v4))) (.idx v9 v8))) (s1 (.ret (.con (.bl false)))) .nil) (.seq (.iff (.not (.call m80 (c5 v3 v5 v4 v8 v6))) (s1 (.ret (.con (.bl false)))) .nil) (.seq (.set (.v 10) (.call c71 (c5 v3 v5 v4 v8 v6))) (.seq (.set (.v 11) (cX (.tup [(.int 0),(.int 1)]) (by decide))) (.seq (.iff (.cmp .isnt v7 (.con .non)) (s1 (.set (.v 11) (.call c71 (c5 v3 v5 v4 v7 v6)))) .nil) (s1 (.iff (.call l50 (c2 v11 v10)) (s1 (.ret (.con (.bl false)))) .nil))))))))) .nil))))))))) (s1 (.ret (.con (.bl true)))))
noncomputable def rows:List Row:=[(⟨"common_divisor",["one","other"],top 8,["one","other"],g00,false⟩:Row),
 (⟨"lowest",["top","bottom"],top 9,["top","bottom","divisor"],J10,false⟩:Row),
 (⟨"plus",["one","other"],top 10,["one","other"],t01,false⟩:Row),
 (⟨"minus",["one","other"],top 11,["one","other"],W40,false⟩:Row),
 (⟨"is_less",["one","other"],top 12,["one","other"],C10,false⟩:Row),
 (⟨"first_greatest",["fractions"],top 13,["fractions","best","at","one"],g20,false⟩:Row),
 (⟨"is_whole",["thing"],top 17,["thing"],F00,false⟩:Row),
 (⟨"is_below",["thing","many"],top 18,["thing","many"],v40,false⟩:Row),
 (⟨"is_tie",["thing","many"],top 19,["thing","many","a","b"],J20,false⟩:Row),
 (⟨"are_ties",["thing","many"],top 20,["thing","many"],v50,false⟩:Row),
 (⟨"is_web",["thing"],top 21,["thing","many","ties"],J30,false⟩:Row),
 (⟨"rises",["things"],top 22,["things"],W50,false⟩:Row),
 (⟨"is_rising_below",["thing","many"],top 23,["thing","many"],e90,false⟩:Row),
 (⟨"check_web",["thing"],top 24,["thing"],r30,false⟩:Row),
 (⟨"check_places",["web","thing"],top 25,["web","thing"],j00,false⟩:Row),
 (⟨"check_number",["web","thing"],top 26,["web","thing"],j10,false⟩:Row),
 (⟨"marks_by",["web","lot"],top 27,["web","lot","many","ties","marks","number","a","b","kept","gone"],v60,false⟩:Row),
 (⟨"are_joined",["web","lot","places"],top 28,["web","lot","places","marks"],n80,false⟩:Row),
 (⟨"is_chance",["thing"],top 31,["thing","top","bottom"],r40,false⟩:Row),
 (⟨"are_chances",["web","thing"],top 32,["web","thing"],l60,false⟩:Row),
 (⟨"check_chance",["thing"],top 33,["thing"],j20,false⟩:Row),
 (⟨"check_chances",["web","thing"],top 34,["web","thing"],h50,false⟩:Row),
 (⟨"with_chance",["chances","number","chance"],top 35,["chances","number","chance"],l70,false⟩:Row),
 (⟨"all_lots",["web"],top 37,["web","lots","number"],v70,false⟩:Row),
 (⟨"good_lots",["web","places"],top 38,["web","places"],r50,false⟩:Row),
 (⟨"all_bottoms",["chances"],top 40,["chances","found","chance"],l80,false⟩:Row),
 (⟨"lot_top",["chances","lot"],top 41,["chances","lot","found","number","top","bottom"],C20,false⟩:Row),
 (⟨"lots_share",["chances","lots"],top 42,["chances","lots"],n90,false⟩:Row),
 (⟨"share",["web","chances","places"],top 43,["web","chances","places"],W60,false⟩:Row),
 (⟨"worth",["chances","good","number"],top 45,["chances","good","number","held"],W70,false⟩:Row),
 (⟨"worths",["web","chances","places"],top 46,["web","chances","places","good"],J40,false⟩:Row),
 (⟨"best_tie",["web","chances","places"],top 47,["web","chances","places"],v80,false⟩:Row),
 (⟨"gain_by",["chances","good","number","chance"],top 48,["chances","good","number","chance"],C30,false⟩:Row),
 (⟨"gain",["web","chances","places","number","chance"],top 49,["web","chances","places","number","chance"],t11,false⟩:Row),
 (⟨"best_raise",["web","chances","places","chance"],top 50,["web","chances","places","chance","good","gains","best"],o00,false⟩:Row),
 (⟨"_law_divided",["_law_top","_law_bottom"],top 52,["_law_top","_law_bottom","_law_one","_law_other"],j30,false⟩:Row),
 (⟨"_law_plus",["_law_one","_law_other"],top 53,["_law_one","_law_other"],r60,false⟩:Row),
 (⟨"_law_times",["_law_one","_law_other"],top 54,["_law_one","_law_other"],o20,false⟩:Row),
 (⟨"_law_cell_at",["_law_script","_law_k"],top 55,["_law_script","_law_k"],f20,false⟩:Row),
 (⟨"_law_state",["_law_script","_law_k"],top 56,["_law_script","_law_k","_law_cell"],i10,false⟩:Row),
 (⟨"_law_take",["_law_state_here","_law_many"],top 57,["_law_state_here","_law_many","_law_found","_law_stirred"],r70,false⟩:Row),
 (⟨"_law_mixed",["_law_state_here","_law_many"],top 58,["_law_state_here","_law_many","_law_left","_law_found"],o30,false⟩:Row),
 (⟨"_law_web",["_law_state_here","_law_most"],top 59,["_law_state_here","_law_most","_law_many","_law_names","_law_way","_law_ties","_law_at","_law_turn","_law_one","_law_other"],v90,false⟩:Row),
 (⟨"_law_places",["_law_state_here","_law_web_here"],top 60,["_law_state_here","_law_web_here","_law_some"],l90,false⟩:Row),
 (⟨"_law_chance",["_law_state_here"],top 61,["_law_state_here","_law_way","_law_bottom"],m00,false⟩:Row),
 (⟨"_law_chances",["_law_state_here","_law_web_here"],top 62,["_law_state_here","_law_web_here"],j40,false⟩:Row),
 (⟨"_law_less",["_law_one","_law_other"],top 63,["_law_one","_law_other"],r80,false⟩:Row),
 (⟨"_law_tie_right",["_law_web_here","_law_chances_here","_law_places_here","_law_number","_law_chance_here"],top 64,["_law_web_here","_law_chances_here","_law_places_here","_law_number","_law_chance_here","_law_worth","_law_own","_law_step","_law_found","_law_sure","_law_due"],c50,false⟩:Row),
 (⟨"law",["_law_script"],top 65,["_law_script","_law_k","_law_state_here","_law_web_here","_law_places_here","_law_chances_here","_law_chance_here","_law_best","_law_number","_law_some","_law_found","_law_most"],t21,false⟩:Row)]
noncomputable def T:List Df:=[(Df.code 2 2 g00:Df),(Df.code 2 3 J10:Df),(Df.code 2 2 t01:Df),(Df.code 2 2 W40:Df),(Df.code 2 2 C10:Df),(Df.code 1 4 g20:Df),(Df.code 1 1 F00:Df),(Df.code 2 2 v40:Df),(Df.code 2 4 J20:Df),(Df.code 2 2 v50:Df),(Df.code 1 3 J30:Df),(Df.code 1 1 W50:Df),(Df.code 2 2 e90:Df),(Df.code 1 1 r30:Df),(Df.code 2 2 j00:Df),(Df.code 2 2 j10:Df),(Df.code 2 10 v60:Df),(Df.code 3 4 n80:Df),(Df.code 1 3 r40:Df),(Df.code 2 2 l60:Df),(Df.code 1 1 j20:Df),(Df.code 2 2 h50:Df),(Df.code 3 3 l70:Df),(Df.code 1 3 v70:Df),(Df.code 2 2 r50:Df),(Df.code 1 3 l80:Df),(Df.code 2 6 C20:Df),(Df.code 2 2 n90:Df),(Df.code 3 3 W60:Df),(Df.code 3 4 W70:Df),(Df.code 3 4 J40:Df),(Df.code 3 3 v80:Df),(Df.code 4 4 C30:Df),(Df.code 5 5 t11:Df),(Df.code 4 7 o00:Df),(Df.code 2 4 j30:Df),(Df.code 2 2 r60:Df),(Df.code 2 2 o20:Df),(Df.code 2 2 f20:Df),(Df.code 2 3 i10:Df),(Df.code 2 4 r70:Df),(Df.code 2 4 o30:Df),(Df.code 2 10 v90:Df),(Df.code 2 3 l90:Df),(Df.code 1 3 m00:Df),(Df.code 2 2 j40:Df),(Df.code 2 2 r80:Df),(Df.code 5 11 c50:Df),(Df.code 1 12 t21:Df)]
theorem F82:tabOf rows=T:=rfl
noncomputable def cn:List Str:=["NoWeb","NoWeb","NoPlaces","NoWeb","NoTie","NoChance","NoChances","NoWeb","NoWeb","NoWeb","NoWeb","NoWeb"]
end K3
namespace K3
open Q
open L2 (D)
set_option exponentiation.threshold 5000
noncomputable def i32:D→Bool
 |.int _=>true
 |_=>false
theorem m10(k:Nat)(x:D)(z:Z):b10 T (k + 3) k10 [.d x] z=some (.ok (.d (.bl (i32 x))) z):=by
 cases z <;> cases x <;> rfl
noncomputable def c00(x:D)(m:Int):Bool:=match x with
 |.int i=>decide (0≤i)&&decide (i < m)
 |_=>false
theorem m20(k:Nat)(x:D)(m:Int)(z:Z):b10 T (k + 4) k20 [.d x,.d (.int m)] z=some (.ok (.d (.bl (c00 x m))) z):=by
 refine W.ok (i00 (ps:=2) (ns:=2) (b:=v40) rfl rfl (by decide) (Wo (m10 (k:=k) x z) ?_))
 cases x with
 |int i=>exact ib (b:=decide (0≤i)) (λh=>sb (show decide (i < m)=(decide (0≤i)&&decide (i < m)) by rw[h];rfl)) λh=>sb (show false=(decide (0≤i)&&decide (i < m)) by rw[h];rfl)
 |_=>exact sb rfl
noncomputable def t31(x:D)(m:Int):Bool:=match x with
 |.tup [a,b]=>c00 a m&&(c00 b m&&(match a,b with
  |.int i,.int j=>decide (i < j)
  |_,_=>false))
 |_=>false
theorem k40{x:D}{m:Int}(h:c00 x m=true):∃ i,x=.int i∧0≤i∧i < m:=by
 cases x with
 |int i =>
  unfold c00 at h
  rw[Bool.and_eq_true,decide_eq_true_eq,decide_eq_true_eq] at h
  exact⟨i,rfl,h⟩
 |_=>cases h
theorem t41(k:Nat)(x:D)(m:Int)(z:Z):b10 T (k + 5) c51 [.d x,.d (.int m)] z=some (.ok (.d (.bl (t31 x m))) z):=by
 refine W.ok (i00 (ps:=2) (ns:=4) (b:=J20) rfl rfl (by decide) ?_)
 cases x with
 |tup l =>
  match l with
  |[a,b] =>
   refine Wo (m20 k a m z) (ib (b:=c00 a m) (λh1=>Wo (m20 k b m z) (ib (b:=c00 b m) (λh2=>?_) λh=>?_)) λh=>?_)
   ·obtain⟨i,rfl,_⟩:=k40 h1
    obtain⟨j,rfl,_⟩:=k40 h2
    exact sb (show decide (i < j)=(c00 (.int i) m&&(c00 (.int j) m&&decide (i < j))) by rw[h1,h2];rfl)
   ·exact sb (show false=(c00 a m&&(c00 b m&&_)) by rw[h1,h];rfl)
   ·exact sb (show false=(c00 a m&&_) by rw[h];rfl)
  |[]=>exact sb rfl
  |[_]=>exact sb rfl
  |_::_::_::_=>exact sb rfl
 |_=>exact sb rfl
theorem F10(l:List D)(p:D→Bool):bfD .all [.lst (l.map λx=>D.bl (p x))]=some (.d (.bl (l.all p))):=by
 have h:(l.map λx=>D.bl (p x)).mapM asB=some (l.map p):=by
  induction l with
  |nil=>rfl
  |cons x r ih =>
   rw[List.map_cons,List.mapM_cons,ih];rfl
 show((l.map λx=>D.bl (p x)).mapM asB).map _=_
 rw[h]
 simp[List.all_map]
theorem u00(l:List D)(n:Nat):cutD l (some (n:Int)) none=l.drop n:=by
 have h1:HT.sIx l.length 0 (some (n:Int))=min n l.length:=HT.j81 l.length 0 n
 unfold cutD
 rw[h1]
 show((l.drop (min n l.length)).take (l.length - min n l.length))=_
 rcases Nat.le_total n l.length with h | h
 ·rw[Nat.min_eq_left h,List.take_of_length_le (by rw[List.length_drop];omega)]
 ·rw[Nat.min_eq_right h,List.drop_length,List.take_nil,List.drop_of_length_le h]
theorem J50:∀ a b:List D,(y80 a b).length≤a.length
 |[],_=>Nat.le_refl _
 |_::_,[]=>Nat.zero_le _
 |_::r,_::q=>Nat.succ_le_succ (J50 r q)
theorem W80:∀ {a b:List D}{d:D},d∈y80 a b→∃ x∈a,∃ y∈b,d=.tup [x,y]
 |x::r,y::q,d,h=>by
  rcases List.mem_cons.mp h with h | h
  ·exact⟨x,List.mem_cons_self,y,List.mem_cons_self,h⟩
  ·obtain⟨u,hu,v,hv,e⟩:=W80 h
   exact⟨u,List.mem_cons_of_mem _ hu,v,List.mem_cons_of_mem _ hv,e⟩
noncomputable def leD:D→Bool
 |.tup [.tup a,.tup b]=>(match T80 a,T80 b with
  |some ns,some ms=>HT.leB ns ms
  |_,_=>false)
 |_=>false
noncomputable def P80(l:List D):Bool:=(y80 l (l.drop 1)).all leD
noncomputable def P90(x:D)(m:Int):Bool:=match x with
 |.tup l=>decide (l.length≤8)&&(l.all (λt=>t31 t m)&&P80 l)
 |_=>false
theorem Q00{x:D}{m:Int}(h:t31 x m=true):∃ i j,x=.tup [.int i,.int j]∧0≤i∧i < j∧j < m:=by
 cases x with
 |tup l =>
  match l,h with
  |[a,b],h =>
   unfold t31 at h
   rw[Bool.and_eq_true,Bool.and_eq_true] at h
   obtain⟨h1,h2,h3⟩:=h
   obtain⟨i,rfl,i1,i2⟩:=k40 h1
   obtain⟨j,rfl,j1,j2⟩:=k40 h2
   exact⟨i,j,rfl,i1,of_decide_eq_true h3,j2⟩
 |_=>cases h
theorem y30{n:Nat}(h:n≤1000):n≤most:=Nat.le_trans h (by decide)
theorem W90(k:Nat)(x:D)(m:Int)(z:Z):b10 T (k + 6) E60 [.d x,.d (.int m)] z=some (.ok (.d (.bl (P90 x m))) z):=by
 refine W.ok (i00 (ps:=2) (ns:=2) (b:=v50) rfl rfl (by decide) ?_)
 cases x with
 |tup l =>
  refine ib (b:=decide ((8:Int) < (l.length:Int))) (λh=>?_) λh=>?_
  ·refine sb (show false=(decide (l.length≤8)&&_) from ?_)
   rw[decide_eq_true_eq] at h
   rw[decide_eq_false (by omega)];rfl
  ·rw[decide_eq_false_iff_not] at h
   have h8:l.length≤8:=by omega
   refine ip (y30 (by omega)) (i41 (λx=>.bl (t31 x m)) (λx _=>Wo (t41 k x m z) ⟨rfl,rfl⟩) ?_)
   refine(a00 (F10 l λx=>t31 x m) ?_ :)
   refine ib (b:=!l.all λx=>t31 x m) (λh=>?_) λh2=>?_
   ·exact sb (show false=(decide (l.length≤8)&&(l.all (λt=>t31 t m)&&P80 l)) by rw[Bool.not_eq_true'] at h;rw[h,Bool.false_and,Bool.and_false])
   ·rw[Bool.not_eq_false'] at h2
    have ha:=List.all_eq_true.mp h2
    have e1:cutD l (some 1) none=l.drop 1:=u00 l 1
    refine ip (c:=(y80 l (cutD l (some 1) none)).length≤most) (Nat.le_trans (J50 _ _) (y30 (by omega))) (i41 (λx=>.bl (leD x)) (λx hx=>?_) (a00 (F10 _ leD) ?_ :))
    ·obtain⟨u,hu,v,hv,rfl⟩:=W80 hx
     rw[e1] at hv
     obtain⟨i,j,rfl,_⟩:=Q00 (ha u hu)
     obtain⟨i',j',rfl,_⟩:=Q00 (ha v (List.mem_of_mem_drop hv))
     exact⟨rfl,rfl⟩
    ·refine sb (b:=(y80 l (cutD l (some 1) none)).all leD) ?_
     show _=(decide (l.length≤8)&&(l.all (λt=>t31 t m)&&P80 l))
     rw[e1,h2,decide_eq_true h8,Bool.true_and,Bool.true_and];rfl
 |_=>exact sb rfl
noncomputable def u92(a t:D):Bool:=match a with
 |.int m=>decide (1≤m)&&(decide (m≤6)&&P90 t m)
 |_=>false
noncomputable def D71(x:D):Bool:=match x with
 |.tup [a,t]=>u92 a t
 |_=>false
theorem t51(k:Nat)(x:D)(z:Z):b10 T (k + 7) c61 [.d x] z=some (.ok (.d (.bl (D71 x))) z):=by
 refine W.ok (i00 (ps:=1) (ns:=3) (b:=J30) rfl rfl (by decide) ?_)
 cases x with
 |tup l =>
  match l with
  |[a,t] =>
   refine Wo (m10 (k + 3) a _) ?_
   cases a with
   |int m =>
    refine ib (b:=decide (1≤m)) (λg1=>ib (b:=decide (m≤6)) (λg2=>Wo (W90 k t m _) ?_) λg2=>?_) λg1=>?_
    ·exact sb (show P90 t m=(decide (1≤m)&&(decide (m≤6)&&P90 t m)) by rw[g1,g2];rfl)
    ·exact sb (show false=(decide (1≤m)&&(decide (m≤6)&&P90 t m)) by rw[g1,g2];rfl)
    ·exact sb (show false=(decide (1≤m)&&(decide (m≤6)&&P90 t m)) by rw[g1];rfl)
   |_=>exact sb rfl
  |[]=>exact sb rfl
  |[_]=>exact sb rfl
  |_::_::_::_=>exact sb rfl
 |_=>exact sb rfl
theorem x10(k:Nat){x:D}(z:Z)(h:D71 x=true):b10 T (k + 8) r10 [.d x] z=some (.ok (.d .non) z) :=
 W.ok (i00 (ps:=1) (ns:=1) (b:=r30) rfl rfl (by decide) (Wo (t51 k x z) (ie (b:=!D71 x) (by rw[h];rfl) (sd rfl))))
set_option exponentiation.threshold 5000
theorem D81{i j:Int}(hj:0 < j):y60 .mod (.int i) (.int j)=some (.d (.int (i % j))):=by
 show(if 0 < j then some (S.d (.int (i % j))) else none)=_
 rw[if_pos hj]
noncomputable def GT(n:Nat)(a b:Int):Prop:=0≤b∧((∃ k:Nat,n=2 * k + 1∧b < 2 ^ k)∨∃ k:Nat,n=2 * k∧b < a∧a < 2 ^ k)
theorem GT.step{n:Nat}{a b:Int}(h:GT n a b)(hb:0 < b):∃ m,m < n∧GT m b (a % b):=by
 obtain⟨h0,h⟩:=h
 have r0:=Int.emod_nonneg a (show b≠0 by omega)
 have r1:=Int.emod_lt_of_pos a hb
 rcases h with ⟨k,rfl,hk⟩ | ⟨k,rfl,hba,hk⟩
 ·exact⟨2 * k,Nat.lt_succ_self _,r0,.inr ⟨k,rfl,r1,hk⟩⟩
 ·cases k with
  |zero=>simp at hk;omega
  |succ k =>
   refine⟨2 * k + 1,by omega,r0,.inl ⟨k,rfl,?_⟩⟩
   have e:=Int.emod_add_mul_ediv a b
   have q1:1≤a / b:=Int.le_ediv_of_mul_le hb (by omega)
   have:b * 1≤b * (a / b):=Int.mul_le_mul_of_nonneg_left q1 (by omega)
   have h2:(2:Int) ^ (k + 1)=2 * 2 ^ k:=by rw[Int.pow_succ,Int.mul_comm]
   rw[h2] at hk
   omega
theorem t61(a b:Int):Int.gcd b (a % b)=Int.gcd a b:=by
 rw[Int.emod_def,Int.gcd_sub_mul_left_right,Int.gcd_comm]
noncomputable def big(b:Int):Prop:=b < 2 ^ 4000
theorem X00{b:Int}(h0:0≤b)(h:big b):b.natAbs < E00:=by
 have h:b < 2 ^ 4000:=h
 have e:((2 ^ 4000:Nat):Int)=2 ^ 4000:=by rw[Int.natCast_pow];rfl
 show b.natAbs < 2 ^ 4000
 omega
theorem u10{b:Int}(h:b≤2 ^ 64):big b:=Int.lt_of_le_of_lt h (by decide)
theorem k50(k:Nat)(a b:Int)(z:Z)(h0:0 < b)(h1:big b):b10 T (k + 3) f80 [.d (.int a),.d (.int b)] z=some (.ok (.d (.int (Int.gcd a b))) z):=by
 refine W.ok (i00 (ps:=2) (ns:=2) (b:=g00) rfl rfl (by decide) (S41 (λn ρ z1=>z1=z∧∃ c d:Int,ρ=[some (.d (.int c)),some (.d (.int d))]∧GT n c d∧Int.gcd c d=Int.gcd a b∧(d=0→0≤c)) (2 * 4000 + 1) ⟨rfl,a,b,rfl,⟨Int.le_of_lt h0,.inl ⟨4000,rfl,h1⟩⟩,rfl,λh=>by omega⟩ (by decide) ?_))
 rintro n ρ z1 ⟨rfl,c,d,rfl,g,hg,hc⟩
 refine ib (b:=decide (0 < d)) (λhd=>?_) λhd=>?_
 ·rw[decide_eq_true_eq] at hd
  obtain⟨m,hm,g'⟩:=g.step hd
  refine(a00 (D81 (i:=c) hd) ?_ :)
  exact⟨m,hm,rfl,d,c % d,rfl,g',(t61 c d).trans hg,λ_=>Int.le_of_lt hd⟩
 ·rw[decide_eq_false_iff_not] at hd
  have hz:d=0:=by have:=g.1;omega
  subst hz
  rw[Int.gcd_zero_right] at hg
  refine sd (s:=.d (.int c)) ?_
  rw[← hg,show((c.natAbs:Nat):Int)=c by have:=hc rfl;omega]
noncomputable def chI(t b:Int):Bool:=(decide (1≤b)&&decide (b≤1000))&&((decide (0≤t)&&decide (t≤b))&&(((Int.gcd t b:Nat):Int) == 1))
noncomputable def chP:D→D→Bool
 |.int t,.int b=>chI t b
 |_,_=>false
noncomputable def chD:D→Bool
 |.tup [d,e]=>chP d e
 |_=>false
theorem c81{t u:Int}(h:¬ (1≤u∧u≤1000∧0≤t∧t≤u)):false=chI t u:=by
 unfold chI
 refine Eq.symm ?_
 rw[Bool.eq_false_iff]
 intro q
 rw[Bool.and_eq_true,Bool.and_eq_true,Bool.and_eq_true,Bool.and_eq_true,decide_eq_true_eq,decide_eq_true_eq,decide_eq_true_eq,decide_eq_true_eq] at q
 exact h ⟨q.1.1,q.1.2,q.2.1.1,q.2.1.2⟩
theorem x20(k:Nat)(x:D)(z:Z):b10 T (k + 4) r20 [.d x] z=some (.ok (.d (.bl (chD x))) z):=by
 refine W.ok (i00 (ps:=1) (ns:=3) (b:=r40) rfl rfl (by decide) ?_)
 cases x with
 |tup l =>
  match l with
  |[a,b] =>
   refine Wo (m10 k a z) ?_
   cases a with
   |int t =>
    refine Wo (m10 k b z) ?_
    cases b with
    |int u =>
     refine ib (b:=decide (1≤u)) (λh1=>ib (b:=!decide (u≤1000)) (λh2=>?_) λh2=>ib (b:=decide (0≤t)) (λh3=>ib (b:=!decide (t≤u)) (λh4=>?_) λh4=>?_) λh3=>?_) λh1=>?_
     ·exact sb (c81 λq=>by rw[Bool.not_eq_true',decide_eq_false_iff_not] at h2;exact h2 q.2.1)
     ·exact sb (c81 λq=>by rw[Bool.not_eq_true',decide_eq_false_iff_not] at h4;exact h4 q.2.2.2)
     ·rw[Bool.not_eq_false',decide_eq_true_eq] at h2 h4
      rw[decide_eq_true_eq] at h1 h3
      refine Wo (k50 k t u z (by omega) (u10 (by omega))) (sb (show(((Int.gcd t u:Nat):Int) == 1)=chI t u from ?_))
      unfold chI
      rw[decide_eq_true h1,decide_eq_true h2,decide_eq_true h3,decide_eq_true h4];rfl
     ·exact sb (c81 λq=>by rw[decide_eq_false_iff_not] at h3;exact h3 q.2.2.1)
     ·exact sb (c81 λq=>by rw[decide_eq_false_iff_not] at h1;exact h1 q.1)
    |_=>exact sb rfl
   |_=>exact sb rfl
  |[]=>exact sb rfl
  |[_]=>exact sb rfl
  |_::_::_::_=>exact sb rfl
 |_=>exact sb rfl
noncomputable def i42(n:Nat):D→Bool
 |.tup l=>(l.length == n)&&l.all chD
 |_=>false
theorem t71{x:D}(h:D71 x=true):∃ m ts,x=.tup [.int m,.tup ts]∧1≤m∧m≤6∧ts.length≤8∧(∀ t∈ts,t31 t m=true)∧P80 ts=true:=by
 cases x with
 |tup l =>
  match l,h with
  |[a,t],h =>
   unfold D71 u92 at h
   cases a with
   |int m =>
    rw[Bool.and_eq_true,Bool.and_eq_true,decide_eq_true_eq,decide_eq_true_eq] at h
    obtain⟨h1,h2,h3⟩:=h
    unfold P90 at h3
    cases t with
    |tup ts =>
     rw[Bool.and_eq_true,Bool.and_eq_true,decide_eq_true_eq,List.all_eq_true] at h3
     exact⟨m,ts,rfl,h1,h2,h3.1,h3.2.1,h3.2.2⟩
    |_=>cases h3
   |_=>cases h
 |_=>cases h
theorem D30(k:Nat){m:Int}{ts:List D}(hw:D71 (.tup [.int m,.tup ts])=true)(x:D)(z:Z):b10 T (k + 9) t70 [.d (.tup [.int m,.tup ts]),.d x] z=some (.ok (.d (.bl (i42 ts.length x))) z):=by
 obtain⟨m',ts',e,_,_,h8,_⟩:=t71 hw
 cases e
 refine W.ok (i00 (ps:=2) (ns:=2) (b:=l60) rfl rfl (by decide) (Wo (x10 k z hw) ?_))
 cases x with
 |tup l =>
  have e:((l.length:Int) == (ts.length:Int))=(l.length == ts.length):=by rw[Bool.eq_iff_iff,beq_iff_eq,beq_iff_eq];omega
  refine ib (b:=!((l.length:Int) == (ts.length:Int))) (λh=>?_) λh=>?_
  ·rw[e,Bool.not_eq_true'] at h
   exact sb (show false=((l.length == ts.length)&&_) by rw[h];rfl)
  ·rw[e,Bool.not_eq_false'] at h
   refine ip (y30 (by rw[beq_iff_eq] at h;omega)) (i41 (λx=>.bl (chD x)) (λx _=>Wo (x20 (k + 4) x z) ⟨rfl,rfl⟩) (a00 (F10 l chD) ?_ :))
   exact sb (b:=l.all chD) (show _=((l.length == ts.length)&&l.all chD) by rw[h];rfl)
 |_=>exact sb rfl
theorem d70(k:Nat){m:Int}{ts:List D}(hw:D71 (.tup [.int m,.tup ts])=true){x:D}(z:Z)(h:i42 ts.length x=true):b10 T (k + 10) d00 [.d (.tup [.int m,.tup ts]),.d x] z=some (.ok (.d .non) z) :=
 W.ok (i00 (ps:=2) (ns:=2) (b:=h50) rfl rfl (by decide) (Wo (D30 k hw x z) (ie (b:=!i42 ts.length x) (by rw[h];rfl) (sd rfl))))
set_option exponentiation.threshold 5000
noncomputable def ZI(z:Z):Prop:=∃ n b,z=some (n,b)∧0≤n∧(b=false→n < 2147483647)
theorem V31{T:List Df}{k f ps ns:Nat}{b:Sm}{l:List S}{z:Z}{Q:S→Z→Prop}{E:Nat→Z→Prop}(hz:ZI z)(h:T[f]?=some (.code ps ns b))(hl:l.length=ps)(hn:ps≤ns)(q:WS (U00 T (k + 2)) false b (start ns (l.map plS)) z (λo z1=>match o with
  |.nx _=>Q (.d .non) z1
  |.rt s=>Q s z1) E):W (b10 T (k + 3) f l) z Q E:=by
 obtain⟨n,c,rfl,_⟩:=hz
 refine i00 h hl hn (q.mono (λo z1 h=>?_) λ_ _ h=>h)
 cases o <;> exact h
theorem t81{a:Int}{n:Nat}(h:a.natAbs < n)(hn:n≤2 ^ 64:=by decide):a.natAbs < E00:=Nat.lt_of_lt_of_le h (Nat.le_trans hn (by decide))
theorem t91{i j:Int}(hi:i.natAbs < 2 ^ 64)(hj:j.natAbs < 2 ^ 64):y60 .mul (.int i) (.int j)=some (.d (.int (i * j))):=by
 show(if i.natAbs < E00∧j.natAbs < E00 then some (S.d (.int (i * j))) else none)=_
 rw[if_pos ⟨t81 hi,t81 hj⟩]
theorem v02{i j:Int}(hj:0 < j)(hb:j.natAbs < 2 ^ 64):y60 .fdiv (.int i) (.int j)=some (.d (.int (i / j))):=by
 show(if 0 < j∧j.natAbs < E00 then some (S.d (.int (i / j))) else none)=_
 rw[if_pos ⟨hj,t81 hb⟩]
noncomputable def Drawn(m:Int)(s:S)(z1:Z):Prop:=ZI z1∧∃ r:Nat,s=.d (.int r)∧(r:Int) < m
theorem g40(k:Nat)(m:Int){z:Z}(hz:ZI z)(m0:0 < m)(m1:m < 2 ^ 32):W (b10 T (k + 3) a90 [.z,.d (.int m)]) z (Drawn m) NE:=by
 have fin:∀ (a:Int) (z1:Z),ZI z1→Drawn m (.d (.int (a % m))) z1:=λa z1 h=>by
  have h0:=Int.emod_nonneg a (show m≠0 by omega)
  exact⟨h,(a % m).toNat,by rw[Int.toNat_of_nonneg h0],by rw[Int.toNat_of_nonneg h0];exact Int.emod_lt_of_pos _ m0⟩
 refine V31 hz (ps:=2) (ns:=4) (b:=r70) rfl rfl (by decide) ?_
 obtain⟨n,b,rfl,n0,n1⟩:=hz
 cases b with
 |true =>
  refine(a00 (D81 (i:=n) m0) ?_ :)
  refine(a00 (v02 (i:=n) m0 (by omega)) ?_ :)
  exact fin n _ ⟨n / m,true,rfl,Int.ediv_nonneg n0 (by omega),λh=>nomatch h⟩
 |false =>
  have n1:=n1 rfl
  have e1:∀ a:Int,0≤a % 2147483647∧a % 2147483647 < 2147483647:=λa=>⟨Int.emod_nonneg _ (by decide),Int.emod_lt_of_pos _ (by decide)⟩
  have e2:∀ a:Int,0≤a % 2147483629∧a % 2147483629 < 2147483629:=λa=>⟨Int.emod_nonneg _ (by decide),Int.emod_lt_of_pos _ (by decide)⟩
  have s1:∀ a:Int,(a % 2147483647).natAbs < 2 ^ 64:=λa=>by have:=e1 a;omega
  have s2:∀ a:Int,(a % 2147483629).natAbs < 2 ^ 64:=λa=>by have:=e2 a;omega
  refine(a00 (t91 (i:=n) (j:=48271) (by omega) (by decide)) ?_ :)
  have a1:=e1 (n * 48271 + 29)
  refine(a00 (t91 (s1 (n * 48271 + 29)) (s1 (n * 48271 + 29))) ?_ :)
  refine(a00 (t91 (i:=39373) (by decide) (s1 (n * 48271 + 29))) ?_ :)
  refine(a00 (t91 (s2 _) (s2 _)) ?_ :)
  refine(a00 (t91 (i:=16807) (by decide) (s2 _)) ?_ :)
  refine(a00 (D81 m0) ?_ :)
  exact fin _ _ ⟨_,false,rfl,a1.1,λ_=>a1.2⟩
theorem h51(k:Nat)(ns:List Int)(j:Nat)(z:Z):∃ c:Int,b10 T (k + 3) q20 [.d (.lst (ns.map D.int)),.d (.int j)] z=some (.ok (.d (.int c)) z):=by
 by_cases h:j < ns.length
 ·refine⟨ns[j],W.ok (i00 (ps:=2) (ns:=2) (b:=f20) rfl rfl (by decide) (it (b:=decide ((j:Int) < ((ns.map D.int).length:Int))) (by simp[h]) ?_))⟩
  refine(a00 (o:=L30 (.lst (ns.map D.int)) (.int j)) (L2.S90 (v:=.int ns[j]) (by simp[h])) ?_ :)
  exact sd rfl
 ·exact⟨0,W.ok (i00 (ps:=2) (ns:=2) (b:=f20) rfl rfl (by decide) (ie (b:=decide ((j:Int) < ((ns.map D.int).length:Int))) (by simp;omega) (sd rfl)))⟩
theorem D91(k:Nat)(ns:List Int)(j:Nat)(z:Z):∃ (n:Int) (b:Bool),ZI (some (n,b))∧b10 T (k + 4) w90 [.d (.lst (ns.map D.int)),.d (.int j)] z=some (.ok (.fr [.int n,.bl b]) z):=by
 obtain⟨c,hc⟩:=h51 k ns j z
 by_cases h:(10 ^ 18:Int)≤c
 ·exact⟨c - 10 ^ 18,true,⟨_,_,rfl,by omega,λh=>nomatch h⟩,W.ok (i00 (ps:=2) (ns:=3) (b:=i10) rfl rfl (by decide) (Wo hc (it (b:=decide ((10 ^ 18:Int)≤c)) (decide_eq_true h) (sd rfl))))⟩
 ·refine⟨c % 2147483647,false,⟨_,_,rfl,Int.emod_nonneg _ (by decide),λ_=>Int.emod_lt_of_pos _ (by decide)⟩,W.ok (i00 (ps:=2) (ns:=3) (b:=i10) rfl rfl (by decide) (Wo hc (ie (b:=decide ((10 ^ 18:Int)≤c)) (decide_eq_false h) (sd rfl))))⟩
set_option exponentiation.threshold 5000
theorem Q10{m:Int}(h0:0≤m)(h1:m < 100000):itD .rng1 [.int m]=some ((List.range m.toNat).map λ(i:Nat)=>D.int i):=by
 show(if inR m=true then _ else none)=_
 rw[if_pos (A80.mpr ⟨by omega,h1⟩)]
theorem ne_nil{l:List D}(h:okD (.lst l)=true):y70 .ne (.lst l) (.lst [])=some (!l.isEmpty):=by
 show(eqO (.lst l) (.lst [])).map (!·)=_
 unfold eqO
 rw[h]
 cases l <;> rfl
theorem X10:∀ l:List Int,f60 (l.map D.int)=true∧i50 (l.map D.int)=0
 |[]=>⟨rfl,rfl⟩
 |x::r=>by
  obtain⟨h1,h2⟩:=X10 r
  refine⟨h1,?_⟩
  show Nat.max 0 (i50 (r.map D.int))=0
  rw[h2];rfl
theorem u01(l:List Int):okD (.lst (l.map D.int))=true:=by
 obtain⟨h1,h2⟩:=X10 l
 show(f60 (l.map D.int)&&decide (i50 (l.map D.int) + 1≤40))=true
 rw[h1,h2];rfl
theorem c91(n:Nat):(List.range n).map (λ(i:Nat)=>D.int i)=((List.range n).map λ(i:Nat)=>(i:Int)).map D.int:=by
 rw[List.map_map];rfl
theorem x30{α β:Type}(f:α→β):∀ (l:List α) (i:Nat),(l.map f).eraseIdx i=(l.eraseIdx i).map f
 |[],_=>rfl
 |x::r,0=>rfl
 |x::r,i + 1=>congrArg (f x::·) (x30 f r i)
theorem F20{α:Type}:∀ (l:List α) (j:Nat) (h:j < l.length),(l[j]::l.eraseIdx j).Perm l
 |x::r,0,_=>.refl _
 |x::r,j + 1,h=>(List.Perm.swap _ _ _).trans ((F20 r j (Nat.lt_of_succ_lt_succ h)).cons x)
theorem w00{l:List Int}{j:Nat}(h:j < l.length):(l.map D.int)[j]?=some (.int l[j]):=by rw[List.getElem?_map,List.getElem?_eq_getElem h];rfl
theorem X20{l:List D}{j:Nat}{x:D}(h:l[j]?=some x):L30 (.lst l) (.int j)=some x:=L2.S90 h
theorem X30{l:List D}{j:Nat}{x:D}(h:l[j]?=some x):L30 (.tup l) (.int j)=some x:=L2.S90 h
theorem S51(k:Nat){m:Int}{z:Z}(hz:ZI z)(m0:1≤m)(m1:m≤100):W (b10 T (k + 4) x00 [.z,.d (.int m)]) z (λs z1=>ZI z1∧∃ l:List Int,s=.d (.tup (l.map D.int))∧(l.length:Int)=m∧(∀ x∈l,0≤x∧x < m)∧l.Nodup) NE:=by
 refine V31 hz (ps:=2) (ns:=4) (b:=o30) rfl rfl (by decide) ?_
 refine(a00 (o:=lrD [.int m]) (Q10 (by omega) (by omega)) ?_ :)
 refine S41 (λn ρ z1=>ZI z1∧∃ left found:List Int,ρ=[some .z,some (.d (.int m)),some (.fr (left.map D.int)),some (.fr (found.map D.int))]∧n=left.length∧(left++found).Nodup∧(∀ x∈left++found,0≤x∧x < m)∧((left.length + found.length:Nat):Int)=m) m.toNat ?_ (by show m.toNat < 20000;omega) ?_
 ·refine⟨hz,(List.range m.toNat).map λ(i:Nat)=>(i:Int),[],?_,by simp,?_,?_,by simp;omega⟩
  ·rw[← c91];rfl
  ·rw[List.append_nil]
   exact List.pairwise_map.mpr (List.nodup_range.imp λh e=>h (Int.ofNat_inj.mp e))
  ·intro x hx
   rw[List.append_nil] at hx
   obtain⟨i,hi,rfl⟩:=List.mem_map.mp hx
   have:=List.mem_range.mp hi
   omega
 ·rintro n ρ z1 ⟨hz1,left,found,rfl,rfl,nd,hm,hl⟩
  refine(a00 (ne_nil (u01 left)) ?_ :)
  cases left with
  |nil=>exact⟨hz1,found,rfl,by simpa using hl,λx hx=>hm x (by simpa using hx),by simpa using nd⟩
  |cons x r =>
   have hl2:((r.length + 1 + found.length:Nat):Int)=m:=by simpa using hl
   refine(g40 k (((x::r).map D.int).length:Int) hz1 (by simp only[List.length_map,List.length_cons];omega) (by simp only[List.length_map,List.length_cons];omega)).imp λs z2 ⟨hz2,j,e,v1⟩=>?_
   subst e
   have hj:j < (x::r).length:=by simp only[List.length_map] at v1;omega
   have hget:((x::r).map D.int)[j]?=some (.int ((x::r)[j])):=w00 hj
   have ha:n31 [some .z,some (.d (.int m)),some (.fr ((x::r).map D.int)),some (.fr (found.map D.int))] 3 2 (found.map D.int) ((x::r).map D.int) j=some (.nx [some .z,some (.d (.int m)),some (.fr (((x::r).map D.int).eraseIdx j)),some (.fr (found.map D.int++[.int ((x::r)[j])]))]):=by
    unfold n31
    rw[if_pos ⟨by decide,by omega,A80.mpr (by simp only[List.length_cons] at hj;omega),by rw[List.length_map];simp only[most];omega⟩,Int.toNat_natCast,hget]
    rfl
   refine a00 (o:=(pl [S.d (.int j)]).bind asI) (a:=(j:Int)) rfl (a00 ha ?_)
   refine⟨((x::r).eraseIdx j).length,?_,hz2,(x::r).eraseIdx j,found++[(x::r)[j]],?_,rfl,?_,?_,?_⟩
   ·rw[List.length_eraseIdx_of_lt hj];simp
   ·rw[x30,List.map_append];rfl
   ·have hp:(((x::r).eraseIdx j)++(found++[(x::r)[j]])).Perm ((x::r)++found):=by
     have h1:((x::r)[j]::(x::r).eraseIdx j).Perm (x::r):=F20 _ _ hj
     have h2:(((x::r).eraseIdx j)++(found++[(x::r)[j]])).Perm ((x::r)[j]::((x::r).eraseIdx j++found)):=by
      rw[← List.append_assoc]
      exact List.perm_append_singleton _ _
     exact h2.trans (h1.append_right found)
    exact hp.nodup_iff.mpr nd
   ·intro y hy
    refine hm y ?_
    simp only[List.mem_append,List.mem_singleton] at hy ⊢
    rcases hy with hy | hy | hy
    ·exact .inl (List.mem_of_mem_eraseIdx hy)
    ·exact .inr hy
    ·exact .inl (by rw[hy];exact List.getElem_mem hj)
   ·rw[List.length_eraseIdx_of_lt hj,List.length_append]
    simp only[List.length_cons,List.length_nil] at hl ⊢
    omega
noncomputable def pr(p:Int × Int):D:=.tup [.int p.1,.int p.2]
noncomputable def ky(p:Int × Int):List Int:=[p.1,p.2]
theorem F92(a b c d:Int):MySort.i40 [a,b] [c,d]=if a=c then(if b=d then false else decide (b < d)) else decide (a < c):=rfl
noncomputable def Ch:List (Int × Int)→Prop
 |a::b::r=>HT.leB (ky a) (ky b)=true∧Ch (b::r)
 |_=>True
theorem d01{p q:Int × Int}(h:MySort.i40 (ky p) (ky q)=true):HT.leB (ky p) (ky q)=true:=by
 unfold HT.leB
 unfold ky at h ⊢
 rw[F92] at h ⊢
 by_cases h1:p.1=q.1
 ·rw[if_pos h1] at h
  rw[if_pos h1.symm]
  by_cases h2:p.2=q.2
  ·rw[if_pos h2] at h;cases h
  ·rw[if_neg h2] at h
   rw[if_neg (Ne.symm h2)]
   simp only[decide_eq_true_eq] at h
   simp;omega
 ·rw[if_neg h1] at h
  rw[if_neg (Ne.symm h1)]
  simp only[decide_eq_true_eq] at h
  simp;omega
noncomputable def x11(k:Int × Int):List (Int × Int)→List (Int × Int)
 |[]=>[k]
 |y::r=>if MySort.i40 (ky y) (ky k) then y::x11 k r else k::y::r
noncomputable def u11:List (Int × Int)→List (Int × Int)
 |[]=>[]
 |k::r=>x11 k (u11 r)
theorem Q20(k:Int × Int):∀ l,(x11 k l).Perm (k::l)
 |[]=>.refl _
 |y::r=>by
  unfold x11
  split
  ·exact((Q20 k r).cons y).trans (.swap _ _ _)
  ·exact .refl _
theorem F30:∀ l,(u11 l).Perm l
 |[]=>.refl _
 |k::r=>(Q20 k _).trans ((F30 r).cons k)
theorem u21(k:Int × Int):∀ l,Ch l→Ch (x11 k l)
 |[],_=>trivial
 |[y],_=>by
  unfold x11
  split
  ·rename_i h;exact⟨d01 h,trivial⟩
  ·rename_i h
   refine⟨?_,trivial⟩
   unfold HT.leB
   simpa using h
 |y::x::r,h=>by
  obtain⟨h1,h2⟩:=h
  have ih:=u21 k (x::r) h2
  unfold x11
  split
  ·rename_i hy
   unfold x11 at ih ⊢
   split at ih
   ·rename_i hx
    rw[if_pos hx]
    exact⟨h1,ih⟩
   ·rename_i hx
    rw[if_neg hx]
    exact⟨d01 hy,ih⟩
  ·rename_i hy
   refine⟨?_,h1,h2⟩
   unfold HT.leB
   simpa using hy
theorem d11:∀ l,Ch (u11 l)
 |[]=>trivial
 |k::r=>u21 k _ (d11 r)
theorem d21(k:Int × Int):∀ l:List (Int × Int),B21 (pr k) (l.map pr)=(x11 k l).map pr
 |[]=>rfl
 |y::r=>by
  unfold x11
  show(if MySort.i40 (ky y) (ky k) then pr y::B21 (pr k) (r.map pr) else pr k::pr y::r.map pr)=_
  split
  ·rw[d21 k r];rfl
  ·rfl
theorem Q30:∀ l:List (Int × Int),H80 (l.map pr)=(u11 l).map pr
 |[]=>rfl
 |k::r=>by
  show B21 (pr k) (H80 (r.map pr))=_
  rw[Q30 r,d21];rfl
theorem v12(p q:Int × Int):ltD (pr p) (pr q)=some (MySort.i40 (ky p) (ky q)):=by
 show(if (p.1 == q.1)=true then(if (p.2 == q.2)=true then some false else some (decide (p.2 < q.2))) else some (decide (p.1 < q.1)))=some (if p.1=q.1 then(if p.2=q.2 then false else decide (p.2 < q.2)) else decide (p.1 < q.1))
 simp only[beq_iff_eq]
 split
 ·split <;> rfl
 ·rfl
theorem S61(p q:Int × Int):s80 (pr p) (pr q)=true:=by
 unfold s80
 rw[v12]
 show(true&&((some (MySort.i40 (ky p) (ky q)) == some (MySort.i40 (ky p) (ky q)))&&(((p.1 == q.1)&&((p.2 == q.2)&&true)) || !([p.1,p.2] == [q.1,q.2]))))=true
 rw[beq_self_eq_true,Bool.true_and,Bool.true_and,Bool.and_true]
 by_cases h1:p.1=q.1 <;> by_cases h2:p.2=q.2 <;> simp[h1,h2]
theorem u31(l:List (Int × Int)):w60 (l.map pr)=true:=by
 refine List.all_eq_true.mpr λx hx=>?_
 obtain⟨p,_,rfl⟩:=List.mem_map.mp hx
 show(true&&(true&&(l.map pr).all (s80 (pr p))))=true
 refine List.all_eq_true.mpr λy hy=>?_
 obtain⟨q,_,rfl⟩:=List.mem_map.mp hy
 exact S61 p q
theorem u41{l:List (Int × Int)}(h:l.length < 64):bfD .sorted [.lst (l.map pr)]=some (.fr ((u11 l).map pr)):=by
 show(if (l.map pr).length < 64∧w60 (l.map pr)=true then some (S.fr (H80 (l.map pr))) else(w72 (l.map pr)).map S.fr)=_
 rw[if_pos ⟨by rw[List.length_map];exact h,u31 l⟩,Q30]
theorem d31:∀ {l:List (Int × Int)},Ch l→P80 (l.map pr)=true
 |[],_=>rfl
 |[_],_=>rfl
 |a::b::r,h=>by
  have ih:=d31 h.2
  show((y80 (pr a::pr b::r.map pr) (pr b::r.map pr)).all leD)=true
  have e:y80 (pr a::pr b::r.map pr) (pr b::r.map pr)=.tup [pr a,pr b]::y80 (pr b::r.map pr) (r.map pr):=rfl
  rw[e,List.all_cons,Bool.and_eq_true]
  exact⟨h.1,ih⟩
theorem z50:∀ l:List (Int × Int),q90 (l.map pr)=true
 |[]=>rfl
 |_::r=>by
  show(bare _&&q90 (r.map pr))=true
  rw[z50 r];rfl
theorem i52:∀ l:List (Int × Int),f60 (l.map pr)=true∧i50 (l.map pr)≤1
 |[]=>⟨rfl,by decide⟩
 |p::r=>by
  obtain⟨h1,h2⟩:=i52 r
  refine⟨?_,?_⟩
  ·show(w50 (pr p)&&f60 (r.map pr))=true
   rw[h1];rfl
  ·show Nat.max (deep (pr p)) (i50 (r.map pr))≤1
   have:deep (pr p)=1:=rfl
   rw[this]
   exact Nat.max_le.mpr ⟨Nat.le_refl _,h2⟩
theorem u51(l:List (Int × Int)):okD (.lst (l.map pr))=true:=by
 obtain⟨h1,h2⟩:=i52 l
 unfold okD
 rw[Bool.and_eq_true,decide_eq_true_eq]
 refine⟨h1,?_⟩
 show i50 (l.map pr) + 1≤40
 omega
theorem u61(l:List (Int × Int)):okD (.tup (l.map pr))=true:=u51 l
noncomputable def S30(m:Int)(ps:List (Int × Int)):D:=.tup [.int m,.tup (ps.map pr)]
structure e00(m:Int)(ps:List (Int × Int)):Prop where
 m1:1≤m
 m6:m≤6
 len:ps.length≤8
 tie:∀ p∈ps,0≤p.1∧p.1 < p.2∧p.2 < m
 ch:Ch ps
theorem e00.web{m:Int}{ps:List (Int × Int)}(g:e00 m ps):D71 (S30 m ps)=true:=by
 unfold S30 D71 u92 P90
 simp only[Bool.and_eq_true,decide_eq_true_eq,List.all_eq_true,List.length_map]
 refine⟨g.m1,g.m6,g.len,λt ht=>?_,d31 g.ch⟩
 obtain⟨p,hp,rfl⟩:=List.mem_map.mp ht
 obtain⟨h1,h2,h3⟩:=g.tie p hp
 unfold pr t31 c00
 simp only[Bool.and_eq_true,decide_eq_true_eq]
 omega
set_option exponentiation.threshold 5000
noncomputable def OkP(m:Int)(p:Int × Int):Prop:=0≤p.1∧p.1 < m∧0≤p.2∧p.2 < m∧p.1≠p.2
theorem i62{i m:Int}(h1:0≤i)(hi:i < 100)(h0:-100 < m)(h:m < 100000):itD .rng2 [.int i,.int m]=some ((List.range (m - i).toNat).map λ(k:Nat)=>D.int (i + k)):=by
 show(if inR i=true∧inR m=true then _ else none)=_
 rw[if_pos ⟨A80.mpr (by omega),A80.mpr (by omega)⟩]
theorem X40{L:List D}{n:Nat}(f:D→Bool)(h:n < L.length)(ha:L.all f=true):∃ x,L[n]?=some x∧f x=true :=
 ⟨L[n],List.getElem?_eq_getElem h,List.all_eq_true.mp ha _ (List.getElem_mem h)⟩
noncomputable def btw(a b:Int):D→Bool
 |.int i=>decide (a≤i)&&decide (i≤b)
 |_=>false
theorem u71{a b:Int}{x:D}(h:btw a b x=true):∃ i,x=.int i∧a≤i∧i≤b:=by
 cases x with
 |int i =>
  unfold btw at h
  rw[Bool.and_eq_true,decide_eq_true_eq,decide_eq_true_eq] at h
  exact⟨i,rfl,h⟩
 |_=>cases h
theorem Q40{a b i:Int}(h1:a≤i)(h2:i≤b):btw a b (.int i)=true:=by
 show(decide (a≤i)&&decide (i≤b))=true
 rw[decide_eq_true h1,decide_eq_true h2];rfl
theorem I41{l:List Int}(nd:l.Nodup){i j:Nat}(hi:i < l.length)(hj:j < l.length)(h:i≠j):l[i]≠l[j]:=λe=>h ((List.getElem_inj nd).mp e)
theorem u81(l:List D){n:Int}(h:0≤n):cutD l none (some n)=l.take n.toNat:=by
 obtain⟨k,rfl⟩:=Int.eq_ofNat_of_zero_le h
 have h1:HT.sIx l.length l.length (some (k:Int))=min k l.length:=HT.j81 _ _ k
 unfold cutD
 rw[h1]
 show(l.drop 0).take (min k l.length - 0)=_
 rw[List.drop_zero,Nat.sub_zero,Int.toNat_natCast]
 rcases Nat.le_total k l.length with h | h
 ·rw[Nat.min_eq_left h]
 ·rw[Nat.min_eq_right h,List.take_length,List.take_of_length_le h]
theorem J60{m:Int}{ps:List (Int × Int)}{p:Int × Int}(h:∀ p∈ps,OkP m p)(hp:OkP m p):∀ q∈ps++[p],OkP m q:=λq hq=>by
 rcases List.mem_append.mp hq with hq | hq
 ·exact h q hq
 ·rw[List.mem_singleton.mp hq];exact hp
theorem V41{α:Type}{l:List α}{a:α}:(l++[a]).length=l.length + 1:=by rw[List.length_append];rfl
theorem I51(a b:Int):(if b < a then b else a)=min a b∧(if b > a then b else a)=max a b:=by
 constructor <;> (split <;> omega)
noncomputable abbrev S71(mo m:Int)(l:List Int)(wn:Nat)(ps:List (Int × Int))(o6 o7 o8 o9:Option S):Env:=[some .z,some (.d (.int mo)),some (.d (.int m)),some (.d (.tup (l.map D.int))),some (.d (.int wn)),some (.fr (ps.map pr)),o6,o7,o8,o9]
theorem d41{mo m:Int}{l:List Int}{wn:Nat}{ps:List (Int × Int)}{p:Int × Int}{o6 o7 o8 o9:Option S}:S71 mo m l wn (ps++[p]) o6 o7 o8 o9=[some .z,some (.d (.int mo)),some (.d (.int m)),some (.d (.tup (l.map D.int))),some (.d (.int wn)),some (.fr (ps.map pr++[pr p])),o6,o7,o8,o9]:=by rw[S71,List.map_append];rfl
theorem u91(k:Nat){mo:Int}{z:Z}(hz:ZI z)(h0:0≤mo)(h8:mo≤8):W (b10 T (k + 5) E90 [.z,.d (.int mo)]) z (λs z1=>ZI z1∧∃ m ps,s=.d (S30 m ps)∧e00 m ps∧(ps.length:Int)≤mo) NE:=by
 refine V31 hz (ps:=2) (ns:=10) (b:=v90) rfl rfl (by decide) ?_
 refine(g40 (k + 1) 8 hz (by decide) (by decide)).imp λs z1 ⟨hz1,n,e,hn⟩=>?_
 subst e
 obtain⟨x,ex,hx⟩:=X40 (L:=[D.int 5,.int 4,.int 6,.int 3,.int 4,.int 2,.int 6,.int 1]) (n:=n) (btw 1 6) (by simp only[List.length_cons,List.length_nil];omega) (by decide)
 obtain⟨m,rfl,m1,m6⟩:=u71 hx
 refine(a00 (X20 ex) ?_ :)
 refine(S51 k hz1 m1 (by omega)).imp λs z2 ⟨hz2,l,e,ll,lm,nd⟩=>?_
 subst e
 refine(g40 (k + 1) 6 hz2 (by decide) (by decide)).imp λs z3 ⟨hz3,wn,e,hw⟩=>?_
 subst e
 refine(a00 (i62 (i:=1) (m:=m) (by decide) (by decide) (by omega) (by omega)) ?_ :)
 have hll:1≤l.length:=by omega
 refine P50 (λxs ρ z=>ZI z∧(∀ x∈xs,∃ a:Nat,x=.int a∧1≤a∧(a:Int) < m)∧∃ (ps:List (Int × Int)) (o6:Option S),ρ=S71 mo m l wn ps o6 none none none∧(∀ p∈ps,OkP m p)∧ps.length + xs.length≤6) _ ⟨hz3,λx hx=>?_,[],none,rfl,(λp hp=>nomatch hp),by simp;omega⟩ ?_ ?_
 ·obtain⟨i,hi,rfl⟩:=List.mem_map.mp hx
  have:=List.mem_range.mp hi
  exact⟨1 + i,by rw[Int.natCast_add];rfl,by omega,by omega⟩
 ·rintro x r ρ z4 ⟨hz4,hx,ps,o6,rfl,hp,hl⟩
  obtain⟨an,rfl,a1,a2⟩:=hx x List.mem_cons_self
  obtain⟨y,ey,hy⟩:=X40 (L:=[D.int (an - 1),.int (an - 1),.int 0,.int ((an:Int) / 2),.int (an - 1),.int 0]) (n:=wn) (btw 0 (an - 1)) (by simp only[List.length_cons,List.length_nil];omega) (by
   simp only[List.all_cons,List.all_nil,Bool.and_true,Bool.and_eq_true]
   refine⟨Q40 ?_ ?_,Q40 ?_ ?_,Q40 ?_ ?_,Q40 ?_ ?_,Q40 ?_ ?_,Q40 ?_ ?_⟩ <;> omega)
  obtain⟨v,rfl,v0,v1⟩:=u71 hy
  obtain⟨v,rfl⟩:=Int.eq_ofNat_of_zero_le v0
  have ha:an < l.length:=by omega
  have hvl:v < l.length:=by omega
  refine(a00 (X30 (w00 ha)) ?_ :)
  refine(a00 (X20 ey) ?_ :)
  refine(a00 (X30 (w00 hvl)) ?_ :)
  refine ip ⟨rfl,by rw[List.length_map];simp only[most,List.length_cons] at hl ⊢;omega⟩ ?_
  have h1:=lm _ (List.getElem_mem ha)
  have h2:=lm _ (List.getElem_mem hvl)
  exact⟨hz4,λx hx'=>hx x (List.mem_cons_of_mem _ hx'),ps++[(l[an],l[v])],_,(d41 (p:=(l[an],l[v]))).symm,J60 hp ⟨h1.1,h1.2,h2.1,h2.2,I41 nd ha hvl (by omega)⟩,by rw[V41];simp only[List.length_cons] at hl;omega⟩
 ·rintro ρ z4 ⟨hz4,_,ps,o6,rfl,hp,hl⟩
  have hl':ps.length≤6:=hl
  refine S31 (λρ z5=>z5=z4∧∃ ps:List (Int × Int),ρ=S71 mo m l wn ps o6 none none none∧(∀ p∈ps,OkP m p)∧ps.length≤7) ?_ ?_
  ·refine ib (b:=(wn:Int) == 0) (λh1=>ib (b:=decide (2 < m)) (λh2=>?_) λh2=>⟨rfl,ps,rfl,hp,by omega⟩) λh1=>⟨rfl,ps,rfl,hp,by omega⟩
   rw[decide_eq_true_eq] at h2
   have i2:m.toNat - 1 < l.length:=by omega
   have e2:m - 1=((m.toNat - 1:Nat):Int):=by omega
   refine(a00 (X30 (j:=0) (w00 hll)) ?_ :)
   refine(a00 (o:=L30 (.tup (l.map D.int)) (.int (m - 1))) (a:=.int l[m.toNat - 1]) (by rw[e2];exact X30 (w00 i2)) ?_ :)
   refine ip ⟨rfl,by rw[List.length_map];simp only[most];omega⟩ ?_
   have h3:=lm _ (List.getElem_mem hll)
   have h4:=lm _ (List.getElem_mem i2)
   exact⟨rfl,ps++[(l[0],l[m.toNat - 1])],(d41 (p:=(l[0],l[m.toNat - 1]))).symm,J60 hp ⟨h3.1,h3.2,h4.1,h4.2,I41 nd hll i2 (by omega)⟩,by rw[V41];omega⟩
  ·rintro ρ z5 ⟨rfl,ps,rfl,hp,hl⟩
   refine S31 (λρ z6=>z6=z5∧∃ (ps:List (Int × Int)) (o6:Option S),ρ=S71 mo m l wn ps o6 none none none∧(∀ p∈ps,OkP m p)∧ps.length≤7) ?_ ?_
   ·refine ib (b:=(wn:Int) == 4) (λh1=>⟨rfl,ps.drop 1,D10 (g41 (.fr (cutD (ps.map pr) (some 1) none))) o6,?_,λp hp'=>hp p (List.mem_of_mem_drop hp'),by rw[List.length_drop];omega⟩) λh1=>⟨rfl,ps,o6,rfl,hp,hl⟩
    have e:(ps.drop 1).map pr=cutD (ps.map pr) (some 1) none:=by rw[List.map_drop];exact(u00 _ 1).symm
    exact Eq.symm (congrArg (λx=>[some S.z,some (.d (.int mo)),some (.d (.int m)),some (.d (.tup (l.map D.int))),some (.d (.int wn)),some (.fr x),D10 (g41 (.fr (cutD (ps.map pr) (some 1) none))) o6,none,none,none]) e)
   ·rintro ρ z6 ⟨rfl,ps,o6,rfl,hp,hl⟩
    refine(g40 (k + 1) 5 hz4 (by decide) (by decide)).imp λs z5 ⟨hz5,t,e,ht⟩=>?_
    subst e
    refine(a00 (Q10 (m:=t) (by omega) (by omega)) ?_ :)
    refine P50 (λxs ρ z=>ZI z∧∃ (ps:List (Int × Int)) (o6 o7 o8 o9:Option S),ρ=S71 mo m l wn ps o6 o7 o8 o9∧(∀ p∈ps,OkP m p)∧ps.length + xs.length≤11) _ ⟨hz5,ps,_,_,_,_,rfl,hp,by simp;omega⟩ ?_ ?_
    ·rintro x r ρ z2 ⟨hz2,ps,o6,o7,o8,o9,rfl,hp,hl⟩
     refine(g40 (k + 1) m hz2 (by omega) (by omega)).imp λs z3 ⟨hz3,a,e,a1⟩=>?_
     subst e
     refine(g40 (k + 1) m hz3 (by omega) (by omega)).imp λs z4 ⟨hz4,b,e,b1⟩=>?_
     subst e
     refine ib (b:=!((a:Int) == (b:Int))) (λhab=>?_) λhab=>⟨hz4,ps,_,_,_,_,rfl,hp,by simp only[List.length_cons] at hl;omega⟩
     refine ip ⟨rfl,by rw[List.length_map];simp only[most,List.length_cons] at hl ⊢;omega⟩ ?_
     exact⟨hz4,ps++[((a:Int),(b:Int))],_,_,_,_,(d41 (p:=((a:Int),(b:Int)))).symm,J60 hp ⟨by omega,a1,by omega,b1,by simpa using hab⟩,by rw[V41];simp only[List.length_cons] at hl;omega⟩
    ·rintro ρ z2 ⟨hz2,ps,o6,o7,o8,o9,rfl,hp,hl⟩
     refine S31 (λρ z3=>ZI z3∧∃ ps:List (Int × Int),ρ=S71 mo m l wn ps o6 o7 o8 o9∧(∀ p∈ps,OkP m p)∧ps.length≤12) ?_ ?_
     ·have hl:ps.length≤11:=hl
      refine(a00 (ne_nil (u51 ps)) ?_ :)
      cases ps with
      |nil=>exact⟨hz2,[],rfl,hp,by simp⟩
      |cons p r =>
       refine(g40 (k + 1) 3 hz2 (by decide) (by decide)).imp λs z3 ⟨hz3,a,e,a1⟩=>?_
       subst e
       refine ib (b:=(a:Int) == 0) (λha=>?_) λha=>⟨hz3,p::r,rfl,hp,by omega⟩
       have hll:(((p::r).map pr).length:Int)=((p::r).length:Nat):=by rw[List.length_map]
       refine(g40 (k + 1) (((p::r).map pr).length:Int) hz3 (by rw[hll];simp only[List.length_cons];omega) (by rw[hll];omega)).imp λs z4 ⟨hz4,j,e,b1⟩=>?_
       subst e
       have hj:j < (p::r).length:=by rw[hll] at b1;omega
       refine(a00 (X20 (l:=(p::r).map pr) (x:=pr (p::r)[j]) (by rw[List.getElem?_map,List.getElem?_eq_getElem hj];rfl)) ?_ :)
       refine ip ⟨rfl,by rw[List.length_map];simp only[most];omega⟩ ?_
       exact⟨hz4,(p::r)++[(p::r)[j]],(d41 (p:=(p::r)[j])).symm,J60 hp (hp _ (List.getElem_mem hj)),by rw[V41];omega⟩
     ·rintro ρ z3 ⟨hz3,ps,rfl,hp,hl⟩
      have e1:cutD (ps.map pr) none (some mo)=(ps.take mo.toNat).map pr:=by rw[u81 _ h0,List.map_take]
      have mm:(cutD (ps.map pr) none (some mo)).map (λx=>match x with | .tup [.int a,.int b]=>pr (min a b,max a b) | x=>x)=((ps.take mo.toNat).map λp=>(min p.1 p.2,max p.1 p.2)).map pr:=by
       rw[e1,List.map_map,List.map_map];rfl
      refine ip (c:=(cutD (ps.map pr) none (some mo)).length≤most) (by rw[e1,List.length_map,List.length_take];simp only[most];omega) (i41 (λx=>match x with | .tup [.int a,.int b]=>pr (min a b,max a b) | x=>x) (λd hd=>?_) ?_)
      ·rw[e1] at hd
       obtain⟨p,hp',rfl⟩:=List.mem_map.mp hd
       exact⟨by show D.tup [.int _,.int _]=pr (min p.1 p.2,max p.1 p.2);rw[(I51 p.1 p.2).1,(I51 p.1 p.2).2];rfl,rfl⟩
      ·rw[mm]
       refine(a00 (u41 (l:=(ps.take mo.toNat).map λp=>(min p.1 p.2,max p.1 p.2)) (by rw[List.length_map,List.length_take];omega)) ?_ :)
       have hperm:=F30 ((ps.take mo.toNat).map λp=>(min p.1 p.2,max p.1 p.2))
       have hlen:=hperm.length_eq
       rw[List.length_map,List.length_take] at hlen
       refine⟨hz3,m,_,rfl,⟨m1,m6,by omega,λq hq=>?_,d11 _⟩,by omega⟩
       obtain⟨p,hp',rfl⟩:=List.mem_map.mp (hperm.mem_iff.mp hq)
       obtain⟨a0,a1,b0,b1,hab⟩:=hp p (List.mem_of_mem_take hp')
       dsimp only
       omega
set_option exponentiation.threshold 5000
theorem E01{i j:Int}(hj:0 < j)(hb:big j):y60 .fdiv (.int i) (.int j)=some (.d (.int (i / j))):=by
 show(if 0 < j∧j.natAbs < E00 then some (S.d (.int (i / j))) else none)=_
 rw[if_pos ⟨hj,X00 (by omega) hb⟩]
theorem i72{i j:Int}(i0:0≤i)(hi:big i)(j0:0≤j)(hj:big j):y60 .mul (.int i) (.int j)=some (.d (.int (i * j))):=by
 show(if i.natAbs < E00∧j.natAbs < E00 then some (S.d (.int (i * j))) else none)=_
 rw[if_pos ⟨X00 i0 hi,X00 j0 hj⟩]
theorem o40{t b:Int}(h:0 < b):0 < ((Int.gcd t b:Nat):Int):=by
 have:=Int.gcd_pos_of_ne_zero_right (a:=t) (b:=b) (by omega)
 omega
theorem J70{t b:Int}(h:0 < b)(hb:big b):big (Int.gcd t b:Int):=Int.lt_of_le_of_lt (Int.le_of_dvd h (Int.gcd_dvd_right t b)) hb
noncomputable def i60(t b:Int):Int × Int:=(t / Int.gcd t b,b / Int.gcd t b)
theorem Q50(k:Nat)(t b:Int)(z:Z)(h0:0 < b)(h1:big b):b10 T (k + 4) J00 [.d (.int t),.d (.int b)] z=some (.ok (.d (pr (i60 t b))) z):=by
 refine W.ok (i00 (ps:=2) (ns:=3) (b:=J10) rfl rfl (by decide) (Wo (k50 k t b z h0 h1) ?_))
 refine(a00 (E01 (i:=t) (o40 (t:=t) h0) (J70 h0 h1)) ?_ :)
 refine(a00 (E01 (i:=b) (o40 (t:=t) h0) (J70 h0 h1)) ?_ :)
 exact sd rfl
theorem w10(k:Nat)(t b:Int)(z:Z)(h0:0 < b)(h1:big b):b10 T (k + 3) f10 [.d (.int t),.d (.int b)] z=some (.ok (.d (pr (i60 t b))) z):=by
 refine W.ok (i00 (ps:=2) (ns:=4) (b:=j30) rfl rfl (by decide) (S41 (λn ρ z1=>z1=z∧∃ c d:Int,ρ=[some (.d (.int t)),some (.d (.int b)),some (.d (.int c)),some (.d (.int d))]∧GT n c d∧Int.gcd c d=Int.gcd t b∧(d=0→0≤c)) (2 * 4000 + 1) ⟨rfl,_,b,rfl,⟨Int.le_of_lt h0,.inl ⟨4000,rfl,h1⟩⟩,?_,λh=>by omega⟩ (by decide) ?_))
 ·show Int.gcd (if t < 0 then -t else t) b=_
  split
  ·rw[Int.neg_gcd]
  ·rfl
 ·rintro n ρ z1 ⟨rfl,c,d,rfl,g,hg,hc⟩
  refine ib (b:=!(d == 0)) (λhd=>?_) λhd=>?_
  ·rw[Bool.not_eq_true',beq_eq_false_iff_ne] at hd
   have hd':0 < d:=by have:=g.1;omega
   obtain⟨m,hm,g'⟩:=g.step hd'
   refine(a00 (D81 (i:=c) hd') ?_ :)
   exact⟨m,hm,rfl,d,c % d,rfl,g',(t61 c d).trans hg,λ_=>Int.le_of_lt hd'⟩
  ·rw[Bool.not_eq_false',beq_iff_eq] at hd
   subst hd
   rw[Int.gcd_zero_right] at hg
   have e:c=((Int.gcd t b:Nat):Int):=by have:=hc rfl;omega
   subst e
   refine(a00 (E01 (i:=t) (o40 (t:=t) h0) (J70 h0 h1)) ?_ :)
   refine(a00 (E01 (i:=b) (o40 (t:=t) h0) (J70 h0 h1)) ?_ :)
   exact sd rfl
structure Bd(n:Nat)(c:Int × Int):Prop where
 t0:0≤c.1
 tb:c.1≤c.2
 b0:0 < c.2
 bb:c.2≤2 ^ n
theorem X50{n:Nat}(h:n≤3999){i:Int}(hi:i≤2 ^ n):big i:=by
 refine Int.lt_of_le_of_lt hi ?_
 have h2:(2:Nat) ^ n < 2 ^ 4000:=Nat.pow_lt_pow_right (by decide) (by omega)
 have e:((2 ^ n:Nat):Int) < ((2 ^ 4000:Nat):Int):=Int.ofNat_lt.mpr h2
 rwa [Int.natCast_pow,Int.natCast_pow] at e
theorem J80{t b:Int}(h0:0 < b):t=Int.gcd t b * (i60 t b).1∧b=Int.gcd t b * (i60 t b).2:=by
 constructor
 ·exact(Int.mul_ediv_cancel' (Int.gcd_dvd_left t b)).symm
 ·exact(Int.mul_ediv_cancel' (Int.gcd_dvd_right t b)).symm
theorem X60{t b:Int}(h0:0 < b):Int.gcd (i60 t b).1 (i60 t b).2=1:=Int.gcd_ediv_gcd_ediv_gcd_of_ne_zero_right (by omega)
theorem w20{t b:Int}(h0:0 < b):0 < (i60 t b).2:=by
 have g0:=o40 (t:=t) h0
 obtain⟨_,e⟩:=J80 (t:=t) h0
 refine Int.pos_of_mul_pos_right (a:=Int.gcd t b) ?_ g0
 omega
theorem S81{t b:Int}(h0:0 < b)(h1:0≤t)(h2:t≤b):0≤(i60 t b).1∧(i60 t b).1≤(i60 t b).2∧(i60 t b).2≤b:=by
 have g0:=o40 (t:=t) h0
 have p0:=w20 (t:=t) h0
 obtain⟨e1,e2⟩:=J80 (t:=t) h0
 refine⟨Int.ediv_nonneg h1 (Int.le_of_lt g0),Int.le_of_mul_le_mul_left (a:=Int.gcd t b) (by omega) g0,?_⟩
 have:1 * (i60 t b).2≤(Int.gcd t b:Int) * (i60 t b).2:=Int.mul_le_mul_of_nonneg_right (by omega) (by omega)
 omega
theorem v01{a b d:Int}(h:Int.gcd a b=1)(hd:b∣a * d):b∣d:=by
 have h1:Nat.Coprime b.natAbs a.natAbs:=by rw[Nat.coprime_comm];exact h
 exact Int.natAbs_dvd_natAbs.mp (h1.dvd_of_dvd_mul_left (by rw[← Int.natAbs_mul];exact Int.natAbs_dvd_natAbs.mpr hd))
theorem h61{a b c d:Int}(hb:0 < b)(hd:0 < d)(h1:Int.gcd a b=1)(h2:Int.gcd c d=1)(h:a * d=c * b):a=c∧b=d:=by
 have k1:b∣d:=v01 h1 ⟨c,by rw[h,Int.mul_comm]⟩
 have k2:d∣b:=v01 h2 ⟨a,by rw[← h,Int.mul_comm]⟩
 have e:b=d:=Int.le_antisymm (Int.le_of_dvd hd k1) (Int.le_of_dvd hb k2)
 subst e
 exact⟨Int.eq_of_mul_eq_mul_right (by omega) h,rfl⟩
noncomputable def IsC(c:Int × Int):Prop:=1≤c.2∧c.2≤1000∧0≤c.1∧c.1≤c.2∧Int.gcd c.1 c.2=1
theorem IsC.ch{c:Int × Int}(h:IsC c):chD (pr c)=true:=by
 obtain⟨h1,h2,h3,h4,h5⟩:=h
 show chI c.1 c.2=true
 unfold chI
 rw[h5,decide_eq_true h1,decide_eq_true h2,decide_eq_true h3,decide_eq_true h4];rfl
theorem S91{t b:Int}(h0:0 < b)(hb:b≤1000)(h1:0≤t)(h2:t≤b):IsC (i60 t b):=by
 obtain⟨y0,yx,xb⟩:=S81 h0 h1 h2
 have:=w20 (t:=t) h0
 exact⟨by omega,by omega,y0,yx,X60 h0⟩
theorem x40(k:Nat){z:Z}(hz:ZI z):W (b10 T (k + 4) l40 [.z]) z (λs z1=>ZI z1∧∃ c,s=.d (pr c)∧IsC c) NE:=by
 refine V31 hz (ps:=1) (ns:=3) (b:=m00) rfl rfl (by decide) ?_
 refine(g40 k 8 hz (by decide) (by decide)).imp λs z1 ⟨hz1,v,e,v1⟩=>?_
 subst e
 refine ib (b:=decide ((v:Int) < 2)) (λh2=>?_) λh2=>?_
 ·rw[decide_eq_true_eq] at h2
  have:v=0∨v=1:=by omega
  rcases this with rfl | rfl
  ·exact⟨hz1,(0,1),rfl,by decide,by decide,by decide,by decide,by decide⟩
  ·exact⟨hz1,(1,1),rfl,by decide,by decide,by decide,by decide,by decide⟩
 ·rw[decide_eq_false_iff_not] at h2
  refine(g40 k 12 hz1 (by decide) (by decide)).imp λs z2 ⟨hz2,a,e,a1⟩=>?_
  subst e
  refine(g40 k 1000 hz2 (by decide) (by decide)).imp λs z3 ⟨hz3,b,e,b1⟩=>?_
  subst e
  obtain⟨x,ex,hx⟩:=X40 (L:=[D.int 2,.int 3,.int 4,.int (1 + a),.int (1 + b),.int 1000]) (n:=v - 2) (btw 1 1000) (by simp only[List.length_cons,List.length_nil];omega) (by
   simp only[List.all_cons,List.all_nil,Bool.and_true,Bool.and_eq_true]
   refine⟨rfl,rfl,rfl,Q40 ?_ ?_,Q40 ?_ ?_,rfl⟩ <;> omega)
  obtain⟨u,rfl,u1,u2⟩:=u71 hx
  have e2:(v:Int) - 2=((v - 2:Nat):Int):=by omega
  refine(a00 (o:=L30 (.lst [D.int 2,.int 3,.int 4,.int (1 + a),.int (1 + b),.int 1000]) (.int ((v:Int) - 2))) (a:=.int u) (by rw[e2];exact X20 ex) ?_ :)
  refine(g40 k (u + 1) hz3 (by omega) (by omega)).imp λs z4 ⟨hz4,t,e,t1⟩=>?_
  subst e
  exact Wo (w10 k _ _ _ (by omega) (u10 (by omega))) ⟨hz4,i60 t u,rfl,S91 (by omega) u2 (by omega) (by omega)⟩
theorem Q60{P:Int × Int→Prop}:∀ {xs ys:List D},PySem.Paired (λ_ y=>∃ c,y=pr c∧P c) xs ys→∃ cs:List (Int × Int),ys=cs.map pr∧cs.length=xs.length∧∀ c∈cs,P c
 |[],_,h=>by cases h;exact⟨[],rfl,rfl,λc hc=>nomatch hc⟩
 |x::r,_,h=>by
  cases h with
  |cons h1 h2 =>
   obtain⟨c,rfl,hc⟩:=h1
   obtain⟨cs,rfl,hl,ha⟩:=Q60 h2
   refine⟨c::cs,rfl,by rw[List.length_cons,hl];rfl,λd hd=>?_⟩
   rcases List.mem_cons.mp hd with rfl | hd
   ·exact hc
   ·exact ha d hd
theorem J90(k:Nat){m:Int}{ts:List D}{z:Z}(hz:ZI z)(hl:ts.length≤8):W (b10 T (k + 5) q30 [.z,.d (.tup [.int m,.tup ts])]) z (λs z1=>ZI z1∧∃ cs:List (Int × Int),s=.d (.tup (cs.map pr))∧cs.length=ts.length∧∀ c∈cs,IsC c) NE:=by
 refine V31 hz (ps:=2) (ns:=2) (b:=j40) rfl rfl (by decide) (ip (y30 (by omega)) (F72 (I:=ZI) (P:=λ_ y=>∃ c,y=pr c∧IsC c) hz (λx hx z1 hz1=>?_) λys z1 hz1 hp=>?_))
 ·refine(x40 k hz1).imp λs z2 ⟨hz2,c,e,hc⟩=>?_
  subst e
  exact⟨hz2,c,rfl,hc⟩
 ·obtain⟨cs,rfl,hl,ha⟩:=Q60 hp
  exact⟨hz1,cs,rfl,hl,ha⟩
theorem d51{cs:List (Int × Int)}{n:Nat}(h:cs.length=n)(ha:∀ c∈cs,IsC c):i42 n (.tup (cs.map pr))=true:=by
 unfold i42
 rw[Bool.and_eq_true,beq_iff_eq,List.length_map,List.all_eq_true]
 refine⟨h,λd hd=>?_⟩
 obtain⟨c,hc,rfl⟩:=List.mem_map.mp hd
 exact(ha c hc).ch
set_option exponentiation.threshold 5000
noncomputable def ltP:D→Bool
 |.tup [.int a,.int b]=>decide (a < b)
 |_=>false
noncomputable def v21(l:List D):Bool:=(y80 l (l.drop 1)).all ltP
noncomputable def x72(m:Int):D→Bool
 |.tup l=>(l.all (λx=>c00 x m)&&v21 l)&&!l.isEmpty
 |_=>false
noncomputable def short:D→Bool
 |.tup l=>decide (l.length≤1000)
 |_=>true
theorem E11(k:Nat){m:Int}{l:List D}(h:∀ x∈l,c00 x m=true)(hl:l.length≤1000)(z:Z):b10 T (k + 3) s81 [.d (.tup l)] z=some (.ok (.d (.bl (v21 l))) z):=by
 have e1:cutD l (some 1) none=l.drop 1:=u00 l 1
 refine W.ok (i00 (ps:=1) (ns:=1) (b:=W50) rfl rfl (by decide) (ip (c:=(y80 l (cutD l (some 1) none)).length≤most) (Nat.le_trans (J50 _ _) (y30 hl)) (i41 (λx=>.bl (ltP x)) (λx hx=>?_) (a00 (F10 _ ltP) ?_ :))))
 ·obtain⟨u,hu,v,hv,rfl⟩:=W80 hx
  rw[e1] at hv
  obtain⟨i,rfl,_⟩:=k40 (h u hu)
  obtain⟨j,rfl,_⟩:=k40 (h v (List.mem_of_mem_drop hv))
  exact⟨rfl,rfl⟩
 ·exact sb (b:=(y80 l (cutD l (some 1) none)).all ltP) (by rw[e1];rfl)
theorem Q70(k:Nat){x:D}(m:Int)(hs:short x=true)(z:Z):b10 T (k + 5) k30 [.d x,.d (.int m)] z=some (.ok (.d (.bl (match x with | .tup l=>l.all (λx=>c00 x m)&&v21 l | _=>false))) z):=by
 refine W.ok (i00 (ps:=2) (ns:=2) (b:=e90) rfl rfl (by decide) ?_)
 cases x with
 |tup l =>
  have hl:l.length≤1000:=of_decide_eq_true hs
  refine ip (y30 hl) (i41 (λx=>.bl (c00 x m)) (λx _=>Wo (m20 k x m z) ⟨rfl,rfl⟩) (a00 (F10 l λx=>c00 x m) ?_ :))
  refine ib (b:=l.all λx=>c00 x m) (λh=>?_) λh=>sb (show false=(l.all (λx=>c00 x m)&&v21 l) by rw[h];rfl)
  exact Wo (E11 (k + 1) (List.all_eq_true.mp h) hl z) (sb (show v21 l=(l.all (λx=>c00 x m)&&v21 l) by rw[h];rfl))
 |_=>exact sb rfl
theorem d20(k:Nat){m:Int}{t x:D}(z:Z)(h:x72 m x=true)(hs:short x=true):b10 T (k + 6) c60 [.d (.tup [.int m,t]),.d x] z=some (.ok (.d .non) z):=by
 refine W.ok (i00 (ps:=2) (ns:=2) (b:=j00) rfl rfl (by decide) (Wo (Q70 k m hs z) ?_))
 cases x with
 |tup l =>
  have h:((l.all (λx=>c00 x m)&&v21 l)&&!l.isEmpty)=true:=h
  rw[Bool.and_eq_true] at h
  refine ie (b:=!(l.all (λx=>c00 x m)&&v21 l)) (by rw[h.1];rfl) ?_
  cases l with
  |nil=>cases h.2
  |cons y r=>exact sd rfl
 |_=>cases h
noncomputable def f00(n:Nat):D:=.int n
structure d40(m:Int)(l:List Nat):Prop where
 ne:l≠[]
 up:l.Pairwise (· < ·)
 lt:∀ p∈l,(p:Int) < m
theorem I61:∀ {l:List Nat},l.Pairwise (· < ·)→v21 (l.map f00)=true
 |[],_=>rfl
 |[_],_=>rfl
 |a::b::r,h=>by
  have ih:=I61 (List.Pairwise.of_cons h)
  show(decide ((a:Int) < (b:Int))&&v21 ((b::r).map f00))=true
  rw[ih,decide_eq_true (by have:=(List.pairwise_cons.mp h).1 b List.mem_cons_self;omega)];rfl
theorem d40.pls{m:Int}{l:List Nat}(g:d40 m l):x72 m (.tup (l.map f00))=true:=by
 show(((l.map f00).all (λx=>c00 x m)&&v21 (l.map f00))&&!(l.map f00).isEmpty)=true
 rw[I61 g.up,Bool.and_true,Bool.and_eq_true]
 refine⟨List.all_eq_true.mpr λx hx=>?_,?_⟩
 ·obtain⟨p,hp,rfl⟩:=List.mem_map.mp hx
  have:=g.lt p hp
  show(decide (0≤(p:Int))&&decide ((p:Int) < m))=true
  rw[decide_eq_true this,decide_eq_true (by omega)];rfl
 ·cases l with
  |nil=>exact absurd rfl g.ne
  |cons _ _=>rfl
theorem d40.len{m:Int}{l:List Nat}(g:d40 m l)(h6:m≤6):l.length≤6:=by
 have:l.Sublist (List.range 6):=by
  have e:l=(List.range 6).filter λx=>l.contains x:=by
   refine List.Perm.eq_of_pairwise (le:=(· < ·)) ?_ g.up (List.Pairwise.filter _ List.pairwise_lt_range) ?_
   ·intro a b _ _ h1 h2;omega
   ·refine(List.perm_ext_iff_of_nodup (g.up.imp λh e=>by omega) (List.Pairwise.filter _ List.nodup_range)).mpr λa=>?_
    rw[List.mem_filter,List.mem_range,List.contains_iff_mem]
    exact⟨λh=>⟨by have:=g.lt a h;omega,h⟩,λh=>h.2⟩
  rw[e];exact List.filter_sublist
 simpa using this.length_le
set_option exponentiation.threshold 5000
theorem E21:∀ {ys:List D}{l:List Nat},ys.Sublist (l.map f00)→∃ l':List Nat,ys=l'.map f00∧l'.Sublist l:=λ{ys l} h=>by
 obtain⟨l',h1,h2⟩:=List.sublist_map_iff.mp h
 exact⟨l',h2,h1⟩
theorem T01(n:Nat):((List.range n).map λ(i:Nat)=>D.int i)=(List.range n).map f00:=rfl
theorem Q80(k:Nat){m:Int}{t:D}(m1:1≤m)(m6:m≤6){z:Z}(hz:ZI z):W (b10 T (k + 4) t90 [.z,.d (.tup [.int m,t])]) z (λs z1=>ZI z1∧∃ l,s=.d (.tup (l.map f00))∧d40 m l) NE:=by
 refine V31 hz (ps:=2) (ns:=3) (b:=l90) rfl rfl (by decide) ?_
 refine(a00 (Q10 (m:=m) (by omega) (by omega)) ?_ :)
 refine ip (by rw[List.length_map,List.length_range];simp only[most];omega) (i02 (I:=ZI) (λx=>x) hz (λx hx z1 hz1=>?_) λys z1 hz1 hs=>?_)
 ·refine(g40 k 2 hz1 (by decide) (by decide)).imp λs z2 ⟨hz2,a,e,a1⟩=>?_
  subst e
  exact⟨hz2,(a:Int) == 0,rfl,λ_=>⟨rfl,rfl⟩⟩
 ·rw[List.map_id',T01] at hs
  obtain⟨l,rfl,hl⟩:=E21 hs
  have up:l.Pairwise (· < ·):=List.Pairwise.sublist hl List.pairwise_lt_range
  have lt:∀ p∈l,(p:Int) < m:=λp hp=>by have:=List.mem_range.mp (hl.mem hp);omega
  have g1:∀ p:Nat,(p:Int) < m→d40 m [p]:=λp hp=>⟨by simp,.cons (λ_ h=>nomatch h) .nil,λq hq=>by rw[List.mem_singleton.mp hq];exact hp⟩
  have g2:d40 m (List.range m.toNat):=⟨by intro h;have:=congrArg List.length h;rw[List.length_range] at this;simp at this;omega,List.pairwise_lt_range,λp hp=>by have:=List.mem_range.mp hp;omega⟩
  have fin:∀ (L:List D) (v:Nat) (z2:Z),L.length=3→v < 3→ZI z2→(∀ x∈L,∃ l,x=.tup (l.map f00)∧d40 m l)→∃ x,L30 (.lst L) (.int v)=some x∧(ZI z2∧∃ l,S.d x=.d (.tup (l.map f00))∧d40 m l):=λL v z2 h3 hv hz2 h=>by
   have hlt:v < L.length:=by omega
   obtain⟨l,e,g⟩:=h _ (List.getElem_mem hlt)
   exact⟨L[v],X20 (List.getElem?_eq_getElem hlt),hz2,l,by rw[e],g⟩
  have e1:(m - 1)=((m.toNat - 1:Nat):Int):=by omega
  cases l with
  |nil =>
   refine(a00 (Q10 (m:=m) (by omega) (by omega)) ?_ :)
   refine(g40 k 3 hz1 (by decide) (by decide)).imp λs z2 ⟨hz2,v,e,v1⟩=>?_
   subst e
   obtain⟨x,ex,q⟩:=fin [.tup [.int 0],.tup ((List.range m.toNat).map λ(i:Nat)=>D.int i),.tup [.int (m - 1)]] v z2 rfl (by omega) hz2 λx hx=>by
    simp only[List.mem_cons,List.not_mem_nil,or_false] at hx
    rcases hx with rfl | rfl | rfl
    ·exact⟨[0],rfl,g1 0 (by omega)⟩
    ·exact⟨_,rfl,g2⟩
    ·exact⟨[m.toNat - 1],by rw[e1];rfl,g1 _ (by omega)⟩
   refine(a00 ex ?_ :)
   exact q
  |cons p r =>
   refine(a00 (Q10 (m:=m) (by omega) (by omega)) ?_ :)
   refine(g40 k 3 hz1 (by decide) (by decide)).imp λs z2 ⟨hz2,v,e,v1⟩=>?_
   subst e
   obtain⟨x,ex,q⟩:=fin [.tup ((p::r).map f00),.tup ((List.range m.toNat).map λ(i:Nat)=>D.int i),.tup ((p::r).map f00)] v z2 rfl (by omega) hz2 λx hx=>by
    simp only[List.mem_cons,List.not_mem_nil,or_false] at hx
    rcases hx with rfl | rfl | rfl
    ·exact⟨_,rfl,by simp,up,lt⟩
    ·exact⟨_,rfl,g2⟩
    ·exact⟨_,rfl,by simp,up,lt⟩
   refine(a00 ex ?_ :)
   exact q
section
variable (ps:List (Int × Int))
noncomputable abbrev tA(n:Nat):Nat:=(ps.getD n (0,0)).1.toNat
noncomputable abbrev tB(n:Nat):Nat:=(ps.getD n (0,0)).2.toNat
noncomputable def r90(mk:List Int)(n:Nat):List Int:=mk.map λx=>if x=mk.getD (tB ps n) 0 then mk.getD (tA ps n) 0 else x
noncomputable def x50(m:Nat)(lot:List Nat):List Int:=lot.foldl (r90 ps) ((List.range m).map λ(i:Nat)=>(i:Int))
noncomputable def i82(mk:List Int)(pl:List Nat):Bool:=pl.all λp=>mk.getD p 0 == mk.getD (pl.getD 0 0) 0
noncomputable def k60(m:Nat)(pl lot:List Nat):Bool:=i82 (x50 ps m lot) pl
variable {ps}
theorem K00(mk:List Int)(n:Nat):(r90 ps mk n).length=mk.length:=List.length_map _
theorem step_get{mk:List Int}{n x:Nat}(h:x < mk.length):(r90 ps mk n).getD x 0=if mk.getD x 0=mk.getD (tB ps n) 0 then mk.getD (tA ps n) 0 else mk.getD x 0:=by
 unfold r90
 rw[List.getD_eq_getElem?_getD,List.getElem?_map,List.getElem?_eq_getElem h]
 simp[List.getD_eq_getElem?_getD,List.getElem?_eq_getElem h]
theorem v31{m:Nat}{lot:List Nat}:(x50 ps m lot).length=m:=by
 unfold x50
 have:∀ (l:List Nat) (mk:List Int),(l.foldl (r90 ps) mk).length=mk.length:=by
  intro l
  induction l with
  |nil=>intro mk;rfl
  |cons n r ih=>intro mk;rw[List.foldl_cons,ih,K00]
 rw[this];simp
theorem h71{m:Nat}(hr:∀ n < ps.length,tA ps n < m∧tB ps n < m):∀ (lot:List Nat) (mk:List Int),mk.length=m→(∀ n∈lot,n < ps.length) →
  (∀ x y,x < m→y < m→mk.getD x 0=mk.getD y 0→(lot.foldl (r90 ps) mk).getD x 0=(lot.foldl (r90 ps) mk).getD y 0)∧(∀ n∈lot,(lot.foldl (r90 ps) mk).getD (tA ps n) 0=(lot.foldl (r90 ps) mk).getD (tB ps n) 0) ∧
  ∀ f:Nat→Int,(∀ x y,x < m→y < m→mk.getD x 0=mk.getD y 0→f x=f y)→(∀ n∈lot,f (tA ps n)=f (tB ps n))→∀ x y,x < m→y < m→(lot.foldl (r90 ps) mk).getD x 0=(lot.foldl (r90 ps) mk).getD y 0→f x=f y:=by
 intro lot
 induction lot with
 |nil=>exact λmk _ _=>⟨λ_ _ _ _ h=>h,(λ_ h=>nomatch h),λf h _=>h⟩
 |cons n r ih =>
  intro mk hl hn
  obtain⟨ha,hb⟩:=hr n (hn n List.mem_cons_self)
  obtain⟨i1,i2,i3⟩:=ih (r90 ps mk n) (by rw[K00];exact hl) λk hk=>hn k (List.mem_cons_of_mem _ hk)
  have st:∀ x,x < m→(r90 ps mk n).getD x 0=if mk.getD x 0=mk.getD (tB ps n) 0 then mk.getD (tA ps n) 0 else mk.getD x 0:=λx hx=>step_get (by omega)
  refine⟨λx y hx hy h=>i1 x y hx hy (by rw[st x hx,st y hy,h]),λk hk=>?_,λf h1 h2=>?_⟩
  ·rcases List.mem_cons.mp hk with rfl | hk
   ·refine i1 _ _ ha hb ?_
    rw[st _ ha,st _ hb,if_pos rfl]
    split <;> rfl
   ·exact i2 k hk
  ·refine i3 f (λx y hx hy h=>?_) λk hk=>h2 k (List.mem_cons_of_mem _ hk)
   have e:=h2 n List.mem_cons_self
   rw[st x hx,st y hy] at h
   split at h
   ·rename_i hxb
    have fx:=h1 _ _ hx hb hxb
    split at h
    ·rename_i hyb
     rw[fx,h1 _ _ hy hb hyb]
    ·rw[fx,← e];exact h1 _ _ ha hy h
   ·split at h
    ·rename_i hyb
     rw[h1 _ _ hy hb hyb,← e];exact h1 _ _ hx ha h
    ·exact h1 _ _ hx hy h
theorem Q90{m x:Nat}(h:x < m):(((List.range m).map λ(i:Nat)=>(i:Int))).getD x 0=(x:Int):=by
 rw[List.getD_eq_getElem?_getD,List.getElem?_map,List.getElem?_range h];rfl
theorem d61{m:Nat}(hr:∀ n < ps.length,tA ps n < m∧tB ps n < m){pl lot:List Nat}(hp:∀ p∈pl,p < m)(hl:∀ n∈lot,n < ps.length):k60 ps m pl lot=true↔∀ f:Nat→Int,(∀ n∈lot,f (tA ps n)=f (tB ps n))→∀ p∈pl,f p=f (pl.getD 0 0):=by
 obtain⟨_,h2,h3⟩:=h71 hr lot ((List.range m).map λ(i:Nat)=>(i:Int)) (by simp) hl
 unfold k60 i82
 rw[List.all_eq_true]
 have h0:∀ p∈pl,pl.getD 0 0 < m:=λp hp'=>by
  cases pl with
  |nil=>cases hp'
  |cons q r=>exact hp q List.mem_cons_self
 constructor
 ·intro h f hf p hp'
  refine h3 f (λx y hx hy e=>?_) hf p _ (hp p hp') (h0 p hp') (beq_iff_eq.mp (h p hp'))
  rw[Q90 hx,Q90 hy] at e
  rw[Int.ofNat_inj.mp e]
 ·intro h p hp'
  rw[beq_iff_eq]
  exact h (λx=>(x50 ps m lot).getD x 0) h2 p hp'
theorem good_mono{m:Nat}(hr:∀ n < ps.length,tA ps n < m∧tB ps n < m){pl a b:List Nat}(hp:∀ p∈pl,p < m)(hb:∀ n∈b,n < ps.length)(hab:∀ n∈a,n∈b)(h:k60 ps m pl a=true):k60 ps m pl b=true :=
 (d61 hr hp hb).mpr λf hf=>(d61 hr hp λn hn=>hb n (hab n hn)).mp h f λn hn=>hf n (hab n hn)
end
section
variable (g:List Nat→Bool) (c:Nat→Int × Int)
noncomputable def tot:List Nat→List Nat→Int
 |[],h=>if g h then 1 else 0
 |n::r,h=>(c n).1 * tot r (n::h) + ((c n).2 - (c n).1) * tot r h
noncomputable def L50(ns:List Nat):Int:=(ns.map λn=>(c n).2).foldr (· * ·) 1
variable {g c}
theorem e50(n:Nat)(r:List Nat):L50 c (n::r)=(c n).2 * L50 c r:=rfl
theorem v41{a b:List Nat}(h:a.Perm b):L50 c a=L50 c b:=by
 induction h with
 |nil=>rfl
 |cons x _ ih=>rw[e50,e50,ih]
 |swap x y l=>rw[e50,e50,e50,e50,← Int.mul_assoc,← Int.mul_assoc,Int.mul_comm (c y).2]
 |trans _ _ h1 h2=>rw[h1,h2]
noncomputable def k72(N:Nat)(g:List Nat→Bool):Prop:=∀ a b:List Nat,(∀ n∈a,n < N)→(∀ n∈b,n < N)→(∀ n,n∈a↔n∈b)→g a=g b
theorem K10{N:Nat}(hg:k72 N g):∀ (ns a b:List Nat),(∀ n∈ns,n < N)→(∀ n∈a,n < N)→(∀ n∈b,n < N)→(∀ n,n∈a↔n∈b)→tot g c ns a=tot g c ns b
 |[],a,b,_,ha,hb,h=>by unfold tot;rw[hg a b ha hb h]
 |n::r,a,b,hn,ha,hb,h=>by
  have hr:∀ k∈r,k < N:=λk hk=>hn k (List.mem_cons_of_mem _ hk)
  have hc:∀ {l:List Nat},(∀ n∈l,n < N)→∀ k∈n::l,k < N:=λhl k hk=>by
   rcases List.mem_cons.mp hk with rfl | hk
   ·exact hn _ List.mem_cons_self
   ·exact hl k hk
  unfold tot
  rw[K10 hg r a b hr ha hb h,K10 hg r (n::a) (n::b) hr (hc ha) (hc hb) λk=>by rw[List.mem_cons,List.mem_cons,h k]]
theorem d71{N:Nat}(hg:k72 N g){a b:List Nat}(h:a.Perm b):∀ held:List Nat,(∀ n∈a,n < N)→(∀ n∈held,n < N)→tot g c a held=tot g c b held:=by
 induction h with
 |nil=>exact λ_ _ _=>rfl
 |cons x h ih =>
  intro held ha hh
  have hr:=λk hk=>ha k (List.mem_cons_of_mem _ hk)
  unfold tot
  rw[ih held hr hh,ih (x::held) hr λk hk=>by
   rcases List.mem_cons.mp hk with rfl | hk
   ·exact ha _ List.mem_cons_self
   ·exact hh k hk]
 |swap x y l =>
  intro held ha hh
  have hl:∀ k∈l,k < N:=λk hk=>ha k (List.mem_cons_of_mem _ (List.mem_cons_of_mem _ hk))
  have hx:=ha x (List.mem_cons_of_mem _ List.mem_cons_self)
  have hy:=ha y List.mem_cons_self
  have hxy:∀ k∈[x,y]++held,k < N:=λk hk=>by
   simp only[List.cons_append,List.nil_append,List.mem_cons] at hk
   rcases hk with rfl | rfl | hk
   ·exact hx
   ·exact hy
   ·exact hh k hk
  have e:=K10 (c:=c) hg l (x::y::held) (y::x::held) hl hxy (λk hk=>hxy k (by simp only[List.cons_append,List.nil_append,List.mem_cons] at hk ⊢;rcases hk with h | h | h <;> simp[h])) λk=>by simp only[List.mem_cons];constructor <;> (rintro (h | h | h) <;> simp[h])
  simp only[tot]
  rw[e]
  generalize tot g c l (y::x::held)=t1
  generalize tot g c l (y::held)=t2
  generalize tot g c l (x::held)=t3
  generalize tot g c l held=t4
  generalize (c x).1=p
  generalize (c x).2=q
  generalize (c y).1=u
  generalize (c y).2=v
  grind
 |trans h1 h2 i1 i2=>exact λheld ha hh=>(i1 held ha hh).trans (i2 held (λk hk=>ha k (h1.mem_iff.mpr hk)) hh)
noncomputable def j50:Nat→List (List Nat)
 |0=>[[]]
 |j + 1=>j50 j++(j50 j).map (·++[j])
noncomputable def amt(c:Nat→Int × Int)(j:Nat)(lot:List Nat):Int:=(List.range j).foldl (λa n=>a * (if n∈lot then(c n).1 else(c n).2 - (c n).1)) 1
theorem p40{j:Nat}{lot:List Nat}:amt c (j + 1) lot=amt c j lot * (if j∈lot then(c j).1 else(c j).2 - (c j).1):=by
 unfold amt
 rw[List.range_succ,List.foldl_append];rfl
theorem T11{j k:Nat}{lot:List Nat}(h:j≤k):amt c j (lot++[k])=amt c j lot:=by
 induction j with
 |zero=>rfl
 |succ j ih =>
  rw[p40,p40,ih (by omega)]
  have:j∈lot++[k]↔j∈lot:=by rw[List.mem_append,List.mem_singleton];constructor <;> (intro h;first | (rcases h with h | h;exact h;omega) | exact .inl h)
  simp only[this]
theorem C40:∀ {j:Nat}{lot:List Nat},lot∈j50 j→∀ n∈lot,n < j
 |0,lot,h,n,hn=>by rw[List.mem_singleton.mp h] at hn;cases hn
 |j + 1,lot,h,n,hn=>by
  rcases List.mem_append.mp h with h | h
  ·exact Nat.lt_succ_of_lt (C40 h n hn)
  ·obtain⟨l,hl,rfl⟩:=List.mem_map.mp h
   rcases List.mem_append.mp hn with hn | hn
   ·exact Nat.lt_succ_of_lt (C40 hl n hn)
   ·rw[List.mem_singleton.mp hn];exact Nat.lt_succ_self j
noncomputable def desc:Nat→List Nat
 |0=>[]
 |j + 1=>j::desc j
noncomputable def D00(l:List (List Nat))(f:List Nat→Int):Int:=(l.map f).foldr (· + ·) 0
theorem E31{a b:List (List Nat)}{f:List Nat→Int}:D00 (a++b) f=D00 a f + D00 b f:=by
 unfold D00
 rw[List.map_append]
 induction a with
 |nil=>simp
 |cons x r ih=>simp only[List.map_cons,List.cons_append,List.foldr_cons,ih,Int.add_assoc]
theorem d81{a:List (List Nat)}{f:List Nat→Int}{k:Int}{h:List Nat→Int}(e:∀ x∈a,h x=k * f x):D00 a h=k * D00 a f:=by
 unfold D00
 induction a with
 |nil=>simp
 |cons x r ih=>simp only[List.map_cons,List.foldr_cons,ih λy hy=>e y (List.mem_cons_of_mem _ hy),e x List.mem_cons_self,Int.mul_add]
theorem E41{a:List (List Nat)}{f:List Nat→Int}{t:List Nat→List Nat}:D00 (a.map t) f=D00 a λx=>f (t x):=by
 unfold D00;rw[List.map_map];rfl
theorem K20{N:Nat}(hg:k72 N g):∀ (j:Nat) (held:List Nat),j≤N→(∀ n∈held,n < N)→D00 (j50 j) (λlot=>if g (lot++held) then amt c j lot else 0)=tot g c (desc j) held
 |0,held,_,_=>by
  show(if g ([]++held) then amt c 0 [] else 0) + 0=_
  rw[Int.add_zero];rfl
 |j + 1,held,hj,hh=>by
  have hc:∀ k∈j::held,k < N:=λk hk=>by
   rcases List.mem_cons.mp hk with rfl | hk
   ·omega
   ·exact hh k hk
  show D00 (j50 j++(j50 j).map (·++[j])) _=(c j).1 * tot g c (desc j) (j::held) + ((c j).2 - (c j).1) * tot g c (desc j) held
  rw[E31,E41,← K20 hg j held (by omega) hh,← K20 hg j (j::held) (by omega) hc,Int.add_comm]
  congr 1
  ·refine d81 λlot hl=>?_
   have lt:=C40 hl
   have e:g (lot++[j]++held)=g (lot++j::held):=by rw[List.append_assoc];rfl
   rw[e]
   split
   ·rw[p40,T11 (Nat.le_refl j),if_pos (by simp),Int.mul_comm]
   ·rw[Int.mul_zero]
  ·refine d81 λlot hl=>?_
   have lt:=C40 hl
   split
   ·rw[p40,if_neg (λh=>Nat.lt_irrefl _ (lt j h)),Int.mul_comm]
   ·rw[Int.mul_zero]
theorem R00:∀ n:Nat,(desc n).Perm (List.range n)
 |0=>.refl _
 |n + 1=>by
  rw[List.range_succ]
  exact((R00 n).cons n).trans (List.perm_append_singleton n (List.range n)).symm
end
set_option exponentiation.threshold 5000
theorem itE{it:It}{e:Ex}{l:List S}{ρ:Env}(h:N80 l=true):n21 it e l ρ=N90 it e l ρ:=by unfold n21;rw[h,a01];rfl
theorem F40:∀ l:List Nat,q90 (l.map f00)=true
 |[]=>rfl
 |_::r=>F40 r
structure Row(x:D)(lot:List Nat):Prop where
 sq:Z90 x=some (lot.map f00)
 br:N21 x=true
theorem Row.t(lot:List Nat):Row (.tup (lot.map f00)) lot:=⟨rfl,F40 lot⟩
theorem Row.ba{x:D}{lot:List Nat}(h:Row x lot):N80 [.d x]=true:=by
 show(N21 x&&true)=true
 rw[h.br];rfl
theorem v51{mk:List Int}{a:Int}(h0:0≤a)(h:a.toNat < mk.length):L30 (.lst (mk.map D.int)) (.int a)=some (.int (mk.getD a.toNat 0)):=by
 obtain⟨n,rfl⟩:=Int.eq_ofNat_of_zero_le h0
 rw[Int.toNat_natCast] at h ⊢
 rw[List.getD_eq_getElem?_getD,List.getElem?_eq_getElem h]
 exact X20 (w00 h)
theorem i92{ps:List (Int × Int)}{n:Nat}(h:n < ps.length):L30 (.tup (ps.map pr)) (.int n)=some (pr (ps.getD n (0,0))):=by
 rw[List.getD_eq_getElem?_getD,List.getElem?_eq_getElem h]
 exact X30 (by rw[List.getElem?_map,List.getElem?_eq_getElem h];rfl)
theorem getD_mem{ps:List (Int × Int)}{n:Nat}(h:n < ps.length):ps.getD n (0,0)∈ps:=by
 rw[List.getD_eq_getElem?_getD,List.getElem?_eq_getElem h];exact List.getElem_mem h
theorem e00.rng{m:Int}{ps:List (Int × Int)}(g:e00 m ps):∀ n < ps.length,tA ps n < m.toNat∧tB ps n < m.toNat:=λn hn=>by
 have:=g.tie _ (getD_mem hn)
 unfold tA tB
 omega
noncomputable def x82(a b:Int):D→D
 |.int v=>.int (if v=b then a else v)
 |x=>x
theorem T21{F:FT}{z:Z}{mk:List Int}(a b:Int){Q:List D→Z→Prop}{E:Nat→Z→Prop}(q:Q ((mk.map λx=>if x=b then a else x).map D.int) z):W (turns (p50 (ev F .nil) (ev F (.ite (.cmp .eq (.var 0) (.var 2)) (.var 1) (.var 0))) (.v 0) [none,some (.d (.int a)),some (.d (.int b))]) (mk.map D.int)) z Q E:=by
 refine i41 (x82 a b) (λx hx=>?_) ?_
 ·obtain⟨v,_,rfl⟩:=List.mem_map.mp hx
  refine ib (b:=v == b) (λh=>⟨?_,rfl⟩) λh=>⟨?_,rfl⟩
  ·show D.int a=.int (if v=b then a else v)
   rw[if_pos (beq_iff_eq.mp h)]
  ·show D.int v=.int (if v=b then a else v)
   rw[if_neg (by simpa using h)]
 ·have e:(mk.map D.int).map (x82 a b)=(mk.map λx=>if x=b then a else x).map D.int:=by rw[List.map_map,List.map_map];rfl
  rw[e];exact q
theorem X70(k:Nat){m:Int}{ps:List (Int × Int)}(g:e00 m ps){x:D}{lot:List Nat}(hx:Row x lot)(hl:∀ n∈lot,n < ps.length)(z:Z):b10 T (k + 3) E70 [.d (S30 m ps),.d x] z=some (.ok (.fr ((x50 ps m.toNat lot).map D.int)) z):=by
 have m6:=g.m6
 have m1:=g.m1
 refine W.ok (i00 (ps:=2) (ns:=10) (b:=v60) rfl rfl (by decide) ?_)
 refine(a00 (o:=lrD [.int m]) (Q10 (by omega) (by omega)) ?_ :)
 refine a00 (o:=Z90 x) hx.sq ?_
 refine P50 (λxs ρ z1=>z1=z∧∃ (rest:List Nat) (mk:List Int) (o5 o6 o7 o8 o9:Option S),xs=rest.map f00∧(∀ n∈rest,n < ps.length)∧mk.length=m.toNat∧rest.foldl (r90 ps) mk=x50 ps m.toNat lot∧ρ=[some (.d (S30 m ps)),some (.d x),some (.d (.int m)),some (.d (.tup (ps.map pr))),some (.fr (mk.map D.int)),o5,o6,o7,o8,o9]) _ ⟨rfl,lot,(List.range m.toNat).map λ(i:Nat)=>(i:Int),none,none,none,none,none,rfl,hl,by simp,rfl,(itE hx.ba).trans ?_⟩ ?_ ?_
 ·rw[← c91];rfl
 ·rintro y r ρ z1 ⟨rfl,rest,mk,o5,o6,o7,o8,o9,e,hr,hm,hf,rfl⟩
  cases rest with
  |nil=>cases e
  |cons n rest =>
   cases e
   have hn:=hr n List.mem_cons_self
   have ht:=g.tie _ (getD_mem hn)
   refine(a00 (i92 hn) ?_ :)
   refine(a00 (v51 (mk:=mk) ht.1 (by omega)) ?_ :)
   refine(a00 (v51 (mk:=mk) (a:=(ps.getD n (0,0)).2) (by omega) (by omega)) ?_ :)
   refine ip (by rw[List.length_map];simp only[most];omega) (T21 _ _ ?_)
   exact⟨rfl,rest,r90 ps mk n,_,_,_,_,_,rfl,λk hk=>hr k (List.mem_cons_of_mem _ hk),by rw[K00];exact hm,hf,rfl⟩
 ·rintro ρ z1 ⟨rfl,rest,mk,o5,o6,o7,o8,o9,e,hr,hm,hf,rfl⟩
  cases rest with
  |nil=>exact sd (by rw[← hf];rfl)
  |cons _ _=>cases e
set_option exponentiation.threshold 5000
section
variable {m:Int}{ps:List (Int × Int)}{pl lot:List Nat}
theorem j02{mk:List Int}{p:Nat}(h:p < mk.length):L30 (.lst (mk.map D.int)) (.int p)=some (.int (mk.getD p 0)):=v51 (a:=(p:Int)) (by omega) (by rw[Int.toNat_natCast];exact h)
theorem j12(h:pl≠[]):L30 (.tup (pl.map f00)) (.int 0)=some (f00 (pl.getD 0 0)):=by
 cases pl with
 |nil=>exact absurd rfl h
 |cons p r=>exact X30 (j:=0) rfl
theorem d40.p0(hp:d40 m pl):pl.getD 0 0 < m.toNat:=by
 have h:=hp.ne
 have h2:=hp.lt
 cases pl with
 |nil=>exact absurd rfl h
 |cons p r=>have:=h2 p List.mem_cons_self;show p < _;omega
noncomputable def eqM(mk:List Int)(p0:Nat):D→Bool
 |.int p=>mk.getD p.toNat 0 == mk.getD p0 0
 |_=>false
theorem T31{mk:List Int}{p0:Nat}(l:List Nat):(l.map f00).all (eqM mk p0)=l.all λp=>mk.getD p 0 == mk.getD p0 0:=by rw[List.all_map];rfl
theorem K30(k:Nat)(g:e00 m ps)(hp:d40 m pl){x:D}(hx:Row x lot)(hl:∀ n∈lot,n < ps.length)(z:Z):b10 T (k + 4) w70 [.d (S30 m ps),.d x,.d (.tup (pl.map f00))] z=some (.ok (.d (.bl (k60 ps m.toNat pl lot))) z):=by
 have hlen:=hp.len g.m6
 refine W.ok (i00 (ps:=3) (ns:=4) (b:=n80) rfl rfl (by decide) (Wo (X70 k g hx hl z) ?_))
 have ml:(x50 ps m.toNat lot).length=m.toNat:=v31
 generalize hmk:x50 ps m.toNat lot=mk at ml
 refine ip (by rw[List.length_map];simp only[most];omega) (i41 (λx=>.bl (eqM mk (pl.getD 0 0) x)) (λy hy=>?_) (a00 (F10 _ (eqM mk (pl.getD 0 0))) ?_ :))
 ·obtain⟨p,hp',rfl⟩:=List.mem_map.mp hy
  have:=hp.lt p hp'
  refine(a00 (j02 (mk:=mk) (p:=p) (by omega)) ?_ :)
  refine(a00 (j12 hp.ne) ?_ :)
  refine(a00 (j02 (mk:=mk) (by rw[ml];exact hp.p0)) ?_ :)
  exact⟨rfl,rfl⟩
 ·refine sb (b:=(pl.map f00).all (eqM mk (pl.getD 0 0))) ?_
  rw[T31,← hmk];rfl
end
set_option exponentiation.threshold 5000
noncomputable def s10(l:List Nat):D:=.tup (l.map f00)
theorem K40:∀ {j:Nat}{lot:List Nat},lot∈j50 j→lot.length≤j
 |0,lot,h=>by rw[List.mem_singleton.mp h];exact Nat.le_refl _
 |j + 1,lot,h=>by
  rcases List.mem_append.mp h with h | h
  ·exact Nat.le_succ_of_le (K40 h)
  ·obtain⟨l,hl,rfl⟩:=List.mem_map.mp h
   rw[V41];exact Nat.succ_le_succ (K40 hl)
theorem z60:∀ j:Nat,(j50 j).length=2 ^ j
 |0=>rfl
 |j + 1=>by
  show(j50 j++(j50 j).map (·++[j])).length=_
  rw[List.length_append,List.length_map,z60 j,Nat.pow_succ];omega
theorem v61{j:Nat}(h:j≤8):2 ^ j≤256:=Nat.pow_le_pow_right (n:=2) (by decide) h
theorem add_l{a b:List D}(h:a.length + b.length≤1000):y60 .add (.lst a) (.lst b)=some (.fr (a++b)):=by
 show(if a.length + b.length≤most then some (S.fr (a++b)) else none)=_
 rw[if_pos (y30 h)]
theorem T41{a b:List D}(h:a.length + b.length≤1000):y60 .add (.tup a) (.tup b)=some (.d (.tup (a++b))):=by
 show(if a.length + b.length≤most then some (S.d (.tup (a++b))) else none)=_
 rw[if_pos (y30 h)]
noncomputable def x92(j:Nat):D→D
 |.tup l=>.tup (l++[f00 j])
 |x=>x
theorem E51{j:Nat}:((j50 j).map s10).map (x92 j)=((j50 j).map (·++[j])).map s10:=by
 rw[List.map_map,List.map_map]
 refine List.map_congr_left λl _=>?_
 show D.tup (l.map f00++[f00 j])=.tup ((l++[j]).map f00)
 rw[List.map_append];rfl
theorem X80{n:Nat}(h:n < 100000):itD .rng1 [.int n]=some ((List.range' 0 n).map f00):=by
 rw[Q10 (by omega) (by omega),Int.toNat_natCast,List.range_eq_range'];rfl
noncomputable abbrev cf(cs:List (Int × Int))(n:Nat):Int × Int:=cs.getD n (0,1)
noncomputable def p80(cs:List (Int × Int)):Int:=(cs.map (·.2)).foldr (· * ·) 1
theorem T51{cs:List (Int × Int)}:L50 (cf cs) (List.range cs.length)=p80 cs:=by
 unfold L50 p80
 congr 1
 refine List.ext_getElem (by simp) λi h1 h2=>?_
 have hi:i < cs.length:=by simpa using h1
 simp[List.getD_eq_getElem?_getD,List.getElem?_eq_getElem hi]
theorem K50:∀ {cs:List (Int × Int)},(∀ c∈cs,IsC c)→0 < p80 cs∧p80 cs≤2 ^ (10 * cs.length)
 |[],_=>by decide
 |c::r,h=>by
  obtain⟨h1,h2⟩:=K50 λd hd=>h d (List.mem_cons_of_mem _ hd)
  obtain⟨c1,c2,_⟩:=h c List.mem_cons_self
  refine⟨Int.mul_pos (show(0:Int) < c.2 by omega) h1,?_⟩
  show c.2 * p80 r≤_
  rw[List.length_cons,Nat.mul_add,Int.pow_add,Int.mul_comm]
  exact Int.mul_le_mul h2 (by omega) (by omega) (by have:=Int.le_trans (Int.le_of_lt h1) h2;exact this)
theorem IsC.w{c:Int × Int}(h:IsC c)(b:Prop)[Decidable b]:0≤(if b then c.1 else c.2 - c.1)∧(if b then c.1 else c.2 - c.1)≤1000:=by
 obtain⟨c1,c2,c3,c4,_⟩:=h
 split <;> omega
theorem v71{cs:List (Int × Int)}(ha:∀ c∈cs,IsC c){n:Nat}(h:n < cs.length):IsC (cf cs n):=ha _ (by rw[cf,List.getD_eq_getElem?_getD,List.getElem?_eq_getElem h];exact List.getElem_mem h)
theorem I71{cs:List (Int × Int)}(ha:∀ c∈cs,IsC c){lot:List Nat}:∀ {j:Nat},j≤cs.length→0≤amt (cf cs) j lot∧amt (cf cs) j lot≤2 ^ (10 * j)
 |0,_=>by show(0:Int)≤1∧(1:Int)≤1;omega
 |j + 1,h=>by
  obtain⟨h1,h2⟩:=I71 (lot:=lot) ha (j:=j) (by omega)
  obtain⟨w1,w2⟩:=(v71 ha (n:=j) (by omega)).w (j∈lot)
  rw[p40]
  refine⟨Int.mul_nonneg h1 w1,?_⟩
  rw[Nat.mul_add,Int.pow_add]
  exact Int.mul_le_mul h2 (by omega) w1 (by have:=Int.le_trans h1 h2;exact this)
theorem d91(n:Nat):∀ l:List Nat,memD (f00 n) (l.map f00)=decide (n∈l)
 |[]=>rfl
 |x::r=>by
  show((x:Int) == (n:Int) || memD (f00 n) (r.map f00))=_
  rw[d91 n r,Bool.eq_iff_iff,Bool.or_eq_true,beq_iff_eq,decide_eq_true_eq,decide_eq_true_eq,List.mem_cons]
  constructor
  ·rintro (h | h)
   ·exact .inl (by omega)
   ·exact .inr h
  ·rintro (h | h)
   ·exact .inl (by omega)
   ·exact .inr h
theorem v81(l:List Nat):U51 (l.map f00)=true:=by
 have e:l.map f00=(l.map λ(n:Nat)=>(n:Int)).map D.int:=by rw[List.map_map];rfl
 obtain⟨h1,h2⟩:=X10 (l.map λ(n:Nat)=>(n:Int))
 unfold U51
 rw[e,h1,h2];rfl
theorem T61{n:Nat}{l:List Nat}:U61 (f00 n) (l.map f00)=some (decide (n∈l)):=by
 unfold U61
 rw[v81,d91];rfl
theorem j22{cs:List (Int × Int)}{n:Nat}(h:n < cs.length):L30 (.tup (cs.map pr)) (.int n)=some (pr (cf cs n)):=by
 rw[cf,List.getD_eq_getElem?_getD,List.getElem?_eq_getElem h]
 exact X30 (by rw[List.getElem?_map,List.getElem?_eq_getElem h];rfl)
section
variable {m:Int}{ps cs:List (Int × Int)}{pl:List Nat}
theorem e01(g:e00 m ps)(hp:d40 m pl):k72 ps.length (k60 ps m.toNat pl):=λa b ha hb h=>by
 have hm:∀ p∈pl,p < m.toNat:=λp q=>by have:=hp.lt p q;omega
 rw[Bool.eq_iff_iff]
 exact⟨good_mono g.rng hm hb λn hn=>(h n).mp hn,good_mono g.rng hm ha λn hn=>(h n).mpr hn⟩
theorem T71(g:e00 m ps)(hp:d40 m pl):∀ a b:List Nat,(∀ n∈b,n < ps.length)→(∀ n∈a,n∈b)→k60 ps m.toNat pl a=true→k60 ps m.toNat pl b=true:=λ_ _ hb hab h=>good_mono g.rng (λp q=>by have:=hp.lt p q;omega) hb hab h
noncomputable def i20(m:Int)(ps cs:List (Int × Int))(pl:List Nat):Int × Int:=i60 (D00 (j50 ps.length) λlot=>if k60 ps m.toNat pl lot then amt (cf cs) ps.length lot else 0) (p80 cs)
theorem R10(g:e00 m ps)(hp:d40 m pl)(hc:cs.length=ps.length):i20 m ps cs pl=i60 (tot (k60 ps m.toNat pl) (cf cs) (List.range ps.length) []) (L50 (cf cs) (List.range ps.length)):=by
 have hg:=e01 g hp
 have h1:=K20 (c:=cf cs) hg ps.length [] (Nat.le_refl _) (λ_ h=>nomatch h)
 simp only[List.append_nil] at h1
 have hd:=R00 ps.length
 unfold i20
 rw[h1,d71 hg hd [] (λn hn=>List.mem_range.mp (hd.mem_iff.mp hn)) (λ_ h=>nomatch h),← hc,T51]
end
set_option exponentiation.threshold 5000
noncomputable def frees(K:Nat)(held lack:List Nat):List Nat:=(List.range K).filter λn=>!(held.contains n || lack.contains n)
theorem u20{K n:Nat}{held lack:List Nat}:n∈frees K held lack↔n < K∧n ∉ held∧n ∉ lack:=by
 unfold frees
 rw[List.mem_filter,List.mem_range,Bool.not_eq_true',Bool.or_eq_false_iff,List.contains_eq_mem,List.contains_eq_mem,decide_eq_false_iff_not,decide_eq_false_iff_not]
theorem e11{K:Nat}{held lack:List Nat}:(frees K held lack).Nodup:=List.Pairwise.filter _ List.nodup_range
theorem h81{K n:Nat}{held lack:List Nat}(h1:n < K)(h2:n ∉ lack)(h3:n ∉ held):(frees K held lack).Perm (n::frees K held (lack++[n])):=by
 refine(List.perm_ext_iff_of_nodup e11 (List.nodup_cons.mpr ⟨λh=>(u20.mp h).2.2 (List.mem_append_right _ (List.mem_singleton.mpr rfl)),e11⟩)).mpr λk=>?_
 rw[List.mem_cons,u20,u20,List.mem_append,List.mem_singleton]
 constructor
 ·rintro ⟨a,b,c⟩
  by_cases e:k=n
  ·exact .inl e
  ·exact .inr ⟨a,b,λh=>h.elim c e⟩
 ·rintro (rfl | ⟨a,b,c⟩)
  ·exact⟨h1,h3,h2⟩
  ·exact⟨a,b,λh=>c (.inl h)⟩
section
variable {g:List Nat→Bool}{c:Nat→Int × Int}
theorem v91:∀ (ns held:List Nat),(∀ n∈ns,IsC (c n))→0≤tot g c ns held∧tot g c ns held≤L50 c ns
 |[],held,_=>by
  unfold tot
  show _∧_≤1
  split <;> decide
 |n::r,held,h=>by
  obtain⟨c1,c2,c3,c4,_⟩:=h n List.mem_cons_self
  have hr:=λk hk=>h k (List.mem_cons_of_mem _ hk)
  obtain⟨a0,a1⟩:=v91 r (n::held) hr
  obtain⟨b0,b1⟩:=v91 r held hr
  unfold tot
  rw[e50]
  have p1:=Int.mul_nonneg c3 a0
  have p2:=Int.mul_nonneg (show 0≤(c n).2 - (c n).1 by omega) b0
  have q1:=Int.mul_le_mul_of_nonneg_left a1 c3
  have q2:=Int.mul_le_mul_of_nonneg_left b1 (show 0≤(c n).2 - (c n).1 by omega)
  refine⟨by omega,?_⟩
  have e:(c n).2 * L50 c r=(c n).1 * L50 c r + ((c n).2 - (c n).1) * L50 c r:=by rw[← Int.add_mul];congr 1;omega
  omega
theorem K60:∀ {ns:List Nat},(∀ n∈ns,IsC (c n))→0 < L50 c ns∧L50 c ns≤2 ^ (10 * ns.length)
 |[],_=>by show(0:Int) < 1∧(1:Int)≤1;omega
 |n::r,h=>by
  obtain⟨h1,h2⟩:=K60 λk hk=>h k (List.mem_cons_of_mem _ hk)
  obtain⟨c1,c2,_⟩:=h n List.mem_cons_self
  rw[e50]
  refine⟨Int.mul_pos (by omega) h1,?_⟩
  rw[List.length_cons,Nat.mul_add,Int.pow_add,Int.mul_comm]
  exact Int.mul_le_mul h2 (by omega) (by omega) (Int.le_trans (Int.le_of_lt h1) h2)
end
structure Fr(v:Int × Int)(t b:Int):Prop where
 t0:0≤v.1
 b0:0 < v.2
 one:Int.gcd v.1 v.2=1
 eq:v.1 * b=v.2 * t
theorem Fr.bd{v:Int × Int}{t b:Int}{n:Nat}(h:Fr v t b)(hb:0 < b)(ht:t≤b)(hn:b≤2 ^ n):Bd n v:=by
 refine⟨h.t0,?_,h.b0,?_⟩
 ·refine Int.le_of_mul_le_mul_right (a:=b) ?_ hb
  rw[h.eq]
  exact Int.mul_le_mul_of_nonneg_left ht (Int.le_of_lt h.b0)
 ·exact Int.le_trans (Int.le_of_dvd hb (v01 h.one ⟨t,h.eq⟩)) hn
theorem R20{t b:Int}(h0:0 < b):(i60 t b).1 * b=(i60 t b).2 * t:=by
 obtain⟨e1,e2⟩:=J80 (t:=t) h0
 generalize (i60 t b).1=x at *
 generalize (i60 t b).2=y at *
 generalize ((Int.gcd t b:Nat):Int)=k at *
 rw[e1,e2]
 grind
theorem Fr.low{t b:Int}(hb:0 < b)(ht:0≤t):Fr (i60 t b) t b:=⟨Int.ediv_nonneg ht (Int.le_of_lt (o40 hb)),w20 hb,X60 hb,R20 hb⟩
set_option exponentiation.threshold 5000
noncomputable def K70(k:Nat):List (List Nat):=(TS.sN k).map (TS.A50 k 0)
theorem R30{k:Nat}(h:k≤8):j50 k=(List.range (2 ^ k)).map (TS.A50 k 0):=by
 have:∀ k,k < 9→j50 k=(List.range (2 ^ k)).map (TS.A50 k 0):=by decide +kernel
 exact this k (by omega)
theorem C50{k:Nat}(h:k≤8):(K70 k).Perm (j50 k):=by
 have:∀ k,k < 9→(TS.sN k).isPerm (List.range (2 ^ k))=true:=by decide +kernel
 rw[R30 h]
 exact(List.isPerm_iff.mp (this k (by omega))).map _
theorem j32{k:Nat}(h:k≤8):(j50 k).map s10=g60 k:=by
 rw[R30 h]
 unfold g60
 rw[List.map_map];rfl
theorem X90{k:Nat}(h:k≤8):bfD .sorted [.lst ((j50 k).map s10)]=some (.fr ((K70 k).map s10)):=by
 have h1:∀ k,k < 9→w60 (g60 k)=false:=by decide +kernel
 have h2:∀ k,k < 9→((List.range 9).find? λj=>S10 (g60 k) (g60 j))=some k:=by decide +kernel
 rw[j32 h]
 show(if (g60 k).length < 64∧w60 (g60 k)=true then some (S.fr (H80 (g60 k))) else((((List.range 9).find? λj=>S10 (g60 k) (g60 j)).map B31).map S.fr))=_
 rw[if_neg (λq=>by rw[h1 k (by omega)] at q;cases q.2),h2 k (by omega)]
 show some (S.fr (B31 k))=some (S.fr ((K70 k).map s10))
 rw[K70,List.map_map];rfl
theorem Y00(k:Nat){m:Int}{ts:List D}(h8:ts.length≤8)(z:Z):b10 T (k + 3) E80 [.d (.tup [.int m,.tup ts])] z=some (.ok (.fr ((K70 ts.length).map s10)) z):=by
 refine W.ok (i00 (ps:=1) (ns:=3) (b:=v70) rfl rfl (by decide) ?_)
 refine(a00 (X80 (n:=ts.length) (by omega)) ?_ :)
 refine P50 (λxs ρ z1=>z1=z∧∃ (j r:Nat) (o2:Option S),j + r=ts.length∧xs=(List.range' j r).map f00∧ρ=[some (.d (.tup [.int m,.tup ts])),some (.fr ((j50 j).map s10)),o2]) _ ⟨rfl,0,ts.length,none,Nat.zero_add _,rfl,rfl⟩ ?_ ?_
 ·rintro x r ρ z1 ⟨rfl,j,r',o2,hj,e,rfl⟩
  cases r' with
  |zero=>cases e
  |succ r' =>
   rw[List.range'_succ] at e
   cases e
   have hp:=v61 (j:=j) (by omega)
   refine ip (by rw[List.length_map,z60];simp only[most];omega) (i41 (x92 j) (λy hy=>?_) ?_)
   ·obtain⟨l,hl,rfl⟩:=List.mem_map.mp hy
    have:=K40 hl
    refine(a00 (T41 (a:=l.map f00) (b:=[f00 j]) (by rw[List.length_map];show _ + 1≤_;omega)) ?_ :)
    exact⟨rfl,rfl⟩
   ·rw[E51]
    refine(a00 (add_l (a:=(j50 j).map s10) (b:=((j50 j).map (·++[j])).map s10) (by rw[List.length_map,List.length_map,List.length_map,z60];omega)) ?_ :)
    refine⟨rfl,j + 1,r',some (.d (f00 j)),by omega,rfl,?_⟩
    exact congrArg (λl=>[some (S.d (.tup [.int m,.tup ts])),some (.fr l),some (.d (f00 j))]) List.map_append.symm
 ·rintro ρ z1 ⟨rfl,j,r',o2,hj,e,rfl⟩
  cases r' with
  |zero =>
   have hj:j=ts.length:=hj
   subst hj
   refine(a00 (X90 h8) ?_ :)
   exact sd rfl
  |succ r'=>rw[List.range'_succ] at e;cases e
noncomputable def R40:D→List Nat
 |.tup l=>l.map λx=>match x with | .int i=>i.toNat | _=>0
 |_=>[]
theorem z70(l:List Nat):R40 (s10 l)=l:=by
 show(l.map f00).map _=l
 rw[List.map_map]
 exact List.map_id l
theorem T81{k:Nat}(h:k≤8){lot:List Nat}(hl:lot∈K70 k):∀ n∈lot,n < k:=C40 ((C50 h).mem_iff.mp hl)
theorem e21{k:Nat}(h:k≤8):(K70 k).length≤256:=by rw[(C50 h).length_eq,z60];exact v61 h
section
variable {m:Int}{ps cs:List (Int × Int)}{pl:List Nat}
noncomputable abbrev R50(m:Int)(ps:List (Int × Int))(pl:List Nat):List (List Nat):=(K70 ps.length).filter (k60 ps m.toNat pl)
theorem i30(k:Nat)(g:e00 m ps)(hp:d40 m pl)(z:Z):b10 T (k + 9) h40 [.d (S30 m ps),.d (.tup (pl.map f00))] z=some (.ok (.fr ((R50 m ps pl).map s10)) z):=by
 have h8:=g.len
 have h6:=hp.len g.m6
 refine W.ok (i00 (ps:=2) (ns:=2) (b:=r50) rfl rfl (by decide) (Wo (x10 k z g.web) (Wo (d20 (k + 2) (t:=.tup (ps.map pr)) z hp.pls (decide_eq_true (by rw[List.length_map];omega))) (Wo (Y00 (k + 5) (m:=m) (ts:=ps.map pr) (by rw[List.length_map];exact h8) z) ?_))))
 rw[List.length_map]
 refine ip (by rw[List.length_map];exact y30 (Nat.le_trans (e21 h8) (by decide))) (F62 (λx=>k60 ps m.toNat pl (R40 x)) id (λx hx=>?_) ?_)
 ·obtain⟨l,hl,rfl⟩:=List.mem_map.mp hx
  refine Wo (K30 (k + 4) g hp (Row.t l) (T81 h8 hl) z) ⟨?_,rfl,λ_=>⟨rfl,rfl⟩⟩
  rw[z70]
 ·refine sd ?_
  rw[List.map_id,List.filter_map]
  have:(K70 ps.length).filter ((λx=>k60 ps m.toNat pl (R40 x)) ∘ s10)=R50 m ps pl:=List.filter_congr λl _=>by show k60 ps m.toNat pl (R40 (s10 l))=_;rw[z70]
  rw[this]
theorem h91(k:Nat)(hl:cs.length≤8)(ha:∀ c∈cs,IsC c)(lot:List Nat)(z:Z):b10 T (k + 3) P70 [.d (.tup (cs.map pr)),.d (s10 lot)] z=some (.ok (.d (.int (amt (cf cs) cs.length lot))) z):=by
 refine W.ok (i00 (ps:=2) (ns:=6) (b:=C20) rfl rfl (by decide) ?_)
 refine P50 (λxs ρ z1=>z1=z∧∃ (j:Nat) (o3 o4 o5:Option S),j≤cs.length∧xs=y00 ((cs.drop j).map pr) j∧ρ=[some (.d (.tup (cs.map pr))),some (.d (s10 lot)),some (.d (.int (amt (cf cs) j lot))),o3,o4,o5]) _ ⟨rfl,0,none,none,none,Nat.zero_le _,rfl,(itE (by show(q90 _&&true)=true;rw[z50];rfl)).trans rfl⟩ ?_ ?_
 ·rintro x r ρ z1 ⟨rfl,j,o3,o4,o5,hj,e,rfl⟩
  by_cases h:j < cs.length
  ·rw[List.drop_eq_getElem_cons h] at e
   cases e
   have ec:cs[j]=cf cs j:=by rw[cf,List.getD_eq_getElem?_getD,List.getElem?_eq_getElem h];rfl
   rw[ec]
   obtain⟨a1,a2⟩:=I71 (lot:=lot) ha (j:=j) (by omega)
   refine(a00 (T61 (n:=j) (l:=lot)) ?_ :)
   have fin:∀ w:Int,0≤w→w≤1000→w=(if j∈lot then(cf cs j).1 else(cf cs j).2 - (cf cs j).1)→y60 .mul (.int (amt (cf cs) j lot)) (.int w)=some (.d (.int (amt (cf cs) (j + 1) lot))):=λw w0 w1 e=>by
    rw[i72 a1 (X50 (n:=10 * j) (by omega) a2) w0 (u10 (by omega)),p40,e]
   obtain⟨w1,w2⟩:=(v71 ha h).w (j∈lot)
   refine ib (b:=decide (j∈lot)) (λhm=>?_) λhm=>?_
   ·rw[decide_eq_true_eq] at hm
    rw[if_pos hm] at w1 w2
    refine(a00 (fin _ w1 w2 (by rw[if_pos hm])) ?_ :)
    exact⟨rfl,j + 1,_,_,_,h,rfl,rfl⟩
   ·rw[decide_eq_false_iff_not] at hm
    rw[if_neg hm] at w1 w2
    refine(a00 (fin _ w1 w2 (by rw[if_neg hm])) ?_ :)
    exact⟨rfl,j + 1,_,_,_,h,rfl,rfl⟩
  ·rw[List.drop_eq_nil_of_le (by omega)] at e;cases e
 ·rintro ρ z1 ⟨rfl,j,o3,o4,o5,hj,e,rfl⟩
  by_cases h:j < cs.length
  ·rw[List.drop_eq_getElem_cons h] at e;cases e
  ·have hj:j=cs.length:=by omega
   subst hj
   exact sd rfl
theorem D40(k:Nat)(hl:cs.length≤8)(ha:∀ c∈cs,IsC c)(z:Z):b10 T (k + 3) t80 [.d (.tup (cs.map pr))] z=some (.ok (.d (.int (p80 cs))) z):=by
 obtain⟨b0,b1⟩:=K50 ha
 refine W.ok (i00 (ps:=1) (ns:=3) (b:=l80) rfl rfl (by decide) ?_)
 refine P50 (λxs ρ z2=>z2=z∧∃ (rest:List (Int × Int)) (b:Int) (o:Option S),xs=rest.map pr∧(∀ c∈rest,IsC c)∧0 < b∧b * p80 rest=p80 cs∧ρ=[some (.d (.tup (cs.map pr))),some (.d (.int b)),o]) _ ⟨rfl,cs,1,none,rfl,ha,by decide,Int.one_mul _,(itE (by show(q90 _&&true)=true;rw[z50];rfl)).trans rfl⟩ ?_ ?_
 ·rintro x r ρ z2 ⟨rfl,rest,b,o,e,hr,hb,ht,rfl⟩
  cases rest with
  |nil=>cases e
  |cons c rest =>
   cases e
   have hc':=hr c List.mem_cons_self
   have hr':∀ c∈rest,IsC c:=λd hd=>hr d (List.mem_cons_of_mem _ hd)
   have ht':b * (c.2 * p80 rest)=p80 cs:=ht
   have p0:=(K50 hr').1
   have hle:b≤p80 cs:=by
    rw[← ht']
    have h1:0 < c.2 * p80 rest:=Int.mul_pos (by have:=hc'.1;omega) p0
    have:b * 1≤b * (c.2 * p80 rest):=Int.mul_le_mul_of_nonneg_left (by omega) (by omega)
    omega
   refine(a00 (i72 (i:=b) (j:=c.2) (by omega) (X50 (n:=10 * cs.length) (by omega) (Int.le_trans hle b1)) (by have:=hc'.1;omega) (u10 (by have:=hc'.2.1;omega))) ?_ :)
   exact⟨rfl,rest,b * c.2,_,rfl,hr',Int.mul_pos hb (by have:=hc'.1;omega),by rw[Int.mul_assoc];exact ht',rfl⟩
 ·rintro ρ z2 ⟨rfl,rest,b,o,e,hr,hb,ht,rfl⟩
  cases rest with
  |cons _ _=>cases e
  |nil =>
   have ht:b * 1=p80 cs:=ht
   rw[Int.mul_one] at ht
   subst ht
   exact sd rfl
theorem sum_ints(f:List Nat→Int):∀ ls:List (List Nat),B41 ((ls.map s10).map λx=>.int (f (R40 x)))=some (D00 ls f)
 |[]=>rfl
 |l::r=>by
  show(B41 ((r.map s10).map λx=>.int (f (R40 x)))).map (f (R40 (s10 l)) + ·)=_
  rw[sum_ints f r,z70];rfl
theorem K80(k:Nat)(hl:cs.length≤8)(ha:∀ c∈cs,IsC c){ls:List (List Nat)}(hls:ls.length≤256)(z:Z):b10 T (k + 5) d10 [.d (.tup (cs.map pr)),.d (.lst (ls.map s10))] z=some (.ok (.d (pr (i60 (D00 ls (amt (cf cs) cs.length)) (p80 cs)))) z):=by
 obtain⟨b0,b1⟩:=K50 ha
 refine W.ok (i00 (ps:=2) (ns:=2) (b:=n90) rfl rfl (by decide) ?_)
 refine ip (by rw[List.length_map];exact y30 (by omega)) (i41 (λx=>.int (amt (cf cs) cs.length (R40 x))) (λx hx=>?_) ?_)
 ·obtain⟨l,_,rfl⟩:=List.mem_map.mp hx
  refine Wo (h91 (k + 1) hl ha l z) ⟨?_,rfl⟩
  rw[z70]
 ·refine(a00 (o:=bfD .sum [.lst _]) (a:=.d (.int (D00 ls (amt (cf cs) cs.length)))) (by show(((Z90 (.lst _)).bind B41).map _)=_;show(B41 _).map _=_;rw[sum_ints];rfl) ?_ :)
  exact Wo (D40 (k + 1) hl ha z) (Wo (Q50 k _ _ z b0 (X50 (n:=10 * cs.length) (by omega) b1)) (sd rfl))
theorem w01{a b:List (List Nat)}{f:List Nat→Int}(h:a.Perm b):D00 a f=D00 b f:=by
 unfold D00
 exact(h.map f).foldr_eq' (λx _ y _ z=>by omega) 0
theorem R60(g:List Nat→Bool)(f:List Nat→Int):∀ a:List (List Nat),D00 (a.filter g) f=D00 a λl=>if g l then f l else 0
 |[]=>rfl
 |x::r=>by
  have ih:=R60 g f r
  show _=(if g x=true then f x else 0) + D00 r _
  rw[List.filter_cons,← ih]
  cases g x with
  |true=>rfl
  |false=>show _=0 + _;rw[Int.zero_add];rfl
theorem e60(k:Nat)(g:e00 m ps)(hc:cs.length=ps.length)(ha:∀ c∈cs,IsC c)(z:Z):b10 T (k + 5) d10 [.d (.tup (cs.map pr)),.d (.lst ((R50 m ps pl).map s10))] z=some (.ok (.d (pr (i20 m ps cs pl))) z):=by
 have h8:=g.len
 rw[K80 k (by omega) ha (Nat.le_trans (List.length_filter_le _ _) (e21 h8)) z,R60,w01 (C50 h8),hc]
 rfl
theorem g90(g:e00 m ps)(hp:d40 m pl)(hc:cs.length=ps.length)(ha:∀ c∈cs,IsC c):Bd 80 (i20 m ps cs pl):=by
 have h8:=g.len
 have hcf:∀ n∈List.range ps.length,IsC (cf cs n):=λn hn=>v71 ha (by rw[hc];exact List.mem_range.mp hn)
 obtain⟨b0,b1⟩:=K60 hcf
 obtain⟨t0,t1⟩:=v91 (g:=k60 ps m.toNat pl) _ [] hcf
 rw[R10 g hp hc]
 refine(Fr.low b0 t0).bd b0 t1 (Int.le_trans b1 ?_)
 rw[List.length_range]
 exact_mod_cast Nat.pow_le_pow_right (n:=2) (by decide) (show 10 * ps.length≤80 by omega)
theorem e31(k:Nat)(g:e00 m ps)(hp:d40 m pl)(hc:cs.length=ps.length)(ha:∀ c∈cs,IsC c)(z:Z):b10 T (k + 11) W30 [.d (S30 m ps),.d (.tup (cs.map pr)),.d (.tup (pl.map f00))] z=some (.ok (.d (pr (i20 m ps cs pl))) z):=by
 have h6:=hp.len g.m6
 exact W.ok (i00 (ps:=3) (ns:=3) (b:=W60) rfl rfl (by decide) (Wo (d70 k (m:=m) (ts:=ps.map pr) g.web z (d51 (by rw[List.length_map];exact hc) ha)) (Wo (d20 (k + 4) (t:=.tup (ps.map pr)) z hp.pls (decide_eq_true (by rw[List.length_map];omega))) (Wo (i30 (k + 1) g hp z) (Wo (e60 (k + 5) g hc ha z) (sd rfl))))))
end
set_option exponentiation.threshold 5000
noncomputable def tl:Sm→Sm
 |.seq _ r=>r
 |s=>s
structure Bs(n:Nat)(c:Int × Int):Prop where
 t:c.1.natAbs≤2 ^ n
 b0:0 < c.2
 b:c.2.natAbs≤2 ^ n
theorem K90{n i:Nat}(h:n≤3999)(hi:i≤2 ^ n):i < E00:=Nat.lt_of_le_of_lt hi (Nat.pow_lt_pow_right (by decide) (by omega))
theorem y40{n:Nat}{i j:Int}(h:n≤3999)(hi:i.natAbs≤2 ^ n)(hj:j.natAbs≤2 ^ n):y60 .mul (.int i) (.int j)=some (.d (.int (i * j))):=by
 show(if i.natAbs < E00∧j.natAbs < E00 then some (S.d (.int (i * j))) else none)=_
 rw[if_pos ⟨K90 h hi,K90 h hj⟩]
theorem o50{n m:Nat}{i j:Int}(hi:i.natAbs≤2 ^ n)(hj:j.natAbs≤2 ^ m):(i * j).natAbs≤2 ^ (n + m):=by
 rw[Int.natAbs_mul,Nat.pow_add];exact Nat.mul_le_mul hi hj
theorem Y10{n:Nat}{i:Int}(h:n≤3999)(hi:i.natAbs≤2 ^ n):big i:=by
 have:=K90 h hi
 show i < 2 ^ 4000
 have e:((E00:Nat):Int)=2 ^ 4000:=by unfold E00;exact Int.natCast_pow 2 4000
 rw[← e];omega
theorem Bd.s{n:Nat}{c:Int × Int}(h:Bd n c):Bs n c:=by
 have e:((2 ^ n:Nat):Int)=2 ^ n:=Int.natCast_pow 2 n
 have h1:=h.t0;have h2:=h.tb;have h3:=h.b0;have h4:=h.bb
 rw[← e] at h4
 exact⟨by omega,h3,by omega⟩
theorem IsC.s{c:Int × Int}(h:IsC c):Bs 10 c:=by
 obtain⟨h1,h2,h3,h4,_⟩:=h
 exact⟨by show _≤1024;omega,by omega,by show _≤1024;omega⟩
theorem j42(k:Nat){n:Nat}{c d:Int × Int}(hc:Bs n c)(hd:Bs n d)(hn:n + n≤3999)(z:Z):b10 T (k + 5) I31 [.d (pr c),.d (pr d)] z=some (.ok (.d (pr (i60 (c.1 * d.2 + d.1 * c.2) (c.2 * d.2)))) z):=by
 have h1:n≤3999:=by omega
 refine W.ok (i00 (ps:=2) (ns:=2) (b:=t01) rfl rfl (by decide) ?_)
 refine(a00 (y40 h1 hc.t hd.b) ?_ :)
 refine(a00 (y40 h1 hd.t hc.b) ?_ :)
 refine(a00 (y40 h1 hc.b hd.b) ?_ :)
 exact Wo (Q50 k _ _ z (Int.mul_pos hc.b0 hd.b0) (Y10 hn (o50 hc.b hd.b))) (sd rfl)
theorem F50(k:Nat){n:Nat}{c d:Int × Int}(hc:Bs n c)(hd:Bs n d)(hn:n + n≤3999)(z:Z):b10 T (k + 4) l30 [.d (pr c),.d (pr d)] z=some (.ok (.d (pr (i60 (c.1 * d.2 + d.1 * c.2) (c.2 * d.2)))) z):=by
 have h1:n≤3999:=by omega
 refine W.ok (i00 (ps:=2) (ns:=2) (b:=r60) rfl rfl (by decide) ?_)
 refine(a00 (y40 h1 hc.t hd.b) ?_ :)
 refine(a00 (y40 h1 hd.t hc.b) ?_ :)
 refine(a00 (y40 h1 hc.b hd.b) ?_ :)
 exact Wo (w10 k _ _ z (Int.mul_pos hc.b0 hd.b0) (Y10 hn (o50 hc.b hd.b))) (sd rfl)
noncomputable def j52(a b:Int × Int):Int × Int:=i60 (a.1 * b.2 + -b.1 * a.2) (a.2 * b.2)
theorem Bs.neg{n:Nat}{c:Int × Int}(h:Bs n c):Bs n (-c.1,c.2):=⟨by show(-c.1).natAbs≤_;rw[Int.natAbs_neg];exact h.t,h.b0,h.b⟩
theorem e41(k:Nat){n:Nat}{c d:Int × Int}(hc:Bs n c)(hd:Bs n d)(hn:n + n≤3999)(z:Z):b10 T (k + 6) W20 [.d (pr c),.d (pr d)] z=some (.ok (.d (pr (j52 c d))) z) :=
 W.ok (i00 (ps:=2) (ns:=2) (b:=W40) rfl rfl (by decide) (Wo (j42 k hc hd.neg hn z) (sd rfl)))
theorem Y20{t b:Int}(h0:0 < b):(i60 t b).1.natAbs≤t.natAbs∧(i60 t b).2.natAbs≤b.natAbs:=by
 obtain⟨e1,e2⟩:=J80 (t:=t) h0
 have g0:=o40 (t:=t) h0
 generalize i60 t b=v at *
 generalize hg:Int.gcd t b=g at *
 have g1:1≤g:=by omega
 constructor
 ·rw[e1,Int.natAbs_mul,Int.natAbs_natCast];exact Nat.le_mul_of_pos_left _ g1
 ·rw[e2,Int.natAbs_mul,Int.natAbs_natCast];exact Nat.le_mul_of_pos_left _ g1
theorem Bs.sub{n:Nat}{c d:Int × Int}(hc:Bs n c)(hd:Bs n d):Bs (n + n + 1) (j52 c d):=by
 have b0:=Int.mul_pos hc.b0 hd.b0
 obtain⟨h1,h2⟩:=Y20 (t:=c.1 * d.2 + -d.1 * c.2) b0
 have k1:=o50 hc.t hd.b
 have k2:=o50 hd.neg.t hc.b
 have k3:=o50 hc.b hd.b
 have e:2 ^ (n + n + 1)=2 ^ (n + n) + 2 ^ (n + n):=by rw[Nat.pow_succ];omega
 have k2:(-d.1 * c.2).natAbs≤2 ^ (n + n):=k2
 exact⟨by show(i60 _ _).1.natAbs≤_;omega,w20 b0,by show(i60 _ _).2.natAbs≤_;omega⟩
theorem i01(k:Nat){n:Nat}{c d:Int × Int}(hc:Bs n c)(hd:Bs n d)(hn:n≤3999)(z:Z):b10 T (k + 3) P60 [.d (pr c),.d (pr d)] z=some (.ok (.d (.bl (decide (c.1 * d.2 < d.1 * c.2)))) z):=by
 refine W.ok (i00 (ps:=2) (ns:=2) (b:=C10) rfl rfl (by decide) ?_)
 refine(a00 (y40 hn hc.t hd.b) ?_ :)
 refine(a00 (y40 hn hd.t hc.b) ?_ :)
 exact sd rfl
noncomputable def E61:Option Nat→D
 |none=>.non
 |some i=>f00 i
noncomputable abbrev lf(l:List (Int × Int))(i:Nat):Int × Int:=l.getD i (0,1)
noncomputable def fg(l:List (Int × Int)):Nat→Option Nat
 |0=>none
 |j + 1=>match fg l j with
  |none=>some j
  |some i=>if (lf l i).1 * (lf l j).2 < (lf l j).1 * (lf l i).2 then some j else some i
theorem i11{l:List (Int × Int)}:∀ {j i:Nat},fg l j=some i→i < j
 |j + 1,i,h=>by
  unfold fg at h
  split at h
  ·cases h;omega
  ·rename_i i' e
   have:=i11 e
   split at h <;> (cases h;omega)
theorem w11{l:List (Int × Int)}{i:Nat}(h:i < l.length):lf l i∈l:=by rw[lf,List.getD_eq_getElem?_getD,List.getElem?_eq_getElem h];exact List.getElem_mem h
theorem w21{l:List (Int × Int)}{i:Nat}(h:i < l.length):L30 (.lst (l.map pr)) (.int i)=some (pr (lf l i)):=by
 rw[lf,List.getD_eq_getElem?_getD,List.getElem?_eq_getElem h]
 exact X20 (by rw[List.getElem?_map,List.getElem?_eq_getElem h];rfl)
theorem w31{l:List (Int × Int)}{j:Nat}(h:j < l.length):(l.drop j).map pr=pr (lf l j)::(l.drop (j + 1)).map pr:=by
 rw[List.drop_eq_getElem_cons h,lf,List.getD_eq_getElem?_getD,List.getElem?_eq_getElem h];rfl
theorem k70(k:Nat){n:Nat}{l:List (Int × Int)}(hb:∀ c∈l,Bs n c)(hn:n≤3999)(z:Z):b10 T (k + 4) f90 [.d (.lst (l.map pr))] z=some (.ok (.d (E61 (fg l l.length))) z):=by
 refine W.ok (i00 (ps:=1) (ns:=4) (b:=g20) rfl rfl (by decide) ?_)
 refine P50 (λxs ρ z1=>z1=z∧∃ (j:Nat) (o2 o3:Option S),j≤l.length∧xs=y00 ((l.drop j).map pr) j∧ρ=[some (.d (.lst (l.map pr))),some (.d (E61 (fg l j))),o2,o3]) _ ⟨rfl,0,none,none,Nat.zero_le _,rfl,(itE (by show(q90 _&&true)=true;rw[z50];rfl)).trans rfl⟩ ?_ ?_
 ·rintro x r ρ z1 ⟨rfl,j,o2,o3,hj,e,rfl⟩
  by_cases h:j < l.length
  ·rw[w31 h] at e
   cases e
   cases hf:fg l j with
   |none=>exact⟨rfl,j + 1,_,_,h,rfl,by rw[fg,hf];rfl⟩
   |some i =>
    have hi:=i11 hf
    refine(a00 (w21 (l:=l) (i:=i) (by omega)) ?_ :)
    refine Wo (i01 k (hb _ (w11 (by omega))) (hb _ (w11 h)) hn z1) (ib (b:=decide _) (λhd=>?_) λhd=>?_)
    ·rw[decide_eq_true_eq] at hd
     exact⟨rfl,j + 1,_,_,h,rfl,by rw[fg,hf];simp only[if_pos hd];rfl⟩
    ·rw[decide_eq_false_iff_not] at hd
     exact⟨rfl,j + 1,_,_,h,rfl,by rw[fg,hf];simp only[if_neg hd];rfl⟩
  ·rw[List.drop_eq_nil_of_le (by omega)] at e;cases e
 ·rintro ρ z1 ⟨rfl,j,o2,o3,hj,e,rfl⟩
  by_cases h:j < l.length
  ·rw[w31 h] at e;cases e
  ·have hj:j=l.length:=by omega
   subst hj
   exact sd rfl
set_option exponentiation.threshold 5000
theorem o60(k:Nat){x:D}(z:Z)(h:chD x=true):b10 T (k + 5) i90 [.d x] z=some (.ok (.d .non) z) :=
 W.ok (i00 (ps:=1) (ns:=1) (b:=j20) rfl rfl (by decide) (Wo (x20 k x z) (ie (b:=!chD x) (by rw[h];rfl) (sd rfl))))
theorem C60(k:Nat){a:D}{ts:List D}{x:D}(z:Z)(h:c00 x ts.length=true):b10 T (k + 5) q10 [.d (.tup [a,.tup ts]),.d x] z=some (.ok (.d .non) z) :=
 W.ok (i00 (ps:=2) (ns:=2) (b:=j10) rfl rfl (by decide) (Wo (m20 k x ts.length z) (ie (b:=!c00 x ts.length) (by rw[h];rfl) (sd rfl))))
theorem w41{n K:Nat}(h:n < K):c00 (.int n) K=true:=by
 show(decide (0≤(n:Int))&&decide ((n:Int) < (K:Int)))=true
 rw[decide_eq_true (by omega),decide_eq_true (by omega)];rfl
section
variable {m:Int}{ps cs:List (Int × Int)}{pl:List Nat}{c:Int × Int}
theorem o70{n:Nat}(ha:∀ c∈cs,IsC c)(hc:IsC c):∀ d∈cs.set n c,IsC d:=λd hd=>by
 rcases List.mem_or_eq_of_mem_set hd with h | h
 ·exact ha d h
 ·rw[h];exact hc
theorem T91{n:Nat}(h:n < cs.length):cutD (cs.map pr) none (some (n:Int))++[pr c]++cutD (cs.map pr) (some ((n:Int) + 1)) none=(cs.set n c).map pr:=by
 rw[u81 _ (by omega),Int.toNat_natCast,show((n:Int) + 1)=((n + 1:Nat):Int) by omega,u00,List.set_eq_take_append_cons_drop,if_pos h,List.map_append,List.map_cons,List.append_assoc,List.map_take,List.map_drop];rfl
theorem j62{n:Nat}(hl:cs.length≤8)(h:n < cs.length):y60 .add (.tup (cutD (cs.map pr) none (some (n:Int)))) (.tup [pr c])=some (.d (.tup (cutD (cs.map pr) none (some (n:Int))++[pr c])))∧y60 .add (.tup (cutD (cs.map pr) none (some (n:Int))++[pr c])) (.tup (cutD (cs.map pr) (some ((n:Int) + 1)) none))=some (.d (.tup ((cs.set n c).map pr))):=by
 have e1:(cutD (cs.map pr) none (some (n:Int))).length≤8:=by rw[u81 _ (by omega),List.length_take,List.length_map];omega
 have e2:(cutD (cs.map pr) (some ((n:Int) + 1)) none).length≤8:=by rw[show((n:Int) + 1)=((n + 1:Nat):Int) by omega,u00,List.length_drop,List.length_map];omega
 refine⟨T41 (by show _ + 1≤_;omega),?_⟩
 rw[T41 (by rw[V41];omega),T91 h]
theorem j60(k:Nat){n:Nat}(hl:cs.length≤8)(h:n < cs.length)(z:Z):b10 T (k + 3) g80 [.d (.tup (cs.map pr)),.d (.int n),.d (pr c)] z=some (.ok (.d (.tup ((cs.set n c).map pr))) z):=by
 obtain⟨e1,e2⟩:=j62 (c:=c) hl h
 refine W.ok (i00 (ps:=3) (ns:=3) (b:=l70) rfl rfl (by decide) ?_)
 refine(a00 e1 ?_ :)
 refine(a00 e2 ?_ :)
 exact sd rfl
noncomputable def s00(m:Int)(ps cs:List (Int × Int))(pl:List Nat)(c:Int × Int)(n:Nat):Int × Int:=j52 (i20 m ps (cs.set n c) pl) (i20 m ps cs pl)
theorem L00(g:e00 m ps)(hp:d40 m pl)(hc:cs.length=ps.length)(ha:∀ c∈cs,IsC c)(hch:IsC c){n:Nat}:Bs 161 (s00 m ps cs pl c n) :=
 (g90 g hp (by rw[List.length_set];exact hc) (o70 ha hch)).s.sub (g90 g hp hc ha).s
theorem F60(k:Nat)(g:e00 m ps)(hp:d40 m pl)(hc:cs.length=ps.length)(ha:∀ c∈cs,IsC c)(hch:IsC c){n:Nat}(h:n < ps.length)(z:Z):b10 T (k + 7) C00 [.d (.tup (cs.map pr)),.d (.lst ((R50 m ps pl).map s10)),.d (.int n),.d (pr c)] z=some (.ok (.d (pr (s00 m ps cs pl c n))) z):=by
 have h8:=g.len
 have hc':(cs.set n c).length=ps.length:=by rw[List.length_set];exact hc
 exact W.ok (i00 (ps:=4) (ns:=4) (b:=C30) rfl rfl (by decide) (Wo (j60 (k + 3) (by omega) (by omega) z) (Wo (e60 (k + 1) g hc' (o70 ha hch) z) (Wo (e60 (k + 1) g hc ha z) (Wo (e41 k (g90 g hp hc' (o70 ha hch)).s (g90 g hp hc ha).s (by decide) z) (sd rfl))))))
theorem Y30(k:Nat)(g:e00 m ps)(hp:d40 m pl)(hc:cs.length=ps.length)(ha:∀ c∈cs,IsC c)(hch:IsC c){n:Nat}(h:n < ps.length)(z:Z):b10 T (k + 11) c71 [.d (S30 m ps),.d (.tup (cs.map pr)),.d (.tup (pl.map f00)),.d (.int n),.d (pr c)] z=some (.ok (.d (pr (s00 m ps cs pl c n))) z):=by
 have h6:=hp.len g.m6
 exact W.ok (i00 (ps:=5) (ns:=5) (b:=t11) rfl rfl (by decide) (Wo (d70 k (m:=m) (ts:=ps.map pr) g.web z (d51 (by rw[List.length_map];exact hc) ha)) (Wo (d20 (k + 4) (t:=.tup (ps.map pr)) z hp.pls (decide_eq_true (by rw[List.length_map];omega))) (Wo (C60 (k + 5) (a:=.int m) (ts:=ps.map pr) z (w41 (by rw[List.length_map];exact h))) (Wo (o60 (k + 5) z hch.ch) (Wo (i30 (k + 1) g hp z) (Wo (F60 (k + 3) g hp hc ha hch h z) (sd rfl))))))))
noncomputable abbrev x60(m:Int)(ps cs:List (Int × Int))(pl:List Nat)(c:Int × Int)(j:Nat):List (Int × Int):=(List.range j).map (s00 m ps cs pl c)
theorem e51(g:e00 m ps)(hp:d40 m pl)(hc:cs.length=ps.length)(ha:∀ c∈cs,IsC c)(hch:IsC c){j:Nat}:∀ d∈x60 m ps cs pl c j,Bs 161 d:=λd hd=>by
 obtain⟨n,_,rfl⟩:=List.mem_map.mp hd
 exact L00 g hp hc ha hch
noncomputable def R70(l:List (Int × Int)):Option Nat:=(fg l l.length).bind λi=>if (lf l i).1≤0 then none else some i
noncomputable def v22:D→Nat
 |.int i=>i.toNat
 |_=>0
theorem L10(k:Nat)(g:e00 m ps)(hp:d40 m pl)(hc:cs.length=ps.length)(ha:∀ c∈cs,IsC c)(hch:IsC c)(z:Z):b10 T (k + 11) w80 [.d (S30 m ps),.d (.tup (cs.map pr)),.d (.tup (pl.map f00)),.d (pr c)] z=some (.ok (.d (E61 (R70 (x60 m ps cs pl c ps.length)))) z):=by
 have h6:=hp.len g.m6
 have h8:=g.len
 refine W.ok (i00 (ps:=4) (ns:=7) (b:=o00) rfl rfl (by decide) (Wo (d70 k (m:=m) (ts:=ps.map pr) g.web z (d51 (by rw[List.length_map];exact hc) ha)) (Wo (d20 (k + 4) (t:=.tup (ps.map pr)) z hp.pls (decide_eq_true (by rw[List.length_map];omega))) (Wo (o60 (k + 5) z hch.ch) (Wo (i30 (k + 1) g hp z) ?_)))))
 refine(a00 (o:=itD .rng1 [.int ((cs.map pr).length:Nat)]) (X80 (n:=(cs.map pr).length) (by rw[List.length_map];omega)) ?_ :)
 refine ip (by rw[List.length_map,List.length_range',List.length_map];exact y30 (by omega)) (i41 (λx=>pr (s00 m ps cs pl c (v22 x))) (λx hx=>?_) ?_)
 ·obtain⟨n,hn,rfl⟩:=List.mem_map.mp hx
  rw[List.mem_range'_1,List.length_map] at hn
  exact Wo (F60 (k + 3) g hp hc ha hch (n:=n) (by omega) z) ⟨rfl,rfl⟩
 ·have e:((List.range' 0 (cs.map pr).length).map f00).map (λx=>pr (s00 m ps cs pl c (v22 x)))=(x60 m ps cs pl c ps.length).map pr:=by
   rw[List.map_map,List.map_map,List.length_map,hc,List.range_eq_range'];rfl
  rw[e]
  have hb:=e51 (j:=ps.length) g hp hc ha hch
  generalize x60 m ps cs pl c ps.length=l at hb
  refine Wo (k70 (k + 6) hb (by decide) z) ?_
  unfold R70
  cases hf:fg l l.length with
  |none=>exact sd rfl
  |some i =>
   refine(a00 (w21 (l:=l) (i:=i) (i11 hf)) ?_ :)
   refine ib (b:=decide ((lf l i).1≤0)) (λhd=>?_) λhd=>?_
   ·rw[decide_eq_true_eq] at hd
    exact sd (by show _=S.d (E61 (if _ then _ else _));rw[if_pos hd];rfl)
   ·rw[decide_eq_false_iff_not] at hd
    exact sd (by show _=S.d (E61 (if _ then _ else _));rw[if_neg hd])
end
set_option exponentiation.threshold 5000
structure Rt(v:Int × Int)(t b:Int):Prop where
 b0:0 < v.2
 one:Int.gcd v.1 v.2=1
 eq:v.1 * b=t * v.2
theorem Rt.low{t b:Int}(hb:0 < b):Rt (i60 t b) t b:=⟨w20 hb,X60 hb,by rw[R20 hb,Int.mul_comm]⟩
theorem Rt.conv{v:Int × Int}{t b t' b':Int}(h:Rt v t b)(hb:0 < b)(e:t * b'=t' * b):Rt v t' b':=by
 refine⟨h.b0,h.one,Int.eq_of_mul_eq_mul_right (a:=b) (by omega) ?_⟩
 have:=h.eq
 calc v.1 * b' * b=(v.1 * b) * b':=by grind
  _=(t * b') * v.2:=by rw[this];grind
  _=t' * v.2 * b:=by rw[e];grind
theorem Rt.eqv{v w:Int × Int}{t b:Int}(hv:Rt v t b)(hw:Rt w t b)(hb:0 < b):v=w:=by
 have e:v.1 * w.2=w.1 * v.2:=by
  have h1:=hv.eq
  have h2:=hw.eq
  refine Int.eq_of_mul_eq_mul_right (a:=b) (by omega) ?_
  calc v.1 * w.2 * b=(v.1 * b) * w.2:=by grind
   _=(t * w.2) * v.2:=by rw[h1];grind
   _=w.1 * v.2 * b:=by rw[← h2];grind
 obtain⟨a,b'⟩:=h61 hv.b0 hw.b0 hv.one hw.one e
 exact Prod.ext a b'
theorem Rt.add{v w:Int × Int}{t b t' b':Int}(hv:Rt v t b)(hw:Rt w t' b'):Rt (i60 (v.1 * w.2 + w.1 * v.2) (v.2 * w.2)) (t * b' + t' * b) (b * b'):=by
 have y:=Int.mul_pos hv.b0 hw.b0
 refine(Rt.low y).conv y ?_
 have h1:=hv.eq
 have h2:=hw.eq
 calc (v.1 * w.2 + w.1 * v.2) * (b * b')=(v.1 * b) * (w.2 * b') + (w.1 * b') * (v.2 * b):=by grind
  _=(t * b' + t' * b) * (v.2 * w.2):=by rw[h1,h2];grind
theorem Rt.mul{v w:Int × Int}{t b t' b':Int}(hv:Rt v t b)(hw:Rt w t' b'):Rt (i60 (v.1 * w.1) (v.2 * w.2)) (t * t') (b * b'):=by
 have y:=Int.mul_pos hv.b0 hw.b0
 refine(Rt.low y).conv y ?_
 have h1:=hv.eq
 have h2:=hw.eq
 calc v.1 * w.1 * (b * b')=(v.1 * b) * (w.1 * b'):=by grind
  _=t * t' * (v.2 * w.2):=by rw[h1,h2];grind
theorem Rt.neg{v:Int × Int}{t b:Int}(h:Rt v t b):Rt (-v.1,v.2) (-t) b:=⟨h.b0,by show Int.gcd (-v.1) v.2=1;rw[Int.neg_gcd];exact h.one,by show -v.1 * b=-t * v.2;rw[Int.neg_mul,Int.neg_mul,h.eq]⟩
theorem Rt.sub{v w:Int × Int}{t b t' b':Int}(hv:Rt v t b)(hw:Rt w t' b'):Rt (j52 v w) (t * b' + -t' * b) (b * b'):=hv.add hw.neg
theorem IsC.rt{c:Int × Int}(h:IsC c):Rt c c.1 c.2:=⟨by have:=h.1;omega,h.2.2.2.2,rfl⟩
theorem Rt.pos{v:Int × Int}{t b:Int}(h:Rt v t b)(hb:0 < b)(ht:0≤t):0≤v.1:=by
 have:=Int.mul_nonneg ht (Int.le_of_lt h.b0)
 rw[← h.eq] at this
 exact Int.nonneg_of_mul_nonneg_left this hb
noncomputable def leF(a b:Int × Int):Prop:=a.1 * b.2≤b.1 * a.2
theorem w51{a b c:Int × Int}(ha:0 < a.2)(hb:0 < b.2)(hc:0 < c.2)(h1:leF a b)(h2:leF b c):leF a c:=by
 unfold leF at *
 refine Int.le_of_mul_le_mul_right (a:=b.2) ?_ hb
 have k1:=Int.mul_le_mul_of_nonneg_right h1 (Int.le_of_lt hc)
 have k2:=Int.mul_le_mul_of_nonneg_right h2 (Int.le_of_lt ha)
 have e1:a.1 * c.2 * b.2=a.1 * b.2 * c.2:=by grind
 have e2:b.1 * a.2 * c.2=b.1 * c.2 * a.2:=by grind
 have e3:c.1 * b.2 * a.2=c.1 * a.2 * b.2:=by grind
 omega
theorem w61{n:Nat}{l:List (Int × Int)}(hb:∀ c∈l,Bs n c):∀ {j i:Nat},j≤l.length→fg l j=some i→∀ k < j,leF (lf l k) (lf l i)
 |j + 1,i,hj,h,k,hk=>by
  have b:=λx (hx:x < l.length)=>(hb _ (w11 hx)).b0
  unfold fg at h
  split at h
  ·rename_i e
   cases h
   have:j=0:=by
    cases j with
    |zero=>rfl
    |succ j=>unfold fg at e;split at e <;> first | (cases e;done) | (split at e <;> cases e)
   subst this
   rw[show k=0 by omega]
   exact Int.le_refl _
  ·rename_i i' e
   have lt:=i11 e
   have ih:=λk hk=>w61 hb (j:=j) (i:=i') (by omega) e k hk
   split at h
   ·rename_i c
    cases h
    by_cases hkj:k=j
    ·subst hkj;exact Int.le_refl _
    ·exact w51 (b k (by omega)) (b i' (by omega)) (b j (by omega)) (ih k (by omega)) (Int.le_of_lt c)
   ·rename_i c
    cases h
    by_cases hkj:k=j
    ·subst hkj;exact Int.not_lt.mp c
    ·exact ih k (by omega)
theorem Y40{l:List (Int × Int)}:∀ {j:Nat},0 < j→∃ i,fg l j=some i
 |j + 1,_=>by
  unfold fg
  split
  ·exact⟨_,rfl⟩
  ·split <;> exact⟨_,rfl⟩
section
variable {g:List Nat→Bool}{c c':Nat→Int × Int}
theorem u30:∀ (ns held:List Nat),(∀ n∈ns,c n=c' n)→tot g c ns held=tot g c' ns held
 |[],_,_=>rfl
 |n::r,held,h=>by
  unfold tot
  rw[h n List.mem_cons_self,u30 r held λk hk=>h k (List.mem_cons_of_mem _ hk),u30 r (n::held) λk hk=>h k (List.mem_cons_of_mem _ hk)]
theorem i21{ns:List Nat}(h:∀ n∈ns,c n=c' n):L50 c ns=L50 c' ns:=by
 unfold L50
 rw[List.map_congr_left λn hn=>by rw[h n hn]]
theorem L20{N:Nat}(mono:∀ a b:List Nat,(∀ n∈b,n < N)→(∀ n∈a,n∈b)→g a=true→g b=true):∀ (ns a b:List Nat),(∀ n∈ns,n < N∧IsC (c n))→(∀ n∈b,n < N)→(∀ n∈a,n∈b)→tot g c ns a≤tot g c ns b
 |[],a,b,_,hb,h=>by
  unfold tot
  cases e:g a with
  |false=>cases g b <;> decide
  |true=>rw[mono a b hb h e];exact Int.le_refl _
 |n::r,a,b,hn,hb,h=>by
  obtain⟨n1,c1,c2,c3,c4,_⟩:=hn n List.mem_cons_self
  have hr:=λk hk=>hn k (List.mem_cons_of_mem _ hk)
  have i1:=L20 mono r a b hr hb h
  have i2:=L20 mono r (n::a) (n::b) hr (λk hk=>by rcases List.mem_cons.mp hk with rfl | hk;exact n1;exact hb k hk) λk hk=>by rcases List.mem_cons.mp hk with rfl | hk;exact List.mem_cons_self;exact List.mem_cons_of_mem _ (h k hk)
  unfold tot
  have k1:=Int.mul_le_mul_of_nonneg_left i2 c3
  have k2:=Int.mul_le_mul_of_nonneg_left i1 (show 0≤(c n).2 - (c n).1 by omega)
  omega
end
section
variable {m:Int}{ps cs:List (Int × Int)}{pl:List Nat}
theorem Y50(g:e00 m ps)(hp:d40 m pl)(hc:cs.length=ps.length)(ha:∀ c∈cs,IsC c){n:Nat}(hn:n < ps.length):∃ t1 t0 b:Int,0 < b∧t0≤t1∧∀ c:Int × Int,IsC c→Rt (i20 m ps (cs.set n c) pl) (c.1 * t1 + (c.2 - c.1) * t0) (c.2 * b):=by
 have fn:frees ps.length [] []=List.range ps.length:=List.filter_eq_self.mpr λ_ _=>rfl
 have hq:=h81 (K:=ps.length) (held:=[]) (lack:=[]) hn (λh=>nomatch h) (λh=>nomatch h)
 rw[fn,List.nil_append] at hq
 have mem:∀ k∈frees ps.length [] [n],k < ps.length∧k≠n:=λk hk=>by
  obtain⟨h1,_,h3⟩:=u20.mp hk
  exact⟨h1,λe=>h3 (by rw[e];exact List.mem_singleton.mpr rfl)⟩
 have hcf:∀ k∈frees ps.length [] [n],k < ps.length∧IsC (cf cs k):=λk hk=>⟨(mem k hk).1,v71 ha (by rw[hc];exact(mem k hk).1)⟩
 refine⟨tot (k60 ps m.toNat pl) (cf cs) (frees ps.length [] [n]) [n],tot (k60 ps m.toNat pl) (cf cs) (frees ps.length [] [n]) [],L50 (cf cs) (frees ps.length [] [n]),(K60 λk hk=>(hcf k hk).2).1,L20 (T71 g hp) _ _ _ hcf (λk hk=>by rw[List.mem_singleton.mp hk];exact hn) (λ_ h=>nomatch h),λc hC=>?_⟩
 have hl:(cs.set n c).length=ps.length:=by rw[List.length_set];exact hc
 have e1:∀ k∈frees ps.length [] [n],cf (cs.set n c) k=cf cs k:=λk hk=>by
  rw[cf,cf,List.getD_eq_getElem?_getD,List.getD_eq_getElem?_getD,List.getElem?_set_ne λe=>(mem k hk).2 e.symm]
 have e2:cf (cs.set n c) n=c:=by
  rw[cf,List.getD_eq_getElem?_getD,List.getElem?_set_self (by omega)];rfl
 rw[R10 g hp hl,d71 (e01 g hp) hq [] (λk hk=>List.mem_range.mp hk) (λ_ h=>nomatch h),v41 hq]
 have b0:0 < L50 (cf (cs.set n c)) (n::frees ps.length [] [n]):=(K60 λk hk=>by
  rcases List.mem_cons.mp hk with rfl | hk
  ·rw[e2];exact hC
  ·rw[e1 k hk];exact(hcf k hk).2).1
 have et:tot (k60 ps m.toNat pl) (cf (cs.set n c)) (n::frees ps.length [] [n]) []=(cf (cs.set n c) n).1 * tot (k60 ps m.toNat pl) (cf (cs.set n c)) (frees ps.length [] [n]) [n] + ((cf (cs.set n c) n).2 - (cf (cs.set n c) n).1) * tot (k60 ps m.toNat pl) (cf (cs.set n c)) (frees ps.length [] [n]) []:=rfl
 rw[e50,e2,i21 e1] at b0 ⊢
 rw[et,e2,u30 _ _ e1,u30 _ _ e1]
 exact Rt.low b0
theorem set_own{n:Nat}(h:n < cs.length):cs.set n (cf cs n)=cs:=by
 rw[cf,List.getD_eq_getElem?_getD,List.getElem?_eq_getElem h]
 exact List.set_getElem_self h
end
set_option exponentiation.threshold 5000
theorem k82:IsC (1,1):=⟨by decide,by decide,by decide,by decide,by decide⟩
theorem U01:IsC (0,1):=⟨by decide,by decide,by decide,by decide,by decide⟩
theorem Bs.up{n m:Nat}{c:Int × Int}(h:Bs n c)(hm:n≤m):Bs m c :=
 have e:=Nat.pow_le_pow_right (n:=2) (by decide) hm
 ⟨Nat.le_trans h.t e,h.b0,Nat.le_trans h.b e⟩
theorem Bs.low{n:Nat}{t b:Int}(h0:0 < b)(ht:t.natAbs≤2 ^ n)(hb:b.natAbs≤2 ^ n):Bs n (i60 t b) :=
 ⟨Nat.le_trans (Y20 h0).1 ht,w20 h0,Nat.le_trans (Y20 h0).2 hb⟩
theorem Bs.mul{n:Nat}{c d:Int × Int}(hc:Bs n c)(hd:Bs n d):Bs (n + n) (i60 (c.1 * d.1) (c.2 * d.2)):=.low (Int.mul_pos hc.b0 hd.b0) (o50 hc.t hd.t) (o50 hc.b hd.b)
theorem C70(k:Nat){n:Nat}{c d:Int × Int}(hc:Bs n c)(hd:Bs n d)(hn:n + n≤3999)(z:Z):b10 T (k + 4) n70 [.d (pr c),.d (pr d)] z=some (.ok (.d (pr (i60 (c.1 * d.1) (c.2 * d.2)))) z):=by
 have h1:n≤3999:=by omega
 refine W.ok (i00 (ps:=2) (ns:=2) (b:=o20) rfl rfl (by decide) ?_)
 refine(a00 (y40 h1 hc.t hd.t) ?_ :)
 refine(a00 (y40 h1 hc.b hd.b) ?_ :)
 exact Wo (w10 k _ _ z (Int.mul_pos hc.b0 hd.b0) (Y10 hn (o50 hc.b hd.b))) (sd rfl)
theorem m30(k:Nat){n:Nat}{c d:Int × Int}(hc:Bs n c)(hd:Bs n d)(hn:n≤3999)(z:Z):b10 T (k + 3) l50 [.d (pr c),.d (pr d)] z=some (.ok (.d (.bl (decide (c.1 * d.2 < d.1 * c.2)))) z):=by
 refine W.ok (i00 (ps:=2) (ns:=2) (b:=r80) rfl rfl (by decide) ?_)
 refine(a00 (y40 hn hc.t hd.b) ?_ :)
 refine(a00 (y40 hn hd.t hc.b) ?_ :)
 exact sd rfl
theorem y02(a:Int × Int):(!((a.1 == a.1)&&((a.2 == a.2)&&true)))=false:=by rw[beq_self_eq_true,beq_self_eq_true];rfl
section
variable {m:Int}{ps cs:List (Int × Int)}{pl:List Nat}{c:Int × Int}
noncomputable def k80(m:Int)(ps cs:List (Int × Int))(pl:List Nat)(n:Nat):Int × Int:=j52 (i20 m ps (cs.set n (1,1)) pl) (i20 m ps (cs.set n (0,1)) pl)
theorem u40(g:e00 m ps)(hp:d40 m pl)(hc:cs.length=ps.length)(ha:∀ c∈cs,IsC c){n:Nat}:Bs 161 (k80 m ps cs pl n) :=
 (g90 g hp (by rw[List.length_set];exact hc) (o70 ha k82)).s.sub (g90 g hp (by rw[List.length_set];exact hc) (o70 ha U01)).s
theorem E71(k:Nat)(g:e00 m ps)(hp:d40 m pl)(hc:cs.length=ps.length)(ha:∀ c∈cs,IsC c){n:Nat}(h:n < ps.length)(z:Z):b10 T (k + 7) s91 [.d (.tup (cs.map pr)),.d (.lst ((R50 m ps pl).map s10)),.d (.int n)] z=some (.ok (.d (pr (k80 m ps cs pl n))) z):=by
 have h8:=g.len
 have hc':∀ c,(cs.set n c).length=ps.length:=λc=>by rw[List.length_set];exact hc
 exact W.ok (i00 (ps:=3) (ns:=4) (b:=W70) rfl rfl (by decide) (Wo (j60 (k + 3) (c:=(1,1)) (by omega) (by omega) z) (Wo (e60 (k + 1) g (hc' _) (o70 ha k82) z) (Wo (j60 (k + 3) (c:=(0,1)) (by omega) (by omega) z) (Wo (e60 (k + 1) g (hc' _) (o70 ha U01) z) (Wo (e41 k (g90 g hp (hc' _) (o70 ha k82)).s (g90 g hp (hc' _) (o70 ha U01)).s (by decide) z) (sd rfl)))))))
noncomputable abbrev j70(m:Int)(ps cs:List (Int × Int))(pl:List Nat):List (Int × Int):=(List.range ps.length).map (k80 m ps cs pl)
theorem R80(g:e00 m ps)(hp:d40 m pl)(hc:cs.length=ps.length)(ha:∀ c∈cs,IsC c):∀ d∈j70 m ps cs pl,Bs 161 d:=λd hd=>by
 obtain⟨n,_,rfl⟩:=List.mem_map.mp hd
 exact u40 g hp hc ha
theorem C80(k:Nat)(g:e00 m ps)(hp:d40 m pl)(hc:cs.length=ps.length)(ha:∀ c∈cs,IsC c)(z:Z):b10 T (k + 11) z40 [.d (S30 m ps),.d (.tup (cs.map pr)),.d (.tup (pl.map f00))] z=some (.ok (.fr ((j70 m ps cs pl).map pr)) z):=by
 have h6:=hp.len g.m6
 have h8:=g.len
 refine W.ok (i00 (ps:=3) (ns:=4) (b:=J40) rfl rfl (by decide) (Wo (d70 k (m:=m) (ts:=ps.map pr) g.web z (d51 (by rw[List.length_map];exact hc) ha)) (Wo (d20 (k + 4) (t:=.tup (ps.map pr)) z hp.pls (decide_eq_true (by rw[List.length_map];omega))) (Wo (i30 (k + 1) g hp z) ?_))))
 refine(a00 (o:=itD .rng1 [.int ((cs.map pr).length:Nat)]) (X80 (n:=(cs.map pr).length) (by rw[List.length_map];omega)) ?_ :)
 refine ip (by rw[List.length_map,List.length_range',List.length_map];exact y30 (by omega)) (i41 (λx=>pr (k80 m ps cs pl (v22 x))) (λx hx=>?_) ?_)
 ·obtain⟨n,hn,rfl⟩:=List.mem_map.mp hx
  rw[List.mem_range'_1,List.length_map] at hn
  exact Wo (E71 (k + 3) g hp hc ha (n:=n) (by omega) z) ⟨rfl,rfl⟩
 ·refine sd ?_
  rw[List.map_map,List.map_map,List.length_map,hc,List.range_eq_range'];rfl
theorem C90(k:Nat)(g:e00 m ps)(hp:d40 m pl)(hc:cs.length=ps.length)(ha:∀ c∈cs,IsC c)(z:Z):b10 T (k + 12) v00 [.d (S30 m ps),.d (.tup (cs.map pr)),.d (.tup (pl.map f00))] z=some (.ok (.d (E61 (fg (j70 m ps cs pl) ps.length))) z):=by
 have c1:=k70 (k + 7) (R80 g hp hc ha) (by decide) z
 rw[show(j70 m ps cs pl).length=ps.length by rw[List.length_map,List.length_range]] at c1
 exact W.ok (i00 (ps:=3) (ns:=3) (b:=v80) rfl rfl (by decide) (Wo (C80 k g hp hc ha z) (Wo c1 (sd rfl))))
theorem e61{t1 t0 b:Int}(hb:0 < b){n:Nat}(h:∀ c:Int × Int,IsC c→Rt (i20 m ps (cs.set n c) pl) (c.1 * t1 + (c.2 - c.1) * t0) (c.2 * b)):Rt (k80 m ps cs pl n) (t1 - t0) b:=by
 have:=(h _ k82).sub (h _ U01)
 have p:=Int.mul_pos hb hb
 refine this.conv (by simpa using p) ?_
 grind
theorem w71(hc:cs.length=ps.length){t1 t0 b:Int}(hb:0 < b){n:Nat}(hn:n < ps.length)(h:∀ c:Int × Int,IsC c→Rt (i20 m ps (cs.set n c) pl) (c.1 * t1 + (c.2 - c.1) * t0) (c.2 * b))(ho:IsC (cf cs n))(hC:IsC c):Rt (s00 m ps cs pl c n) ((t1 - t0) * (c.1 * (cf cs n).2 + -(cf cs n).1 * c.2)) (b * (c.2 * (cf cs n).2)):=by
 have h1:=h _ ho
 rw[set_own (by omega)] at h1
 have:=(h _ hC).sub h1
 have p1:0 < c.2:=by have:=hC.1;omega
 have p2:0 < (cf cs n).2:=by have:=ho.1;omega
 refine this.conv (Int.mul_pos (Int.mul_pos p1 hb) (Int.mul_pos p2 hb)) ?_
 generalize cf cs n=o
 grind
end
set_option exponentiation.threshold 5000
theorem U11(b:Bool):∃ mo:Int,L30 (.lst [.int 5,.int 8]) (.int (if b=true then 1 else 0))=some (.int mo)∧0≤mo∧mo≤8:=by
 cases b with
 |true=>exact⟨8,rfl,by decide,by decide⟩
 |false=>exact⟨5,rfl,by decide,by decide⟩
noncomputable abbrev k92(L:Int):Int:=if (if (5:Int) < L then 5 else L) > 1 then(if (5:Int) < L then 5 else L) else 1
theorem U21{l:List (Int × Int)}:y70 .eq (.tup (l.map pr)) (.tup [])=some (l.map pr).isEmpty:=by
 show(if okD (.tup (l.map pr))&&okD (.tup []) then some (eqD (.tup (l.map pr)) (.tup [])) else _)=_
 rw[u61]
 cases l <;> rfl
theorem U31{l:List (Int × Int)}:y70 .ne (.tup (l.map pr)) (.tup [])=some (!(l.map pr).isEmpty):=by
 show(eqO (.tup (l.map pr)) (.tup [])).map (!·)=_
 unfold eqO
 rw[u61]
 cases l <;> rfl
theorem F70{f:Nat→Int × Int}{K n:Nat}(h:n < K):lf ((List.range K).map f) n=f n:=by
 rw[lf,List.getD_eq_getElem?_getD,List.getElem?_map,List.getElem?_range h];rfl
theorem idx_map{f:Nat→Int × Int}{K n:Nat}(h:n < K):L30 (.lst (((List.range K).map f).map pr)) (.int n)=some (pr (f n)):=by
 rw[w21 (by rw[List.length_map,List.length_range];exact h),F70 h]
section
variable {m:Int}{ps cs:List (Int × Int)}{pl:List Nat}{c:Int × Int}
theorem w81(hc:cs.length=ps.length)(ha:∀ c∈cs,IsC c){n:Nat}(hn:n < ps.length):IsC (cf cs n):=v71 ha (by omega)
theorem G02(k:Nat)(g:e00 m ps)(hp:d40 m pl)(hc:cs.length=ps.length)(ha:∀ c∈cs,IsC c)(hC:IsC c){n:Nat}(hn:n < ps.length){st:Int × Int}{z:Z}{Q:O→Z→Prop}{E:Nat→Z→Prop}{tp:Bool}{o9:Option S}(q:Q (.rt (.d (.bl true))) z):WS (U00 T (k + 9 + 2)) tp (tl (tl (tl (tl (tl (tl (tl c50))))))) [some (.d (S30 m ps)),some (.d (.tup (cs.map pr))),some (.d (.tup (pl.map f00))),some (.d (.int n)),some (.d (pr c)),some (.d (pr (k80 m ps cs pl n))),some (.d (pr (cf cs n))),some (.d (pr st)),some (.d (pr (s00 m ps cs pl c n))),o9,some (.d (pr (i20 m ps cs pl)))] z Q E:=by
 obtain⟨t1,t0,b,hb,ht,hs⟩:=Y50 g hp hc ha hn
 have ho:=w81 hc ha hn
 have gr:=w71 hc hb hn hs ho hC
 have p1:0 < c.2:=by have:=hC.1;omega
 have p2:0 < (cf cs n).2:=by have:=ho.1;omega
 refine Wo (e31 k g hp hc ha z) (ie (y02 (i20 m ps cs pl)) ?_)
 refine ib (b:=decide (0≤(s00 m ps cs pl c n).1)) (λ_=>q) λhg=>?_
 have e:decide (c.1 * (cf cs n).2 < (cf cs n).1 * c.2)=true:=by
  rw[decide_eq_false_iff_not] at hg
  rw[decide_eq_true]
  refine Int.not_le.mp λhle=>hg (gr.pos (Int.mul_pos hb (Int.mul_pos p1 p2)) (Int.mul_nonneg (by omega) ?_))
  rw[Int.neg_mul];omega
 have q1:=m30 (k + 8) hC.s ho.s (by decide) z
 rw[e] at q1
 exact Wo q1 q
theorem G12(k:Nat)(g:e00 m ps)(hp:d40 m pl)(hc:cs.length=ps.length)(ha:∀ c∈cs,IsC c)(hC:IsC c){n:Nat}(hn:n < ps.length){st:Int × Int}{z:Z}{Q:O→Z→Prop}{E:Nat→Z→Prop}{tp:Bool}(q:Q (.rt (.d (.bl true))) z):WS (U00 T (k + 9 + 2)) tp (tl (tl (tl (tl (tl c50))))) [some (.d (S30 m ps)),some (.d (.tup (cs.map pr))),some (.d (.tup (pl.map f00))),some (.d (.int n)),some (.d (pr c)),some (.d (pr (k80 m ps cs pl n))),some (.d (pr (cf cs n))),some (.d (pr st)),some (.d (pr (s00 m ps cs pl c n))),none,none] z Q E:=by
 have h8:=g.len
 obtain⟨t1,t0,b,hb,ht,hs⟩:=Y50 g hp hc ha hn
 have ho:=w81 hc ha hn
 have hs0:=hs _ ho
 rw[set_own (by omega)] at hs0
 have wr:=e61 hb hs
 have wb:=u40 (n:=n) g hp hc ha
 have p2:0 < (cf cs n).2:=by have:=ho.1;omega
 have hc0:(cs.set n (0,1)).length=ps.length:=by rw[List.length_set];exact hc
 have b0:=g90 g hp hc0 (o70 ha U01)
 have tb:Bs 322 (i60 ((cf cs n).1 * (k80 m ps cs pl n).1) ((cf cs n).2 * (k80 m ps cs pl n).2)):=(ho.s.up (m:=161) (by decide)).mul wb
 have q3:=F50 (k + 7) (b0.s.up (by decide)) tb (by decide) z
 have qq:=(hs _ U01).add (ho.rt.mul wr)
 have pb:0 < (1:Int) * b * ((cf cs n).2 * b):=Int.mul_pos (by omega) (Int.mul_pos p2 hb)
 rw[(qq.conv (t':=(cf cs n).1 * t1 + ((cf cs n).2 - (cf cs n).1) * t0) (b':=(cf cs n).2 * b) pb (by generalize cf cs n=o;grind)).eqv hs0 (Int.mul_pos p2 hb)] at q3
 obtain⟨e1,e2⟩:=j62 (cs:=cs) (n:=n) (c:=(0,1)) (by omega) (by omega)
 refine(a00 e1 ?_ :)
 refine(a00 e2 ?_ :)
 refine Wo (e31 k g hp hc0 (o70 ha U01) z) (Wo (C70 (k + 7) (ho.s.up (by decide)) wb (by decide) z) (Wo q3 ?_))
 exact G02 k g hp hc ha hC hn q
theorem R90(k:Nat)(g:e00 m ps)(hp:d40 m pl)(hc:cs.length=ps.length)(ha:∀ c∈cs,IsC c)(hC:IsC c){n:Nat}(hn:n < ps.length)(z:Z):b10 T (k + 12) m80 [.d (S30 m ps),.d (.tup (cs.map pr)),.d (.tup (pl.map f00)),.d (.int n),.d (pr c)] z=some (.ok (.d (.bl true)) z):=by
 have h8:=g.len
 obtain⟨t1,t0,b,hb,ht,hs⟩:=Y50 g hp hc ha hn
 have ho:=w81 hc ha hn
 have wr:=e61 hb hs
 have gr:=w71 hc hb hn hs ho hC
 have wb:=u40 (n:=n) g hp hc ha
 have p1:0 < c.2:=by have:=hC.1;omega
 have p2:0 < (cf cs n).2:=by have:=ho.1;omega
 have ob:Bs 10 (0 - (cf cs n).1,(cf cs n).2):=by rw[Int.zero_sub];exact ho.s.neg
 have sr:Rt (i60 (c.1 * (cf cs n).2 + (0 - (cf cs n).1) * c.2) (c.2 * (cf cs n).2)) (c.1 * (cf cs n).2 + -(cf cs n).1 * c.2) (c.2 * (cf cs n).2):=by
  rw[Int.zero_sub];exact Rt.low (Int.mul_pos p1 p2)
 have sb':Bs 161 (i60 (c.1 * (cf cs n).2 + (0 - (cf cs n).1) * c.2) (c.2 * (cf cs n).2)):=by
  rw[Int.zero_sub];exact(hC.s.sub ho.s).up (by decide)
 have et:=(wr.mul sr).eqv gr (Int.mul_pos hb (Int.mul_pos p1 p2))
 have q1:=F50 (k + 7) hC.s ob (by decide) z
 have q1:b10 T (k + 7 + 4) l30 [.d (pr c),.d (pr (0 - (cf cs n).1,(cf cs n).2))] z=some (.ok (.d (pr (i60 (c.1 * (cf cs n).2 + (0 - (cf cs n).1) * c.2) (c.2 * (cf cs n).2)))) z):=q1
 generalize i60 (c.1 * (cf cs n).2 + (0 - (cf cs n).1) * c.2) (c.2 * (cf cs n).2)=st at sr sb' et q1
 have q2:=C70 (k + 7) wb sb' (by decide) z
 rw[et] at q2
 refine W.ok (i00 (k:=k + 9) (ps:=5) (ns:=11) (b:=c50) rfl rfl (by decide) (Wo (C80 k g hp hc ha z) ?_))
 refine(a00 (idx_map (f:=k80 m ps cs pl) hn) ?_ :)
 refine(a00 (j22 (cs:=cs) (n:=n) (by omega)) ?_ :)
 refine Wo q1 (Wo (Y30 k g hp hc ha hC hn z) (Wo q2 (ie (y02 (s00 m ps cs pl c n)) (ie (b:=decide ((k80 m ps cs pl n).1 < 0)) (decide_eq_false (by have:=wr.pos hb (by omega);omega)) ?_))))
 exact G12 k g hp hc ha hC hn (sd rfl)
noncomputable abbrev l02(ns:List Int)(j:Nat)(m:Int)(ps cs:List (Int × Int))(pl:List Nat)(c:Int × Int)(o7 o8 o9 o10 o11:Option S):Env:=[some (.d (.lst (ns.map D.int))),some (.d (.int j)),some .z,some (.d (S30 m ps)),some (.d (.tup (pl.map f00))),some (.d (.tup (cs.map pr))),some (.d (pr c)),o7,o8,o9,o10,o11]
theorem E81(k:Nat){ns:List Int}{j:Nat}{z:Z}(g:e00 m ps)(hp:d40 m pl)(hc:cs.length=ps.length)(ha:∀ c∈cs,IsC c)(hC:IsC c)(hz:ZI z)(h0:0 < ps.length){o8 o9 o10 o11:Option S}{Q:O→Z→Prop}{E:Nat→Z→Prop}
  (q:∀ (z:Z) (o7 o8 o9 o10 o11:Option S),Q (.nx (l02 ns j m ps cs pl c o7 o8 o9 o10 o11)) z) :
  WS (U00 T (k + 37 + 2)) true (match t21 with | .seq (.fr _ _ _ (.seq _ (.seq _ (.seq _ (.seq _ (.seq _ (.seq _ (.seq (.iff _ r _) _)))))))) _=>r | _=>.nil) (l02 ns j m ps cs pl c (some (.d (E61 (R70 (x60 m ps cs pl c ps.length))))) o8 o9 o10 o11) z Q E:=by
 have h8:=g.len
 have gb:=e51 (j:=ps.length) g hp hc ha hC
 have glen:(x60 m ps cs pl c ps.length).length=ps.length:=by rw[List.length_map,List.length_range]
 refine(g40 (k + 36) (((ps.map pr).length:Nat):Int) hz (by rw[List.length_map];omega) (by rw[List.length_map];omega)).imp λs z1 ⟨hz1,n,e,hn⟩=>?_
 subst e
 rw[List.length_map] at hn
 have hn:n < ps.length:=by omega
 obtain⟨i,hi⟩:=Y40 (l:=j70 m ps cs pl) h0
 have hi':=i11 hi
 have wl:(j70 m ps cs pl).length=ps.length:=by rw[List.length_map,List.length_range]
 have bt:=C90 (k + 27) g hp hc ha z1
 rw[hi] at bt
 have wm:=w61 (R80 g hp hc ha) (j:=ps.length) (by rw[wl];exact Nat.le_refl _) hi n hn
 rw[F70 hn,F70 hi'] at wm
 refine Wo (C80 (k + 28) g hp hc ha z1) (Wo bt ?_)
 refine(a00 (idx_map (f:=k80 m ps cs pl) hi') ?_ :)
 refine(a00 (idx_map (f:=k80 m ps cs pl) hn) ?_ :)
 refine Wo (m30 (k + 36) (u40 (n:=i) g hp hc ha) (u40 (n:=n) g hp hc ha) (by decide) z1) (ie (b:=decide _) (decide_eq_false (Int.not_lt.mpr wm)) ?_)
 refine Wo (R90 (k + 27) g hp hc ha hC hn z1) (Wo (Y30 (k + 28) g hp hc ha hC hn z1) ?_)
 obtain⟨i2,hf⟩:=Y40 (l:=x60 m ps cs pl c ps.length) h0
 have hi2:=i11 hf
 have gm:=w61 gb (by rw[glen];exact Nat.le_refl _) hf n hn
 rw[F70 hn,F70 hi2] at gm
 have er:R70 (x60 m ps cs pl c ps.length)=if (s00 m ps cs pl c i2).1≤0 then none else some i2:=by
  unfold R70
  rw[glen,hf]
  show(if (lf _ i2).1≤0 then _ else _)=_
  rw[F70 hi2]
 have gn:=L00 (n:=n) g hp hc ha hC
 by_cases hle:(s00 m ps cs pl c i2).1≤0
 ·rw[er,if_pos hle]
  refine Wo (m30 (k + 36) (n:=161) (c:=(0,1)) ⟨by decide,by decide,by decide⟩ gn (by decide) z1) (ie (b:=decide _) (decide_eq_false ?_) (q _ _ _ _ _ _))
  show ¬ (0 * (s00 m ps cs pl c n).2 < (s00 m ps cs pl c n).1 * 1)
  rw[Int.zero_mul,Int.mul_one]
  intro hpos
  have b2:=(L00 (n:=i2) g hp hc ha hC).b0
  have k1:=Int.mul_pos hpos b2
  have k2:=Int.mul_nonpos_of_nonpos_of_nonneg hle (Int.le_of_lt gn.b0)
  unfold leF at gm
  omega
 ·rw[er,if_neg hle]
  refine Wo (Y30 (k + 28) g hp hc ha hC hi2 z1) ?_
  exact Wo (m30 (k + 36) (L00 (n:=i2) g hp hc ha hC) gn (by decide) z1) (ie (b:=decide _) (decide_eq_false (Int.not_lt.mpr gm)) (q _ _ _ _ _ _))
theorem E91(k:Nat){ns:List Int}{j:Nat}{z:Z}(g:e00 m ps)(hp:d40 m pl)(hc:cs.length=ps.length)(ha:∀ c∈cs,IsC c)(hC:IsC c)(hz:ZI z){o7 o8 o9 o10 o11:Option S}{Q:O→Z→Prop}{E:Nat→Z→Prop}
  (q:∀ (z:Z) (o7 o8 o9 o10 o11:Option S),Q (.nx (l02 ns j m ps cs pl c o7 o8 o9 o10 o11)) z) :
  WS (U00 T (k + 37 + 2)) true (match t21 with | .seq (.fr _ _ _ (.seq _ (.seq _ (.seq _ (.seq _ r))))) _=>r | _=>.nil) (l02 ns j m ps cs pl c o7 o8 o9 o10 o11) z Q E:=by
 have bt:=C90 (k + 27) g hp hc ha z
 have en:E10 (E61 (fg (j70 m ps cs pl) ps.length))=(ps.map pr).isEmpty:=by
  cases ps with
  |nil=>rfl
  |cons p r =>
   obtain⟨i,hi⟩:=Y40 (l:=j70 m (p::r) cs pl) (j:=(p::r).length) (Nat.succ_pos _)
   rw[hi];rfl
 refine Wo bt ?_
 refine(a00 (o:=y70 .is (E61 (fg (j70 m ps cs pl) ps.length)) .non) (a:=(ps.map pr).isEmpty) (by rw[← en];cases fg (j70 m ps cs pl) ps.length <;> rfl) ?_ :)
 refine(a00 U21 ?_ :)
 refine ie (b:=!((ps.map pr).isEmpty == (ps.map pr).isEmpty)) (by rw[beq_self_eq_true];rfl) ?_
 refine Wo (L10 (k + 28) g hp hc ha hC z) ?_
 refine(a00 U31 ?_ :)
 refine ib (b:=!(ps.map pr).isEmpty) (λhe=>?_) λhe=>q _ _ _ _ _ _
 exact E81 k g hp hc ha hC hz (by cases ps with | nil=>cases he | cons _ _=>exact Nat.succ_pos _) q
end
theorem j72(k:Nat)(ns:List Int):b10 T (k + 40) i22 [.d (.lst (ns.map D.int))] none=some (.ok (.d (.bl true)) none):=by
 refine W.ok (i00 (k:=k + 37) (ps:=1) (ns:=12) (b:=t21) rfl rfl (by decide) ?_)
 have hN:0≤k92 ((ns.map D.int).length:Int)∧k92 ((ns.map D.int).length:Int) < 100000:=by
  unfold k92
  split <;> (try split) <;> omega
 refine(a00 (Q10 (m:=k92 ((ns.map D.int).length:Int)) hN.1 hN.2) ?_ :)
 refine P50 (λxs ρ z=>(∀ x∈xs,∃ j:Nat,x=.int j)∧∃ o1 o2 o3 o4 o5 o6 o7 o8 o9 o10 o11:Option S,ρ=[some (.d (.lst (ns.map D.int))),o1,o2,o3,o4,o5,o6,o7,o8,o9,o10,o11]) _ ⟨λx hx=>?_,_,_,_,_,_,_,_,_,_,_,_,rfl⟩ ?_ ?_
 ·obtain⟨i,_,rfl⟩:=List.mem_map.mp hx
  exact⟨i,rfl⟩
 ·rintro x r ρ z1 ⟨hx,o1,o2,o3,o4,o5,o6,o7,o8,o9,o10,o11,rfl⟩
  obtain⟨j,rfl⟩:=hx x List.mem_cons_self
  obtain⟨sn,sb,hz1,hst⟩:=D91 (k + 35) ns j z1
  obtain⟨mo,emo,h0,h8⟩:=U11 ((j:Int) == 0)
  refine Wo hst ?_
  refine(a00 emo ?_ :)
  refine(u91 (k + 34) hz1 h0 h8).imp λs z2 ⟨hz2,m,ps,e,g,_⟩=>?_
  subst e
  refine(Q80 (k + 35) (t:=.tup (ps.map pr)) g.m1 g.m6 hz2).imp λs z3 ⟨hz3,pl,e,hp⟩=>?_
  subst e
  refine(J90 (k + 34) (m:=m) (ts:=ps.map pr) hz3 (by rw[List.length_map];exact g.len)).imp λs z4 ⟨hz4,cs,e,hc,ha⟩=>?_
  subst e
  rw[List.length_map] at hc
  refine(x40 (k + 35) hz4).imp λs z5 ⟨hz5,c,e,hC⟩=>?_
  subst e
  exact E91 k g hp hc ha hC hz5 λ_ _ _ _ _ _=>⟨λx hx'=>hx x (List.mem_cons_of_mem _ hx'),_,_,_,_,_,_,_,_,_,_,_,rfl⟩
 ·rintro ρ z1 ⟨_,o1,o2,o3,o4,o5,o6,o7,o8,o9,o10,o11,rfl⟩
  exact⟨rfl,rfl⟩
theorem pure:∀ ns:List Int,ns.length≤63→b10 (tabOf rows) 40 i22 [.d (.lst (ns.map D.int))] none=some (.ok (.d (.bl true)) none):=λns _=>by
 rw[F82]
 exact j72 0 ns
end K3
namespace K3
open PySem L2 Q
theorem ok:rows.all (V21 (D20 rows) nums cn)=true:=by decide +kernel
theorem bd:n50 rows:=⟨λ_ _ _ _ _ _ us hl=>by obtain⟨_,_,rfl⟩:=us2 hl;rfl,
 λ_ _ _ _ _ _ us hl=>by obtain⟨_,_,rfl⟩:=us2 hl;rfl,
 λ_ _ _ _ _ _ us hl=>by obtain⟨_,_,rfl⟩:=us2 hl;rfl,
 λ_ _ _ _ _ _ us hl=>by obtain⟨_,_,rfl⟩:=us2 hl;rfl,
 λ_ _ _ _ _ _ us hl=>by obtain⟨_,_,rfl⟩:=us2 hl;rfl,
 λ_ _ _ _ _ _ us hl=>by obtain⟨_,rfl⟩:=us1 hl;rfl,
 λ_ _ _ _ _ _ us hl=>by obtain⟨_,rfl⟩:=us1 hl;rfl,
 λ_ _ _ _ _ _ us hl=>by obtain⟨_,_,rfl⟩:=us2 hl;rfl,
 λ_ _ _ _ _ _ us hl=>by obtain⟨_,_,rfl⟩:=us2 hl;rfl,
 λ_ _ _ _ _ _ us hl=>by obtain⟨_,_,rfl⟩:=us2 hl;rfl,
 λ_ _ _ _ _ _ us hl=>by obtain⟨_,rfl⟩:=us1 hl;rfl,
 λ_ _ _ _ _ _ us hl=>by obtain⟨_,rfl⟩:=us1 hl;rfl,
 λ_ _ _ _ _ _ us hl=>by obtain⟨_,_,rfl⟩:=us2 hl;rfl,
 λ_ _ _ _ _ _ us hl=>by obtain⟨_,rfl⟩:=us1 hl;rfl,
 λ_ _ _ _ _ _ us hl=>by obtain⟨_,_,rfl⟩:=us2 hl;rfl,
 λ_ _ _ _ _ _ us hl=>by obtain⟨_,_,rfl⟩:=us2 hl;rfl,
 λ_ _ _ _ _ _ us hl=>by obtain⟨_,_,rfl⟩:=us2 hl;rfl,
 λ_ _ _ _ _ _ us hl=>by obtain⟨_,_,_,rfl⟩:=us3 hl;rfl,
 λ_ _ _ _ _ _ us hl=>by obtain⟨_,rfl⟩:=us1 hl;rfl,
 λ_ _ _ _ _ _ us hl=>by obtain⟨_,_,rfl⟩:=us2 hl;rfl,
 λ_ _ _ _ _ _ us hl=>by obtain⟨_,rfl⟩:=us1 hl;rfl,
 λ_ _ _ _ _ _ us hl=>by obtain⟨_,_,rfl⟩:=us2 hl;rfl,
 λ_ _ _ _ _ _ us hl=>by obtain⟨_,_,_,rfl⟩:=us3 hl;rfl,
 λ_ _ _ _ _ _ us hl=>by obtain⟨_,rfl⟩:=us1 hl;rfl,
 λ_ _ _ _ _ _ us hl=>by obtain⟨_,_,rfl⟩:=us2 hl;rfl,
 λ_ _ _ _ _ _ us hl=>by obtain⟨_,rfl⟩:=us1 hl;rfl,
 λ_ _ _ _ _ _ us hl=>by obtain⟨_,_,rfl⟩:=us2 hl;rfl,
 λ_ _ _ _ _ _ us hl=>by obtain⟨_,_,rfl⟩:=us2 hl;rfl,
 λ_ _ _ _ _ _ us hl=>by obtain⟨_,_,_,rfl⟩:=us3 hl;rfl,
 λ_ _ _ _ _ _ us hl=>by obtain⟨_,_,_,rfl⟩:=us3 hl;rfl,
 λ_ _ _ _ _ _ us hl=>by obtain⟨_,_,_,rfl⟩:=us3 hl;rfl,
 λ_ _ _ _ _ _ us hl=>by obtain⟨_,_,_,rfl⟩:=us3 hl;rfl,
 λ_ _ _ _ _ _ us hl=>by obtain⟨_,_,_,_,rfl⟩:=us4 hl;rfl,
 λ_ _ _ _ _ _ us hl=>by obtain⟨_,_,_,_,_,rfl⟩:=us5 hl;rfl,
 λ_ _ _ _ _ _ us hl=>by obtain⟨_,_,_,_,rfl⟩:=us4 hl;rfl,
 λ_ _ _ _ _ _ us hl=>by obtain⟨_,_,rfl⟩:=us2 hl;rfl,
 λ_ _ _ _ _ _ us hl=>by obtain⟨_,_,rfl⟩:=us2 hl;rfl,
 λ_ _ _ _ _ _ us hl=>by obtain⟨_,_,rfl⟩:=us2 hl;rfl,
 λ_ _ _ _ _ _ us hl=>by obtain⟨_,_,rfl⟩:=us2 hl;rfl,
 λ_ _ _ _ _ _ us hl=>by obtain⟨_,_,rfl⟩:=us2 hl;rfl,
 λ_ _ _ _ _ _ us hl=>by obtain⟨_,_,rfl⟩:=us2 hl;rfl,
 λ_ _ _ _ _ _ us hl=>by obtain⟨_,_,rfl⟩:=us2 hl;rfl,
 λ_ _ _ _ _ _ us hl=>by obtain⟨_,_,rfl⟩:=us2 hl;rfl,
 λ_ _ _ _ _ _ us hl=>by obtain⟨_,_,rfl⟩:=us2 hl;rfl,
 λ_ _ _ _ _ _ us hl=>by obtain⟨_,rfl⟩:=us1 hl;rfl,
 λ_ _ _ _ _ _ us hl=>by obtain⟨_,_,rfl⟩:=us2 hl;rfl,
 λ_ _ _ _ _ _ us hl=>by obtain⟨_,_,rfl⟩:=us2 hl;rfl,
 λ_ _ _ _ _ _ us hl=>by obtain⟨_,_,_,_,_,rfl⟩:=us5 hl;rfl,
 λ_ _ _ _ _ _ us hl=>by obtain⟨_,rfl⟩:=us1 hl;rfl,trivial⟩
end K3
namespace K3
open PySem L2 Q
noncomputable def asks:m90:=P30 rows nums cn
noncomputable def prg:Program:=PySem.Challenge.pw_tiechances_k72_whole_betters
noncomputable def vq:Program:=PySem.W.view prg [65]
noncomputable def loose:List Str:=prg.boundNames.filter λx=>!(x == ("law":Str))
noncomputable def runL(w:World)(os:OsState):=(B90 PySem.W.through (PySem.W.stepOk 11 (some (.ref 6))) (PySem.W.stepT (denote treeTable) prg w) 20000 (R51 w os) (PySem.W.topStub prg)).map (λs =>
   (PySem.W.staticsOk (importedModules prg.main.body) (PySem.W.boot_heap w.params) s.abs.heap&&PySem.W.namesBound prg s.abs.heap&&PySem.W.gensDone s.abs&&PySem.W.laidKept (PySem.W.boot_heap w.params) s.abs.heap,
    PySem.W.openSeen vq loose (importedModules prg.main.body) (λ_=>true) true s.abs,asks.obs s.abs))
noncomputable def runR(w:World):=some (true,PySem.W.openGood vq loose,asks.due w)
noncomputable def _root_.PySem.W.Fast.tw5774095029423087542:PySem.Program:=PySem.Challenge.pw_tiechances_k72_whole_betters
theorem _root_.PySem.W.Fast.te5774095029423087542:PySem.Challenge.pw_tiechances_k72_whole_betters=PySem.W.Fast.tw5774095029423087542:=rfl
theorem twins:(λ(_:runL=runL∧runR=runR)=>true) ⟨rfl,rfl⟩=true:=by k_qdec
theorem run_eq:∀ (w:World) (os:OsState),PySem.W.Fast.tw14075725262101462980 w os=PySem.W.Fast.tw18139657281711212703 w:=λw os=>by kernel_rfl
theorem left:PySem.W.LeftO PySem.Challenge.pw_tiechances_k72_whole_betters vq loose (λ_=>true) asks.hook.obs asks.hook.val 20000:=R61 (by kernel_rfl) rfl (λ_=>by kernel_rfl) λw os =>
 (congrFun (congrFun PySem.W.Fast.te14075725262101462980 w) os).trans ((run_eq w os).trans (congrFun PySem.W.Fast.te18139657281711212703 w).symm)
end K3
open PySem PySem.W PyProof.Rows
set_option maxRecDepth 100000 in
set_option maxHeartbeats 0 in
theorem PySem.Challenge.cw_tiechances_k72_whole_betters_holds : PySem.Challenge.rw_tiechances_k72_whole_betters.Holds := by
 w_on;o_law
 refine holds_open (q:=K3.vq) (loose:=K3.loose) (Xt:=λ_=>true) (XP:=λ_ _=>True) (Yf:=K3.asks.hook.obs) (Ya:=K3.asks.hook.val) (YP:=K3.asks.hook.says) K3.left K3.asks.hook.of K3.asks.hook.keeps (λ_ _=>trivial) (λ_ _ _ _ _=>trivial) (by rfl) (by rfl) (by rfl) (λs _=>recFacts_of rfl) rfl (by first | assumption | decide +kernel) (by decide +kernel) ⟨rfl,rfl,rfl,rfl,rfl,by decide +kernel⟩ ?hw ?hc
 case hw=>w_witness2
 case hc=>exact Q.D61 (l:=PySem.Challenge.rw_tiechances_k72_whole_betters) (n:=63) (k:=40) (x:="_law_script") rfl (by decide) rfl ⟨rfl,by decide,by decide⟩ (Q.S11 (k:=37) (iL:=48) K3.ok K3.bd rfl rfl rfl K3.pure)
