import PyProof.Rows.All
import Wide.All
import OpenK.AllK
import Wide.FinOn
import Lean
import PyProof.EqAt
import PyProof.EqKinds
import PyProof.TupleCall
import KE.KSortTup
import OpenK.KRaise
import OpenK.KOwn
import PyProof.ExcBaseAll.ValueError
import KE.KIsAll
import PyProof.ExcAttrAll.ValueError
import PyProof.NsDelKeeps
import PyProof.RulesAs
import KE.KTryMore
import KE.KLam
import KE.KNestM
import OpenK.KEqL
import PyProof.Rows.EqDataRows
import PySem.Challenge.RW_tiechances_k03_chances_known
set_option Elab.async false
set_option linter.all false
set_option maxRecDepth 100000
/-! THE HAND LAYER, for ints, bools, texts, own classes, LISTS and tuples (index, slices, in, append, pop ..), calls, loops. Paste it whole ahead of your own text; what your proof does not reach may be deleted. -/
namespace L2
open PySem PySem.Spec PyProof.Rows

/-- a key: an int or a str -/
abbrev Key := Sum Int Str
def keyIs : Key → Value → Bool
  | .inl k, v => Value.isInt k v
  | .inr x, v => Value.isStrOf x v
def keyH (w : World) : Key → Int
  | .inl k => hashInt k
  | .inr x => hashStr w x
theorem keyIs_shape : ∀ {k : Key} {v : Value}, keyIs k v = true → (∃ i t, k = Sum.inl i ∧ v = Value.int i t) ∨ (∃ x t, k = Sum.inr x ∧ v = Value.str x t)
  | .inl i, v, h => by
    obtain ⟨t, e⟩ := Value.isInt_shape (k := i) (v := v) h
    exact .inl ⟨i, t, rfl, e⟩
  | .inr x, v, h => by
    obtain ⟨t, e⟩ := Value.isStrOf_shape (x := x) (v := v) h
    exact .inr ⟨x, t, rfl, e⟩
theorem keyIs_int (i : Int) (t : Tok) : keyIs (.inl i) (.int i t) = true := by simp [keyIs, Value.isInt]
theorem keyIs_str (x : Str) (t : Tok) : keyIs (.inr x) (.str x t) = true := by simp [keyIs, Value.isStrOf]
theorem key_ll (a b : Int) : decide ((Sum.inl a : Key) = Sum.inl b) = (a == b) := by
  by_cases e : a = b
  · subst e; simp
  · have h : ¬ (Sum.inl a : Key) = Sum.inl b := fun q => e (Sum.inl.inj q)
    rw [decide_eq_false h]
    exact (beq_eq_false_iff_ne.mpr e).symm
theorem key_rr (a b : Str) : decide ((Sum.inr a : Key) = Sum.inr b) = decide (a = b) := by
  by_cases e : a = b
  · subst e; simp
  · have h : ¬ (Sum.inr a : Key) = Sum.inr b := fun q => e (Sum.inr.inj q)
    rw [decide_eq_false h, decide_eq_false e]
theorem key_lr (a : Int) (b : Str) : decide ((Sum.inl a : Key) = Sum.inr b) = false := decide_eq_false (fun q => nomatch q)
theorem key_rl (a : Str) (b : Int) : decide ((Sum.inr a : Key) = Sum.inl b) = false := decide_eq_false (fun q => nomatch q)

def mixKind (prog : Program) (w : World) : PySem.KeyKind prog w Key where
  is := keyIs
  hash := keyH w
  inj := fun v a b ha hb => by
    rcases keyIs_shape ha with ⟨i, t, rfl, rfl⟩ | ⟨x, t, rfl, rfl⟩
    · rcases keyIs_shape hb with ⟨j, u, rfl, e⟩ | ⟨y, u, rfl, e⟩
      · injection e with e1 _; rw [e1]
      · exact nomatch e
    · rcases keyIs_shape hb with ⟨j, u, rfl, e⟩ | ⟨y, u, rfl, e⟩
      · exact nomatch e
      · injection e with e1 _; rw [e1]
  byValue := fun k v h => by
    rcases keyIs_shape h with ⟨i, t, rfl, rfl⟩ | ⟨x, t, rfl, rfl⟩ <;> rfl
  pyHash := fun hv h => by
    rcases keyIs_shape hv with ⟨i, t, rfl, rfl⟩ | ⟨x, t, rfl, rfl⟩
    · exact wpAny_pyHash_int h
    · exact wpAny_pyHash_str h
  eqBool := fun hu hv h => by
    rcases keyIs_shape hu with ⟨i, t, rfl, rfl⟩ | ⟨x, t, rfl, rfl⟩
    · rcases keyIs_shape hv with ⟨j, u, rfl, rfl⟩ | ⟨y, u, rfl, rfl⟩
      · rw [key_ll] at h; exact wpAny_eqBool_int h
      · rw [key_lr] at h; exact SeqAt.EqAt.int_str i t y u _ _ _ _ h
    · rcases keyIs_shape hv with ⟨j, u, rfl, rfl⟩ | ⟨y, u, rfl, rfl⟩
      · rw [key_rl] at h; exact SeqAt.EqAt.str_int x t j u _ _ _ _ h
      · rw [key_rr] at h; exact wpAny_eqBool_str h
  «strs» := fun k x t v h => by
    rcases keyIs_shape h with ⟨i, u, rfl, e⟩ | ⟨y, u, rfl, e⟩
    · exact nomatch e
    · injection e with e1 _
      subst e1
      cases v <;> rfl

theorem mixKind_is (prog : Program) (w : World) (k : Key) (v : Value) : (mixKind prog w).is k v = keyIs k v := rfl
theorem mixKind_int (prog : Program) (w : World) (i : Int) (t : Tok) : (mixKind prog w).is (.inl i) (.int i t) = true := keyIs_int i t
theorem mixKind_str (prog : Program) (w : World) (x : Str) (t : Tok) : (mixKind prog w).is (.inr x) (.str x t) = true := keyIs_str x t
end L2

namespace L2
open PySem PySem.Spec PyProof.Rows

/-- a value, without the heap -/
inductive V where
  | non | bl (b : Bool) | int (i : Int) | str (x : Str) | byt (b : Array UInt8) | flt (b : UInt64) | ref (a : Addr) | ty (n : String)
  deriving DecidableEq

def RelV : V → Value → Prop
  | .non, u => u = Value.none
  | .bl b, u => u = Value.bool b
  | .int i, u => ∃ t, u = Value.int i t
  | .str x, u => ∃ t, u = Value.str x t
  | .byt b, u => ∃ t, u = Value.bytes b t
  | .flt b, u => ∃ t, u = Value.float b t
  | .ref a, u => u = Value.ref a
  | .ty n, u => u = Value.type n

abbrev Vals : List V → List Value → Prop := Paired RelV
theorem Vals.length {xs : List V} {us : List Value} (r : Vals xs us) : xs.length = us.length := Paired.length r
theorem Vals.get : ∀ {xs : List V} {us : List Value} {i : Nat} {x : V}, Vals xs us → xs[i]? = some x → ∃ u, us[i]? = some u ∧ RelV x u
  | _, _, _, _, .nil, e => by simp at e
  | _, _, 0, _, .cons r _, e => by simp at e; subst e; exact ⟨_, rfl, r⟩
  | _, _, i + 1, x, .cons _ t, e => by
    obtain ⟨u, h1, h2⟩ := Vals.get (i := i) (x := x) t (by simpa using e)
    exact ⟨u, by simpa using h1, h2⟩
theorem Vals.set {x : V} {u : Value} (r : RelV x u) : ∀ {xs : List V} {us : List Value} (i : Nat), Vals xs us → Vals (xs.set i x) (us.set i u)
  | _, _, _, .nil => .nil
  | _, _, 0, .cons _ t => .cons r t
  | _, _, i + 1, .cons q t => .cons q (Vals.set r i t)
theorem Vals.append : ∀ {xs ys : List V} {us ws : List Value}, Vals xs us → Vals ys ws → Vals (xs ++ ys) (us ++ ws)
  | _, _, _, _, .nil, s => s
  | _, _, _, _, .cons r t, s => .cons r (Vals.append t s)
theorem Vals.take : ∀ {xs : List V} {us : List Value} (n : Nat), Vals xs us → Vals (xs.take n) (us.take n)
  | _, _, 0, _ => .nil
  | _, _, _ + 1, .nil => .nil
  | _, _, n + 1, .cons r t => .cons r (Vals.take n t)
theorem Vals.drop : ∀ {xs : List V} {us : List Value} (n : Nat), Vals xs us → Vals (xs.drop n) (us.drop n)
  | _, _, 0, r => r
  | _, _, _ + 1, .nil => .nil
  | _, _, n + 1, .cons _ t => Vals.drop n t
theorem Vals.none_of : ∀ {xs : List V} {us : List Value} {i : Nat}, Vals xs us → xs[i]? = none → us[i]? = none := fun {xs us i} r e => by
  have h1 := r.length
  have h2 : xs.length ≤ i := List.getElem?_eq_none_iff.mp e
  exact List.getElem?_eq_none_iff.mpr (by omega)

def RelO : Option V → Option Value → Prop
  | some v, some u => RelV v u
  | none, none => True
  | _, _ => False
def KV {κ : Type} : List (κ × V) → List (κ × Value) → Prop := Paired fun (p : κ × V) (q : κ × Value) => p.1 = q.1 ∧ RelV p.2 q.2

/-- a key of a dict (00_mix): an int or a text -/
def kV : Key → V
  | .inl i => .int i
  | .inr x => .str x

/-- what stands at a tracked address -/
inductive HO where
  /-- a list -/
  | lst (xs : List V)
  /-- a tuple (never changes) -/
  | tup (xs : List V)
  /-- a dict whose keys are ints and texts; one whose keys are tuples of ints and texts (the empty one is both) -/
  | dK (kvs : List (Key × V)) | dT (kvs : List (List Key × V))
  /-- a set of ints: its members, its size -/
  | set (S : Int → Bool) (n : Nat)
  /-- an instance of the class at C, its dict at dx, its attributes -/
  | ins (C dx : Addr) (fs : List (Str × V))
  /-- the dict of the instance at x -/
  | own (x : Addr)
  /-- the dict of an exception -/
  | xd (fs : List (Str × V))
  /-- a bound method, f of x -/
  | met (f x : Addr)
  /-- a range object lo, lo + 1, .. below hi -/
  | rng (lo hi : Int)
  /-- a thing that is known to the object (the script; a dict while a loop walks it): read, never written while it is so -/
  | frz (o : Obj) (u : HO)
  /-- a code object's table -/
  | tbl (ps : Array Value)
  /-- any other thing, by what is true of its one object (a def of one's own: SetO a S n := HO.ext fun h => ..) -/
  | ext (φ : Heap → Prop)

abbrev Hp := Addr → Option HO
def upd (H : Hp) (a : Addr) (o : HO) : Hp := fun b => if b = a then some o else H b
theorem upd_same {H : Hp} {a : Addr} {o : HO} : upd H a o a = some o := by unfold upd; rw [if_pos rfl]
theorem upd_ne {H : Hp} {a b : Addr} {o : HO} (h : b ≠ a) : upd H a o b = H b := by unfold upd; rw [if_neg h]
theorem upd_upd {H : Hp} {a : Addr} {o u : HO} : upd (upd H a o) a u = upd H a u := by
  funext b; unfold upd; split <;> rfl
/-- two objects of different content stand apart -/
theorem ne_of {H : Hp} {a b : Addr} {o u : HO} (h : H a = some o) (h' : H b = some u) (d : o ≠ u) : a ≠ b := by
  intro e; subst e; rw [h] at h'; exact d (Option.some.inj h')
theorem ne_of_none {H : Hp} {a b : Addr} {o : HO} (h : H a = some o) (h' : H b = none) : a ≠ b := by
  intro e; subst e; rw [h] at h'; cases h'

section
variable (P : Program) (w : World)
def ObjOk (H : Hp) (h : Heap) (a : Addr) : HO → Prop
  | .lst xs => xs.length ≤ sizeLine ∧ ∃ (its : List Value) (n : Nat), Vals xs its ∧ h.get? a = some { cls := .type "list", data := .seq its.toArray n }
  | .tup xs => xs.length ≤ sizeLine ∧ ∃ its : List Value, Vals xs its ∧ IsTup h a its.toArray
  | .dK kvs => kvs.length ≤ sizeLine ∧ (a == sysModules) = false ∧ ∃ vs, KV kvs vs ∧ h.DictOf (mixKind P w) a vs
  | .dT kvs => kvs.length ≤ sizeLine ∧ (a == sysModules) = false ∧ ∃ xs : List (List Key × Addr × Value),
      Paired (fun (p : List Key × V) (q : List Key × Addr × Value) => p.1 = q.1 ∧ H q.2.1 = some (.tup (p.1.map kV)) ∧ RelV p.2 q.2.2) kvs xs ∧
      ∃ o es ep, h.get? a = some o ∧ o.ExactDict ∧ o.data = .dict es ep ∧ es.toList = xs.map (entryOfKey (tupleKind (mixKind P w))) ∧ (xs.map (·.1)).Nodup
  | .set S n => h.SetOf (intKind P w) a S n
  | .ins C dx fs => H dx = some (.own a) ∧ fs.length ≤ 1000 ∧ dx ≠ a ∧ h.get? a = some (PySem.W.instObj C dx) ∧
      ∃ mA, h.Ns1 dx mA ∧ (∀ f, RelO (fs.lookup f) (mA f)) ∧ PySem.Within mA (fs.map (·.1))
  | .own _ => ∃ o, h.get? a = some o
  | .xd fs => ∃ mA, h.Ns1 a mA ∧ ∀ f, RelO (fs.lookup f) (mA f)
  | .rng lo hi => ∃ t u v, h.get? a = some { cls := .type "range", data := .fields #[.int lo t, .int hi u, .int 1 v] }
  | .frz o u => h.get? a = some o ∧ ObjOk H h a u
  | .tbl ps => h.get? a = some { cls := .none, data := .fields ps }
  | .met f x => h.get? a = some (PySem.W.methodObj (.ref f) (.ref x))
  | .ext φ => φ h ∧ (∃ o, h.get? a = some o) ∧ ∀ h1 h2 : Heap, φ h1 → (∀ o, h1.get? a = some o → h2.get? a = some o) → φ h2
/-- the abstract heap is held -/
def HOk (H : Hp) (h : Heap) : Prop := ∀ a o, H a = some o → ObjOk P w H h a o
end

section
variable {P : Program} {w : World} {H H' : Hp} {h h' : Heap} {a : Addr} {o : HO}
theorem ObjOk.lt (x : ObjOk P w H h a o) : a < h.objs.size := by
  cases o with
  | lst xs => obtain ⟨_, _, _, _, e⟩ := x; exact Heap.lt_size e
  | tup xs => obtain ⟨_, _, _, p⟩ := x; exact p.lt
  | dK kvs => obtain ⟨_, _, _, _, o, _, _, e, _⟩ := x; exact Heap.lt_size e
  | dT kvs => obtain ⟨_, _, _, _, o, _, _, e, _⟩ := x; exact Heap.lt_size e
  | set S n => obtain ⟨o, _, _, _, e, _⟩ := x; exact Heap.lt_size e
  | ins C dx fs => obtain ⟨_, _, _, e, _⟩ := x; exact Heap.lt_size e
  | own y => obtain ⟨_, e⟩ := x; exact Heap.lt_size e
  | xd fs => obtain ⟨_, ⟨_, _, _, e, _⟩, _⟩ := x; exact Heap.lt_size e
  | rng lo hi => obtain ⟨_, _, _, e⟩ := x; exact Heap.lt_size e
  | frz ob u => obtain ⟨e, _⟩ := x; exact Heap.lt_size e
  | tbl ps => exact Heap.lt_size (show h.get? a = some _ from x)
  | met f y => exact Heap.lt_size (show h.get? a = some _ from x)
  | ext φ => obtain ⟨_, ⟨_, e⟩, _⟩ := x; exact Heap.lt_size e
theorem Paired.mapP {α β : Type} {F G : α → β → Prop} : ∀ {l₁ : List α} {l₂ : List β}, Paired F l₁ l₂ → (∀ a b, F a b → G a b) → Paired G l₁ l₂
  | _, _, .nil, _ => .nil
  | _, _, .cons r t, f => .cons (f _ _ r) (Paired.mapP t f)
theorem Paired.imp' {α β : Type} {F G : α → β → Prop} (f : ∀ a b, F a b → G a b) {l₁ : List α} {l₂ : List β} (r : Paired F l₁ l₂) : Paired G l₁ l₂ := Paired.mapP r f
/-- what an object's description leans on: its own object, its own dict, the tuples -/
theorem ObjOk.stay (x : ObjOk P w H h a o) (k : ∀ b u, (b = a ∨ H b = some (.own a)) → h.get? b = some u → h'.get? b = some u)
    (ho : ∀ b, H b = some (.own a) → H' b = some (.own a)) (ht : ∀ b xs, H b = some (.tup xs) → H' b = some (.tup xs)) : ObjOk P w H' h' a o := by
  induction o with
  | lst xs => obtain ⟨z, its, n, r, e⟩ := x; exact ⟨z, its, n, r, k _ _ (.inl rfl) e⟩
  | tup xs => obtain ⟨z, its, r, ob, e, c⟩ := x; exact ⟨z, its, r, ob, k _ _ (.inl rfl) e, c⟩
  | dK kvs => obtain ⟨z, y, vs, r, ob, es, ep, e, c⟩ := x; exact ⟨z, y, vs, r, ob, es, ep, k _ _ (.inl rfl) e, c⟩
  | dT kvs =>
    obtain ⟨z, y, xs, r, ob, es, ep, e, c⟩ := x
    exact ⟨z, y, xs, Paired.mapP r fun p q z => ⟨z.1, ht _ _ z.2.1, z.2.2⟩, ob, es, ep, k _ _ (.inl rfl) e, c⟩
  | set S n => obtain ⟨ob, es, ep, t, e, c⟩ := x; exact ⟨ob, es, ep, t, k _ _ (.inl rfl) e, c⟩
  | ins C dx fs =>
    obtain ⟨d, z, ne, e, mA, ⟨od, es, ep, e2, c⟩, r⟩ := x
    exact ⟨ho _ d, z, ne, k _ _ (.inl rfl) e, mA, ⟨od, es, ep, k _ _ (.inr d) e2, c⟩, r⟩
  | own y => obtain ⟨ob, e⟩ := x; exact ⟨ob, k _ _ (.inl rfl) e⟩
  | xd fs => obtain ⟨mA, ⟨od, es, ep, e, c⟩, r⟩ := x; exact ⟨mA, ⟨od, es, ep, k _ _ (.inl rfl) e, c⟩, r⟩
  | rng lo hi => obtain ⟨t, u, v, e⟩ := x; exact ⟨t, u, v, k _ _ (.inl rfl) e⟩
  | frz ob u ih => obtain ⟨e, q⟩ := x; exact ⟨k _ _ (.inl rfl) e, ih q⟩
  | tbl ps =>
    have e : h.get? a = some { cls := .none, data := .fields ps } := x
    show h'.get? a = some { cls := .none, data := .fields ps }
    exact k a _ (.inl rfl) e
  | met f y =>
    have e : h.get? a = some (PySem.W.methodObj (.ref f) (.ref y)) := x
    show h'.get? a = some (PySem.W.methodObj (.ref f) (.ref y))
    exact k a _ (.inl rfl) e
  | ext φ => obtain ⟨p, ⟨o, e⟩, st⟩ := x; exact ⟨st _ _ p fun o q => k _ _ (.inl rfl) q, ⟨o, k _ _ (.inl rfl) e⟩, st⟩
theorem HOk.lt (x : HOk P w H h) (e : H a = some o) : a < h.objs.size := (x a o e).lt
theorem HOk.fresh (x : HOk P w H h) (e : h.objs.size ≤ a) : H a = none := by
  cases q : H a with
  | none => rfl
  | some u => exact absurd (Nat.lt_of_lt_of_le (x.lt q) e) (Nat.lt_irrefl _)
/-- every object of the heap is kept -/
theorem HOk.kept (x : HOk P w H h) (k : ∀ b u, h.get? b = some u → h'.get? b = some u) : HOk P w H h' := fun a o e =>
  (x a o e).stay (fun b u _ q => k b u q) (fun _ q => q) fun _ _ q => q
/-- a new object is laid and tracked -/
theorem HOk.laid (x : HOk P w H h) (k : ∀ b u, h.get? b = some u → h'.get? b = some u) (hp : h.objs.size ≤ a) (new : ObjOk P w (upd H a o) h' a o) : HOk P w (upd H a o) h' := fun b u e => by
  have hn := x.fresh hp
  by_cases hb : b = a
  · subst hb; rw [upd_same] at e; cases e; exact new
  · rw [upd_ne hb] at e
    exact (x b u e).stay (fun c v _ q => k c v q) (fun c q => by rw [upd_ne (ne_of_none q hn)]; exact q) fun c xs q => by rw [upd_ne (ne_of_none q hn)]; exact q
end

/-- what may be read as u: it is u, or a known u -/
def Rd (H : Hp) (a : Addr) (u : HO) : Prop := H a = some u ∨ ∃ o, H a = some (.frz o u)
theorem Rd.of {H : Hp} {a : Addr} {u : HO} (h : H a = some u) : Rd H a u := .inl h
theorem Rd.ok {P : Program} {w : World} {H : Hp} {h : Heap} {a : Addr} {u : HO} (r : Rd H a u) (x : HOk P w H h) : ObjOk P w H h a u := by
  rcases r with r | ⟨o, r⟩
  · exact x a u r
  · obtain ⟨_, q⟩ := x a _ r
    exact q
/-- what may be written -/
def Mut : Option HO → Prop
  | some (.lst _) => True
  | some (.dK _) => True
  | some (.dT _) => True
  | some (.set _ _) => True
  | some (.ins _ _ _) => True
  | some (.ext _) => True
  | _ => False
section
variable {P : Program} {w : World} {H : Hp} {h h' : Heap} {x e : Addr} {o' : HO}
/-- the object at e is changed: x itself, or the dict of the instance x -/
theorem HOk.write (ok : HOk P w H h) (mu : Mut (H x)) (he : e = x ∨ H e = some (.own x)) (k : ∀ b u, b ≠ e → h.get? b = some u → h'.get? b = some u) (heo : ∃ u, h'.get? e = some u)
    (new : ObjOk P w (upd H x o') h' x o') : HOk P w (upd H x o') h' := fun b u q => by
  have nown : ∀ c y, H c = some (.own y) → c ≠ x := fun c y r z => by subst z; rw [r] at mu; exact mu
  have ntup : ∀ c xs, H c = some (.tup xs) → c ≠ x := fun c xs r z => by subst z; rw [r] at mu; exact mu
  by_cases hb : b = x
  · subst hb; rw [upd_same] at q; cases q; exact new
  · rw [upd_ne hb] at q
    by_cases hbe : b = e
    · have q' : H b = some (.own x) := by
        rcases he with z | z
        · exact absurd (hbe.trans z) hb
        · rw [hbe]; exact z
      rw [q] at q'; cases q'
      obtain ⟨v, hv⟩ := heo
      exact ⟨v, by rw [hbe]; exact hv⟩
    · refine (ok b u q).stay (fun c v hc r => k c v ?_ r) (fun c r => by rw [upd_ne (nown c b r)]; exact r) fun c xs r => by rw [upd_ne (ntup c xs r)]; exact r
      rcases hc with rfl | hc
      · exact hbe
      · rintro rfl
        rcases he with z | z
        · exact nown c b hc z
        · rw [hc] at z; cases z; exact hb rfl
end

/-! ### kept unless tracked; of the frames at fs (the callers') the slots may change (an exception that passes writes there); of the records at ex (iterators) nothing is said -/
structure Un (fs ex : List Addr) (H H' : Hp) (h h' : Heap) : Prop where
  keep : ∀ b o, h.get? b = some o → H b = none → b ∉ fs → b ∉ ex → h'.get? b = some o
  slot : ∀ b o, h.get? b = some o → H b = none → b ∈ fs → b ∉ ex → ∃ sl, h'.get? b = some { o with slots := sl }
  free : ∀ b o, h.get? b = some o → H b = none → b ∉ ex → H' b = none
  there : ∀ b o, h.get? b = some o → b ∉ ex → ∃ o', h'.get? b = some o'
  tups : ∀ b xs, H b = some (.tup xs) → H' b = some (.tup xs)
  frzs : ∀ b o u, H b = some (.frz o u) → H' b = some (.frz o u)
  tbls : ∀ b ps, H b = some (.tbl ps) → ∃ more, H' b = some (.tbl (ps ++ more))
section
variable {fs fs' ex ex' : List Addr} {H H1 H2 : Hp} {h h1 h2 h' : Heap} {a x e : Addr} {o : HO}
theorem Un.any (u : Un fs ex H H1 h h1) {b : Addr} {ob : Obj} (q : h.get? b = some ob) (n : H b = none) (hx : b ∉ ex) : ∃ sl, h1.get? b = some { ob with slots := sl } := by
  by_cases hb : b ∈ fs
  · exact u.slot b ob q n hb hx
  · exact ⟨ob.slots, u.keep b ob q n hb hx⟩
theorem Un.trans (a : Un fs ex H H1 h h1) (b : Un fs ex H1 H2 h1 h2) : Un fs ex H H2 h h2 where
  keep := fun c ob q n hc hx => b.keep c ob (a.keep c ob q n hc hx) (a.free c ob q n hx) hc hx
  slot := fun c ob q n hc hx => by
    obtain ⟨sl, e1⟩ := a.slot c ob q n hc hx
    obtain ⟨sl', e2⟩ := b.slot c _ e1 (a.free c ob q n hx) hc hx
    exact ⟨sl', e2⟩
  free := fun c ob q n hx => by
    obtain ⟨o', e1⟩ := a.there c ob q hx
    exact b.free c o' e1 (a.free c ob q n hx) hx
  there := fun c ob q hx => by
    obtain ⟨o', e1⟩ := a.there c ob q hx
    exact b.there c o' e1 hx
  tups := fun c xs q => b.tups c xs (a.tups c xs q)
  frzs := fun c ob xs q => b.frzs c ob xs (a.frzs c ob xs q)
  tbls := fun c ps q => by
    obtain ⟨m1, e1⟩ := a.tbls c ps q
    obtain ⟨m2, e2⟩ := b.tbls c _ e1
    exact ⟨m1 ++ m2, by rw [e2, Array.append_assoc]⟩
theorem Un.kept (k : ∀ b u, h.get? b = some u → h'.get? b = some u) : Un fs ex H H h h' :=
  ⟨fun b ob q _ _ _ => k b ob q, fun b ob q _ _ _ => ⟨ob.slots, k b ob q⟩, fun _ _ _ n _ => n, fun b ob q _ => ⟨ob, k b ob q⟩, fun _ _ q => q, fun _ _ _ q => q, fun _ ps q => ⟨#[], by rw [q]; simp⟩⟩
theorem Un.refl : Un fs ex H H h h := Un.kept fun _ _ q => q
theorem Un.laid (k : ∀ b u, h.get? b = some u → h'.get? b = some u) (hp : h.objs.size ≤ a) (hn : H a = none) : Un fs ex H (upd H a o) h h' where
  keep := fun b u q _ _ _ => k b u q
  slot := fun b u q _ _ _ => ⟨u.slots, k b u q⟩
  free := fun b u q n _ => by rw [upd_ne (Nat.ne_of_lt (Nat.lt_of_lt_of_le (Heap.lt_size q) hp))]; exact n
  there := fun b u q _ => ⟨u, k b u q⟩
  tups := fun b xs q => by rw [upd_ne (ne_of_none q hn)]; exact q
  frzs := fun b u xs q => by rw [upd_ne (ne_of_none q hn)]; exact q
  tbls := fun b ps q => ⟨#[], by rw [upd_ne (ne_of_none q hn), q]; simp⟩
theorem Un.write (mu : Mut (H x)) (he : e = x ∨ H e = some (.own x)) (k : ∀ b u, b ≠ e → h.get? b = some u → h'.get? b = some u) (heo : ∃ u, h'.get? e = some u) : Un fs ex H (upd H x o) h h' := by
  have hx : ∀ b, H b = none → b ≠ x := fun b n z => by subst z; rw [n] at mu; exact mu
  have hb : ∀ b, H b = none → b ≠ e := fun b n z => by
    subst z
    rcases he with r | r
    · exact hx b n r
    · rw [n] at r; cases r
  have hm : ∀ b u, H b = some u → ¬ Mut (some u) → b ≠ x := fun b u q nm z => by subst z; rw [q] at mu; exact nm mu
  refine ⟨fun b u q n _ _ => k b u (hb b n) q, fun b u q n _ _ => ⟨u.slots, k b u (hb b n) q⟩, fun b u q n _ => by rw [upd_ne (hx b n)]; exact n, fun b u q _ => ?_,
    fun b xs q => by rw [upd_ne (hm b _ q fun z => z)]; exact q, fun b u xs q => by rw [upd_ne (hm b _ q fun z => z)]; exact q, fun b ps q => ⟨#[], by rw [upd_ne (hm b _ q fun z => z), q]; simp⟩⟩
  by_cases hbe : b = e
  · subst hbe; exact heo
  · exact ⟨u, k b u hbe q⟩
theorem Un.mono (u : Un fs ex H H1 h h1) (hs : ∀ b ∈ fs, b ∈ fs') (hx : ∀ b ∈ ex, b ∈ ex') : Un fs' ex' H H1 h h1 :=
  ⟨fun b ob q n hb he => u.keep b ob q n (fun z => hb (hs b z)) fun z => he (hx b z), fun _ _ q n _ he => u.any q n fun z => he (hx _ z), fun b ob q n he => u.free b ob q n fun z => he (hx b z), fun b ob q he => u.there b ob q fun z => he (hx b z), u.tups, u.frzs, u.tbls⟩
end

/-! ### the heap without what is tracked -/
def trk (h : Heap) (H : Hp) : List Addr := (List.range h.objs.size).filter fun a => (H a).isSome
def hidT (h : Heap) (H : Hp) : Heap := PySem.W.hideAll h (trk h H)
theorem hidT_size (h : Heap) (H : Hp) : (hidT h H).objs.size = h.objs.size := PySem.W.hideAll_size _ _
theorem hidT_get {h : Heap} {H : Hp} {b : Addr} {o : Obj} (e : h.get? b = some o) (n : H b = none) : (hidT h H).get? b = some o :=
  PySem.W.hideAll_get _ e fun hm => by
    have q : (H b).isSome = true := (List.mem_filter.mp hm).2
    rw [n] at q; simp at q
theorem of_hidT {h : Heap} {H : Hp} {b : Addr} {o : Obj} (e : (hidT h H).get? b = some o) : h.get? b = some o ∧ H b = none := by
  have e' : h.get? b = some o := PySem.W.of_hideAll (trk h H) e
  refine ⟨e', ?_⟩
  cases q : H b with
  | none => rfl
  | some x =>
    have hm : b ∈ trk h H := List.mem_filter.mpr ⟨List.mem_range.mpr (Heap.lt_size e'), by simp [q]⟩
    have z : (hidT h H).get? b = none := PySem.W.hideAll_none (trk h H) hm
    rw [z] at e; cases e

/-! ### OpenK's ledger, filled with every new object but one -/
def allNews (g h : Heap) (L : Addr) : List (Addr × Obj) := (List.range h.objs.size).filterMap fun a => if a = L ∨ (g.get? a).isSome = true then none else (h.get? a).map fun o => (a, o)
theorem mem_allNews {g h : Heap} {L a : Addr} {o : Obj} (h1 : a ≠ L) (h2 : g.get? a = none) (h3 : h.get? a = some o) : (a, o) ∈ allNews g h L :=
  List.mem_filterMap.mpr ⟨a, List.mem_range.mpr (Heap.lt_size h3), by simp [h1, h2, h3]⟩
theorem of_mem_allNews {g h : Heap} {L : Addr} {p : Addr × Obj} (hp : p ∈ allNews g h L) : p.1 ≠ L ∧ g.get? p.1 = none ∧ h.get? p.1 = some p.2 := by
  obtain ⟨b, _, e⟩ := List.mem_filterMap.mp hp
  split at e
  · cases e
  · rename_i hn
    cases q : h.get? b with
    | none => rw [q] at e; simp at e
    | some u =>
      rw [q] at e
      simp only [Option.map_some, Option.some.injEq] at e
      subst e
      refine ⟨fun z => hn (.inl z), ?_, q⟩
      show g.get? b = none
      cases r : g.get? b with
      | none => rfl
      | some v => exact (hn (.inr (by simp [r]))).elim
def rest (g h : Heap) (L d : Addr) : List (Addr × Obj) := (allNews g h L).filter fun p => decide (p.1 ≠ d)
theorem rest_ne {g h : Heap} {L d : Addr} : ∀ p ∈ rest g h L d, p.1 ≠ d := fun p hp => of_decide_eq_true (List.mem_filter.mp hp).2
theorem mem_rest {g h : Heap} {L d a : Addr} {o : Obj} (h1 : a ≠ L) (h2 : g.get? a = none) (h3 : h.get? a = some o) (h4 : a ≠ d) : (a, o) ∈ rest g h L d :=
  List.mem_filter.mpr ⟨mem_allNews h1 h2 h3, decide_eq_true h4⟩
theorem news_all {g h : Heap} {L : Addr} : News g L h (allNews g h L) := fun p hp => let ⟨a, b, c⟩ := of_mem_allNews hp; ⟨c, a, b⟩
theorem news_at {g h : Heap} {L d : Addr} {o : Obj} (h1 : d ≠ L) (h2 : g.get? d = none) (h3 : h.get? d = some o) : News g L h ((d, o) :: rest g h L d) := fun p hp => by
  rcases List.mem_cons.mp hp with rfl | hp
  · exact ⟨h3, h1, h2⟩
  · exact news_all p (List.mem_filter.mp hp).1
/-- behind a rule that changed d alone: all else but the frame is kept -/
theorem kept_of_news {g h h' : Heap} {L d : Addr} {m : Str → Option Value} (k : ∀ b o, g.get? b = some o → h.get? b = some o) (F : Fr g L h' m) (N : News g L h' (rest g h L d)) :
    ∀ b o, b ≠ L → b ≠ d → h.get? b = some o → h'.get? b = some o := fun b o h1 h2 e => by
  cases q : g.get? b with
  | some u =>
    have := k b u q
    rw [e] at this; cases this
    exact F.keep b _ q
  | none => exact (N (b, o) (mem_rest h1 q e h2)).1
end L2

namespace L2
open PySem PySem.Spec PyProof.Rows

/-- the module's facts, over the base: the heap at the law's entry without what is tracked there -/
structure Mod (K : PySem.W.Frag) (mg : Str → Option Value) (base : Heap) : Prop where
  kin : K.In base
  glob : base.Ns mainGlobals mg
  blt : ∃ mb, base.Ns builtinsNs mb ∧ ∀ x : Str, x ≠ "__name__" → mb x = bootBuiltins x
  nolimit : base.NoLimit

/-- the context: a def's body (or a comprehension's block) running. base: fixed through the whole law; s₀, H₀: the entry; outer: the frames whose slots others may change (a def's callers); stack: all frames that run;
   ex: iterators that were made ahead of the entry and are walked here (a comprehension's); fn: the names whose cells were made at the entry (a def: all; a comprehension's block: its own); calm: not within an except suite; pn: pins that every state bears; xe: what is wanted of an exception that leaves the code -/
structure Cx where
  prog : Program
  w : World
  K : PySem.W.Frag
  mg : Str → Option Value
  base : Heap
  A : Around
  N : List Str
  s₀ : Shared
  H₀ : Hp
  env : Env
  outer : List Env
  stack : List Env
  ex : List Addr
  fn : Str → Bool
  calm : Bool
  pn : List (Addr × Obj)
  xe : Value → Shared → Prop
/-- the callers' frames -/
def frs (l : List Env) : List Addr := l.filterMap (·.frame)
abbrev Cx.fs (X : Cx) : List Addr := frs X.outer

def Vis (sc : Scope) (x : Str) : Prop := sc.names.lookup x = some .local ∨ sc.names.lookup x = some .cell ∨ sc.names.lookup x = some .free
def Loc (sc : Scope) (x : Str) : Prop := sc.names.lookup x = some .local ∨ sc.names.lookup x = some .cell
def Look (env : Env) (h : Heap) (m : Str → Option Value) (x : Str) (u : Value) : Prop :=
  (env.kindOf x = some .local ∧ m x = some u) ∨ ((env.kindOf x = some .cell ∨ env.kindOf x = some .free) ∧ ∃ c, env.cells.lookup x = some c ∧ h.IsCell c (some u))

structure Cx.Ok (X : Cx) : Prop where
  mod : Mod X.K X.mg X.base
  kind : X.env.scope.kind = .function
  glob : X.env.globals = mainGlobals
  blt : X.env.builtins = builtinsNs
  above : X.s₀.heap.objs.size ≤ X.env.locals
  inj : ∀ x y c, X.env.cells.lookup x = some c → X.env.cells.lookup y = some c → x = y
  has : ∀ x, (X.env.kindOf x = some .cell ∨ X.env.kindOf x = some .free) → ∃ c, X.env.cells.lookup x = some c
  cab : ∀ x c, X.fn x = true → X.env.cells.lookup x = some c → X.s₀.heap.objs.size ≤ c
  hd : X.calm = true → X.A.handled = none
  frames : X.A.frames = some X.stack
  stk : X.stack = X.outer ∨ (X.stack = X.env :: X.outer ∧ X.env.frame = some X.env.locals)
  exf : ∀ b ∈ X.ex, b ≠ X.env.locals ∧ ∀ x c, X.env.cells.lookup x = some c → c ≠ b
  bs : ∀ b o, X.base.get? b = some o → X.s₀.heap.get? b = some o ∧ X.H₀ b = none
  bsz : X.base.objs.size ≤ X.s₀.heap.objs.size
  noex : ∀ b o, X.base.get? b = some o → b ∉ X.ex
  exfs : ∀ b ∈ X.ex, b ∉ X.fs
  funs : X.s₀.heap.FunFrames X.base X.outer
  frf : ∀ b ∈ X.fs, X.H₀ b = none

structure Inv (X : Cx) (pins : List (Addr × Obj)) (σ : List (Option V)) (H : Hp) (s : Shared) : Prop where
  ok : X.Ok
  os : s.os = X.s₀.os
  bare : AllBare s.gens
  base : Un X.fs X.ex X.H₀ H X.s₀.heap s.heap
  loc : ∃ m, s.heap.Ns X.env.locals m ∧ ∀ (i : Nat) (x : Str) (v : V), X.N[i]? = some x → σ[i]? = some (some v) → Vis X.env.scope x → ∃ u, RelV v u ∧ Look X.env s.heap m x u
  cell : ∀ x c, X.env.cells.lookup x = some c → ∃ v, s.heap.IsCell c v
  free : H X.env.locals = none
  freeC : ∀ x c, X.env.cells.lookup x = some c → H c = none
  pin : ∀ p ∈ X.pn ++ pins, s.heap.get? p.1 = some p.2 ∧ H p.1 = none ∧ p.1 ≠ X.env.locals ∧ p.1 ∉ X.fs ∧ ∀ v, p.2.data ≠ .cell v
  hok : HOk X.prog X.w H s.heap
  len : σ.length = X.N.length

section
variable {X : Cx} {pins : List (Addr × Obj)} {σ : List (Option V)} {H H' : Hp} {s : Shared} {h' : Heap}

theorem Cx.Ok.nofr (ok : X.Ok) {b : Addr} {o : Obj} (e : X.base.get? b = some o) : b ∉ X.fs := fun hb => by
  have := (ok.funs.mem hb).1
  rw [e] at this; cases this
theorem Inv.bs (I : Inv X pins σ H s) : ∀ b o, X.base.get? b = some o → s.heap.get? b = some o ∧ H b = none := fun b o e =>
  ⟨I.base.keep b o (I.ok.bs b o e).1 (I.ok.bs b o e).2 (I.ok.nofr e) (I.ok.noex b o e), I.base.free b o (I.ok.bs b o e).1 (I.ok.bs b o e).2 (I.ok.noex b o e)⟩
theorem Inv.bk (I : Inv X pins σ H s) : ∀ b o, X.base.get? b = some o → s.heap.get? b = some o := fun b o e => (I.bs b o e).1
theorem Inv.mod (I : Inv X pins σ H s) : Mod X.K X.mg X.base := I.ok.mod
theorem Inv.kIn (I : Inv X pins σ H s) : X.K.In s.heap := I.ok.mod.kin.keeps I.bk
theorem Inv.nolimit (I : Inv X pins σ H s) : s.heap.NoLimit := I.ok.mod.nolimit.keeps I.bk
/-- the frame over the base: for OpenK's rules (K.In X.base is I.mod.kin) -/
theorem Inv.fr (I : Inv X pins σ H s) : ∃ m, Fr X.base X.env.locals s.heap m :=
  let ⟨m, hn, _⟩ := I.loc
  ⟨m, hn, I.bk, Nat.le_trans I.ok.bsz I.ok.above⟩
theorem Inv.lt (I : Inv X pins σ H s) : X.env.locals < s.heap.objs.size := let ⟨_, hn, _⟩ := I.loc; hn.lt
theorem Inv.sz (I : Inv X pins σ H s) : X.s₀.heap.objs.size ≤ s.heap.objs.size := Nat.le_trans I.ok.above (Nat.le_of_lt I.lt)
theorem Inv.nofs (I : Inv X pins σ H s) {a : Addr} (h : s.heap.objs.size ≤ a) : a ∉ X.fs := fun hb => by
  obtain ⟨_, o, ho, _⟩ := I.ok.funs.mem hb
  exact absurd (Nat.lt_of_lt_of_le (Heap.lt_size ho) (Nat.le_trans I.sz h)) (Nat.lt_irrefl _)
theorem Inv.cne (I : Inv X pins σ H s) : ∀ x c, X.env.cells.lookup x = some c → c ≠ X.env.locals := fun x c e z => by
  obtain ⟨v, o, ho, hd⟩ := I.cell x c e
  obtain ⟨m, ⟨o', es, ep, ho', hd', _⟩, _⟩ := I.loc
  rw [z, ho'] at ho; cases ho; rw [hd'] at hd; cases hd
theorem Inv.funs (I : Inv X pins σ H s) : s.heap.FunFrames X.base X.outer := by
  have all : ∀ (l : List Env), (∀ b ∈ frs l, b ∈ X.fs) → X.s₀.heap.FunFrames X.base l → s.heap.FunFrames X.base l := by
    intro l
    induction l with
    | nil => intro _ _; trivial
    | cons env r ih =>
      intro hs hl
      obtain ⟨hk, ⟨L, o, hf, hn, ho, hd⟩, hr⟩ := hl
      have hL : L ∈ X.fs := hs L (by unfold frs; rw [List.filterMap_cons, hf]; exact List.mem_cons_self)
      obtain ⟨sl, e⟩ := I.base.slot L o ho (I.ok.frf L hL) hL fun z => I.ok.exfs L z hL
      exact ⟨hk, ⟨L, _, hf, hn, e, hd⟩, ih (fun b hb => hs b (by unfold frs; rw [List.filterMap_cons, hf]; exact List.mem_cons_of_mem _ hb)) hr⟩
  exact all X.outer (fun _ hb => hb) I.ok.funs

/-- the frames that run, for a call -/
theorem Inv.stack (I : Inv X pins σ H s) : s.heap.FunFrames X.base X.stack := by
  rcases I.ok.stk with e | ⟨e, hf⟩
  · rw [e]; exact I.funs
  · rw [e]
    obtain ⟨m, hn, _⟩ := I.loc
    refine .cons (by rw [I.ok.kind]; decide) hf hn ?_ I.funs
    exact Heap.get?_none_of_le (Nat.le_trans I.ok.bsz I.ok.above)
theorem Inv.stkSub (I : Inv X pins σ H s) : ∀ b ∈ frs X.stack, b ∈ X.env.locals :: X.fs := fun b hb => by
  rcases I.ok.stk with e | ⟨e, hf⟩
  · rw [e] at hb; exact List.mem_cons_of_mem _ hb
  · rw [e] at hb
    unfold frs at hb
    rw [List.filterMap_cons, hf] at hb
    exact hb
theorem Inv.stkFree (I : Inv X pins σ H s) : ∀ b ∈ frs X.stack, H b = none := fun b hb => by
  rcases List.mem_cons.mp (I.stkSub b hb) with e | hb
  · rw [e]; exact I.free
  · obtain ⟨_, o, ho, _⟩ := I.ok.funs.mem hb
    exact I.base.free b o ho (I.ok.frf b hb) fun z => I.ok.exfs b z hb

/-- THE STEP: the untracked objects but the frame and the records at ch are kept (the callers' frames up to slots), the frame's map is kept, the new abstract heap is held -/
theorem Inv.step {g' : Array GenState} {t' : Nat} {d' : Drawn} {ch : List Addr} (I : Inv X pins σ H s)
    (hch : ∀ b ∈ ch, (b ∈ X.ex ∨ X.s₀.heap.objs.size ≤ b) ∧ b ≠ X.env.locals ∧ (∀ x c, X.env.cells.lookup x = some c → c ≠ b) ∧ ∀ p ∈ X.pn ++ pins, p.1 ≠ b)
    (keep : ∀ b o, b ≠ X.env.locals → b ∉ X.fs → b ∉ ch → s.heap.get? b = some o → H b = none → h'.get? b = some o)
    (slot : ∀ b o, b ≠ X.env.locals → b ∈ X.fs → b ∉ ch → s.heap.get? b = some o → H b = none → ∃ sl, h'.get? b = some { o with slots := sl }) (free : ∀ b o, b ∉ ch → s.heap.get? b = some o → H b = none → H' b = none)
    (there : ∀ b o, b ∉ ch → s.heap.get? b = some o → ∃ o', h'.get? b = some o')
    (tups : ∀ b xs, H b = some (.tup xs) → H' b = some (.tup xs)) (frzs : ∀ b o u, H b = some (.frz o u) → H' b = some (.frz o u)) (tbls : ∀ b ps, H b = some (.tbl ps) → ∃ more, H' b = some (.tbl (ps ++ more)))
    (ns : ∀ m, s.heap.Ns X.env.locals m → h'.Ns X.env.locals m) (hok : HOk X.prog X.w H' h') (hg : AllBare g') :
    Inv X pins σ H' { s with heap := h', gens := g', drawn := d', toks := t' } := by
  have neL : ∀ b o, X.s₀.heap.get? b = some o → b ≠ X.env.locals := fun b o e => Nat.ne_of_lt (Nat.lt_of_lt_of_le (Heap.lt_size e) I.ok.above)
  have neC : ∀ b o, X.s₀.heap.get? b = some o → b ∉ X.ex → b ∉ ch := fun b o e hx hb => by
    rcases (hch b hb).1 with z | z
    · exact hx z
    · exact absurd (Nat.lt_of_lt_of_le (Heap.lt_size e) z) (Nat.lt_irrefl _)
  have cellK : ∀ x c, X.env.cells.lookup x = some c → ∀ v, s.heap.IsCell c v → h'.IsCell c v := fun x c e v ⟨o, ho, hd⟩ => by
    have nch : c ∉ ch := fun z => (hch c z).2.2.1 x c e rfl
    by_cases hc : c ∈ X.fs
    · obtain ⟨sl, q⟩ := slot c o (I.cne x c e) hc nch ho (I.freeC x c e)
      exact ⟨_, q, hd⟩
    · exact ⟨o, keep c o (I.cne x c e) hc nch ho (I.freeC x c e), hd⟩
  refine ⟨I.ok, I.os, hg, ⟨fun b o e n hb hx => ?_, fun b o e n hb hx => ?_, fun b o e n hx => ?_, fun b o e hx => ?_, fun b xs e => tups b xs (I.base.tups b xs e), fun b o xs e => frzs b o xs (I.base.frzs b o xs e), fun b ps e => ?_⟩, ?_, fun x c e => ?_, ?_, fun x c e => ?_, fun p hp => ?_, hok, I.len⟩
  · exact keep b o (neL b o e) hb (neC b o e hx) (I.base.keep b o e n hb hx) (I.base.free b o e n hx)
  · obtain ⟨sl, e1⟩ := I.base.slot b o e n hb hx
    obtain ⟨sl', e2⟩ := slot b _ (neL b o e) hb (neC b o e hx) e1 (I.base.free b o e n hx)
    exact ⟨sl', e2⟩
  · obtain ⟨o', e1⟩ := I.base.there b o e hx
    exact free b o' (neC b o e hx) e1 (I.base.free b o e n hx)
  · obtain ⟨o', e1⟩ := I.base.there b o e hx
    exact there b o' (neC b o e hx) e1
  · obtain ⟨m1, e1⟩ := I.base.tbls b ps e
    obtain ⟨m2, e2⟩ := tbls b _ e1
    exact ⟨m1 ++ m2, by rw [e2, Array.append_assoc]⟩
  · obtain ⟨m, hn, hl⟩ := I.loc
    refine ⟨m, ns m hn, fun i x v e1 e2 e3 => ?_⟩
    obtain ⟨u, r, l⟩ := hl i x v e1 e2 e3
    refine ⟨u, r, ?_⟩
    rcases l with l | ⟨k, c, e, z⟩
    · exact .inl l
    · exact .inr ⟨k, c, e, cellK x c e _ z⟩
  · obtain ⟨v, z⟩ := I.cell x c e
    exact ⟨v, cellK x c e v z⟩
  · obtain ⟨m, ⟨o, _, _, ho, _⟩, _⟩ := I.loc
    exact free _ o (fun z => (hch _ z).2.1 rfl) ho I.free
  · obtain ⟨v, o, ho, hd⟩ := I.cell x c e
    exact free c o (fun z => (hch c z).2.2.1 x c e rfl) ho (I.freeC x c e)
  · obtain ⟨e, n, ne, nf, d⟩ := I.pin p hp
    have nch : p.1 ∉ ch := fun z => (hch p.1 z).2.2.2 p hp rfl
    exact ⟨keep p.1 p.2 ne nf nch e n, free p.1 p.2 nch e n, ne, nf, d⟩
/-- .. where the frame's own object is kept too -/
theorem Inv.un {t' : Nat} (I : Inv X pins σ H s) (u : Un X.fs [] H H' s.heap h') (hok : HOk X.prog X.w H' h') : Inv X pins σ H' { s with heap := h', toks := t' } := by
  obtain ⟨m, ⟨o, es, ep, ho, r⟩, _⟩ := id I.loc
  obtain ⟨sl, hL⟩ := u.any ho I.free (by simp)
  exact I.step (g' := s.gens) (d' := s.drawn) (ch := []) (fun _ z => nomatch z) (fun b o _ hb _ e n => u.keep b o e n hb (by simp)) (fun b o _ hb _ e n => u.slot b o e n hb (by simp)) (fun b o _ e n => u.free b o e n (by simp)) (fun b o _ e => u.there b o e (by simp)) u.tups u.frzs u.tbls (fun m' hm => by
    obtain ⟨o', es', ep', ho', r'⟩ := hm
    rw [ho] at ho'; cases ho'
    exact ⟨_, es', ep', hL, r'⟩) hok I.bare
/-- behind a call (or a comprehension's block): the slots of this frame may have changed too, the records at ch may have turned -/
theorem Inv.call {g' : Array GenState} {t' : Nat} {d' : Drawn} {ch : List Addr} (I : Inv X pins σ H s) (u : Un (frs X.stack) ch H H' s.heap h') (hok : HOk X.prog X.w H' h') (hg : AllBare g')
    (hch : ∀ b ∈ ch, (b ∈ X.ex ∨ X.s₀.heap.objs.size ≤ b) ∧ b ≠ X.env.locals ∧ (∀ x c, X.env.cells.lookup x = some c → c ≠ b) ∧ ∀ p ∈ X.pn ++ pins, p.1 ≠ b) :
    Inv X pins σ H' { s with heap := h', gens := g', drawn := d', toks := t' } := by
  obtain ⟨m, ⟨o, es, ep, ho, r⟩, _⟩ := id I.loc
  obtain ⟨sl, hL⟩ := u.any ho I.free fun z => (hch _ z).2.1 rfl
  exact I.step (ch := ch) hch (fun b o hL hb hc e n => u.keep b o e n (fun z => (List.mem_cons.mp (I.stkSub b z)).elim hL hb) hc) (fun b o _ _ hc e n => u.any e n hc) (fun b o hc e n => u.free b o e n hc) (fun b o hc e => u.there b o e hc) u.tups u.frzs u.tbls (fun m' hm => by
    obtain ⟨o', es', ep', ho', r'⟩ := hm
    rw [ho] at ho'; cases ho'
    exact ⟨_, es', ep', hL, r'⟩) hok hg
/-- an untracked record of ours (an iterator) has turned -/
theorem Inv.turned {t' : Nat} {it : Addr} (I : Inv X pins σ H s) (k : ∀ b o, b ≠ it → s.heap.get? b = some o → h'.get? b = some o) (hn : H it = none) (hL : it ≠ X.env.locals)
    (h1 : it ∈ X.ex ∨ X.s₀.heap.objs.size ≤ it) (h2 : ∀ x c, X.env.cells.lookup x = some c → c ≠ it) (h3 : ∀ p ∈ X.pn ++ pins, p.1 ≠ it) : Inv X pins σ H { s with heap := h', toks := t' } := by
  have nit : ∀ b u, H b = some u → b ≠ it := fun b u e z => by rw [z, hn] at e; cases e
  refine I.step (g' := s.gens) (d' := s.drawn) (ch := [it]) (fun b hb => ?_) (fun b o _ _ hc e _ => k b o (fun z => hc (by simp [z])) e) (fun b o _ _ hc e _ => ⟨o.slots, k b o (fun z => hc (by simp [z])) e⟩) (fun _ _ _ _ n => n)
    (fun b o hc e => ⟨o, k b o (fun z => hc (by simp [z])) e⟩) (fun _ _ e => e) (fun _ _ _ e => e) (fun b ps e => ⟨#[], by rw [e]; simp⟩) (fun m hm => ?_) (fun b u e => ?_) I.bare
  · have e : b = it := by simpa using hb
    subst e
    exact ⟨h1, hL, h2, h3⟩
  · obtain ⟨o, es, ep, ho, r⟩ := hm
    exact ⟨o, es, ep, k _ o (Ne.symm hL) ho, r⟩
  · refine (I.hok b u e).stay (fun c v hc q => k c v ?_ q) (fun _ q => q) fun _ _ q => q
    rcases hc with z | z
    · rw [z]; exact nit b u e
    · exact nit c _ z
theorem Inv.tok (I : Inv X pins σ H s) (t : Nat) : Inv X pins σ H { s with toks := t } := I.un (h' := s.heap) (t' := t) Un.refl I.hok
/-- all objects kept -/
theorem Inv.kept {t' : Nat} (I : Inv X pins σ H s) (k : ∀ b u, s.heap.get? b = some u → h'.get? b = some u) : Inv X pins σ H { s with heap := h', toks := t' } := I.un (Un.kept k) (I.hok.kept k)
/-- a new object laid and tracked -/
theorem Inv.laid {a : Addr} {o : HO} {t' : Nat} (I : Inv X pins σ H s) (k : ∀ b u, s.heap.get? b = some u → h'.get? b = some u) (hp : s.heap.objs.size ≤ a) (new : ObjOk X.prog X.w (upd H a o) h' a o) :
    Inv X pins σ (upd H a o) { s with heap := h', toks := t' } := I.un (Un.laid k hp (I.hok.fresh hp)) (I.hok.laid k hp new)
/-- an object written -/
theorem Inv.write {x e : Addr} {o : HO} {t' : Nat} (I : Inv X pins σ H s) (mu : Mut (H x)) (he : e = x ∨ H e = some (.own x)) (k : ∀ b u, b ≠ e → s.heap.get? b = some u → h'.get? b = some u) (heo : ∃ u, h'.get? e = some u)
    (new : ObjOk X.prog X.w (upd H x o) h' x o) : Inv X pins σ (upd H x o) { s with heap := h', toks := t' } := I.un (Un.write mu he k heo) (I.hok.write mu he k heo new)
/-- forgetting slots, pins -/
theorem Inv.weak {σ' : List (Option V)} (I : Inv X pins σ H s) (hl : σ'.length = σ.length) (w : ∀ (i : Nat) v, σ'[i]? = some (some v) → σ[i]? = some (some v)) : Inv X pins σ' H s :=
  ⟨I.ok, I.os, I.bare, I.base, let ⟨m, hn, hl'⟩ := I.loc; ⟨m, hn, fun i x v e1 e2 e3 => hl' i x v e1 (w i v e2) e3⟩, I.cell, I.free, I.freeC, I.pin, I.hok, hl.trans I.len⟩
theorem Inv.pins_of {pins' : List (Addr × Obj)} (I : Inv X pins σ H s) (h : ∀ p ∈ pins', s.heap.get? p.1 = some p.2 ∧ H p.1 = none ∧ p.1 ≠ X.env.locals ∧ p.1 ∉ X.fs ∧ ∀ v, p.2.data ≠ .cell v) : Inv X pins' σ H s :=
  ⟨I.ok, I.os, I.bare, I.base, I.loc, I.cell, I.free, I.freeC, fun p hp => (List.mem_append.mp hp).elim (fun z => I.pin p (List.mem_append_left _ z)) (h p), I.hok, I.len⟩

theorem nodup_ix {N : List Str} (hN : N.Nodup) {i j : Nat} {x : Str} (a : N[i]? = some x) (b : N[j]? = some x) : i = j := by
  obtain ⟨h1, e1⟩ := List.getElem?_eq_some_iff.mp a
  obtain ⟨h2, e2⟩ := List.getElem?_eq_some_iff.mp b
  exact (List.getElem_inj hN).mp (e1.trans e2.symm)

/-- a name is stored; what changed -/
theorem store_ok2 {M : Model} {A : Around} {E : Value → Shared → Prop} {i : Nat} {x : Str} {v : V} {u : Value} {Q : Unit → Shared → Prop} (I : Inv X pins σ H s) (hN : X.N.Nodup) (hi : X.N[i]? = some x) (hx : Loc X.env.scope x) (r : RelV v u)
    (h : ∀ s', Inv X pins (σ.set i (some v)) H s' → (∃ a, Heap.SameBut a s.heap s'.heap ∧ (a = X.env.locals ∨ X.env.cells.lookup x = some a)) → Q () s') (hf : X.fn x = true ∨ X.env.scope.names.lookup x = some .local := by first | exact .inl rfl | exact .inr rfl | assumption) : wpAny M A (storeName X.env x u) Q E s := by
  obtain ⟨m, hn, hl⟩ := id I.loc
  have hcls : (X.env.scope.kind == .class || (X.env.scope.kind == .module && X.env.locals != X.env.globals)) = false := by rw [I.ok.kind]; rfl
  have hiσ : i < σ.length := by rw [I.len]; exact (List.getElem?_eq_some_iff.mp hi).1
  have cne := I.cne
  have tracked : ∀ {a : Addr} {h' : Heap}, (∃ o, s.heap.get? a = some o ∧ H a = none) → Heap.SameBut a s.heap h' → HOk X.prog X.w H h' := fun {a h'} ha hs b ob e => by
    obtain ⟨_, _, hfree⟩ := ha
    refine (I.hok b ob e).stay (fun c w' hc q => (hs.2 c ?_).trans q) (fun _ q => q) fun _ _ q => q
    rintro rfl
    rcases hc with rfl | hc
    · rw [hfree] at e; cases e
    · rw [hfree] at hc; cases hc
  rcases hx with hk | hk
  · refine wpAny_storeName_local hk hn (fun h' hn' hs => ?_) hcls
    obtain ⟨oL, _, _, hoL, _⟩ := id hn
    refine h _ ⟨I.ok, I.os, I.bare, ⟨fun b o e n hb hx => ?_, fun b o e n hb hx => ?_, I.base.free, fun b o e hx => ?_, I.base.tups, I.base.frzs, I.base.tbls⟩, ⟨_, hn', fun j y v' e1 e2 e3 => ?_⟩, fun y c e => ?_, I.free, I.freeC, fun p hp => ?_, tracked ⟨oL, hoL, I.free⟩ hs, by simpa using I.len⟩ ⟨_, hs, .inl rfl⟩
    · exact (hs.2 b (Nat.ne_of_lt (Nat.lt_of_lt_of_le (Heap.lt_size e) I.ok.above))).trans (I.base.keep b o e n hb hx)
    · obtain ⟨sl, e1⟩ := I.base.slot b o e n hb hx
      exact ⟨sl, (hs.2 b (Nat.ne_of_lt (Nat.lt_of_lt_of_le (Heap.lt_size e) I.ok.above))).trans e1⟩
    · obtain ⟨o', e1⟩ := I.base.there b o e hx
      exact ⟨o', (hs.2 b (Nat.ne_of_lt (Nat.lt_of_lt_of_le (Heap.lt_size e) I.ok.above))).trans e1⟩
    · by_cases hj : j = i
      · subst hj
        rw [hi] at e1; cases e1
        rw [List.getElem?_set_self hiσ] at e2
        cases e2
        exact ⟨u, r, .inl ⟨hk, by simp⟩⟩
      · rw [List.getElem?_set_ne (Ne.symm hj)] at e2
        obtain ⟨u', r', q⟩ := hl j y v' e1 e2 e3
        refine ⟨u', r', ?_⟩
        rcases q with ⟨k, e⟩ | ⟨k, c, e, z⟩
        · refine .inl ⟨k, ?_⟩
          have : y ≠ x := fun e => hj (nodup_ix hN e1 (e ▸ hi))
          simp [this, e]
        · exact .inr ⟨k, c, e, z.sameBut hs (cne y c e)⟩
    · obtain ⟨w', z⟩ := I.cell y c e
      exact ⟨w', z.sameBut hs (cne y c e)⟩
    · obtain ⟨e, n, ne, nf, d⟩ := I.pin p hp
      exact ⟨(hs.2 p.1 ne).trans e, n, ne, nf, d⟩
  · have hfn : X.fn x = true := by
      rcases hf with z | z
      · exact z
      · rw [z] at hk; cases hk
    obtain ⟨c, hc⟩ := I.ok.has x (.inl hk)
    obtain ⟨w', z⟩ := I.cell x c hc
    refine wpAny_storeName_cell I.ok.kind hk hc z (fun h' hc' hs => ?_)
    obtain ⟨oc, hoc, hocd⟩ := id z
    refine h { s with heap := h' } ⟨I.ok, I.os, I.bare, ⟨fun b o e n hb hx => ?_, fun b o e n hb hx => ?_, I.base.free, fun b o e hx => ?_, I.base.tups, I.base.frzs, I.base.tbls⟩, ⟨m, hn.sameBut hs (Ne.symm (cne x c hc)), fun j y v' e1 e2 e3 => ?_⟩, fun y c' e => ?_, I.free, I.freeC, fun p hp => ?_, tracked ⟨oc, hoc, I.freeC x c hc⟩ hs, by simpa using I.len⟩ ⟨c, hs, .inr hc⟩
    · exact (hs.2 b (Nat.ne_of_lt (Nat.lt_of_lt_of_le (Heap.lt_size e) (I.ok.cab x c hfn hc)))).trans (I.base.keep b o e n hb hx)
    · obtain ⟨sl, e1⟩ := I.base.slot b o e n hb hx
      exact ⟨sl, (hs.2 b (Nat.ne_of_lt (Nat.lt_of_lt_of_le (Heap.lt_size e) (I.ok.cab x c hfn hc)))).trans e1⟩
    · obtain ⟨o', e1⟩ := I.base.there b o e hx
      exact ⟨o', (hs.2 b (Nat.ne_of_lt (Nat.lt_of_lt_of_le (Heap.lt_size e) (I.ok.cab x c hfn hc)))).trans e1⟩
    · by_cases hj : j = i
      · subst hj
        rw [hi] at e1; cases e1
        rw [List.getElem?_set_self hiσ] at e2
        cases e2
        exact ⟨u, r, .inr ⟨.inl hk, c, hc, hc'⟩⟩
      · rw [List.getElem?_set_ne (Ne.symm hj)] at e2
        obtain ⟨u', r', q⟩ := hl j y v' e1 e2 e3
        refine ⟨u', r', ?_⟩
        rcases q with q | ⟨k, c', e, z'⟩
        · exact .inl q
        · refine .inr ⟨k, c', e, z'.sameBut hs ?_⟩
          rintro rfl
          exact hj (nodup_ix hN e1 (I.ok.inj _ _ _ e hc ▸ hi))
    · by_cases hcc : c' = c
      · subst hcc; exact ⟨_, hc'⟩
      · obtain ⟨w2, z2⟩ := I.cell y c' e
        exact ⟨w2, z2.sameBut hs hcc⟩
    · obtain ⟨e, n, ne, nf, d⟩ := I.pin p hp
      refine ⟨(hs.2 p.1 ?_).trans e, n, ne, nf, d⟩
      intro q
      rw [q, hoc] at e
      have q' : oc = p.2 := Option.some.inj e
      exact d w' (by rw [← q']; exact hocd)
theorem store_ok {M : Model} {A : Around} {E : Value → Shared → Prop} {i : Nat} {x : Str} {v : V} {u : Value} {Q : Unit → Shared → Prop} (I : Inv X pins σ H s) (hN : X.N.Nodup) (hi : X.N[i]? = some x) (hx : Loc X.env.scope x) (r : RelV v u)
    (h : ∀ s', Inv X pins (σ.set i (some v)) H s' → Q () s') (hf : X.fn x = true ∨ X.env.scope.names.lookup x = some .local := by first | exact .inl rfl | exact .inr rfl | assumption) : wpAny M A (storeName X.env x u) Q E s :=
  store_ok2 I hN hi hx r (fun s' I' _ => h s' I') hf
/-- behind a call or a block, the state as it is -/
theorem Inv.call' {s' : Shared} {ch : List Addr} (I : Inv X pins σ H s) (ho : s'.os = s.os) (u : Un (frs X.stack) ch H H' s.heap s'.heap) (hok : HOk X.prog X.w H' s'.heap) (hg : AllBare s'.gens)
    (hch : ∀ b ∈ ch, (b ∈ X.ex ∨ X.s₀.heap.objs.size ≤ b) ∧ b ≠ X.env.locals ∧ (∀ x c, X.env.cells.lookup x = some c → c ≠ b) ∧ ∀ p ∈ X.pn ++ pins, p.1 ≠ b) : Inv X pins σ H' s' := by
  obtain ⟨h', g', d', t', o'⟩ := s'
  have e : o' = s.os := ho
  subst e
  exact I.call (g' := g') (t' := t') (d' := d') u hok hg hch
end

/-! ### the judgements -/
/-- an exception: its class, its own dict's address (where it has one), the abstract heap behind it -/
abbrev XK := Value → Option Addr → Hp → Prop
abbrev St := List (Option V)
abbrev VK := V → Hp → Prop
/-- an expression's reading; a test's; an argument list's -/
abbrev TE := St → Hp → VK → Prop
abbrev TT := St → Hp → (Bool → Hp → Prop) → Prop
abbrev TA := St → Hp → (List V → Hp → Prop) → Prop
/-- what is wanted behind a statement -/
structure Ends where
  nx : St → Hp → Prop
  rt : VK
  bk : St → Hp → Prop := fun _ _ => False
  ct : St → Hp → Prop := fun _ _ => False
abbrev TS := Ends → St → Hp → Prop

def EP (X : Cx) (pins : List (Addr × Obj)) (σ : St) (Q : VK) (u : Value) (s' : Shared) : Prop := ∃ v H', Inv X pins σ H' s' ∧ RelV v u ∧ Q v H'
def TP (X : Cx) (pins : List (Addr × Obj)) (σ : St) (Q : Bool → Hp → Prop) (b : Bool) (s' : Shared) : Prop := ∃ H', Inv X pins σ H' s' ∧ Q b H'
def AP (X : Cx) (pins : List (Addr × Obj)) (σ : St) (Q : List V → Hp → Prop) (us : List Value) (s' : Shared) : Prop := ∃ vs H', Inv X pins σ H' s' ∧ Vals vs us ∧ Q vs H'
def SP (X : Cx) (pins : List (Addr × Obj)) (D : Ends) (f : Flow) (s' : Shared) : Prop :=
  match f with
  | .next => ∃ σ' H', Inv X pins σ' H' s' ∧ D.nx σ' H'
  | .brk => ∃ σ' H', Inv X pins σ' H' s' ∧ D.bk σ' H'
  | .cont => ∃ σ' H', Inv X pins σ' H' s' ∧ D.ct σ' H'
  | .ret u => ∃ v σ' H', Inv X pins σ' H' s' ∧ RelV v u ∧ D.rt v H'

def PE (X : Cx) (e : Expr) (t : TE) : Prop :=
  ∀ (pins : List (Addr × Obj)) (s : Shared) (σ : St) (H : Hp) (Q : VK), Inv X pins σ H s → t σ H Q → wpAny (model X.prog X.w) X.A (eval e X.env) (EP X pins σ Q) X.xe s
def PT (X : Cx) (e : Expr) (t : TT) : Prop :=
  ∀ (pins : List (Addr × Obj)) (s : Shared) (σ : St) (H : Hp) (Q : Bool → Hp → Prop), Inv X pins σ H s → t σ H Q → wpAny (model X.prog X.w) X.A (isTrue e X.env (eval e X.env)) (TP X pins σ Q) X.xe s
/-- a test whatever its 'whole' is (and, or) -/
def PW (X : Cx) (e : Expr) (t : TT) : Prop :=
  ∀ (whole : Sem Value) (pins : List (Addr × Obj)) (s : Shared) (σ : St) (H : Hp) (Q : Bool → Hp → Prop), Inv X pins σ H s → t σ H Q → wpAny (model X.prog X.w) X.A (isTrue e X.env whole) (TP X pins σ Q) X.xe s
theorem PW.pt {X : Cx} {e : Expr} {t : TT} (h : PW X e t) : PT X e t := h _
/-- an argument list (no star), from the left -/
def PA (X : Cx) (es : List Expr) (t : TA) : Prop :=
  ∀ (pos : Pos) (pins : List (Addr × Obj)) (s : Shared) (σ : St) (H : Hp) (Q : List V → Hp → Prop), Inv X pins σ H s → t σ H Q → wpAny (model X.prog X.w) X.A (spliced (backTo pos (starEach es X.env))) (AP X pins σ Q) X.xe s
def PS (X : Cx) (st : Stmt) (t : TS) : Prop :=
  ∀ (pins : List (Addr × Obj)) (s : Shared) (σ : St) (H : Hp) (D : Ends), Inv X pins σ H s → t D σ H → wpAny (model X.prog X.w) X.A (exec st X.env) (SP X pins D) X.xe s
def PSs (X : Cx) (st : List Stmt) (t : TS) : Prop :=
  ∀ (pins : List (Addr × Obj)) (s : Shared) (σ : St) (H : Hp) (D : Ends), Inv X pins σ H s → t D σ H → wpAny (model X.prog X.w) X.A (execs st X.env) (SP X pins D) X.xe s
/-- weaken the end -/
theorem thn {α : Type} {t : Sem α} {Q Q' : α → Shared → Prop} {M : Model} {A : Around} {E : Value → Shared → Prop} {s : Shared} (h : wpAny M A t Q E s) (hQ : ∀ a s, Q a s → Q' a s) : wpAny M A t Q' E s := wpAny_mono h hQ fun _ _ x => x
end L2

namespace L2
open PySem PySem.Spec PyProof.Rows
section
variable {X : Cx}

/-- two expressions in a row -/
theorem bin {a b : Expr} {ta tb : TE} (ha : PE X a ta) (hb : PE X b tb) {pins : List (Addr × Obj)} {s : Shared} {σ : St} {H : Hp} {R : V → V → Hp → Prop} (I : Inv X pins σ H s) (h : ta σ H fun x H1 => tb σ H1 fun y H2 => R x y H2)
    {α : Type} {Q : α → Shared → Prop} {f : Value → Value → Sem α}
    (hf : ∀ v u s2 x y H2, Inv X pins σ H2 s2 → RelV x v → RelV y u → R x y H2 → wpAny (model X.prog X.w) X.A (f v u) Q X.xe s2) :
    wpAny (model X.prog X.w) X.A (eval a X.env) (fun v s₁ => wpAny (model X.prog X.w) X.A (eval b X.env) (fun u s₂ => wpAny (model X.prog X.w) X.A (f v u) Q X.xe s₂) X.xe s₁) X.xe s := by
  refine thn (ha pins s σ H _ I h) fun v s1 ⟨x, H1, I1, r1, q1⟩ => ?_
  refine thn (hb pins s1 σ H1 _ I1 q1) fun u s2 ⟨y, H2, I2, r2, q2⟩ => ?_
  exact hf v u s2 x y H2 I2 r1 r2 q2

/-! ### names and constants -/
def tVar (i : Nat) : TE := fun σ H Q => ∃ v, σ[i]? = some (some v) ∧ Q v H
def tC (v : V) : TE := fun _ H Q => Q v H
theorem pe_var {i : Nat} {x : Str} {pos : Pos} (hN : X.N[i]? = some x) (hv : Vis X.env.scope x) (hd : (x == ("__debug__" : Str)) = false := by decide) (hcd : (x == ("__classdict__" : Str)) = false := by decide) : PE X (.Name x pos) (tVar i) := by
  intro pins s σ H Q I h
  obtain ⟨v, e, h⟩ := h
  obtain ⟨m, hn, hl⟩ := I.loc
  obtain ⟨u, r, l⟩ := hl i x v hN e hv
  have fin : EP X pins σ Q u s := ⟨v, H, I, r, h⟩
  rcases l with ⟨hk, hm⟩ | ⟨hk, c, hc, hcell⟩
  · exact wpAny_Name (wpAny_loadName_local I.ok.kind hk hn hm fin) hd
  · rcases hk with hk | hk
    · exact wpAny_Name (wpAny_loadName_cell I.ok.kind hk hc hcell fin) hd
    · exact wpAny_Name (wpAny_loadName_free I.ok.kind hk hc hcell fin hcd) hd
theorem pe_int {i j pos} : PE X (.Constant (.int i) j pos) (tC (.int i)) := fun _ _ _ H _ I h => wpAny_Constant_int ⟨.int i, H, I.tok _, ⟨_, rfl⟩, h⟩
theorem pe_bl {b j pos} : PE X (.Constant (.bool b) j pos) (tC (.bl b)) := fun _ _ _ H _ I h => Constant_bool ⟨.bl b, H, I, rfl, h⟩
theorem pe_non {j pos} : PE X (.Constant .none j pos) (tC .non) := fun _ _ _ H _ I h => Constant_none ⟨.non, H, I, rfl, h⟩
theorem pe_str {x j pos} : PE X (.Constant (.str x) j pos) (tC (.str x)) := fun _ _ _ H _ I h => Calls.Constant_str ⟨.str x, H, I.tok _, ⟨_, rfl⟩, h⟩

/-- a global name of the def -/
def Gl (X : Cx) (x : Str) : Prop := X.env.kindOf x = some .globalImplicit
theorem ld_glob {E : Value → Shared → Prop} {pins : List (Addr × Obj)} {s : Shared} {σ : St} {H : Hp} {x : Str} {u : Value} {pos : Pos} {Q : Value → Shared → Prop} (I : Inv X pins σ H s) (hg : Gl X x) (hm : X.mg x = some u) (h : Q u s)
    (hd : (x == ("__debug__" : Str)) = false := by decide) : wpAny (model X.prog X.w) X.A (eval (.Name x pos) X.env) Q E s :=
  Calls.Name_function_global I.ok.kind hg (Calls.loadGlobal_global (by rw [I.ok.glob]; exact I.mod.glob.keeps I.bk) hm h) hd
theorem ld_blt {E : Value → Shared → Prop} {pins : List (Addr × Obj)} {s : Shared} {σ : St} {H : Hp} {x : Str} {u : Value} {pos : Pos} {Q : Value → Shared → Prop} (I : Inv X pins σ H s) (hg : Gl X x) (hm : X.mg x = none) (hv : bootBuiltins x = some u) (h : Q u s)
    (hn : x ≠ "__name__" := by decide) (hd : (x == ("__debug__" : Str)) = false := by decide) : wpAny (model X.prog X.w) X.A (eval (.Name x pos) X.env) Q E s := by
  obtain ⟨mb, h1, h2⟩ := I.mod.blt
  exact Calls.Name_function_global I.ok.kind hg (Calls.loadGlobal_builtin (by rw [I.ok.glob]; exact I.mod.glob.keeps I.bk) hm (by rw [I.ok.blt]; exact h1.keeps I.bk) ((h2 x hn).trans hv) h) hd
/-- a module's constant, a class, a function, as a value -/
theorem pe_glob {x : Str} {v : V} {u : Value} {pos : Pos} (hg : Gl X x) (hm : X.mg x = some u) (r : RelV v u) (hd : (x == ("__debug__" : Str)) = false := by decide) : PE X (.Name x pos) (tC v) :=
  fun _ _ _ H _ I h => ld_glob I hg hm ⟨v, H, I, r, h⟩ hd
theorem pe_bltn {x : Str} {v : V} {u : Value} {pos : Pos} (hg : Gl X x) (hm : X.mg x = none) (hv : bootBuiltins x = some u) (r : RelV v u) (hn : x ≠ "__name__" := by decide) (hd : (x == ("__debug__" : Str)) = false := by decide) : PE X (.Name x pos) (tC v) :=
  fun _ _ _ H _ I h => ld_blt I hg hm hv ⟨v, H, I, r, h⟩ hn hd

/-! ### arithmetic -/
/-- two ints -/
def t2I (ta tb : TE) (k : Int → Int → Hp → Prop) : St → Hp → Prop := fun σ H => ta σ H fun x H1 => tb σ H1 fun y H2 => ∃ i j, x = .int i ∧ y = .int j ∧ k i j H2
def tAdd (ta tb : TE) : TE := fun σ H Q => t2I ta tb (fun i j H2 => Q (.int (i + j)) H2) σ H
def tSub (ta tb : TE) : TE := fun σ H Q => t2I ta tb (fun i j H2 => Q (.int (i - j)) H2) σ H
/-- the left factor below 2^64 -/
def tMul (ta tb : TE) : TE := fun σ H Q => t2I ta tb (fun i j H2 => (-(2 ^ 64) < i ∧ i < 2 ^ 64) ∧ Q (.int (i * j)) H2) σ H
variable {a b : Expr} {ta tb : TE} {pos : Pos}
theorem pe_add (ha : PE X a ta) (hb : PE X b tb) : PE X (.BinOp a .Add b pos) (tAdd ta tb) := by
  intro pins s σ H Q I h
  refine wpAny_BinOp (bin ha hb I h fun v u s2 x y H2 I2 rx ry q => ?_)
  obtain ⟨i, j, rfl, rfl, q⟩ := q
  obtain ⟨t, rfl⟩ := rx
  obtain ⟨t', rfl⟩ := ry
  exact add_int ⟨.int _, H2, I2.tok _, ⟨_, rfl⟩, q⟩
theorem pe_sub (ha : PE X a ta) (hb : PE X b tb) : PE X (.BinOp a .Sub b pos) (tSub ta tb) := by
  intro pins s σ H Q I h
  refine wpAny_BinOp (bin ha hb I h fun v u s2 x y H2 I2 rx ry q => ?_)
  obtain ⟨i, j, rfl, rfl, q⟩ := q
  obtain ⟨t, rfl⟩ := rx
  obtain ⟨t', rfl⟩ := ry
  exact sub_int ⟨.int _, H2, I2.tok _, ⟨_, rfl⟩, q⟩
theorem pe_mul (ha : PE X a ta) (hb : PE X b tb) : PE X (.BinOp a .Mult b pos) (tMul ta tb) := by
  intro pins s σ H Q I h
  refine wpAny_BinOp (bin ha hb I h fun v u s2 x y H2 I2 rx ry q => ?_)
  obtain ⟨i, j, rfl, rfl, ⟨q1, q2⟩, q⟩ := q
  obtain ⟨t, rfl⟩ := rx
  obtain ⟨t', rfl⟩ := ry
  exact mul_int ⟨.int _, H2, I2.tok _, ⟨_, rfl⟩, q⟩ (.of_left (intBits_le_64 q1 q2))

/-! ### comparisons -/
def PC (X : Cx) (op : CmpOp) (a b : Expr) (t : TE) : Prop :=
  ∀ (pins : List (Addr × Obj)) (s : Shared) (σ : St) (H : Hp) (Q : VK), Inv X pins σ H s → t σ H Q →
    wpAny (model X.prog X.w) X.A (eval a X.env) (fun v s₁ => wpAny (model X.prog X.w) X.A (eval b X.env) (fun u s₂ => wpAny (model X.prog X.w) X.A (compareOp op v u) (EP X pins σ Q) X.xe s₂) X.xe s₁) X.xe s
theorem nobehind (b : Expr) {op : CmpOp} (h : op ≠ .In) (h2 : op ≠ .NotIn) : behindInMarks op b = false := by
  have e1 : (op == CmpOp.In) = false := by cases op <;> first | rfl | exact absurd rfl h
  have e2 : (op == CmpOp.NotIn) = false := by cases op <;> first | rfl | exact absurd rfl h2
  cases b <;> simp [behindInMarks, e1, e2]
def tCmp (p : Int → Int → Bool) (ta tb : TE) : TE := fun σ H Q => t2I ta tb (fun i j H2 => Q (.bl (p i j)) H2) σ H
abbrev tLt : TE → TE → TE := tCmp fun i j => decide (i < j)
abbrev tLe : TE → TE → TE := tCmp fun i j => decide (i ≤ j)
abbrev tGt : TE → TE → TE := tCmp fun i j => decide (j < i)
abbrev tGe : TE → TE → TE := tCmp fun i j => decide (j ≤ i)
abbrev tEqI : TE → TE → TE := tCmp fun i j => decide (i = j)
abbrev tNeI : TE → TE → TE := tCmp fun i j => !decide (i = j)
/-- a comparison of two ints, by its rule -/
theorem pc_int {op : CmpOp} {p : Int → Int → Bool} (ha : PE X a ta) (hb : PE X b tb)
    (rule : ∀ (i j : Int) (t u : Tok) (Q : Value → Shared → Prop) (s : Shared), Q (.bool (p i j)) s → wpAny (model X.prog X.w) X.A (compareOp op (.int i t) (.int j u)) Q X.xe s) : PC X op a b (tCmp p ta tb) := by
  intro pins s σ H Q I h
  refine bin ha hb I h fun v u s2 x y H2 I2 rx ry q => ?_
  obtain ⟨i, j, rfl, rfl, q⟩ := q
  obtain ⟨t, rfl⟩ := rx
  obtain ⟨t', rfl⟩ := ry
  exact rule i j t t' _ s2 ⟨.bl _, H2, I2, rfl, q⟩
theorem pc_lt (ha : PE X a ta) (hb : PE X b tb) : PC X .Lt a b (tLt ta tb) := pc_int ha hb fun _ _ _ _ _ _ h => lt_int h
theorem pc_le (ha : PE X a ta) (hb : PE X b tb) : PC X .LtE a b (tLe ta tb) := pc_int ha hb fun _ _ _ _ _ _ h => le_int h
theorem pc_gt (ha : PE X a ta) (hb : PE X b tb) : PC X .Gt a b (tGt ta tb) := pc_int ha hb fun _ _ _ _ _ _ h => gt_int h
theorem pc_ge (ha : PE X a ta) (hb : PE X b tb) : PC X .GtE a b (tGe ta tb) := pc_int ha hb fun _ _ _ _ _ _ h => ge_int h
theorem pc_eqI (ha : PE X a ta) (hb : PE X b tb) : PC X .Eq a b (tEqI ta tb) := pc_int ha hb fun _ _ _ _ _ _ h => eq_int (by rw [Bool.beq_eq_decide_eq]; exact h)
theorem pc_neI (ha : PE X a ta) (hb : PE X b tb) : PC X .NotEq a b (tNeI ta tb) := pc_int ha hb fun _ _ _ _ _ _ h => ne_int (by rw [bne, Bool.beq_eq_decide_eq]; exact h)
/-- is None -/
def tIsN (ta : TE) : TE := fun σ H Q => ta σ H fun x H1 => Q (.bl (decide (x = .non))) H1
def tNotN (ta : TE) : TE := fun σ H Q => ta σ H fun x H1 => Q (.bl (!decide (x = .non))) H1
theorem RelV.none_iff {x : V} {v : Value} (r : RelV x v) : (v == Value.none) = decide (x = .non) := by
  cases x with
  | non => cases r; rfl
  | bl _ => cases r; rfl
  | int _ => obtain ⟨t, rfl⟩ := r; rfl
  | str _ => obtain ⟨t, rfl⟩ := r; rfl
  | byt _ => obtain ⟨t, rfl⟩ := r; rfl
  | flt _ => obtain ⟨t, rfl⟩ := r; rfl
  | ref _ => cases r; rfl
  | ty _ => cases r; rfl
theorem pc_isN {j pos'} (ha : PE X a ta) : PC X .Is a (.Constant .none j pos') (tIsN ta) := by
  intro pins s σ H Q I h
  refine thn (ha pins s σ H _ I h) fun v s1 ⟨x, H1, I1, r1, q1⟩ => ?_
  exact Constant_none (is_none_gen ⟨.bl _, H1, I1, by rw [r1.none_iff]; rfl, q1⟩)
theorem pc_notN {j pos'} (ha : PE X a ta) : PC X .IsNot a (.Constant .none j pos') (tNotN ta) := by
  intro pins s σ H Q I h
  refine thn (ha pins s σ H _ I h) fun v s1 ⟨x, H1, I1, r1, q1⟩ => ?_
  exact Constant_none (isnot_none_gen ⟨.bl _, H1, I1, by rw [r1.none_iff]; rfl, q1⟩)
/-- a comparison as a value, as a test -/
def tB (t : TE) : TT := fun σ H Q => t σ H fun x H1 => ∃ c, x = .bl c ∧ Q c H1
theorem pe_cmp {op : CmpOp} {t : TE} (h : PC X op a b t) (h1 : behindInMarks op b = false := by first | exact nobehind _ (by decide) (by decide) | rfl) : PE X (.Compare a [op] [b] pos) t := fun pins s σ H Q I hw => wpAny_Compare1 (h pins s σ H Q I hw) h1
theorem pt_cmp {op : CmpOp} {t : TE} (h : PC X op a b t) (h1 : behindInMarks op b = false := by first | exact nobehind _ (by decide) (by decide) | rfl) : PT X (.Compare a [op] [b] pos) (tB t) := by
  intro pins s σ H Q I hw
  refine wpAny_isTrue_Compare1 (thn (h pins s σ H _ I hw) fun v s1 h1 => thn h1 fun u s2 h2 => thn h2 fun c s3 ⟨x, H1, I1, r1, q1⟩ => ?_) h1
  obtain ⟨d, rfl, q⟩ := q1
  cases r1
  exact wpAny_truthy_bool ⟨H1, I1, q⟩
/-- an expression whose value is a bool, as a test -/
theorem pt_val {e : Expr} {t : TE} (h : PE X e t) (he : ∀ whole, isTrue e X.env whole = (do let v ← whole; standAt e.pos; holding [v] (truthy v)) := by intro _; rfl) : PT X e (tB t) := by
  intro pins s σ H Q I hw
  refine isTrue_plain (thn (h pins s σ H _ I hw) fun v s1 ⟨x, H1, I1, r1, q1⟩ => ?_) (he _)
  obtain ⟨d, rfl, q⟩ := q1
  cases r1
  exact wpAny_truthy_bool ⟨H1, I1, q⟩

/-! ### and, or, not -/
variable {tA tB' : TT} {rest : List Expr}
def tAnd (t u : TT) : TT := fun σ H Q => t σ H fun c H1 => if c = true then u σ H1 Q else Q false H1
def tOr (t u : TT) : TT := fun σ H Q => t σ H fun c H1 => if c = true then Q true H1 else u σ H1 Q
def tNot (t : TT) : TT := fun σ H Q => t σ H fun c H1 => Q (!c) H1
theorem pw_and1 (ha : PT X a tA) : PW X (.BoolOp .And [a] pos) tA := by
  intro wh pins s σ H Q I h
  refine isTrue_and (thn (ha pins s σ H Q I h) fun c s1 e => ?_)
  cases c with
  | true => exact isTrue_and_nil e
  | false => exact e
theorem pw_or1 (ha : PT X a tA) : PW X (.BoolOp .Or [a] pos) tA := by
  intro wh pins s σ H Q I h
  refine isTrue_or (thn (ha pins s σ H Q I h) fun c s1 e => ?_)
  cases c with
  | false => exact isTrue_or_nil e
  | true => exact e
theorem pw_and (ha : PT X a tA) (hb : PW X (.BoolOp .And (b :: rest) pos) tB') : PW X (.BoolOp .And (a :: b :: rest) pos) (tAnd tA tB') := by
  intro wh pins s σ H Q I h
  refine isTrue_and (thn (ha pins s σ H _ I h) fun c s1 ⟨H1, I1, q1⟩ => ?_)
  cases c with
  | true => exact hb wh pins s1 σ H1 Q I1 q1
  | false => exact ⟨H1, I1, q1⟩
theorem pw_or (ha : PT X a tA) (hb : PW X (.BoolOp .Or (b :: rest) pos) tB') : PW X (.BoolOp .Or (a :: b :: rest) pos) (tOr tA tB') := by
  intro wh pins s σ H Q I h
  refine isTrue_or (thn (ha pins s σ H _ I h) fun c s1 ⟨H1, I1, q1⟩ => ?_)
  cases c with
  | true => exact ⟨H1, I1, q1⟩
  | false => exact hb wh pins s1 σ H1 Q I1 q1
theorem pt_not (ha : PT X a tA) : PT X (.UnaryOp .Not a pos) (tNot tA) := by
  intro pins s σ H Q I h
  exact isTrue_not (ha pins s σ H (fun c H1 => Q (!c) H1) I h)
/-- .. as values (bools) -/
def tAndV (ta tb : TE) : TE := fun σ H Q => ta σ H fun x H1 => ∃ c, x = .bl c ∧ if c = true then tb σ H1 Q else Q (.bl false) H1
def tOrV (ta tb : TE) : TE := fun σ H Q => ta σ H fun x H1 => ∃ c, x = .bl c ∧ if c = true then Q (.bl true) H1 else tb σ H1 Q
def tNotV (ta : TE) : TE := fun σ H Q => ta σ H fun x H1 => ∃ c, x = .bl c ∧ Q (.bl (!c)) H1
theorem pe_one {op} {t : TE} (h : PE X a t) : PE X (.BoolOp op [a] pos) t := fun pins s σ H Q I hw => BoolOp_one (h pins s σ H Q I hw)
theorem pe_and (ha : PE X a ta) (hb : PE X (.BoolOp .And (b :: rest) pos) tb) : PE X (.BoolOp .And (a :: b :: rest) pos) (tAndV ta tb) := by
  intro pins s σ H Q I h
  refine BoolOp_and (thn (ha pins s σ H _ I h) fun v s1 ⟨x, H1, I1, r1, q1⟩ => ?_)
  obtain ⟨c, rfl, q1⟩ := q1
  cases r1
  refine wpAny_truthy_bool ?_
  cases c with
  | true => exact hb pins s1 σ H1 Q I1 q1
  | false => exact ⟨.bl false, H1, I1, rfl, q1⟩
theorem pe_or (ha : PE X a ta) (hb : PE X (.BoolOp .Or (b :: rest) pos) tb) : PE X (.BoolOp .Or (a :: b :: rest) pos) (tOrV ta tb) := by
  intro pins s σ H Q I h
  refine BoolOp_or (thn (ha pins s σ H _ I h) fun v s1 ⟨x, H1, I1, r1, q1⟩ => ?_)
  obtain ⟨c, rfl, q1⟩ := q1
  cases r1
  refine wpAny_truthy_bool ?_
  cases c with
  | false => exact hb pins s1 σ H1 Q I1 q1
  | true => exact ⟨.bl true, H1, I1, rfl, q1⟩
theorem pe_not (ha : PE X a ta) : PE X (.UnaryOp .Not a pos) (tNotV ta) := by
  intro pins s σ H Q I h
  refine UnaryOp_ (thn (ha pins s σ H _ I h) fun v s1 ⟨x, H1, I1, r1, q1⟩ => ?_)
  obtain ⟨c, rfl, q1⟩ := q1
  cases r1
  exact not_of (wpAny_truthy_bool ⟨.bl (!c), H1, I1, rfl, q1⟩)
/-- a if t else b -/
def tIf (t : TT) (ta tb : TE) : TE := fun σ H Q => t σ H fun c H1 => if c = true then ta σ H1 Q else tb σ H1 Q
theorem pe_ifExp {c : Expr} (hc : PT X c tA) (ha : PE X a ta) (hb : PE X b tb) : PE X (.IfExp c a b pos) (tIf tA ta tb) := by
  intro pins s σ H Q I h
  refine wpAny_IfExp (thn (hc pins s σ H _ I h) fun d s1 ⟨H1, I1, q1⟩ => ?_)
  cases d with
  | true => exact ha pins s1 σ H1 Q I1 q1
  | false => exact hb pins s1 σ H1 Q I1 q1
end
end L2

namespace L2
open PySem PySem.Spec PyProof.Rows

/-! ### a list, a tuple that is read: tracked, frozen, or an object of the module -/
def SqL (K : PySem.W.Frag) (H : Hp) (a : Addr) (xs : List V) : Prop :=
  Rd H a (.lst xs) ∨
    ∃ (o : Obj) (its : Array Value) (n : Nat), K.lookup a = some o ∧ o.cls = .type "list" ∧ o.dict = none ∧ o.data = .seq its n ∧ its.size ≤ sizeLine ∧ Vals xs its.toList
def SqT (K : PySem.W.Frag) (H : Hp) (a : Addr) (xs : List V) : Prop :=
  Rd H a (.tup xs) ∨
    ∃ (o : Obj) (its : Array Value) (n : Nat), K.lookup a = some o ∧ o.cls = .type "tuple" ∧ o.data = .seq its n ∧ its.size ≤ sizeLine ∧ Vals xs its.toList
def absV : Value → Option V
  | .none => some .non
  | .bool b => some (.bl b)
  | .int i _ => some (.int i)
  | .str x _ => some (.str x)
  | .bytes b _ => some (.byt b)
  | .float b _ => some (.flt b)
  | .ref a => some (.ref a)
  | .type n => some (.ty n)
  | _ => none
theorem RelV.abs {x : V} {u : Value} (r : RelV x u) : absV u = some x := by
  cases x with
  | non => cases r; rfl
  | bl _ => cases r; rfl
  | int _ => obtain ⟨t, rfl⟩ := r; rfl
  | str _ => obtain ⟨t, rfl⟩ := r; rfl
  | byt _ => obtain ⟨t, rfl⟩ := r; rfl
  | flt _ => obtain ⟨t, rfl⟩ := r; rfl
  | ref _ => cases r; rfl
  | ty _ => cases r; rfl
theorem RelV.inj {x y : V} {u : Value} (r : RelV x u) (q : RelV y u) : x = y := Option.some.inj (r.abs.symm.trans q.abs)
theorem Vals.inj : ∀ {xs ys : List V} {us : List Value}, Vals xs us → Vals ys us → xs = ys
  | _, _, _, .nil, .nil => rfl
  | _, _, _, .cons r t, .cons r' t' => by rw [r.inj r', Vals.inj t t']
section
variable {X : Cx} {pins : List (Addr × Obj)} {σ : St} {H : Hp} {s : Shared} {a : Addr} {xs ys : List V}
theorem SqL.of {K : PySem.W.Frag} (h : H a = some (.lst xs)) : SqL K H a xs := .inl (.inl h)
theorem SqT.of {K : PySem.W.Frag} (h : H a = some (.tup xs)) : SqT K H a xs := .inl (.inl h)
theorem Inv.list (I : Inv X pins σ H s) (h : SqL X.K H a xs) : ∃ its : List Value, Vals xs its ∧ PlainL s.heap a its.toArray ∧ xs.length ≤ sizeLine := by
  rcases h with h | ⟨o, its, n, hk, hc, hd, hs, hz, r⟩
  · obtain ⟨z, its, n, r, e⟩ := h.ok I.hok
    exact ⟨its, r, ⟨_, n, e, rfl, rfl, rfl⟩, z⟩
  · refine ⟨its.toList, r, ⟨o, n, I.kIn a o hk, hc, hd, by simpa using hs⟩, ?_⟩
    have e := r.length
    simp only [Array.length_toList] at e
    omega
theorem Inv.tuple (I : Inv X pins σ H s) (h : SqT X.K H a xs) : ∃ its : List Value, Vals xs its ∧ IsTup s.heap a its.toArray ∧ xs.length ≤ sizeLine := by
  rcases h with h | ⟨o, its, n, hk, hc, hs, hz, r⟩
  · obtain ⟨z, its, r, p⟩ := h.ok I.hok
    exact ⟨its, r, p, z⟩
  · refine ⟨its.toList, r, ⟨o, I.kIn a o hk, hc, n, by simpa using hs⟩, ?_⟩
    have e := r.length
    simp only [Array.length_toList] at e
    omega
theorem Inv.list_inj (I : Inv X pins σ H s) (h : SqL X.K H a xs) (h' : SqL X.K H a ys) : xs = ys := by
  obtain ⟨its, r, ⟨o, n, e, _, _, d⟩, _⟩ := I.list h
  obtain ⟨its', r', ⟨o', n', e', _, _, d'⟩, _⟩ := I.list h'
  rw [e] at e'; cases e'
  rw [d] at d'
  injection d' with d1 _
  have : its = its' := by simpa using congrArg Array.toList d1
  subst this
  exact r.inj r'
theorem Inv.tuple_inj (I : Inv X pins σ H s) (h : SqT X.K H a xs) (h' : SqT X.K H a ys) : xs = ys := by
  obtain ⟨its, r, ⟨o, e, _, n, d⟩, _⟩ := I.tuple h
  obtain ⟨its', r', ⟨o', e', _, n', d'⟩, _⟩ := I.tuple h'
  rw [e] at e'; cases e'
  rw [d] at d'
  injection d' with d1 _
  have : its = its' := by simpa using congrArg Array.toList d1
  subst this
  exact r.inj r'
end

/-! ### another wish about exceptions -/
abbrev Cx.wish (X : Cx) (E : Value → Shared → Prop) : Cx := { X with xe := E }
/-- no exception leaves -/
abbrev Cx.nox (X : Cx) : Cx := X.wish fun _ _ => False
theorem Cx.Ok.wish {X : Cx} (ok : X.Ok) (E : Value → Shared → Prop) : (X.wish E).Ok :=
  ⟨ok.mod, ok.kind, ok.glob, ok.blt, ok.above, ok.inj, ok.has, ok.cab, ok.hd, ok.frames, ok.stk, ok.exf, ok.bs, ok.bsz, ok.noex, ok.exfs, ok.funs, ok.frf⟩
theorem Cx.Ok.unwish {X : Cx} {E : Value → Shared → Prop} (ok : (X.wish E).Ok) : X.Ok :=
  ⟨ok.mod, ok.kind, ok.glob, ok.blt, ok.above, ok.inj, ok.has, ok.cab, ok.hd, ok.frames, ok.stk, ok.exf, ok.bs, ok.bsz, ok.noex, ok.exfs, ok.funs, ok.frf⟩
section
variable {X : Cx} {pins : List (Addr × Obj)} {σ : St} {H : Hp} {s : Shared} {E : Value → Shared → Prop}
theorem Inv.wish (I : Inv X pins σ H s) (E : Value → Shared → Prop) : Inv (X.wish E) pins σ H s := ⟨I.ok.wish E, I.os, I.bare, I.base, I.loc, I.cell, I.free, I.freeC, I.pin, I.hok, I.len⟩
theorem Inv.unwish (I : Inv (X.wish E) pins σ H s) : Inv X pins σ H s := ⟨I.ok.unwish, I.os, I.bare, I.base, I.loc, I.cell, I.free, I.freeC, I.pin, I.hok, I.len⟩
theorem SP.unwish {D : Ends} {f : Flow} {s' : Shared} (h : SP (X.wish E) pins D f s') : SP X pins D f s' := by
  cases f with
  | next => obtain ⟨σ', H', I, q⟩ := h; exact ⟨σ', H', I.unwish, q⟩
  | brk => obtain ⟨σ', H', I, q⟩ := h; exact ⟨σ', H', I.unwish, q⟩
  | cont => obtain ⟨σ', H', I, q⟩ := h; exact ⟨σ', H', I.unwish, q⟩
  | ret u => obtain ⟨v, σ', H', I, r, q⟩ := h; exact ⟨v, σ', H', I.unwish, r, q⟩
theorem PE.nox {e : Expr} {t : TE} (h : PE X.nox e t) : PE X e t := fun pins s σ H Q I hw =>
  wpAny_mono (h pins s σ H Q (I.wish _) hw) (fun _ _ ⟨v, H', I', r, q⟩ => ⟨v, H', I'.unwish, r, q⟩) fun _ _ z => False.elim z
theorem PT.nox {e : Expr} {t : TT} (h : PT X.nox e t) : PT X e t := fun pins s σ H Q I hw =>
  wpAny_mono (h pins s σ H Q (I.wish _) hw) (fun _ _ ⟨H', I', q⟩ => ⟨H', I'.unwish, q⟩) fun _ _ z => False.elim z
theorem PSs.nox {st : List Stmt} {t : TS} (h : PSs X.nox st t) : PSs X st t := fun pins s σ H D I hw =>
  wpAny_mono (h pins s σ H D (I.wish _) hw) (fun _ _ q => q.unwish) fun _ _ z => False.elim z
end

/-! ### blocks and small statements -/
section
variable {X : Cx} {st : Stmt} {rest : List Stmt} {t u : TS} {e : Expr} {te : TE} {pos : Pos}
def tNext : TS := fun D σ H => D.nx σ H
def tSeq (t u : TS) : TS := fun D σ H => t { D with nx := u D } σ H
theorem pss_nil : PSs X [] tNext := fun _ _ σ H _ I h => wpAny_execs_nil ⟨σ, H, I, h⟩
theorem pss_cons (h1 : PS X st t) (h2 : PSs X rest u) : PSs X (st :: rest) (tSeq t u) := by
  intro pins s σ H D I h
  refine wpAny_execs_cons (thn (h1 pins s σ H { D with nx := u D } I h) fun f s1 q => ?_)
  cases f with
  | next =>
    obtain ⟨σ', H', I', q⟩ := q
    exact h2 pins s1 σ' H' D I' q
  | ret v => exact q
  | brk => exact q
  | cont => exact q
theorem pss_one (h1 : PS X st t) : PSs X [st] t := by
  intro pins s σ H D I h
  refine wpAny_execs_cons (thn (h1 pins s σ H D I h) fun f s1 q => ?_)
  cases f with
  | next => exact wpAny_execs_nil q
  | ret v => exact q
  | brk => exact q
  | cont => exact q
def tBreak : TS := fun D σ H => D.bk σ H
def tCont : TS := fun D σ H => D.ct σ H
theorem ps_pass : PS X (.Pass pos) tNext := fun _ _ σ H _ I h => wpAny_Pass ⟨σ, H, I, h⟩
theorem ps_break : PS X (.Break pos) tBreak := fun _ _ σ H _ I h => wpAny_Break ⟨σ, H, I, h⟩
theorem ps_continue : PS X (.Continue pos) tCont := fun _ _ σ H _ I h => wpAny_Continue ⟨σ, H, I, h⟩
/-- in a def's body nothing is shown -/
theorem Inv.quiet {pins : List (Addr × Obj)} {σ : St} {H : Hp} {s : Shared} (I : Inv X pins σ H s) : interactive X.env = false := by simp [interactive, I.ok.kind]
/-- a docstring -/
theorem ps_doc {x j pos pos'} : PS X (.Expr (.Constant (.str x) j pos) pos') tNext := fun _ s σ H _ I h => wpAny_Expr (Calls.Constant_str (show SP X _ _ .next { s with toks := s.toks + 1 } from ⟨σ, H, I.tok _, h⟩)) I.quiet
/-- an expression whose value is dropped -/
def tDrop (te : TE) : TS := fun D σ H => te σ H fun _ H1 => D.nx σ H1
theorem ps_expr (he : PE X e te) (hs : swapsWith e none pos.line X.env = pure false := by rfl) : PS X (.Expr e pos) (tDrop te) := by
  intro pins s σ H D I h
  exact wpAny_Expr_any (thn (he pins s σ H _ I h) fun v s1 ⟨x, H1, I1, r1, q1⟩ => ⟨σ, H1, I1, q1⟩) I.quiet hs
def tRet (te : TE) : TS := fun D σ H => te σ H D.rt
theorem ps_ret (he : PE X e te) : PS X (.Return (some e) pos) (tRet te) := by
  intro pins s σ H D I h
  exact wpAny_Return_some (thn (he pins s σ H _ I h) fun v s1 ⟨x, H1, I1, r1, q1⟩ => ⟨x, σ, H1, I1, r1, q1⟩)
def tRetN : TS := fun D _ H => D.rt .non H
theorem ps_retN : PS X (.Return none pos) tRetN := fun _ _ σ H _ I h => wpAny_Return_none ⟨.non, σ, H, I, rfl, h⟩
def tIfS (c : TT) (t u : TS) : TS := fun D σ H => c σ H fun b H1 => if b = true then t D σ H1 else u D σ H1
theorem ps_if {c : Expr} {a b : List Stmt} {tc : TT} (hc : PT X c tc) (ha : PSs X a t) (hb : PSs X b u) : PS X (.If c a b pos) (tIfS tc t u) := by
  intro pins s σ H D I h
  refine wpAny_If (thn (hc pins s σ H _ I h) fun d s1 ⟨H1, I1, q1⟩ => ?_)
  cases d with
  | true => exact ha pins s1 σ H1 D I1 q1
  | false => exact hb pins s1 σ H1 D I1 q1
/-- code that the proof never comes to -/
def tNever : TS := fun _ _ _ => False
theorem ps_never : PS X st tNever := fun _ _ _ _ _ _ h => h.elim
theorem pss_never {sts : List Stmt} : PSs X sts tNever := fun _ _ _ _ _ _ h => h.elim
end

/-! ### targets -/
abbrev TG := V → St → Hp → (St → Hp → Prop) → Prop
abbrev TGs := List V → St → Hp → (St → Hp → Prop) → Prop
def PG (X : Cx) (target : Expr) (t : TG) : Prop :=
  ∀ (pins : List (Addr × Obj)) (s : Shared) (σ : St) (H : Hp) (v : V) (u : Value) (Q : St → Hp → Prop), Inv X pins σ H s → RelV v u → t v σ H Q →
    wpAny (model X.prog X.w) X.A (assign target X.env u) (fun _ s' => ∃ σ' H', Inv X pins σ' H' s' ∧ Q σ' H') X.xe s
/-- several targets, one after another -/
def PGs (X : Cx) (ts : List Expr) (t : TGs) : Prop :=
  ∀ (pins : List (Addr × Obj)) (s : Shared) (σ : St) (H : Hp) (vs : List V) (us : List Value) (Q : St → Hp → Prop), Inv X pins σ H s → Vals vs us → t vs σ H Q →
    wpAny (model X.prog X.w) X.A (assignInOrder ((assignEach ts X.env).map (·.2)) us) (fun _ s' => ∃ σ' H', Inv X pins σ' H' s' ∧ Q σ' H') X.xe s
/-- o[i] = v, by values -/
abbrev TSet := V → V → V → Hp → (Hp → Prop) → Prop
def PSet (X : Cx) (t : TSet) : Prop :=
  ∀ (pins : List (Addr × Obj)) (s : Shared) (σ : St) (H : Hp) (o i v : V) (ov iv u : Value) (Q : Hp → Prop), Inv X pins σ H s → RelV o ov → RelV i iv → RelV v u → t o i v H Q →
    wpAny (model X.prog X.w) X.A (setItem ov iv u) (fun _ s' => ∃ H', Inv X pins σ H' s' ∧ Q H') X.xe s
/-- a op= b, by values -/
abbrev TIp := V → V → Hp → VK → Prop
def PIp (X : Cx) (op : Operator) (t : TIp) : Prop :=
  ∀ (pins : List (Addr × Obj)) (s : Shared) (σ : St) (H : Hp) (x y : V) (v u : Value) (Q : VK), Inv X pins σ H s → RelV x v → RelV y u → t x y H Q →
    wpAny (model X.prog X.w) X.A (inplaceOp op v u) (EP X pins σ Q) X.xe s
section
variable {X : Cx} {pos : Pos}
def gName (i : Nat) : TG := fun v σ H Q => Q (σ.set i (some v)) H
theorem pg_name {i : Nat} {x : Str} (hN : X.N.Nodup) (hi : X.N[i]? = some x) (hx : Loc X.env.scope x) (hf : X.fn x = true ∨ X.env.scope.names.lookup x = some .local := by first | exact .inl rfl | exact .inr rfl | assumption) : PG X (.Name x pos) (gName i) := by
  intro pins s σ H v u Q I r h
  exact wpAny_assign_Name (store_ok I hN hi hx r (fun s' I' => ⟨_, H, I', h⟩) hf)
def gNil : TGs := fun vs σ H Q => vs = [] ∧ Q σ H
def gCons (t : TG) (u : TGs) : TGs := fun vs σ H Q => ∃ v r, vs = v :: r ∧ t v σ H fun σ' H' => u r σ' H' Q
theorem pgs_nil : PGs X [] gNil := by
  intro pins s σ H vs us Q I r h
  obtain ⟨e, h⟩ := h
  subst e
  cases r
  exact assignInOrder_nil ⟨σ, H, I, h⟩
theorem pgs_cons {e : Expr} {es : List Expr} {t : TG} {u : TGs} (h1 : PG X e t) (h2 : PGs X es u)
    (hs : (assignEach (e :: es) X.env).map (·.2) = assign e X.env :: (assignEach es X.env).map (·.2) := by rfl) : PGs X (e :: es) (gCons t u) := by
  intro pins s σ H vs us Q I r h
  obtain ⟨v, vr, e1, h⟩ := h
  subst e1
  cases r with
  | cons r rr =>
    rw [hs]
    refine assignInOrder_cons (thn (h1 pins s σ H _ _ _ I r h) fun _ s1 ⟨σ1, H1, I1, q1⟩ => ?_)
    exact h2 pins s1 σ1 H1 _ _ Q I1 rr q1
/-- (a, b, ..) = a tuple of that length -/
def gTup (K : PySem.W.Frag) (n : Nat) (t : TGs) : TG := fun v σ H Q => ∃ a xs, v = .ref a ∧ SqT K H a xs ∧ xs.length = n ∧ t xs σ H Q
theorem pg_tup {es : List Expr} {k : Nat} {t : TGs} {n : Nat} (hc : X.calm = true) (h : PGs X es t)
    (hn : (assignEach es X.env).length = n := by rfl) (hst : (assignEach es X.env).findIdx? (·.1) = none := by rfl) : PG X (.Tuple es k pos) (gTup X.K n t) := by
  intro pins s σ H v u Q I r hw
  obtain ⟨a, xs, e1, hq, hl, hw⟩ := hw
  subst e1
  cases r
  obtain ⟨its, rv, ht, hz⟩ := I.tuple hq
  refine assign_Tuple_tuple (I.ok.hd hc) ht (by simp [hn, ← hl, rv.length]) hst fun h' hx => ?_
  have I1 : Inv X pins σ H { s with heap := h' } := I.kept (t' := s.toks) fun b o e => hx b o (Nat.ne_of_lt (Heap.lt_size e)) e
  exact h pins _ σ H xs _ Q I1 (by simpa using rv) hw
/-- o[i] = .. -/
def gSub (to ti : TE) (t : TSet) : TG := fun v σ H Q => to σ H fun o H1 => ti σ H1 fun i H2 => t o i v H2 fun H3 => Q σ H3
theorem pg_sub {o i : Expr} {to ti : TE} {t : TSet} (ho : PE X o to) (hi : PE X i ti) (hs : PSet X t)
    (ha : ∀ v, assign (.Subscript o i pos) X.env v = (do
      let ov ← holding [v] (eval o X.env)
      let iv ← holding [v, ov] (eval i X.env)
      standAt pos
      holding [v, ov, iv] (setItem ov iv v)
      release [v, ov, iv] []) := by intro _; rfl) : PG X (.Subscript o i pos) (gSub to ti t) := by
  intro pins s σ H v u Q I r h
  rw [ha]
  refine wpAny_bind (wpAny_holding (thn (ho pins s σ H _ I h) fun ov s1 ⟨x, H1, I1, r1, q1⟩ => ?_))
  refine wpAny_bind (wpAny_holding (thn (hi pins s1 σ H1 _ I1 q1) fun iv s2 ⟨y, H2, I2, r2, q2⟩ => ?_))
  refine wpAny_bind (wpAny_standAt (wpAny_bind (wpAny_holding (thn (hs pins s2 σ H2 x y v ov iv u _ I2 r1 r2 r q2) fun _ s3 ⟨H3, I3, q3⟩ => ?_))))
  exact wpAny_release ⟨σ, H3, I3, q3⟩
/-- target = value -/
def tAsg (te : TE) (g : TG) : TS := fun D σ H => te σ H fun x H1 => g x σ H1 D.nx
theorem ps_asg {tg e : Expr} {te : TE} {g : TG} (he : PE X e te) (hg : PG X tg g) (hs : swapsWithSole [tg] e pos.line X.env = pure false := by rfl) (hw : swappedStores [tg] e X.env = pure none := by rfl)
    (h1 : (assignEach [tg] X.env).map (·.2) = [assign tg X.env] := by rfl) : PS X (.Assign [tg] e pos) (tAsg te g) := by
  intro pins s σ H D I h
  refine wpAny_Assign_stores (thn (he pins s σ H _ I h) fun v s1 ⟨x, H1, I1, r1, q1⟩ => ?_) hs hw
  rw [h1]
  exact thn (hg pins s1 σ H1 x v _ I1 r1 q1) fun _ s2 q => q
/-- name = value -/
theorem ps_set {i : Nat} {x : Str} {e : Expr} {te : TE} {pos' : Pos} (hN : X.N.Nodup) (hi : X.N[i]? = some x) (hx : Loc X.env.scope x) (he : PE X e te) (hs : swapsWith e (some (.Name x pos')) pos.line X.env = pure false := by rfl) (hf : X.fn x = true ∨ X.env.scope.names.lookup x = some .local := by first | exact .inl rfl | exact .inr rfl | assumption) :
    PS X (.Assign [.Name x pos'] e pos) (tAsg te (gName i)) := by
  intro pins s σ H D I h
  refine wpAny_Assign_Name (thn (he pins s σ H _ I h) fun v s1 ⟨y, H1, I1, r1, q1⟩ => ?_) hs
  exact store_ok I1 hN hi hx r1 (fun s2 I2 => ⟨_, H1, I2, q1⟩) hf
/-- a, b = x, y with plain local names: stored from the right; the pair itself is not tracked (the opening rows as in PyProof/Rows/TupAssign.lean:23) -/
def tPar (i j : Nat) (ta : TA) : TS := fun D σ H => ta σ H fun vs H1 => ∃ v w, vs = [v, w] ∧ D.nx ((σ.set i (some v)).set j (some w)) H1
theorem ps_par {i j : Nat} {x y : Str} {a b : Expr} {ta : TA} {px py pt : Pos} {kt k2 pt2} (hc : X.calm = true) (hN : X.N.Nodup) (hi : X.N[i]? = some x) (hj : X.N[j]? = some y) (hij : i ≠ j)
    (hx : X.env.scope.names.lookup x = some .local) (hy : X.env.scope.names.lookup y = some .local) (ha : PA X [a, b] ta)
    (hw : swappedStores [.Tuple [.Name x px, .Name y py] kt pt] (.Tuple [a, b] k2 pt2) X.env = pure (some [x, y]))
    (hs : swapsWithSole [.Tuple [.Name x px, .Name y py] kt pt] (.Tuple [a, b] k2 pt2) pos.line X.env = pure false := by rfl) :
    PS X (.Assign [.Tuple [.Name x px, .Name y py] kt pt] (.Tuple [a, b] k2 pt2) pos) (tPar i j ta) := by
  intro pins s σ H D I h
  rw [exec_Assign_arm]
  refine wpAny_bind (wpAny_standAt ?_)
  rw [hs]
  refine wpAny_bind (wpAny_pure ?_)
  rw [if_neg (by decide)]
  refine wpAny_bind (Tuple_ (thn (ha _ pins s σ H _ I h) fun us s1 ⟨vs, H1, I1, r1, q1⟩ => ?_))
  obtain ⟨v, w, e1, q1⟩ := q1
  subst e1
  obtain ⟨u1, u2, rfl, rv, rw'⟩ : ∃ u1 u2, us = [u1, u2] ∧ RelV v u1 ∧ RelV w u2 := by
    cases r1 with
    | cons p q =>
      cases q with
      | cons p' q' =>
        cases q'
        exact ⟨_, _, rfl, p, p'⟩
  refine wpAny_newObj_type ?_ (by show 2 ≤ sizeLine; decide)
  have I2 : Inv X pins σ H1 { s1 with heap := s1.heap.push { cls := .type "tuple", data := .seq [u1, u2].toArray } } := I1.kept (t' := s1.toks) fun b o e => Heap.get?_push_of_some _ e
  rw [hw]
  refine wpAny_bind (wpAny_pure ?_)
  show wpAny (model X.prog X.w) X.A (do rule "assign.swapped-stores"; let items ← unpackItems (.ref s1.heap.objs.size) 2 none; assignInOrder [fun v => bindName X.env y v, fun v => bindName X.env x v] items.reverse; pure Flow.next) _ _ _
  refine wpAny_bind (wpAny_rule (wpAny_bind (unpackItems_tuple (items := #[u1, u2]) (I.ok.hd hc) (IsTup.new s1.heap _) fun h' hx' => ?_)))
  have I3 := I2.kept (h' := h') (t' := s1.toks) fun b o e => hx' b o (Nat.ne_of_lt (Heap.lt_size e)) e
  show wpAny _ _ (assignInOrder [fun v => bindName X.env y v, fun v => bindName X.env x v] [u2, u1] >>= fun _ => pure Flow.next) _ _ _
  refine wpAny_bind (assignInOrder_cons (wpAny_bindName (store_ok I3 hN hj (.inl hy) rw' (fun s2 I4 => ?_) (.inr hy))))
  refine assignInOrder_cons (wpAny_bindName (store_ok I4 hN hi (.inl hx) rv (fun s3 I5 => assignInOrder_nil (wpAny_pure ?_)) (.inr hx)))
  rw [List.set_comm _ _ (Ne.symm hij)] at I5
  exact ⟨_, H1, I5, q1⟩
/-- name op= e -/
def tAug (i : Nat) (te : TE) (ti : TIp) : TS := fun D σ H => ∃ x, σ[i]? = some (some x) ∧ te σ H fun y H1 => ti x y H1 fun z H2 => D.nx (σ.set i (some z)) H2
theorem ps_aug {i : Nat} {x : Str} {e : Expr} {te : TE} {op : Operator} {ti : TIp} {pos' : Pos} (hN : X.N.Nodup) (hi : X.N[i]? = some x) (hx : Loc X.env.scope x) (he : PE X e te) (ho : PIp X op ti) (hf : X.fn x = true ∨ X.env.scope.names.lookup x = some .local := by first | exact .inl rfl | exact .inr rfl | assumption) :
    PS X (.AugAssign (.Name x pos') op e pos) (tAug i te ti) := by
  intro pins s σ H D I h
  obtain ⟨v, e1, h⟩ := h
  obtain ⟨m, hn, hl⟩ := I.loc
  have vis : Vis X.env.scope x := by rcases hx with k | k; exact .inl k; exact .inr (.inl k)
  obtain ⟨u, r, l⟩ := hl i x v hi e1 vis
  refine wpAny_AugAssign_Name ?_
  have go : wpAny (model X.prog X.w) X.A (eval e X.env) (fun w s₂ => wpAny (model X.prog X.w) X.A (inplaceOp op u w) (fun r s₃ => wpAny (model X.prog X.w) X.A (storeName X.env x r) (fun _ => SP X pins D .next) X.xe s₃) X.xe s₂) X.xe s := by
    refine thn (he pins s σ H _ I h) fun w s1 ⟨y, H1, I1, r1, q1⟩ => ?_
    refine thn (ho pins s1 σ H1 v y u w _ I1 r r1 q1) fun z s2 ⟨zv, H2, I2, r2, q2⟩ => ?_
    exact store_ok I2 hN hi hx r2 (fun s3 I3 => ⟨_, H2, I3, q2⟩) hf
  rcases l with ⟨hk, hm⟩ | ⟨hk, c, hc, hcell⟩
  · exact wpAny_loadName_local I.ok.kind hk hn hm go
  · rcases hk with hk | hk
    · exact wpAny_loadName_cell I.ok.kind hk hc hcell go
    · rcases hx with k | k
      · have : X.env.scope.names.lookup x = some .free := hk
        rw [k] at this; cases this
      · have : X.env.scope.names.lookup x = some .free := hk
        rw [k] at this; cases this
/-- o[i] op= e -/
def tAugS (to ti te : TE) (tget : V → V → Hp → VK → Prop) (tip : TIp) (tset : TSet) : TS := fun D σ H => to σ H fun o H1 => ti σ H1 fun i H2 => tget o i H2 fun x H3 => te σ H3 fun y H4 => tip x y H4 fun z H5 => tset o i z H5 fun H6 => D.nx σ H6
/-- o[i], by values -/
def PGet (X : Cx) (t : V → V → Hp → VK → Prop) : Prop :=
  ∀ (pins : List (Addr × Obj)) (s : Shared) (σ : St) (H : Hp) (o i : V) (ov iv : Value) (Q : VK), Inv X pins σ H s → RelV o ov → RelV i iv → t o i H Q →
    wpAny (model X.prog X.w) X.A (getItem ov iv) (EP X pins σ Q) X.xe s
theorem ps_augS {o i e : Expr} {to ti te : TE} {tget : V → V → Hp → VK → Prop} {tip : TIp} {tset : TSet} {op : Operator} {tpos : Pos} (ho : PE X o to) (hi : PE X i ti) (hg : PGet X tget) (he : PE X e te) (hp : PIp X op tip) (hs : PSet X tset)
    (ha : ∀ ov iv new, augStore i ov iv new = (do holding [new, ov, iv] (setItem ov iv new); release [new, ov, iv] []; pure .next) := by intros; rfl) : PS X (.AugAssign (.Subscript o i tpos) op e pos) (tAugS to ti te tget tip tset) := by
  intro pins s σ H D I h
  refine wpAny_AugAssign_SubscriptAny (thn (ho pins s σ H _ I h) fun ov s1 ⟨x1, H1, I1, r1, q1⟩ => ?_) ha
  refine thn (hi pins s1 σ H1 _ I1 q1) fun iv s2 ⟨x2, H2, I2, r2, q2⟩ => ?_
  refine thn (hg pins s2 σ H2 x1 x2 ov iv _ I2 r1 r2 q2) fun old s3 ⟨x3, H3, I3, r3, q3⟩ => ?_
  refine thn (he pins s3 σ H3 _ I3 q3) fun v s4 ⟨x4, H4, I4, r4, q4⟩ => ?_
  refine thn (hp pins s4 σ H4 x3 x4 old v _ I4 r3 r4 q4) fun new s5 ⟨x5, H5, I5, r5, q5⟩ => ?_
  exact thn (hs pins s5 σ H5 x1 x2 x5 ov iv new _ I5 r1 r2 r5 q5) fun _ s6 ⟨H6, I6, q6⟩ => ⟨σ, H6, I6, q6⟩
/-- ints -/
def ipI (f : Int → Int → Int) : TIp := fun x y H Q => ∃ i j, x = .int i ∧ y = .int j ∧ Q (.int (f i j)) H
theorem ip_add : PIp X .Add (ipI fun i j => i + j) := by
  intro pins s σ H x y v u Q I r1 r2 h
  obtain ⟨i, j, e1, e2, q⟩ := h
  subst e1; subst e2
  obtain ⟨t, rfl⟩ := r1
  obtain ⟨t', rfl⟩ := r2
  exact iadd_int ⟨.int _, H, I.tok _, ⟨_, rfl⟩, q⟩
theorem ip_sub : PIp X .Sub (ipI fun i j => i - j) := by
  intro pins s σ H x y v u Q I r1 r2 h
  obtain ⟨i, j, e1, e2, q⟩ := h
  subst e1; subst e2
  obtain ⟨t, rfl⟩ := r1
  obtain ⟨t', rfl⟩ := r2
  exact isub_int ⟨.int _, H, I.tok _, ⟨_, rfl⟩, q⟩
end

/-! ### while -/
section
variable {X : Cx} {pos : Pos}
/-- the invariant W with its measure -/
def tWhile (c : TT) (tb : TS) : TS := fun D σ H => ∃ W : Nat → St → Hp → Prop, (∃ m, W m σ H) ∧ ∀ m σ H, W m σ H →
  c σ H fun b H1 => if b = true then ∃ N : St → Hp → Prop, (∀ σ' H', N σ' H' → ∃ m', m' < m ∧ W m' σ' H') ∧ tb { D with nx := N, ct := N, bk := D.nx } σ H1 else D.nx σ H1
theorem ps_while {c : Expr} {body : List Stmt} {tc : TT} {tb : TS} (hp : PassesOwn (model X.prog X.w) X.A X.env X.xe) (hc : PT X c tc) (hb : PSs X body tb) : PS X (.While c body [] pos) (tWhile tc tb) := by
  intro pins s σ H D I h
  obtain ⟨W, ⟨m0, w0⟩, turn⟩ := h
  refine wpAny_While (codeAny_whileLoop (fun n s' => ∃ σ' H', Inv X pins σ' H' s' ∧ W n σ' H') ?_ m0 ⟨σ, H, I, w0⟩)
  rintro n s1 ⟨σ1, H1, I1, w1⟩
  refine wpAny_passesOwn hp (thn (hc pins s1 σ1 H1 _ I1 (turn n σ1 H1 w1)) fun b s2 ⟨H2, I2, q2⟩ => ?_)
  cases b with
  | true =>
    obtain ⟨N, hN, q2⟩ := q2
    rw [if_pos rfl]
    refine wpAny_passesOwn hp (thn (hb pins s2 σ1 H2 _ I2 q2) fun f s3 q3 => ?_)
    cases f with
    | next =>
      obtain ⟨σ3, H3, I3, n3⟩ := q3
      obtain ⟨m', hm, w3⟩ := hN σ3 H3 n3
      exact ⟨m', hm, σ3, H3, I3, w3⟩
    | cont =>
      obtain ⟨σ3, H3, I3, n3⟩ := q3
      obtain ⟨m', hm, w3⟩ := hN σ3 H3 n3
      exact ⟨m', hm, σ3, H3, I3, w3⟩
    | brk => exact q3
    | ret v => exact q3
  | false =>
    rw [if_neg Bool.false_ne_true]
    exact wpAny_execs_nil ⟨σ1, H2, I2, q2⟩
end

/-! ### what a loop or a comprehension walks -/
/-- at turn i: it yields x (the heap may grow), or it stops -/
structure It where
  go : Nat → Hp → Prop
  yld : Nat → Hp → V → Hp → Prop
  stop : Nat → Hp → Prop
/-- the iterator's own objects may turn: they are not the frame's, not pinned, younger than the entry (or a comprehension's own) -/
def FpOk (X : Cx) (pins : List (Addr × Obj)) (H : Hp) (b : Addr) : Prop :=
  H b = none ∧ b ≠ X.env.locals ∧ b ∉ X.fs ∧ (b ∈ X.ex ∨ X.s₀.heap.objs.size ≤ b) ∧ (∀ x c, X.env.cells.lookup x = some c → c ≠ b) ∧ ∀ p ∈ X.pn ++ pins, p.1 ≠ b
theorem Inv.fpOk {X : Cx} {pins : List (Addr × Obj)} {σ : St} {H H' : Hp} {s : Shared} {b : Addr} (I : Inv X pins σ H s) (hb : s.heap.objs.size ≤ b) (hn : H' b = none) : FpOk X pins H' b := by
  refine ⟨hn, Nat.ne_of_gt (Nat.lt_of_lt_of_le I.lt hb), I.nofs hb, .inr (Nat.le_trans I.sz hb), fun x c e z => ?_, fun p hp z => ?_⟩
  · obtain ⟨v, q⟩ := I.cell x c e
    exact absurd (Nat.lt_of_lt_of_le q.lt (by rw [z]; exact hb)) (Nat.lt_irrefl _)
  · exact absurd (Nat.lt_of_lt_of_le (Heap.lt_size (I.pin p hp).1) (by rw [z]; exact hb)) (Nat.lt_irrefl _)
structure Turn (P : Program) (w : World) (K : PySem.W.Frag) (tg : Expr) (J : It) (fp : List Addr) (it : Addr) (tn : Nat → Heap → Prop) : Prop where
  mem : it ∈ fp
  obj : ∀ i h, tn i h → ∀ b ∈ fp, ∃ o, h.get? b = some o ∧ ∀ v, o.data ≠ .cell v
  keep : ∀ i h h', tn i h → (∀ b ∈ fp, ∀ o, h.get? b = some o → h'.get? b = some o) → tn i h'
  item : ∀ (X : Cx), X.prog = P → X.w = w → X.K = K → X.calm = true → ∀ (i : Nat) (pins : List (Addr × Obj)) (s : Shared) (σ : St) (H : Hp) (E : Value → Shared → Prop), Inv X pins σ H s → (∀ b ∈ fp, FpOk X pins H b) → tn i s.heap → J.go i H →
    wpAny (model P w) X.A (pyNext (.ref it)) (fun r s1 => ∃ u, r = some u ∧
      wpAny (model P w) X.A (letOwnedTupleGo tg (.ref it) u) (fun _ s2 => ∃ x H', Inv X pins σ H' s2 ∧ RelV x u ∧ J.yld i H x H' ∧ tn (i + 1) s2.heap ∧ ∀ b ∈ fp, H' b = none) E s1) E s
  done : ∀ (X : Cx), X.prog = P → X.w = w → X.K = K → X.calm = true → ∀ (i : Nat) (pins : List (Addr × Obj)) (s : Shared) (σ : St) (H : Hp) (E : Value → Shared → Prop), Inv X pins σ H s → (∀ b ∈ fp, FpOk X pins H b) → tn i s.heap → J.stop i H →
    wpAny (model P w) X.A (pyNext (.ref it)) (fun r s1 => r = none ∧ Inv X pins σ H s1) E s
  self : ∀ (A : Around) (i : Nat) (s : Shared) (Q : Value → Shared → Prop) (E : Value → Shared → Prop), tn i s.heap → Q (.ref it) s → wpAny (model P w) A (pyIter (.ref it)) Q E s
abbrev TI := St → Hp → (It → Hp → Prop) → Prop
/-- an iterator has come -/
def PIE (X : Cx) (pins : List (Addr × Obj)) (σ : St) (tg : Expr) (R : It → Hp → Prop) (itv : Value) (s2 : Shared) : Prop :=
  ∃ (it : Addr) (fp : List Addr) (tn : Nat → Heap → Prop) (J : It) (H' : Hp), itv = .ref it ∧ Inv X pins σ H' s2 ∧ Turn X.prog X.w X.K tg J fp it tn ∧ tn 0 s2.heap ∧ (∀ b ∈ fp, FpOk X pins H' b) ∧ R J H'
def PI (X : Cx) (tg iter : Expr) (wi : TI) : Prop :=
  ∀ (pins : List (Addr × Obj)) (s : Shared) (σ : St) (H : Hp) (R : It → Hp → Prop), Inv X pins σ H s → wi σ H R →
    wpAny (model X.prog X.w) X.A (eval iter X.env) (fun v s1 => wpAny (model X.prog X.w) X.A (pyIter v) (PIE X pins σ tg R) X.xe s1) X.xe s

/-- the step ahead of the store is nothing for an iterator that keeps no tuple -/
theorem go_of {M : Model} {A : Around} {E : Value → Shared → Prop} {s : Shared} {tg : Expr} {it : Addr} {u : Value} {o : Obj} {n : String} {vs : Array Value} {Q : Unit → Shared → Prop} (ho : s.heap.get? it = some o) (hc : o.cls = .type n) (hd : o.data = .fields vs)
    (hn : ["enumerate", "zip", "dict_itemiterator", "dict_reverseitemiterator", "odict_iterator", "itertools.zip_longest", "itertools.pairwise"].contains n = false) (hQ : Q () s) : wpAny M A (letOwnedTupleGo tg (.ref it) u) Q E s := by
  unfold letOwnedTupleGo
  cases tg <;> first
    | exact wpAny_pure hQ
    | (cases u <;> first
        | exact wpAny_pure hQ
        | (refine wpAny_bind (wpAny_load ho ?_)
           rw [hc, hd]
           show wpAny M A (if (["enumerate", "zip", "dict_itemiterator", "dict_reverseitemiterator", "odict_iterator", "itertools.zip_longest", "itertools.pairwise"].contains n && vs[0]? == some (rawInt _)) = true then _ else _) Q E s
           rw [if_neg (by intro h; rw [hn, Bool.false_and] at h; cases h)]
           exact wpAny_pure hQ))

/-- the list at a, as it stands at each turn (a loop may append to it) -/
def Itl (K : PySem.W.Frag) (a : Addr) : It :=
  ⟨fun i H => ∃ xs x, SqL K H a xs ∧ xs[i]? = some x, fun i H x H' => H' = H ∧ ∀ xs, SqL K H a xs → xs[i]? = some x, fun i H => ∃ xs, SqL K H a xs ∧ xs.length ≤ i⟩
def Itt (K : PySem.W.Frag) (a : Addr) : It :=
  ⟨fun i H => ∃ xs x, SqT K H a xs ∧ xs[i]? = some x, fun i H x H' => H' = H ∧ ∀ xs, SqT K H a xs → xs[i]? = some x, fun i H => ∃ xs, SqT K H a xs ∧ xs.length ≤ i⟩
/-- lo, lo + 1, .. (n of them) -/
def Itr (lo : Int) (n : Nat) : It := ⟨fun i _ => i < n, fun i H x H' => H' = H ∧ x = .int (lo + i), fun i _ => n ≤ i⟩
theorem turn_list {P : Program} {w : World} {K : PySem.W.Frag} {tg : Expr} (a it : Addr) : Turn P w K tg (Itl K a) [it] it (fun i h => h.IsListIter it a i) where
  mem := by simp
  obj := fun i h st b hb => by
    have e : b = it := by simpa using hb
    subst e
    obtain ⟨o, e, c, d⟩ := st
    exact ⟨o, e, fun v z => by rw [d] at z; cases z⟩
  keep := fun i h h' st k => st.at fun o e => k it (by simp) o e
  item := by
    intro X hP hw hK hc i pins s σ H E I hf st hg
    subst hP hw hK
    obtain ⟨xs, x, hq, hx⟩ := hg
    obtain ⟨its, rv, p, hz⟩ := I.list hq
    obtain ⟨u, hu, ru⟩ := rv.get hx
    obtain ⟨f0, f1, f2, f3, f4, f5⟩ := hf it (by simp)
    refine wpAny_pyNext_list_item st p.isList (x := u) (by simpa using hu) fun h' st' sb => ?_
    have I1 : Inv X pins σ H { s with heap := h' } := I.turned (t' := s.toks) (fun b o hb e => (sb.2 b hb).trans e) f0 f1 f3 f4 f5
    obtain ⟨o, e, c, d⟩ := id st'
    exact ⟨u, rfl, go_of (s := { s with heap := h' }) e c d (by decide) ⟨x, H, I1, ru, ⟨rfl, fun ys hy => by rw [I.list_inj hy hq]; exact hx⟩, st', fun b hb => (hf b hb).1⟩⟩
  done := by
    intro X hP hw hK hc i pins s σ H E I hf st hg
    subst hP hw hK
    obtain ⟨xs, hq, hx⟩ := hg
    obtain ⟨its, rv, p, hz⟩ := I.list hq
    obtain ⟨f0, f1, f2, f3, f4, f5⟩ := hf it (by simp)
    have hl := rv.length
    exact wpAny_pyNext_list_end (I.ok.hd hc) st p.isList (by simp; omega) fun h' eb => ⟨rfl, I.turned (t' := s.toks) (fun b o hb e => eb b o hb e) f0 f1 f3 f4 f5⟩
  self := fun _ _ _ _ _ st h => wpAny_pyIter_listiter st h
theorem turn_tuple {P : Program} {w : World} {K : PySem.W.Frag} {tg : Expr} (a it : Addr) : Turn P w K tg (Itt K a) [it] it (fun i h => h.IsTupleIter it a i) where
  mem := by simp
  obj := fun i h st b hb => by
    have e : b = it := by simpa using hb
    subst e
    obtain ⟨o, e, c, d⟩ := st
    exact ⟨o, e, fun v z => by rw [d] at z; cases z⟩
  keep := fun i h h' st k => st.at fun o e => k it (by simp) o e
  item := by
    intro X hP hw hK hc i pins s σ H E I hf st hg
    subst hP hw hK
    obtain ⟨xs, x, hq, hx⟩ := hg
    obtain ⟨its, rv, p, hz⟩ := I.tuple hq
    obtain ⟨u, hu, ru⟩ := rv.get hx
    obtain ⟨f0, f1, f2, f3, f4, f5⟩ := hf it (by simp)
    refine wpAny_pyNext_tuple_item st (show s.heap.IsTuple a its.toArray from p) (x := u) (by simpa using hu) fun h' st' sb => ?_
    have I1 : Inv X pins σ H { s with heap := h' } := I.turned (t' := s.toks) (fun b o hb e => (sb.2 b hb).trans e) f0 f1 f3 f4 f5
    obtain ⟨o, e, c, d⟩ := id st'
    exact ⟨u, rfl, go_of (s := { s with heap := h' }) e c d (by decide) ⟨x, H, I1, ru, ⟨rfl, fun ys hy => by rw [I.tuple_inj hy hq]; exact hx⟩, st', fun b hb => (hf b hb).1⟩⟩
  done := by
    intro X hP hw hK hc i pins s σ H E I hf st hg
    subst hP hw hK
    obtain ⟨xs, hq, hx⟩ := hg
    obtain ⟨its, rv, p, hz⟩ := I.tuple hq
    obtain ⟨f0, f1, f2, f3, f4, f5⟩ := hf it (by simp)
    have hl := rv.length
    exact wpAny_pyNext_tuple_end (I.ok.hd hc) st (show s.heap.IsTuple a its.toArray from p) (by simp; omega) fun h' eb => ⟨rfl, I.turned (t' := s.toks) (fun b o hb e => eb b o hb e) f0 f1 f3 f4 f5⟩
  self := fun _ _ _ _ _ st h => wpAny_pyIter_tupleiter st h
theorem turn_range {P : Program} {w : World} {K : PySem.W.Frag} {tg : Expr} (it : Addr) (lo : Int) (n : Nat) : Turn P w K tg (Itr lo n) [it] it (fun i h => IsRangeIter h it (lo + (i : Nat) * 1) ((n : Int) - (i : Nat)) 1) where
  mem := by simp
  obj := fun i h st b hb => by
    have e : b = it := by simpa using hb
    subst e
    exact ⟨_, st, fun v z => by
      have z' : Data.fields _ = Data.cell v := z
      cases z'⟩
  keep := fun i h h' st k => k it (by simp) _ st
  item := by
    intro X hP hw hK hc i pins s σ H E I hf st hg
    subst hP hw hK
    obtain ⟨f0, f1, f2, f3, f4, f5⟩ := hf it (by simp)
    have W := Walks.range (prog := X.prog) (w := X.w) (I.ok.hd hc) it lo 1 n
    refine W.item i s _ _ hg st fun v h' tk hv st' kk => ?_
    obtain ⟨t, rfl⟩ := hv
    have I1 : Inv X pins σ H { s with heap := h', toks := tk } := I.turned (fun b o hb e => kk b o (by simpa using hb) e) f0 f1 f3 f4 f5
    refine ⟨_, rfl, go_of (s := { s with heap := h', toks := tk }) (n := "range_iterator") st' rfl rfl (by decide) ⟨.int (lo + i), H, I1, ⟨t, ?_⟩, ⟨rfl, rfl⟩, st', fun b hb => (hf b hb).1⟩⟩
    rw [Int.mul_one]
  done := by
    intro X hP hw hK hc i pins s σ H E I hf st hg
    subst hP hw hK
    obtain ⟨f0, f1, f2, f3, f4, f5⟩ := hf it (by simp)
    exact wpAny_pyNext_range_end (I.ok.hd hc) st (by have : n ≤ i := hg; omega) fun h' eb => ⟨rfl, I.turned (t' := s.toks) (fun b o hb e => eb b o hb e) f0 f1 f3 f4 f5⟩
  self := fun _ _ _ _ _ st h => wpAny_pyIter_rangeiter st h
end L2

namespace L2
open PySem PySem.Spec PyProof.Rows
section
variable {X : Cx} {tg : Expr}
def iList (K : PySem.W.Frag) (tl : TE) : TI := fun σ H R => tl σ H fun x H1 => ∃ a, x = .ref a ∧ (∃ xs, SqL K H1 a xs) ∧ R (Itl K a) H1
def iTup (K : PySem.W.Frag) (tl : TE) : TI := fun σ H R => tl σ H fun x H1 => ∃ a, x = .ref a ∧ (∃ xs, SqT K H1 a xs) ∧ R (Itt K a) H1
theorem pi_list {l : Expr} {tl : TE} (hl : PE X l tl) : PI X tg l (iList X.K tl) := by
  intro pins s σ H R I h
  refine thn (hl pins s σ H _ I h) fun v s1 ⟨x, H1, I1, r1, q1⟩ => ?_
  obtain ⟨a, e, ⟨xs, hq⟩, q⟩ := q1
  subst e
  cases r1
  obtain ⟨its, rv, p, hz⟩ := I1.list hq
  refine wpAny_pyIter_list p.isList ?_
  refine ⟨s1.heap.objs.size, [s1.heap.objs.size], _, _, H1, rfl, I1.kept (t' := s1.toks) fun b o e => Heap.get?_push_of_some _ e, turn_list a _, ⟨_, Heap.get?_push_size _ rfl, rfl, rfl⟩, fun b hb => ?_, q⟩
  have e : b = s1.heap.objs.size := by simpa using hb
  subst e
  exact I1.fpOk (Nat.le_refl _) (I1.hok.fresh (Nat.le_refl _))
theorem pi_tup {l : Expr} {tl : TE} (hl : PE X l tl) : PI X tg l (iTup X.K tl) := by
  intro pins s σ H R I h
  refine thn (hl pins s σ H _ I h) fun v s1 ⟨x, H1, I1, r1, q1⟩ => ?_
  obtain ⟨a, e, ⟨xs, hq⟩, q⟩ := q1
  subst e
  cases r1
  obtain ⟨its, rv, p, hz⟩ := I1.tuple hq
  refine wpAny_pyIter_tuple (show s1.heap.IsTuple a its.toArray from p) ?_
  refine ⟨s1.heap.objs.size, [s1.heap.objs.size], _, _, H1, rfl, I1.kept (t' := s1.toks) fun b o e => Heap.get?_push_of_some _ e, turn_tuple a _, ⟨_, Heap.get?_push_size _ rfl, rfl, rfl⟩, fun b hb => ?_, q⟩
  have e : b = s1.heap.objs.size := by simpa using hb
  subst e
  exact I1.fpOk (Nat.le_refl _) (I1.hok.fresh (Nat.le_refl _))
/-- a range object just made, walked -/
theorem range_it {pins : List (Addr × Obj)} {σ : St} {H : Hp} {s : Shared} {R : It → Hp → Prop} {E : Value → Shared → Prop} {lo hi : Int} {t u v : Tok} {tk : Nat} (I : Inv X pins σ H s) (h1 : -(2 ^ 62) ≤ lo) (h2 : lo < 2 ^ 62) (h3 : -(2 ^ 62) ≤ hi) (h4 : hi < 2 ^ 62)
    (q : R (Itr lo (hi - lo).toNat) H) : wpAny (model X.prog X.w) X.A (pyIter (.ref s.heap.objs.size)) (PIE X pins σ tg R) E { s with heap := s.heap.push { cls := .type "range", data := .fields #[.int lo t, .int hi u, .int 1 v] }, toks := tk } := by
  refine wpAny_pyIter_range (IsRange.new ..) (small_one h1 h2 h3 h4) ?_
  have I1 : Inv X pins σ H { s with heap := s.heap.push { cls := .type "range", data := .fields #[.int lo t, .int hi u, .int 1 v] }, toks := tk } := I.kept fun b o e => Heap.get?_push_of_some _ e
  refine ⟨(s.heap.push { cls := .type "range", data := .fields #[.int lo t, .int hi u, .int 1 v] }).objs.size, [(s.heap.push { cls := .type "range", data := .fields #[.int lo t, .int hi u, .int 1 v] }).objs.size], _, _, H, rfl,
    I1.kept (t' := tk) fun b o e => Heap.get?_push_of_some _ e, turn_range _ lo (hi - lo).toNat, ?_, fun b hb => ?_, q⟩
  · have e1 : lo + ((0 : Nat) : Int) * 1 = lo := by simp
    have e2 : (((hi - lo).toNat : Nat) : Int) - ((0 : Nat) : Int) = Builtin.Range.rangeSize lo hi 1 := by rw [rangeSize_one]; split <;> omega
    show IsRangeIter _ _ (lo + ((0 : Nat) : Int) * 1) ((((hi - lo).toNat : Nat) : Int) - ((0 : Nat) : Int)) 1
    rw [e1, e2]
    exact Heap.get?_push_size _ rfl
  · have e : b = (s.heap.push { cls := .type "range", data := .fields #[.int lo t, .int hi u, .int 1 v] }).objs.size := by simpa using hb
    subst e
    exact I1.fpOk (Nat.le_refl _) (I1.hok.fresh (Nat.le_refl _))
def iRng1 (ta : TA) : TI := fun σ H R => ta σ H fun vs H1 => ∃ j : Int, vs = [.int j] ∧ -(2 ^ 62) ≤ j ∧ j < 2 ^ 62 ∧ R (Itr 0 j.toNat) H1
def iRng2 (ta : TA) : TI := fun σ H R => ta σ H fun vs H1 => ∃ i j : Int, vs = [.int i, .int j] ∧ (-(2 ^ 62) ≤ i ∧ i < 2 ^ 62 ∧ -(2 ^ 62) ≤ j ∧ j < 2 ^ 62) ∧ R (Itr i (j - i).toNat) H1
theorem pi_range1 {a : Expr} {ta : TA} {p pos : Pos} (hg : Gl X "range") (hm : X.mg "range" = none) (ha : PA X [a] ta) (hs : starEach [a] X.env = [(false, eval a X.env)] := by rfl) : PI X tg (.Call (.Name "range" p) [a] [] pos) (iRng1 ta) := by
  intro pins s σ H R I h
  refine Call_ (ld_blt I hg hm boot_range (PyProof.Rows.callWith_type1 (thn (ha pos pins s σ H _ I h) fun us s1 ⟨vs, H1, I1, r1, q1⟩ => ?_) hs rfl))
  obtain ⟨j, e, q1, q2, q⟩ := q1
  subst e
  cases r1 with
  | cons r rr =>
    cases rr
    obtain ⟨t, rfl⟩ := r
    exact call_range_1 (range_it I1 (by omega) (by omega) q1 q2 (by simpa using q))
theorem pi_range2 {a b : Expr} {ta : TA} {p pos : Pos} (hg : Gl X "range") (hm : X.mg "range" = none) (ha : PA X [a, b] ta) (hs : starEach [a, b] X.env = [(false, eval a X.env), (false, eval b X.env)] := by rfl) (hs2 : starEach [b] X.env = [(false, eval b X.env)] := by rfl) :
    PI X tg (.Call (.Name "range" p) [a, b] [] pos) (iRng2 ta) := by
  intro pins s σ H R I h
  refine Call_ (ld_blt I hg hm boot_range (PyProof.Rows.callWith_type1 (thn (ha pos pins s σ H _ I h) fun us s1 ⟨vs, H1, I1, r1, q1⟩ => ?_) (by rw [hs, hs2]) (by rw [hs2]; rfl)))
  obtain ⟨i, j, e, ⟨q1, q2, q3, q4⟩, q⟩ := q1
  subst e
  cases r1 with
  | cons r rr =>
    cases rr with
    | cons r' rr =>
      cases rr
      obtain ⟨t, rfl⟩ := r
      obtain ⟨t', rfl⟩ := r'
      exact call_range_2 (range_it I1 q1 q2 q3 q4 q)

/-! ### for -/
/-- W: the invariant by the turn and a measure; N: what the body is to reach -/
def tFor (wi : TI) (g : TG) (tb : TS) : TS := fun D σ H => wi σ H fun J H1 => ∃ W : Nat → Nat → St → Hp → Prop, (∃ m, W 0 m σ H1) ∧ ∀ i m σ H, W i m σ H →
  (J.stop i H ∧ D.nx σ H) ∨ (J.go i H ∧ ∃ N : St → Hp → Prop, (∀ σ' H', N σ' H' → ∃ m', m' < m ∧ W (i + 1) m' σ' H') ∧ ∀ x H', J.yld i H x H' → g x σ H' fun σ2 H2 => tb { D with nx := N, ct := N, bk := D.nx } σ2 H2)
/-- the records at fp as they stand -/
def pinsAt (fp : List Addr) (h : Heap) : List (Addr × Obj) := fp.filterMap fun b => (h.get? b).map fun o => (b, o)
theorem mem_pinsAt {fp : List Addr} {h : Heap} {b : Addr} {o : Obj} (hb : b ∈ fp) (e : h.get? b = some o) : (b, o) ∈ pinsAt fp h := List.mem_filterMap.mpr ⟨b, hb, by rw [e]; rfl⟩
theorem of_pinsAt {fp : List Addr} {h : Heap} {p : Addr × Obj} (hp : p ∈ pinsAt fp h) : p.1 ∈ fp ∧ h.get? p.1 = some p.2 := by
  obtain ⟨b, hb, e⟩ := List.mem_filterMap.mp hp
  cases q : h.get? b with
  | none => rw [q] at e; cases e
  | some o =>
    rw [q] at e
    have e' : (b, o) = p := Option.some.inj e
    subst e'
    exact ⟨hb, q⟩
theorem Inv.pinned {pins : List (Addr × Obj)} {σ : St} {H : Hp} {s : Shared} {fp : List Addr} (I : Inv X pins σ H s) (hf : ∀ b ∈ fp, FpOk X pins H b) (ho : ∀ b ∈ fp, ∃ o, s.heap.get? b = some o ∧ ∀ v, o.data ≠ .cell v) : Inv X (pins ++ pinsAt fp s.heap) σ H s :=
  I.pins_of fun p hp => (List.mem_append.mp hp).elim (fun z => I.pin p (List.mem_append_right _ z)) fun z => by
    obtain ⟨hb, e⟩ := of_pinsAt z
    obtain ⟨f0, f1, f2, _⟩ := hf p.1 hb
    obtain ⟨o, e', d⟩ := ho p.1 hb
    rw [e] at e'; cases e'
    exact ⟨e, f0, f1, f2, d⟩
theorem Inv.unpinned {pins pl : List (Addr × Obj)} {σ : St} {H : Hp} {s : Shared} (I : Inv X (pins ++ pl) σ H s) : Inv X pins σ H s := I.pins_of fun p hp => I.pin p (List.mem_append_right _ (List.mem_append_left _ hp))
theorem ps_for {iter : Expr} {body : List Stmt} {wi : TI} {g : TG} {tb : TS} {pos : Pos} (hp : PassesOwn (model X.prog X.w) X.A X.env X.xe) (hc : X.calm = true) (hi : PI X tg iter wi) (hg : PG X tg g) (hb : PSs X body tb)
    (hs : ∀ x, foldedSetIterable iter X.env x = pure x := by intro _; rfl) : PS X (.For tg iter body [] pos) (tFor wi g tb) := by
  intro pins s σ H D I h
  refine wpAny_For (thn (hi pins s σ H _ I h) fun v s1 h1 => thn h1 fun itv s2 h2 => ?_) hs
  obtain ⟨it, fp, tn, J, H2, e, I2, T, st2, f2, W, ⟨m0, w0⟩, turn⟩ := h2
  subst e
  -- what stays true of the iterator's objects through the loop
  have stat : ∀ {H' : Hp}, (∀ b ∈ fp, H' b = none) → ∀ b ∈ fp, FpOk X pins H' b := fun hn b hb => ⟨hn b hb, (f2 b hb).2⟩
  refine codeAny_forLoop_any (fun n s' => ∃ i σ' H', Inv X pins σ' H' s' ∧ tn i s'.heap ∧ (∀ b ∈ fp, H' b = none) ∧ W i n σ' H') ?_ m0 ⟨0, σ, H2, I2, st2, fun b hb => (f2 b hb).1, w0⟩
  rintro n s3 ⟨i, σ3, H3, I3, st3, fr3, w3⟩
  rcases turn i n σ3 H3 w3 with ⟨stop, qn⟩ | ⟨go, N, hN, step⟩
  · refine wpAny_passesOwn hp (thn (T.done X rfl rfl rfl hc i pins s3 σ3 H3 X.xe I3 (stat fr3) st3 stop) fun r s4 ⟨hr, I4⟩ => ?_)
    subst hr
    exact wpAny_execs_nil ⟨σ3, H3, I4, qn⟩
  · refine wpAny_passesOwn hp (thn (T.item X rfl rfl rfl hc i pins s3 σ3 H3 X.xe I3 (stat fr3) st3 go) fun r s4 ⟨u, hr, h4⟩ => ?_)
    subst hr
    refine wpAny_passesOwn hp (thn h4 fun _ s5 ⟨x, H5, I5, r5, y5, st5, fr5⟩ => ?_)
    have I5' := I5.pinned (stat fr5) (T.obj _ _ st5)
    refine wpAny_passesOwn hp (thn (hg _ s5 σ3 H5 x u _ I5' r5 (step x H5 y5)) fun _ s6 ⟨σ6, H6, I6, q6⟩ => ?_)
    refine wpAny_passesOwn hp (thn (hb _ s6 σ6 H6 _ I6 q6) fun f s7 q7 => ?_)
    have again : ∀ {σ7 : St} {H7 : Hp}, Inv X (pins ++ pinsAt fp s5.heap) σ7 H7 s7 → N σ7 H7 → ∃ m, m < n ∧ ∃ i σ' H', Inv X pins σ' H' s7 ∧ tn i s7.heap ∧ (∀ b ∈ fp, H' b = none) ∧ W i m σ' H' := fun {σ7 H7} I7 n7 => by
      obtain ⟨m', hm, w7⟩ := hN σ7 H7 n7
      refine ⟨m', hm, i + 1, σ7, H7, I7.unpinned, T.keep _ _ _ st5 fun b hb o e => (I7.pin (b, o) (List.mem_append_right _ (List.mem_append_right _ (mem_pinsAt hb e)))).1, fun b hb => ?_, w7⟩
      obtain ⟨o, e, d⟩ := T.obj _ _ st5 b hb
      exact (I7.pin (b, o) (List.mem_append_right _ (List.mem_append_right _ (mem_pinsAt hb e)))).2.1
    cases f with
    | next => obtain ⟨σ7, H7, I7, n7⟩ := q7; exact again I7 n7
    | cont => obtain ⟨σ7, H7, I7, n7⟩ := q7; exact again I7 n7
    | brk => obtain ⟨σ7, H7, I7, q7⟩ := q7; exact ⟨σ7, H7, I7.unpinned, q7⟩
    | ret v => obtain ⟨x7, σ7, H7, I7, r7, q7⟩ := q7; exact ⟨x7, σ7, H7, I7.unpinned, r7, q7⟩
end

/-! ### the forms one uses -/
/-- over a list that the body leaves as it is -/
theorem for_list {K : PySem.W.Frag} {a : Addr} {xs : List V} {g : TG} {tb : TS} {D : Ends} {σ : St} {H : Hp} (Pv : Nat → St → Hp → Prop) (h0 : Pv 0 σ H) (hl : ∀ i σ H, i ≤ xs.length → Pv i σ H → SqL K H a xs)
    (hs : ∀ i x σ H, xs[i]? = some x → Pv i σ H → g x σ H fun σ2 H2 => tb { D with nx := Pv (i + 1), ct := Pv (i + 1), bk := D.nx } σ2 H2) (hd : ∀ σ H, Pv xs.length σ H → D.nx σ H) :
    ∃ W : Nat → Nat → St → Hp → Prop, (∃ m, W 0 m σ H) ∧ ∀ i m σ H, W i m σ H →
      ((Itl K a).stop i H ∧ D.nx σ H) ∨ ((Itl K a).go i H ∧ ∃ N : St → Hp → Prop, (∀ σ' H', N σ' H' → ∃ m', m' < m ∧ W (i + 1) m' σ' H') ∧ ∀ x H', (Itl K a).yld i H x H' → g x σ H' fun σ2 H2 => tb { D with nx := N, ct := N, bk := D.nx } σ2 H2) := by
  refine ⟨fun i m σ H => m = xs.length - i ∧ i ≤ xs.length ∧ Pv i σ H, ⟨xs.length, by simp, Nat.zero_le _, h0⟩, ?_⟩
  rintro i m σ H ⟨rfl, hi, p⟩
  have q := hl i σ H hi p
  by_cases hlt : i < xs.length
  · refine .inr ⟨⟨xs, xs[i], q, by simp [hlt]⟩, Pv (i + 1), fun σ' H' p' => ⟨xs.length - (i + 1), by omega, rfl, hlt, p'⟩, fun x H' y => ?_⟩
    obtain ⟨e, y⟩ := y
    subst e
    exact hs i x σ _ (y xs q) p
  · have e : i = xs.length := by omega
    subst e
    exact .inl ⟨⟨xs, q, Nat.le_refl _⟩, hd σ H p⟩
theorem for_tup {K : PySem.W.Frag} {a : Addr} {xs : List V} {g : TG} {tb : TS} {D : Ends} {σ : St} {H : Hp} (Pv : Nat → St → Hp → Prop) (h0 : Pv 0 σ H) (hl : ∀ i σ H, i ≤ xs.length → Pv i σ H → SqT K H a xs)
    (hs : ∀ i x σ H, xs[i]? = some x → Pv i σ H → g x σ H fun σ2 H2 => tb { D with nx := Pv (i + 1), ct := Pv (i + 1), bk := D.nx } σ2 H2) (hd : ∀ σ H, Pv xs.length σ H → D.nx σ H) :
    ∃ W : Nat → Nat → St → Hp → Prop, (∃ m, W 0 m σ H) ∧ ∀ i m σ H, W i m σ H →
      ((Itt K a).stop i H ∧ D.nx σ H) ∨ ((Itt K a).go i H ∧ ∃ N : St → Hp → Prop, (∀ σ' H', N σ' H' → ∃ m', m' < m ∧ W (i + 1) m' σ' H') ∧ ∀ x H', (Itt K a).yld i H x H' → g x σ H' fun σ2 H2 => tb { D with nx := N, ct := N, bk := D.nx } σ2 H2) := by
  refine ⟨fun i m σ H => m = xs.length - i ∧ i ≤ xs.length ∧ Pv i σ H, ⟨xs.length, by simp, Nat.zero_le _, h0⟩, ?_⟩
  rintro i m σ H ⟨rfl, hi, p⟩
  have q := hl i σ H hi p
  by_cases hlt : i < xs.length
  · refine .inr ⟨⟨xs, xs[i], q, by simp [hlt]⟩, Pv (i + 1), fun σ' H' p' => ⟨xs.length - (i + 1), by omega, rfl, hlt, p'⟩, fun x H' y => ?_⟩
    obtain ⟨e, y⟩ := y
    subst e
    exact hs i x σ _ (y xs q) p
  · have e : i = xs.length := by omega
    subst e
    exact .inl ⟨⟨xs, q, Nat.le_refl _⟩, hd σ H p⟩
theorem for_range {lo : Int} {n : Nat} {g : TG} {tb : TS} {D : Ends} {σ : St} {H : Hp} (Pv : Nat → St → Hp → Prop) (h0 : Pv 0 σ H)
    (hs : ∀ i σ H, i < n → Pv i σ H → g (.int (lo + i)) σ H fun σ2 H2 => tb { D with nx := Pv (i + 1), ct := Pv (i + 1), bk := D.nx } σ2 H2) (hd : ∀ σ H, Pv n σ H → D.nx σ H) :
    ∃ W : Nat → Nat → St → Hp → Prop, (∃ m, W 0 m σ H) ∧ ∀ i m σ H, W i m σ H →
      ((Itr lo n).stop i H ∧ D.nx σ H) ∨ ((Itr lo n).go i H ∧ ∃ N : St → Hp → Prop, (∀ σ' H', N σ' H' → ∃ m', m' < m ∧ W (i + 1) m' σ' H') ∧ ∀ x H', (Itr lo n).yld i H x H' → g x σ H' fun σ2 H2 => tb { D with nx := N, ct := N, bk := D.nx } σ2 H2) := by
  refine ⟨fun i m σ H => m = n - i ∧ i ≤ n ∧ Pv i σ H, ⟨n, by simp, Nat.zero_le _, h0⟩, ?_⟩
  rintro i m σ H ⟨rfl, hi, p⟩
  by_cases hlt : i < n
  · refine .inr ⟨hlt, Pv (i + 1), fun σ' H' p' => ⟨n - (i + 1), by omega, rfl, hlt, p'⟩, fun x H' y => ?_⟩
    obtain ⟨e, y⟩ := y
    subst e y
    exact hs i σ _ hlt p
  · have e : i = n := by omega
    subst e
    exact .inl ⟨Nat.le_refl _, hd σ H p⟩
/-- while, by a word and a measure of the state -/
theorem while_by {c : TT} {tb : TS} {D : Ends} {σ : St} {H : Hp} (Pv : St → Hp → Prop) (μ : St → Hp → Nat) (h0 : Pv σ H)
    (hs : ∀ σ H, Pv σ H → c σ H fun b H1 => if b = true then tb { D with nx := fun σ' H' => Pv σ' H' ∧ μ σ' H' < μ σ H, ct := fun σ' H' => Pv σ' H' ∧ μ σ' H' < μ σ H, bk := D.nx } σ H1 else D.nx σ H1)
    (mono : ∀ σ H Q Q', (∀ b H1, Q b H1 → Q' b H1) → c σ H Q → c σ H Q') : tWhile c tb D σ H := by
  refine ⟨fun m σ H => m = μ σ H ∧ Pv σ H, ⟨_, rfl, h0⟩, ?_⟩
  rintro m σ H ⟨rfl, p⟩
  refine mono σ H _ _ (fun b H1 q => ?_) (hs σ H p)
  cases b with
  | true => exact ⟨_, fun σ' H' ⟨p', l⟩ => ⟨_, l, rfl, p'⟩, q⟩
  | false => exact q
end L2

namespace L2
open PySem PySem.Spec PyProof.Rows

abbrev R2 := V → V → Hp → VK → Prop
/-- a two-place operation on values: f is binaryOp op, inplaceOp op or compareOp op -/
def OpR (X : Cx) (f : Value → Value → Sem Value) (r : R2) : Prop :=
  ∀ (pins : List (Addr × Obj)) (s : Shared) (σ : St) (H : Hp) (x y : V) (v u : Value) (Q : VK), Inv X pins σ H s → RelV x v → RelV y u → r x y H Q →
    wpAny (model X.prog X.w) X.A (f v u) (EP X pins σ Q) X.xe s
/-- a one-place operation -/
def UnR (X : Cx) (f : Value → Sem Value) (r : V → Hp → VK → Prop) : Prop :=
  ∀ (pins : List (Addr × Obj)) (s : Shared) (σ : St) (H : Hp) (x : V) (v : Value) (Q : VK), Inv X pins σ H s → RelV x v → r x H Q →
    wpAny (model X.prog X.w) X.A (f v) (EP X pins σ Q) X.xe s
/-- a call of a value that is known (a builtin, a type) with values -/
def CallR (X : Cx) (f : Value) (r : List V → Hp → VK → Prop) : Prop :=
  ∀ (pins : List (Addr × Obj)) (s : Shared) (σ : St) (H : Hp) (xs : List V) (us : List Value) (Q : VK), Inv X pins σ H s → Vals xs us → r xs H Q →
    wpAny (model X.prog X.w) X.A (call f us) (EP X pins σ Q) X.xe s
/-- a value's truth -/
def TruR (X : Cx) (r : V → Hp → (Bool → Hp → Prop) → Prop) : Prop :=
  ∀ (pins : List (Addr × Obj)) (s : Shared) (σ : St) (H : Hp) (x : V) (v : Value) (Q : Bool → Hp → Prop), Inv X pins σ H s → RelV x v → r x H Q →
    wpAny (model X.prog X.w) X.A (truthy v) (TP X pins σ Q) X.xe s

def tOp (r : R2) (ta tb : TE) : TE := fun σ H Q => ta σ H fun x H1 => tb σ H1 fun y H2 => r x y H2 Q
def tUn (r : V → Hp → VK → Prop) (ta : TE) : TE := fun σ H Q => ta σ H fun x H1 => r x H1 Q
/-- ints in, under C, and a value out -/
def rI (C : Int → Int → Prop) (g : Int → Int → V) : R2 := fun x y H Q => ∃ i j, x = .int i ∧ y = .int j ∧ C i j ∧ Q (g i j) H
def rI0 (g : Int → Int → V) : R2 := fun x y H Q => ∃ i j, x = .int i ∧ y = .int j ∧ Q (g i j) H
def rU (g : Int → V) : V → Hp → VK → Prop := fun x H Q => ∃ i, x = .int i ∧ Q (g i) H

section
variable {X : Cx} {a b c : Expr} {ta tb tc : TE} {pos : Pos}

theorem binT (ha : PE X a ta) (hb : PE X b tb) {pins : List (Addr × Obj)} {s : Shared} {σ : St} {H : Hp} {R : V → V → Hp → Prop} (I : Inv X pins σ H s)
    (h : ta σ H fun x H1 => tb σ H1 fun y H2 => R x y H2) {Q : Value → Shared → Prop} {f : Value → Value → Sem Value}
    (hf : ∀ v u s2 x y H2, Inv X pins σ H2 s2 → RelV x v → RelV y u → R x y H2 → wpAny (model X.prog X.w) X.A (f v u) Q X.xe s2) :
    wpAny (model X.prog X.w) X.A (eval a X.env) (fun v s₁ => wpAny (model X.prog X.w) X.A (eval b X.env) (fun u s₂ => wpAny (model X.prog X.w) X.A (f v u) Q X.xe s₂) X.xe s₁) X.xe s := by
  refine thn (ha pins s σ H _ I h) fun v s1 ⟨x, H1, I1, r1, q1⟩ => ?_
  refine thn (hb pins s1 σ H1 _ I1 q1) fun u s2 ⟨y, H2, I2, r2, q2⟩ => ?_
  exact hf v u s2 x y H2 I2 r1 r2 q2

theorem pe_op {op : Operator} {r : R2} (ho : OpR X (binaryOp op) r) (ha : PE X a ta) (hb : PE X b tb) : PE X (.BinOp a op b pos) (tOp r ta tb) := by
  intro pins s σ H Q I h
  exact wpAny_BinOp (binT ha hb I h fun v u s2 x y H2 I2 rx ry q => ho pins s2 σ H2 x y v u Q I2 rx ry q)
theorem pe_un {op : UnaryOp} {r : V → Hp → VK → Prop} (ho : UnR X (unaryOp op) r) (ha : PE X a ta) : PE X (.UnaryOp op a pos) (tUn r ta) := by
  intro pins s σ H Q I h
  exact UnaryOp_ (thn (ha pins s σ H _ I h) fun v s1 ⟨x, H1, I1, r1, q1⟩ => ho pins s1 σ H1 x v Q I1 r1 q1)
/-- a op= e at a name: the name's slot i -/
theorem augR {op : Operator} {r : R2} (ho : OpR X (inplaceOp op) r) {pins : List (Addr × Obj)} {s : Shared} {σ : St} {H : Hp} {x y : V} {v u : Value} {Q : VK} (I : Inv X pins σ H s)
    (rx : RelV x v) (ry : RelV y u) (q : r x y H Q) : wpAny (model X.prog X.w) X.A (inplaceOp op v u) (EP X pins σ Q) X.xe s := ho pins s σ H x y v u Q I rx ry q

/-! ### ints -/
theorem opI {f : Value → Value → Sem Value} {C : Int → Int → Prop} {g : Int → Int → Int}
    (rule : ∀ (i j : Int) (t u : Tok) (s : Shared) (Q : Value → Shared → Prop) (E : Value → Shared → Prop), C i j → Q (.int (g i j) s.toks) { s with toks := s.toks + 1 } → wpAny (model X.prog X.w) X.A (f (.int i t) (.int j u)) Q E s) :
    OpR X f (rI C fun i j => .int (g i j)) := by
  intro pins s σ H x y v u Q I rx ry h
  obtain ⟨i, j, rfl, rfl, hc, q⟩ := h
  obtain ⟨t, rfl⟩ := rx
  obtain ⟨t', rfl⟩ := ry
  exact rule i j t t' s _ _ hc ⟨.int (g i j), H, I.tok _, ⟨_, rfl⟩, q⟩
theorem opI0 {f : Value → Value → Sem Value} {g : Int → Int → Int}
    (rule : ∀ (i j : Int) (t u : Tok) (s : Shared) (Q : Value → Shared → Prop) (E : Value → Shared → Prop), Q (.int (g i j) s.toks) { s with toks := s.toks + 1 } → wpAny (model X.prog X.w) X.A (f (.int i t) (.int j u)) Q E s) :
    OpR X f (rI0 fun i j => .int (g i j)) := by
  intro pins s σ H x y v u Q I rx ry h
  obtain ⟨i, j, rfl, rfl, q⟩ := h
  obtain ⟨t, rfl⟩ := rx
  obtain ⟨t', rfl⟩ := ry
  exact rule i j t t' s _ _ ⟨.int (g i j), H, I.tok _, ⟨_, rfl⟩, q⟩
theorem opB0 {f : Value → Value → Sem Value} {g : Int → Int → Bool}
    (rule : ∀ (i j : Int) (t u : Tok) (s : Shared) (Q : Value → Shared → Prop) (E : Value → Shared → Prop), Q (.bool (g i j)) s → wpAny (model X.prog X.w) X.A (f (.int i t) (.int j u)) Q E s) :
    OpR X f (rI0 fun i j => .bl (g i j)) := by
  intro pins s σ H x y v u Q I rx ry h
  obtain ⟨i, j, rfl, rfl, q⟩ := h
  obtain ⟨t, rfl⟩ := rx
  obtain ⟨t', rfl⟩ := ry
  exact rule i j t t' s _ _ ⟨.bl (g i j), H, I, rfl, q⟩

def CDiv (i j : Int) : Prop := 0 < j ∧ j < 1073741824
def CDivN (i j : Int) : Prop := j ≠ 0 ∧ j.natAbs < 1073741824
def CPow (i j : Int) : Prop := 0 ≤ j ∧ j ≤ 1000000 ∧ i.natAbs < 2 ^ 64
def CMul (i j : Int) : Prop := (-(2 ^ 64) < i ∧ i < 2 ^ 64) ∨ (-(2 ^ 64) < j ∧ j < 2 ^ 64)
theorem CMul.ok {i j : Int} (h : CMul i j) : IntMulOk i j := by
  rcases h with ⟨h1, h2⟩ | ⟨h1, h2⟩
  · exact .of_left (intBits_le_64 h1 h2)
  · exact .of_right (intBits_le_64 h1 h2)
theorem two_pow_nn (k : Nat) : (0 : Int) ≤ 2 ^ k := by
  rw [two_pow_cast]
  exact Int.natCast_nonneg _

theorem op_add : OpR X (binaryOp .Add) (rI0 fun i j => .int (i + j)) := opI0 fun _ _ _ _ _ _ _ q => add_int q
theorem op_sub : OpR X (binaryOp .Sub) (rI0 fun i j => .int (i - j)) := opI0 fun _ _ _ _ _ _ _ q => sub_int q
theorem op_mul : OpR X (binaryOp .Mult) (rI CMul fun i j => .int (i * j)) := opI fun _ _ _ _ _ _ _ hc q => mul_int q hc.ok
/-- // by a positive divisor -/
theorem op_fdiv : OpR X (binaryOp .FloorDiv) (rI CDiv fun i j => .int (i / j)) := opI fun i j _ _ _ _ _ hc q => by
  have h1 : (0 : Int) < j := hc.1
  have h2 : j < 1073741824 := hc.2
  exact floordiv_int (by omega) (by rw [Int.fdiv_eq_ediv_of_nonneg i (by omega)]; exact q) (.inl (PyProof.noPylong_small (by omega)))
theorem op_fdivN : OpR X (binaryOp .FloorDiv) (rI CDivN fun i j => .int (i.fdiv j)) := opI fun _ _ _ _ _ _ _ hc q => floordiv_int hc.1 q (.inl (PyProof.noPylong_small hc.2))
/-- % by a positive divisor of any size -/
theorem op_mod : OpR X (binaryOp .Mod) (rI (fun _ j => 0 < j) fun i j => .int (i % j)) := opI fun i j _ _ _ _ _ hc q => by
  have h1 : (0 : Int) < j := hc
  exact mod_int' (by omega) (by rw [Int.fmod_eq_emod_of_nonneg i (by omega)]; exact q)
theorem op_modN : OpR X (binaryOp .Mod) (rI (fun _ j => j ≠ 0) fun i j => .int (i.fmod j)) := opI fun _ _ _ _ _ _ _ hc q => mod_int' hc q
theorem op_pow : OpR X (binaryOp .Pow) (rI CPow fun i j => .int (i ^ j.toNat)) := opI fun _ _ _ _ _ _ _ hc q => pow_int_small hc.1 hc.2.1 hc.2.2 q
theorem op_shl : OpR X (binaryOp .LShift) (rI CPow fun i j => .int (i * 2 ^ j.toNat)) := opI fun _ _ _ _ _ _ _ hc q => lshift_int_small hc.1 hc.2.1 hc.2.2 q
theorem op_shr : OpR X (binaryOp .RShift) (rI (fun _ j => 0 ≤ j) fun i j => .int (i / 2 ^ j.toNat)) := opI fun i j _ _ _ _ _ hc q =>
  rshift_int hc (by rw [Int.fdiv_eq_ediv_of_nonneg i (two_pow_nn _)]; exact q)
theorem op_and : OpR X (binaryOp .BitAnd) (rI0 fun i j => .int (Builtin.bitAnd i j)) := opI0 fun _ _ _ _ _ _ _ q => and_int q
theorem op_or : OpR X (binaryOp .BitOr) (rI0 fun i j => .int (Builtin.bitOr i j)) := opI0 fun _ _ _ _ _ _ _ q => or_int q
theorem op_xor : OpR X (binaryOp .BitXor) (rI0 fun i j => .int (Builtin.bitXor i j)) := opI0 fun _ _ _ _ _ _ _ q => xor_int q

theorem iop_add : OpR X (inplaceOp .Add) (rI0 fun i j => .int (i + j)) := opI0 fun _ _ _ _ _ _ _ q => iadd_int q
theorem iop_sub : OpR X (inplaceOp .Sub) (rI0 fun i j => .int (i - j)) := opI0 fun _ _ _ _ _ _ _ q => isub_int q
theorem iop_mul : OpR X (inplaceOp .Mult) (rI CMul fun i j => .int (i * j)) := opI fun _ _ _ _ _ _ _ hc q => imul_int q hc.ok
theorem iop_fdiv : OpR X (inplaceOp .FloorDiv) (rI CDiv fun i j => .int (i / j)) := opI fun i j _ _ _ _ _ hc q => by
  have h1 : (0 : Int) < j := hc.1
  have h2 : j < 1073741824 := hc.2
  exact ifloordiv_int (by omega) (by rw [Int.fdiv_eq_ediv_of_nonneg i (by omega)]; exact q) (.inl (PyProof.noPylong_small (by omega)))
theorem iop_mod : OpR X (inplaceOp .Mod) (rI (fun _ j => 0 < j) fun i j => .int (i % j)) := opI fun i j _ _ _ _ _ hc q => by
  have h1 : (0 : Int) < j := hc
  exact imod_int (by omega) (by rw [Int.fmod_eq_emod_of_nonneg i (by omega)]; exact q)
theorem iop_shl : OpR X (inplaceOp .LShift) (rI CPow fun i j => .int (i * 2 ^ j.toNat)) := opI fun _ _ _ _ _ _ _ hc q => ilshift_int_small hc.1 hc.2.1 hc.2.2 q
theorem iop_shr : OpR X (inplaceOp .RShift) (rI (fun _ j => 0 ≤ j) fun i j => .int (i / 2 ^ j.toNat)) := opI fun i j _ _ _ _ _ hc q =>
  irshift_int hc (by rw [Int.fdiv_eq_ediv_of_nonneg i (two_pow_nn _)]; exact q)
theorem iop_and : OpR X (inplaceOp .BitAnd) (rI0 fun i j => .int (Builtin.bitAnd i j)) := opI0 fun _ _ _ _ _ _ _ q => iand_int q
theorem iop_or : OpR X (inplaceOp .BitOr) (rI0 fun i j => .int (Builtin.bitOr i j)) := opI0 fun _ _ _ _ _ _ _ q => ior_int q
theorem iop_xor : OpR X (inplaceOp .BitXor) (rI0 fun i j => .int (Builtin.bitXor i j)) := opI0 fun _ _ _ _ _ _ _ q => ixor_int q

theorem unI {f : Value → Sem Value} {g : Int → Int}
    (rule : ∀ (i : Int) (t : Tok) (s : Shared) (Q : Value → Shared → Prop) (E : Value → Shared → Prop), Q (.int (g i) s.toks) { s with toks := s.toks + 1 } → wpAny (model X.prog X.w) X.A (f (.int i t)) Q E s) :
    UnR X f (rU fun i => .int (g i)) := by
  intro pins s σ H x v Q I rx h
  obtain ⟨i, rfl, q⟩ := h
  obtain ⟨t, rfl⟩ := rx
  exact rule i t s _ _ ⟨.int (g i), H, I.tok _, ⟨_, rfl⟩, q⟩
theorem un_neg : UnR X (unaryOp .USub) (rU fun i => .int (-i)) := unI fun _ _ _ _ _ q => neg_int q
theorem un_inv : UnR X (unaryOp .Invert) (rU fun i => .int (Builtin.bitNot i)) := unI fun _ _ _ _ _ q => invert_int q

/-! ### bools among ints: n += (a < b) -/
theorem op_add_ib : OpR X (binaryOp .Add) (fun x y H Q => ∃ i k, x = .int i ∧ y = .bl k ∧ Q (.int (i + b2i k)) H) := by
  intro pins s σ H x y v u Q I rx ry h
  obtain ⟨i, k, rfl, rfl, q⟩ := h
  obtain ⟨t, rfl⟩ := rx
  cases ry
  exact add_int_bool ⟨.int (i + b2i k), H, I.tok _, ⟨_, rfl⟩, q⟩
end

/-! ### comparisons -/
/-- the scalars that == tells apart as data does -/
def scal : V → V → Bool
  | .non, .non => true | .non, .int _ => true | .int _, .non => true | .non, .bl _ => true | .bl _, .non => true | .non, .str _ => true | .str _, .non => true
  | .int _, .int _ => true | .bl _, .bl _ => true | .str _, .str _ => true | .byt _, .byt _ => true
  | .int _, .str _ => true | .str _, .int _ => true | .bl _, .str _ => true | .str _, .bl _ => true
  | _, _ => false
def rEq : R2 := fun x y H Q => scal x y = true ∧ Q (.bl (decide (x = y))) H
def rNe : R2 := fun x y H Q => scal x y = true ∧ Q (.bl (!decide (x = y))) H

theorem dec_int {i j : Int} : decide (V.int i = V.int j) = (i == j) := by
  rw [Bool.eq_iff_iff]
  simp
theorem dec_bl {i j : Bool} : decide (V.bl i = V.bl j) = (i == j) := by
  rw [Bool.eq_iff_iff]
  simp
theorem dec_str {i j : Str} : decide (V.str i = V.str j) = (i == j) := by
  rw [Bool.eq_iff_iff]
  simp
theorem dec_byt {i j : Array UInt8} : decide (V.byt i = V.byt j) = (i.toList == j.toList) := by
  rw [Bool.eq_iff_iff]
  cases i
  cases j
  simp

section
variable {X : Cx} {a b c : Expr} {ta tb tc : TE} {pos : Pos}
theorem fin_bl {pins : List (Addr × Obj)} {σ : St} {H : Hp} {s : Shared} {Q : VK} {k k' : Bool} (I : Inv X pins σ H s) (q : Q (.bl k) H) (e : k = k') : EP X pins σ Q (.bool k') s := by
  subst e
  exact ⟨.bl k, H, I, rfl, q⟩
theorem op_eq : OpR X (compareOp .Eq) rEq := by
  intro pins s σ H x y v u Q I rx ry h
  obtain ⟨hs, q⟩ := h
  cases x with
  | non =>
    cases rx
    cases y with
    | non => cases ry; exact PySem.EqNone.eq_none_none (fin_bl I q (by simp))
    | bl j => cases ry; exact PySem.EqNone.eq_none_bool (fin_bl I q (by simp))
    | int j => obtain ⟨t', rfl⟩ := ry; exact PySem.EqNone.eq_none_int (fin_bl I q (by simp))
    | str j => obtain ⟨t', rfl⟩ := ry; exact PySem.EqNone.eq_none_str (fin_bl I q (by simp))
    | _ => exact absurd (show false = true from hs) Bool.false_ne_true
  | bl i =>
    cases rx
    cases y with
    | non => cases ry; exact PySem.EqNone.eq_bool_none (fin_bl I q (by simp))
    | bl j => cases ry; exact eq_bool (fin_bl I q dec_bl)
    | str j => obtain ⟨t', rfl⟩ := ry; exact PySem.EqMixed.eq_bool_str (fin_bl I q (by simp))
    | _ => exact absurd (show false = true from hs) Bool.false_ne_true
  | int i =>
    obtain ⟨t, rfl⟩ := rx
    cases y with
    | non => cases ry; exact PySem.EqNone.eq_int_none (fin_bl I q (by simp))
    | int j => obtain ⟨t', rfl⟩ := ry; exact eq_int (fin_bl I q dec_int)
    | str j => obtain ⟨t', rfl⟩ := ry; exact PySem.EqMixed.eq_int_str (fin_bl I q (by simp))
    | _ => exact absurd (show false = true from hs) Bool.false_ne_true
  | str i =>
    obtain ⟨t, rfl⟩ := rx
    cases y with
    | non => cases ry; exact PySem.EqNone.eq_str_none (fin_bl I q (by simp))
    | bl j => cases ry; exact PySem.EqMixed.eq_str_bool (fin_bl I q (by simp))
    | int j => obtain ⟨t', rfl⟩ := ry; exact PySem.EqMixed.eq_str_int (fin_bl I q (by simp))
    | str j => obtain ⟨t', rfl⟩ := ry; exact eq_str (fin_bl I q dec_str)
    | _ => exact absurd (show false = true from hs) Bool.false_ne_true
  | byt i =>
    obtain ⟨t, rfl⟩ := rx
    cases y with
    | byt j => obtain ⟨t', rfl⟩ := ry; exact PySem.W.eq_bytes (fin_bl I q dec_byt)
    | _ => exact absurd (show false = true from hs) Bool.false_ne_true
  | _ => cases y <;> exact absurd (show false = true from hs) Bool.false_ne_true
theorem op_ne : OpR X (compareOp .NotEq) rNe := by
  intro pins s σ H x y v u Q I rx ry h
  obtain ⟨hs, q⟩ := h
  cases x with
  | non =>
    cases rx
    cases y with
    | non => cases ry; exact PySem.EqNone.ne_none_none (fin_bl I q (by simp))
    | bl j => cases ry; exact PySem.EqNone.ne_none_bool (fin_bl I q (by simp))
    | int j => obtain ⟨t', rfl⟩ := ry; exact PySem.EqNone.ne_none_int (fin_bl I q (by simp))
    | str j => obtain ⟨t', rfl⟩ := ry; exact PySem.EqNone.ne_none_str (fin_bl I q (by simp))
    | _ => exact absurd (show false = true from hs) Bool.false_ne_true
  | bl i =>
    cases rx
    cases y with
    | non => cases ry; exact PySem.EqNone.ne_bool_none (fin_bl I q (by simp))
    | bl j => cases ry; exact ne_bool (fin_bl I q (congrArg not dec_bl))
    | str j => obtain ⟨t', rfl⟩ := ry; exact PySem.EqMixed.ne_bool_str (fin_bl I q (by simp))
    | _ => exact absurd (show false = true from hs) Bool.false_ne_true
  | int i =>
    obtain ⟨t, rfl⟩ := rx
    cases y with
    | non => cases ry; exact PySem.EqNone.ne_int_none (fin_bl I q (by simp))
    | int j => obtain ⟨t', rfl⟩ := ry; exact ne_int (fin_bl I q (congrArg not dec_int))
    | str j => obtain ⟨t', rfl⟩ := ry; exact PySem.EqMixed.ne_int_str (fin_bl I q (by simp))
    | _ => exact absurd (show false = true from hs) Bool.false_ne_true
  | str i =>
    obtain ⟨t, rfl⟩ := rx
    cases y with
    | non => cases ry; exact PySem.EqNone.ne_str_none (fin_bl I q (by simp))
    | bl j => cases ry; exact PySem.EqMixed.ne_str_bool (fin_bl I q (by simp))
    | int j => obtain ⟨t', rfl⟩ := ry; exact PySem.EqMixed.ne_str_int (fin_bl I q (by simp))
    | str j => obtain ⟨t', rfl⟩ := ry; exact ne_str (fin_bl I q (congrArg not dec_str))
    | _ => exact absurd (show false = true from hs) Bool.false_ne_true
  | byt i =>
    obtain ⟨t, rfl⟩ := rx
    cases y with
    | byt j => obtain ⟨t', rfl⟩ := ry; exact PySem.W.ne_bytes (fin_bl I q (congrArg not dec_byt))
    | _ => exact absurd (show false = true from hs) Bool.false_ne_true
  | _ => cases y <;> exact absurd (show false = true from hs) Bool.false_ne_true

theorem op_lt : OpR X (compareOp .Lt) (rI0 fun i j => .bl (decide (i < j))) := opB0 fun _ _ _ _ _ _ _ q => lt_int q
theorem op_le : OpR X (compareOp .LtE) (rI0 fun i j => .bl (decide (i ≤ j))) := opB0 fun _ _ _ _ _ _ _ q => le_int q
theorem op_gt : OpR X (compareOp .Gt) (rI0 fun i j => .bl (decide (j < i))) := opB0 fun _ _ _ _ _ _ _ q => gt_int q
theorem op_ge : OpR X (compareOp .GtE) (rI0 fun i j => .bl (decide (j ≤ i))) := opB0 fun _ _ _ _ _ _ _ q => ge_int q
theorem op_lt_str : OpR X (compareOp .Lt) (fun x y H Q => ∃ i j, x = .str i ∧ y = .str j ∧ Q (.bl (decide (i.cps.toList < j.cps.toList))) H) := by
  intro pins s σ H x y v u Q I rx ry h
  obtain ⟨i, j, rfl, rfl, q⟩ := h
  obtain ⟨t, rfl⟩ := rx
  obtain ⟨t', rfl⟩ := ry
  exact lt_str (fin_bl I q rfl)
/-- the one string within the other -/
theorem op_in_str : OpR X (compareOp .In) (fun x y H Q => ∃ i j, x = .str i ∧ y = .str j ∧ Q (.bl (!(Builtin.Str.occurrences j i 0 j.length 1).isEmpty)) H) := by
  intro pins s σ H x y v u Q I rx ry h
  obtain ⟨i, j, rfl, rfl, q⟩ := h
  obtain ⟨t, rfl⟩ := rx
  obtain ⟨t', rfl⟩ := ry
  exact in_str (fin_bl I q rfl)

/-- is None, is not None: the right side a value none -/
theorem op_isN : OpR X (compareOp .Is) (fun x y H Q => y = .non ∧ Q (.bl (decide (x = .non))) H) := by
  intro pins s σ H x y v u Q I rx ry h
  obtain ⟨rfl, q⟩ := h
  cases ry
  refine is_none_gen (fin_bl I q ?_)
  cases x <;> first
    | (cases rx; rfl)
    | (obtain ⟨t, rfl⟩ := rx; rfl)
theorem op_notN : OpR X (compareOp .IsNot) (fun x y H Q => y = .non ∧ Q (.bl (!decide (x = .non))) H) := by
  intro pins s σ H x y v u Q I rx ry h
  obtain ⟨rfl, q⟩ := h
  cases ry
  refine isnot_none_gen (fin_bl I q ?_)
  cases x <;> first
    | (cases rx; rfl)
    | (obtain ⟨t, rfl⟩ := rx; rfl)

theorem op_notin_str : OpR X (compareOp .NotIn) (fun x y H Q => ∃ i j, x = .str i ∧ y = .str j ∧ Q (.bl (!(!(Builtin.Str.occurrences j i 0 j.length 1).isEmpty))) H) := by
  intro pins s σ H x y v u Q I rx ry h
  obtain ⟨i, j, rfl, rfl, q⟩ := h
  obtain ⟨t, rfl⟩ := rx
  obtain ⟨t', rfl⟩ := ry
  exact notIn_str (fin_bl I q rfl)
/-- is, is not of two objects that are tracked lists or instances -/
def isObj : HO → Bool
  | .lst _ => true
  | .ins _ _ _ => true
  | _ => false
theorem obj_there {pins : List (Addr × Obj)} {s : Shared} {σ : St} {H : Hp} {a : Addr} {o : HO} (I : Inv X pins σ H s) (h : H a = some o) (p : isObj o = true) : ∃ ob, s.heap.get? a = some ob ∧ ob.cls ≠ .type "tuple" := by
  cases o with
  | lst xs =>
    obtain ⟨_, its, n, _, e⟩ : xs.length ≤ sizeLine ∧ ∃ (its : List Value) (n : Nat), Vals xs its ∧ s.heap.get? a = some { cls := .type "list", data := .seq its.toArray n } := I.hok a _ h
    exact ⟨_, e, (by show Value.type "list" ≠ .type "tuple"; decide +kernel)⟩
  | ins C dx fs =>
    have x := I.hok a _ h
    obtain ⟨_, _, _, e, _⟩ := x
    exact ⟨_, e, (by show Value.ref C ≠ .type "tuple"; exact fun z => by cases z)⟩
  | _ => exact absurd (show false = true from p) Bool.false_ne_true
theorem op_is_ref : OpR X (compareOp .Is) (fun x y H Q => ∃ a b oa ob, x = .ref a ∧ y = .ref b ∧ H a = some oa ∧ isObj oa = true ∧ H b = some ob ∧ isObj ob = true ∧ Q (.bl (decide (a = b))) H) := by
  intro pins s σ H x y v u Q I rx ry h
  obtain ⟨a, b, oa, ob, rfl, rfl, ha, pa, hb, pb, q⟩ := h
  cases rx
  cases ry
  obtain ⟨o1, e1, n1⟩ := obj_there I ha pa
  obtain ⟨o2, e2, _⟩ := obj_there I hb pb
  by_cases z : a = b
  · subst z
    exact wpAny_is_ref_self (fin_bl I q (by simp))
  · exact wpAny_is_ref_other z e1 e2 n1 (fin_bl I q (by simp [z]))
theorem op_isnot_ref : OpR X (compareOp .IsNot) (fun x y H Q => ∃ a b oa ob, x = .ref a ∧ y = .ref b ∧ H a = some oa ∧ isObj oa = true ∧ H b = some ob ∧ isObj ob = true ∧ Q (.bl (!decide (a = b))) H) := by
  intro pins s σ H x y v u Q I rx ry h
  obtain ⟨a, b, oa, ob, rfl, rfl, ha, pa, hb, pb, q⟩ := h
  cases rx
  cases ry
  obtain ⟨o1, e1, n1⟩ := obj_there I ha pa
  obtain ⟨o2, e2, _⟩ := obj_there I hb pb
  by_cases z : a = b
  · subst z
    exact wpAny_isNot_ref_self (fin_bl I q (by simp))
  · exact wpAny_isNot_ref_other z e1 e2 n1 (fin_bl I q (by simp [z]))

/-- two rules for one operation: by cases -/
theorem OpR.or {f : Value → Value → Sem Value} {r r' : R2} (h : OpR X f r) (h' : OpR X f r') : OpR X f (fun x y H Q => r x y H Q ∨ r' x y H Q) := by
  intro pins s σ H x y v u Q I rx ry q
  rcases q with q | q
  · exact h pins s σ H x y v u Q I rx ry q
  · exact h' pins s σ H x y v u Q I rx ry q

theorem nomark (b : Expr) {op : CmpOp} (h : op ≠ .In := by decide) (h2 : op ≠ .NotIn := by decide) : behindInMarks op b = false := by
  have e1 : (op == CmpOp.In) = false := by cases op <;> first | rfl | exact absurd rfl h
  have e2 : (op == CmpOp.NotIn) = false := by cases op <;> first | rfl | exact absurd rfl h2
  cases b <;> simp [behindInMarks, e1, e2]
/-- a comparison as a value; hm: nomark b, or (for in, not in) by with_unfolding_all rfl -/
theorem pe_cmpR {op : CmpOp} {r : R2} (ho : OpR X (compareOp op) r) (ha : PE X a ta) (hb : PE X b tb) (hm : behindInMarks op b = false) : PE X (.Compare a [op] [b] pos) (tOp r ta tb) := by
  intro pins s σ H Q I h
  exact wpAny_Compare1 (binT ha hb I h fun v u s2 x y H2 I2 rx ry q => ho pins s2 σ H2 x y v u Q I2 rx ry q) hm
/-- a reading of a value as a test -/
def tTest (t : TE) : TT := fun σ H Q => t σ H fun x H' => ∃ k, x = .bl k ∧ Q k H'
theorem pt_cmpR {op : CmpOp} {r : R2} (ho : OpR X (compareOp op) r) (ha : PE X a ta) (hb : PE X b tb) (hm : behindInMarks op b = false) : PT X (.Compare a [op] [b] pos) (tTest (tOp r ta tb)) := by
  intro pins s σ H Q I h
  refine wpAny_isTrue_Compare1 (thn (ha pins s σ H _ I h) fun v s1 ⟨x, H1, I1, r1, q1⟩ => thn (hb pins s1 σ H1 _ I1 q1) fun u s2 ⟨y, H2, I2, r2, q2⟩ =>
    thn (ho pins s2 σ H2 x y v u _ I2 r1 r2 q2) fun c s3 ⟨z, H3, I3, r3, k, e, q3⟩ => ?_) hm
  subst e
  cases r3
  exact wpAny_truthy_bool ⟨H3, I3, q3⟩
/-- a op1 b op2 c -/
def tChain (r r' : R2) (ta tb tc : TE) : TE := fun σ H Q => ta σ H fun x H1 => tb σ H1 fun y H2 => r x y H2 fun z H3 => ∃ k, z = .bl k ∧
  (if k = true then tc σ H3 fun w' H4 => r' y w' H4 Q else Q (.bl false) H3)
theorem pe_chain {op op' : CmpOp} {r r' : R2} (ho : OpR X (compareOp op) r) (ho' : OpR X (compareOp op') r') (ha : PE X a ta) (hb : PE X b tb) (hc : PE X c tc)
    (hm : lastMarks [op, op'] [b, c] = false := by with_unfolding_all rfl) : PE X (.Compare a [op, op'] [b, c] pos) (tChain r r' ta tb tc) := by
  intro pins s σ H Q I h
  refine Compare_chain (thn (ha pins s σ H _ I h) fun v s1 ⟨x, H1, I1, r1, q1⟩ => chain_link (thn (hb pins s1 σ H1 _ I1 q1) fun u s2 ⟨y, H2, I2, r2, q2⟩ =>
    thn (ho pins s2 σ H2 x y v u _ I2 r1 r2 q2) fun d s3 ⟨z, H3, I3, r3, k, e, q3⟩ => ?_)) hm
  subst e
  cases r3
  refine wpAny_truthy_bool ?_
  cases k with
  | false => exact ite_ff ⟨.bl false, H3, I3, rfl, q3⟩
  | true => exact ite_tt (chain_last (thn (hc pins s3 σ H3 _ I3 q3) fun w' s4 ⟨z', H4, I4, r4, q4⟩ => ho' pins s4 σ H4 y z' u w' Q I4 r2 r4 q4))
theorem pt_chain {op op' : CmpOp} {r r' : R2} (ho : OpR X (compareOp op) r) (ho' : OpR X (compareOp op') r') (ha : PE X a ta) (hb : PE X b tb) (hc : PE X c tc)
    (hm : lastMarks [op, op'] [b, c] = false := by with_unfolding_all rfl) : PT X (.Compare a [op, op'] [b, c] pos) (tTest (tChain r r' ta tb tc)) := by
  intro pins s σ H Q I h
  refine isTrue_chain (thn (ha pins s σ H _ I h) fun v s1 ⟨x, H1, I1, r1, q1⟩ => test_link (thn (hb pins s1 σ H1 _ I1 q1) fun u s2 ⟨y, H2, I2, r2, q2⟩ =>
    thn (ho pins s2 σ H2 x y v u _ I2 r1 r2 q2) fun d s3 ⟨z, H3, I3, r3, k, e, q3⟩ => ?_)) hm
  subst e
  cases r3
  refine wpAny_truthy_bool ?_
  cases k with
  | false =>
    obtain ⟨k', e', q'⟩ := q3
    cases e'
    exact ite_ff ⟨H3, I3, q'⟩
  | true =>
    refine ite_tt (test_last (thn (hc pins s3 σ H3 _ I3 q3) fun w' s4 ⟨z', H4, I4, r4, q4⟩ => thn (ho' pins s4 σ H4 y z' u w' _ I4 r2 r4 q4) fun d' s5 ⟨z2, H5, I5, r5, k2, e2, q5⟩ => ?_))
    subst e2
    cases r5
    exact wpAny_truthy_bool ⟨H5, I5, q5⟩

/-! ### truth -/
/-- a value's truth by the abstract heap -/
def TruV (K : PySem.W.Frag) (x : V) (H : Hp) (k : Bool) : Prop :=
  match x with
  | .non => k = false
  | .bl b => k = b
  | .int i => k = (i != 0)
  | .str y => y.length ≤ sizeLine ∧ k = ((y.length : Int) != 0)
  | .byt y => y.size ≤ sizeLine ∧ k = ((y.size : Int) != 0)
  | .ref p => (∃ xs, SqL K H p xs ∧ k = !xs.isEmpty) ∨ (∃ xs, SqT K H p xs ∧ k = !xs.isEmpty) ∨ ∃ kvs, H p = some (.dK kvs) ∧ k = !kvs.isEmpty
  | _ => False
theorem isEmpty_kv {κ : Type} {kvs : List (κ × V)} {vs : List (κ × Value)} (r : KV kvs vs) : (!vs.isEmpty) = !kvs.isEmpty := by
  cases r <;> rfl
theorem isEmpty_of {xs : List V} {its : List Value} (r : Vals xs its) : (!its.toArray.isEmpty) = !xs.isEmpty := by
  cases r <;> simp
theorem line63 : (sizeLine : Nat) < 2 ^ 63 := by rw [sizeLine_eq]; decide
theorem tru_ok : TruR X (fun x H Q => ∃ k, TruV X.K x H k ∧ Q k H) := by
  intro pins s σ H x v Q I rx h
  obtain ⟨k, e, q⟩ := h
  have hl := line63
  have hs : sizeLine = 16777216 := sizeLine_eq
  cases x with
  | non =>
    cases rx
    have e' : k = false := e
    subst e'
    exact truthy_none ⟨H, I, q⟩
  | bl b =>
    cases rx
    have e' : k = b := e
    subst e'
    exact wpAny_truthy_bool ⟨H, I, q⟩
  | int i =>
    obtain ⟨t, rfl⟩ := rx
    have e' : k = (i != 0) := e
    subst e'
    exact PySem.P.truthy_int ⟨H, I, q⟩
  | str y =>
    obtain ⟨t, rfl⟩ := rx
    obtain ⟨hy, e'⟩ : y.length ≤ sizeLine ∧ k = ((y.length : Int) != 0) := e
    subst e'
    exact PySem.P.truthy_str (by omega) ⟨H, I.tok _, q⟩
  | byt y =>
    obtain ⟨t, rfl⟩ := rx
    obtain ⟨hy, e'⟩ : y.size ≤ sizeLine ∧ k = ((y.size : Int) != 0) := e
    subst e'
    exact PySem.W.truthy_bytes (by omega) ⟨H, I.tok _, q⟩
  | ref p =>
    cases rx
    have e' : (∃ xs, SqL X.K H p xs ∧ k = !xs.isEmpty) ∨ (∃ xs, SqT X.K H p xs ∧ k = !xs.isEmpty) ∨ ∃ kvs, H p = some (.dK kvs) ∧ k = !kvs.isEmpty := e
    rcases e' with ⟨xs, hx, e'⟩ | ⟨xs, hx, e'⟩ | ⟨kvs, hx, e'⟩
    · subst e'
      obtain ⟨its, r, pl, hz⟩ := I.list hx
      have hlen := r.length
      exact wpAny_truthy_list pl.isList (by simp only [List.size_toArray]; omega) ⟨H, I.tok _, by rw [isEmpty_of r]; exact q⟩
    · subst e'
      obtain ⟨its, r, pl, hz⟩ := I.tuple hx
      have hlen := r.length
      exact truthy_tuple pl (by simp only [List.size_toArray]; omega) ⟨H, I.tok _, by rw [isEmpty_of r]; exact q⟩
    · subst e'
      obtain ⟨hz, hS, vs, r, m⟩ : kvs.length ≤ sizeLine ∧ (p == sysModules) = false ∧ ∃ vs, KV kvs vs ∧ s.heap.DictOf (mixKind X.prog X.w) p vs := I.hok p _ hx
      have hlen : kvs.length = vs.length := Paired.length r
      exact wpAny_truthy_dict hS m (by omega) ⟨H, I.tok _, by rw [isEmpty_kv r]; exact q⟩
  | _ => exact (show False from e).elim
/-- any expression whose test is its value's truth (a name, a call, a subscript, a field ..: he by fun _ => rfl) -/
theorem pt_truth (ha : PE X a ta) (he : ∀ whole, isTrue a X.env whole = (do let v ← whole; standAt a.pos; holding [v] (truthy v))) :
    PT X a (fun σ H Q => ta σ H fun x H' => ∃ k, TruV X.K x H' k ∧ Q k H') := by
  intro pins s σ H Q I h
  exact isTrue_plain (thn (ha pins s σ H _ I h) fun v s1 ⟨x, H1, I1, r1, q1⟩ => tru_ok pins s1 σ H1 x v Q I1 r1 q1) (he _)

/-! ### strs and bytes -/
theorem pe_byt {x : List UInt8} {k : Nat} : PE X (.Constant (.bytes x) k pos) (fun _ H Q => Q (.byt x.toArray) H) := fun _ _ _ H _ I h => PySem.W.Constant_bytes ⟨.byt x.toArray, H, I.tok _, ⟨_, rfl⟩, h⟩
theorem op_add_str : OpR X (binaryOp .Add) (fun x y H Q => ∃ i j, x = .str i ∧ y = .str j ∧ i.length + j.length ≤ sizeLine ∧ Q (.str (i ++ j)) H) := by
  intro pins s σ H x y v u Q I rx ry h
  obtain ⟨i, j, rfl, rfl, hz, q⟩ := h
  obtain ⟨t, rfl⟩ := rx
  obtain ⟨t', rfl⟩ := ry
  exact add_str (fun t' tk => ⟨.str (i ++ j), H, I.tok _, ⟨_, rfl⟩, q⟩) hz
theorem iop_add_str : OpR X (inplaceOp .Add) (fun x y H Q => ∃ i j, x = .str i ∧ y = .str j ∧ i.length + j.length ≤ sizeLine ∧ Q (.str (i ++ j)) H) := by
  intro pins s σ H x y v u Q I rx ry h
  obtain ⟨i, j, rfl, rfl, hz, q⟩ := h
  obtain ⟨t, rfl⟩ := rx
  obtain ⟨t', rfl⟩ := ry
  exact iadd_str (fun t' tk => ⟨.str (i ++ j), H, I.tok _, ⟨_, rfl⟩, q⟩) hz
theorem op_add_byt : OpR X (binaryOp .Add) (fun x y H Q => ∃ i j, x = .byt i ∧ y = .byt j ∧ i.size + j.size ≤ 16777216 ∧ Q (.byt (i ++ j)) H) := by
  intro pins s σ H x y v u Q I rx ry h
  obtain ⟨i, j, rfl, rfl, hz, q⟩ := h
  obtain ⟨t, rfl⟩ := rx
  obtain ⟨t', rfl⟩ := ry
  exact PySem.W.KBy.add_bytes hz (fun t' tk => ⟨.byt (i ++ j), H, I.tok _, ⟨_, rfl⟩, q⟩)

def PlainIxT (b : Expr) : Prop := ∀ o i, subscripted b false o i = operate [o, i] (getItem o i)
/-- s[i], 0 ≤ i < len -/
theorem pe_item_str (ha : PE X a ta) (hb : PE X b tb) (hs : PlainIxT b) :
    PE X (.Subscript a b pos) (tOp (fun x y H Q => ∃ z i c, x = .str z ∧ y = .int i ∧ 0 ≤ i ∧ i < 2 ^ 63 ∧ i < z.length ∧ z.cps[i.toNat]? = some c ∧ Q (.str ⟨#[c]⟩) H) ta tb) := by
  intro pins s σ H Q I h
  refine Subscript_ (binT ha hb I h fun v u s2 x y H2 I2 rx ry q => ?_)
  obtain ⟨z, i, c, rfl, rfl, h0, h63, h1, hc, q⟩ := q
  obtain ⟨t, rfl⟩ := rx
  obtain ⟨t', rfl⟩ := ry
  have e : seqIndex? i z.length = some i.toNat := PySem.StrLaws.seqIndex_nonneg h0 h1
  exact tail_any (typeIs_str s2 z t) slot_str_getitem.lookup (getItem_str (c := c) (by
    have e1 : decide (i < -(2 ^ 63 : Int)) = false := decide_eq_false (by omega)
    have e2 : decide (i ≥ 2 ^ 63) = false := decide_eq_false (by omega)
    rw [e1, e2] <;> rfl) (by rw [e]; exact hc) ⟨.str ⟨#[c]⟩, H2, I2.tok _, ⟨_, rfl⟩, q⟩) (hs _ _)
/-- b[i], 0 ≤ i < len -/
theorem pe_item_byt (ha : PE X a ta) (hb : PE X b tb) (hs : PlainIxT b) :
    PE X (.Subscript a b pos) (tOp (fun x y H Q => ∃ (z : List UInt8) (i : Int), x = .byt z.toArray ∧ y = .int i ∧ z.length ≤ sizeLine ∧ 0 ≤ i ∧ i < z.length ∧ Q (.int ((z.getD i.toNat 0).toNat : Nat)) H) ta tb) := by
  intro pins s σ H Q I h
  refine Subscript_ (binT ha hb I h fun v u s2 x y H2 I2 rx ry q => ?_)
  obtain ⟨z, i, rfl, rfl, hz, h0, h1, q⟩ := q
  obtain ⟨t, rfl⟩ := rx
  obtain ⟨t', rfl⟩ := ry
  have hl : sizeLine = 16777216 := sizeLine_eq
  exact tail_any (PySem.W.typeIs_bytes s2 z.toArray t) PySem.W.FB.slot_bytes_getitem.lookup (PySem.W.getItem_bytes (by omega) h0 h1 ⟨.int ((z.getD i.toNat 0).toNat : Nat), H2, I2.tok _, ⟨_, rfl⟩, q⟩) (hs _ _)

/-! ### scalar builtins, by CallR -/
theorem vals1 {x : V} {us : List Value} (r : Vals [x] us) : ∃ u, us = [u] ∧ RelV x u := by
  cases r with
  | cons r1 r2 => cases r2; exact ⟨_, rfl, r1⟩
theorem vals2 {x y : V} {us : List Value} (r : Vals [x, y] us) : ∃ u w', us = [u, w'] ∧ RelV x u ∧ RelV y w' := by
  cases r with
  | cons r1 r2 =>
    cases r2 with
    | cons r3 r4 => cases r4; exact ⟨_, _, rfl, r1, r3⟩
theorem call_abs : CallR X (.builtin "abs") (fun xs H Q => ∃ i, xs = [.int i] ∧ Q (.int (if i < 0 then -i else i)) H) := by
  intro pins s σ H xs us Q I r h
  obtain ⟨i, rfl, q⟩ := h
  obtain ⟨u, rfl, t, rfl⟩ := vals1 r
  exact call_abs_int fun u tk => ⟨.int (if i < 0 then -i else i), H, I.tok _, ⟨_, rfl⟩, q⟩
theorem call_max2 (hc : X.calm = true) : CallR X (.builtin "max") (fun xs H Q => ∃ i j, xs = [.int i, .int j] ∧ Q (.int (if j > i then j else i)) H) := by
  intro pins s σ H xs us Q I r h
  obtain ⟨i, j, rfl, q⟩ := h
  obtain ⟨u, w', rfl, ⟨t, rfl⟩, ⟨t', rfl⟩⟩ := vals2 r
  refine max_two_ints (I.ok.hd hc) fun h' tk k => ⟨_, H, I.kept k, ?_, q⟩
  by_cases hj : j > i
  · rw [if_pos hj, if_pos hj]; exact ⟨_, rfl⟩
  · rw [if_neg hj, if_neg hj]; exact ⟨_, rfl⟩
theorem call_min2 (hc : X.calm = true) : CallR X (.builtin "min") (fun xs H Q => ∃ i j, xs = [.int i, .int j] ∧ Q (.int (if j < i then j else i)) H) := by
  intro pins s σ H xs us Q I r h
  obtain ⟨i, j, rfl, q⟩ := h
  obtain ⟨u, w', rfl, ⟨t, rfl⟩, ⟨t', rfl⟩⟩ := vals2 r
  refine min_two_ints (I.ok.hd hc) fun h' tk k => ⟨_, H, I.kept k, ?_, q⟩
  by_cases hj : j < i
  · rw [if_pos hj, if_pos hj]; exact ⟨_, rfl⟩
  · rw [if_neg hj, if_neg hj]; exact ⟨_, rfl⟩
theorem call_int1 : CallR X (.type "int") (fun xs H Q => (∃ i, xs = [.int i] ∧ Q (.int i) H) ∨ ∃ k, xs = [.bl k] ∧ Q (.int (if k then 1 else 0)) H) := by
  intro pins s σ H xs us Q I r h
  rcases h with ⟨i, rfl, q⟩ | ⟨k, rfl, q⟩
  · obtain ⟨u, rfl, t, rfl⟩ := vals1 r
    exact call_int_int ⟨.int i, H, I, ⟨_, rfl⟩, q⟩
  · obtain ⟨u, rfl, r1⟩ := vals1 r
    cases r1
    exact call_int_bool ⟨.int (if k then 1 else 0), H, I.tok _, ⟨_, rfl⟩, q⟩
theorem call_bool1 : CallR X (.type "bool") (fun xs H Q => (∃ i, xs = [.int i] ∧ Q (.bl (i != 0)) H) ∨ ∃ k, xs = [.bl k] ∧ Q (.bl k) H) := by
  intro pins s σ H xs us Q I r h
  rcases h with ⟨i, rfl, q⟩ | ⟨k, rfl, q⟩
  · obtain ⟨u, rfl, t, rfl⟩ := vals1 r
    exact call_bool_int ⟨.bl (i != 0), H, I, rfl, q⟩
  · obtain ⟨u, rfl, r1⟩ := vals1 r
    cases r1
    exact call_bool_bool ⟨.bl k, H, I, rfl, q⟩
theorem call_str_int : CallR X (.type "str") (fun xs H Q => ∃ i, xs = [.int i] ∧ i.natAbs.log2 < 1920 ∧ Q (.str (toString i)) H) := by
  intro pins s σ H xs us Q I r h
  obtain ⟨i, rfl, hz, q⟩ := h
  obtain ⟨u, rfl, t, rfl⟩ := vals1 r
  exact PySem.P.str_of_int hz ⟨.str _, H, I.tok _, ⟨_, rfl⟩, q⟩
theorem call_ord : CallR X (.builtin "ord") (fun xs H Q => ∃ x, xs = [.str x] ∧ x.length = 1 ∧ Q (.int (x.cps.getD 0 0 : Nat)) H) := by
  intro pins s σ H xs us Q I r h
  obtain ⟨x, rfl, hz, q⟩ := h
  obtain ⟨u, rfl, t, rfl⟩ := vals1 r
  exact ord_of_one hz ⟨.int _, H, I.tok _, ⟨_, rfl⟩, q⟩
theorem call_chr : CallR X (.builtin "chr") (fun xs H Q => ∃ i, xs = [.int i] ∧ 0 ≤ i ∧ i ≤ 1114111 ∧ Q (.str ⟨#[i.toNat]⟩) H) := by
  intro pins s σ H xs us Q I r h
  obtain ⟨i, rfl, h0, h1, q⟩ := h
  obtain ⟨u, rfl, t, rfl⟩ := vals1 r
  exact chr_of_range h0 h1 ⟨.str _, H, I.tok _, ⟨_, rfl⟩, q⟩
/-- len of a str, a bytes, a list, a tuple -/
def LenV (K : PySem.W.Frag) (x : V) (H : Hp) (n : Nat) : Prop :=
  match x with
  | .str y => y.length ≤ sizeLine ∧ n = y.length
  | .byt y => y.size ≤ sizeLine ∧ n = y.size
  | .ref p => (∃ xs, SqL K H p xs ∧ n = xs.length) ∨ ∃ xs, SqT K H p xs ∧ n = xs.length
  | _ => False
theorem call_len : CallR X (.builtin "len") (fun xs H Q => ∃ x n, xs = [x] ∧ LenV X.K x H n ∧ Q (.int n) H) := by
  intro pins s σ H xs us Q I r h
  obtain ⟨x, n, rfl, e, q⟩ := h
  obtain ⟨u, rfl, rx⟩ := vals1 r
  have hl := line63
  have hs : sizeLine = 16777216 := sizeLine_eq
  cases x with
  | str y =>
    obtain ⟨t, rfl⟩ := rx
    obtain ⟨hy, e'⟩ : y.length ≤ sizeLine ∧ n = y.length := e
    subst e'
    exact len_str (by omega) ⟨.int _, H, I.tok _, ⟨_, rfl⟩, q⟩
  | byt y =>
    obtain ⟨t, rfl⟩ := rx
    obtain ⟨hy, e'⟩ : y.size ≤ sizeLine ∧ n = y.size := e
    subst e'
    exact PySem.W.len_bytes (by omega) ⟨.int _, H, I.tok _, ⟨_, rfl⟩, q⟩
  | ref p =>
    cases rx
    have e' : (∃ xs, SqL X.K H p xs ∧ n = xs.length) ∨ ∃ xs, SqT X.K H p xs ∧ n = xs.length := e
    rcases e' with ⟨xs, hx, e'⟩ | ⟨xs, hx, e'⟩
    · subst e'
      obtain ⟨its, r', pl, hz⟩ := I.list hx
      have hlen := r'.length
      exact Calls.call_len_list pl.isList (by simp only [List.size_toArray]; omega) ⟨.int xs.length, H, I.tok _, ⟨_, by simp only [List.size_toArray]; rw [hlen]⟩, q⟩
    · subst e'
      obtain ⟨its, r', pl, hz⟩ := I.tuple hx
      have hlen := r'.length
      exact len_tuple pl (by simp only [List.size_toArray]; omega) ⟨.int xs.length, H, I.tok _, ⟨_, by simp only [List.size_toArray]; rw [hlen]⟩, q⟩
  | _ => exact (show False from e).elim
/-- divmod: a new tuple -/
theorem call_divmod : CallR X (.builtin "divmod") (fun xs H Q => ∃ i j, xs = [.int i, .int j] ∧ CDiv i j ∧ ∀ p, H p = none → Q (.ref p) (upd H p (.tup [.int (i / j), .int (i % j)]))) := by
  intro pins s σ H xs us Q I r h
  obtain ⟨i, j, rfl, ⟨h1, h2⟩, q⟩ := h
  obtain ⟨u, w', rfl, ⟨t, rfl⟩, ⟨t', rfl⟩⟩ := vals2 r
  refine divmod_int (by omega) ?_ (.inl (PyProof.noPylong_small (by omega)))
  rw [Int.fdiv_eq_ediv_of_nonneg i (by omega), Int.fmod_eq_emod_of_nonneg i (by omega)]
  have hn : H s.heap.objs.size = none := I.hok.fresh (Nat.le_refl _)
  refine ⟨.ref s.heap.objs.size, _, ?_, rfl, q _ hn⟩
  refine I.laid (fun b o e => Heap.get?_push_of_some _ e) (Nat.le_refl _) ⟨by simp only [List.length_cons, List.length_nil]; rw [sizeLine_eq]; decide, [.int (i / j) s.toks, .int (i % j) (s.toks + 1)], .cons ⟨_, rfl⟩ (.cons ⟨_, rfl⟩ .nil), ?_⟩
  exact ⟨_, Heap.get?_push_size s.heap rfl, rfl, 0, rfl⟩
end
end L2

namespace L2
open PySem PySem.Spec PyProof.Rows

/-! ### an instance, its attributes a map -/
structure ObjM (h : Heap) (x dx C : Addr) (mA : Str → Option Value) : Prop where
  obj : h.get? x = some (PySem.W.instObj C dx)
  ns : h.Ns1 dx mA
  ne : dx ≠ x

theorem lookIn_ns {h : Heap} {dx : Addr} {mA : Str → Option Value} (n : h.Ns1 dx mA) : ∃ od, h.get? dx = some od ∧ ∀ name, PySem.W.lookIn name od = some (mA name) := by
  obtain ⟨o, es, ep, ho, hd, hk, _, hm⟩ := n
  refine ⟨o, ho, fun name => ?_⟩
  have e := hm name
  unfold nsFind findBy at e
  rw [← Array.find?_toList] at e
  unfold PySem.W.lookIn
  rw [hd]
  dsimp only
  split
  · rename_i y q
    rw [q] at e
    exact congrArg some e
  · rename_i q
    rw [q] at e
    have a : es.toList.any (·.refKey) = false := by
      rw [List.any_eq_false]
      intro y hy
      obtain ⟨z, t, hkey⟩ := hk y (Array.mem_toList_iff.mp hy)
      simp [DictEntry.refKey, hkey]
    have a' : ¬ es.toList.any (·.refKey) = true := by rw [a]; exact Bool.false_ne_true
    rw [if_neg a']
    exact congrArg some e

theorem ObjM.look {h : Heap} {x dx C : Addr} {mA : Str → Option Value} (I : ObjM h x dx C mA) : ∃ od, PySem.W.InstAt h x (PySem.W.instObj C dx) C (some od) ∧ ∀ name, PySem.W.lookIn name od = some (mA name) :=
  let ⟨od, ho, hl⟩ := lookIn_ns I.ns
  ⟨od, ⟨I.obj, rfl, rfl, ho⟩, hl⟩

section
variable {prog : Program} {w : World} {A : Around} {E : Value → Shared → Prop} {s : Shared} {K : PySem.W.Frag} {x dx C f : Addr} {mA : Str → Option Value} {name : Str} {v : Value}

theorem get_map {expr : Bool} {Q : Value → Shared → Prop} (X : K.In s.heap) (I : ObjM s.heap x dx C mA) (hg : PySem.W.plainGet K C name = true) (hh : PySem.W.hasDictIn K C = true)
    (ha : PySem.W.findIn K (.ref C) name = some none) (hv : mA name = some v) (hv' : PySem.W.handedIn v = true) (h : Q v { s with toks := s.toks + 1 }) :
    wpAny (model prog w) A (getAttr (.ref x) name expr) Q E s := by
  obtain ⟨od, J, hl⟩ := I.look
  exact PySem.W.get_value X J (PySem.W.plainGet_of hg).1 (PySem.W.findObj_own hh ha rfl (by rw [hl, hv])) hv' h

theorem get_const {expr : Bool} {a : Value} {Q : Value → Shared → Prop} (X : K.In s.heap) (I : ObjM s.heap x dx C mA) (hg : PySem.W.plainGet K C name = true) (hh : PySem.W.hasDictIn K C = true)
    (ha : PySem.W.findIn K (.ref C) name = some (some a)) (hn : PySem.W.specialIn K a "__get__" = some none) (hc : PySem.W.copiedNames.contains name = false) (hv : mA name = none) (hv' : PySem.W.handedIn a = true)
    (h : Q a { s with toks := s.toks + 1 }) : wpAny (model prog w) A (getAttr (.ref x) name expr) Q E s := by
  obtain ⟨od, J, hl⟩ := I.look
  exact PySem.W.get_value X J (PySem.W.plainGet_of hg).1 (PySem.W.findObj_cls hh ha hn hv' hc (by rw [hl, hv])) hv' h

theorem get_meth {pl : Sem Bool} {Q : Value × List Value → Shared → Prop} (X : K.In s.heap) (I : ObjM s.heap x dx C mA) (hg : PySem.W.plainGet K C name = true)
    (hf : PySem.W.findIn K (.ref C) name = some (some (.ref f))) (ht : PySem.W.isFn K (.ref f) = true) (hv : mA name = none) (h : Q (.ref f, [.ref x]) s) :
    wpAny (model prog w) A (getMethod (.ref x) name pl) Q E s := by
  obtain ⟨od, J, hl⟩ := I.look
  exact PySem.W.method_fn X J (PySem.W.plainGet_of hg).1 (PySem.W.plainGet_of hg).2 hf (beq_iff_eq.mp ht) (by show (PySem.W.lookIn name od).map (·.isSome) = some false; rw [hl, hv]; rfl) h

theorem set_map {ns : List Str} {Q : Unit → Shared → Prop} (X : K.In s.heap) (I : ObjM s.heap x dx C mA)
    (hs : PySem.W.findIn K (.ref C) "__setattr__" = some (some (.builtin "object.__setattr__"))) (hp : PySem.W.plainOver K C = true) (ht : PySem.W.takerIn K C name = some none) (hh : PySem.W.hasDictIn K C = true)
    (hw : PySem.Within mA ns) (hsz : ns.length ≤ sizeLine)
    (h : ∀ h', ObjM h' x dx C (fun y => if y = name then some v else mA y) → Heap.SameBut dx s.heap h' → Q () { s with heap := h', toks := s.toks + 2 }) :
    wpAny (model prog w) A (setAttr (.ref x) name v) Q E s := by
  obtain ⟨od, J, hl⟩ := I.look
  refine PySem.W.set_plain X J hs (PySem.W.osa_open (s := { s with toks := s.toks + 1 }) (r := none) X J hp ht fun b => ?_)
  obtain ⟨cd, hc, hd'⟩ := PySem.W.any_some hh
  have hx : s.heap.get? x = some ⟨.ref C, some dx, .plain, #[]⟩ := I.obj
  refine wpAny_bind (wpAny_pure (wpAny_bind (wpAny_bind (wpAny_loadPart hx (wpAny_bind (PySem.W.Looks.here (s := { s with toks := s.toks + 1 }) (PySem.W.looks_clsIn X hc) ?_))))))
  rw [hd']
  refine wpAny_pure (a := some dx) (wpAny_bind (wpAny_pure (wpAny_bind ?_)))
  refine wpAny_nsSet1 (s := { s with toks := s.toks + 1 }) I.ns fun h' hn2 hs2 => ?_
  obtain ⟨oD, esD, epD, hoD, hdD, hcD⟩ := hn2.count (PySem.Within.cons name v hw)
  refine wpAny_bind (wpAny_lookBehind hoD (by rw [hdD]; exact pastItsLine_dict (Nat.le_trans hcD (by rw [List.length_cons]; omega))) ?_)
  exact wpAny_pure (h _ ⟨(hs2.2 _ (Ne.symm I.ne)).trans I.obj, hn2, I.ne⟩ hs2)

/-- C(..): the dict at the heap's end, the instance behind it; then its __init__ -/
theorem make_map {R : Result → Shared → Prop} {vs : List Value} {kw : List (Str × Value)} (X : K.In s.heap) (hm : PySem.W.makesIn K C = true)
    (hi : PySem.W.findIn K (.ref C) "__init__" = some (some (.ref f))) (hf : PySem.W.typeIn K (.ref f) = some (.type "function"))
    (h : codeAny (model prog w) (A.under (.builtin "type.__call__" ⟨.ref C :: vs, kw⟩)) (.call (.ref f) ⟨.ref (s.heap.objs.size + 1) :: vs, kw⟩) (PySem.W.InitBack (s.heap.objs.size + 1) R)
      { s with heap := (s.heap.push PySem.W.emptyDict).push (PySem.W.instObj C s.heap.objs.size) }) :
    codeAny (model prog w) A (.call (.ref C) ⟨vs, kw⟩) R s := by
  obtain ⟨hh, g, d, t, os⟩ := s
  exact PySem.W.make_core (PySem.W.makes_of X hm) (PySem.W.looks_findIn X hi) (fun self => PySem.W.bind_fn X self hf) (.inl rfl) h
/-- C() where there is no __init__ but object's -/
theorem make_map0 {R : Result → Shared → Prop} (X : K.In s.heap) (hm : PySem.W.makesIn K C = true)
    (hi : PySem.W.findIn K (.ref C) "__init__" = some (some (.builtin "object.__init__")))
    (hb : ∀ self, PySem.W.Looks (model prog w) s.heap (bindSpecial (.builtin "object.__init__") self) (.builtin "object.__init__", [self]))
    (h : codeAny (model prog w) (A.under (.builtin "type.__call__" ⟨[.ref C], []⟩)) (.call (.builtin "object.__init__") ⟨[.ref (s.heap.objs.size + 1)], []⟩) (PySem.W.InitBack (s.heap.objs.size + 1) R)
      { s with heap := (s.heap.push PySem.W.emptyDict).push (PySem.W.instObj C s.heap.objs.size) }) :
    codeAny (model prog w) A (.call (.ref C) ⟨[], []⟩) R s := by
  obtain ⟨hh, g, d, t, os⟩ := s
  exact PySem.W.make_core (PySem.W.makes_of X hm) (PySem.W.looks_findIn X hi) hb (.inr ⟨rfl, rfl⟩) h
end

/-! ### the attributes as a list of pairs -/
def putF (f : Str) (v : V) : List (Str × V) → List (Str × V)
  | [] => [(f, v)]
  | (g, x) :: r => if g = f then (g, v) :: r else (g, x) :: putF f v r
theorem lookup_putF (f g : Str) (v : V) : ∀ fs : List (Str × V), (putF f v fs).lookup g = if g = f then some v else fs.lookup g
  | [] => by
    show List.lookup g [(f, v)] = _
    by_cases h : g = f
    · have hb : (g == f) = true := beq_iff_eq.mpr h
      simp only [List.lookup, hb, if_pos h]
    · have hb : (g == f) = false := beq_eq_false_iff_ne.mpr h
      simp only [List.lookup, hb, if_neg h]
  | (k, x) :: r => by
    have ih := lookup_putF f g v r
    rw [show putF f v ((k, x) :: r) = (if k = f then (k, v) :: r else (k, x) :: putF f v r) from rfl]
    by_cases hk : k = f
    · rw [if_pos hk]
      by_cases h : g = k
      · have hb : (g == k) = true := beq_iff_eq.mpr h
        simp only [List.lookup, hb, if_pos (h.trans hk)]
      · have hb : (g == k) = false := beq_eq_false_iff_ne.mpr h
        simp only [List.lookup, hb, if_neg (fun e : g = f => h (e.trans hk.symm))]
    · rw [if_neg hk]
      by_cases h : g = k
      · have hb : (g == k) = true := beq_iff_eq.mpr h
        simp only [List.lookup, hb, if_neg (fun e : g = f => hk (h.symm.trans e))]
      · have hb : (g == k) = false := beq_eq_false_iff_ne.mpr h
        simp only [List.lookup, hb]
        exact ih
theorem keys_putF (f : Str) (v : V) : ∀ fs : List (Str × V), f ∈ (putF f v fs).map (·.1) ∧ ∀ g, g ∈ fs.map (·.1) → g ∈ (putF f v fs).map (·.1)
  | [] => ⟨by simp [putF], fun g h => by simp at h⟩
  | (k, x) :: r => by
    obtain ⟨i1, i2⟩ := keys_putF f v r
    rw [show putF f v ((k, x) :: r) = (if k = f then (k, v) :: r else (k, x) :: putF f v r) from rfl]
    by_cases hk : k = f
    · rw [if_pos hk]
      subst hk
      exact ⟨by simp, fun g h => by simpa using h⟩
    · rw [if_neg hk]
      refine ⟨?_, fun g h => ?_⟩
      · rw [List.map_cons]
        exact List.mem_cons_of_mem _ i1
      · rw [List.map_cons] at h ⊢
        rcases List.mem_cons.mp h with e | e
        · exact List.mem_cons.mpr (.inl e)
        · exact List.mem_cons_of_mem _ (i2 g e)
theorem length_putF (f : Str) (v : V) : ∀ fs : List (Str × V), (putF f v fs).length ≤ fs.length + 1
  | [] => by simp [putF]
  | (k, x) :: r => by
    have ih := length_putF f v r
    rw [show putF f v ((k, x) :: r) = (if k = f then (k, v) :: r else (k, x) :: putF f v r) from rfl]
    by_cases hk : k = f
    · rw [if_pos hk, List.length_cons, List.length_cons]; omega
    · rw [if_neg hk, List.length_cons, List.length_cons]; omega

theorem RelO.some_of {v : V} {o : Option Value} (r : RelO (some v) o) : ∃ u, o = some u ∧ RelV v u := by
  cases o with
  | none => exact (show False from r).elim
  | some u => exact ⟨u, rfl, r⟩
theorem RelO.none_of {o : Option Value} (r : RelO none o) : o = none := by
  cases o with
  | none => rfl
  | some u => exact (show False from r).elim
theorem handed_of {v : V} {u : Value} (r : RelV v u) : PySem.W.handedIn u = true := by
  cases v with
  | non => cases (show u = Value.none from r); rfl
  | bl b => cases (show u = Value.bool b from r); rfl
  | int i => obtain ⟨t, e⟩ := (show ∃ t, u = Value.int i t from r); cases e; rfl
  | str x => obtain ⟨t, e⟩ := (show ∃ t, u = Value.str x t from r); cases e; rfl
  | byt b => obtain ⟨t, e⟩ := (show ∃ t, u = Value.bytes b t from r); cases e; rfl
  | flt b => obtain ⟨t, e⟩ := (show ∃ t, u = Value.float b t from r); cases e; rfl
  | ref a => cases (show u = Value.ref a from r); rfl
  | ty n => cases (show u = Value.type n from r); rfl

section
variable {P : Program} {w : World} {H H' : Hp} {h h' : Heap} {a C dx : Addr} {fs fs' : List (Str × V)}
theorem ins_get (hok : HOk P w H h) (e : H a = some (.ins C dx fs)) : ∃ mA, ObjM h a dx C mA ∧ (∀ f, RelO (fs.lookup f) (mA f)) ∧ PySem.Within mA (fs.map (·.1)) ∧ fs.length ≤ 1000 ∧ H dx = some (.own a) := by
  obtain ⟨d, z, ne, ob, mA, n, r, q⟩ := (show ObjOk P w H h a (.ins C dx fs) from hok a _ e)
  exact ⟨mA, ⟨ob, n, ne⟩, r, q, z, d⟩
end

/-! ### what of the text a class must have -/
structure Cls (K : PySem.W.Frag) (C : Addr) : Prop where
  pg : PySem.W.plainGet K C Str.empty = true
  hd : PySem.W.hasDictIn K C = true
  po : PySem.W.plainOver K C = true
  sa : PySem.W.findIn K (.ref C) "__setattr__" = some (some (.builtin "object.__setattr__"))
theorem Cls.get {K : PySem.W.Frag} {C : Addr} (c : Cls K C) (f : Str) : PySem.W.plainGet K C f = true := c.pg
/-- no class of it has the name -/
def NoAttr (K : PySem.W.Frag) (C : Addr) (f : Str) : Prop := PySem.W.findIn K (.ref C) f = some none
theorem NoAttr.taker {K : PySem.W.Frag} {C : Addr} {f : Str} (n : NoAttr K C f) : PySem.W.takerIn K C f = some none := by
  unfold PySem.W.takerIn
  rw [show PySem.W.findIn K (.ref C) f = some none from n]
  rfl
/-- a constant of the class -/
structure Con (K : PySem.W.Frag) (C : Addr) (f : Str) (v : V) (u : Value) : Prop where
  at_ : PySem.W.findIn K (.ref C) f = some (some u)
  rel : RelV v u
  get : PySem.W.specialIn K u "__get__" = some none
  cp : PySem.W.copiedNames.contains f = false
/-- a method: a plain def of the class or of one above it -/
structure Meth (K : PySem.W.Frag) (C : Addr) (m : Str) (f : Addr) : Prop where
  at_ : PySem.W.findIn K (.ref C) m = some (some (.ref f))
  fn : PySem.W.isFn K (.ref f) = true
  kp : PySem.W.keepIn K (.ref f) = true

section
variable {X : Cx} {pins : List (Addr × Obj)} {σ : St} {H : Hp} {s : Shared} {a C dx : Addr} {fs : List (Str × V)} {f : Str} {v : V} {A : Around} {E : Value → Shared → Prop}

theorem getattr_ok {b : Bool} {Q : Value → Shared → Prop} (I : Inv X pins σ H s) (e : H a = some (.ins C dx fs)) (c : Cls X.K C) (n : NoAttr X.K C f) (l : fs.lookup f = some v)
    (h : ∀ u s', Inv X pins σ H s' → RelV v u → Q u s') : wpAny (model X.prog X.w) A (getAttr (.ref a) f b) Q E s := by
  obtain ⟨mA, O, r, _, _, _⟩ := ins_get I.hok e
  obtain ⟨u, hu, ru⟩ := RelO.some_of (v := v) (o := mA f) (by rw [← l]; exact r f)
  exact get_map I.kIn O (c.get f) c.hd n hu (handed_of ru) (h u _ (I.tok _) ru)

theorem getcon_ok {b : Bool} {u : Value} {Q : Value → Shared → Prop} (I : Inv X pins σ H s) (e : H a = some (.ins C dx fs)) (c : Cls X.K C) (k : Con X.K C f v u) (l : fs.lookup f = none)
    (h : ∀ s', Inv X pins σ H s' → Q u s') : wpAny (model X.prog X.w) A (getAttr (.ref a) f b) Q E s := by
  obtain ⟨mA, O, r, _, _, _⟩ := ins_get I.hok e
  have hn : mA f = none := RelO.none_of (by rw [← l]; exact r f)
  exact get_const I.kIn O (c.get f) c.hd k.at_ k.get k.cp hn (handed_of k.rel) (h _ (I.tok _))

theorem getmeth_ok {m : Str} {g : Addr} {pl : Sem Bool} {Q : Value × List Value → Shared → Prop} (I : Inv X pins σ H s) (e : H a = some (.ins C dx fs)) (c : Cls X.K C) (k : Meth X.K C m g) (l : fs.lookup m = none)
    (h : Q (.ref g, [.ref a]) s) : wpAny (model X.prog X.w) A (getMethod (.ref a) m pl) Q E s := by
  obtain ⟨mA, O, r, _, _, _⟩ := ins_get I.hok e
  have hn : mA m = none := RelO.none_of (by rw [← l]; exact r m)
  exact get_meth I.kIn O (c.get m) k.at_ k.fn hn h

theorem setattr_ok {y : V} {u : Value} {Q : Unit → Shared → Prop} (I : Inv X pins σ H s) (e : H a = some (.ins C dx fs)) (c : Cls X.K C) (n : NoAttr X.K C f) (hl : fs.length < 1000) (ry : RelV y u)
    (h : ∀ s', Inv X pins σ (upd H a (.ins C dx (putF f y fs))) s' → Q () s') : wpAny (model X.prog X.w) A (setAttr (.ref a) f u) Q E s := by
  obtain ⟨mA, O, r, wi, _, ho⟩ := ins_get I.hok e
  have hz : (fs.map (·.1)).length ≤ sizeLine := by rw [List.length_map, sizeLine_eq]; omega
  refine set_map I.kIn O c.sa c.po n.taker c.hd wi hz fun h' O' sb => h _ ?_
  have hd : ∃ o, h'.get? dx = some o := let ⟨o, _, _, e', _⟩ := O'.ns; ⟨o, e'⟩
  refine I.write (x := a) (e := dx) (by rw [e]; exact True.intro) (.inr ho) (fun b q hb z => (sb.2 b hb).trans z) hd ?_
  refine ⟨by rw [upd_ne O.ne]; exact ho, ?_, O.ne, O'.obj, _, O'.ns, fun g => ?_, fun g hg => ?_⟩
  · have := length_putF f y fs; omega
  · show RelO ((putF f y fs).lookup g) (if g = f then some u else mA g)
    rw [lookup_putF]
    by_cases q : g = f
    · rw [if_pos q, if_pos q]; exact ry
    · rw [if_neg q, if_neg q]; exact r g
  · by_cases q : g = f
    · rw [q]; exact (keys_putF f y fs).1
    · refine (keys_putF f y fs).2 g (wi g fun z => hg ?_)
      show (if g = f then some u else mA g) = none
      rw [if_neg q]; exact z

/-- a new instance, tracked, without attributes -/
theorem Inv.made (I : Inv X pins σ H s) : Inv X pins σ (upd (upd H s.heap.objs.size (.own (s.heap.objs.size + 1))) (s.heap.objs.size + 1) (.ins C s.heap.objs.size []))
    { s with heap := (s.heap.push PySem.W.emptyDict).push (PySem.W.instObj C s.heap.objs.size) } := by
  have e1 : (s.heap.push PySem.W.emptyDict).get? s.heap.objs.size = some PySem.W.emptyDict := Heap.get?_push_size s.heap rfl
  have e2 : ((s.heap.push PySem.W.emptyDict).push (PySem.W.instObj C s.heap.objs.size)).get? (s.heap.objs.size + 1) = some (PySem.W.instObj C s.heap.objs.size) := by
    have := Heap.get?_push_size (s.heap.push PySem.W.emptyDict) (o := PySem.W.instObj C s.heap.objs.size) rfl
    rwa [Heap.size_push] at this
  have e3 : (s.heap.push PySem.W.emptyDict).Ns s.heap.objs.size (fun _ => none) := ⟨PySem.W.emptyDict, #[], _, e1, rfl, (fun e he => absurd he (by simp)), fun _ => rfl⟩
  have I1 := I.laid (a := s.heap.objs.size) (o := .own (s.heap.objs.size + 1)) (h' := s.heap.push PySem.W.emptyDict) (t' := s.toks) (fun b u q => Heap.get?_push_of_some _ q) (Nat.le_refl _) ⟨_, e1⟩
  refine I1.laid (a := s.heap.objs.size + 1) (o := .ins C s.heap.objs.size []) (t' := s.toks) (fun b u q => Heap.get?_push_of_some _ q) (Nat.le_of_eq (Heap.size_push _ _)) ?_
  have ne : s.heap.objs.size ≠ s.heap.objs.size + 1 := Nat.ne_of_lt (Nat.lt_succ_self _)
  refine ⟨by rw [upd_ne ne, upd_same], Nat.zero_le _, ne, e2, fun _ => none, (Heap.Ns1.of_empty e3).at fun o q => Heap.get?_push_of_some _ q, fun _ => True.intro, fun y hy => absurd rfl hy⟩

/-- e.f where nothing but the object is asked: through attributeBase (super) and the last hold -/
theorem attr_of {prog : Program} {w : World} {env : Env} {e : Expr} {f : Str} {pos : Pos} {s : Shared} {Q : Value → Shared → Prop} (hb : attributeBase e f env (eval e env) = eval e env)
    (h : wpAny (model prog w) A (eval e env) (fun o s₁ => wpAny (model prog w) A (getAttr o f true) Q E s₁) E s) : wpAny (model prog w) A (eval (.Attribute e f pos) env) Q E s :=
  Attribute_any_ h (by rw [arm_eval_Attribute, hb])
end

/-! ### readings and rules -/
/-- e.f, an attribute of the instance -/
def tFld (K : PySem.W.Frag) (ta : TE) (f : Str) : TE := fun σ H Q => ta σ H fun x H1 => ∃ a C dx fs v, x = .ref a ∧ H1 a = some (.ins C dx fs) ∧ Cls K C ∧ NoAttr K C f ∧ fs.lookup f = some v ∧ Q v H1
/-- e.f, a constant of the class -/
def tCon (K : PySem.W.Frag) (ta : TE) (f : Str) : TE := fun σ H Q => ta σ H fun x H1 => ∃ a C dx fs v u, x = .ref a ∧ H1 a = some (.ins C dx fs) ∧ Cls K C ∧ Con K C f v u ∧ fs.lookup f = none ∧ Q v H1
/-- e.f = value -/
def sFld (K : PySem.W.Frag) (ta tv : TE) (f : Str) : TS := fun D σ H => tv σ H fun y H1 => ta σ H1 fun x H2 => ∃ a C dx fs, x = .ref a ∧ H2 a = some (.ins C dx fs) ∧ Cls K C ∧ NoAttr K C f ∧ fs.length < 1000 ∧
  D.nx σ (upd H2 a (.ins C dx (putF f y fs)))
/-- an augmented operator on two values -/
def InOp (X : Cx) (op : Operator) (rd : V → V → Hp → VK → Prop) : Prop :=
  ∀ (pins : List (Addr × Obj)) (s : Shared) (σ : St) (H : Hp) (x y : V) (u v : Value) (Q : VK), Inv X pins σ H s → RelV x u → RelV y v → rd x y H Q → wpAny (model X.prog X.w) X.A (inplaceOp op u v) (EP X pins σ Q) X.xe s
/-- e.f op= value -/
def sFldAug (K : PySem.W.Frag) (ta tv : TE) (rd : V → V → Hp → VK → Prop) (f : Str) : TS := fun D σ H => ta σ H fun x H1 => ∃ a C dx fs v, x = .ref a ∧ H1 a = some (.ins C dx fs) ∧ Cls K C ∧ NoAttr K C f ∧ fs.lookup f = some v ∧
  tv σ H1 fun y H2 => rd v y H2 fun z H3 => ∃ dx' fs', H3 a = some (.ins C dx' fs') ∧ fs'.length < 1000 ∧ D.nx σ (upd H3 a (.ins C dx' (putF f z fs')))

section
variable {X : Cx} {o e value : Expr} {f : Str} {pos pos' tpos : Pos} {ta tv : TE}
theorem pe_fld (he : PE X e ta) (hb : attributeBase e f X.env (eval e X.env) = eval e X.env) : PE X (.Attribute e f pos) (tFld X.K ta f) := by
  intro pins s σ H Q I h
  refine attr_of hb (thn (he pins s σ H _ I h) fun u s1 ⟨x, H1, I1, rx, a, C, dx, fs, v, ex, ea, c, n, l, q⟩ => ?_)
  subst ex
  obtain rfl : u = Value.ref a := rx
  exact getattr_ok I1 ea c n l fun u' s2 I2 ru => ⟨v, H1, I2, ru, q⟩
theorem pe_con (he : PE X e ta) (hb : attributeBase e f X.env (eval e X.env) = eval e X.env) : PE X (.Attribute e f pos) (tCon X.K ta f) := by
  intro pins s σ H Q I h
  refine attr_of hb (thn (he pins s σ H _ I h) fun u s1 ⟨x, H1, I1, rx, a, C, dx, fs, v, u0, ex, ea, c, k, l, q⟩ => ?_)
  subst ex
  obtain rfl : u = Value.ref a := rx
  exact getcon_ok I1 ea c k l fun s2 I2 => ⟨v, H1, I2, k.rel, q⟩
theorem ps_fld (ha : PE X o ta) (hv : PE X value tv) (hs : swapsWith value (some (.Attribute o f pos')) pos.line X.env = pure false) : PS X (.Assign [.Attribute o f pos'] value pos) (sFld X.K ta tv f) := by
  intro pins s σ H D I h
  refine plainObj_wpAny_Assign_Attribute (thn (hv pins s σ H _ I h) fun u s1 ⟨y, H1, I1, ry, q⟩ => thn (ha pins s1 σ H1 _ I1 q) fun ov s2 ⟨x, H2, I2, rx, a, C, dx, fs, ex, ea, c, n, l, q2⟩ => ?_) hs
  subst ex
  obtain rfl : ov = Value.ref a := rx
  exact setattr_ok I2 ea c n l ry fun s3 I3 => ⟨σ, _, I3, q2⟩
theorem ps_fldaug {op : Operator} {rd : V → V → Hp → VK → Prop} (ha : PE X o ta) (hv : PE X value tv) (hop : InOp X op rd) : PS X (.AugAssign (.Attribute o f tpos) op value pos) (sFldAug X.K ta tv rd f) := by
  intro pins s σ H D I h
  refine wpAny_AugAssign_AttributeAny (thn (ha pins s σ H _ I h) fun ov s1 ⟨x, H1, I1, rx, a, C, dx, fs, v, ex, ea, c, n, l, q⟩ => ?_)
  subst ex
  obtain rfl : ov = Value.ref a := rx
  refine getattr_ok I1 ea c n l fun u s2 I2 ru => thn (hv pins s2 σ H1 _ I2 q) fun w3 s3 ⟨y, H2, I3, ry, q3⟩ => thn (hop pins s3 σ H2 v y u w3 _ I3 ru ry q3) fun w4 s4 ⟨z, H3, I4, rz, dx', fs', ea', l', q4⟩ => ?_
  exact setattr_ok I4 ea' c n l' rz fun s5 I5 => ⟨σ, _, I5, q4⟩
def rAdd : V → V → Hp → VK → Prop := fun x y H Q => ∃ i j, x = .int i ∧ y = .int j ∧ Q (.int (i + j)) H
def rSub : V → V → Hp → VK → Prop := fun x y H Q => ∃ i j, x = .int i ∧ y = .int j ∧ Q (.int (i - j)) H
theorem in_add : InOp X .Add rAdd := by
  rintro pins s σ H x y u v Q I rx ry ⟨i, j, rfl, rfl, q⟩
  obtain ⟨t, rfl⟩ := (show ∃ t, u = Value.int i t from rx)
  obtain ⟨t', rfl⟩ := (show ∃ t', v = Value.int j t' from ry)
  exact PyProof.Rows.iadd_int ⟨.int (i + j), H, I.tok _, ⟨_, rfl⟩, q⟩
theorem in_sub : InOp X .Sub rSub := by
  rintro pins s σ H x y u v Q I rx ry ⟨i, j, rfl, rfl, q⟩
  obtain ⟨t, rfl⟩ := (show ∃ t, u = Value.int i t from rx)
  obtain ⟨t', rfl⟩ := (show ∃ t', v = Value.int j t' from ry)
  exact PyProof.Rows.isub_int ⟨.int (i - j), H, I.tok _, ⟨_, rfl⟩, q⟩

/-- what is between an instance and its method: the tree of a method call -/
theorem methcall_of {pl : Sem Bool} {m : Str} {apos : Pos} {args : List Expr} {pins : List (Addr × Obj)} {s : Shared} {σ : St} {H : Hp} {Q : Value → Shared → Prop} {te : TE} (he : PE X e te) (I : Inv X pins σ H s)
    (h : te σ H fun x H1 => ∃ a C dx fs g, x = .ref a ∧ H1 a = some (.ins C dx fs) ∧ Cls X.K C ∧ Meth X.K C m g ∧ fs.lookup m = none ∧
      ∀ s1, Inv X pins σ H1 s1 → wpAny (model X.prog X.w) X.A (callWith pos (.ref g) [.ref a] (backTo pos (starEach args X.env)) (backToKw pos (keywordEach [] X.env))) Q X.xe s1)
    (ht : eval (.Call (.Attribute e m apos) args [] pos) X.env = (do
      let ov ← eval e X.env
      standAt apos.atName
      let (f, first) ← holding [ov] (getMethod ov m pl)
      callWith pos f first (backTo pos (starEach args X.env)) (backToKw pos (keywordEach [] X.env)))) :
    wpAny (model X.prog X.w) X.A (eval (.Call (.Attribute e m apos) args [] pos) X.env) Q X.xe s := by
  refine PySem.W.methodCall_KW (pl := pl) (thn (he pins s σ H _ I h) fun u s1 ⟨x, H1, I1, rx, a, C, dx, fs, g, ex, ea, c, k, l, q⟩ => ?_) ht
  subst ex
  obtain rfl : u = Value.ref a := rx
  exact getmeth_ok I1 ea c k l (q s1 I1)
end

/-! ### isinstance -/
section
variable {X : Cx} {pins : List (Addr × Obj)} {σ : St} {H : Hp} {s : Shared} {A : Around} {E : Value → Shared → Prop} {Q : Value → Shared → Prop} {c : Value} {b : Bool}
/-- the type of a value, as the fragment's deciders take it; for an instance its class -/
inductive TyOf (K : PySem.W.Frag) (H : Hp) : V → Value → Prop where
  | non : TyOf K H .non (.type "NoneType")
  | bl (x : Bool) : TyOf K H (.bl x) (.type "bool")
  | int (i : Int) : TyOf K H (.int i) (.type "int")
  | str (x : Str) : TyOf K H (.str x) (.type "str")
  | flt (x : UInt64) : TyOf K H (.flt x) (.type "float")
  | lst {a : Addr} {xs : List V} (e : H a = some (.lst xs)) : TyOf K H (.ref a) (.type "list")
  | frz {a : Addr} {o : Obj} {xs : List V} (e : H a = some (.frz o (.lst xs))) : TyOf K H (.ref a) (.type "list")
  | tup {a : Addr} {xs : List V} (e : H a = some (.tup xs)) : TyOf K H (.ref a) (.type "tuple")
  | dK {a : Addr} {kvs : List (Key × V)} (e : H a = some (.dK kvs)) : TyOf K H (.ref a) (.type "dict")
  | dT {a : Addr} {kvs : List (List Key × V)} (e : H a = some (.dT kvs)) : TyOf K H (.ref a) (.type "dict")
  | ins {a C dx : Addr} {fs : List (Str × V)} (e : H a = some (.ins C dx fs)) (cl : Cls K C) (ha : PySem.W.findIn K (.ref C) "__class__" = some (some (.builtin "object.__class__")))
      (hn : PySem.W.specialIn K (.builtin "object.__class__") "__get__" = some (some (.builtin "getset_descriptor.__get__"))) (htk : PySem.W.takesIn K (.builtin "object.__class__") = some true)
      (hm : PySem.W.mroIn K C (.type "object") = some true) : TyOf K H (.ref a) (.ref C)
/-- isinstance(x, c) for one class c, a built-in or an own one: kitOne's answer -/
theorem isinst_ok {x : V} {u t : Value} (I : Inv X pins σ H s) (rx : RelV x u) (ty : TyOf X.K H x t) (e : PySem.W.kitOne X.K t c = some b) (h : ∀ tk, Q (.bool b) { s with toks := tk }) :
    wpAny (model X.prog X.w) A (call (.builtin "isinstance") [u, c]) Q E s := by
  cases ty with
  | non => cases (show u = Value.none from rx); exact PySem.W.kia_one PySem.W.kitx_none I.kIn True.intro e (fun z => nomatch z) h
  | bl y => cases (show u = Value.bool y from rx); exact PySem.W.kia_one PySem.W.kitx_bool I.kIn True.intro e (fun z => nomatch z) h
  | int i => obtain ⟨t, q⟩ := (show ∃ t, u = Value.int i t from rx); cases q; exact PySem.W.kia_one PySem.W.kitx_int I.kIn True.intro e (fun z => nomatch z) h
  | str y => obtain ⟨t, q⟩ := (show ∃ t, u = Value.str y t from rx); cases q; exact PySem.W.kia_one PySem.W.kitx_str I.kIn True.intro e (fun z => nomatch z) h
  | flt y => obtain ⟨t, q⟩ := (show ∃ t, u = Value.float y t from rx); cases q; exact PySem.W.kia_one PySem.W.kitx_float I.kIn True.intro e (fun z => nomatch z) h
  | @lst a xs ea =>
    cases (show u = Value.ref a from rx)
    obtain ⟨_, _, n, _, h1⟩ := (show ObjOk X.prog X.w H s.heap a (.lst xs) from I.hok a _ ea)
    exact PySem.W.kia_one PySem.W.kitx_list I.kIn ⟨_, h1, rfl⟩ e (fun z => nomatch z) h
  | @frz a ob xs ea =>
    cases (show u = Value.ref a from rx)
    obtain ⟨_, _, _, n, _, h1⟩ := (show ObjOk X.prog X.w H s.heap a (.frz ob (.lst xs)) from I.hok a _ ea)
    exact PySem.W.kia_one PySem.W.kitx_list I.kIn ⟨_, h1, rfl⟩ e (fun z => nomatch z) h
  | @tup a xs ea =>
    cases (show u = Value.ref a from rx)
    obtain ⟨_, _, _, p⟩ := (show ObjOk X.prog X.w H s.heap a (.tup xs) from I.hok a _ ea)
    obtain ⟨o, h1, h2, _⟩ := p
    exact PySem.W.kia_one PySem.W.kitx_tuple I.kIn ⟨o, h1, h2⟩ e (fun z => nomatch z) h
  | @dK a kvs ea =>
    cases (show u = Value.ref a from rx)
    obtain ⟨_, _, vs, _, p⟩ := (show ObjOk X.prog X.w H s.heap a (.dK kvs) from I.hok a _ ea)
    obtain ⟨o, es, ep, h1, h2, _⟩ := p
    exact PySem.W.kia_one PySem.W.kitx_dict I.kIn ⟨o, h1, h2.1⟩ e (fun z => nomatch z) h
  | @dT a kvs ea =>
    cases (show u = Value.ref a from rx)
    obtain ⟨_, _, xs, _, o, es, ep, h1, h2, _⟩ := (show ObjOk X.prog X.w H s.heap a (.dT kvs) from I.hok a _ ea)
    exact PySem.W.kia_one PySem.W.kitx_dict I.kIn ⟨o, h1, h2.1⟩ e (fun z => nomatch z) h
  | @ins a C dx fs ea cl ha hn htk hm =>
    cases (show u = Value.ref a from rx)
    obtain ⟨mA, O, _⟩ := ins_get I.hok ea
    obtain ⟨od, J, _⟩ := O.look
    exact PySem.W.kia_one (PySem.W.kitx_own (cl.get _) cl.hd ha hn htk hm) I.kIn J e (fun z => nomatch z) h
end
end L2

namespace L2
open PySem PySem.Spec PyProof.Rows

/-! ### room -/
structure Room (k : Nat) (A : Around) : Prop where
  hd : A.handled = none
  dp : A.depth + 3 * k + 5 < recursionLimit
  un : A.units + 16 * k + 200 < cLine
theorem Room.mono {j k : Nat} {A : Around} (r : Room k A) (h : j ≤ k) : Room j A := ⟨r.hd, by have := r.dp; omega, by have := r.un; omega⟩
theorem Room.deeper {k : Nat} {A : Around} (r : Room (k + 1) A) (env : Env) : Room k (A.deeper env) :=
  ⟨r.hd, by have := r.dp; show A.depth + 1 + 3 * k + 5 < _; omega, by have := r.un; show A.units + 3 + 16 * k + 200 < _; omega⟩
theorem Room.in1 {k : Nat} {A : Around} (r : Room (k + 1) A) : Room k A.in1 :=
  ⟨r.hd, by have := r.dp; show A.depth + 3 * k + 5 < _; omega, by have := r.un; show A.units + 1 + 16 * k + 200 < _; omega⟩
theorem make_depth {A : Around} {C : Addr} {us : List Value} {kw : List (Str × Value)} : (A.under (.builtin "type.__call__" ⟨.ref C :: us, kw⟩)).depth = A.depth + 1 := by
  first | rfl | simp [Around.under, Code.weight, Code.isCreation, Code.isGuard, Code.isCaller, Code.frames, Code.isFrame, guardIds]
theorem make_units {A : Around} {C : Addr} {us : List Value} {kw : List (Str × Value)} : (A.under (.builtin "type.__call__" ⟨.ref C :: us, kw⟩)).units = A.units + 1 := by
  first | rfl | simp [Around.under, Code.cUnits, Code.frames, Code.isFrame]
theorem Room.make {k : Nat} {A : Around} (r : Room (k + 1) A) (C : Addr) (us : List Value) (kw : List (Str × Value)) : Room k (A.under (.builtin "type.__call__" ⟨.ref C :: us, kw⟩)) :=
  ⟨r.hd, by have := r.dp; rw [make_depth]; omega, by have := r.un; rw [make_units]; omega⟩
theorem Room.depth {k : Nat} {A : Around} (r : Room k A) : A.depth < recursionLimit := by have := r.dp; omega
theorem Room.units {k : Nat} {A : Around} (r : Room k A) : A.units + 64 < cLine := by have := r.un; omega
theorem Room.units0 {k : Nat} {A : Around} (r : Room k A) : A.units < cLine := by have := r.un; omega

/-! ### argument lists and displays -/
def tNil : TA := fun _ H Q => Q [] H
def tCons (ta : TE) (tr : TA) : TA := fun σ H Q => ta σ H fun x H1 => tr σ H1 fun xs H2 => Q (x :: xs) H2
section
variable {X : Cx} {e : Expr} {es : List Expr} {te : TE} {t : TA} {pos : Pos}
theorem pa_nil : PA X [] tNil := fun _ _ _ _ H Q I h => Calls.spliced_nil ⟨[], H, I, .nil, h⟩
theorem pa_cons (ha : PE X e te) (hr : PA X es t) (hs : starEach (e :: es) X.env = (false, eval e X.env) :: starEach es X.env := by rfl) : PA X (e :: es) (tCons te t) := by
  intro pos pins s σ H Q I h
  rw [hs]
  show wpAny _ _ (spliced ((false, eval e X.env) :: backTo pos (starEach es X.env))) _ _ s
  refine Calls.spliced_cons (thn (ha pins s σ H _ I h) fun u s1 ⟨x, H1, I1, r1, q1⟩ => ?_)
  exact thn (hr pos pins s1 σ H1 _ I1 q1) fun us s2 ⟨xs, H2, I2, r2, q2⟩ => ⟨x :: xs, H2, I2, .cons r1 r2, q2⟩

/-- a tuple, a list of written items -/
def tTup (t : TA) : TE := fun σ H Q => t σ H fun xs H1 => xs.length ≤ sizeLine ∧ ∀ p, H1 p = none → Q (.ref p) (upd H1 p (.tup xs))
def tLst (t : TA) : TE := fun σ H Q => t σ H fun xs H1 => xs.length ≤ sizeLine ∧ ∀ p, H1 p = none → Q (.ref p) (upd H1 p (.lst xs))
theorem pe_tup {x1} (h : PA X es t) : PE X (.Tuple es x1 pos) (tTup t) := by
  intro pins s σ H Q I hq
  refine wpAny_Tuple_spliced (thn (h pos pins s σ H _ I hq) fun us s1 ⟨xs, H1, I1, r, z, q⟩ => ⟨by rw [← r.length]; exact z, ?_⟩)
  have hf : H1 s1.heap.objs.size = none := I1.hok.fresh (Nat.le_refl _)
  refine ⟨.ref s1.heap.objs.size, upd H1 s1.heap.objs.size (.tup xs), I1.laid (t' := s1.toks) (fun b u e => Heap.get?_push_of_some _ e) (Nat.le_refl _) ?_, rfl, q _ hf⟩
  exact ⟨z, us, r, ⟨_, Heap.get?_push_size _ rfl, rfl, _, rfl⟩⟩
theorem pe_lst (h : PA X es t) : PE X (.List es pos) (tLst t) := by
  intro pins s σ H Q I hq
  refine wpAny_List_spliced (thn (h pos pins s σ H _ I hq) fun us s1 ⟨xs, H1, I1, r, z, q⟩ => ⟨by rw [← r.length]; exact z, ?_⟩)
  have hf : H1 s1.heap.objs.size = none := I1.hok.fresh (Nat.le_refl _)
  refine ⟨.ref s1.heap.objs.size, upd H1 s1.heap.objs.size (.lst xs), I1.laid (t' := s1.toks) (fun b u e => Heap.get?_push_of_some _ e) (Nat.le_refl _) ?_, rfl, q _ hf⟩
  exact ⟨z, us, 0, r, Heap.get?_push_size _ rfl⟩
end

/-! ### what a def promises -/
/-- a def's promise: the bound arguments in the parameters' order, the heap, the wanted end, the wanted exception -/
abbrev Sp := List V → Hp → VK → XK → Prop
/-- how an exception lies behind a call (file 08 gives it): the callers' frames, abstract heap and state ahead of the call, the wish, the exception, the state -/
abbrev CXT := List Env → Hp → Shared → XK → Value → Shared → Prop

/-- the state at a call -/
structure Env0 (P : Program) (w : World) (K : PySem.W.Frag) (mg : Str → Option Value) (base : Heap) (A : Around) (outer : List Env) (s : Shared) (H : Hp) : Prop where
  frames : A.frames = some outer
  mod : Mod K mg base
  bs : ∀ b o, base.get? b = some o → s.heap.get? b = some o ∧ H b = none
  bsz : base.objs.size ≤ s.heap.objs.size
  funs : s.heap.FunFrames base outer
  frf : ∀ b ∈ frs outer, H b = none
  hok : HOk P w H s.heap
  bare : AllBare s.gens
/-- a call's end -/
def CE (outer : List Env) (P : Program) (w : World) (H : Hp) (s : Shared) (Q : VK) (u : Value) (s' : Shared) : Prop :=
  ∃ v H', s'.os = s.os ∧ AllBare s'.gens ∧ Un (frs outer) [] H H' s.heap s'.heap ∧ HOk P w H' s'.heap ∧ RelV v u ∧ Q v H'
def CR (CX : CXT) (outer : List Env) (P : Program) (w : World) (H : Hp) (s : Shared) (Q : VK) (E : XK) (r : Result) (s' : Shared) : Prop :=
  match r with
  | .ok (.ret u) => CE outer P w H s Q u s'
  | .ok _ => False
  | .error e => CX outer H s E e s'
structure FnOk (P : Program) (w : World) (K : PySem.W.Frag) (mg : Str → Option Value) (base : Heap) (CX : CXT) (k : Nat) (f : Addr) (fd : FuncData) (ps : List Str) (sp : Sp) : Prop where
  len : ∀ vs H Q E, sp vs H Q E → vs.length = ps.length
  run : ∀ (A : Around) (outer : List Env) (s : Shared) (H : Hp) (args : Args) (us : List Value) (vs : List V) (Q : VK) (E : XK), Room k A → Env0 P w K mg base A outer s H → BindsTo s fd args (ps.zip us) → Vals vs us → sp vs H Q E →
    codeAny (model P w) A (.call (.ref f) args) (CR CX outer P w H s Q E) s
theorem FnOk.mono {P : Program} {w : World} {K : PySem.W.Frag} {mg : Str → Option Value} {base : Heap} {CX : CXT} {j k : Nat} {f : Addr} {fd : FuncData} {ps : List Str} {sp : Sp} (F : FnOk P w K mg base CX j f fd ps sp) (h : j ≤ k) :
    FnOk P w K mg base CX k f fd ps sp := ⟨F.len, fun A outer s H args us vs Q E hr => F.run A outer s H args us vs Q E (hr.mono h)⟩
/-- a weaker promise -/
theorem FnOk.imp {P : Program} {w : World} {K : PySem.W.Frag} {mg : Str → Option Value} {base : Heap} {CX : CXT} {k : Nat} {f : Addr} {fd : FuncData} {ps : List Str} {sp sp' : Sp} (F : FnOk P w K mg base CX k f fd ps sp)
    (h : ∀ vs H Q E, sp' vs H Q E → sp vs H Q E) : FnOk P w K mg base CX k f fd ps sp' :=
  ⟨fun vs H Q E q => F.len vs H Q E (h _ _ _ _ q), fun A outer s H args us vs Q E hr he hb hv hs => F.run A outer s H args us vs Q E hr he hb hv (h _ _ _ _ hs)⟩

theorem Env0.make {P : Program} {w : World} {K : PySem.W.Frag} {mg : Str → Option Value} {base : Heap} {A : Around} {outer : List Env} {s : Shared} {H : Hp} (e : Env0 P w K mg base A outer s H) (C : Addr) (us : List Value) (kw : List (Str × Value)) :
    Env0 P w K mg base (A.under (.builtin "type.__call__" ⟨.ref C :: us, kw⟩)) outer s H := ⟨by first | exact e.frames | (simpa [Around.under, Code.envs, Code.isFrame, pushEnvs] using e.frames), e.mod, e.bs, e.bsz, e.funs, e.frf, e.hok, e.bare⟩
theorem Env0.in1 {P : Program} {w : World} {K : PySem.W.Frag} {mg : Str → Option Value} {base : Heap} {A : Around} {outer : List Env} {s : Shared} {H : Hp} (e : Env0 P w K mg base A outer s H) :
    Env0 P w K mg base A.in1 outer s H := ⟨e.frames, e.mod, e.bs, e.bsz, e.funs, e.frf, e.hok, e.bare⟩

section
variable {X : Cx} {pins : List (Addr × Obj)} {σ : St} {H : Hp} {s s' : Shared}
/-- from a body: what a callee wants -/
theorem Inv.env0 (I : Inv X pins σ H s) : Env0 X.prog X.w X.K X.mg X.base X.A X.stack s H :=
  ⟨I.ok.frames, I.ok.mod, I.bs, Nat.le_trans I.ok.bsz I.sz, I.stack, I.stkFree, I.hok, I.bare⟩
/-- behind a call -/
theorem Inv.after {Q : VK} {u : Value} (I : Inv X pins σ H s) (h : CE X.stack X.prog X.w H s Q u s') : EP X pins σ Q u s' := by
  obtain ⟨v, H', os, bare, un, hok, r, q⟩ := h
  obtain ⟨hh, g, d, t, os'⟩ := s'
  obtain rfl : os' = s.os := os
  exact ⟨v, H', I.call (h' := hh) (g' := g) (d' := d) (t' := t) (ch := []) un hok bare (fun b z => absurd z (by simp)), r, q⟩
end

/-! ### calls -/
/-- f(..): the written arguments, then the defaults dvs; E: what is wanted of an exception -/
def tCall (sp : Sp) (dvs : List V) (E : XK) (t : TA) : TE := fun σ H Q => t σ H fun vs H1 => sp (vs ++ dvs) H1 Q E
/-- o.m(..) of an instance of the class at C -/
def tMeth (C : Addr) (m : Str) (sp : Sp) (dvs : List V) (E : XK) (ta : TE) (t : TA) : TE := fun σ H Q => ta σ H fun x H1 => ∃ a dx fs, x = .ref a ∧ H1 a = some (.ins C dx fs) ∧ fs.lookup m = none ∧
  t σ H1 fun vs H2 => sp (x :: (vs ++ dvs)) H2 Q E
/-- C(..): a new instance and its dict, then __init__ -/
def tMake (C : Addr) (sp : Sp) (dvs : List V) (E : XK) (t : TA) : TE := fun σ H Q => t σ H fun vs H1 => ∀ x dx, H1 x = none → H1 dx = none → dx ≠ x →
  sp (.ref x :: (vs ++ dvs)) (upd (upd H1 dx (.own x)) x (.ins C dx [])) (fun v H2 => v = .non ∧ Q (.ref x) H2) E

/-- how the parameters are bound: us the positional arguments, kw the keywords' values by name, ds the defaults that fill up -/
def Binds (K : PySem.W.Frag) (fd : FuncData) (ps : List Str) (ds : List Value) : Prop :=
  ∀ (s : Shared) (us : List Value), K.In s.heap → (us ++ ds).length = ps.length → BindsTo s fd ⟨us, []⟩ (ps.zip (us ++ ds))
/-- every parameter is given -/
theorem Binds.all {K : PySem.W.Frag} {fd : FuncData} {ps : List Str} (h : ∀ us : List Value, us.length = ps.length → bindArgs fd ⟨us, []⟩ = pure (ps.zip us)) : Binds K fd ps [] := fun s us _ hl => by
  rw [List.append_nil] at hl ⊢
  exact .of_eq (h us hl)

/-- an exception of a callee reaches what this body wants of exceptions -/
def Passes (CX : CXT) (X : Cx) (E : XK) : Prop := ∀ (pins : List (Addr × Obj)) (σ : St) (H : Hp) (s : Shared) (e : Value) (s' : Shared), Inv X pins σ H s → CX X.stack H s E e s' → X.xe e s'

section
variable {X : Cx} {CX : CXT} {k : Nat} {f C : Addr} {fd : FuncData} {ps : List Str} {sp : Sp} {dvs : List V} {ds : List Value} {E : XK} {x m : Str} {p pos apos : Pos} {e o : Expr} {es : List Expr} {ta : TE} {t : TA}

/-- the callee runs -/
theorem run_fn {pins : List (Addr × Obj)} {σ : St} {H : Hp} {s : Shared} {Q : VK} {us : List Value} {vs : List V} (F : FnOk X.prog X.w X.K X.mg X.base CX k f fd ps sp) (hr : Room k X.A) (hb : Binds X.K fd ps ds) (hd : Vals dvs ds) (hx : Passes CX X E)
    (I : Inv X pins σ H s) (r : Vals vs us) (h : sp (vs ++ dvs) H Q E) : wpAny (model X.prog X.w) X.A (call (.ref f) us) (EP X pins σ Q) X.xe s := by
  have r2 : Vals (vs ++ dvs) (us ++ ds) := r.append hd
  have hl : (us ++ ds).length = ps.length := by rw [← r2.length]; exact F.len _ _ _ _ h
  refine wpAny_call (codeAny_mono (F.run X.A X.stack s H ⟨us, []⟩ (us ++ ds) (vs ++ dvs) Q E hr I.env0 (hb s us I.kIn hl) r2 h) fun r s' hq => ?_)
  cases r with
  | error e => exact hx pins σ H s e s' I hq
  | ok fl =>
    cases fl with
    | ret u => exact I.after hq
    | next => exact False.elim hq
    | brk => exact False.elim hq
    | cont => exact False.elim hq

theorem pe_call (F : FnOk X.prog X.w X.K X.mg X.base CX k f fd ps sp) (hr : Room k X.A) (hg : Gl X x) (hm : X.mg x = some (.ref f)) (hk : PySem.W.keepIn X.K (.ref f) = true) (hb : Binds X.K fd ps ds) (hd : Vals dvs ds) (hx : Passes CX X E)
    (ha : PA X (e :: es) t) (hdb : (x == ("__debug__" : Str)) = false := by decide) (he : starEach (e :: es) X.env = (false, eval e X.env) :: starEach es X.env := by rfl) (hpl : (backTo pos (starEach es X.env)).any (·.1) = false := by rfl) :
    PE X (.Call (.Name x p) (e :: es) [] pos) (tCall sp dvs E t) := by
  intro pins s σ H Q I h
  refine wpAny_Call_Name_kw (ld_glob I hg hm ?_ hdb)
  refine PySem.W.callWith_K (h₀ := X.base) I.ok.mod.kin hk (thn (ha pos pins s σ H _ I h) fun us s1 ⟨vs, H1, I1, r, q⟩ => ⟨I1.kIn, ?_⟩) he hpl
  exact run_fn F hr hb hd hx I1 r q
theorem pe_call0 (F : FnOk X.prog X.w X.K X.mg X.base CX k f fd ps sp) (hr : Room k X.A) (hg : Gl X x) (hm : X.mg x = some (.ref f)) (hk : PySem.W.keepIn X.K (.ref f) = true) (hb : Binds X.K fd ps ds) (hd : Vals dvs ds) (hx : Passes CX X E)
    (hdb : (x == ("__debug__" : Str)) = false := by decide) : PE X (.Call (.Name x p) [] [] pos) (tCall sp dvs E tNil) := by
  intro pins s σ H Q I h
  refine wpAny_Call_Name_kw (ld_glob I hg hm ?_ hdb)
  exact PySem.W.callWith_K0 I.kIn hk (run_fn (us := []) F hr hb hd hx I .nil h)

/-- o.m(e, ..) -/
theorem pe_meth {pl : Sem Bool} (he : PE X o ta) (c : Cls X.K C) (hm : Meth X.K C m f) (F : FnOk X.prog X.w X.K X.mg X.base CX k f fd ps sp) (hr : Room k X.A) (hb : Binds X.K fd ps ds) (hd : Vals dvs ds) (hx : Passes CX X E) (ha : PA X (e :: es) t)
    (hst : starEach (e :: es) X.env = (false, eval e X.env) :: starEach es X.env := by rfl) (hpl : (backTo pos (starEach es X.env)).any (·.1) = false := by rfl)
    (ht : eval (.Call (.Attribute o m apos) (e :: es) [] pos) X.env = (do
      let ov ← eval o X.env
      standAt apos.atName
      let (f, first) ← holding [ov] (getMethod ov m pl)
      callWith pos f first (backTo pos (starEach (e :: es) X.env)) (backToKw pos (keywordEach [] X.env))) := by rfl) :
    PE X (.Call (.Attribute o m apos) (e :: es) [] pos) (tMeth C m sp dvs E ta t) := by
  intro pins s σ H Q I h
  refine PySem.W.methodCall_KW (pl := pl) (thn (he pins s σ H _ I h) fun u s1 ⟨x, H1, I1, rx, a, dx, fs, ex, ea, l, q⟩ => ?_) ht
  subst ex
  obtain rfl : u = Value.ref a := rx
  refine getmeth_ok I1 ea c hm l ?_
  refine PySem.W.callWith_K (first := [.ref a]) (h₀ := X.base) I.ok.mod.kin hm.kp (thn (ha pos pins s1 σ H1 _ I1 q) fun us s2 ⟨vs, H2, I2, r, q2⟩ => ⟨I2.kIn, ?_⟩) hst hpl
  exact run_fn (us := .ref a :: us) (vs := .ref a :: vs) F hr hb hd hx I2 (.cons rfl r) q2
/-- o.m() -/
theorem pe_meth0 {pl : Sem Bool} (he : PE X o ta) (c : Cls X.K C) (hm : Meth X.K C m f) (F : FnOk X.prog X.w X.K X.mg X.base CX k f fd ps sp) (hr : Room k X.A) (hb : Binds X.K fd ps ds) (hd : Vals dvs ds) (hx : Passes CX X E)
    (ht : eval (.Call (.Attribute o m apos) [] [] pos) X.env = (do
      let ov ← eval o X.env
      standAt apos.atName
      let (f, first) ← holding [ov] (getMethod ov m pl)
      callWith pos f first (backTo pos (starEach [] X.env)) (backToKw pos (keywordEach [] X.env))) := by rfl) :
    PE X (.Call (.Attribute o m apos) [] [] pos) (tMeth C m sp dvs E ta tNil) := by
  intro pins s σ H Q I h
  refine PySem.W.methodCall_KW (pl := pl) (thn (he pins s σ H _ I h) fun u s1 ⟨x, H1, I1, rx, a, dx, fs, ex, ea, l, q⟩ => ?_) ht
  subst ex
  obtain rfl : u = Value.ref a := rx
  refine getmeth_ok I1 ea c hm l ?_
  exact PySem.W.callWith_K0 (first := [.ref a]) I1.kIn hm.kp (run_fn (us := [.ref a]) (vs := [.ref a]) F hr hb hd hx I1 (.cons rfl .nil) q)

/-- what a class must have to be made -/
structure Mk (K : PySem.W.Frag) (C f : Addr) : Prop where
  makes : PySem.W.makesIn K C = true
  init : PySem.W.findIn K (.ref C) "__init__" = some (some (.ref f))
  fn : PySem.W.isFn K (.ref f) = true
  kp : PySem.W.keepIn K (.ref C) = true

theorem run_make {pins : List (Addr × Obj)} {σ : St} {H : Hp} {s : Shared} {Q : VK} {us : List Value} {vs : List V} (M : Mk X.K C f) (F : FnOk X.prog X.w X.K X.mg X.base CX k f fd ps sp) (hr : Room (k + 1) X.A) (hb : Binds X.K fd ps ds) (hd : Vals dvs ds)
    (hx : Passes CX X E) (I : Inv X pins σ H s) (r : Vals vs us)
    (h : ∀ x dx, H x = none → H dx = none → dx ≠ x → sp (.ref x :: (vs ++ dvs)) (upd (upd H dx (.own x)) x (.ins C dx [])) (fun v H2 => v = .non ∧ Q (.ref x) H2) E) :
    wpAny (model X.prog X.w) X.A (call (.ref C) us) (EP X pins σ Q) X.xe s := by
  have hq := h (s.heap.objs.size + 1) s.heap.objs.size (I.hok.fresh (Nat.le_succ _)) (I.hok.fresh (Nat.le_refl _)) (Nat.ne_of_lt (Nat.lt_succ_self _))
  have I2 := Inv.made (C := C) I
  have r2 : Vals (V.ref (s.heap.objs.size + 1) :: (vs ++ dvs)) (Value.ref (s.heap.objs.size + 1) :: (us ++ ds)) := .cons rfl (r.append hd)
  have hl : (Value.ref (s.heap.objs.size + 1) :: us ++ ds).length = ps.length := by
    have e := r2.length
    rw [F.len _ _ _ _ hq] at e
    exact e.symm
  refine wpAny_call (make_map (f := f) I.kIn M.makes M.init (beq_iff_eq.mp M.fn) (codeAny_mono (F.run _ X.stack _ _ ⟨Value.ref (s.heap.objs.size + 1) :: us, []⟩ (Value.ref (s.heap.objs.size + 1) :: (us ++ ds)) _ _ E (hr.make C us [])
    (I2.env0.make C us []) (hb _ (Value.ref (s.heap.objs.size + 1) :: us) I2.kIn hl) r2 hq) fun r s' hq' => ?_))
  cases r with
  | error e => exact hx pins σ _ _ e s' I2 hq'
  | ok fl =>
    cases fl with
    | ret u =>
      obtain ⟨v, H', I3, rv, ev, q3⟩ := I2.after hq'
      subst ev
      exact ⟨rv, ⟨V.ref (s.heap.objs.size + 1), H', I3, rfl, q3⟩⟩
    | next => exact False.elim hq'
    | brk => exact False.elim hq'
    | cont => exact False.elim hq'
theorem pe_make (M : Mk X.K C f) (F : FnOk X.prog X.w X.K X.mg X.base CX k f fd ps sp) (hr : Room (k + 1) X.A) (hg : Gl X x) (hm : X.mg x = some (.ref C)) (hb : Binds X.K fd ps ds) (hd : Vals dvs ds) (hx : Passes CX X E)
    (ha : PA X (e :: es) t) (hdb : (x == ("__debug__" : Str)) = false := by decide) (he : starEach (e :: es) X.env = (false, eval e X.env) :: starEach es X.env := by rfl) (hpl : (backTo pos (starEach es X.env)).any (·.1) = false := by rfl) :
    PE X (.Call (.Name x p) (e :: es) [] pos) (tMake C sp dvs E t) := by
  intro pins s σ H Q I h
  refine wpAny_Call_Name_kw (ld_glob I hg hm ?_ hdb)
  refine PySem.W.callWith_K (h₀ := X.base) I.ok.mod.kin M.kp (thn (ha pos pins s σ H _ I h) fun us s1 ⟨vs, H1, I1, r, q⟩ => ⟨I1.kIn, ?_⟩) he hpl
  exact run_make M F hr hb hd hx I1 r q
theorem pe_make0 (M : Mk X.K C f) (F : FnOk X.prog X.w X.K X.mg X.base CX k f fd ps sp) (hr : Room (k + 1) X.A) (hg : Gl X x) (hm : X.mg x = some (.ref C)) (hb : Binds X.K fd ps ds) (hd : Vals dvs ds) (hx : Passes CX X E)
    (hdb : (x == ("__debug__" : Str)) = false := by decide) : PE X (.Call (.Name x p) [] [] pos) (tMake C sp dvs E tNil) := by
  intro pins s σ H Q I h
  refine wpAny_Call_Name_kw (ld_glob I hg hm ?_ hdb)
  exact PySem.W.callWith_K0 I.kIn M.kp (run_make (us := []) M F hr hb hd hx I .nil h)
end

/-! ### keywords -/
/-- the values of the keywords, from the left -/
def PK (X : Cx) (kws : List Keyword) (t : TA) : Prop :=
  ∀ (pos : Pos) (pins : List (Addr × Obj)) (s : Shared) (σ : St) (H : Hp) (Q : List V → Hp → Prop), Inv X pins σ H s → t σ H Q → wpAny (model X.prog X.w) X.A (evalAll ((backToKw pos (keywordEach kws X.env)).map (·.2))) (AP X pins σ Q) X.xe s
section
variable {X : Cx} {CX : CXT} {k : Nat} {f C : Addr} {fd : FuncData} {ps ks : List Str} {sp : Sp} {E : XK} {x m : Str} {p pos apos kpos : Pos} {e o : Expr} {es : List Expr} {kws : List Keyword} {te ta : TE} {t tk : TA} {nm : Option Str}
theorem pk_nil : PK X [] tNil := fun _ _ _ _ H Q I h => wpAny_evalAll_nil ⟨[], H, I, .nil, h⟩
theorem pk_cons (ha : PE X e te) (hr : PK X kws t) : PK X (⟨nm, e, kpos⟩ :: kws) (tCons te t) := by
  intro pos pins s σ H Q I h
  show wpAny _ _ (evalAll ((do let v ← eval e X.env; standAt pos; pure v) :: (backToKw pos (keywordEach kws X.env)).map (·.2))) _ _ s
  refine wpAny_evalAll_cons (wpAny_bind (thn (ha pins s σ H _ I h) fun u s1 ⟨x, H1, I1, r1, q1⟩ => wpAny_bind (wpAny_standAt (wpAny_pure ?_))))
  exact thn (hr pos pins s1 σ H1 _ I1 q1) fun us s2 ⟨xs, H2, I2, r2, q2⟩ => ⟨x :: xs, H2, I2, .cons r1 r2, q2⟩

/-- how a call with keywords binds: g puts the positional values us and the keywords' values ws (names ks) in the parameters' order, defaults among them -/
structure KBinds (K : PySem.W.Frag) (fd : FuncData) (ps ks : List Str) (g : List Value → List Value → List Value) (gV : List V → List V → List V) : Prop where
  to : ∀ (s : Shared) (us ws : List Value), K.In s.heap → (g us ws).length = ps.length → BindsTo s fd ⟨us, ks.zip ws⟩ (ps.zip (g us ws))
  rel : ∀ {vs : List V} {us : List Value} {zs : List V} {ws : List Value}, Vals vs us → Vals zs ws → Vals (gV vs zs) (g us ws)
def tCallK (sp : Sp) (gV : List V → List V → List V) (E : XK) (t tk : TA) : TE := fun σ H Q => t σ H fun vs H1 => tk σ H1 fun zs H2 => sp (gV vs zs) H2 Q E
variable {g : List Value → List Value → List Value} {gV : List V → List V → List V}
theorem run_fnk {pins : List (Addr × Obj)} {σ : St} {H : Hp} {s : Shared} {Q : VK} {us ws : List Value} {vs zs : List V} (F : FnOk X.prog X.w X.K X.mg X.base CX k f fd ps sp) (hr : Room k X.A) (hb : KBinds X.K fd ps ks g gV) (hx : Passes CX X E)
    (I : Inv X pins σ H s) (r : Vals vs us) (rz : Vals zs ws) (h : sp (gV vs zs) H Q E) : wpAny (model X.prog X.w) X.A (call (.ref f) us (ks.zip ws)) (EP X pins σ Q) X.xe s := by
  have r2 := hb.rel r rz
  have hl : (g us ws).length = ps.length := by rw [← r2.length]; exact F.len _ _ _ _ h
  refine wpAny_call (codeAny_mono (F.run X.A X.stack s H ⟨us, ks.zip ws⟩ (g us ws) (gV vs zs) Q E hr I.env0 (hb.to s us ws I.kIn hl) r2 h) fun r s' hq => ?_)
  cases r with
  | error e => exact hx pins σ H s e s' I hq
  | ok fl =>
    cases fl with
    | ret u => exact I.after hq
    | next => exact False.elim hq
    | brk => exact False.elim hq
    | cont => exact False.elim hq
/-- f(e, .., k = v, ..) -/
theorem pe_callK (F : FnOk X.prog X.w X.K X.mg X.base CX k f fd ps sp) (hr : Room k X.A) (hg : Gl X x) (hm : X.mg x = some (.ref f)) (hk : PySem.W.keepIn X.K (.ref f) = true) (hb : KBinds X.K fd ps ks g gV) (hx : Passes CX X E)
    (ha : PA X (e :: es) t) (hkw : PK X kws tk) (hall : (backToKw pos (keywordEach kws X.env)).all (·.1.isSome) = true := by rfl) (hks : (backToKw pos (keywordEach kws X.env)).filterMap (·.1) = ks := by rfl)
    (hdb : (x == ("__debug__" : Str)) = false := by decide) (he : starEach (e :: es) X.env = (false, eval e X.env) :: starEach es X.env := by rfl)
    (hpl : ((backTo pos (starEach (e :: es) X.env)).any (·.1) || (backToKw pos (keywordEach kws X.env)).any (·.1.isNone)) = false := by rfl) :
    PE X (.Call (.Name x p) (e :: es) kws pos) (tCallK sp gV E t tk) := by
  intro pins s σ H Q I h
  refine wpAny_Call_Name_kw (ld_glob I hg hm ?_ hdb)
  refine PySem.W.callWith_KW (h₀ := X.base) I.ok.mod.kin hk hall (thn (ha pos pins s σ H _ I h) fun us s1 ⟨vs, H1, I1, r, q⟩ => ?_) hpl he
  refine thn (hkw pos pins s1 σ H1 _ I1 q) fun ws s2 ⟨zs, H2, I2, rz, q2⟩ => ⟨I2.kIn, ?_⟩
  rw [hks]
  exact run_fnk F hr hb hx I2 r rz q2
end

/-! ### a def's body keeps its promise -/
/-- names: the parameters first -/
structure FnScope (N P : List Str) (sc : Scope) : Prop where
  kind : sc.kind = .function
  co : sc.isCoroutine = false
  gen : sc.isGenerator = false
  nd : N.Nodup
  pre : N.take P.length = P
  par : ∀ x ∈ P, sc.names.lookup x = some .local ∨ sc.names.lookup x = some .cell
  nofree : ∀ y ∈ sc.names, y.2 ≠ .free

theorem bindL_out {kindOf : Str → Option NameKind} {x : Str} : ∀ {binds : List (Str × Value)} {m : Str → Option Value}, (∀ v, (x, v) ∉ binds) → bindL kindOf binds m x = m x
  | [], _, _ => rfl
  | (n, v) :: r, m, h => by
    unfold bindL
    rw [bindL_out fun w hw => h w (List.mem_cons_of_mem _ hw)]
    split
    · have : x ≠ n := by rintro rfl; exact h v List.mem_cons_self
      simp [this]
    · rfl
theorem bindC_out {kindOf : Str → Option NameKind} {x : Str} : ∀ {binds : List (Str × Value)} {m : Str → Option Value}, (∀ v, (x, v) ∉ binds) → bindC kindOf binds m x = m x
  | [], _, _ => rfl
  | (n, v) :: r, m, h => by
    unfold bindC
    rw [bindC_out fun w hw => h w (List.mem_cons_of_mem _ hw)]
    split
    · rfl
    · have : x ≠ n := by rintro rfl; exact h v List.mem_cons_self
      simp [this]
theorem bindL_get {kindOf : Str → Option NameKind} {x : Str} {v : Value} : ∀ {P : List Str} {vs : List Value} {i : Nat} {m : Str → Option Value}, P.Nodup → P[i]? = some x → vs[i]? = some v → kindOf x = some .local →
    bindL kindOf (P.zip vs) m x = some v
  | [], _, _, _, _, h, _, _ => by simp at h
  | _ :: _, [], _, _, _, _, h, _ => by simp at h
  | p :: P, w :: vs, 0, m, nd, h1, h2, hk => by
    simp at h1 h2; subst h1; subst h2
    show bindL kindOf ((p, w) :: P.zip vs) m p = _
    unfold bindL
    rw [bindL_out fun v hv => (List.nodup_cons.mp nd).1 (List.of_mem_zip hv).1, if_pos hk]
    simp
  | p :: P, w :: vs, i + 1, m, nd, h1, h2, hk => by
    show bindL kindOf ((p, w) :: P.zip vs) m x = _
    unfold bindL
    exact bindL_get (i := i) (List.nodup_cons.mp nd).2 (by simpa using h1) (by simpa using h2) hk
theorem bindC_get {kindOf : Str → Option NameKind} {x : Str} {v : Value} : ∀ {P : List Str} {vs : List Value} {i : Nat} {m : Str → Option Value}, P.Nodup → P[i]? = some x → vs[i]? = some v → kindOf x ≠ some .local →
    bindC kindOf (P.zip vs) m x = some v
  | [], _, _, _, _, h, _, _ => by simp at h
  | _ :: _, [], _, _, _, _, h, _ => by simp at h
  | p :: P, w :: vs, 0, m, nd, h1, h2, hk => by
    simp at h1 h2; subst h1; subst h2
    show bindC kindOf ((p, w) :: P.zip vs) m p = _
    unfold bindC
    rw [bindC_out fun v hv => (List.nodup_cons.mp nd).1 (List.of_mem_zip hv).1, if_neg hk]
    simp
  | p :: P, w :: vs, i + 1, m, nd, h1, h2, hk => by
    show bindC kindOf ((p, w) :: P.zip vs) m x = _
    unfold bindC
    exact bindC_get (i := i) (List.nodup_cons.mp nd).2 (by simpa using h1) (by simpa using h2) hk

/-- the names' values at the entry -/
def start (N : List Str) (vs : List V) : St := vs.map some ++ List.replicate (N.length - vs.length) none

/-- the context of a def's body, at its entry; an exception leaves the frame, then lies as CX says -/
def cxOf (CX : CXT) (P : Program) (w : World) (K : PySem.W.Frag) (mg : Str → Option Value) (base : Heap) (N : List Str) (qual : Str) (scope : Scope) (f : Addr) (cd : Value) (A : Around) (outer : List Env) (s : Shared) (H : Hp) (E : XK) : Cx where
  prog := P
  w := w
  K := K
  mg := mg
  base := base
  A := A.deeper (envOfC qual scope s.heap.objs.size f cd)
  N := N
  s₀ := s
  H₀ := H
  env := envOfC qual scope s.heap.objs.size f cd
  outer := outer
  stack := envOfC qual scope s.heap.objs.size f cd :: outer
  ex := []
  calm := true
  fn := fun _ => true
  pn := []
  xe := fun e s' => wpAny (model P w) (A.deeper (envOfC qual scope s.heap.objs.size f cd)) (leaving (envOfC qual scope s.heap.objs.size f cd) e) (fun _ s'' => CX outer H s E e s'') (fun e' s'' => CX outer H s E e' s'') s'

theorem cell_has {sc : Scope} {n : Nat} {x : Str} (h : sc.names.lookup x = some .cell) : ∃ c, (cellsFrom n sc.names []).lookup x = some c := by
  have q := PySem.W.cellsFrom_some sc.names n [] (.inl h)
  exact Option.isSome_iff_exists.mp q

theorem inv_start {CX : CXT} {P : Program} {w : World} {K : PySem.W.Frag} {mg : Str → Option Value} {base : Heap} {N ps : List Str} {qual : Str} {scope : Scope} {f : Addr} {cd : Value} {A : Around} {outer : List Env} {s s1 : Shared} {H : Hp} {E : XK} {us : List Value} {vs : List V}
    (S : FnScope N ps scope) (hd : A.handled = none) (e0 : Env0 P w K mg base A outer s H) (hl : vs.length = ps.length) (r : Vals vs us)
    (x : InCallC s s.heap.objs.size (bindL (envOfC qual scope s.heap.objs.size f cd).kindOf (ps.zip us) fun _ => none) (cellsFrom (s.heap.objs.size + 1) scope.names []) (bindC (envOfC qual scope s.heap.objs.size f cd).kindOf (ps.zip us) fun _ => none) s1) :
    Inv (cxOf CX P w K mg base N qual scope f cd A outer s H E) [] (start N vs) H s1 := by
  have hpl : ps.length ≤ N.length := by have := congrArg List.length S.pre; rw [List.length_take] at this; omega
  obtain ⟨h1, tk, rfl, hk⟩ := x.done
  have noA : ∀ b : Addr, b ∉ (cxOf CX P w K mg base N qual scope f cd A outer s H E).ex := fun b z => absurd (show b ∈ ([] : List Addr) from z) (by simp)
  refine ⟨⟨e0.mod, S.kind, rfl, rfl, Nat.le_refl _, fun y z c h1 h2 => ?_, fun y hy => ?_, fun y c _ h => ?_, fun _ => hd, Around.frames_deeper e0.frames, .inr ⟨rfl, rfl⟩, fun b z => absurd z (noA b), e0.bs, e0.bsz, fun b _ _ => noA b, fun b z => absurd z (noA b), e0.funs, e0.frf⟩,
    rfl, e0.bare, Un.kept hk, ⟨_, x.toInCall.ns, fun i y v h1 h2 h3 => ?_⟩, fun y c h => ⟨_, x.cell y c h⟩, e0.hok.fresh (Nat.le_refl _), fun y c h => ?_, fun p hp => absurd (show p ∈ ([] : List (Addr × Obj)) from hp) (by simp), e0.hok.kept hk, ?_⟩
  · exact name_of_addr x.apart (PySem.mem_of_lookup h1) (PySem.mem_of_lookup h2)
  · have hy : scope.names.lookup y = some .cell ∨ scope.names.lookup y = some .free := hy
    rcases hy with hy | hy
    · exact cell_has hy
    · exact absurd rfl (S.nofree _ (PySem.mem_of_lookup hy))
  · exact Nat.le_of_lt (x.above y c (PySem.mem_of_lookup h))
  · have hi : i < vs.length := by
      unfold start at h2
      by_cases hi : i < vs.length
      · exact hi
      · rw [List.getElem?_append_right (by simpa using hi)] at h2
        rw [List.getElem?_replicate] at h2
        split at h2 <;> cases h2
    have ha : vs[i]? = some v := by
      unfold start at h2
      rw [List.getElem?_append_left (by simpa using hi), List.getElem?_map] at h2
      cases e : vs[i]? with
      | none => rw [e] at h2; cases h2
      | some a => rw [e] at h2; cases h2; rfl
    obtain ⟨u, hu, rv⟩ := r.get ha
    have hp : ps[i]? = some y := by
      rw [← S.pre, List.getElem?_take_of_lt (by omega)]; exact h1
    have ndP : ps.Nodup := by rw [← S.pre]; exact S.nd.sublist (List.take_sublist _ _)
    refine ⟨u, rv, ?_⟩
    rcases S.par y (List.mem_of_getElem? hp) with k | k
    · exact .inl ⟨k, bindL_get ndP hp hu k⟩
    · obtain ⟨c, e⟩ := cell_has (n := s.heap.objs.size + 1) k
      refine .inr ⟨.inl k, c, e, ?_⟩
      have q := x.cell y c e
      rw [bindC_get ndP hp hu (by show scope.names.lookup y ≠ _; rw [k]; decide)] at q
      exact q
  · exact e0.hok.fresh (Nat.le_of_lt (x.above y c (PySem.mem_of_lookup h)))
  · unfold start
    show _ = N.length
    rw [List.length_append, List.length_map, List.length_replicate]
    omega

/-- THE RULE: a def (or a method) of the text, by its body. The body's reading t is chosen for each entry; it is run at the parameters' values -/
theorem fn_of {CX : CXT} {P : Program} {w : World} {K : PySem.W.Frag} {mg : Str → Option Value} {base : Heap} {k : Nat} {f : Addr} {name qual : Str} {params : Arguments} {body : List Stmt} {scope : Scope} {dV kV doc pm cdv ct oc : Value} {an od : Option Addr}
    {osl : Array (Option Value)} {N ps : List Str} {sp : Sp} (lk : K.lookup f = some ⟨oc, od, .func (PySem.W.fnOf name qual params body scope dV kV doc pm an cdv ct), osl⟩) (hcd : PySem.W.codeIn K cdv qual = true) (S : FnScope N ps scope)
    (len : ∀ vs H Q E, sp vs H Q E → vs.length = ps.length)
    (hbody : ∀ (A : Around) (outer : List Env) (s : Shared) (H : Hp) (vs : List V) (Q : VK) (E : XK), Room k (A.deeper (envOfC qual scope s.heap.objs.size f cdv)) → sp vs H Q E →
      ∃ t, PSs (cxOf CX P w K mg base N qual scope f cdv A outer s H E) body t ∧ t { nx := fun _ H' => Q .non H', rt := Q } (start N vs) H) :
    FnOk P w K mg base CX (k + 1) f (PySem.W.fnOf name qual params body scope dV kV doc pm an cdv ct) ps sp := by
  refine ⟨len, fun A outer s H args us vs Q E hr e0 hb r hsp => ?_⟩
  have hl := len _ _ _ _ hsp
  have KX : K.In s.heap := e0.mod.kin.keeps fun b o e => (e0.bs b o e).1
  have lim : s.heap.NoLimit := e0.mod.nolimit.keeps fun b o e => (e0.bs b o e).1
  have hkind : ∀ y ∈ ps.zip us, scope.names.lookup y.1 = some .local ∨ (scope.names.lookup y.1 = some .cell ∧ ((cellsFrom (s.heap.objs.size + 1) scope.names []).lookup y.1).isSome = true) := fun ⟨n, v⟩ hy => by
    rcases S.par n (List.of_mem_zip hy).1 with q | q
    · exact .inl q
    · exact .inr ⟨q, PySem.W.cellsFrom_some _ _ _ (.inl q)⟩
  refine codeAny_call_function hr.depth (KX _ _ lk) rfl S.co S.gen rfl (PySem.W.codeRec_of KX hcd) (hb _ _ _ _ ?_)
  refine wpAny_newFunctionEnv_cells S.kind hkind fun env he s1 x => ?_
  subst he
  refine ⟨lim.keeps x.toInCall.keep, codeAny_func ?_⟩
  obtain ⟨t, ht, hq⟩ := hbody A outer s H vs Q E (hr.deeper _) hsp
  have I : Inv (cxOf CX P w K mg base N qual scope f cdv A outer s H E) [] (start N vs) H s1 := inv_start S hr.hd e0 hl r x
  refine wpAny_mono (ht [] s1 (start N vs) H _ I hq) (fun fl s' hs => ?_) fun e s' hs => hs
  have fin : ∀ {σ' : St} {H' : Hp} {v : V} {u : Value}, Inv (cxOf CX P w K mg base N qual scope f cdv A outer s H E) [] σ' H' s' → RelV v u → Q v H' → CE outer P w H s Q u s' :=
    fun {σ' H' v u} J rv q => ⟨v, H', J.os, J.bare, J.base, J.hok, rv, q⟩
  cases fl with
  | ret u =>
    obtain ⟨v, σ', H', J, rv, q⟩ := hs
    exact fin J rv q
  | next =>
    obtain ⟨σ', H', J, q⟩ := hs
    exact fin (v := V.non) (u := Value.none) J rfl q
  | brk =>
    obtain ⟨_, _, _, q⟩ := hs
    exact False.elim q
  | cont =>
    obtain ⟨_, _, _, q⟩ := hs
    exact False.elim q
end L2

namespace L2
open PySem PySem.Spec PyProof.Rows
section
variable {X : Cx} {x : Str} {p pos : Pos} {e : Expr} {es : List Expr} {t : TA} {id T : String} {r : List V → Hp → VK → Prop}

def tCB (r : List V → Hp → VK → Prop) (t : TA) : TE := fun σ H Q => t σ H fun vs H1 => r vs H1 Q
/-- f(e, ..), f a built-in function -/
theorem pe_callB (hc : CallR X (.builtin id) r) (hg : Gl X x) (hm : X.mg x = none) (hv : bootBuiltins x = some (.builtin id)) (ha : PA X (e :: es) t) (hn : x ≠ "__name__" := by decide) (hdb : (x == ("__debug__" : Str)) = false := by decide)
    (he : starEach (e :: es) X.env = (false, eval e X.env) :: starEach es X.env := by rfl) (hpl : (backTo pos (starEach es X.env)).any (·.1) = false := by rfl) : PE X (.Call (.Name x p) (e :: es) [] pos) (tCB r t) := by
  intro pins s σ H Q I h
  refine wpAny_Call_Name_kw (ld_blt I hg hm hv ?_ hn hdb)
  exact PyProof.Rows.callWith_builtin1 (thn (ha pos pins s σ H _ I h) fun us s1 ⟨vs, H1, I1, r1, q1⟩ => hc pins s1 σ H1 vs us Q I1 r1 q1) he hpl
/-- T(e, ..), T a built-in type -/
theorem pe_callTy (hc : CallR X (.type T) r) (hg : Gl X x) (hm : X.mg x = none) (hv : bootBuiltins x = some (.type T)) (ha : PA X (e :: es) t) (hn : x ≠ "__name__" := by decide) (hdb : (x == ("__debug__" : Str)) = false := by decide)
    (he : starEach (e :: es) X.env = (false, eval e X.env) :: starEach es X.env := by rfl) (hpl : (backTo pos (starEach es X.env)).any (·.1) = false := by rfl) : PE X (.Call (.Name x p) (e :: es) [] pos) (tCB r t) := by
  intro pins s σ H Q I h
  refine wpAny_Call_Name_kw (ld_blt I hg hm hv ?_ hn hdb)
  exact PyProof.Rows.callWith_type1 (thn (ha pos pins s σ H _ I h) fun us s1 ⟨vs, H1, I1, r1, q1⟩ => hc pins s1 σ H1 vs us Q I1 r1 q1) he hpl
/-- T() -/
theorem pe_callTy0 (hc : CallR X (.type T) r) (hg : Gl X x) (hm : X.mg x = none) (hv : bootBuiltins x = some (.type T)) (hn : x ≠ "__name__" := by decide) (hdb : (x == ("__debug__" : Str)) = false := by decide) :
    PE X (.Call (.Name x p) [] [] pos) (tCB r tNil) := by
  intro pins s σ H Q I h
  refine wpAny_Call_Name_kw (ld_blt I hg hm hv ?_ hn hdb)
  exact PyProof.Rows.callWith_type0 (hc pins s σ H [] [] Q I .nil h)
end
end L2

namespace HT
open PySem PyProof.Rows

/-- t < u of tuples of ints -/
def lexLt : List Int → List Int → Bool
  | [], [] => false
  | [], _ :: _ => true
  | _ :: _, [] => false
  | x :: xs, y :: ys => if x = y then lexLt xs ys else decide (x < y)
theorem lexLt_cons (x y : Int) (xs ys : List Int) : lexLt (x :: xs) (y :: ys) = if x = y then lexLt xs ys else decide (x < y) := rfl
theorem lexLt_nil_nil : lexLt [] [] = false := rfl
theorem lexLt_nil_cons (y : Int) (ys : List Int) : lexLt [] (y :: ys) = true := rfl
theorem lexLt_cons_nil (x : Int) (xs : List Int) : lexLt (x :: xs) [] = false := rfl

theorem eqAt_int (A : Around) (s : Shared) (a : Int) (t : Tok) (c : Int) (u : Tok) : ∃ e, SeqAt.EqAt A s (.int a t) (.int c u) e ∧ (e = true ↔ a = c) :=
  ⟨(a == c), SeqAt.EqAt.int_int a t c u, by simp⟩
theorem rcLt_int (A : Around) (s : Shared) (a : Int) (t : Tok) (c : Int) (u : Tok) (prog : Program) (w : World) (E : Value → Shared → Prop) (Q : Value → Shared → Prop) (h : Q (.bool (decide (a < c))) s) :
    wpAny (model prog w) A (richCompare .Lt (.int a t) (.int c u)) Q E s :=
  (PyProof.Rows.lt_int h : wpAny (model prog w) A (compareOp .Lt (.int a t) (.int c u)) Q E s)

section
open PySem.SeqAt
open PySem.AutoSeq1 (wpAny_loadPart')
open PySem.MeetsSeq PySem.MeetsSeq2 PySem.MeetsSeq3

theorem tuple_lt_ints (l b : Addr) (items items2 : Array Value) (n n2 : Nat) (dd dd2 : Option Addr) (sl sl2 : Array (Option Value)) (ns ms : List Int) (hi : IntsAre items.toList ns) (hj : IntsAre items2.toList ms) :
    Meets (Builtin.«tuple.__lt__» ⟨[.ref l, .ref b], []⟩)
      (fun _ R s => s.heap.get? l = some { cls := .type "tuple", dict := dd, data := .seq items n, slots := sl } ∧ s.heap.get? b = some { cls := .type "tuple", dict := dd2, data := .seq items2 n2, slots := sl2 } ∧
        R (.ok (.ret (.bool (lexLt ns ms)))) s) :=
  .of_wp fun prog w A R s h => by
    obtain ⟨hp, g, d, tk, os⟩ := s; obtain ⟨hl, hb, h⟩ := h
    have f2 := AutoSeq1.sub_tuple_tuple
    have z1 : items.size = ns.length := by rw [← hi.length]; simp
    have z2 : items2.size = ms.length := by rw [← hj.length]; simp
    wp_walk using wpAny_loadPart' hl, wpAny_loadPart' hb, wpAny_forIn_list _ (fun rest b s' => b.1 = none ∧ s' = ⟨hp, g, d, tk, os⟩ ∧ ∃ (vs ws : List Value) (ns' ms' : List Int), rest = vs.zip ws ∧
      IntsAre vs ns' ∧ IntsAre ws ms' ∧ ns'.length + items2.size = ms'.length + items.size ∧ R (.ok (.ret (.bool (lexLt ns' ms')))) ⟨hp, g, d, tk, os⟩) _
    case turn =>
      rintro ⟨y, x⟩ rest b s' ⟨hb', rfl, vs, ws, ns', ms', hz, hvi, hwi, hlen, hR⟩
      cases hvi with
      | nil => rw [List.zip_nil_left] at hz; cases hz
      | cons a t hvi' =>
        cases hwi with
        | nil => rw [List.zip_nil_right] at hz; cases hz
        | cons c u hwi' =>
          rw [List.zip_cons_cons] at hz
          injection hz with hyx hrest
          injection hyx with hy hx
          subst hy hx
          rw [lexLt_cons] at hR
          simp only [List.length_cons] at hlen
          obtain ⟨e, he, hiff⟩ := eqAt_int A.in1 ⟨hp, g, d, tk, os⟩ a t c u
          refine wpAny_bind (he prog w _ _ ?_)
          cases e with
          | true =>
            rw [if_pos (hiff.mp rfl)] at hR
            wp_walk
            exact ⟨rfl, rfl, _, _, _, _, hrest, hvi', hwi', by omega, hR⟩
          | false =>
            rw [if_neg (fun q => absurd (hiff.mpr q) Bool.false_ne_true)] at hR
            have hri := rcLt_int A.in1 ⟨hp, g, d, tk, os⟩ a t c u prog w
            wp_walk using hri
            exact ⟨_, rfl, by simpa using hR⟩
    case fin =>
      rintro ⟨b1, b2⟩ s' ⟨hb', rfl, vs, ws, ns', ms', hz, hvi, hwi, hlen, hR⟩
      simp only at hb'
      subst hb'
      have hv : lexLt ns' ms' = decide (items.size < items2.size) := by
        cases hvi with
        | nil =>
          cases hwi with
          | nil =>
            simp only [List.length_nil] at hlen
            rw [lexLt_nil_nil]
            exact (decide_eq_false (by omega)).symm
          | cons c u hw =>
            simp only [List.length_nil, List.length_cons] at hlen
            rw [lexLt_nil_cons]
            exact (decide_eq_true (by omega)).symm
        | cons a t hv =>
          cases hwi with
          | nil =>
            simp only [List.length_nil, List.length_cons] at hlen
            rw [lexLt_cons_nil]
            exact (decide_eq_false (by omega)).symm
          | cons c u hw =>
            rw [List.zip_cons_cons] at hz
            cases hz
      rw [hv] at hR
      wp_walk
      exact ⟨_, rfl, by simpa [Builtin.Tuple.tupleCompareSizes] using hR⟩
    case h =>
      exact ⟨rfl, rfl, items.toList, items2.toList, ns, ms, rfl, hi, hj, by omega, h⟩
end

section
variable {prog : Program} {w : World} {A : Around} {E : Value → Shared → Prop} {s : Shared}

theorem lt_tupInts {l b : Addr} {items items2 : Array Value} {ns ms : List Int} {Q : Value → Shared → Prop} (hl : IsTup s.heap l items) (hb : IsTup s.heap b items2) (hi : IntsAre items.toList ns) (hj : IntsAre items2.toList ms)
    (hu : A.units < cLine) (h : Q (.bool (lexLt ns ms)) s) : wpAny (model prog w) A (compareOp .Lt (.ref l) (.ref b)) Q E s := by
  obtain ⟨⟨cls, dd, data, sl⟩, ho, hc, n, hd⟩ := id hl
  obtain ⟨⟨cls2, dd2, data2, sl2⟩, ho2, hc2, n2, hd2⟩ := id hb
  simp only at hc hd hc2 hd2
  subst hc hd hc2 hd2
  exact richCompare_meets_room (op := .Lt) ⟨_, ho, rfl⟩ ⟨_, ho2, rfl⟩ PySem.F.slot_tuple_lt PySem.F.entry_tuple_lt (PySem.F.args_tuple_lt_2 _ _) (tuple_lt_ints l b items items2 n n2 dd dd2 sl sl2 ns ms hi hj)
    ⟨ho, ho2, show Value.bool (lexLt ns ms) ≠ Value.notImplemented ∧ Q (.bool (lexLt ns ms)) s from ⟨(fun x => nomatch x), h⟩⟩ hu

/-- t + u, t not empty -/
theorem cat_tup {t b : Addr} {vs ws : List Value} {Q : Value → Shared → Prop} (ht : IsTup s.heap t vs.toArray) (hb : IsTup s.heap b ws.toArray) (hv : vs ≠ [])
    (h1 : ws = [] → Q (.ref t) s) (h2 : ws ≠ [] → Q (.ref s.heap.objs.size) { s with heap := s.heap.push { cls := .type "tuple", data := .seq (vs ++ ws).toArray } })
    (hsz : vs.length + ws.length ≤ sizeLine) : wpAny (model prog w) A (binaryOp .Add (.ref t) (.ref b)) Q E s := by
  obtain ⟨⟨cls, dd, data, sl⟩, ho, hc, n, hd⟩ := id ht
  obtain ⟨⟨cls2, dd2, data2, sl2⟩, ho2, hc2, n2, hd2⟩ := id hb
  simp only at hc hd hc2 hd2
  subst hc hd hc2 hd2
  have e : vs.toArray ++ ws.toArray = (vs ++ ws).toArray := by simp
  by_cases hw : ws = []
  · exact concat_meets ⟨_, ho, rfl⟩ ⟨_, ho2, rfl⟩ noFill_tuple_add seq_tuple_add PySem.F.slot_tuple_add PySem.F.entry_tuple_add (PySem.F.args_tuple_add_2 _ _)
      (tuple_addW1 t b vs.toArray ws.toArray n n2 dd dd2 sl sl2 (by simpa using hv) (by simp [hw])) ⟨ho, ho2, h1 hw⟩
  · refine concat_meets ⟨_, ho, rfl⟩ ⟨_, ho2, rfl⟩ noFill_tuple_add seq_tuple_add PySem.F.slot_tuple_add PySem.F.entry_tuple_add (PySem.F.args_tuple_add_2 _ _)
      (tuple_addW2 t b vs.toArray ws.toArray n n2 dd dd2 sl sl2 (by simpa using hv) (by simpa using hw) (by rw [List.size_toArray, List.size_toArray]; exact hsz)) ⟨ho, ho2, ?_⟩
    rw [e]
    exact h2 hw

/-! ### t[a:b], not the whole -/
/-- a slice's bound as a place among n (d where it is left out) -/
def sIx (n d : Nat) : Option Int → Nat
  | none => d
  | some v => if v < 0 then (v + (n : Int)).toNat else min v.toNat n
theorem sIx_none (n d : Nat) : sIx n d none = d := rfl
theorem sIx_nat (n d k : Nat) : sIx n d (some (k : Int)) = min k n := by
  show (if (k : Int) < 0 then ((k : Int) + (n : Int)).toNat else min (k : Int).toNat n) = min k n
  rw [if_neg (by omega), Int.toNat_natCast]
theorem sIx_le (n d : Nat) (hd : d ≤ n) (o : Option Int) : sIx n d o ≤ n := by
  cases o with
  | none => exact hd
  | some v =>
    show (if v < 0 then (v + (n : Int)).toNat else min v.toNat n) ≤ n
    by_cases hv : v < 0
    · rw [if_pos hv]; omega
    · rw [if_neg hv]; exact Nat.min_le_right _ _
theorem clip_eq (v : Int) (n d : Nat) : (if v < 0 then max (v + (n : Int)) 0 else min v (n : Int)) = ((sIx n d (some v) : Nat) : Int) := by
  show (if v < 0 then max (v + (n : Int)) 0 else min v (n : Int)) = (((if v < 0 then (v + (n : Int)).toNat else min v.toNat n) : Nat) : Int)
  by_cases hv : v < 0
  · simp only [if_pos hv]; omega
  · simp only [if_neg hv]; omega
theorem adjust_gen (lo hi : Option Int) (n : Nat) : Builtin.Slice.sliceAdjust lo hi 1 (n : Int) = (((sIx n 0 lo : Nat) : Int), ((sIx n n hi : Nat) : Int)) := by
  have h1 : ¬ ((1 : Int) < 0) := by omega
  unfold Builtin.Slice.sliceAdjust
  simp only [h1, if_false]
  refine Prod.ext ?_ ?_
  · cases lo with
    | none => rfl
    | some v => exact clip_eq v n 0
  · cases hi with
    | none => rfl
    | some v => exact clip_eq v n n
theorem places_gen (i j : Nat) : Builtin.Slice.slicePlaces (i : Int) (j : Int) 1 = j - i := by
  unfold Builtin.Slice.slicePlaces
  have h1 : (1 : Int) > 0 := by omega
  simp only [h1, if_true, Int.ediv_one]
  split <;> omega
theorem slicePart_ {v : Value} {o : Option Int} {Q : Option Int → Shared → Prop} (p : IsPart v o) (h : Q o s) : wpAny (model prog w) A (Builtin.Slice.slicePartIndex v) Q E s := by
  cases p with
  | none => exact slicePart_none h
  | int i t => exact slicePart_int h
theorem sliceApplied_gen {sl : Addr} {vl vu : Value} {lo hi : Option Int} {n : Nat} {Q : Int × Int × Nat → Shared → Prop} (hs : s.heap.IsSliceOf sl vl vu .none) (pl : IsPart vl lo) (pu : IsPart vu hi)
    (h : Q (((sIx n 0 lo : Nat) : Int), 1, sIx n n hi - sIx n 0 lo) s) : wpAny (model prog w) A (Builtin.Slice.sliceApplied (.ref sl) (pure (n : Int))) Q E s := by
  obtain ⟨os, hos, hcs, hds⟩ := id hs
  unfold Builtin.Slice.sliceApplied Builtin.Slice.sliceFields
  refine wpAny_bind (wpAny_bind (wpAny_field hos hds (x := vl) rfl (wpAny_bind (wpAny_field hos hds (x := vu) rfl (wpAny_bind (wpAny_field hos hds (x := .none) rfl (wpAny_pure ?_)))))))
  refine wpAny_bind (slicePart_none ?_)
  show wpAny _ _ (if ((1 : Int) == 0) = true then _ else _) _ _ s
  rw [if_neg (by decide)]
  refine wpAny_bind (slicePart_ pl (wpAny_bind (slicePart_ pu (wpAny_bind (wpAny_pure ?_)))))
  show wpAny _ _ (match Builtin.Slice.sliceAdjust lo hi 1 (n : Int) with | (lo, hi) => pure (lo, (1 : Int), Builtin.Slice.slicePlaces lo hi 1)) _ _ s
  rw [adjust_gen lo hi n]
  show wpAny _ _ (pure (((sIx n 0 lo : Nat) : Int), (1 : Int), Builtin.Slice.slicePlaces ((sIx n 0 lo : Nat) : Int) ((sIx n n hi : Nat) : Int) 1)) _ _ s
  rw [places_gen]
  exact wpAny_pure h
theorem pick_gen (xs : Array Value) (i k : Nat) : ((List.range k).filterMap fun (m : Nat) => xs[((i : Int) + (m : Int) * 1).toNat]?).toArray = ((xs.toList.drop i).take k).toArray := by
  have e : (fun (m : Nat) => xs[((i : Int) + (m : Int) * 1).toNat]?) = fun m => xs[i + m]? := by
    funext m
    have : ((i : Int) + (m : Int) * 1).toNat = i + m := by omega
    rw [this]
  rw [e]
  have := pick_run xs i k
  rw [List.filterMap_map] at this
  have e2 : ((fun x => xs[x]?) ∘ fun x => i + x) = fun m => xs[i + m]? := rfl
  rw [e2] at this
  rw [this]

theorem getItem_tuple_cut {t sl : Addr} {items : Array Value} {vl vu : Value} {lo hi : Option Int} {Q : Value → Shared → Prop} (ht : IsTup s.heap t items) (hs : s.heap.IsSliceOf sl vl vu .none) (pl : IsPart vl lo) (pu : IsPart vu hi)
    (hw : ¬ (sIx items.size 0 lo = 0 ∧ sIx items.size items.size hi = items.size))
    (h : Q (.ref s.heap.objs.size) { s with heap := s.heap.push { cls := .type "tuple", data := .seq ((items.toList.drop (sIx items.size 0 lo)).take (sIx items.size items.size hi - sIx items.size 0 lo)).toArray } })
    (hsz : items.size ≤ sizeLine) : wpAny (model prog w) A (getItem (.ref t) (.ref sl)) Q E s := by
  have htake : sizeOk (.seq ((items.toList.drop (sIx items.size 0 lo)).take (sIx items.size items.size hi - sIx items.size 0 lo)).toArray) := by
    show ((items.toList.drop (sIx items.size 0 lo)).take (sIx items.size items.size hi - sIx items.size 0 lo)).toArray.size ≤ sizeLine
    rw [List.size_toArray, List.length_take, List.length_drop, Array.length_toList]
    omega
  have hj : sIx items.size items.size hi ≤ items.size := sIx_le _ _ (Nat.le_refl _) hi
  obtain ⟨os, hos, hcs, hds⟩ := id hs
  have hTs : s.TypeIs (.ref sl) "slice" := ⟨os, hos, hcs⟩
  unfold getItem
  try with_reducible refine wpAny_holding ?_
  first | refine wpAny_bind (wpAny_pure ?_) | skip
  refine wpAny_bind (wpAny_sequenceKey ht.typeIs (by decide) ?_)
  refine wpAny_bind (wpAny_callSpecial?_slot (name := Str.ofString "__getitem__") ht.typeIs PyProof.Rows.slot_tuple_getitem
    (wpAny_call_entry PyProof.Rows.slot_tuple_getitem ht.typeIs entry_tuple_getitem ?_ (args_tuple_getitem _ _)))
  show wpAny _ _ (Builtin.Tuple.tupleItemsOf (.ref t) >>= _) _ _ s
  refine wpAny_bind (tupleItemsOf_ ht ?_)
  refine wpAny_bind (wpAny_typeOf hTs ?_)
  rw [if_pos (by decide)]
  refine wpAny_bind (sliceApplied_gen hs pl pu ?_)
  have hno : ¬ ((((sIx items.size 0 lo : Nat) : Int) == 0 && (1 : Int) == 1 && (sIx items.size items.size hi - sIx items.size 0 lo) == items.size) = true) := by
    intro q
    rw [Bool.and_eq_true, Bool.and_eq_true] at q
    have q1 : ((sIx items.size 0 lo : Nat) : Int) = 0 := eq_of_beq q.1.1
    have q2 : sIx items.size items.size hi - sIx items.size 0 lo = items.size := eq_of_beq q.2
    exact hw ⟨by omega, by omega⟩
  show wpAny _ _ (if (((sIx items.size 0 lo : Nat) : Int) == 0 && (1 : Int) == 1 && (sIx items.size items.size hi - sIx items.size 0 lo) == items.size) = true then _ else _) _ _ s
  rw [if_neg hno, pick_gen]
  first
    | exact wpAny_bind (m := Builtin.Tuple.tupleExact _) (wpAny_newObj_type (wpAny_pure ⟨_, rfl, wpAny_pure h⟩) htake)
    | exact wpAny_bind (m := Builtin.Tuple.tupleExact _) (wpAny_newObj_type (wpAny_bind (wpAny_pure (wpAny_pure ⟨_, rfl, wpAny_pure h⟩))) htake)
    | exact wpAny_bind (wpAny_bind (m := Builtin.Tuple.tupleExact _) (wpAny_newObj_type (wpAny_pure (wpAny_pure ⟨_, rfl, wpAny_pure h⟩)) htake))
    | exact wpAny_bind (wpAny_bind (m := Builtin.Tuple.tupleExact _) (wpAny_newObj_type (wpAny_pure ⟨_, rfl, wpAny_pure h⟩) htake))
end
end HT

namespace L2
open PySem PySem.Spec PyProof.Rows

/-! ### the parts of a slice -/
abbrev TO := St → Hp → (Option Int → Hp → Prop) → Prop
/-- a slice's part (left out, or an int) -/
def PO (X : Cx) (e : Option Expr) (t : TO) : Prop :=
  ∀ (pins : List (Addr × Obj)) (s : Shared) (σ : St) (H : Hp) (Q : Option Int → Hp → Prop), Inv X pins σ H s → t σ H Q →
    wpAny (model X.prog X.w) X.A (evalPart e X.env) (fun u s' => ∃ o H', Inv X pins σ H' s' ∧ IsPart u o ∧ Q o H') X.xe s
def tNoPart : TO := fun _ H Q => Q none H
def tPart (t : TE) : TO := fun σ H Q => t σ H fun x H1 => ∃ i, x = .int i ∧ Q (some i) H1

theorem intsAre_of {ns : List Int} : ∀ {us : List Value}, Vals (ns.map V.int) us → IntsAre us ns := by
  induction ns with
  | nil => intro us r; rw [List.map_nil] at r; cases r; exact .nil
  | cons n ns ih =>
    intro us r
    rw [List.map_cons] at r
    cases r with
    | cons r1 r2 =>
      obtain ⟨t, e⟩ := r1
      subst e
      exact .cons n t (ih r2)

section
variable {X : Cx} {e : Expr} {te : TE} {lo hi : Option Expr} {tl th : TO} {pos p2 : Pos}

theorem po_none : PO X none tNoPart := by
  intro pins s σ H Q I h
  rw [evalPart_none]
  exact wpAny_pure ⟨none, H, I, .none, h⟩
theorem po_some (h : PE X e te) : PO X (some e) (tPart te) := by
  intro pins s σ H Q I hw
  rw [evalPart_some]
  refine thn (h pins s σ H _ I hw) fun u s1 ⟨x, H1, I1, r1, q1⟩ => ?_
  obtain ⟨i, rfl, q⟩ := q1
  obtain ⟨t, rfl⟩ := r1
  exact ⟨some i, H1, I1, .int i t, q⟩

/-- what a slice of a value is, by values: the slice object stands at sl -/
def SlR (X : Cx) (r : V → Option Int → Option Int → Hp → VK → Prop) : Prop :=
  ∀ (pins : List (Addr × Obj)) (s : Shared) (σ : St) (H : Hp) (x : V) (v vl vu : Value) (lo hi : Option Int) (sl : Addr) (Q : VK), Inv X pins σ H s → RelV x v → s.heap.IsSliceOf sl vl vu .none → IsPart vl lo → IsPart vu hi → r x lo hi H Q →
    ∃ T id, typeLookup (.type T) "__getitem__" = pure (some (.builtin id)) ∧ s.TypeIs v T ∧ wpAny (model X.prog X.w) X.A (getItem v (.ref sl)) (EP X pins σ Q) X.xe s
theorem SlR.or {r r' : V → Option Int → Option Int → Hp → VK → Prop} (h : SlR X r) (h' : SlR X r') : SlR X (fun x lo hi H Q => r x lo hi H Q ∨ r' x lo hi H Q) := by
  intro pins s σ H x v vl vu lo hi sl Q I rx hs pl pu q
  rcases q with q | q
  · exact h pins s σ H x v vl vu lo hi sl Q I rx hs pl pu q
  · exact h' pins s σ H x v vl vu lo hi sl Q I rx hs pl pu q
def tSl (r : V → Option Int → Option Int → Hp → VK → Prop) (te : TE) (tl th : TO) : TE := fun σ H Q => te σ H fun x H1 => tl σ H1 fun l H2 => th σ H2 fun u H3 => r x l u H3 Q
/-- a[lo:hi], any a -/
theorem pe_slice {r : V → Option Int → Option Int → Hp → VK → Prop} (hr : SlR X r) (he : PE X e te) (hl : PO X lo tl) (hu : PO X hi th) : PE X (.Subscript e (.Slice lo hi none p2) pos) (tSl r te tl th) := by
  intro pins s σ H Q I h
  refine Subscript_ (thn (he pins s σ H _ I h) fun v s1 ⟨x, H1, I1, r1, q1⟩ => ?_)
  refine wpAny_Slice (thn (hl pins s1 σ H1 _ I1 q1) fun vl s2 ⟨l, H2, I2, pl, q2⟩ => thn (hu pins s2 σ H2 _ I2 q2) fun vu s3 ⟨u, H3, I3, pu, q3⟩ => ?_)
  rw [evalPart_none]
  refine wpAny_pure ?_
  have I4 : Inv X pins σ H3 { s3 with heap := s3.heap.push { cls := .type "slice", data := .fields #[vl, vu, .none] } } := I3.kept (t' := s3.toks) fun b ob q => Heap.get?_push_of_some _ q
  obtain ⟨T, id, hT, ht, hg⟩ := hr pins { s3 with heap := s3.heap.push { cls := .type "slice", data := .fields #[vl, vu, .none] } } σ H3 x v vl vu l u s3.heap.objs.size Q I4 r1 (Heap.IsSliceOf.new ..) pl pu q3
  show wpAny (model X.prog X.w) X.A (subscriptTail e (.Slice lo hi none p2) v (.ref s3.heap.objs.size)) (EP X pins σ Q) X.xe { s3 with heap := s3.heap.push { cls := .type "slice", data := .fields #[vl, vu, .none] } }
  exact tail_any (ops := [.ref s3.heap.objs.size, v]) ht hT hg (by with_unfolding_all rfl)

/-- the items of xs[lo:hi] -/
def cutV (xs : List V) (lo hi : Option Int) : List V := (xs.drop (HT.sIx xs.length 0 lo)).take (HT.sIx xs.length xs.length hi - HT.sIx xs.length 0 lo)
theorem cutV_length (xs : List V) (lo hi : Option Int) : (cutV xs lo hi).length ≤ xs.length := by
  unfold cutV
  rw [List.length_take, List.length_drop]
  omega
/-- t[lo:hi], not the whole of it (the whole would be t itself) -/
def rSlT (K : PySem.W.Frag) : V → Option Int → Option Int → Hp → VK → Prop := fun x lo hi H Q => ∃ a xs, x = .ref a ∧ SqT K H a xs ∧
  ¬ (HT.sIx xs.length 0 lo = 0 ∧ HT.sIx xs.length xs.length hi = xs.length) ∧ ∀ p, H p = none → Q (.ref p) (upd H p (.tup (cutV xs lo hi)))
theorem sl_tup : SlR X (rSlT X.K) := by
  intro pins s σ H x v vl vu lo hi sl Q I rx hs pl pu h
  obtain ⟨a, xs, rfl, hx, hw, q⟩ := h
  cases rx
  obtain ⟨its, r, ht, hz⟩ := I.tuple hx
  have hlen : its.toArray.size = xs.length := by rw [List.size_toArray]; exact r.length.symm
  refine ⟨"tuple", _, PyProof.Rows.slot_tuple_getitem.lookup, ht.typeIs, ?_⟩
  refine HT.getItem_tuple_cut ht hs pl pu (by rw [hlen]; exact hw) ?_ (by rw [hlen]; exact hz)
  rw [hlen]
  refine ⟨.ref s.heap.objs.size, _, I.laid (t' := s.toks) (o := .tup (cutV xs lo hi)) (fun b ob q => Heap.get?_push_of_some _ q) (Nat.le_refl _) ?_, rfl, q _ (I.hok.fresh (Nat.le_refl _))⟩
  exact ⟨Nat.le_trans (cutV_length xs lo hi) hz, _, (r.drop (HT.sIx xs.length 0 lo)).take (HT.sIx xs.length xs.length hi - HT.sIx xs.length 0 lo), IsTup.new _ _⟩

/-! ### t < u, t + u -/
def rLtT (K : PySem.W.Frag) : R2 := fun x y H Q => ∃ a b ns ms, x = .ref a ∧ y = .ref b ∧ SqT K H a (ns.map V.int) ∧ SqT K H b (ms.map V.int) ∧ Q (.bl (HT.lexLt ns ms)) H
theorem op_ltT (hu : X.A.units < cLine) : OpR X (compareOp .Lt) (rLtT X.K) := by
  intro pins s σ H x y v u Q I rx ry h
  obtain ⟨a, b, ns, ms, rfl, rfl, ha, hb, q⟩ := h
  cases rx
  cases ry
  obtain ⟨its, r1, p1, _⟩ := I.tuple ha
  obtain ⟨its2, r2, p2, _⟩ := I.tuple hb
  have i1 : IntsAre its.toArray.toList ns := intsAre_of r1
  have i2 : IntsAre its2.toArray.toList ms := intsAre_of r2
  exact HT.lt_tupInts p1 p2 i1 i2 hu ⟨.bl (HT.lexLt ns ms), H, I, rfl, q⟩
/-- t + u, t not empty: u empty gives t itself -/
def rCatT (K : PySem.W.Frag) : R2 := fun x y H Q => ∃ a b xs ys, x = .ref a ∧ y = .ref b ∧ SqT K H a xs ∧ SqT K H b ys ∧ xs ≠ [] ∧ xs.length + ys.length ≤ sizeLine ∧
  (ys = [] → Q (.ref a) H) ∧ (ys ≠ [] → ∀ p, H p = none → Q (.ref p) (upd H p (.tup (xs ++ ys))))
theorem Vals.nil_iff {xs : List V} {us : List Value} (r : Vals xs us) : us = [] ↔ xs = [] := by
  cases r with
  | nil => simp
  | cons _ _ => simp
theorem op_catT : OpR X (binaryOp .Add) (rCatT X.K) := by
  intro pins s σ H x y v u Q I rx ry h
  obtain ⟨a, b, xs, ys, rfl, rfl, ha, hb, hx, hz, q1, q2⟩ := h
  cases rx
  cases ry
  obtain ⟨its, r1, p1, _⟩ := I.tuple ha
  obtain ⟨its2, r2, p2, _⟩ := I.tuple hb
  refine HT.cat_tup p1 p2 (fun z => hx (r1.nil_iff.mp z)) (fun z => ⟨.ref a, H, I, rfl, q1 (r2.nil_iff.mp z)⟩) (fun z => ?_) (by rw [← r1.length, ← r2.length]; exact hz)
  refine ⟨.ref s.heap.objs.size, _, I.laid (t' := s.toks) (o := .tup (xs ++ ys)) (fun b ob q => Heap.get?_push_of_some _ q) (Nat.le_refl _) ?_, rfl, q2 (fun w => z (r2.nil_iff.mpr w)) _ (I.hok.fresh (Nat.le_refl _))⟩
  exact ⟨by rw [List.length_append]; exact hz, _, r1.append r2, IsTup.new _ _⟩
/-- tuple(t) -/
theorem call_tupleT : CallR X (.type "tuple") (fun xs H Q => ∃ a ys, xs = [.ref a] ∧ SqT X.K H a ys ∧ Q (.ref a) H) := by
  intro pins s σ H xs us Q I r h
  obtain ⟨a, ys, rfl, ha, q⟩ := h
  obtain ⟨u, rfl, ru⟩ := vals1 r
  cases ru
  obtain ⟨its, _, p1, _⟩ := I.tuple ha
  exact call_tuple_same (items := its.toArray) p1 ⟨.ref a, H, I, rfl, q⟩
end
end L2

namespace L2
open PySem PySem.Spec PyProof.Rows

/-! ### places -/
/-- the place that an index of any sign means -/
def ixN (n : Nat) (i : Int) : Option Nat := if 0 ≤ i then (if i < n then some i.toNat else none) else if -(n : Int) ≤ i then some (i + n).toNat else none
def atI {α : Type} (xs : List α) (i : Int) : Option α := (ixN xs.length i).bind fun j => xs[j]?
theorem ixN_seq {n : Nat} {i : Int} {j : Nat} (h : ixN n i = some j) : seqIndex? i n = some j ∧ j < n ∧ -(n : Int) ≤ i ∧ i < n := by
  unfold ixN at h
  by_cases h0 : 0 ≤ i
  · rw [if_pos h0] at h
    by_cases h1 : i < n
    · rw [if_pos h1] at h
      have e : i.toNat = j := Option.some.inj h
      exact ⟨by rw [seqIndex_of h0 h1, e], by omega, by omega, h1⟩
    · rw [if_neg h1] at h; cases h
  · rw [if_neg h0] at h
    by_cases h1 : -(n : Int) ≤ i
    · rw [if_pos h1] at h
      have e : (i + n).toNat = j := Option.some.inj h
      exact ⟨by rw [seqIndex_neg (by omega) h1, e], by omega, h1, by omega⟩
    · rw [if_neg h1] at h; cases h
theorem atI_get {α : Type} {xs : List α} {i : Int} {v : α} (h : atI xs i = some v) : ∃ j, seqIndex? i xs.length = some j ∧ xs[j]? = some v ∧ j < xs.length ∧ -(xs.length : Int) ≤ i ∧ i < xs.length := by
  unfold atI at h
  cases e : ixN xs.length i with
  | none => rw [e] at h; cases h
  | some j =>
    rw [e] at h
    obtain ⟨h1, h2, h3, h4⟩ := ixN_seq e
    exact ⟨j, h1, h, h2, h3, h4⟩
theorem atI_nat {α : Type} {xs : List α} {j : Nat} {v : α} (h : xs[j]? = some v) : atI xs (j : Int) = some v := by
  have hj : j < xs.length := (List.getElem?_eq_some_iff.mp h).1
  have e : ixN xs.length (j : Int) = some j := by
    unfold ixN
    rw [if_pos (by omega), if_pos (by omega)]; simp
  unfold atI; rw [e]; exact h
theorem atI_last {α : Type} (xs : List α) (v : α) : atI (xs ++ [v]) (-1) = some v := by
  have hl : (xs ++ [v]).length = xs.length + 1 := by simp
  have e : ixN (xs ++ [v]).length (-1) = some xs.length := by
    unfold ixN
    rw [hl, if_neg (by decide), if_pos (by omega)]
    congr 1
    omega
  unfold atI
  rw [e]
  show (xs ++ [v])[xs.length]? = some v
  simp

/-! ### what may be subscripted -/
/-- what stands as an index of a plain subscript -/
def PlainIx (b : Expr) : Prop := ∀ o i, subscripted b false o i = operate [o, i] (getItem o i)
/-- a subscript by values -/
def IxR (X : Cx) (r : R2) : Prop :=
  ∀ (value slice : Expr) (pins : List (Addr × Obj)) (s : Shared) (σ : St) (H : Hp) (x y : V) (v u : Value) (Q : VK), Inv X pins σ H s → RelV x v → RelV y u → r x y H Q →
    subscripted slice false v u = operate [v, u] (getItem v u) → wpAny (model X.prog X.w) X.A (subscriptTail value slice v u) (EP X pins σ Q) X.xe s
/-- a call of a builtin's method by values: the receiver, the arguments -/
def MtR (X : Cx) (id : String) (r : V → List V → Hp → VK → Prop) : Prop :=
  ∀ (pins : List (Addr × Obj)) (s : Shared) (σ : St) (H : Hp) (x : V) (xs : List V) (v : Value) (us : List Value) (Q : VK), Inv X pins σ H s → RelV x v → Vals xs us → r x xs H Q →
    wpAny (model X.prog X.w) X.A (call (.builtin id) (v :: us)) (EP X pins σ Q) X.xe s
section
variable {X : Cx} {a b : Expr} {ta tb : TE} {pos : Pos}
theorem IxR.or {r r' : R2} (h : IxR X r) (h' : IxR X r') : IxR X (fun x y H Q => r x y H Q ∨ r' x y H Q) := by
  intro value slice pins s σ H x y v u Q I rx ry q hs
  rcases q with q | q
  · exact h value slice pins s σ H x y v u Q I rx ry q hs
  · exact h' value slice pins s σ H x y v u Q I rx ry q hs
theorem MtR.or {id : String} {r r' : V → List V → Hp → VK → Prop} (h : MtR X id r) (h' : MtR X id r') : MtR X id (fun x xs H Q => r x xs H Q ∨ r' x xs H Q) := by
  intro pins s σ H x xs v us Q I rx rs q
  rcases q with q | q
  · exact h pins s σ H x xs v us Q I rx rs q
  · exact h' pins s σ H x xs v us Q I rx rs q
/-- a[b] -/
theorem pe_ix {r : R2} (hr : IxR X r) (ha : PE X a ta) (hb : PE X b tb) (hs : PlainIx b) : PE X (.Subscript a b pos) (tOp r ta tb) := by
  intro pins s σ H Q I h
  exact Subscript_ (binT ha hb I h fun v u s2 x y H2 I2 rx ry q => hr a b pins s2 σ H2 x y v u Q I2 rx ry q (hs _ _))

def rIxL (K : PySem.W.Frag) : R2 := fun x y H Q => ∃ p xs i v, x = .ref p ∧ y = .int i ∧ SqL K H p xs ∧ atI xs i = some v ∧ Q v H
def rIxT (K : PySem.W.Frag) : R2 := fun x y H Q => ∃ p xs i v, x = .ref p ∧ y = .int i ∧ SqT K H p xs ∧ atI xs i = some v ∧ Q v H
def rIxS : R2 := fun x y H Q => ∃ z i c, x = .str z ∧ y = .int i ∧ z.length ≤ sizeLine ∧ atI z.cps.toList i = some c ∧ Q (.str ⟨#[c]⟩) H
theorem ix_list : IxR X (rIxL X.K) := by
  intro value slice pins s σ H x y v u Q I rx ry h hs
  obtain ⟨p, xs, i, z, rfl, rfl, hq, he, q⟩ := h
  cases rx
  obtain ⟨t, rfl⟩ := ry
  obtain ⟨its, r, pl, hz⟩ := I.list hq
  obtain ⟨j, h1, h2, h3, h4, h5⟩ := atI_get he
  obtain ⟨w, ew, rw'⟩ := r.get h2
  have hl := r.length
  have hn := line63
  have fin : EP X pins σ Q w s := ⟨z, H, I, rw', q⟩
  by_cases h0 : 0 ≤ i
  · have hj : i.toNat = j := by
      rw [seqIndex_of h0 h5] at h1
      exact Option.some.inj h1
    exact item_listR pl.isList h0 (by omega) (by rw [hj]; simpa using ew) fin hs
  · have hj : (i + (its.toArray.size : Int)).toNat = j := by
      rw [seqIndex_neg (by omega) h4] at h1
      rw [List.size_toArray, ← hl]
      exact Option.some.inj h1
    exact subscriptTail_builtinR (x := w) pl.isList.typeIs slot_list_getitem.lookup
      (wpAny_getItem_list_neg (Q := fun r s' => r = w ∧ EP X pins σ Q r s') pl.isList (by omega) (by rw [List.size_toArray] <;> omega) (by omega) (by rw [hj]; simpa using ew) ⟨rfl, fin⟩) hs
theorem ix_tup : IxR X (rIxT X.K) := by
  intro value slice pins s σ H x y v u Q I rx ry h hs
  obtain ⟨p, xs, i, z, rfl, rfl, hq, he, q⟩ := h
  cases rx
  obtain ⟨t, rfl⟩ := ry
  obtain ⟨its, r, pl, hz⟩ := I.tuple hq
  obtain ⟨j, h1, h2, h3, h4, h5⟩ := atI_get he
  obtain ⟨w, ew, rw'⟩ := r.get h2
  have hl := r.length
  have hn := line63
  have fin : EP X pins σ Q w s := ⟨z, H, I, rw', q⟩
  exact subscriptTail_builtinR (x := w) pl.typeIs slot_tuple_getitem.lookup
    (getItem_tuple (j := j) (Q := fun r s' => r = w ∧ EP X pins σ Q r s') pl (by omega) (by omega) (by rw [List.size_toArray, ← hl]; exact h1) (by simpa using ew) ⟨rfl, fin⟩) hs
theorem ix_str : IxR X rIxS := by
  intro value slice pins s σ H x y v u Q I rx ry h hs
  obtain ⟨z, i, c, rfl, rfl, hz, he, q⟩ := h
  obtain ⟨t, rfl⟩ := rx
  obtain ⟨t', rfl⟩ := ry
  obtain ⟨j, h1, h2, h3, h4, h5⟩ := atI_get he
  have hl : z.cps.toList.length = z.length := by simp [Str.length]
  rw [hl] at h1 h4 h5
  have hn := line63
  exact tail_any (typeIs_str s z t) slot_str_getitem.lookup (getItem_str (c := c) (by
    have e1 : decide (i < -(2 ^ 63 : Int)) = false := decide_eq_false (by omega)
    have e2 : decide (i ≥ 2 ^ 63) = false := decide_eq_false (by omega)
    rw [e1, e2, Bool.or_false]) (by rw [h1]; simpa using h2) ⟨.str ⟨#[c]⟩, H, I.tok _, ⟨_, rfl⟩, q⟩) hs
/-- list, tuple or str -/
def rIx (K : PySem.W.Frag) : R2 := fun x y H Q => rIxL K x y H Q ∨ rIxT K x y H Q ∨ rIxS x y H Q
theorem ix_seq : IxR X (rIx X.K) := ix_list.or (ix_tup.or ix_str)

/-! ### xs[i] = v, any sign -/
/-- the list's object behind a store -/
theorem mapSeq_set (its : List Value) (n j : Nat) (u : Value) : Obj.mapSeq (·.setIfInBounds j u) { cls := .type "list", data := .seq its.toArray n } = { cls := .type "list", data := .seq (its.set j u).toArray n } := by
  simp [Obj.mapSeq]
theorem Inv.lst {pins : List (Addr × Obj)} {σ : St} {H : Hp} {s : Shared} {p : Addr} {xs : List V} (I : Inv X pins σ H s) (h : H p = some (.lst xs)) :
    ∃ (its : List Value) (n : Nat), Vals xs its ∧ s.heap.get? p = some { cls := .type "list", data := .seq its.toArray n } ∧ xs.length ≤ sizeLine := by
  obtain ⟨z, its, n, r, e⟩ := I.hok p _ h
  exact ⟨its, n, r, e, z⟩
/-- the list at p is written by an update of its object -/
theorem Inv.lstUpd {pins : List (Addr × Obj)} {σ : St} {H : Hp} {s : Shared} {p : Addr} {xs ys : List V} {its its' : List Value} {n n' : Nat} {f : Obj → Obj} (I : Inv X pins σ H s) (h : H p = some (.lst xs))
    (ho : s.heap.get? p = some { cls := .type "list", data := .seq its.toArray n }) (hf : f { cls := .type "list", data := .seq its.toArray n } = { cls := .type "list", data := .seq its'.toArray n' }) (r : Vals ys its') (hz : ys.length ≤ sizeLine) (t : Nat) :
    Inv X pins σ (upd H p (.lst ys)) { s with heap := s.heap.update p f, toks := t } := by
  have e : (s.heap.update p f).get? p = some { cls := .type "list", data := .seq its'.toArray n' } := by
    rw [Heap.get?_update_self f ho (by rw [hf] <;> rfl), hf]
  refine I.write (x := p) (e := p) (by rw [h]; trivial) (.inl rfl) (fun b u hb q => (Heap.get?_update_other _ _ (Ne.symm hb)).trans q) ⟨_, e⟩ ?_
  exact ⟨hz, its', n', r, e⟩
def rSetL : V → V → V → Hp → (Hp → Prop) → Prop := fun o i v H Q => ∃ p xs k j, o = .ref p ∧ i = .int k ∧ H p = some (.lst xs) ∧ ixN xs.length k = some j ∧ Q (upd H p (.lst (xs.set j v)))
theorem set_list : PSet X rSetL := by
  intro pins s σ H o i v ov iv u Q I ro ri rv h
  obtain ⟨p, xs, k, j, rfl, rfl, hp, hj, q⟩ := h
  cases ro
  obtain ⟨t, rfl⟩ := ri
  obtain ⟨its, n, r, ho, hz⟩ := I.lst hp
  obtain ⟨h1, h2, h3, h4⟩ := ixN_seq hj
  have hl := r.length
  have hn := line63
  have I' : Inv X pins σ (upd H p (.lst (xs.set j v))) { s with heap := s.heap.update p (Obj.mapSeq (·.setIfInBounds j u)) } :=
    I.lstUpd hp ho (mapSeq_set its n j u) (r.set rv j) (by rw [List.length_set]; exact hz) s.toks
  by_cases h0 : 0 ≤ k
  · have hk : k.toNat = j := by
      rw [seqIndex_of h0 h4] at h1
      exact Option.some.inj h1
    exact PySem.W.ki_setAt ho h0 (by omega) (by rw [List.size_toArray, ← hl]; exact h4) (by rw [hk]; exact ⟨_, I', q⟩)
  · have hk : (k + (its.toArray.size : Int)).toNat = j := by
      rw [seqIndex_neg (by omega) h3] at h1
      rw [List.size_toArray, ← hl]
      exact Option.some.inj h1
    exact PySem.W.ki_setBack ho (by omega) (by rw [List.size_toArray, ← hl]; exact h3) (by omega) (by rw [hk]; exact ⟨_, I', q⟩)

/-! ### slices -/
theorem slice_bounds (lo hi : Option Int) (n : Nat) : (sliceBounds lo hi none n).1 = ((HT.sIx n 0 lo : Nat) : Int) ∧ (sliceBounds lo hi none n).2.1 = ((HT.sIx n n hi : Nat) : Int) ∧ (sliceBounds lo hi none n).2.2 = 1 := by
  refine ⟨?_, ?_, rfl⟩
  · cases lo with
    | none => simp [sliceBounds, HT.sIx]
    | some i =>
      simp only [sliceBounds, HT.sIx, Option.getD_none, show (1 : Int) > 0 by decide, if_true]
      by_cases h : i < 0
      · simp only [h, if_true] <;> omega
      · simp only [h, if_false] <;> omega
  · cases hi with
    | none => simp [sliceBounds, HT.sIx]
    | some i =>
      simp only [sliceBounds, HT.sIx, Option.getD_none, show (1 : Int) > 0 by decide, if_true]
      by_cases h : i < 0
      · simp only [h, if_true] <;> omega
      · simp only [h, if_false] <;> omega
theorem slicePick_cut (its : List Value) (lo hi : Option Int) : slicePick its.toArray lo hi none = ((its.drop (HT.sIx its.length 0 lo)).take (HT.sIx its.length its.length hi - HT.sIx its.length 0 lo)).toArray := by
  obtain ⟨h1, h2, h3⟩ := slice_bounds lo hi its.toArray.size
  unfold slicePick
  rw [h1, h2, h3]
  simp only [sliceRange_one, pick_run, List.size_toArray] <;> rfl
/-- xs[lo:hi] of a list: a new list -/
def rSlL (K : PySem.W.Frag) : V → Option Int → Option Int → Hp → VK → Prop := fun x lo hi H Q => ∃ a xs, x = .ref a ∧ SqL K H a xs ∧ ∀ p, H p = none → Q (.ref p) (upd H p (.lst (cutV xs lo hi)))
theorem sl_list : SlR X (rSlL X.K) := by
  intro pins s σ H x v vl vu lo hi sl Q I rx hs pl pu h
  obtain ⟨a, xs, rfl, hx, q⟩ := h
  cases rx
  obtain ⟨its, r, ht, hz⟩ := I.list hx
  have hlen := r.length
  refine ⟨"list", _, slot_list_getitem.lookup, ht.isList.typeIs, ?_⟩
  refine wpAny_getItem_list_slice ht.isList hs pl pu .none (by simp) ?_ (by rw [List.size_toArray] <;> omega)
  rw [slicePick_cut, ← hlen]
  refine ⟨.ref s.heap.objs.size, _, I.laid (t' := s.toks) (o := .lst (cutV xs lo hi)) (fun b ob q => Heap.get?_push_of_some _ q) (Nat.le_refl _) ?_, rfl, q _ (I.hok.fresh (Nat.le_refl _))⟩
  exact ⟨Nat.le_trans (cutV_length xs lo hi) hz, _, 0, (r.drop (HT.sIx xs.length 0 lo)).take (HT.sIx xs.length xs.length hi - HT.sIx xs.length 0 lo), Heap.get?_push_size _ rfl⟩

/-! ### in, not in: flat items -/
def flatV : V → Bool
  | .non => true
  | .bl _ => true
  | .int _ => true
  | .str _ => true
  | _ => false
/-- == of flat values -/
def eqV : V → V → Bool
  | .non, .non => true
  | .bl a, .bl b => a == b
  | .bl a, .int b => (if a then 1 else 0) == b
  | .int a, .bl b => a == (if b then 1 else 0)
  | .int a, .int b => a == b
  | .str a, .str b => a == b
  | _, _ => false
theorem eqAt_V {A : Around} {s : Shared} {y x : V} {u v : Value} (ry : RelV y u) (rx : RelV x v) (fy : flatV y = true) (fx : flatV x = true) : SeqAt.EqAt A s u v (eqV y x) := by
  cases y with
  | non =>
    cases ry
    cases x with
    | non => cases rx; exact SeqAt.EqAt.same _
    | bl b => cases rx; exact SeqAt.EqAt.none_bool b
    | int b => obtain ⟨t, rfl⟩ := rx; exact SeqAt.EqAt.none_int b t
    | str b => obtain ⟨t, rfl⟩ := rx; exact SeqAt.EqAt.none_str b t
    | _ => exact absurd (show false = true from fx) Bool.false_ne_true
  | bl a =>
    cases ry
    cases x with
    | non => cases rx; exact SeqAt.EqAt.bool_none a
    | bl b => cases rx; exact SeqAt.EqAt.bool_bool a b
    | int b => obtain ⟨t, rfl⟩ := rx; exact SeqAt.EqAt.bool_int a b t
    | str b => obtain ⟨t, rfl⟩ := rx; exact SeqAt.EqAt.bool_str a b t
    | _ => exact absurd (show false = true from fx) Bool.false_ne_true
  | int a =>
    obtain ⟨t', rfl⟩ := ry
    cases x with
    | non => cases rx; exact SeqAt.EqAt.int_none a t'
    | bl b => cases rx; exact SeqAt.EqAt.int_bool a t' b
    | int b => obtain ⟨t, rfl⟩ := rx; exact SeqAt.EqAt.int_int a t' b t
    | str b => obtain ⟨t, rfl⟩ := rx; exact SeqAt.EqAt.int_str a t' b t
    | _ => exact absurd (show false = true from fx) Bool.false_ne_true
  | str a =>
    obtain ⟨t', rfl⟩ := ry
    cases x with
    | non => cases rx; exact SeqAt.EqAt.str_none a t'
    | bl b => cases rx; exact SeqAt.EqAt.str_bool a t' b
    | int b => obtain ⟨t, rfl⟩ := rx; exact SeqAt.EqAt.str_int a t' b t
    | str b => obtain ⟨t, rfl⟩ := rx; exact SeqAt.EqAt.str_str a t' b t
    | _ => exact absurd (show false = true from fx) Bool.false_ne_true
  | _ => exact absurd (show false = true from fy) Bool.false_ne_true
/-- the items' answers, read off the values (a value's own answer does not lean on its token) -/
def eqU (x : V) (u : Value) : Bool := match u with
  | .none => eqV .non x
  | .bool b => eqV (.bl b) x
  | .int i _ => eqV (.int i) x
  | .str z _ => eqV (.str z) x
  | _ => false
theorem eqU_of {x y : V} {u : Value} (r : RelV y u) (f : flatV y = true) : eqU x u = eqV y x := by
  cases y with
  | non => cases r; rfl
  | bl b => cases r; rfl
  | int i => obtain ⟨t, rfl⟩ := r; rfl
  | str z => obtain ⟨t, rfl⟩ := r; rfl
  | _ => exact absurd (show false = true from f) Bool.false_ne_true
theorem any_eqU {x : V} : ∀ {xs : List V} {us : List Value}, Vals xs us → xs.all flatV = true → us.any (eqU x) = xs.any fun y => eqV y x
  | _, _, .nil, _ => rfl
  | y :: xs, u :: us, .cons r t, f => by
    rw [List.all_cons, Bool.and_eq_true] at f
    rw [List.any_cons, List.any_cons, eqU_of r f.1, any_eqU t f.2]
theorem mem_eqAt {A : Around} {s : Shared} {x : V} {v : Value} (rx : RelV x v) (fx : flatV x = true) : ∀ {xs : List V} {us : List Value}, Vals xs us → xs.all flatV = true → ∀ u ∈ us, SeqAt.EqAt A s u v (eqU x u)
  | _, _, .nil, _ => fun u hu => by cases hu
  | y :: xs, u :: us, .cons r t, f => fun u' hu => by
    rw [List.all_cons, Bool.and_eq_true] at f
    rcases List.mem_cons.mp hu with rfl | hu
    · rw [eqU_of r f.1]; exact eqAt_V r rx f.1 fx
    · exact mem_eqAt rx fx t f.2 u' hu
def inV (x : V) (xs : List V) : Bool := xs.any fun y => eqV y x
/-- x in a list or tuple of flat items -/
def rIn (K : PySem.W.Frag) (neg : Bool) : R2 := fun x y H Q => ∃ p xs, y = .ref p ∧ (SqL K H p xs ∨ SqT K H p xs) ∧ flatV x = true ∧ xs.all flatV = true ∧ Q (.bl (if neg then !inV x xs else inV x xs)) H
theorem op_in_seq : OpR X (compareOp .In) (rIn X.K false) := by
  intro pins s σ H x y v u Q I rx ry h
  obtain ⟨p, xs, rfl, hq, fx, fs, q⟩ := h
  cases ry
  rcases hq with hq | hq
  · obtain ⟨its, r, pl, hz⟩ := I.list hq
    refine SeqAt.in_listAt (eqU x) pl.isList (fun w hw => mem_eqAt rx fx r fs w (by simpa using hw)) ⟨.bl _, H, I, rfl, ?_⟩
    rw [show its.toArray.any (eqU x) = its.any (eqU x) by simp, any_eqU r fs]
    exact q
  · obtain ⟨its, r, pl, hz⟩ := I.tuple hq
    refine SeqAt.in_tupleAt (eqU x) pl (fun w hw => mem_eqAt rx fx r fs w (by simpa using hw)) ⟨.bl _, H, I, rfl, ?_⟩
    rw [show its.toArray.any (eqU x) = its.any (eqU x) by simp, any_eqU r fs]
    exact q
theorem op_notIn_seq : OpR X (compareOp .NotIn) (rIn X.K true) := by
  intro pins s σ H x y v u Q I rx ry h
  obtain ⟨p, xs, rfl, hq, fx, fs, q⟩ := h
  cases ry
  rcases hq with hq | hq
  · obtain ⟨its, r, pl, hz⟩ := I.list hq
    refine SeqAt.notIn_listAt (eqU x) pl.isList (fun w hw => mem_eqAt rx fx r fs w (by simpa using hw)) ⟨.bl _, H, I, rfl, ?_⟩
    rw [show its.toArray.any (eqU x) = its.any (eqU x) by simp, any_eqU r fs]
    exact q
  · obtain ⟨its, r, pl, hz⟩ := I.tuple hq
    refine SeqAt.notIn_tupleAt (eqU x) pl (fun w hw => mem_eqAt rx fx r fs w (by simpa using hw)) ⟨.bl _, H, I, rfl, ?_⟩
    rw [show its.toArray.any (eqU x) = its.any (eqU x) by simp, any_eqU r fs]
    exact q
theorem op_notIn_str : OpR X (compareOp .NotIn) (fun x y H Q => ∃ i j, x = .str i ∧ y = .str j ∧ Q (.bl (!(!(Builtin.Str.occurrences j i 0 j.length 1).isEmpty))) H) := by
  intro pins s σ H x y v u Q I rx ry h
  obtain ⟨i, j, rfl, rfl, q⟩ := h
  obtain ⟨t, rfl⟩ := rx
  obtain ⟨t', rfl⟩ := ry
  exact notIn_str ⟨.bl _, H, I, rfl, q⟩

/-! ### len, list(x), tuple(x) of any list or tuple that is read -/
theorem call_len_seq : CallR X (.builtin "len") (fun xs H Q => ∃ p ys, xs = [.ref p] ∧ (SqL X.K H p ys ∨ SqT X.K H p ys) ∧ Q (.int ys.length) H) := by
  intro pins s σ H xs us Q I r h
  obtain ⟨p, ys, rfl, hq, q⟩ := h
  obtain ⟨u, rfl, rx⟩ := vals1 r
  cases rx
  have hn := line63
  rcases hq with hq | hq
  · obtain ⟨its, r', pl, hz⟩ := I.list hq
    have hlen := r'.length
    exact Calls.call_len_list pl.isList (by simp only [List.size_toArray] <;> omega) ⟨.int ys.length, H, I.tok _, ⟨s.toks + 1, by rw [List.size_toArray, hlen]⟩, q⟩
  · obtain ⟨its, r', pl, hz⟩ := I.tuple hq
    have hlen := r'.length
    exact len_tuple pl (by simp only [List.size_toArray] <;> omega) ⟨.int ys.length, H, I.tok _, ⟨s.toks + 1, by rw [List.size_toArray, hlen]⟩, q⟩
theorem call_len_str : CallR X (.builtin "len") (fun xs H Q => ∃ z, xs = [.str z] ∧ z.length ≤ sizeLine ∧ Q (.int z.length) H) := by
  intro pins s σ H xs us Q I r h
  obtain ⟨z, rfl, hz, q⟩ := h
  obtain ⟨u, rfl, t, rfl⟩ := vals1 r
  have hn := line63
  exact len_str (by omega) ⟨.int z.length, H, I.tok _, ⟨_, rfl⟩, q⟩
theorem CallR.or {f : Value} {r r' : List V → Hp → VK → Prop} (h : CallR X f r) (h' : CallR X f r') : CallR X f (fun xs H Q => r xs H Q ∨ r' xs H Q) := by
  intro pins s σ H xs us Q I rs q
  rcases q with q | q
  · exact h pins s σ H xs us Q I rs q
  · exact h' pins s σ H xs us Q I rs q
theorem call_list_of : CallR X (.type "list") (fun xs H Q => ∃ p ys, xs = [.ref p] ∧ (SqL X.K H p ys ∨ SqT X.K H p ys) ∧ ∀ l, H l = none → Q (.ref l) (upd H l (.lst ys))) := by
  intro pins s σ H xs us Q I r h
  obtain ⟨p, ys, rfl, hq, q⟩ := h
  obtain ⟨u, rfl, rx⟩ := vals1 r
  cases rx
  have fin : ∀ (its : List Value), Vals ys its → ys.length ≤ sizeLine → ∀ (h' : Heap) (c' : Nat), (∀ b o', s.heap.get? b = some o' → h'.get? b = some o') →
      h'.get? s.heap.objs.size = some { cls := .type "list", dict := none, data := .seq its.toArray c', slots := #[] } → EP X pins σ Q (.ref s.heap.objs.size) { s with heap := h' } := fun its r' hz h' c' kp e =>
    ⟨.ref s.heap.objs.size, _, I.laid (t' := s.toks) kp (Nat.le_refl _) (show ObjOk X.prog X.w _ h' _ (.lst ys) from ⟨hz, its, c', r', e⟩), rfl, q _ (I.hok.fresh (Nat.le_refl _))⟩
  rcases hq with hq | hq
  · obtain ⟨its, r', pl, hz⟩ := I.list hq
    have hlen := r'.length
    obtain ⟨o, ho, hc, n, hd⟩ := pl.isList
    exact call_list_seq p (.inl rfl) ho hc hd (fun h' c' kp e => fin its r' hz h' c' kp e) (by simp only [List.size_toArray] <;> omega)
  · obtain ⟨its, r', pl, hz⟩ := I.tuple hq
    have hlen := r'.length
    obtain ⟨o, ho, hc, n, hd⟩ := pl
    exact call_list_seq p (.inr rfl) ho hc hd (fun h' c' kp e => fin its r' hz h' c' kp e) (by simp only [List.size_toArray] <;> omega)
theorem call_tuple_of : CallR X (.type "tuple") (fun xs H Q => ∃ p ys, xs = [.ref p] ∧ ((SqL X.K H p ys ∧ ∀ l, H l = none → Q (.ref l) (upd H l (.tup ys))) ∨ (SqT X.K H p ys ∧ Q (.ref p) H))) := by
  intro pins s σ H xs us Q I r h
  obtain ⟨p, ys, rfl, h⟩ := h
  obtain ⟨u, rfl, rx⟩ := vals1 r
  cases rx
  rcases h with ⟨hq, q⟩ | ⟨hq, q⟩
  · obtain ⟨its, r', pl, hz⟩ := I.list hq
    have hlen := r'.length
    refine call_tuple_list pl.isList (fun h' kp => ?_) (by simp only [List.size_toArray] <;> omega)
    have I1 : Inv X pins σ H { s with heap := h' } := I.kept (t' := s.toks) kp
    have I2 : Inv X pins σ (upd H h'.objs.size (.tup ys)) { s with heap := h'.push { cls := .type "tuple", data := .seq its.toArray } } :=
      I1.laid (t' := s.toks) (fun b o e => Heap.get?_push_of_some _ e) (Nat.le_refl _) (show ObjOk X.prog X.w _ _ _ (.tup ys) from ⟨hz, its, r', IsTup.new _ _⟩)
    exact ⟨.ref h'.objs.size, _, I2, rfl, q _ (I1.hok.fresh (Nat.le_refl _))⟩
  · obtain ⟨its, r', pl, hz⟩ := I.tuple hq
    exact call_tuple_same pl ⟨.ref p, H, I, rfl, q⟩

/-! ### the call of a builtin's method: o.m(..) -/
/-- the value is of that builtin type -/
def tyV (K : PySem.W.Frag) (T : String) (x : V) (H : Hp) : Prop := match x with
  | .str _ => T = "str"
  | .int _ => T = "int"
  | .ref p => (T = "list" ∧ ∃ xs, SqL K H p xs) ∨ (T = "tuple" ∧ ∃ o, K.lookup p = some o ∧ o.cls = .type "tuple" ∧ o.dict = none) ∨
      (T = "dict" ∧ ((∃ kvs, H p = some (.dK kvs)) ∨ ∃ kvs, H p = some (.dT kvs))) ∨ (T = "set" ∧ ∃ S n, H p = some (.set S n))
  | _ => False
theorem tyV_is {pins : List (Addr × Obj)} {σ : St} {H : Hp} {s : Shared} {T : String} {x : V} {v : Value} (I : Inv X pins σ H s) (r : RelV x v) (ty : tyV X.K T x H) :
    s.TypeIs v T ∧ ∀ a, v = .ref a → ∃ ob, s.heap.get? a = some ob ∧ ob.dict = none := by
  cases x with
  | str z =>
    obtain ⟨t, rfl⟩ := r
    cases (show T = "str" from ty)
    exact ⟨typeIs_str s z t, fun _ e => nomatch e⟩
  | int i =>
    obtain ⟨t, rfl⟩ := r
    cases (show T = "int" from ty)
    exact ⟨typeIs_int s i t, fun _ e => nomatch e⟩
  | ref p =>
    cases r
    rcases ty with ⟨rfl, xs, hq⟩ | ⟨rfl, o, hk, hc, hd⟩ | ⟨rfl, hk⟩ | ⟨rfl, S, n, hk⟩
    · obtain ⟨its, _, pl, _⟩ := I.list hq
      refine ⟨pl.isList.typeIs, fun a e => ?_⟩
      cases e
      obtain ⟨o, n, e, c, hd, _⟩ := pl
      exact ⟨o, e, hd⟩
    · refine ⟨⟨o, I.kIn p o hk, hc⟩, fun a e => ?_⟩
      cases e
      exact ⟨o, I.kIn _ o hk, hd⟩
    · have z : ∃ o, s.heap.get? p = some o ∧ o.ExactDict := by
        rcases hk with ⟨kvs, hk⟩ | ⟨kvs, hk⟩
        · obtain ⟨_, _, _, _, o, _, _, e, ex, _⟩ := I.hok p _ hk
          exact ⟨o, e, ex⟩
        · obtain ⟨_, _, _, _, o, _, _, e, ex, _⟩ := I.hok p _ hk
          exact ⟨o, e, ex⟩
      obtain ⟨o, e, ex⟩ := z
      refine ⟨⟨o, e, ex.1⟩, fun a e2 => ?_⟩
      cases e2
      exact ⟨o, e, ex.2.1⟩
    · obtain ⟨o, _, _, _, e, ex, _⟩ := I.hok p _ hk
      refine ⟨⟨o, e, ex.1⟩, fun a e2 => ?_⟩
      cases e2
      exact ⟨o, e, ex.2.1⟩
  | _ => exact False.elim ty
def tBM0 (K : PySem.W.Frag) (T : String) (r : V → List V → Hp → VK → Prop) (to : TE) : TE := fun σ H Q => to σ H fun x H1 => tyV K T x H1 ∧ r x [] H1 Q
def tBM (K : PySem.W.Frag) (T : String) (r : V → List V → Hp → VK → Prop) (to : TE) (t : TA) : TE := fun σ H Q => to σ H fun x H1 => tyV K T x H1 ∧ t σ H1 fun xs H2 => r x xs H2 Q
variable {o e : Expr} {es : List Expr} {to : TE} {t : TA} {name : Str} {apos cpos : Pos} {T id : String} {r : V → List V → Hp → VK → Prop}
theorem pe_bm0 (pa : PlainAttrs T) (slot : Slot T name id) (hty : typeOf (.builtin id) = pure (.type "method_descriptor")) (hm : MtR X id r) (ho : PE X o to)
    (hbase : attributeBase o name X.env (eval o X.env) = eval o X.env := by rfl) (hline : (apos.endLine == cpos.line) = true := by rfl) : PE X (.Call (.Attribute o name apos) [] [] cpos) (tBM0 X.K T r to) := by
  intro pins s σ H Q I h
  refine wpAny_Call_method0_late hbase hline (thn (ho pins s σ H _ I h) fun v s1 ⟨x, H1, I1, r1, ty, q1⟩ => ?_)
  obtain ⟨h1, h2⟩ := tyV_is I1 r1 ty
  exact ⟨T, id, pa, slot, hty, h1, h2, Calls.callWith_builtin rfl (PySem.evalArgs_none (hm pins s1 σ H1 x [] v [] Q I1 r1 .nil q1))⟩
theorem pe_bm (pa : PlainAttrs T) (slot : Slot T name id) (hty : typeOf (.builtin id) = pure (.type "method_descriptor")) (hm : MtR X id r) (ho : PE X o to) (ha : PA X (e :: es) t)
    (hbase : attributeBase o name X.env (eval o X.env) = eval o X.env := by rfl)
    (hfew : ((backTo cpos (starEach (e :: es) X.env)).all (fun x => !x.1) && (backToKw cpos (keywordEach [] X.env)).all (fun x => x.1.isSome)
      && decide ((e :: es).length + ([] : List Keyword).length + (if ([] : List Keyword).isEmpty then 0 else 1) < 30)) = true := by rfl)
    (hline : (apos.endLine == cpos.line) = true := by rfl) (hs : starEach (e :: es) X.env = (false, eval e X.env) :: starEach es X.env := by rfl) (hplain : (backTo cpos (starEach es X.env)).any (·.1) = false := by rfl) :
    PE X (.Call (.Attribute o name apos) (e :: es) [] cpos) (tBM X.K T r to t) := by
  intro pins s σ H Q I h
  refine wpAny_Call_method_late hbase hfew hline rfl (thn (ho pins s σ H _ I h) fun v s1 ⟨x, H1, I1, r1, ty, q1⟩ => ?_)
  obtain ⟨h1, h2⟩ := tyV_is I1 r1 ty
  refine ⟨T, id, pa, slot, hty, h1, h2, ?_⟩
  have hA := ha cpos pins s1 σ H1 _ I1 q1
  rw [hs] at hA ⊢
  refine Calls.callWith_builtin (by show (false || (backTo cpos (starEach es X.env)).any (·.1)) = false; rw [hplain] <;> rfl) (Calls.evalArgs_plain ?_)
  exact thn hA fun us s2 ⟨vs, H2, I2, r2, q2⟩ => hm pins s2 σ H2 x vs v us Q I2 r1 r2 q2
/- xs.append(e), list.index on a module's tuple .. are MtR facts of 06m -/
end
end L2

namespace L2
open PySem PySem.Spec PyProof.Rows

def MtM (X : Cx) (id : String) (r : V → List V → Hp → VK → Prop) : Prop :=
  ∀ (pins : List (Addr × Obj)) (s : Shared) (σ : St) (H : Hp) (x : V) (xs : List V) (v : Value) (us : List Value) (Q : VK), Inv X pins σ H s → RelV x v → Vals xs us → r x xs H Q →
    wpAny (model X.prog X.w) X.A (call (.builtin id) (v :: us)) (EP X pins σ Q) X.xe s

/-! ### lists of values -/
theorem Vals.one : ∀ {x : V} {us : List Value}, Vals [x] us → ∃ u, us = [u] ∧ RelV x u
  | _, _, .cons r .nil => ⟨_, rfl, r⟩
theorem Vals.two : ∀ {x y : V} {us : List Value}, Vals [x, y] us → ∃ u v, us = [u, v] ∧ RelV x u ∧ RelV y v
  | _, _, _, .cons r (.cons q .nil) => ⟨_, _, rfl, r, q⟩
theorem Vals.zero : ∀ {us : List Value}, Vals [] us → us = []
  | _, .nil => rfl
theorem Vals.dropLast {xs : List V} {us : List Value} (h : Vals xs us) : Vals xs.dropLast us.dropLast := by
  induction h with
  | nil => exact .nil
  | cons r t ih =>
    cases t with
    | nil => exact .nil
    | cons q t' => exact .cons r ih
theorem Vals.eraseIdx : ∀ {xs : List V} {us : List Value} (i : Nat), Vals xs us → Vals (xs.eraseIdx i) (us.eraseIdx i)
  | _, _, _, .nil => .nil
  | _, _, 0, .cons _ t => t
  | _, _, i + 1, .cons r t => .cons r (Vals.eraseIdx i t)
theorem Vals.reverse {xs : List V} {us : List Value} (h : Vals xs us) : Vals xs.reverse us.reverse := by
  induction h with
  | nil => exact .nil
  | cons r t ih => rw [List.reverse_cons, List.reverse_cons]; exact Vals.append ih (.cons r .nil)
theorem Vals.rep {xs : List V} {us : List Value} (h : Vals xs us) : ∀ k : Nat, Vals (List.replicate k xs).flatten (List.replicate k us).flatten
  | 0 => .nil
  | k + 1 => by
    rw [List.replicate_succ, List.replicate_succ, List.flatten_cons, List.flatten_cons]
    exact Vals.append h (Vals.rep h k)
theorem erase_last {α : Type} (l : List α) : l.eraseIdx (l.length - 1) = l.dropLast := by
  induction l with
  | nil => rfl
  | cons a r ih =>
    cases r with
    | nil => rfl
    | cons b r =>
      have e : (a :: b :: r).length - 1 = ((b :: r).length - 1) + 1 := by
        have h1 : (a :: b :: r).length = r.length + 2 := rfl
        have h2 : (b :: r).length = r.length + 1 := rfl
        omega
      rw [e, List.eraseIdx_cons_succ, ih]
      all_goals rfl
theorem len_erase {α : Type} : ∀ (l : List α) (i : Nat), (l.eraseIdx i).length ≤ l.length
  | [], _ => Nat.le_refl _
  | _ :: _, 0 => Nat.le_succ _
  | _ :: r, i + 1 => Nat.succ_le_succ (len_erase r i)
theorem foldl_rep (its : List Value) : ∀ (k : Nat) (acc : List Value),
    List.foldl (fun x1 x2 => x1 ++ x2) acc.toArray (List.replicate k its.toArray) = (acc ++ (List.replicate k its).flatten).toArray
  | 0, acc => by simp
  | k + 1, acc => by
    have e : acc.toArray ++ its.toArray = (acc ++ its).toArray := by simp
    have e2 : (acc ++ its) ++ (List.replicate k its).flatten = acc ++ (List.replicate (k + 1) its).flatten := by
      rw [List.replicate_succ, List.flatten_cons, List.append_assoc]
    rw [← e2, ← foldl_rep its k (acc ++ its), ← e, List.replicate_succ, List.foldl_cons]

section
variable {X : Cx} {pins : List (Addr × Obj)} {σ : St} {H : Hp} {s : Shared} {l b : Addr} {xs ys zs : List V}

/-! ### the two steps: a tracked list is rewritten, a new list is laid -/
theorem Inv.lset {its its' : List Value} {n : Nat} {f : Array Value → Array Value} {t' : Nat} (I : Inv X pins σ H s) (hH : H l = some (.lst xs))
    (e : s.heap.get? l = some { cls := .type "list", data := .seq its.toArray n }) (hf : f its.toArray = its'.toArray) (hv : Vals ys its') (hz : ys.length ≤ sizeLine) :
    Inv X pins σ (upd H l (.lst ys)) { s with heap := s.heap.update l (Obj.mapSeq f), toks := t' } := by
  have q := PySem.IsL.update e f
  rw [hf] at q
  refine I.write (x := l) (e := l) (by rw [hH]; exact trivial) (.inl rfl) (fun b' u hb hu => (Heap.get?_update_other s.heap (Obj.mapSeq f) (Ne.symm hb)).trans hu) ⟨_, q⟩ ?_
  exact ⟨hz, its', _, hv, q⟩
theorem Inv.lnew {its : List Value} {t' : Nat} (I : Inv X pins σ H s) (hv : Vals ys its) (hz : ys.length ≤ sizeLine) :
    Inv X pins σ (upd H s.heap.objs.size (.lst ys)) { s with heap := s.heap.push { cls := .type "list", data := .seq its.toArray }, toks := t' } :=
  I.laid (fun _ _ q => Heap.get?_push_of_some _ q) (Nat.le_refl _) ⟨hz, its, 0, hv, Heap.get?_push_size _ rfl⟩
theorem Inv.fresh (I : Inv X pins σ H s) : H s.heap.objs.size = none := I.hok.fresh (Nat.le_refl _)
theorem Inv.lstM (I : Inv X pins σ H s) (hH : H l = some (.lst xs)) : xs.length ≤ sizeLine ∧ ∃ (its : List Value) (n : Nat), Vals xs its ∧ xs.length = its.length ∧ s.heap.get? l = some { cls := .type "list", data := .seq its.toArray n } := by
  obtain ⟨z, its, n, r, e⟩ := I.hok l _ hH
  exact ⟨z, its, n, r, r.length, e⟩

theorem notLongL {n : Nat} (h : n ≤ sizeLine) : Builtin.List.listTooLong n = false := by
  unfold Builtin.List.listTooLong
  exact decide_eq_false (by omega)
end

section
variable {X : Cx}

/-! ### methods -/
def rAppend : V → List V → Hp → VK → Prop := fun x vs H Q => ∃ l xs y, x = .ref l ∧ vs = [y] ∧ H l = some (.lst xs) ∧ xs.length < sizeLine ∧ Q .non (upd H l (.lst (xs ++ [y])))
theorem mt_append : MtM X "list.append" rAppend := by
  intro pins s σ H x vs v us Q I rx rv h
  obtain ⟨l, xs, y, rfl, rfl, hH, hz, q⟩ := h
  cases rx
  obtain ⟨u, rfl, ru⟩ := rv.one
  obtain ⟨z, its, n, r, hl, e⟩ := I.lstM hH
  refine call_meets F.slot_list_append ⟨_, e, rfl⟩ F.entry_list_append (F.args_list_append_2 _ _) (PySem.list_append l its.toArray n u (by rw [List.size_toArray]; omega)) ⟨e, ?_⟩
  refine ⟨.non, _, I.lset (its' := its ++ [u]) hH e (by simp) (r.append (.cons ru .nil)) ?_, rfl, q⟩
  rw [List.length_append, List.length_singleton]
  omega

def rExtend : V → List V → Hp → VK → Prop := fun x vs H Q => ∃ l b xs zs, x = .ref l ∧ vs = [.ref b] ∧ H l = some (.lst xs) ∧ H b = some (.lst zs) ∧ xs.length + zs.length ≤ sizeLine ∧ Q .non (upd H l (.lst (xs ++ zs)))
theorem mt_extend : MtM X "list.extend" rExtend := by
  intro pins s σ H x vs v us Q I rx rv h
  obtain ⟨l, b, xs, zs, rfl, rfl, hH, hB, hz, q⟩ := h
  cases rx
  obtain ⟨u, rfl, ru⟩ := rv.one
  cases ru
  obtain ⟨z, its, n, r, hl, e⟩ := I.lstM hH
  obtain ⟨z2, its2, n2, r2, hl2, e2⟩ := I.lstM hB
  have hsz : its.toArray.size + its2.toArray.size ≤ sizeLine := by rw [List.size_toArray, List.size_toArray]; omega
  have hlong : ¬ (!its.toArray.isEmpty && Builtin.List.listTooLong (its.toArray.size + its2.toArray.size)) = true := by
    rw [notLongL hsz, Bool.and_false]
    exact Bool.false_ne_true
  refine call_meets F.slot_list_extend ⟨_, e, rfl⟩ F.entry_list_extend (F.args_list_extend_2 _ _)
    (AutoSeq1.list_extend_list_list_0 l its.toArray n b its2.toArray n2 hlong (by rw [List.size_toArray]; omega) (by omega)) ⟨e, e2, ?_⟩
  refine ⟨.non, _, I.lset (its' := its ++ its2) hH e (by simp) (r.append r2) ?_, rfl, q⟩
  rw [List.length_append]
  omega

def rPop : V → List V → Hp → VK → Prop := fun x vs H Q => ∃ l xs y, x = .ref l ∧ vs = [] ∧ H l = some (.lst xs) ∧ xs[xs.length - 1]? = some y ∧ Q y (upd H l (.lst xs.dropLast))
theorem mt_pop : MtM X "list.pop" rPop := by
  intro pins s σ H x vs v us Q I rx rv h
  obtain ⟨l, xs, y, rfl, rfl, hH, hy, q⟩ := h
  cases rx
  have hus := rv.zero
  subst hus
  obtain ⟨z, its, n, r, hl, e⟩ := I.lstM hH
  obtain ⟨u, hu, ru⟩ := r.get hy
  have hy' : its.toArray[its.toArray.size - 1]? = some u := by
    show its.toArray[its.length - 1]? = some u
    rw [← Array.getElem?_toList, ← hl]
    exact hu
  refine call_meets F.slot_list_pop ⟨_, e, rfl⟩ F.entry_list_pop (F.args_list_pop_1 _) (MeetsSeq.list_pop_last l its.toArray n u hy' (by rw [List.size_toArray]; omega)) ⟨e, ?_⟩
  refine ⟨y, _, I.lset (its' := its.dropLast) hH e ?_ r.dropLast ?_, ru, q⟩
  · show its.toArray.eraseIdxIfInBounds (its.toArray.size - 1) = its.dropLast.toArray
    rw [List.size_toArray, List.eraseIdxIfInBounds_toArray, erase_last]
  · rw [List.length_dropLast]
    omega

def rPopAt : V → List V → Hp → VK → Prop := fun x vs H Q => ∃ l xs i k y, x = .ref l ∧ vs = [.int i] ∧ H l = some (.lst xs) ∧ -(2 ^ 63) ≤ i ∧ i < 2 ^ 63 ∧ seqIndex? i xs.length = some k ∧ xs[k]? = some y ∧ Q y (upd H l (.lst (xs.eraseIdx k)))
theorem mt_popAt : MtM X "list.pop" rPopAt := by
  intro pins s σ H x vs v us Q I rx rv h
  obtain ⟨l, xs, i, k, y, rfl, rfl, hH, h1, h2, hk, hy, q⟩ := h
  cases rx
  obtain ⟨u, rfl, ru⟩ := rv.one
  obtain ⟨t, rfl⟩ := ru
  obtain ⟨z, its, n, r, hl, e⟩ := I.lstM hH
  obtain ⟨w, hw, rw'⟩ := r.get hy
  refine call_meets F.slot_list_pop ⟨_, e, rfl⟩ F.entry_list_pop (F.args_list_pop_2 _ _)
    (MeetsSeq.list_pop_at l its.toArray n i t k w (fitsIndex_both h1 h2) (by rw [List.size_toArray, ← hl]; exact hk) (by rw [← Array.getElem?_toList]; exact hw) (by rw [List.size_toArray]; omega)) ⟨e, ?_⟩
  refine ⟨y, _, I.lset (its' := its.eraseIdx k) hH e ?_ (r.eraseIdx k) ?_, rw', q⟩
  · show its.toArray.eraseIdxIfInBounds k = (its.eraseIdx k).toArray
    rw [List.eraseIdxIfInBounds_toArray]
  · have := len_erase xs k
    omega

def rReverse : V → List V → Hp → VK → Prop := fun x vs H Q => ∃ l xs, x = .ref l ∧ vs = [] ∧ H l = some (.lst xs) ∧ Q .non (upd H l (.lst xs.reverse))
theorem mt_reverse : MtM X "list.reverse" rReverse := by
  intro pins s σ H x vs v us Q I rx rv h
  obtain ⟨l, xs, rfl, rfl, hH, q⟩ := h
  cases rx
  have hus := rv.zero
  subst hus
  obtain ⟨z, its, n, r, hl, e⟩ := I.lstM hH
  refine call_meets F.slot_list_reverse ⟨_, e, rfl⟩ F.entry_list_reverse (F.args_list_reverse_1 _) (AutoSeq1.list_reverse_list_0 l its.toArray n (by rw [List.size_toArray]; omega)) ⟨e, ?_⟩
  refine ⟨.non, _, I.lset (its' := its.reverse) hH e (by simp) r.reverse ?_, rfl, q⟩
  rw [List.length_reverse]
  omega

def rClear : V → List V → Hp → VK → Prop := fun x vs H Q => ∃ l xs, x = .ref l ∧ vs = [] ∧ H l = some (.lst xs) ∧ Q .non (upd H l (.lst []))
theorem mt_clear : MtM X "list.clear" rClear := by
  intro pins s σ H x vs v us Q I rx rv h
  obtain ⟨l, xs, rfl, rfl, hH, q⟩ := h
  cases rx
  have hus := rv.zero
  subst hus
  obtain ⟨z, its, n, r, hl, e⟩ := I.lstM hH
  refine call_meets F.slot_list_clear ⟨_, e, rfl⟩ F.entry_list_clear (F.args_list_clear_1 _) (AutoSeq1.list_clear_list_0 l its.toArray n (by rw [List.size_toArray]; omega)) ⟨e, ?_⟩
  exact ⟨.non, _, I.lset (its' := []) (ys := []) hH e rfl .nil (Nat.zero_le _), rfl, q⟩

/-! ### list + list, list += list, list * int -/
def rCat : R2 := fun x y H Q => ∃ l b xs zs, x = .ref l ∧ y = .ref b ∧ H l = some (.lst xs) ∧ H b = some (.lst zs) ∧ xs.length + zs.length ≤ sizeLine ∧ ∀ p, H p = none → Q (.ref p) (upd H p (.lst (xs ++ zs)))
theorem op_cat : OpR X (binaryOp .Add) rCat := by
  intro pins s σ H x y v u Q I rx ry h
  obtain ⟨l, b, xs, zs, rfl, rfl, hH, hB, hz, q⟩ := h
  cases rx
  cases ry
  obtain ⟨z, its, n, r, hl, e⟩ := I.lstM hH
  obtain ⟨z2, its2, n2, r2, hl2, e2⟩ := I.lstM hB
  refine PySem.P.add_list e e2 ?_ (by rw [List.size_toArray, List.size_toArray]; omega)
  have ea : its.toArray ++ its2.toArray = (its ++ its2).toArray := by simp
  rw [ea]
  exact ⟨.ref _, _, I.lnew (t' := s.toks) (r.append r2) (by rw [List.length_append]; omega), rfl, q _ I.fresh⟩
/-- a list times an int (a negative one is nothing) -/
def rRep : R2 := fun x y H Q => ∃ l k xs, x = .ref l ∧ y = .int k ∧ H l = some (.lst xs) ∧ -(2 ^ 63) ≤ k ∧ k < 2 ^ 63 ∧ xs.length * k.toNat ≤ sizeLine ∧
  ∀ p, H p = none → Q (.ref p) (upd H p (.lst (List.replicate k.toNat xs).flatten))
theorem len_rep {α : Type} (xs : List α) (k : Nat) : (List.replicate k xs).flatten.length = k * xs.length := by
  induction k with
  | zero => simp
  | succ k ih => rw [List.replicate_succ, List.flatten_cons, List.length_append, ih, Nat.succ_mul, Nat.add_comm]
theorem op_rep : OpR X (binaryOp .Mult) rRep := by
  intro pins s σ H x y v u Q I rx ry h
  obtain ⟨l, k, xs, rfl, rfl, hH, h1, h2, hz, q⟩ := h
  cases rx
  obtain ⟨t, rfl⟩ := ry
  obtain ⟨z, its, n, r, hl, e⟩ := I.lstM hH
  have hlen : its.toArray.size * k.toNat ≤ sizeLine := by rw [List.size_toArray, ← hl]; exact hz
  have hcap : ¬ its.toArray.size * k.toNat > (2 ^ 63 - 1) / 8 := by
    have : (sizeLine : Nat) ≤ (2 ^ 63 - 1) / 8 := by decide
    omega
  have hfit : ¬ (!Builtin.List.listFitsIndex k) = true := by
    rw [fitsIndex_both h1 h2]
    exact Bool.false_ne_true
  have hlong : ¬ Builtin.List.listTooLong (its.toArray.size * k.toNat) = true := by
    rw [notLongL hlen]
    exact Bool.false_ne_true
  have hnew : List.foldl (fun x1 x2 => x1 ++ x2) #[] (List.replicate (if its.toArray.isEmpty = true then 0 else k.toNat) its.toArray) = (List.replicate k.toNat its).flatten.toArray := by
    have f0 : ∀ m : Nat, List.foldl (fun x1 x2 => x1 ++ x2) #[] (List.replicate m its.toArray) = (List.replicate m its).flatten.toArray := fun m => by
      have := foldl_rep its m []
      rw [List.nil_append] at this
      exact this
    rw [f0]
    cases its with
    | nil => simp
    | cons a r' => rw [if_neg (by simp)]
  refine wpAny_binaryOp_repeat_ref (T := "list") (U := "int") (by decide) ⟨_, e, rfl⟩ (fun s' => typeIs_int s' k t) noFill_list_mul F.fills_int_mul F.slot_int_rmul repeat_list F.slot_int_index.lookup
    (call_meets F.slot_int_rmul (typeIs_int s k t) F.entry_int_rmul (F.args_int_rmul_2 _ _) (int___rmul___int_list k t l its.toArray n)
      ⟨e, rfl, ⟨_, e, rfl⟩, call_meets F.slot_list_mul ⟨_, e, rfl⟩ F.entry_list_mul (F.args_list_mul_2 _ _) (AutoListH.list___mul___list_int_3 l its.toArray n k t hfit hcap hlong) ⟨e, ?_⟩⟩)
  rw [hnew]
  exact ⟨.ref _, _, I.lnew (t' := s.toks) (r.rep k.toNat) (by rw [len_rep, Nat.mul_comm]; exact hz), rfl, q _ I.fresh⟩

/-! ### del xs[i] -/
theorem del_list {pins : List (Addr × Obj)} {s : Shared} {σ : St} {H : Hp} {l : Addr} {xs : List V} {i : Int} {t : Tok} {k : Nat} {Q : Unit → Shared → Prop} (I : Inv X pins σ H s) (hH : H l = some (.lst xs))
    (h1 : -(2 ^ 63) ≤ i) (h2 : i < 2 ^ 63) (hk : seqIndex? i xs.length = some k) (h : ∀ s', Inv X pins σ (upd H l (.lst (xs.eraseIdx k))) s' → Q () s') :
    wpAny (model X.prog X.w) X.A (delItem (.ref l) (.int i t)) Q X.xe s := by
  obtain ⟨z, its, n, r, hl, e⟩ := I.lstM hH
  refine PySem.P.delItem_list (k := k) e (fitsIndex_both h1 h2) (by rw [List.size_toArray, ← hl]; exact hk) (h _ ?_) (by rw [List.size_toArray]; omega)
  refine I.lset (its' := its.eraseIdx k) (t' := s.toks) hH e ?_ (r.eraseIdx k) ?_
  · show its.toArray.eraseIdxIfInBounds k = (its.eraseIdx k).toArray
    rw [List.eraseIdxIfInBounds_toArray]
  · have := len_erase xs k
    omega
end

/-! ### xs[a:b] = ys -/
section
variable {prog : Program} {w : World} {A : Around} {E : Value → Shared → Prop} {s : Shared}
theorem splice_eq (its its2 : List Value) (a c : Nat) : its.toArray.extract 0 a ++ its2.toArray ++ its.toArray.extract c its.toArray.size = (its.take a ++ its2 ++ its.drop c).toArray := by
  apply Array.toList_inj.mp
  first
    | (simp
       exact List.take_of_length_le (by simp))
    | simp [List.take_of_length_le]
    | simp
theorem bounds_run {a c n : Nat} (hac : a ≤ c) (hc : c ≤ n) : sliceBounds (some (a : Int)) (some (c : Int)) none n = ((a : Int), (c : Int), 1) := by
  simp only [sliceBounds, Option.getD_none]
  have h1 : ¬ ((a : Int) < 0) := by omega
  have h2 : ¬ ((c : Int) < 0) := by omega
  simp only [h1, h2, if_false, show (1 : Int) > 0 by decide, if_true]
  congr 1
  · omega
  · congr 1; omega
set_option maxRecDepth 100000 in
/-- list.__setitem__ with a slice of step one and another list -/
theorem setItem_slice {l b sl : Addr} {items new : Array Value} {n n2 : Nat} {vl vu : Value} {a c : Nat} {Q : Unit → Shared → Prop}
    (e : s.heap.get? l = some { cls := .type "list", data := .seq items n }) (e2 : s.heap.get? b = some { cls := .type "list", data := .seq new n2 }) (hne : l ≠ b)
    (hs : s.heap.IsSliceOf sl vl vu .none) (pl : IsPart vl (some (a : Int))) (pu : IsPart vu (some (c : Int))) (hac : a ≤ c) (hc : c ≤ items.size)
    (hsz : items.size + new.size ≤ sizeLine) (h : Q () { s with heap := s.heap.update l (Obj.mapSeq fun xs => xs.extract 0 a ++ new ++ xs.extract c xs.size) }) :
    wpAny (model prog w) A (setItem (.ref l) (.ref sl) (.ref b)) Q E s := by
  have hl : s.heap.IsList l items := PySem.IsL.isList e
  have hb : s.heap.IsList b new := PySem.IsL.isList e2
  obtain ⟨os, hos, hcs, hds⟩ := id hs
  have hTs : s.TypeIs (.ref sl) "slice" := ⟨os, hos, hcs⟩
  have hstep : ¬ ((rawPart none == rawInt 0) = true) := Bool.false_ne_true
  have hsame : Builtin.List.listSameRef (.ref l) (.ref b) = false := by
    unfold Builtin.List.listSameRef
    exact beq_eq_false_iff_ne.mpr hne
  have hmax : (max (a : Int) (c : Int)).toNat = c := by omega
  have hz' : ((fun xs : Array Value => xs.extract 0 a ++ new ++ xs.extract c xs.size) items).size ≤ sizeLine + 1 := by
    simp only [Array.size_append, Array.size_extract]
    omega
  unfold setItem
  try with_reducible refine wpAny_holding ?_
  first | refine wpAny_bind (wpAny_pure ?_) | skip
  refine wpAny_bind (wpAny_sequenceKey hl.typeIs (by decide) ?_)
  refine wpAny_bind (wpAny_callSpecial?_slot (name := Str.ofString "__setitem__") hl.typeIs slot_list_setitem
    (wpAny_call_entry slot_list_setitem hl.typeIs entry_list_setitem ?_ (args_list_setitem _ _ _)))
  show wpAny _ _ (Builtin.List.listSubscript? (.ref sl) >>= _) _ _ s
  refine wpAny_bind ?_
  unfold Builtin.List.listSubscript?
  refine wpAny_bind (wpAny_specialOf hTs slice_no_index ?_)
  simp only [Option.isNone_none, if_true]
  refine wpAny_pure ?_
  show wpAny _ _ (typeOf (.ref sl) >>= _) _ _ s
  refine wpAny_bind (wpAny_typeOf hTs ?_)
  first
    | rw [if_neg (by decide)]
    | refine PySem.W.KFB.if_not (by decide) ?_
  rw [listSliceParts_eq]
  refine wpAny_bind (wpAny_bind (wpAny_field hos hds (x := .none) rfl (wpAny_bind (wpAny_listPart .none ?_))))
  rw [if_neg hstep]
  refine wpAny_bind (wpAny_field hos hds (x := vl) rfl (wpAny_bind (wpAny_listPart pl ?_)))
  refine wpAny_bind (wpAny_field hos hds (x := vu) rfl (wpAny_bind (wpAny_listPart pu (wpAny_pure ?_))))
  first
    | simp only [hsame, Bool.false_eq_true, if_false]
    | refine PySem.W.KFB.if_not hsame ?_
    | (dsimp only
       rw [if_neg (by rw [hsame]; exact Bool.false_ne_true)])
  refine wpAny_bind (m := Builtin.List.listAllItems (.ref b) "must assign iterable to extended slice") ?_
  unfold Builtin.List.listAllItems
  refine wpAny_bind (wpAny_typeOf hb.typeIs ?_)
  first
    | refine PySem.W.KFB.if_so (by decide) ?_
    | rw [if_pos (by decide)]
    | simp only [beq_self_eq_true, Bool.true_or, if_true]
  unfold Builtin.List.listItems
  refine wpAny_bind (wpAny_seqItems e2 rfl (wpAny_pure ?_))
  refine wpAny_bind (wpAny_bind (wpAny_seqItems e rfl (wpAny_pure ?_)))
  refine wpAny_bind (wpAny_of_eq ((sliceIndices_raw (some (a : Int)) (some (c : Int)) none items.size (by simp)).trans (congrArg (pure : Int × Int × Int → Sem (Int × Int × Int)) (bounds_run hac hc))) ?_)
  show wpAny _ _ (if ((1 : Int) == 1) = true then _ else _) _ _ s
  rw [if_pos (by decide)]
  refine wpAny_bind (wpAny_rule ?_)
  first
    | simp only [notLongL hsz, Bool.false_eq_true, if_false]
    | refine PySem.W.KFB.if_not (notLongL hsz) ?_
  first | refine wpAny_bind (wpAny_pure ?_) | skip
  show wpAny _ _ (updateSeq l (fun xs => xs.extract 0 ((a : Int)).toNat ++ new ++ xs.extract (max (a : Int) (c : Int)).toNat xs.size) >>= _) _ _ s
  rw [hmax, Int.toNat_natCast]
  refine wpAny_bind (wpAny_updateSeq (hz := Nat.le_trans (Nat.le_add_right _ _) hsz) (_hz' := hz') e rfl ?_)
  refine wpAny_bind (wpAny_letGo ?_)
  first
    | exact wpAny_bind (wpAny_pure (wpAny_pure ⟨.none, rfl, wpAny_pure h⟩))
    | exact wpAny_pure ⟨.none, rfl, wpAny_pure h⟩
end

section
variable {X : Cx}
/-- xs[a:c] = ys of another list, at the value level: sl is the slice object that was just made -/
theorem set_slice {pins : List (Addr × Obj)} {s : Shared} {σ : St} {H : Hp} {l b sl : Addr} {xs ys : List V} {a c : Int} {vl vu : Value} {Q : Unit → Shared → Prop} (I : Inv X pins σ H s)
    (hH : H l = some (.lst xs)) (hB : H b = some (.lst ys)) (hne : l ≠ b) (hs : s.heap.IsSliceOf sl vl vu .none) (ra : RelV (.int a) vl) (rc : RelV (.int c) vu) (h0 : 0 ≤ a) (hac : a ≤ c) (hc : c ≤ xs.length)
    (hz : xs.length + ys.length ≤ sizeLine) (h : ∀ s', Inv X pins σ (upd H l (.lst (xs.take a.toNat ++ ys ++ xs.drop c.toNat))) s' → Q () s') :
    wpAny (model X.prog X.w) X.A (setItem (.ref l) (.ref sl) (.ref b)) Q X.xe s := by
  obtain ⟨ta, rfl⟩ := ra
  obtain ⟨tc, rfl⟩ := rc
  obtain ⟨z, its, n, r, hl, e⟩ := I.lstM hH
  obtain ⟨z2, its2, n2, r2, hl2, e2⟩ := I.lstM hB
  obtain ⟨a', rfl⟩ := Int.eq_ofNat_of_zero_le h0
  obtain ⟨c', rfl⟩ := Int.eq_ofNat_of_zero_le (Int.le_trans h0 hac)
  simp only [Int.toNat_natCast] at h
  refine setItem_slice (a := a') (c := c') e e2 hne hs (.int _ _) (.int _ _) (by omega) (by rw [List.size_toArray]; omega) (by rw [List.size_toArray, List.size_toArray]; omega) (h _ ?_)
  refine I.lset (its' := its.take a' ++ its2 ++ its.drop c') (t' := s.toks) hH e ?_ (Vals.append (Vals.append (r.take _) r2) (r.drop _)) ?_
  · exact splice_eq its its2 a' c'
  · rw [List.length_append, List.length_append, List.length_take, List.length_drop]
    omega
end
end L2

namespace Att
open PySem PySem.W PySem.Calls PyProof.Rows

/-! ### the script -/
theorem ints_of_wellAll {P : Params} {h : Heap} : ∀ (ns : List Int) (vs : List Value), WellAll P h vs (ns.map WData.int) → IntsAre vs ns := by
  intro ns
  induction ns with
  | nil =>
    intro vs w
    rw [List.map_nil] at w
    cases w
    exact .nil
  | cons n ns ih =>
    intro vs w
    rw [List.map_cons] at w
    cases w with
    | cons a b =>
      cases a
      exact .cons _ _ (ih _ b)

theorem script_of {l : OpenLaw} {n : Nat} (hn : l.most = some n) {P : Params} {h : Heap} {args : List WData} {vals : List Value}
    (hpre : l.row.toRowW.claim.pre args = true) (hwl : WellAll P h vals args) :
    ∃ a vs ns, vals = [Value.ref a] ∧ args = [WData.list (ns.map WData.int)] ∧ h.get? a = some { cls := .type "list", data := .seq vs.toArray } ∧ IntsAre vs ns ∧ ns.length ≤ n := by
  have hsh : WShape.hasAll [] args [.list .int] = true := (pre_splitW hpre).1
  have hc : l.pre.holds [] { args := args } = true := (pre_splitW hpre).2
  obtain ⟨d, r, rfl, h1, h2⟩ := hasAllW_cons hsh
  obtain rfl := hasAllW_nil h2
  obtain ⟨xs, rfl, h3⟩ := hasW_list h1
  obtain ⟨ns, rfl⟩ := items_int h3
  have hlen : ns.length ≤ n := by
    unfold OpenLaw.pre at hc
    have h4 : (WTm.not (.lt (.lit (.int (n : Int))) (.len (.arg 0)))).holds [] { args := [.list (ns.map .int)] } = true := by
      have h4 := (holds_andW hc).1
      rw [hn] at h4
      exact h4
    have h5 := condW_of h4 (w_not (w_lt w_lit (w_len_list (w_arg rfl))))
    rw [List.length_map] at h5
    refine Nat.le_of_not_lt fun q => ?_
    have q' : (n : Int) < ((ns.length : Nat) : Int) := by omega
    first
      | (rw [decide_eq_true q'] at h5; exact absurd h5 (by decide))
      | (simp at h5; omega)
  cases hwl with
  | cons w1 w2 =>
    cases w2
    cases w1 with
    | list ho hall => exact ⟨_, _, ns, rfl, rfl, ho, ints_of_wellAll ns _ hall, hlen⟩

theorem post_true (l : OpenLaw) (args : List WData) : l.row.toRowW.claim.post args (.bool true) args = true :=
  postW_of (r := l.row.toRowW) (X := (true == true))
    (show WShape.has [] (.bool true) .bool = true by first | rfl | decide | simp [WShape.has, WShape.arms, WShape.armsAll])
    (show (WTm.eq .res (.lit (.bool true))).value [] { args := args, res := some (.bool true), after := args } = some (.bool (true == true)) from w_eq_bool (w_res rfl) w_lit) rfl

/-! ### the attachment: holds_open's last premise (the goal 'hc' behind k_head) from a wpAny of the law's body -/
theorem attach {l : OpenLaw} {n : Nat} {q : Program} {loose : List Str} {XP : (Str → Option Value) → Heap → Prop} {YP : World → Heap → Prop} {d : DefRec} {x : Str}
    (hn : l.most = some n) (hdf : d.params.defaults = [])
    (hbind : ∀ pm cd doc v : Value, bindArgs (docDef d.name d.params d.body d.scope pm cd doc) ⟨[v], []⟩ = pure [(x, v)])
    (hx : d.scope.names.lookup x = some .local ∨ d.scope.names.lookup x = some .cell)
    (hk : d.scope.kind = .function) (hco : d.scope.isCoroutine = false) (hgen : d.scope.isGenerator = false)
    (body : ∀ (w : World) (s₀ s₁ s : Shared) (mg mb : Str → Option Value) (fa : Addr) (o : Obj) (pm cd doc : Value) (a : Addr) (vs : List Value) (ns : List Int),
      Ground q loose [] XP w s₀ mg mb s₁.heap → YP w s₁.heap →
      s₁.heap.get? fa = some o → o.data = .func (docDef d.name d.params d.body d.scope pm cd doc) → s₁.heap.CodeRec cd d.name → mg d.name = some (.ref fa) →
      s₁.heap.get? a = some { cls := .type "list", data := .seq vs.toArray } → IntsAre vs ns → ns.length ≤ n →
      s.gens = #[] → s.os = s₁.os →
      Fr s₁.heap s₁.heap.objs.size s.heap (bindL (envOfC d.name d.scope s₁.heap.objs.size fa cd).kindOf [(x, .ref a)] fun _ => none) →
      Cl s₁.heap.objs.size (cellsFrom (s₁.heap.objs.size + 1) d.scope.names []) s.heap (bindC (envOfC d.name d.scope s₁.heap.objs.size fa cd).kindOf [(x, .ref a)] fun _ => none) →
      wpAny (model l.prog w) (callerA.deeper (envOfC d.name d.scope s₁.heap.objs.size fa cd)) (execs d.body (envOfC d.name d.scope s₁.heap.objs.size fa cd))
        (fun f s' => f = .ret (.bool true) ∧ OldK s₁.heap s'.heap ∧ s'.os = s₁.os ∧ AllBare s'.gens) (fun _ _ => False) s) :
    WalkO q loose XP YP l.row.toRowW d [] (fun f vs => PySem.call f vs) := by
  intro w s₀ s₁ mg mb G Y fa o pm cd doc dV kV ho hd hcd hD hmg hg args vals as hpre hlay hrd hwl hlo
  obtain rfl : dV = .none := Dflts.none hD hdf
  obtain rfl : kV = .none := Dflts.noKw hD
  obtain ⟨a, vs, ns, rfl, rfl, hobj, hints, hlen⟩ := script_of hn hpre hwl
  refine enter_call ?_
  refine call_cells_ret (o := o) (by rw [depth_caller]; decide) ho (fd_plain hd) G.T.nolimit hcd (hbind pm cd doc (.ref a)) (fun y hy => ?_) (fun h₁ tk F X => ?_) hco hgen hk
  · obtain rfl : y = (x, Value.ref a) := List.mem_singleton.mp hy
    rcases hx with e | e
    · exact .inl e
    · exact .inr ⟨e, cellsFrom_some _ _ _ (.inl e)⟩
  · refine wpAny_mono (body w s₀ s₁ { s₁ with heap := h₁, toks := tk } mg mb fa o pm cd doc a vs ns G Y ho (fd_plain hd) hcd hmg hobj hints hlen hg rfl F X) (fun f s' hq => ?_) (fun _ _ hq => hq)
    obtain ⟨rfl, h2, h3, h4⟩ := hq
    exact ⟨.inl ⟨.bool true, .bool true, [], rfl, fun _ => rfl, .bool true, post_true l _, fun _ => ⟨List.Pairwise.nil, fun _ hm => (nomatch hm)⟩⟩, h2, h3, h4⟩

/-- the same from a codeAny of the CALL (for a layer whose function contracts speak of calls) -/
theorem attach_call {l : OpenLaw} {n : Nat} {q : Program} {loose : List Str} {XP : (Str → Option Value) → Heap → Prop} {YP : World → Heap → Prop} {d : DefRec}
    (hn : l.most = some n) (hdf : d.params.defaults = [])
    (call : ∀ (w : World) (s₀ s₁ : Shared) (mg mb : Str → Option Value) (fa : Addr) (o : Obj) (pm cd doc : Value) (a : Addr) (vs : List Value) (ns : List Int),
      Ground q loose [] XP w s₀ mg mb s₁.heap → YP w s₁.heap →
      s₁.heap.get? fa = some o → o.data = .func (docDef d.name d.params d.body d.scope pm cd doc) → s₁.heap.CodeRec cd d.name → mg d.name = some (.ref fa) →
      s₁.heap.get? a = some { cls := .type "list", data := .seq vs.toArray } → IntsAre vs ns → ns.length ≤ n → s₁.gens = #[] →
      codeAny (model l.prog w) callerA (.call (.ref fa) ⟨[.ref a], []⟩) (fun r s' => r = .ok (.ret (.bool true)) ∧ OldK s₁.heap s'.heap ∧ s'.os = s₁.os ∧ AllBare s'.gens) s₁) :
    WalkO q loose XP YP l.row.toRowW d [] (fun f vs => PySem.call f vs) := by
  intro w s₀ s₁ mg mb G Y fa o pm cd doc dV kV ho hd hcd hD hmg hg args vals as hpre hlay hrd hwl hlo
  obtain rfl : dV = .none := Dflts.none hD hdf
  obtain rfl : kV = .none := Dflts.noKw hD
  obtain ⟨a, vs, ns, rfl, rfl, hobj, hints, hlen⟩ := script_of hn hpre hwl
  refine enter_call (codeAny_mono (call w s₀ s₁ mg mb fa o pm cd doc a vs ns G Y ho (fd_plain hd) hcd hmg hobj hints hlen hg) fun r s' hq => ?_)
  obtain ⟨rfl, h2, h3, h4⟩ := hq
  exact ⟨.inl ⟨.bool true, .bool true, [], rfl, fun _ => rfl, .bool true, post_true l _, fun _ => ⟨List.Pairwise.nil, fun _ hm => (nomatch hm)⟩⟩, h2, h3, h4⟩

/-- the same where the top left finished generators (o_head chose holds_openN): nothing may have changed at all and no generator may be left -/
theorem attachN {l : OpenLaw} {n : Nat} {q : Program} {loose : List Str} {XP : (Str → Option Value) → Heap → Prop} {YP : World → Heap → Prop} {d : DefRec} {x : Str}
    (hn : l.most = some n) (hdf : d.params.defaults = [])
    (hbind : ∀ pm cd doc v : Value, bindArgs (docDef d.name d.params d.body d.scope pm cd doc) ⟨[v], []⟩ = pure [(x, v)])
    (hx : d.scope.names.lookup x = some .local ∨ d.scope.names.lookup x = some .cell)
    (hk : d.scope.kind = .function) (hco : d.scope.isCoroutine = false) (hgen : d.scope.isGenerator = false)
    (body : ∀ (w : World) (s₀ s₁ s : Shared) (mg mb : Str → Option Value) (fa : Addr) (o : Obj) (pm cd doc : Value) (a : Addr) (vs : List Value) (ns : List Int),
      Ground q loose [] XP w s₀ mg mb s₁.heap → YP w s₁.heap →
      s₁.heap.get? fa = some o → o.data = .func (docDef d.name d.params d.body d.scope pm cd doc) → s₁.heap.CodeRec cd d.name → mg d.name = some (.ref fa) →
      s₁.heap.get? a = some { cls := .type "list", data := .seq vs.toArray } → IntsAre vs ns → ns.length ≤ n →
      s.gens = #[] → s.os = s₁.os →
      Fr s₁.heap s₁.heap.objs.size s.heap (bindL (envOfC d.name d.scope s₁.heap.objs.size fa cd).kindOf [(x, .ref a)] fun _ => none) →
      Cl s₁.heap.objs.size (cellsFrom (s₁.heap.objs.size + 1) d.scope.names []) s.heap (bindC (envOfC d.name d.scope s₁.heap.objs.size fa cd).kindOf [(x, .ref a)] fun _ => none) →
      wpAny (model l.prog w) (callerA.deeper (envOfC d.name d.scope s₁.heap.objs.size fa cd)) (execs d.body (envOfC d.name d.scope s₁.heap.objs.size fa cd))
        (fun f s' => f = .ret (.bool true) ∧ (∀ b o, s₁.heap.get? b = some o → s'.heap.get? b = some o) ∧ s'.os = s₁.os ∧ s'.gens = #[]) (fun _ _ => False) s) :
    WalkN q loose XP YP l.row.toRowW d [] (fun f vs => PySem.call f vs) := by
  intro w s₀ s₁ mg mb G Y fa o pm cd doc dV kV ho hd hcd hD hmg hg args vals as hpre hlay hrd hwl hlo
  obtain rfl : dV = .none := Dflts.none hD hdf
  obtain rfl : kV = .none := Dflts.noKw hD
  obtain ⟨a, vs, ns, rfl, rfl, hobj, hints, hlen⟩ := script_of hn hpre hwl
  refine enter_callW ?_
  refine call_cells_ret (o := o) (by rw [depth_caller]; decide) ho (fd_plain hd) G.T.nolimit hcd (hbind pm cd doc (.ref a)) (fun y hy => ?_) (fun h₁ tk F X => ?_) hco hgen hk
  · obtain rfl : y = (x, Value.ref a) := List.mem_singleton.mp hy
    rcases hx with e | e
    · exact .inl e
    · exact .inr ⟨e, cellsFrom_some _ _ _ (.inl e)⟩
  · refine wpAny_mono (body w s₀ s₁ { s₁ with heap := h₁, toks := tk } mg mb fa o pm cd doc a vs ns G Y ho (fd_plain hd) hcd hmg hobj hints hlen hg rfl F X) (fun f s' hq => ?_) (fun _ _ hq => hq)
    obtain ⟨rfl, h2, h3, h4⟩ := hq
    exact ⟨.inl ⟨.bool true, .bool true, [], rfl, fun _ => rfl, .bool true, post_true l _, fun _ => ⟨List.Pairwise.nil, fun _ hm => (nomatch hm)⟩⟩, h2, h3, h4⟩

/-! ### rules over ANY heap (no ledger) from facts about the written part K: the library's own take a ledger (News) for what they write -/
section
variable {prog : Program} {w : World} {A : Around} {E : Value → Shared → Prop} {s : Shared} {K : Frag}

/-- a def of the module, or a method (qual 'C.m'), entered: the frame is the next address; cells behind it -/
theorem call_fn {R : Result → Shared → Prop} {name qual : Str} {params : Arguments} {body : List Stmt} {scope : Scope} {dV kV doc pm cdv ct oc : Value} {an od : Option Addr} {osl : Array (Option Value)} {f : Addr} {args : Args} {binds : List (Str × Value)}
    (X : K.In s.heap) (hlim : s.heap.NoLimit) (ho : K.lookup f = some ⟨oc, od, .func (fnOf name qual params body scope dV kV doc pm an cdv ct), osl⟩) (hcd : codeIn K cdv qual = true) (hroom : A.depth < recursionLimit)
    (hbind : BindsTo s (fnOf name qual params body scope dV kV doc pm an cdv ct) args binds)
    (hkind : (binds.all fun y => scope.names.lookup y.1 == some .local || scope.names.lookup y.1 == some .cell) = true)
    (h : ∀ s₁, InCallC s s.heap.objs.size (bindL (envOfC qual scope s.heap.objs.size f cdv).kindOf binds fun _ => none) (cellsFrom (s.heap.objs.size + 1) scope.names [])
        (bindC (envOfC qual scope s.heap.objs.size f cdv).kindOf binds fun _ => none) s₁ →
      wpAny (model prog w) (A.deeper (envOfC qual scope s.heap.objs.size f cdv)) (execs body (envOfC qual scope s.heap.objs.size f cdv))
        (fun fl s' => R (.ok (.ret (match fl with | .ret v => v | _ => .none))) s')
        (fun e s' => wpAny (model prog w) (A.deeper (envOfC qual scope s.heap.objs.size f cdv)) (leaving (envOfC qual scope s.heap.objs.size f cdv) e) (fun _ s'' => R (.error e) s'') (fun e' s'' => R (.error e') s'') s') s₁)
    (hco : scope.isCoroutine = false) (hgen : scope.isGenerator = false) (hk : scope.kind = .function) : codeAny (model prog w) A (.call (.ref f) args) R s := by
  refine codeAny_call_function hroom (X _ _ ho) rfl hco hgen rfl (codeRec_of X hcd) (hbind _ _ _ _ ?_)
  refine wpAny_newFunctionEnv_cells hk (kindsX hkind _) fun env he s₁ x => ?_
  subst he
  exact ⟨hlim.keeps x.toInCall.keep, codeAny_func (h s₁ x)⟩

/-- C(..): dict at size, instance at size + 1, then __init__ -/
theorem make_obj {R : Result → Shared → Prop} {C fI : Addr} {rest : List Value} {kw : List (Str × Value)}
    (X : K.In s.heap) (hm : makesIn K C = true) (hi : findIn K (.ref C) "__init__" = some (some (.ref fI))) (hf : isFn K (.ref fI) = true)
    (h : codeAny (model prog w) (A.under (.builtin "type.__call__" ⟨.ref C :: rest, kw⟩)) (.call (.ref fI) ⟨.ref (s.heap.objs.size + 1) :: rest, kw⟩) (InitBack (s.heap.objs.size + 1) R)
      { s with heap := (s.heap.push emptyDict).push (instObj C s.heap.objs.size) }) : codeAny (model prog w) A (.call (.ref C) ⟨rest, kw⟩) R s := by
  obtain ⟨hh, g, d, t, os⟩ := s
  exact make_core (makes_of X hm) (looks_findIn X hi) (fun self => bind_fn X self (beq_iff_eq.mp hf)) (.inl rfl) h

/-- x.name where the instance's dict holds the name and the class does not -/
theorem get_field {x C : Addr} {ox : Obj} {es : List DictEntry} {n : Nat} {name : Str} {expr : Bool} {v : Value} {Q : Value → Shared → Prop}
    (X : K.In s.heap) (I : PySem.W.InstAt s.heap x ox C (some (dictOf es n))) (hg : plainGet K C name = true) (hh : hasDictIn K C = true) (ha : findIn K (.ref C) name = some none)
    (hl : getL name es = some (some v)) (hv : handedIn v = true) (h : Q v { s with toks := s.toks + 1 }) : wpAny (model prog w) A (getAttr (.ref x) name expr) Q E s :=
  get_value X I (plainGet_of hg).1 (findObj_own hh ha rfl hl) hv h

/-- x.m(..): the method found in the class -/
theorem get_method {x C f : Addr} {ox : Obj} {es : List DictEntry} {n : Nat} {name : Str} {pl : Sem Bool} {Q : Value × List Value → Shared → Prop}
    (X : K.In s.heap) (I : PySem.W.InstAt s.heap x ox C (some (dictOf es n))) (hg : plainGet K C name = true) (hf : findIn K (.ref C) name = some (some (.ref f))) (ht : isFn K (.ref f) = true)
    (hl : getL name es = some none) (h : Q (.ref f, [.ref x]) s) : wpAny (model prog w) A (getMethod (.ref x) name pl) Q E s :=
  method_fn X I (plainGet_of hg).1 (plainGet_of hg).2 hf (beq_iff_eq.mp ht) (by show (lookIn name (dictOf es n)).map _ = _; rw [lookIn_dict, hl]; rfl) h

/-! the whole heap as the ledger: makes every rule that writes through a ledger a rule over any heap -/
def noObjs (h : Heap) : Heap := { h with objs := #[] }
theorem noObjs_get (h : Heap) (b : Addr) : (noObjs h).get? b = none := by
  cases e : (noObjs h).get? b with
  | none => rfl
  | some o => exact absurd (Heap.lt_size e) (Nat.not_lt_zero _)
def ledger (h : Heap) (L d : Addr) : List (Addr × Obj) := (List.range h.objs.size).filterMap fun a => if a = L ∨ a = d then none else (h.get? a).map fun o => (a, o)
theorem mem_ledger {h : Heap} {L d a : Addr} {o : Obj} : (a, o) ∈ ledger h L d ↔ a ≠ L ∧ a ≠ d ∧ h.get? a = some o := by
  unfold ledger
  rw [List.mem_filterMap]
  constructor
  · rintro ⟨b, _, e⟩
    split at e
    · cases e
    · rename_i hb
      obtain ⟨o', ho, e'⟩ := Option.map_eq_some_iff.mp e
      cases e'
      exact ⟨fun q => hb (.inl q), fun q => hb (.inr q), ho⟩
  · rintro ⟨n1, n2, ho⟩
    refine ⟨a, List.mem_range.mpr (Heap.lt_size ho), ?_⟩
    rw [if_neg (show ¬ (a = L ∨ a = d) from fun q => q.elim n1 n2), ho] <;> rfl
theorem news_ledger {h : Heap} {L d : Addr} {od : Obj} (hne : d ≠ L) (ho : h.get? d = some od) : News (noObjs h) L h ([] ++ (d, od) :: ledger h L d) := by
  rintro ⟨a, o⟩ hp
  rcases List.mem_cons.mp hp with e | hp
  · cases e
    exact ⟨ho, hne, noObjs_get _ _⟩
  · obtain ⟨n1, n2, e⟩ := mem_ledger.mp hp
    exact ⟨e, n1, noObjs_get _ _⟩
theorem fr_all {h : Heap} {L : Addr} {m : Str → Option Value} (n : h.Ns L m) : Fr (noObjs h) L h m :=
  ⟨n, fun b o e => (by rw [noObjs_get] at e; cases e), Nat.zero_le _⟩
/-- Upd of the head entry (for append_K, setItem_K ..) -/
theorem upd_ledger {h : Heap} {L d : Addr} {o o' : Obj} : Upd d o o' ((d, o) :: ledger h L d) ((d, o') :: ledger h L d) :=
  .head fun ⟨_, _⟩ hp => (mem_ledger.mp hp).2.1

/-- x.name = v over any heap: L is any namespace of the heap (the frame's, say): its map stays, its object is not told; all else but the dict stays -/
theorem set_field {x C dx L : Addr} {ox : Obj} {m : Str → Option Value} {es es' : List DictEntry} {n n' : Nat} {name : Str} {v : Value} {Q : Unit → Shared → Prop}
    (X : K.In s.heap) (I : PySem.W.InstAt s.heap x ox C (some (dictOf es n))) (hd : ox.dict = some dx) (hL : s.heap.Ns L m) (hne : dx ≠ L)
    (hs : findIn K (.ref C) "__setattr__" = some (some (.builtin "object.__setattr__"))) (hp : plainOver K C = true) (ht : takerIn K C name = some none) (hh : hasDictIn K C = true) (hl : (getL name es).isSome = true)
    (e : (putL name (PyData.keyHash w.params name) (.str name (s.toks + 1)) v es, putN name es n) = (es', n')) (hz : es'.length ≤ 1000)
    (h : ∀ h' : Heap, h'.Ns L m → h'.get? dx = some (dictOf es' n') → (∀ b o, b ≠ dx → b ≠ L → s.heap.get? b = some o → h'.get? b = some o) → Q () { s with heap := h', toks := s.toks + 2 }) :
    wpAny (model prog w) A (setAttr (.ref x) name v) Q E s := by
  obtain ⟨e1, e2⟩ := Prod.mk.inj e
  have hdx : s.heap.get? dx = some (dictOf es n) := by
    have := I.dict
    rw [hd] at this
    exact this
  refine set_plain X I hs (osa_dict (s := { s with toks := s.toks + 1 }) (h₀ := noObjs s.heap) (L := L) (m := m) (od := dictOf es n) (od' := dictOf es' n') (es := es') (n := n') (pre := []) (post := ledger s.heap L dx)
    (fr_all hL) (news_ledger hne hdx) X I hd hp ht hh hl (fun _ q => nomatch q) (fun ⟨_, _⟩ q => (mem_ledger.mp q).2.1) (by rw [putName_dict, e1, e2]) rfl hz fun h' F' N' => ?_)
  exact h h' F'.ns (N'.get (List.Mem.head _)) fun b o n1 n2 ho => N'.get (List.Mem.tail _ (mem_ledger.mpr ⟨n2, n1, ho⟩))
end
end Att

namespace L2
open PySem PySem.Spec PyProof.Rows

theorem vals_ints : ∀ {vs : List Value} {ns : List Int}, IntsAre vs ns → Vals (ns.map V.int) vs
  | _, _, .nil => .nil
  | _, _, .cons n t h => .cons ⟨t, rfl⟩ (vals_ints h)

/-- nothing is tracked but the script, known to the object (or it is an object of the module) -/
def Only (H : Hp) : Prop := ∀ b, H b = none ∨ ∃ o xs, H b = some (.frz o (.lst xs))

/-- THE HEAD: the law's promise, at the heap behind the top. F, the promise of the law's def, may use that base is part of the heap (so K.In base, base.Ns mainGlobals mg stand in Mod) -/
theorem law_call {P : Program} {w : World} {K : PySem.W.Frag} {mg mb : Str → Option Value} {CX : CXT} {k : Nat} {fa a : Addr} {fd : FuncData} {x : Str} {sp : Sp} {s₁ : Shared} {vs : List Value} {ns : List Int}
    (KX : K.In s₁.heap) (hns : s₁.heap.Ns mainGlobals mg) (hb : s₁.heap.Ns builtinsNs mb) (hbb : ∀ x : Str, x ≠ "__name__" → mb x = bootBuiltins x) (hlim : s₁.heap.NoLimit) (hg : s₁.gens = #[])
    (ha : s₁.heap.get? a = some { cls := .type "list", data := .seq vs.toArray }) (hi : IntsAre vs ns) (hl : ns.length ≤ sizeLine) (hr : Room k callerA)
    (F : ∀ base : Heap, K.In base → base.Ns mainGlobals mg → FnOk P w K mg base CX k fa fd [x] sp) (hbind : ∀ (s : Shared) (u : Value), BindsTo s fd ⟨[u], []⟩ [(x, u)])
    (hsp : ∀ H : Hp, Only H → SqL K H a (ns.map V.int) → sp [.ref a] H (fun v _ => v = .bl true) fun _ _ _ => False)
    (hCX : ∀ H e s', CX [] H s₁ (fun _ _ _ => False) e s' → False) :
    codeAny (model P w) callerA (.call (.ref fa) ⟨[.ref a], []⟩) (fun r s' => r = .ok (.ret (.bool true)) ∧ OldK s₁.heap s'.heap ∧ s'.os = s₁.os ∧ AllBare s'.gens) s₁ := by
  have rv := vals_ints hi
  have lenV := hi.length
  -- from an abstract heap in which nothing but the script may be tracked
  have core : ∀ H : Hp, Only H → SqL K H a (ns.map V.int) → HOk P w H s₁.heap → (∀ b, H b ≠ none → b = a) → (H a ≠ none → K.lookup a = none) →
      codeAny (model P w) callerA (.call (.ref fa) ⟨[.ref a], []⟩) (fun r s' => r = .ok (.ret (.bool true)) ∧ OldK s₁.heap s'.heap ∧ s'.os = s₁.os ∧ AllBare s'.gens) s₁ := by
    intro H hO hS hok hA hK
    have base_of : ∀ {b : Addr} {o : Obj}, s₁.heap.get? b = some o → H b = none → (hidT s₁.heap H).get? b = some o := fun e n => hidT_get e n
    have noA : ∀ {b : Addr} {o : Obj} {es : Array DictEntry} {ep : Nat}, s₁.heap.get? b = some o → o.data = .dict es ep → H b = none := fun {b o es ep} e d => by
      cases q : H b with
      | none => rfl
      | some u =>
        have e' : b = a := hA b (by rw [q]; simp)
        subst e'
        rw [ha] at e; cases e
        have d' : Data.seq vs.toArray _ = Data.dict es ep := d
        cases d'
    have nsK : ∀ {b : Addr} {m : Str → Option Value}, s₁.heap.Ns b m → (hidT s₁.heap H).Ns b m := fun {b m} ⟨o, es, ep, e, d, r⟩ => ⟨o, es, ep, base_of e (noA e d), d, r⟩
    have hKb : K.In (hidT s₁.heap H) := fun b o e => base_of (KX b o e) (by
      cases q : H b with
      | none => rfl
      | some u =>
        have e' : b = a := hA b (by rw [q]; simp)
        subst e'
        rw [hK (by rw [q]; simp)] at e; cases e)
    have hM : Mod K mg (hidT s₁.heap H) := ⟨hKb, nsK hns, ⟨mb, nsK hb, hbb⟩, let ⟨mc, h1, h2⟩ := hlim; ⟨mc, nsK h1, h2⟩⟩
    have e0 : Env0 P w K mg (hidT s₁.heap H) callerA [] s₁ H := ⟨rfl, hM, fun b o e => of_hidT e, Nat.le_of_eq (hidT_size _ _), trivial, fun b hb => absurd (show b ∈ ([] : List Addr) from hb) (by simp), hok, .of_eq hg⟩
    refine codeAny_mono ((F _ hKb (nsK hns)).run callerA [] s₁ H ⟨[.ref a], []⟩ [.ref a] [.ref a] _ _ hr e0 (hbind s₁ (.ref a)) (.cons rfl .nil) (hsp H hO hS)) fun r s' h => ?_
    cases r with
    | error e => exact (hCX H e s' h).elim
    | ok fl =>
      cases fl with
      | next => exact False.elim h
      | brk => exact False.elim h
      | cont => exact False.elim h
      | ret u =>
        obtain ⟨v, H', os, bare, un, hok', r', q⟩ := h
        have q' : v = .bl true := q
        subst q'
        obtain rfl : u = Value.bool true := r'
        refine ⟨rfl, OldK.of_keep fun b o e => ?_, os, bare⟩
        cases q : H b with
        | none => exact un.keep b o e q (by intro z; exact absurd (show b ∈ ([] : List Addr) from z) (by simp)) (by simp)
        | some u =>
          rcases hO b with z | ⟨ob, xs, z⟩
          · rw [q] at z; cases z
          · have z2 := un.frzs b ob _ z
            obtain ⟨e1, _⟩ := hok b _ z
            obtain ⟨e2, _⟩ := hok' b _ z2
            rw [e] at e1; cases e1
            exact e2
  cases hk : K.lookup a with
  | some o =>
    -- the script is one of the module's own objects
    have e := KX a o hk
    rw [ha] at e
    cases e
    refine core (fun _ => none) (fun _ => .inl rfl) (.inr ⟨_, vs.toArray, _, hk, rfl, rfl, rfl, by rw [List.size_toArray, lenV]; exact hl, by simpa using rv⟩) (fun b u z => by have z' : (none : Option HO) = some u := z; cases z') (fun b z => absurd rfl z) fun z => absurd rfl z
  | none =>
    refine core (fun b => if b = a then some (.frz { cls := .type "list", data := .seq vs.toArray } (.lst (ns.map V.int))) else none) (fun b => ?_) (.inl (.inr ⟨{ cls := .type "list", data := .seq vs.toArray }, if_pos rfl⟩)) (fun b u z => ?_) (fun b z => ?_) fun _ => hk
    · by_cases hb : b = a
      · exact .inr ⟨_, _, if_pos hb⟩
      · exact .inl (if_neg hb)
    · by_cases hb : b = a
      · have z' := (if_pos hb).symm.trans z
        cases z'
        subst hb
        exact ⟨ha, by rw [List.length_map]; exact hl, vs, _, rv, ha⟩
      · have z' := (if_neg hb).symm.trans z
        cases z'
    · by_cases hb : b = a
      · exact hb
      · exact absurd (if_neg hb) z
end L2

namespace L2
open PySem PySem.Spec PyProof.Rows

abbrev KOf {K : PySem.W.Frag} {h : Heap} (_ : K.In h) : PySem.W.Frag := K

/-- the goal that k_head leaves (case hc), from the law's promise. F gives the function object fd (K's own) once, then the promise over every base -/
theorem walk_of {l : PySem.W.OpenLaw} {n k : Nat} {q : Program} {loose : List Str} {XP : (Str → Option Value) → Heap → Prop} {YP : World → Heap → Prop} {d : DefRec} {K : Params → PySem.W.Frag} {CX : World → CXT} {sp : World → Sp} {x : Str}
    (hn : l.most = some n) (hn2 : n ≤ sizeLine) (hdf : d.params.defaults = []) (hr : Room k callerA)
    (hY : ∀ (w : World) (h : Heap), YP w h → (K w.params).In h)
    (F : ∀ (w : World) (mg : Str → Option Value) (fa : Addr) (h : Heap), (K w.params).In h → h.Ns mainGlobals mg → mg d.name = some (.ref fa) →
      ∃ fd : FuncData, (∀ (s : Shared) (u : Value), BindsTo s fd ⟨[u], []⟩ [(x, u)]) ∧
        ∀ base : Heap, (K w.params).In base → base.Ns mainGlobals mg → FnOk l.prog w (K w.params) mg base (CX w) k fa fd [x] (sp w))
    (hsp : ∀ (w : World) (H : Hp) (a : Addr) (ns : List Int), ns.length ≤ n → Only H → SqL (K w.params) H a (ns.map V.int) → sp w [.ref a] H (fun v _ => v = .bl true) fun _ _ _ => False)
    (hCX : ∀ (w : World) (H : Hp) (s : Shared) (e : Value) (s' : Shared), CX w [] H s (fun _ _ _ => False) e s' → False) :
    PySem.W.WalkO q loose XP YP l.row.toRowW d [] (fun f vs => PySem.call f vs) := by
  refine Att.attach_call hn hdf fun w s₀ s₁ mg mb fa o pm cd doc a vs ns G Y ho hd hcd hmg hobj hints hlen hg => ?_
  have KX := hY w _ Y
  obtain ⟨fd, hb, hF⟩ := F w mg fa _ KX G.T.g hmg
  exact law_call KX G.T.g G.T.b G.T.builtins G.T.nolimit hg hobj hints (Nat.le_trans hlen hn2) hr hF hb (fun H hO hS => hsp w H a ns hlen hO hS) fun H e s' => hCX w H s₁ e s'
/-- the same where the promise hangs on the written part alone: (sp := My.sp_law), no hole under a binder -/
theorem walk_ofK {l : PySem.W.OpenLaw} {n k : Nat} {q : Program} {loose : List Str} {XP : (Str → Option Value) → Heap → Prop} {YP : World → Heap → Prop} {d : DefRec} {K : Params → PySem.W.Frag} {CX : CXT} {sp : PySem.W.Frag → Sp} {x : Str}
    (hn : l.most = some n) (hn2 : n ≤ sizeLine) (hdf : d.params.defaults = []) (hr : Room k callerA)
    (hY : ∀ (w : World) (h : Heap), YP w h → (K w.params).In h)
    (F : ∀ (w : World) (mg : Str → Option Value) (fa : Addr) (h : Heap), (K w.params).In h → h.Ns mainGlobals mg → mg d.name = some (.ref fa) →
      ∃ fd : FuncData, (∀ (s : Shared) (u : Value), BindsTo s fd ⟨[u], []⟩ [(x, u)]) ∧
        ∀ base : Heap, (K w.params).In base → base.Ns mainGlobals mg → FnOk l.prog w (K w.params) mg base CX k fa fd [x] (sp (K w.params)))
    (hsp : ∀ (K : PySem.W.Frag) (H : Hp) (a : Addr) (ns : List Int), ns.length ≤ n → Only H → SqL K H a (ns.map V.int) → sp K [.ref a] H (fun v _ => v = .bl true) fun _ _ _ => False)
    (hCX : ∀ (H : Hp) (s : Shared) (e : Value) (s' : Shared), CX [] H s (fun _ _ _ => False) e s' → False) :
    PySem.W.WalkO q loose XP YP l.row.toRowW d [] (fun f vs => PySem.call f vs) :=
  walk_of (K := K) (CX := fun _ => CX) (sp := fun w => sp (K w.params)) hn hn2 hdf hr hY F (fun w H a ns h1 h2 h3 => hsp (K w.params) H a ns h1 h2 h3) fun _ H s e s' => hCX H s e s'
end L2

/- THE LAST THEOREM (shape; LID, My.* are yours):
   My.Adr: a structure of the addresses that your layer names (classes, functions); My.Txt K t: a structure (Prop) of the equations over K;
   My.txt_mk : {K} {implicit addresses ..} (e1 : nsIn K mainGlobals "law" = some (some (.ref f))) (e2 : K.lookup f = some ⟨oc, od, .func (fnOf "law" "law" params body scope dV kV doc pm an cdv ct), sl⟩) (e3 : codeIn K cdv "law" = true) .. : ∃ t, My.Txt K t

set_option maxRecDepth 100000 in
set_option maxHeartbeats 0 in
theorem PySem.Challenge.cw_LID_holds : PySem.Challenge.rw_LID.Holds := by
  w_on; o_law; k_head; (case hw => w_witness2)
  k_fill
  refine L2.walk_of (l := PySem.Challenge.rw_LID) (n := 63) (k := 40) (x := "script") (CX := fun w => ..) (sp := fun _ => My.sp_law) rfl (by decide) rfl ⟨rfl, by decide, by decide⟩ (fun w h Y => PySem.W.kIn_of Y) ?F ?S ?C
  case F =>
    intro w mg fa h KX G hmg
    have T : ∃ t, My.Txt (L2.KOf KX) t := by
      dsimp only [L2.KOf]                          -- K must stand as «<heap const> w.params» for k_is
      refine' My.txt_mk ?e1 ?e2 ?e3 ..
      (case e1 => PySem.W.k_is)                    -- in the order: a name -> its address -> its object -> its parts
      (case e2 => PySem.W.k_is)
      ..
    obtain ⟨t, T⟩ := T
    have e0 := hmg.symm.trans (PySem.W.mg_of KX G T.law)
    cases e0                                       -- fa is the law's own address
    exact ⟨_, fun s u => .of_eq rfl, fun base kb nb => My.law_fn T kb nb⟩     -- if «.of_eq rfl» comes too early: refine' ⟨_, ?b, fun base kb nb => My.law_fn T kb nb⟩; exact fun s u => .of_eq rfl
  case S => exact fun w H a ns hl hO hS => ..
  case C => exact ..
(the tactic k_is has no namespace: write k_is) -/

/-! SHORT WORDS over the layer: a def of the text, its body, what a loop and a test want. -/
namespace L2
open PySem PySem.Spec PyProof.Rows

/-! ### the text by places -/
/-- the j-th statement of a class's body -/
def inClass (s : Stmt) (j : Nat) : Stmt := match s with
  | .ClassDef _ _ _ body _ _ _ _ _ _ _ => body.getD j (.Pass ⟨0, 0, 0, 0⟩)
  | _ => .Pass ⟨0, 0, 0, 0⟩
def defArgs (s : Stmt) : Arguments := match s with
  | .FunctionDef _ a _ _ _ _ _ _ _ _ => a
  | _ => { posonlyargs := [], args := [], vararg := none, kwonlyargs := [], kw_defaults := [], kwarg := none, defaults := [] }
def defBody (s : Stmt) : List Stmt := match s with
  | .FunctionDef _ _ b _ _ _ _ _ _ _ => b
  | _ => []
def defScope (s : Stmt) : Scope := match s with
  | .FunctionDef _ _ _ _ _ _ sc _ _ _ => sc
  | _ => { kind := .function, names := [], isGenerator := false, isCoroutine := false }

/-! ### no exception leaves a def -/
abbrev CX0 : CXT := fun _ _ _ _ _ _ => False
abbrev E0 : XK := fun _ _ _ => False
theorem pass0 {X : Cx} : Passes CX0 X E0 := fun _ _ _ _ _ _ _ h => h.elim

/-! ### a def (or method) of the text as it stands behind the top -/
structure Fun (K : PySem.W.Frag) (x qual : Str) (st : Stmt) (f : Addr) (fd : FuncData) : Prop where
  ex : ∃ (oc : Value) (od : Option Addr) (kV doc pm : Value) (an : Option Addr) (cdv ct : Value) (osl : Array (Option Value)),
    fd = PySem.W.fnOf x qual (defArgs st) (defBody st) (defScope st) .none kV doc pm an cdv ct ∧ K.lookup f = some ⟨oc, od, .func fd, osl⟩ ∧ PySem.W.codeIn K cdv qual = true
  kp : PySem.W.keepIn K (.ref f) = true
section
variable {P : Program} {w : World} {K : PySem.W.Frag} {mg : Str → Option Value} {base : Heap}
/-- THE RULE for a def: its body as a term of rules, and the reading of that term -/
theorem Fun.ok {x qual : Str} {st : Stmt} {f : Addr} {fd : FuncData} {N ps : List Str} {k : Nat} {sp : Sp} (F : Fun K x qual st f fd) (S : FnScope N ps (defScope st)) (len : ∀ vs H Q E, sp vs H Q E → vs.length = ps.length)
    (hbody : ∀ (cdv : Value) (A : Around) (outer : List Env) (s : Shared) (H : Hp) (vs : List V) (Q : VK) (E : XK), Room k (A.deeper (envOfC qual (defScope st) s.heap.objs.size f cdv)) → sp vs H Q E →
      ∃ t, PSs (cxOf CX0 P w K mg base N qual (defScope st) f cdv A outer s H E).nox (defBody st) t ∧ t { nx := fun _ H' => Q .non H', rt := Q } (start N vs) H) : FnOk P w K mg base CX0 (k + 1) f fd ps sp := by
  obtain ⟨oc, od, kV, doc, pm, an, cdv, ct, osl, rfl, lk, hcd⟩ := F.ex
  refine fn_of lk hcd S len fun A outer s H vs Q E hr hsp => ?_
  obtain ⟨t, h, q⟩ := hbody cdv A outer s H vs Q E hr hsp
  exact ⟨t, h.nox, q⟩
/-- how its arguments bind (no defaults): h is «fun _ _ _ _ _ _ us hl => match us, hl with | [_, _], _ => rfl», one _ a parameter -/
theorem Fun.binds {x qual : Str} {st : Stmt} {f : Addr} {fd : FuncData} {ps : List Str} (F : Fun K x qual st f fd)
    (h : ∀ (kV doc pm : Value) (an : Option Addr) (cdv ct : Value) (us : List Value), us.length = ps.length → bindArgs (PySem.W.fnOf x qual (defArgs st) (defBody st) (defScope st) .none kV doc pm an cdv ct) ⟨us, []⟩ = pure (ps.zip us)) : Binds K fd ps [] := by
  obtain ⟨oc, od, kV, doc, pm, an, cdv, ct, osl, rfl, lk, hcd⟩ := F.ex
  exact .all (h kV doc pm an cdv ct)
theorem fun_mk {x qual : Str} {st : Stmt} {f : Addr} {oc : Value} {od an : Option Addr} {osl : Array (Option Value)} {kV doc pm cdv ct : Value} (l : K.lookup f = some ⟨oc, od, .func (PySem.W.fnOf x qual (defArgs st) (defBody st) (defScope st) .none kV doc pm an cdv ct), osl⟩)
    (c : PySem.W.codeIn K cdv qual = true) (k : PySem.W.keepIn K (.ref f) = true) : Fun K x qual st f (PySem.W.fnOf x qual (defArgs st) (defBody st) (defScope st) .none kV doc pm an cdv ct) := ⟨⟨oc, od, kV, doc, pm, an, cdv, ct, osl, rfl, l, c⟩, k⟩
end
theorem hu_of {A : Around} {k : Nat} (hr : Room k A) : A.units + 1 < cLine := Nat.lt_of_le_of_lt (Nat.add_le_add_left (by decide : 1 ≤ 64) _) hr.units
theorem small1000 {n : Nat} (h : n ≤ 1000) : n < sizeLine := Nat.lt_of_le_of_lt h (by decide)

/-! ### expressions in short: the name that stands in the i-th slot -/
section
variable {X : Cx}
theorem pv (i : Nat) {x : Str} {pos : Pos} (hN : X.N[i]? = some x := by rfl) (hv : Vis X.env.scope x := by first | exact Or.inl rfl | exact Or.inr (Or.inl rfl) | exact Or.inr (Or.inr rfl)) (hd : (x == ("__debug__" : Str)) = false := by decide)
    (hcd : (x == ("__classdict__" : Str)) = false := by decide) : PE X (.Name x pos) (tVar i) := pe_var hN hv hd hcd
end

/-! ### tests -/
theorem iteF {A B : Prop} (h : B) : if false = true then A else B := by
  rw [if_neg Bool.false_ne_true]
  exact h
theorem iteT {A B : Prop} (h : A) : if true = true then A else B := by
  rw [if_pos rfl]
  exact h
theorem ite2 {c A B : Prop} [Decidable c] (h1 : c → A) (h2 : ¬ c → B) : if c then A else B := by
  by_cases h : c
  · rw [if_pos h]
    exact h1 h
  · rw [if_neg h]
    exact h2 h
theorem iteNS {c A B : Prop} [Decidable c] (hc : c) (h : B) : if (!decide c) = true then A else B := by
  rw [decide_eq_true hc]
  exact iteF h

/-! ### heaps -/
/-- all that was tracked is as it was -/
def Same (H H' : Hp) : Prop := ∀ b o, H b = some o → H' b = some o
theorem Same.refl (H : Hp) : Same H H := fun _ _ h => h
theorem Same.trans {H H1 H2 : Hp} (a : Same H H1) (b : Same H1 H2) : Same H H2 := fun c o h => b c o (a c o h)
theorem Same.free {H H' : Hp} (e : Same H H') {l : Addr} (h : H' l = Option.none) : H l = Option.none := by
  cases q : H l with
  | none => rfl
  | some o =>
    rw [e l o q] at h
    cases h
theorem Same.seq {K : PySem.W.Frag} {H H' : Hp} {a : Addr} {xs : List V} (e : Same H H') (h : SqL K H a xs) : SqL K H' a xs := by
  rcases h with (h | ⟨o, h⟩) | h
  · exact .inl (.inl (e _ _ h))
  · exact .inl (.inr ⟨o, e _ _ h⟩)
  · exact .inr h

end L2

set_option maxHeartbeats 4000000
namespace L2
open PySem
abbrev NoX : Value → Shared → Prop := fun _ _ => False
theorem clos_go (env : Env) : ∀ (names : List (Str × NameKind)) (acc : List (Str × Addr)), (∀ y ∈ names, y.2 = .free → ∃ c, env.cells.lookup y.1 = some c) → (∀ x c, acc.lookup x = some c → env.cells.lookup x = some c) →
    ∃ cl : List (Str × Addr), (forIn names acc fun (x : Str × NameKind) (r : List (Str × Addr)) => (if (x.2 == .free) = true then do let c ← cellOf env x.1; pure (ForInStep.yield ((x.1, c) :: r)) else pure (ForInStep.yield r) : Sem (ForInStep (List (Str × Addr))))) = pure cl ∧
      (∀ x c, cl.lookup x = some c → env.cells.lookup x = some c) ∧ (∀ x c, acc.lookup x = some c → ∃ c', cl.lookup x = some c') ∧ (∀ y ∈ names, y.2 = .free → ∃ c, cl.lookup y.1 = some c)
  | [], acc, _, ha => ⟨acc, by simp, ha, fun x c e => ⟨c, e⟩, fun y hy => absurd hy (by simp)⟩
  | (n, k) :: r, acc, hf, ha => by
    by_cases hk : k = .free
    · subst hk
      obtain ⟨c, hc⟩ := hf (n, .free) List.mem_cons_self rfl
      have hcell : cellOf env n = pure c := by unfold cellOf; rw [hc]
      obtain ⟨cl, e, h1, h2, h3⟩ := clos_go env r ((n, c) :: acc) (fun y hy => hf y (List.mem_cons_of_mem _ hy)) (fun x c' e => by
        rw [List.lookup_cons] at e
        by_cases hx : (x == n) = true
        · rw [hx] at e
          have : x = n := by simpa using hx
          subst this
          cases e
          exact hc
        · rw [show (x == n) = false by simpa using hx] at e
          exact ha x c' e)
      refine ⟨cl, ?_, h1, fun x c' e' => ?_, fun y hy hyk => ?_⟩
      · rw [List.forIn_cons]
        simp only [beq_self_eq_true, if_true, hcell, pure_bind]
        exact e
      · by_cases hx : (x == n) = true
        · exact h2 x c (by rw [List.lookup_cons, hx])
        · exact h2 x c' (by rw [List.lookup_cons, show (x == n) = false by simpa using hx]; exact e')
      · rcases List.mem_cons.mp hy with rfl | hy
        · exact h2 n c (by simp [List.lookup_cons])
        · exact h3 y hy hyk
    · obtain ⟨cl, e, h1, h2, h3⟩ := clos_go env r acc (fun y hy => hf y (List.mem_cons_of_mem _ hy)) ha
      refine ⟨cl, ?_, h1, h2, fun y hy hyk => ?_⟩
      · rw [List.forIn_cons]
        have hb : ((k == NameKind.free) = true) = False := by simpa using hk
        simp only [hb, if_false, pure_bind]
        exact e
      · rcases List.mem_cons.mp hy with rfl | hy
        · exact absurd hyk hk
        · exact h3 y hy hyk
theorem clos_ok {scope : Scope} {env : Env} (hf : ∀ y ∈ scope.names, y.2 = .free → ∃ c, env.cells.lookup y.1 = some c) :
    ∃ cl : List (Str × Addr), closureFor scope env = pure cl ∧ (∀ x c, cl.lookup x = some c → env.cells.lookup x = some c) ∧ (∀ y ∈ scope.names, y.2 = .free → ∃ c, cl.lookup y.1 = some c) := by
  obtain ⟨cl, e, h1, _, h3⟩ := clos_go env scope.names [] hf (fun x c e => by simp at e)
  refine ⟨cl, ?_, h1, h3⟩
  simp only [closureFor]
  exact (congrArg (fun t => t >>= fun r => (pure r : Sem _)) e).trans (by simp)
section
variable {P : Program} {w : World} {A : Around} {R : Result → Shared → Prop} {s : Shared}
theorem comp_loop {el tg src : Expr} {tests : List Expr} {sc : Scope} {ps : Pos} {itv av : Value} {en : Env} (J : Nat → Shared → Prop)
    (turn : ∀ n s, J n s → wpAny (model P w) A (pyNext itv) (fun r s1 => match r with
      | none => R (.ok .next) s1
      | some v => wpAny (model P w) A (letOwnedTupleGo tg itv v) (fun _ s2 => wpAny (model P w) A (assign tg en v) (fun _ s3 =>
          wpAny (model P w) A (forIn tests true fun c r => if r = true then do let ok ← isTrue c en (eval c en); pure (ForInStep.yield ok) else pure (ForInStep.yield r)) (fun ok s4 =>
            if ok = true then wpAny (model P w) A (eval el en) (fun x s5 =>
              wpAny (model P w) A (call (.builtin "list.append") [av, x]) (fun _ s6 => ∃ m, m < n ∧ J m s6) NoX s5) NoX s4
            else ∃ m, m < n ∧ J m s4) NoX s3) NoX s2) NoX s1) NoX s)
    (n : Nat) (h : J n s) :
    codeAny (model P w) A (.compLoop (.ListComp el [⟨tg, src, tests, 0⟩] sc ps) 0 itv av en) R s := by
  refine codeAny_loop rfl J (fun n s hI => ?_) n h
  show wpAny _ A ((compTurn (.ListComp el [⟨tg, src, tests, 0⟩] sc ps) 0 itv av en).onRaise (fun x => do noteFrame x en; theTreesLotGoes x)) _ _ s
  refine wpAny_noted ?_
  rw [compTurn_list]
  refine wpAny_bind (wpAny_standAt (wpAny_bind (wpAny_mono (turn n s hI) (fun r s1 h1 => ?_) fun _ _ x => x.elim)))
  cases r with
  | none => exact wpAny_pure h1
  | some v =>
    refine wpAny_bind (wpAny_mono h1 (fun _ s2 h2 => ?_) fun _ _ x => x.elim)
    refine wpAny_bind (wpAny_mono h2 (fun _ s3 h3 => wpAny_bind (wpAny_mono h3 (fun ok s4 h4 => ?_) fun _ _ x => x.elim)) fun _ _ x => x.elim)
    cases ok with
    | false => exact wpAny_pure ⟨rfl, h4⟩
    | true => exact wpAny_bind (wpAny_bind (wpAny_mono h4 (fun x s5 h5 => wpAny_bind (wpAny_mono h5 (fun _ s6 h6 => wpAny_pure (wpAny_pure ⟨rfl, h6⟩)) fun _ _ x => x.elim)) fun _ _ x => x.elim))
end
end L2

namespace L2
open PySem PySem.Spec PyProof.Rows
/-- the context of a comprehension's block, entered at s; its own dict at C -/
abbrev cxComp (X : Cx) (N' : List Str) (sc : Scope) (cl : List (Str × Addr)) (C : Addr) (s : Shared) (H : Hp) (fp : List Addr) : Cx :=
  { X with N := N', s₀ := s, H₀ := H, env := compEnvC sc cl C X.env, outer := X.stack, stack := X.stack, ex := fp, fn := fun _ => false, pn := [], xe := NoX }
def nComp (own : List Str) (capt : List (Str × Nat)) : List Str := own ++ capt.map (·.1)
def sComp (own : List Str) (capt : List (Str × Nat)) (σ : St) : St := own.map (fun _ => none) ++ capt.map fun p => (σ[p.2]?).getD none
structure CompSc (X : Cx) (sc : Scope) (own : List Str) (capt : List (Str × Nat)) : Prop where
  kind : sc.kind = .function
  nocell : ∀ y ∈ sc.names, y.2 ≠ .cell
  locs : ∀ y ∈ sc.names, y.2 = .local → sc.names.lookup y.1 = some .local
  frees : ∀ y ∈ sc.names, y.2 = .free → X.env.kindOf y.1 = some .cell ∨ X.env.kindOf y.1 = some .free
  captd : ∀ p ∈ capt, X.N[p.2]? = some p.1 ∧ sc.names.lookup p.1 = some .free
theorem relab_of {env : Env} : ∀ {names : List (Str × NameKind)} {x : Str} {k : NameKind},
    (names.map fun (n, k) => if (k == NameKind.free && env.scope.kind == .function && env.kindOf n == some .cell) then (n, NameKind.cell) else (n, k)).lookup x = some k → (k = .cell ∨ k = .free) → (∀ y ∈ names, y.2 ≠ .cell) → (x, NameKind.free) ∈ names
  | [], _, _, h, _, _ => by simp at h
  | (n, k0) :: r, x, k, h, hk, hn => by
    have h : List.lookup x ((if (k0 == NameKind.free && env.scope.kind == .function && env.kindOf n == some .cell) = true then (n, NameKind.cell) else (n, k0)) :: _) = some k := h
    have hn0 : k0 ≠ .cell := hn (n, k0) List.mem_cons_self
    cases hx : x == n with
    | true =>
      have e : x = n := by simpa using hx
      subst e
      by_cases hc : (k0 == NameKind.free && env.scope.kind == .function && env.kindOf x == some .cell) = true
      · have : k0 = .free := by
          cases k0 <;> simp_all
        subst this
        exact List.mem_cons_self
      · rw [if_neg hc] at h
        simp only [List.lookup_cons, hx] at h
        cases h
        rcases hk with hk | hk
        · exact absurd hk hn0
        · subst hk; exact List.mem_cons_self
    | false =>
      have h' : (r.map fun (n, k) => if (k == NameKind.free && env.scope.kind == .function && env.kindOf n == some .cell) then (n, NameKind.cell) else (n, k)).lookup x = some k := by
        by_cases hc : (k0 == NameKind.free && env.scope.kind == .function && env.kindOf n == some .cell) = true
        · rw [if_pos hc] at h; simp only [List.lookup_cons, hx] at h; exact h
        · rw [if_neg hc] at h; simp only [List.lookup_cons, hx] at h; exact h
      exact List.mem_cons_of_mem _ (relab_of h' hk fun y hy => hn y (List.mem_cons_of_mem _ hy))
theorem relab_free {env : Env} : ∀ {names : List (Str × NameKind)} {x : Str}, names.lookup x = some .free →
    (names.map fun (n, k) => if (k == NameKind.free && env.scope.kind == .function && env.kindOf n == some .cell) then (n, NameKind.cell) else (n, k)).lookup x = some .cell ∨
    (names.map fun (n, k) => if (k == NameKind.free && env.scope.kind == .function && env.kindOf n == some .cell) then (n, NameKind.cell) else (n, k)).lookup x = some .free
  | [], _, h => by simp at h
  | (n, k) :: r, x, h => by
    have ih := @relab_free env r x
    show List.lookup x ((if (k == NameKind.free && env.scope.kind == .function && env.kindOf n == some .cell) = true then (n, NameKind.cell) else (n, k)) :: _) = _ ∨ List.lookup x ((if (k == NameKind.free && env.scope.kind == .function && env.kindOf n == some .cell) = true then (n, NameKind.cell) else (n, k)) :: _) = _
    cases hx : x == n with
    | true =>
      simp only [List.lookup_cons, hx] at h
      cases h
      by_cases hc : (NameKind.free == NameKind.free && env.scope.kind == .function && env.kindOf n == some .cell) = true
      · rw [if_pos hc]; left; simp only [List.lookup_cons, hx]
      · rw [if_neg hc]; right; simp only [List.lookup_cons, hx]
    | false =>
      simp only [List.lookup_cons, hx] at h
      by_cases hc : (k == NameKind.free && env.scope.kind == .function && env.kindOf n == some .cell) = true
      · rw [if_pos hc]; simp only [List.lookup_cons, hx]; exact ih h
      · rw [if_neg hc]; simp only [List.lookup_cons, hx]; exact ih h
/-- a list of ours that was not tracked is tracked from here on -/
theorem HOk.track {P : Program} {w : World} {H : Hp} {h : Heap} {D : Addr} {ys : List V} {its : List Value} {n : Nat} (x : HOk P w H h) (hn : H D = none) (hv : Vals ys its) (hz : ys.length ≤ sizeLine)
    (ho : h.get? D = some { cls := .type "list", data := .seq its.toArray n }) : HOk P w (upd H D (.lst ys)) h := fun b u e => by
  by_cases hb : b = D
  · subst hb; rw [upd_same] at e; cases e; exact ⟨hz, its, n, hv, ho⟩
  · rw [upd_ne hb] at e
    exact (x b u e).stay (fun c v _ q => q) (fun c q => by rw [upd_ne (ne_of_none q hn)]; exact q) fun c xs q => by rw [upd_ne (ne_of_none q hn)]; exact q
/-- a row of tests -/
def PTs (X : Cx) (tests : List Expr) (t : TT) : Prop :=
  ∀ (pins : List (Addr × Obj)) (s : Shared) (σ : St) (H : Hp) (Q : Bool → Hp → Prop), Inv X pins σ H s → t σ H Q →
    wpAny (model X.prog X.w) X.A (forIn tests true fun c r => if r = true then do let ok ← isTrue c X.env (eval c X.env); pure (ForInStep.yield ok) else pure (ForInStep.yield r)) (TP X pins σ Q) X.xe s
def ttYes : TT := fun _ H Q => Q true H
theorem pts_nil {X : Cx} : PTs X [] ttYes := fun _ _ _ H _ I h => wpAny_tests_nil ⟨H, I, h⟩
theorem pts_one {X : Cx} {c : Expr} {t : TT} (hc : PT X c t) : PTs X [c] t := fun pins s σ H Q I h => wpAny_tests_one (hc pins s σ H Q I h)
section
variable {X : Cx} {pins : List (Addr × Obj)} {σ : St} {H2 : Hp} {s2 : Shared} {sc : Scope} {own : List Str} {capt : List (Str × Nat)} {cl : List (Str × Addr)} {fp : List Addr} {C : Addr}
/-- what the block sees of the names around it stands as it stood at its entry -/
theorem comp_look (I : Inv X pins σ H2 s2) (S : CompSc X sc own capt) (hcl : ∀ x c, cl.lookup x = some c → X.env.cells.lookup x = some c) (hcf : ∀ y ∈ sc.names, y.2 = .free → ∃ c, cl.lookup y.1 = some c)
    (hx : ∀ x c, X.env.cells.lookup x = some c → c ∉ fp) {h' : Heap} (un : ∀ c o, s2.heap.get? c = some o → H2 c = none → c ∉ fp → ∃ sl, h'.get? c = some { o with slots := sl }) (m : Str → Option Value) :
    ∀ (i : Nat) (x : Str) (v : V), (nComp own capt)[i]? = some x → (sComp own capt σ)[i]? = some (some v) → ∃ u, RelV v u ∧ Look (compEnvC sc cl C X.env) h' m x u := by
  intro i x v e1 e2
  unfold nComp at e1
  unfold sComp at e2
  by_cases hi : i < own.length
  · rw [List.getElem?_append_left (by simpa using hi), List.getElem?_map] at e2
    cases q : own[i]? with
    | none => rw [q] at e2; cases e2
    | some y => rw [q] at e2; cases e2
  · rw [List.getElem?_append_right (by simpa using hi), List.length_map, List.getElem?_map] at e2
    rw [List.getElem?_append_right (by simpa using hi), List.getElem?_map] at e1
    cases q : capt[i - own.length]? with
    | none => rw [q] at e1; cases e1
    | some p =>
      rw [q] at e1 e2
      obtain rfl : p.1 = x := Option.some.inj e1
      have e3 : (σ[p.2]?).getD none = some v := Option.some.inj e2
      have e4 : σ[p.2]? = some (some v) := by
        cases z : σ[p.2]? with
        | none => rw [z] at e3; cases e3
        | some w => rw [z] at e3; exact congrArg some e3
      obtain ⟨hN, hf⟩ := S.captd p (List.mem_of_getElem? q)
      have hmem : (p.1, NameKind.free) ∈ sc.names := PySem.mem_of_lookup hf
      have hk := S.frees _ hmem rfl
      obtain ⟨m0, _, hl⟩ := I.loc
      have vis : Vis X.env.scope p.1 := .inr hk
      obtain ⟨u, r, lk⟩ := hl p.2 p.1 v hN e4 vis
      refine ⟨u, r, .inr ⟨?_, ?_⟩⟩
      · exact relab_free hf
      · rcases lk with ⟨hl0, _⟩ | ⟨_, c, hc, o, ho, hd⟩
        · rcases hk with hk | hk <;> (rw [hk] at hl0; cases hl0)
        · obtain ⟨c', hc'⟩ := hcf _ hmem rfl
          have := hcl _ _ hc'
          rw [hc] at this
          cases this
          obtain ⟨sl, q'⟩ := un c o ho (I.freeC _ _ hc) (hx _ _ hc)
          exact ⟨c, hc', _, q', hd⟩
end
end L2

namespace L2
open PySem PySem.Spec PyProof.Rows
/-- what stands behind a comprehension's block: the new list tracked, the block's dict free to be let go -/
def CompFin (X : Cx) (pins : List (Addr × Obj)) (σ : St) (R : V → Hp → Prop) (acc : Value) (C : Addr) (s' : Shared) : Prop :=
  ∃ D H' m', acc = .ref D ∧ Inv X pins σ H' s' ∧ FpOk X pins H' C ∧ s'.heap.Ns C m' ∧ R (.ref D) H'
/-- the turns: by what the list holds so far -/
def compW (J : It) (σ0 : St) (H1 : Hp) (g : TG) (tt : TT) (te : TE) (Q : VK) : Prop := ∃ W : Nat → Nat → List V → Hp → Prop, (∃ m, W 0 m [] H1) ∧ ∀ i m ys H, W i m ys H →
  (J.stop i H ∧ ∀ p, H p = none → Q (.ref p) (upd H p (.lst ys))) ∨
  (J.go i H ∧ ys.length < sizeLine ∧ ∃ N : List V → Hp → Prop, (∀ zs H', N zs H' → ∃ m', m' < m ∧ W (i + 1) m' zs H') ∧ ∀ x H', J.yld i H x H' → g x σ0 H' fun σ2 H2 => tt σ2 H2 fun b H3 =>
    if b = true then te σ2 H3 (fun y H4 => N (ys ++ [y]) H4) else N ys H3)
def tComp (own : List Str) (capt : List (Str × Nat)) (wi : TI) (g : TG) (tt : TT) (te : TE) : TE := fun σ H Q => wi σ H fun J H1 => compW J (sComp own capt σ) H1 g tt te Q
section
variable {X : Cx} {pins : List (Addr × Obj)} {σ : St} {H2 : Hp} {s2 : Shared} {sc : Scope} {own : List Str} {capt : List (Str × Nat)} {cl : List (Str × Addr)} {el tg src : Expr} {tests : List Expr} {ps : Pos} {g : TG} {tt : TT} {te : TE}
theorem comp_block (hc : X.calm = true) (S : CompSc X sc own capt) (hcl : ∀ x c, cl.lookup x = some c → X.env.cells.lookup x = some c) (hcf : ∀ y ∈ sc.names, y.2 = .free → ∃ c, cl.lookup y.1 = some c)
    (hg : ∀ C s H fp, PG (cxComp X (nComp own capt) sc cl C s H fp) tg g) (ht : ∀ C s H fp, PTs (cxComp X (nComp own capt) sc cl C s H fp) tests tt) (he : ∀ C s H fp, PE (cxComp X (nComp own capt) sc cl C s H fp) el te)
    {it : Addr} {fp : List Addr} {tn : Nat → Heap → Prop} {J : It} (I2 : Inv X pins σ H2 s2) (T : Turn X.prog X.w X.K tg J fp it tn) (st2 : tn 0 s2.heap) (f2 : ∀ b ∈ fp, FpOk X pins H2 b)
    {R : VK} (h : compW J (sComp own capt σ) H2 g tt te R) {RR : Value → Addr → Result → Shared → Prop} (hRR : ∀ acc C s', CompFin X pins σ R acc C s' → RR acc C (.ok .next) s') {E : Value → Shared → Prop} :
    wpAny (model X.prog X.w) X.A (newList []) (fun acc s3 => wpAny (model X.prog X.w) X.A (newFunctionEnv sc X.env.globals cl [] X.env.qual none .none (some X.env)) (fun ce s4 =>
      codeAny (model X.prog X.w) X.A (.compStart (.ListComp el [⟨tg, src, tests, 0⟩] sc ps) 0 (.ref it) acc { ce with scope := relabel sc X.env }) (RR acc ce.locals) s4) E s3) E s2 := by
  obtain ⟨W, ⟨m0, w0⟩, turn⟩ := h
  refine wpAny_newObj_type (wpAny_newFunctionEnv S.nocell (by intro y hy; simp at hy) (fun h1 hns1 hsb1 => ?_) S.kind)
  dsimp only at hns1 hsb1 ⊢
  generalize hH3 : s2.heap.push { cls := .type "list", dict := none, data := .seq ([] : List Value).toArray } = h3 at hns1 hsb1 ⊢
  have hC : h3.objs.size = s2.heap.objs.size + 1 := by rw [← hH3, Heap.size_push]
  have below : ∀ b, b < s2.heap.objs.size → b ≠ h3.objs.size ∧ b ≠ s2.heap.objs.size := fun b hb => ⟨by omega, by omega⟩
  have hDC : s2.heap.objs.size ≠ h3.objs.size := by omega
  have old : ∀ b o, s2.heap.get? b = some o → h1.get? b = some o := fun b o e => hsb1.extBut b o (below b (Heap.lt_size e)).1 (Heap.get?_push_of_some _ (hH3 ▸ Heap.get?_push_of_some _ e))
  have hacc : h1.get? s2.heap.objs.size = some { cls := .type "list", data := .seq ([] : List Value).toArray 0 } := hsb1.extBut _ _ hDC (Heap.get?_push_of_some _ (hH3 ▸ Heap.get?_push_size _ rfl))
  have fpLt : ∀ b ∈ fp, b < s2.heap.objs.size := fun b hb => by
    obtain ⟨o, e, _⟩ := T.obj _ _ st2 b hb
    exact Heap.lt_size e
  have celLt : ∀ x c, X.env.cells.lookup x = some c → c < s2.heap.objs.size := fun x c e => by
    obtain ⟨v, o, q, _⟩ := I2.cell x c e
    exact Heap.lt_size q
  have frLt : ∀ b ∈ frs X.stack, b < s2.heap.objs.size := fun b hb => by
    obtain ⟨_, o, q, _⟩ := I2.stack.mem hb
    exact Heap.lt_size q
  have celFp : ∀ x c, X.env.cells.lookup x = some c → c ∉ fp := fun x c e hb => (f2 c hb).2.2.2.2.1 x c e rfl
  have fpFr : ∀ b ∈ fp, b ∉ frs X.stack := fun b hb hf => by
    rcases List.mem_cons.mp (I2.stkSub b hf) with z | z
    · exact (f2 b hb).2.1 z
    · exact (f2 b hb).2.2.1 z
  have okX : (cxComp X (nComp own capt) sc cl h3.objs.size s2 H2 fp).Ok := by
    refine ⟨I2.ok.mod, S.kind, I2.ok.glob, I2.ok.blt, (by show s2.heap.objs.size ≤ h3.objs.size; omega), fun x y c e1 e2 => I2.ok.inj x y c (hcl x c e1) (hcl y c e2), fun x hx => ?_, fun x c hx => (by cases hx), I2.ok.hd, I2.ok.frames, .inl rfl,
      fun b hb => ⟨(below b (fpLt b hb)).1, fun x c e z => celFp x c (hcl x c e) (z ▸ hb)⟩, I2.bs, Nat.le_trans I2.ok.bsz I2.sz, fun b o e hb => ?_, fpFr, I2.stack, I2.stkFree⟩
    · have hx' : (x, NameKind.free) ∈ sc.names := by
        rcases hx with hx | hx
        · exact relab_of hx (.inl rfl) S.nocell
        · exact relab_of hx (.inr rfl) S.nocell
      exact hcf _ hx' rfl
    · rcases (f2 b hb).2.2.2.1 with z | z
      · exact I2.ok.noex b o e z
      · have l1 : b < X.base.objs.size := Heap.lt_size e
        have l2 : X.base.objs.size ≤ X.s₀.heap.objs.size := I2.ok.bsz
        have l3 : X.s₀.heap.objs.size ≤ b := z
        exact absurd l1 (Nat.not_lt.mpr (Nat.le_trans l2 l3))
  have reset : ∀ {pl : List (Addr × Obj)} {σ' : St} {H' : Hp} {s' : Shared}, Inv (cxComp X (nComp own capt) sc cl h3.objs.size s2 H2 fp) pl σ' H' s' → Inv (cxComp X (nComp own capt) sc cl h3.objs.size s2 H2 fp) pl (sComp own capt σ) H' s' := fun {pl σ' H' s'} I' => by
    obtain ⟨m, hn, _⟩ := I'.loc
    refine ⟨I'.ok, I'.os, I'.bare, I'.base, ⟨m, hn, fun i x v e1 e2 _ => comp_look I2 S hcl hcf celFp (fun c o q n hx => I'.base.any q n hx) m i x v e1 e2⟩, I'.cell, I'.free, I'.freeC, I'.pin, I'.hok, ?_⟩
    show (sComp own capt σ).length = (nComp own capt).length
    simp [sComp, nComp]
  have start : Inv (cxComp X (nComp own capt) sc cl h3.objs.size s2 H2 fp) [(s2.heap.objs.size, { cls := .type "list", data := .seq ([] : List Value).toArray 0 })] (sComp own capt σ) H2 { s2 with heap := h1, toks := s2.toks + ([] : List (Str × Value)).length } := by
    refine ⟨okX, rfl, I2.bare, Un.kept old, ⟨_, hns1, fun i x v e1 e2 _ => comp_look I2 S hcl hcf celFp (fun c o q _ _ => ⟨o.slots, old c o q⟩) _ i x v e1 e2⟩, fun x c e => ?_, ?_, fun x c e => I2.freeC x c (hcl x c e), fun p hp => ?_, I2.hok.kept old, ?_⟩
    · obtain ⟨v, q⟩ := I2.cell x c (hcl x c e)
      exact ⟨v, q.keeps old⟩
    · exact I2.hok.fresh (by show s2.heap.objs.size ≤ h3.objs.size; omega)
    · have hp' : p = (s2.heap.objs.size, { cls := .type "list", data := .seq ([] : List Value).toArray 0 }) := by simpa using hp
      subst hp'
      exact ⟨hacc, I2.hok.fresh (Nat.le_refl _), hDC, fun z => Nat.lt_irrefl _ (frLt _ z), fun v z => by cases z⟩
    · show (sComp own capt σ).length = (nComp own capt).length
      simp [sComp, nComp]
  have fpOk : ∀ {pl : List (Addr × Obj)} {H' : Hp}, (∀ p ∈ pl, p.1 ∉ fp) → (∀ b ∈ fp, H' b = none) → ∀ b ∈ fp, FpOk (cxComp X (nComp own capt) sc cl h3.objs.size s2 H2 fp) pl H' b := fun {pl H'} hp hn b hb =>
    ⟨hn b hb, (below b (fpLt b hb)).1, fpFr b hb, .inl hb, fun x c e z => celFp x c (hcl x c e) (z ▸ hb), fun p hpp z => hp p (by simpa using hpp) (z ▸ hb)⟩
  have hDfp : s2.heap.objs.size ∉ fp := fun z => Nat.lt_irrefl _ (fpLt _ z)
  have loop : ∀ s3 : Shared, s3 = { s2 with heap := h1, toks := s2.toks + ([] : List (Str × Value)).length } →
      codeAny (model X.prog X.w) X.A (.compLoop (.ListComp el [⟨tg, src, tests, 0⟩] sc ps) 0 (.ref it) (.ref s2.heap.objs.size) (compEnvC sc cl h3.objs.size X.env)) (RR (.ref s2.heap.objs.size) h3.objs.size) s3 := by
    rintro s3 rfl
    refine comp_loop (fun n s' => ∃ i ys H' its k, Inv (cxComp X (nComp own capt) sc cl h3.objs.size s2 H2 fp) [(s2.heap.objs.size, { cls := .type "list", data := .seq (List.toArray its) k })] (sComp own capt σ) H' s' ∧ tn i s'.heap ∧ (∀ b ∈ fp, H' b = none) ∧ Vals ys its ∧ ys.length ≤ sizeLine ∧ W i n ys H') ?_ m0
      ⟨0, [], H2, [], 0, start, T.keep _ _ _ st2 fun b _ o e => old b o e, fun b hb => (f2 b hb).1, .nil, Nat.zero_le _, w0⟩
    rintro n s' ⟨i, ys, H', its, k, I', st', fr', hv, hz, w'⟩
    have pinD : ∀ p ∈ [((s2.heap.objs.size : Addr), ({ cls := .type "list", data := .seq (List.toArray its) k } : Obj))], p.1 ∉ fp := fun p hp => by
      have hp' : p = (s2.heap.objs.size, { cls := .type "list", data := .seq (List.toArray its) k }) := by simpa using hp
      subst hp'
      exact hDfp
    rcases turn i n ys H' w' with ⟨stop, q⟩ | ⟨go, hlt, N, hN, step⟩
    · refine thn (T.done (cxComp X (nComp own capt) sc cl h3.objs.size s2 H2 fp) rfl rfl rfl hc i _ s' _ H' NoX I' (fpOk pinD fr') st' stop) fun r s1 hr => ?_
      obtain ⟨hr, I1⟩ := hr
      subst hr
      obtain ⟨gD, nD, _, _, _⟩ := I1.pin _ (List.mem_append_right _ List.mem_cons_self)
      obtain ⟨m', hn', _⟩ := id I1.loc
      have un : Un (frs X.stack) fp H2 (upd H' s2.heap.objs.size (.lst ys)) s2.heap s1.heap := by
        have u := I1.base
        have nD2 : H2 s2.heap.objs.size = none := I2.hok.fresh (Nat.le_refl _)
        refine ⟨u.keep, u.slot, fun b o e n hx => ?_, u.there, fun b xs e => ?_, fun b o xs e => ?_, fun b ps' e => ?_⟩
        · rw [upd_ne (below b (Heap.lt_size e)).2]; exact u.free b o e n hx
        · rw [upd_ne (ne_of_none e nD2)]; exact u.tups b xs e
        · rw [upd_ne (ne_of_none e nD2)]; exact u.frzs b o xs e
        · obtain ⟨more, e'⟩ := u.tbls b ps' e
          exact ⟨more, by rw [upd_ne (ne_of_none e nD2)]; exact e'⟩
      have IX : Inv X pins σ (upd H' s2.heap.objs.size (.lst ys)) s1 := I2.call' I1.os un (I1.hok.track nD hv hz gD) I1.bare fun b hb => ⟨(f2 b hb).2.2.2.1, (f2 b hb).2.1, (f2 b hb).2.2.2.2.1, (f2 b hb).2.2.2.2.2⟩
      refine hRR _ _ _ ⟨_, _, m', rfl, IX, ?_, hn', q _ nD⟩
      exact I2.fpOk (by omega) (by rw [upd_ne hDC.symm]; exact I1.free)
    · refine thn (T.item (cxComp X (nComp own capt) sc cl h3.objs.size s2 H2 fp) rfl rfl rfl hc i _ s' _ H' NoX I' (fpOk pinD fr') st' go) fun r s1 hr => ?_
      obtain ⟨u, hr, h4⟩ := hr
      subst hr
      refine thn h4 fun _ s5 hr5 => ?_
      obtain ⟨x, H5, I5, r5, y5, st5, fr5⟩ := hr5
      have I5p := I5.pinned (fpOk pinD fr5) (T.obj _ _ st5)
      refine thn (hg _ _ _ _ _ s5 _ H5 x u _ I5p r5 (step x H5 y5)) fun _ s6 hr6 => ?_
      obtain ⟨σ6, H6, I6, q6⟩ := hr6
      refine thn (ht _ _ _ _ _ s6 σ6 H6 _ I6 q6) fun ok s7 hr7 => ?_
      obtain ⟨H7, I7, q7⟩ := hr7
      have memFp : ∀ {pl : List (Addr × Obj)} {b : Addr} {o : Obj}, b ∈ fp → s5.heap.get? b = some o → (b, o) ∈ ([] : List (Addr × Obj)) ++ (pl ++ pinsAt fp s5.heap) := fun hb e => List.mem_append_right _ (List.mem_append_right _ (mem_pinsAt hb e))
      cases ok with
      | false =>
        rw [if_neg Bool.false_ne_true] at q7 ⊢
        obtain ⟨m', hm, w7⟩ := hN _ _ q7
        refine ⟨m', hm, i + 1, ys, H7, its, k, reset (I7.pins_of fun p hp => I7.pin p (List.mem_append_right _ (List.mem_append_left _ hp))), T.keep _ _ _ st5 fun b hb o e => (I7.pin (b, o) (memFp hb e)).1, fun b hb => ?_, hv, hz, w7⟩
        obtain ⟨o, e, _⟩ := T.obj _ _ st5 b hb
        exact (I7.pin (b, o) (memFp hb e)).2.1
      | true =>
        rw [if_pos rfl] at q7 ⊢
        refine thn (he _ _ _ _ _ s7 σ6 H7 _ I7 q7) fun uv s8 hr8 => ?_
        obtain ⟨y, H8, I8, r8, q8⟩ := hr8
        obtain ⟨m', hm, w8⟩ := hN _ _ q8
        obtain ⟨gD, nD, dC, dF, _⟩ := I8.pin _ (List.mem_append_right _ (List.mem_append_left _ List.mem_cons_self))
        refine append_at gD (fun h9 sb hD9 => ?_) (by show (List.toArray its).size ≤ sizeLine; rw [List.size_toArray, ← hv.length]; exact hz)
        have I8a : Inv (cxComp X (nComp own capt) sc cl h3.objs.size s2 H2 fp) (pinsAt fp s5.heap) σ6 H8 s8 := I8.pins_of fun p hp => I8.pin p (List.mem_append_right _ (List.mem_append_right _ hp))
        have I9 : Inv (cxComp X (nComp own capt) sc cl h3.objs.size s2 H2 fp) (pinsAt fp s5.heap) σ6 H8 { s8 with heap := h9 } := I8a.turned (t' := s8.toks) (fun b o hb e => (sb.2 b hb).trans e) nD dC (.inr (Nat.le_refl _))
          (fun x c e z => Nat.lt_irrefl s2.heap.objs.size (by have := celLt x c (hcl x c e); rw [z] at this; exact this)) (fun p hp z => hDfp (z ▸ (of_pinsAt (by simpa using hp)).1))
        rw [List.push_toArray] at hD9
        refine ⟨m', hm, i + 1, ys ++ [y], H8, its ++ [uv], k + 1, (reset I9).pins_of fun p hp => ?_, T.keep _ _ _ st5 fun b hb o e => ?_, fun b hb => ?_, hv.append (.cons r8 .nil), by rw [List.length_append]; exact hlt, w8⟩
        · have hp' : p = (s2.heap.objs.size, { cls := .type "list", data := .seq (List.toArray (its ++ [uv])) (k + 1) }) := by simpa using hp
          subst hp'
          exact ⟨hD9, nD, dC, dF, fun v z => by cases z⟩
        · exact (I9.pin (b, o) (List.mem_append_right _ (mem_pinsAt hb e))).1
        · obtain ⟨o, e, _⟩ := T.obj _ _ st5 b hb
          exact (I9.pin (b, o) (List.mem_append_right _ (mem_pinsAt hb e))).2.1
  exact codeAny_compStart_list (loop _ rfl) (T.self _ 0 _ _ _ (T.keep _ _ _ st2 fun b _ o e => old b o e) (loop _ rfl))
end
section
variable {X : Cx} {sc : Scope} {own : List Str} {capt : List (Str × Nat)} {el tg src : Expr} {tests : List Expr} {ps pos : Pos} {wi : TI} {g : TG} {tt : TT} {te : TE}
theorem pe_comp (hc : X.calm = true) (S : CompSc X sc own capt) (hi : PI X tg src wi) (hg : ∀ cl C s H fp, PG (cxComp X (nComp own capt) sc cl C s H fp) tg g)
    (ht : ∀ cl C s H fp, PTs (cxComp X (nComp own capt) sc cl C s H fp) tests tt) (he : ∀ cl C s H fp, PE (cxComp X (nComp own capt) sc cl C s H fp) el te)
    (hs : ∀ x, foldedSetIterable src X.env x = pure x := by intro _; rfl) : PE X (.ListComp el [⟨tg, src, tests, 0⟩] sc ps) (tComp own capt wi g tt te) := by
  intro pins s σ H Q I h
  obtain ⟨cl, hclos, hcl, hcf⟩ := clos_ok (scope := sc) (env := X.env) fun y hy hk => I.ok.has y.1 (S.frees y hy hk)
  rw [eval_ListComp]
  refine wpAny_comprehension_free (use := none) rfl hs hclos S.kind S.locs (thn (hi pins s σ H _ I h) fun v s1 h1 => thn h1 fun itv s2 h2 => ?_)
  obtain ⟨it, fp, tn, J, H2, e, I2, T, st2, f2, hw⟩ := h2
  subst e
  refine comp_block hc S hcl hcf (hg cl) (ht cl) (he cl) I2 T st2 f2 hw (RR := fun acc C => compPost (model X.prog X.w) X.A X.xe none (EP X pins σ Q) acc C) fun acc C s' hf => ?_
  obtain ⟨D, H', m', rfl, I', f', ns', r⟩ := hf
  exact ⟨m', ns', fun h' sb => ⟨.ref D, H', I'.turned (t' := s'.toks) (fun b o hb e => (sb.2 b hb).trans e) f'.1 f'.2.1 f'.2.2.2.1 f'.2.2.2.2.1 f'.2.2.2.2.2, rfl, r⟩⟩
/-- name = [..]: the list is stored ahead of the block's names being let go -/
theorem ps_setC {i : Nat} {y : Str} {py : Pos} (hN : X.N.Nodup) (hiN : X.N[i]? = some y) (hy : Loc X.env.scope y) (hsw : swapsWith (.ListComp el [⟨tg, src, tests, 0⟩] sc ps) (some (.Name y py)) pos.line X.env = pure true)
    (hc : X.calm = true) (S : CompSc X sc own capt) (hi : PI X tg src wi) (hg : ∀ cl C s H fp, PG (cxComp X (nComp own capt) sc cl C s H fp) tg g)
    (ht : ∀ cl C s H fp, PTs (cxComp X (nComp own capt) sc cl C s H fp) tests tt) (he : ∀ cl C s H fp, PE (cxComp X (nComp own capt) sc cl C s H fp) el te)
    (hs : ∀ x, foldedSetIterable src X.env x = pure x := by intro _; rfl) (hf : X.fn y = true ∨ X.env.scope.names.lookup y = some .local := by first | exact .inl rfl | exact .inr rfl | assumption) :
    PS X (.Assign [.Name y py] (.ListComp el [⟨tg, src, tests, 0⟩] sc ps) pos) (tAsg (tComp own capt wi g tt te) (gName i)) := by
  intro pins s σ H D I h
  obtain ⟨cl, hclos, hcl, hcf⟩ := clos_ok (scope := sc) (env := X.env) fun y hy hk => I.ok.has y.1 (S.frees y hy hk)
  rw [exec_Assign_Name_used _ _ _ _ hsw]
  refine wpAny_bind (wpAny_standAt (wpAny_bind ?_))
  show wpAny _ X.A (do let _ ← comprehension (.ListComp el [⟨tg, src, tests, 0⟩] sc ps) sc X.env _ (newList []) false (eval src X.env) (some (assign (.Name y py) X.env))) _ _ s
  refine wpAny_bind (wpAny_mono (wpAny_comprehension_free (use := some (assign (.Name y py) X.env)) (Q := fun _ s' => SP X pins D .next s') rfl hs hclos S.kind S.locs
    (thn (hi pins s σ H _ I h) fun v s1 h1 => thn h1 fun itv s2 h2 => ?_)) (fun _ s' hq => wpAny_pure (wpAny_pure hq)) fun _ _ e => e)
  obtain ⟨it, fp, tn, J, H2, e, I2, T, st2, f2, hw⟩ := h2
  subst e
  refine comp_block hc S hcl hcf (hg cl) (ht cl) (he cl) I2 T st2 f2 hw (RR := fun acc C => compPost (model X.prog X.w) X.A X.xe (some (assign (.Name y py) X.env)) (fun _ s' => SP X pins D .next s') acc C) fun acc C s' hfn => ?_
  obtain ⟨DA, H', m', rfl, I', f', ns', r⟩ := hfn
  show wpAny _ X.A (assign (.Name y py) X.env (.ref DA)) _ _ _
  refine wpAny_assign_Name (store_ok2 (v := .ref DA) I' hN hiN hy rfl (fun s3 I3 ha => ?_) hf)
  obtain ⟨a, sb, ha⟩ := ha
  have hCa : C ≠ a := fun z => by
    rcases ha with q | q
    · exact f'.2.1 (z.trans q)
    · exact f'.2.2.2.2.1 _ _ q z.symm
  exact ⟨m', ns'.sameBut sb hCa, fun h' sb' => ⟨_, H', I3.turned (t' := s3.toks) (fun b o hb e => (sb'.2 b hb).trans e) f'.1 f'.2.1 f'.2.2.2.1 f'.2.2.2.2.1 f'.2.2.2.2.2, r⟩⟩
end
end L2

namespace L2
open PySem
section
variable {P : Program} {w : World} {A : Around} {E : Value → Shared → Prop} {s : Shared}
theorem nextOf_tup {r t : Addr} {k : Nat} {vs : Array Value} {x : Value} {Q : Value → Shared → Prop} (hr : s.heap.IsTupleIter r t k) (ht : s.heap.IsTuple t vs) (hx : vs[k]? = some x)
    (hQ : ∀ h', h'.IsTupleIter r t (k + 1) → Heap.SameBut r s.heap h' → Q x { s with heap := h' }) : wpAny (model P w) A (Builtin.SmallTypes.nextOf (.ref r)) Q E s := by
  obtain ⟨o, ho, hc, hd⟩ := id hr; obtain ⟨ot, hot, _, nt, hdt⟩ := ht; unfold Builtin.SmallTypes.nextOf
  refine wpAny_bind (wpAny_callSpecial?_slot (name := Str.ofString "__next__") hr.typeIs F.slot_tuple_iterator_next (wpAny_call_entry F.slot_tuple_iterator_next hr.typeIs F.entry_tuple_iterator_next ?_ (F.args_tuple_iterator_next_1 _)))
  show wpAny _ _ (field (.ref r) 0 >>= _) _ _ s
  refine wpAny_bind (wpAny_field ho hd (x := .ref t) rfl ?_); show wpAny _ _ (if (Value.ref t == Value.none) = true then _ else _) _ _ s
  rw [if_neg (show ¬ ((Value.ref t == Value.none) = true) from Bool.false_ne_true)]; show wpAny _ _ (field (.ref r) 1 >>= _) _ _ s
  refine wpAny_bind (wpAny_field ho hd (x := .int k 0) rfl ?_); show wpAny _ _ (seqItems? (.ref t) >>= _) _ _ s
  refine wpAny_bind (wpAny_seqItems hot hdt ?_); simp only [Int.toNat_natCast, hx]
  refine wpAny_bind (wpAny_setField ho hd (by simp) (wpAny_pure ⟨x, rfl, wpAny_pure (hQ _ ⟨_, Heap.get?_update_self _ ho (Obj.isFreed_of_fields (Obj.data_mapFields hd _)), (Obj.cls_mapFields ..).trans hc, by rw [Obj.data_mapFields hd]; simp [rawInt]⟩ (Heap.SameBut.update ..))⟩))
theorem nextOf_tupEnd {r t : Addr} {k : Nat} {vs : Array Value} {Q : Value → Shared → Prop} (hh : A.handled = none) (hr : s.heap.IsTupleIter r t k) (ht : s.heap.IsTuple t vs) (hx : vs[k]? = none)
    (hE : ∀ h' e, Heap.ExtBut r s.heap h' → (∃ o, h'.get? e = some o ∧ o.cls = .type "StopIteration") → E (.ref e) { s with heap := h' }) : wpAny (model P w) A (Builtin.SmallTypes.nextOf (.ref r)) Q E s := by
  obtain ⟨o, ho, hc, hd⟩ := id hr; obtain ⟨ot, hot, _, nt, hdt⟩ := ht; unfold Builtin.SmallTypes.nextOf
  refine wpAny_bind (wpAny_callSpecial?_slot (name := Str.ofString "__next__") hr.typeIs F.slot_tuple_iterator_next (wpAny_call_entry F.slot_tuple_iterator_next hr.typeIs F.entry_tuple_iterator_next ?_ (F.args_tuple_iterator_next_1 _)))
  show wpAny _ _ (field (.ref r) 0 >>= _) _ _ s
  refine wpAny_bind (wpAny_field ho hd (x := .ref t) rfl ?_); show wpAny _ _ (if (Value.ref t == Value.none) = true then _ else _) _ _ s
  rw [if_neg (show ¬ ((Value.ref t == Value.none) = true) from Bool.false_ne_true)]; show wpAny _ _ (field (.ref r) 1 >>= _) _ _ s
  refine wpAny_bind (wpAny_field ho hd (x := .int k 0) rfl ?_); show wpAny _ _ (seqItems? (.ref t) >>= _) _ _ s
  refine wpAny_bind (wpAny_seqItems hot hdt ?_); simp only [Int.toNat_natCast, hx]
  refine wpAny_bind (wpAny_rule (wpAny_bind (wpAny_setField ho hd (by simp) ?_))); show wpAny _ _ (newExc (.type "StopIteration") [] >>= _) _ _ _
  refine wpAny_bind ?_; simp only [newExc, newTuple]
  refine wpAny_bind (wpAny_newObj_type ?_ (by size_fits)); refine wpAny_bind (m := firstArgMember _ _) (wpAny_of_eq (a := Value.none) (by first | rfl | (simp only [firstArgMember]; rfl)) ?_)
  refine wpAny_newObj_type ?_ (by size_fits); simp only [raiseNew]; refine wpAny_bind (wpAny_handled ?_)
  first | rw [show A.in1.handled = none from hh] | rw [hh]
  refine wpAny_bind (wpAny_pure (wpAny_throw (hE _ _ (((Heap.SameBut.update ..).extBut.push _).push _) ⟨_, Heap.get?_push_size _ rfl, rfl⟩)))
/-- the next pair of a zip over two tuples -/
theorem zipT_item {z TI TO i1 i2 l1 l2 : Addr} {k : Nat} {xs ys : Array Value} {x y a b : Value} {Q : Option Value → Shared → Prop} (D : ZipApart z TI TO i1 i2 l1 l2) (hz : IsZip s.heap z TI TO .none)
    (hTI : IsPair s.heap TI (.ref i1) (.ref i2)) (hTO : IsPair s.heap TO a b) (h1 : s.heap.IsTupleIter i1 l1 k) (h2 : s.heap.IsTupleIter i2 l2 k) (hl1 : s.heap.IsTuple l1 xs) (hl2 : s.heap.IsTuple l2 ys)
    (hx : xs[k]? = some x) (hy : ys[k]? = some y)
    (hQ : ∀ h', IsZip h' z TI TO (rawInt s.heap.objs.size) → IsPair h' TO x y → h'.IsTupleIter i1 l1 (k + 1) → h'.IsTupleIter i2 l2 (k + 1) → IsPair h' s.heap.objs.size x y → h'.objs.size = s.heap.objs.size + 1 →
      (∀ c o, c ≠ z → c ≠ TO → c ≠ i1 → c ≠ i2 → s.heap.get? c = some o → h'.get? c = some o) → Q (some (.ref s.heap.objs.size)) { s with heap := h' }) : wpAny (model P w) A (pyNext (.ref z)) Q E s := by
  have hT : s.TypeIs (.ref z) "zip" := ⟨_, hz, rfl⟩
  unfold pyNext; refine wpAny_bind (wpAny_attempt (wpAny_callSpecial?_slot (name := Str.ofString "__next__") hT F.slot_zip_next (wpAny_call_entry F.slot_zip_next hT F.entry_zip_next ?_ (F.args_zip_next_1 _))))
  show wpAny _ _ (field (.ref z) 2 >>= _) _ _ _; refine wpAny_bind (wpAny_field hz rfl (x := .bool false) rfl ?_)
  show wpAny _ _ (field (.ref z) 3 >>= _) _ _ _; refine wpAny_bind (wpAny_field hz rfl (x := .ref TI) rfl ?_)
  refine wpAny_bind (wpAny_seqItems hTI rfl ?_); show wpAny _ _ (Builtin.SmallTypes.ownedTupleIsFree (.ref z) >>= _) _ _ _
  refine wpAny_bind ?_; unfold Builtin.SmallTypes.ownedTupleIsFree; refine wpAny_bind (wpAny_field hz rfl (x := .none) rfl (wpAny_pure ?_)); simp only [if_true]
  refine wpAny_bind (wpAny_rule (wpAny_bind (wpAny_field hz rfl (x := .ref TO) rfl (wpAny_bind (wpAny_setField_rec hz (by simp) fun g1 z1 e1 => ?_)))))
  replace z1 : IsZip g1 z TI TO .ellipsis := z1
  refine wpAny_bind ?_; simp only [List.zipIdx_cons, List.zipIdx_nil, List.forIn_cons, List.forIn_nil]
  refine wpAny_bind (wpAny_bind (wpAny_onRaise ?_)); show wpAny _ _ (Builtin.SmallTypes.nextOf (.ref i1) >>= _) _ _ _
  refine wpAny_bind (nextOf_tup (h1.extBut e1.extBut D.i1z) (hl1.extBut e1.extBut D.l1z) hx fun g2 r2 e2 => wpAny_pure ?_)
  have t2 : IsPair g2 TO a b := e2.extBut _ _ D.TOi1 (e1.extBut _ _ D.TOz hTO)
  refine wpAny_bind (wpAny_seqItems t2 rfl (wpAny_bind (wpAny_updateSeq_pair t2 fun g3 t3 e3 => ?_)))
  replace t3 : IsPair g3 TO x b := t3
  refine wpAny_bind (wpAny_letGo (wpAny_pure ?_)); refine wpAny_bind (wpAny_bind (wpAny_onRaise ?_)); show wpAny _ _ (Builtin.SmallTypes.nextOf (.ref i2) >>= _) _ _ _
  refine wpAny_bind (nextOf_tup (((h2.extBut e1.extBut D.i2z).extBut e2.extBut D.i12.symm).extBut e3.extBut D.TOi2.symm) (((hl2.extBut e1.extBut D.l2z).extBut e2.extBut D.l2i1).extBut e3.extBut D.l2TO) hy fun g4 r4 e4 => wpAny_pure ?_)
  have t4 : IsPair g4 TO x b := e4.extBut _ _ D.TOi2 t3
  refine wpAny_bind (wpAny_seqItems t4 rfl (wpAny_bind (wpAny_updateSeq_pair t4 fun g5 t5 e5 => ?_)))
  replace t5 : IsPair g5 TO x y := t5
  refine wpAny_bind (wpAny_letGo (wpAny_pure (wpAny_pure ?_))); refine wpAny_bind (wpAny_seqItems t5 rfl (wpAny_bind (wpAny_newTuple ?_)))
  have sz : g5.objs.size = s.heap.objs.size := by rw [e5.1, e4.1, e3.1, e2.1, e1.1]
  have z5 : IsZip g5 z TI TO .ellipsis := e5.extBut _ _ D.TOz.symm (e4.extBut _ _ D.i2z.symm (e3.extBut _ _ D.TOz.symm (e2.extBut _ _ D.i1z.symm z1)))
  have kp : ∀ c o, c ≠ z → c ≠ TO → c ≠ i1 → c ≠ i2 → s.heap.get? c = some o → g5.get? c = some o := fun c o c1 c2 c3 c4 e => e5.extBut _ _ c2 (e4.extBut _ _ c4 (e3.extBut _ _ c2 (e2.extBut _ _ c3 (e1.extBut _ _ c1 e))))
  have r1 : g5.IsTupleIter i1 l1 (k + 1) := ((r2.extBut e3.extBut D.TOi1.symm).extBut e4.extBut D.i12).extBut e5.extBut D.TOi1.symm
  have r5 : g5.IsTupleIter i2 l2 (k + 1) := r4.extBut e5.extBut D.TOi2.symm
  have zl : z < g5.objs.size := Heap.lt_size z5
  show wpAny _ _ (Builtin.SmallTypes.ownedTupleHandOut (.ref z) (.ref g5.objs.size) >>= _) _ _ _
  refine wpAny_bind ?_; unfold Builtin.SmallTypes.ownedTupleHandOut
  have z6 : IsZip (g5.push { cls := .type "tuple", data := .seq #[x, y] }) z TI TO .ellipsis := Heap.get?_push_of_some _ z5
  refine wpAny_bind (wpAny_setField_rec z6 (by simp) fun g7 z7 e7 => ?_)
  replace z7 : IsZip g7 z TI TO (rawInt g5.objs.size) := z7
  refine wpAny_setField_rec z7 (by simp) fun g8 z8 e8 => ?_
  replace z8 : IsZip g8 z TI TO (rawInt g5.objs.size) := z8
  have up : ∀ c o, c ≠ z → g5.get? c = some o → g8.get? c = some o := fun c o c1 e => e8.extBut _ _ c1 (e7.extBut _ _ c1 (Heap.get?_push_of_some _ e))
  have t8 : IsPair g8 g5.objs.size x y := e8.extBut _ _ (Nat.ne_of_gt zl) (e7.extBut _ _ (Nat.ne_of_gt zl) (Heap.get?_push_size _ rfl))
  have s8 : g8.objs.size = g5.objs.size + 1 := by rw [e8.1, e7.1, Heap.size_push]
  rw [sz] at z8 t8 s8
  refine wpAny_pure ⟨_, rfl, ?_⟩; refine wpAny_pure ?_; show Q (some (.ref g5.objs.size)) _; rw [sz]
  exact hQ g8 z8 (up _ _ D.TOz t5) (by obtain ⟨o, ho, q⟩ := r1; exact ⟨o, up _ o D.i1z ho, q⟩) (by obtain ⟨o, ho, q⟩ := r5; exact ⟨o, up _ o D.i2z ho, q⟩) t8 s8 fun c o c1 c2 c3 c4 e => up c o c1 (kp c o c1 c2 c3 c4 e)
theorem zipT_end {z TI TO i1 i2 l1 l2 : Addr} {k : Nat} {xs ys : Array Value} {a b : Value} {Q : Option Value → Shared → Prop} (hh : A.handled = none) (D : ZipApart z TI TO i1 i2 l1 l2) (hz : IsZip s.heap z TI TO .none)
    (hTI : IsPair s.heap TI (.ref i1) (.ref i2)) (hTO : IsPair s.heap TO a b) (h1 : s.heap.IsTupleIter i1 l1 k) (h2 : s.heap.IsTupleIter i2 l2 k) (hl1 : s.heap.IsTuple l1 xs) (hl2 : s.heap.IsTuple l2 ys)
    (hend : xs[k]? = none ∨ ys[k]? = none) (hQ : ∀ h', (∀ c o, c ≠ z → c ≠ TO → c ≠ i1 → c ≠ i2 → s.heap.get? c = some o → h'.get? c = some o) → Q none { s with heap := h' }) : wpAny (model P w) A (pyNext (.ref z)) Q E s := by
  have hT : s.TypeIs (.ref z) "zip" := ⟨_, hz, rfl⟩
  have fin : ∀ (h' : Heap) (e : Addr), (∀ c o, c ≠ z → c ≠ TO → c ≠ i1 → c ≠ i2 → s.heap.get? c = some o → h'.get? c = some o) → (∃ o, h'.get? e = some o ∧ o.cls = .type "StopIteration") →
      wpAny (model P w) A (isInstance (.ref e) (.type "StopIteration") >>= fun b => if b = true then pure none else throw (.ref e)) Q E { s with heap := h' } := fun h' e kp he => by
    obtain ⟨o, ho, hc⟩ := he
    exact wpAny_bind (wpAny_isInstance (T := "StopIteration") (b := true) ⟨o, ho, hc⟩ isSubtype_stop (wpAny_pure (hQ _ kp)))
  unfold pyNext; refine wpAny_bind (wpAny_attempt (wpAny_callSpecial?_slot (name := Str.ofString "__next__") hT F.slot_zip_next (wpAny_call_entry F.slot_zip_next hT F.entry_zip_next ?_ (F.args_zip_next_1 _))))
  show wpAny _ _ (field (.ref z) 2 >>= _) _ _ _; refine wpAny_bind (wpAny_field hz rfl (x := .bool false) rfl ?_)
  show wpAny _ _ (field (.ref z) 3 >>= _) _ _ _; refine wpAny_bind (wpAny_field hz rfl (x := .ref TI) rfl ?_)
  refine wpAny_bind (wpAny_seqItems hTI rfl ?_); show wpAny _ _ (Builtin.SmallTypes.ownedTupleIsFree (.ref z) >>= _) _ _ _
  refine wpAny_bind ?_; unfold Builtin.SmallTypes.ownedTupleIsFree; refine wpAny_bind (wpAny_field hz rfl (x := .none) rfl (wpAny_pure ?_)); simp only [if_true]
  refine wpAny_bind (wpAny_rule (wpAny_bind (wpAny_field hz rfl (x := .ref TO) rfl (wpAny_bind (wpAny_setField_rec hz (by simp) fun g1 z1 e1 => ?_)))))
  replace z1 : IsZip g1 z TI TO .ellipsis := z1
  refine wpAny_bind ?_; simp only [List.zipIdx_cons, List.zipIdx_nil, List.forIn_cons, List.forIn_nil]
  refine wpAny_bind (wpAny_bind (wpAny_onRaise ?_)); show wpAny _ _ (Builtin.SmallTypes.nextOf (.ref i1) >>= _) _ _ _
  cases hx : xs[k]? with
  | none =>
    refine wpAny_bind (nextOf_tupEnd hh (h1.extBut e1.extBut D.i1z) (hl1.extBut e1.extBut D.l1z) hx fun g2 e e2 he => ?_)
    obtain ⟨oe, hoe, hce⟩ := he
    have z2 : IsZip g2 z TI TO .ellipsis := e2 _ _ D.i1z.symm z1
    have hez : e ≠ z := fun q => by subst q; rw [z2] at hoe; cases hoe; simp at hce
    exact wpAny_setField_rec z2 (by simp) fun g3 _ e3 => fin g3 e (fun c o c1 _ c3 _ q => e3.extBut _ _ c1 (e2 _ _ c3 (e1.extBut _ _ c1 q))) ⟨oe, e3.extBut _ _ hez hoe, hce⟩
  | some x =>
    have hy : ys[k]? = none := by rcases hend with q | q; rw [hx] at q; cases q; exact q
    refine wpAny_bind (nextOf_tup (h1.extBut e1.extBut D.i1z) (hl1.extBut e1.extBut D.l1z) hx fun g2 r2 e2 => wpAny_pure ?_)
    have t2 : IsPair g2 TO a b := e2.extBut _ _ D.TOi1 (e1.extBut _ _ D.TOz hTO)
    refine wpAny_bind (wpAny_seqItems t2 rfl (wpAny_bind (wpAny_updateSeq_pair t2 fun g3 t3 e3 => ?_)))
    refine wpAny_bind (wpAny_letGo (wpAny_pure ?_)); refine wpAny_bind (wpAny_bind (wpAny_onRaise ?_)); show wpAny _ _ (Builtin.SmallTypes.nextOf (.ref i2) >>= _) _ _ _
    refine wpAny_bind (nextOf_tupEnd hh (((h2.extBut e1.extBut D.i2z).extBut e2.extBut D.i12.symm).extBut e3.extBut D.TOi2.symm) (((hl2.extBut e1.extBut D.l2z).extBut e2.extBut D.l2i1).extBut e3.extBut D.l2TO) hy fun g4 e e4 he => ?_)
    obtain ⟨oe, hoe, hce⟩ := he
    have z4 : IsZip g4 z TI TO .ellipsis := e4 _ _ D.i2z.symm (e3.extBut _ _ D.TOz.symm (e2.extBut _ _ D.i1z.symm z1))
    have hez : e ≠ z := fun q => by subst q; rw [z4] at hoe; cases hoe; simp at hce
    exact wpAny_setField_rec z4 (by simp) fun g5 _ e5 => fin g5 e (fun c o c1 c2 c3 c4 q => e5.extBut _ _ c1 (e4 _ _ c4 (e3.extBut _ _ c2 (e2.extBut _ _ c3 (e1.extBut _ _ c1 q))))) ⟨oe, e5.extBut _ _ hez hoe, hce⟩
abbrev zT1 (h : Heap) (l1 : Addr) : Heap := h.push { cls := .type "tuple_iterator", data := .fields #[.ref l1, .int 0 0] }
abbrev zT2 (h : Heap) (l1 l2 : Addr) : Heap := (zT1 h l1).push { cls := .type "tuple_iterator", data := .fields #[.ref l2, .int 0 0] }
abbrev zT3 (h : Heap) (l1 l2 : Addr) : Heap := (zT2 h l1 l2).push { cls := .type "tuple", data := .seq #[.ref h.objs.size, .ref (zT1 h l1).objs.size] }
abbrev zT4 (h : Heap) (l1 l2 : Addr) : Heap := (zT3 h l1 l2).push { cls := .type "tuple", data := .seq #[.none, .none] }
abbrev zT5 (h : Heap) (l1 l2 : Addr) : Heap := (zT4 h l1 l2).push { cls := .type "zip", data := .fields #[.none, .bool false, .bool false, .ref (zT2 h l1 l2).objs.size, .ref (zT3 h l1 l2).objs.size] }
theorem meets_zipT (l1 l2 : Addr) (xs ys : Array Value) :
    Meets (Builtin.«zip.__new__» ⟨[.type "zip", .ref l1, .ref l2], []⟩) (fun _ R s => s.heap.IsTuple l1 xs ∧ s.heap.IsTuple l2 ys ∧ R (.ok (.ret (.ref (zT4 s.heap l1 l2).objs.size))) { s with heap := zT5 s.heap l1 l2 }) :=
  .of_wp fun P w A R s h => by
    obtain ⟨hp, g, d, tk, os⟩ := s; obtain ⟨hl1, hl2, h⟩ := h
    have hsub := sub_zip
    have hL1 : Heap.IsTuple (Shared.heap ⟨hp, g, d, tk, os⟩) l1 xs := hl1
    have hL2 : Heap.IsTuple (Shared.heap ⟨hp.push { cls := .type "tuple_iterator", data := .fields #[.ref l1, .int 0 0] }, g, d, tk, os⟩) l2 ys := Heap.IsTuple.push hl2 _
    wp_walk using wpAny_pyIter_tuple hL1, wpAny_pyIter_tuple hL2
    exact ⟨_, rfl, h⟩
theorem call_zipT {l1 l2 : Addr} {xs ys : Array Value} {Q : Value → Shared → Prop} (hl1 : s.heap.IsTuple l1 xs) (hl2 : s.heap.IsTuple l2 ys)
    (h : ∀ h', IsZip h' (s.heap.objs.size + 4) (s.heap.objs.size + 2) (s.heap.objs.size + 3) .none → IsPair h' (s.heap.objs.size + 2) (.ref s.heap.objs.size) (.ref (s.heap.objs.size + 1)) → IsPair h' (s.heap.objs.size + 3) .none .none →
      h'.IsTupleIter s.heap.objs.size l1 0 → h'.IsTupleIter (s.heap.objs.size + 1) l2 0 → (∀ c o, s.heap.get? c = some o → h'.get? c = some o) → Q (.ref (s.heap.objs.size + 4)) { s with heap := h' }) :
    wpAny (model P w) A (call (.type "zip") [.ref l1, .ref l2]) Q E s := by
  refine callType_new F.called_zip (by decide) (F.typeCall_zip_2 _ _) (F.newCall_zip_2 _ _) (fun obj => F.args_object_init_3 obj _ _) F.entry_zip_new (meets_zipT l1 l2 xs ys) ⟨hl1, hl2, ?_⟩
  have n1 : (zT1 s.heap l1).objs.size = s.heap.objs.size + 1 := Heap.size_push ..
  have n2 : (zT2 s.heap l1 l2).objs.size = s.heap.objs.size + 2 := by rw [Heap.size_push, n1]
  have n3 : (zT3 s.heap l1 l2).objs.size = s.heap.objs.size + 3 := by rw [Heap.size_push, n2]
  have n4 : (zT4 s.heap l1 l2).objs.size = s.heap.objs.size + 4 := by rw [Heap.size_push, n3]
  have g5 : (zT5 s.heap l1 l2).get? (zT4 s.heap l1 l2).objs.size = some _ := Heap.get?_push_size _ rfl
  have g4 : (zT5 s.heap l1 l2).get? (zT3 s.heap l1 l2).objs.size = some _ := Heap.get?_push_of_some _ (Heap.get?_push_size _ rfl)
  have g3 : (zT5 s.heap l1 l2).get? (zT2 s.heap l1 l2).objs.size = some _ := Heap.get?_push_of_some _ (Heap.get?_push_of_some _ (Heap.get?_push_size _ rfl))
  have g2 : (zT5 s.heap l1 l2).get? (zT1 s.heap l1).objs.size = some _ := Heap.get?_push_of_some _ (Heap.get?_push_of_some _ (Heap.get?_push_of_some _ (Heap.get?_push_size _ rfl)))
  have g1 : (zT5 s.heap l1 l2).get? s.heap.objs.size = some _ := Heap.get?_push_of_some _ (Heap.get?_push_of_some _ (Heap.get?_push_of_some _ (Heap.get?_push_of_some _ (Heap.get?_push_size _ rfl))))
  show _ ∧ _; rw [n2, n3, n4] at g5; rw [n1, n2] at g3; rw [n3] at g4; rw [n1] at g2; rw [n4]
  exact ⟨⟨_, g5, rfl⟩, h _ g5 g3 g4 ⟨_, g1, rfl, rfl⟩ ⟨_, g2, rfl, rfl⟩ fun c o q => Heap.get?_push_of_some _ (Heap.get?_push_of_some _ (Heap.get?_push_of_some _ (Heap.get?_push_of_some _ (Heap.get?_push_of_some _ q))))⟩
end
end L2

namespace L2
open PySem PySem.Spec PyProof.Rows
section
variable {X : Cx} {pins : List (Addr × Obj)} {σ : St} {H : Hp} {s : Shared} {h' : Heap}
/-- several records of ours have turned -/
theorem Inv.turnedL {t' : Nat} {ch : List Addr} (I : Inv X pins σ H s) (hf : ∀ b ∈ ch, FpOk X pins H b) (k : ∀ b o, b ∉ ch → s.heap.get? b = some o → h'.get? b = some o) : Inv X pins σ H { s with heap := h', toks := t' } := by
  have nch : ∀ b u, H b = some u → b ∉ ch := fun b u e z => by rw [(hf b z).1] at e; cases e
  refine I.step (g' := s.gens) (d' := s.drawn) (ch := ch) (fun b hb => ⟨(hf b hb).2.2.2.1, (hf b hb).2.1, (hf b hb).2.2.2.2.1, (hf b hb).2.2.2.2.2⟩) (fun b o _ _ hc e _ => k b o hc e) (fun b o _ _ hc e _ => ⟨o.slots, k b o hc e⟩) (fun _ _ _ _ n => n)
    (fun b o hc e => ⟨o, k b o hc e⟩) (fun _ _ e => e) (fun _ _ _ e => e) (fun b ps e => ⟨#[], by rw [e]; simp⟩) (fun m hm => ?_) (fun b u e => ?_) I.bare
  · obtain ⟨o, es, ep, ho, r⟩ := hm
    exact ⟨o, es, ep, k _ o (fun z => (hf _ z).2.1 rfl) ho, r⟩
  · refine (I.hok b u e).stay (fun c v hc q => k c v ?_ q) (fun _ q => q) fun _ _ q => q
    rcases hc with z | z
    · rw [z]; exact nch b u e
    · exact nch c _ z
/-- a thing of ours is tracked from here on -/
theorem Inv.track {T : Addr} {o : HO} (I : Inv X pins σ H s) (f : FpOk X pins H T) (h0 : X.s₀.heap.objs.size ≤ T) (hok : HOk X.prog X.w (upd H T o) s.heap) : Inv X pins σ (upd H T o) s := by
  have u := I.base
  refine ⟨I.ok, I.os, I.bare, ⟨u.keep, u.slot, fun b ob e n hx => ?_, u.there, fun b xs e => ?_, fun b ob xs e => ?_, fun b ps e => ?_⟩, I.loc, I.cell, ?_, fun x c e => ?_, fun p hp => ?_, hok, I.len⟩
  · rw [upd_ne (Nat.ne_of_lt (Nat.lt_of_lt_of_le (Heap.lt_size e) h0))]; exact u.free b ob e n hx
  · have z := u.tups b xs e; rw [upd_ne (ne_of_none z f.1)]; exact z
  · have z := u.frzs b ob xs e; rw [upd_ne (ne_of_none z f.1)]; exact z
  · obtain ⟨more, z⟩ := u.tbls b ps e
    exact ⟨more, by rw [upd_ne (ne_of_none z f.1)]; exact z⟩
  · rw [upd_ne f.2.1.symm]; exact I.free
  · rw [upd_ne (f.2.2.2.2.1 x c e)]; exact I.freeC x c e
  · obtain ⟨e, n, r⟩ := I.pin p hp
    exact ⟨e, by rw [upd_ne (f.2.2.2.2.2 p hp)]; exact n, r⟩
theorem HOk.trackT {P : Program} {w : World} {H : Hp} {h : Heap} {D : Addr} {ys : List V} {its : List Value} (x : HOk P w H h) (hn : H D = none) (hv : Vals ys its) (hz : ys.length ≤ sizeLine) (ho : IsTup h D its.toArray) : HOk P w (upd H D (.tup ys)) h := fun b u e => by
  by_cases hb : b = D
  · subst hb; rw [upd_same] at e; cases e; exact ⟨hz, its, hv, ho⟩
  · rw [upd_ne hb] at e
    exact (x b u e).stay (fun c v _ q => q) (fun c q => by rw [upd_ne (ne_of_none q hn)]; exact q) fun c xs q => by rw [upd_ne (ne_of_none q hn)]; exact q
end
/-! ### zip of two tuples -/
def Itz (K : PySem.W.Frag) (a b : Addr) : It :=
  ⟨fun i H => ∃ xs ys x y, SqT K H a xs ∧ SqT K H b ys ∧ xs[i]? = some x ∧ ys[i]? = some y,
   fun i H v H' => ∃ T, v = .ref T ∧ H T = none ∧ ∀ xs ys x y, SqT K H a xs → SqT K H b ys → xs[i]? = some x → ys[i]? = some y → H' = upd H T (.tup [x, y]),
   fun i H => ∃ xs ys, SqT K H a xs ∧ SqT K H b ys ∧ (xs.length ≤ i ∨ ys.length ≤ i)⟩
theorem turn_zip {P : Program} {w : World} {K : PySem.W.Frag} {es : List Expr} {ek : Nat} {ep : Pos} {a b z TI TO i1 i2 : Addr} (D : ZipApart z TI TO i1 i2 a b) :
    Turn P w K (.Tuple es ek ep) (Itz K a b) [z, TI, TO, i1, i2] z (fun i h => IsZip h z TI TO .none ∧ IsPair h TI (.ref i1) (.ref i2) ∧ (∃ p q, IsPair h TO p q) ∧ h.IsTupleIter i1 a i ∧ h.IsTupleIter i2 b i) where
  mem := by simp
  obj := fun i h st c hc => by
    obtain ⟨hz, hTI, ⟨p, q, hTO⟩, ⟨o1, h1, c1, d1⟩, ⟨o2, h2, c2, d2⟩⟩ := st
    simp only [List.mem_cons, List.not_mem_nil, or_false] at hc
    rcases hc with rfl | rfl | rfl | rfl | rfl
    · exact ⟨_, hz, fun v e => by cases e⟩
    · exact ⟨_, hTI, fun v e => by cases e⟩
    · exact ⟨_, hTO, fun v e => by cases e⟩
    · exact ⟨_, h1, fun v e => by rw [d1] at e; cases e⟩
    · exact ⟨_, h2, fun v e => by rw [d2] at e; cases e⟩
  keep := fun i h h' st k => by
    obtain ⟨hz, hTI, ⟨p, q, hTO⟩, ⟨o1, h1, r1⟩, ⟨o2, h2, r2⟩⟩ := st
    exact ⟨k z (by simp) _ hz, k TI (by simp) _ hTI, ⟨p, q, k TO (by simp) _ hTO⟩, ⟨o1, k i1 (by simp) _ h1, r1⟩, ⟨o2, k i2 (by simp) _ h2, r2⟩⟩
  item := by
    intro X hP hw hK hc i pins s σ H E I hf st hg
    subst hP hw hK
    obtain ⟨xs, ys, x, y, hq1, hq2, hx, hy⟩ := hg
    obtain ⟨v1, rv1, p1, z1⟩ := I.tuple hq1
    obtain ⟨v2, rv2, p2, z2⟩ := I.tuple hq2
    obtain ⟨u1, hu1, ru1⟩ := rv1.get hx
    obtain ⟨u2, hu2, ru2⟩ := rv2.get hy
    obtain ⟨hz, hTI, ⟨p, q, hTO⟩, h1, h2⟩ := st
    refine zipT_item D hz hTI hTO h1 h2 p1 p2 (x := u1) (y := u2) (by simpa using hu1) (by simpa using hu2) fun g1 gz gTO g1' g2' gT gs kp => ⟨_, rfl, ?_⟩
    refine wpAny_letOwnedTupleGo_zip (s := { s with heap := g1 }) gz fun g2 gz2 sb => ?_
    have hT : H s.heap.objs.size = none := I.hok.fresh (Nat.le_refl _)
    have kall : ∀ c o, c ∉ [z, TI, TO, i1, i2] → s.heap.get? c = some o → g2.get? c = some o := fun c o hc e => by
      simp only [List.mem_cons, List.not_mem_nil, or_false, not_or] at hc
      exact sb.extBut _ _ hc.1 (kp c o hc.1 hc.2.2.1 hc.2.2.2.1 hc.2.2.2.2 e)
    have I2 : Inv X pins σ H { s with heap := g2 } := I.turnedL (t' := s.toks) hf kall
    have fT : FpOk X pins H s.heap.objs.size := I.fpOk (Nat.le_refl _) hT
    have gT2 : g2.get? s.heap.objs.size = some { cls := .type "tuple", data := .seq #[u1, u2] } := sb.extBut _ _ (fun e => Nat.lt_irrefl _ (by have := Heap.lt_size hz; rw [← e] at this; exact this)) gT
    have I3 : Inv X pins σ (upd H s.heap.objs.size (.tup [x, y])) { s with heap := g2 } := I2.track fT I.sz (I2.hok.trackT hT (its := [u1, u2]) (.cons ru1 (.cons ru2 .nil)) (by show 2 ≤ sizeLine; rw [sizeLine_eq]; decide) ⟨_, gT2, rfl, _, rfl⟩)
    have TI0 : IsPair g2 TI (.ref i1) (.ref i2) := sb.extBut _ _ D.TIz (kp _ _ D.TIz D.TITO D.TIi1 D.TIi2 hTI)
    refine ⟨.ref s.heap.objs.size, _, I3, rfl, ⟨_, rfl, hT, fun xs' ys' x' y' e1 e2 e3 e4 => ?_⟩, ⟨gz2, TI0, ⟨_, _, sb.extBut _ _ D.TOz gTO⟩, g1'.extBut sb.extBut D.i1z, g2'.extBut sb.extBut D.i2z⟩, fun c hc => ?_⟩
    · rw [I.tuple_inj e1 hq1] at e3
      rw [I.tuple_inj e2 hq2] at e4
      rw [hx] at e3; rw [hy] at e4
      cases e3; cases e4; rfl
    · rw [upd_ne]
      · exact (hf c hc).1
      · intro e
        simp only [List.mem_cons, List.not_mem_nil, or_false] at hc
        rcases hc with hc | hc | hc | hc | hc
        · exact Nat.lt_irrefl _ (by have := Heap.lt_size hz; rw [← hc, e] at this; exact this)
        · exact Nat.lt_irrefl _ (by have := Heap.lt_size hTI; rw [← hc, e] at this; exact this)
        · exact Nat.lt_irrefl _ (by have := Heap.lt_size hTO; rw [← hc, e] at this; exact this)
        · obtain ⟨o, ho, _⟩ := h1; exact Nat.lt_irrefl _ (by have := Heap.lt_size ho; rw [← hc, e] at this; exact this)
        · obtain ⟨o, ho, _⟩ := h2; exact Nat.lt_irrefl _ (by have := Heap.lt_size ho; rw [← hc, e] at this; exact this)
  done := by
    intro X hP hw hK hc i pins s σ H E I hf st hg
    subst hP hw hK
    obtain ⟨xs, ys, hq1, hq2, hend⟩ := hg
    obtain ⟨v1, rv1, p1, z1⟩ := I.tuple hq1
    obtain ⟨v2, rv2, p2, z2⟩ := I.tuple hq2
    obtain ⟨hz, hTI, ⟨p, q, hTO⟩, h1, h2⟩ := st
    have l1 := rv1.length
    have l2 := rv2.length
    refine zipT_end (I.ok.hd hc) D hz hTI hTO h1 h2 p1 p2 (hend.elim (fun e => .inl (by simp; omega)) fun e => .inr (by simp; omega)) fun g kp => ⟨rfl, I.turnedL (t' := s.toks) hf fun c o hcn e => ?_⟩
    simp only [List.mem_cons, List.not_mem_nil, or_false, not_or] at hcn
    exact kp c o hcn.1 hcn.2.2.1 hcn.2.2.2.1 hcn.2.2.2.2 e
  self := fun _ _ _ _ _ st h => wpAny_pyIter_zip st.1 h
def iZip (K : PySem.W.Frag) (ta : TA) : TI := fun σ H R => ta σ H fun vs H1 => ∃ a b, vs = [.ref a, .ref b] ∧ (∃ xs, SqT K H1 a xs) ∧ (∃ ys, SqT K H1 b ys) ∧ R (Itz K a b) H1
theorem boot_zip : bootBuiltins "zip" = some (.type "zip") := by decide +kernel
theorem pi_zip {X : Cx} {a b : Expr} {es : List Expr} {ek : Nat} {ep : Pos} {ta : TA} {p pos : Pos} (hg : Gl X "zip") (hm : X.mg "zip" = none) (ha : PA X [a, b] ta) (hs : starEach [a, b] X.env = [(false, eval a X.env), (false, eval b X.env)] := by rfl) (hs2 : starEach [b] X.env = [(false, eval b X.env)] := by rfl) :
    PI X (.Tuple es ek ep) (.Call (.Name "zip" p) [a, b] [] pos) (iZip X.K ta) := by
  intro pins s σ H R I h
  refine Call_ (ld_blt I hg hm boot_zip (PyProof.Rows.callWith_type1 (thn (ha pos pins s σ H _ I h) fun us s1 ⟨vs, H1, I1, r1, q1⟩ => ?_) (by rw [hs, hs2]) (by rw [hs2]; rfl)))
  obtain ⟨l1, l2, e, ⟨xs, hq1⟩, ⟨ys, hq2⟩, q⟩ := q1
  subst e
  obtain ⟨u, w', rfl, r, r'⟩ := vals2 r1
  cases r; cases r'
  obtain ⟨v1, rv1, p1, z1⟩ := I1.tuple hq1
  obtain ⟨v2, rv2, p2, z2⟩ := I1.tuple hq2
  have a1 : l1 < s1.heap.objs.size := by obtain ⟨_, e, _⟩ := p1; exact Heap.lt_size e
  have a2 : l2 < s1.heap.objs.size := by obtain ⟨_, e, _⟩ := p2; exact Heap.lt_size e
  refine call_zipT p1 p2 fun h' hz hTI hTO h1 h2 kp => wpAny_pyIter_zip (s := { s1 with heap := h' }) hz ?_
  refine ⟨_, [s1.heap.objs.size + 4, s1.heap.objs.size + 2, s1.heap.objs.size + 3, s1.heap.objs.size, s1.heap.objs.size + 1], _, _, H1, rfl, I1.kept (t' := s1.toks) kp, turn_zip (PyProof.Rows.zipApart_new a1 a2), ⟨hz, hTI, ⟨_, _, hTO⟩, h1, h2⟩, fun c hc => ?_, q⟩
  have hc' : s1.heap.objs.size ≤ c := by
    simp only [List.mem_cons, List.not_mem_nil, or_false] at hc
    rcases hc with rfl | rfl | rfl | rfl | rfl
    · exact Nat.le_add_right _ 4
    · exact Nat.le_add_right _ 2
    · exact Nat.le_add_right _ 3
    · exact Nat.le_refl _
    · exact Nat.le_add_right _ 1
  exact I1.fpOk hc' (I1.hok.fresh hc')
/-! ### all of a list of bools -/
theorem call_all {X : Cx} (hc : X.calm = true) : CallR X (.builtin "all") (fun xs H Q => ∃ (a : Addr) (bs : List Bool), xs = [.ref a] ∧ SqL X.K H a (bs.map V.bl) ∧ Q (.bl (bs.all id)) H) := by
  intro pins s σ H xs us Q I r h
  obtain ⟨a, bs, rfl, hq, q⟩ := h
  obtain ⟨u, rfl, rx⟩ := vals1 r
  cases rx
  obtain ⟨its, rv, pl, hz⟩ := I.list hq
  have hlt : a < s.heap.objs.size := by obtain ⟨_, e, _⟩ := pl.isList; exact Heap.lt_size e
  have hlen : its.length = bs.length := by have := rv.length; simpa using this.symm
  refine call_all_walk (wpAny_pyIter_list pl.isList ⟨_, _, _, _, _, _, fun i => (bs[i]?).getD true, rfl, Walks.list (by exact I.ok.hd hc) s.heap.objs.size a (Nat.ne_of_lt hlt) its.toArray, ⟨⟨_, Heap.get?_push_size _ rfl, rfl, rfl⟩, pl.isList.push _⟩, ?_, ?_⟩)
  · intro i v s' Q' E' hP hQ
    have hP' : its[i]? = some v := by simpa using hP
    have hi : i < bs.length := by rw [← hlen]; exact (List.getElem?_eq_some_iff.mp hP').1
    obtain ⟨v', hv', rv'⟩ := rv.get (i := i) (x := .bl bs[i]) (by simp [hi])
    rw [hP'] at hv'; cases hv'
    cases (show v = Value.bool _ from rv')
    exact wpAny_truthy_bool (by simpa [hi] using hQ)
  · intro h' tk kp
    refine ⟨.bl (bs.all id), H, I.kept fun b o e => kp b o (by simpa using Nat.ne_of_lt (Heap.lt_size e)) (Heap.get?_push_of_some _ e), ?_, q⟩
    show Value.bool _ = Value.bool _
    rw [List.size_toArray, hlen, PyProof.Rows.LSm.range_all]
/-! ### isinstance -/
theorem call_isinst {X : Cx} : CallR X (.builtin "isinstance") (fun xs H Q => ∃ x T t b, xs = [x, .ty T] ∧ TyOf X.K H x t ∧ PySem.W.kitOne X.K t (.type T) = some b ∧ Q (.bl b) H) := by
  intro pins s σ H xs us Q I r h
  obtain ⟨x, T, t, b, rfl, ty, e, q⟩ := h
  obtain ⟨u, w', rfl, rx, rt⟩ := vals2 r
  cases (show w' = Value.type T from rt)
  exact isinst_ok I rx ty e fun tk => ⟨.bl b, H, I.tok tk, rfl, q⟩
end L2

namespace MySort
open PySem PySem.W PyProof.Rows
def run {α : Type} (cmp : Nat → Nat → Bool) : KasT α → α
  | .ret a => a
  | .ask i j k => run cmp (k (cmp i j))
theorem run_bind {α β : Type} (cmp : Nat → Nat → Bool) (f : α → KasT β) : ∀ t : KasT α, run cmp (t.bind f) = run cmp (f (run cmp t))
  | .ret _ => rfl
  | .ask i j k => run_bind cmp f (k (cmp i j))
section
variable (O : KeyOrd) (key : Nat → O.α)
def kk (p : Array Nat) (i : Nat) : O.α := key (p.getD i 0)
abbrev cmpK : Nat → Nat → Bool := fun i j => O.blt (key i) (key j)
def Up (p : Array Nat) (n : Nat) : Prop := ∀ i j, i ≤ j → j < n → O.kle (kk O key p i) (kk O key p j)
def Dn (p : Array Nat) (n : Nat) : Prop := ∀ i j, i ≤ j → j < n → O.kle (kk O key p j) (kk O key p i)
variable {O key}
theorem kk_congr {p q : Array Nat} {i j : Nat} (h : p[i]? = q[j]?) : kk O key p i = kk O key q j := by
  unfold kk; rw [Array.getD_eq_getD_getElem?, Array.getD_eq_getD_getElem?, h]
theorem kk_rev {p : Array Nat} {i j : Nat} (hj : j ≤ p.size) (k : Nat) : kk O key (kas_rev p i j) k = if i ≤ k ∧ k < j then kk O key p (i + j - 1 - k) else kk O key p k := by
  have e := getElem?_mirror_all (i := i) hj k
  unfold kas_rev
  by_cases h1 : i ≤ k ∧ k < j
  · rw [if_pos h1] at e ⊢; exact kk_congr e
  · rw [if_neg h1] at e ⊢; exact kk_congr e
theorem kk_bub {p : Array Nat} {k d : Nat} (hs : k < p.size) (hd : d ≤ k) (i : Nat) :
    kk O key (bubble p k d) i = if i = k - d then kk O key p k else if k - d < i ∧ i ≤ k then kk O key p (i - 1) else kk O key p i := by
  have e := getElem?_bubble hs d hd i
  by_cases h1 : i = k - d
  · rw [if_pos h1] at e ⊢; exact kk_congr e
  · rw [if_neg h1] at e ⊢
    by_cases h2 : k - d < i ∧ i ≤ k
    · rw [if_pos h2] at e ⊢; exact kk_congr e
    · rw [if_neg h2] at e ⊢; exact kk_congr e
theorem Up.more {p : Array Nat} {n : Nat} (h : Up O key p n) (h1 : 1 ≤ n) (hl : O.kle (kk O key p (n - 1)) (kk O key p n)) : Up O key p (n + 1) := by
  intro i j hij hj
  by_cases e : j = n
  · subst e
    by_cases e2 : i = j
    · subst e2; exact KeyOrd.kle_refl _
    · exact KeyOrd.kle_trans (h i (j - 1) (by omega) (by omega)) hl
  · exact h i j hij (by omega)
theorem Dn.more {p : Array Nat} {n : Nat} (h : Dn O key p n) (h1 : 1 ≤ n) (hl : O.kle (kk O key p n) (kk O key p (n - 1))) : Dn O key p (n + 1) := by
  intro i j hij hj
  by_cases e : j = n
  · subst e
    by_cases e2 : i = j
    · subst e2; exact KeyOrd.kle_refl _
    · exact KeyOrd.kle_trans hl (h i (j - 1) (by omega) (by omega))
  · exact h i j hij (by omega)
theorem asc_ok {p : Array Nat} : ∀ (f n : Nat), 1 ≤ n → Up O key p n →
    n ≤ run (cmpK O key) (kas_asc p f n) ∧ run (cmpK O key) (kas_asc p f n) ≤ n + f ∧ Up O key p (run (cmpK O key) (kas_asc p f n)) ∧
      (run (cmpK O key) (kas_asc p f n) < n + f → O.klt (kk O key p (run (cmpK O key) (kas_asc p f n))) (kk O key p (run (cmpK O key) (kas_asc p f n) - 1)))
  | 0, n, h1, hu => ⟨Nat.le_refl _, Nat.le_refl _, hu, fun h => absurd h (Nat.lt_irrefl _)⟩
  | f + 1, n, h1, hu => by
    show n ≤ run _ (if O.blt (kk O key p n) (kk O key p (n - 1)) = true then KasT.ret n else kas_asc p f (n + 1)) ∧ run _ (if O.blt (kk O key p n) (kk O key p (n - 1)) = true then KasT.ret n else kas_asc p f (n + 1)) ≤ n + (f + 1) ∧
      Up O key p (run _ (if O.blt (kk O key p n) (kk O key p (n - 1)) = true then KasT.ret n else kas_asc p f (n + 1))) ∧
      (run _ (if O.blt (kk O key p n) (kk O key p (n - 1)) = true then KasT.ret n else kas_asc p f (n + 1)) < n + (f + 1) →
        O.klt (kk O key p (run _ (if O.blt (kk O key p n) (kk O key p (n - 1)) = true then KasT.ret n else kas_asc p f (n + 1)))) (kk O key p (run _ (if O.blt (kk O key p n) (kk O key p (n - 1)) = true then KasT.ret n else kas_asc p f (n + 1)) - 1)))
    cases hb : O.blt (kk O key p n) (kk O key p (n - 1)) with
    | true =>
      simp only [if_true]
      exact ⟨Nat.le_refl _, by show n ≤ n + (f + 1); omega, hu, fun _ => hb⟩
    | false =>
      simp only [Bool.false_eq_true, if_false]
      have ih := asc_ok f (n + 1) (by omega) (hu.more h1 hb)
      refine ⟨by omega, by omega, ih.2.2.1, fun h => ih.2.2.2 (by omega)⟩
theorem rev_eq {p : Array Nat} {i j : Nat} (hj : j ≤ p.size) (he : ∀ k, i ≤ k → k < j → kk O key p k = kk O key p (j - 1)) (k : Nat) : kk O key (kas_rev p i j) k = kk O key p k := by
  rw [kk_rev hj]
  split
  · rw [he _ (by omega) (by omega), he k (by omega) (by omega)]
  · rfl
theorem rev_perm (p : Array Nat) (i j : Nat) : (kas_rev p i j).Perm p := mirror_perm _ _ _ _
theorem rev_size (p : Array Nat) (i j : Nat) : (kas_rev p i j).size = p.size := mirror_size _ _ _ _
structure DnR (O : KeyOrd) (key : Nat → O.α) (p0 p : Array Nat) (n q : Nat) : Prop where
  perm : p.Perm p0
  size : p.size = p0.size
  pos : q + 1 ≤ n
  dn : Dn O key p n
  eq : ∀ k, n - (q + 1) ≤ k → k < n → kk O key p k = kk O key p (n - 1)
theorem DnR.rev {p0 p : Array Nat} {n q : Nat} (h : DnR O key p0 p n q) (hn : n ≤ p0.size) : DnR O key p0 (kas_rev p (n - (q + 1)) n) n q := by
  have hz := h.size
  have e := rev_eq (O := O) (key := key) (i := n - (q + 1)) (j := n) (p := p) (by omega) h.eq
  exact ⟨(rev_perm _ _ _).trans h.perm, (rev_size _ _ _).trans hz, h.pos, fun i j hij hj => by rw [e, e]; exact h.dn i j hij hj, fun k h1 h2 => by rw [e, e]; exact h.eq k h1 h2⟩
theorem desc_ok {p0 : Array Nat} : ∀ (f : Nat) (p : Array Nat) (n q : Nat), DnR O key p0 p n q → n + f ≤ p0.size →
    n ≤ (run (cmpK O key) (kas_desc f p n q)).2.1 ∧ (run (cmpK O key) (kas_desc f p n q)).2.1 ≤ n + f ∧
      DnR O key p0 (run (cmpK O key) (kas_desc f p n q)).1 (run (cmpK O key) (kas_desc f p n q)).2.1 (run (cmpK O key) (kas_desc f p n q)).2.2
  | 0, p, n, q, h, _ => ⟨Nat.le_refl _, Nat.le_refl _, h⟩
  | f + 1, p, n, q, h, hn => by
    have hp := h.pos
    have hz := h.size
    have unf : run (cmpK O key) (kas_desc (f + 1) p n q) = run (cmpK O key) (if O.blt (kk O key p n) (kk O key p (n - 1)) = true then (if q > 0 then kas_desc f (kas_rev p (n - (q + 1)) n) (n + 1) 0 else kas_desc f p (n + 1) 0)
      else .ask (p.getD (n - 1) 0) (p.getD n 0) fun d => if d = true then .ret (p, n, q) else kas_desc f p (n + 1) (q + 1)) := rfl
    rw [unf]
    cases hb : O.blt (kk O key p n) (kk O key p (n - 1)) with
    | true =>
      simp only [if_true]
      have go : ∀ p', DnR O key p0 p' n q → (∀ k, kk O key p' k = kk O key p k) → n ≤ (run (cmpK O key) (kas_desc f p' (n + 1) 0)).2.1 ∧ (run (cmpK O key) (kas_desc f p' (n + 1) 0)).2.1 ≤ n + (f + 1) ∧
          DnR O key p0 (run (cmpK O key) (kas_desc f p' (n + 1) 0)).1 (run (cmpK O key) (kas_desc f p' (n + 1) 0)).2.1 (run (cmpK O key) (kas_desc f p' (n + 1) 0)).2.2 := fun p' h' e => by
        have ih := desc_ok f p' (n + 1) 0 ⟨h'.perm, h'.size, by omega, h'.dn.more (by omega) (by rw [e, e]; exact KeyOrd.kle_of_klt hb), fun k h1 h2 => by
          have : k = n := by omega
          subst this; rfl⟩ (by omega)
        exact ⟨by omega, by omega, ih.2.2⟩
      split
      · exact go _ (h.rev (by omega)) (rev_eq (by omega) h.eq)
      · exact go _ h fun _ => rfl
    | false =>
      simp only [Bool.false_eq_true, if_false]
      have unf2 : run (cmpK O key) (KasT.ask (p.getD (n - 1) 0) (p.getD n 0) fun d => if d = true then .ret (p, n, q) else kas_desc f p (n + 1) (q + 1)) =
        run (cmpK O key) (if O.blt (kk O key p (n - 1)) (kk O key p n) = true then .ret (p, n, q) else kas_desc f p (n + 1) (q + 1)) := rfl
      rw [unf2]
      cases hc : O.blt (kk O key p (n - 1)) (kk O key p n) with
      | true =>
        simp only [if_true]
        exact ⟨Nat.le_refl _, by show n ≤ n + (f + 1); omega, h⟩
      | false =>
        simp only [Bool.false_eq_true, if_false]
        have e : kk O key p n = kk O key p (n - 1) := O.total _ _ hb hc
        have ih := desc_ok f p (n + 1) (q + 1) ⟨h.perm, h.size, by omega, h.dn.more (by omega) (by rw [e]; exact KeyOrd.kle_refl _), fun k h1 h2 => by
          show _ = kk O key p n
          by_cases hk : k = n
          · rw [hk]
          · rw [e]; exact h.eq k (by omega) (by omega)⟩ (by omega)
        exact ⟨by omega, by omega, ih.2.2⟩
structure CntR (O : KeyOrd) (key : Nat → O.α) (p0 : Array Nat) (nrem : Nat) (r : Nat × Array Nat) : Prop where
  perm : r.2.Perm p0
  size : r.2.size = p0.size
  lo : 1 ≤ r.1
  hi : r.1 ≤ nrem
  up : Up O key r.2 r.1
theorem tail3_ok {p0 p : Array Nat} {n nrem : Nat} (hp : p.Perm p0) (hz : p.size = p0.size) (hd : Dn O key p n) (h1 : 1 ≤ n) (hn : n ≤ nrem) (hr : nrem ≤ p0.size) : CntR O key p0 nrem (run (cmpK O key) (kas_tail3 n nrem p)) := by
  unfold kas_tail3
  rw [run_bind]
  have hu : Up O key (kas_rev p 0 n) n := fun i j hij hj => by
    rw [kk_rev (by omega), kk_rev (by omega), if_pos (by omega), if_pos (by omega)]
    exact hd _ _ (by omega) (by omega)
  have a := asc_ok (O := O) (key := key) (p := kas_rev p 0 n) (nrem - n) n h1 hu
  exact ⟨(rev_perm _ _ _).trans hp, (rev_size _ _ _).trans hz, by show 1 ≤ run _ (kas_asc _ _ _); omega, by show run _ (kas_asc _ _ _) ≤ _; omega, a.2.2.1⟩
theorem descPart_ok {p0 p : Array Nat} {n nrem : Nat} (hp : p.Perm p0) (hz : p.size = p0.size) (hd : Dn O key p (n + 1)) (hn : n + 1 ≤ nrem) (hr : nrem ≤ p0.size) : CntR O key p0 nrem (run (cmpK O key) (kas_descPart n nrem p)) := by
  unfold kas_descPart
  rw [run_bind]
  have d := desc_ok (O := O) (key := key) (p0 := p0) (nrem - (n + 1)) p (n + 1) 0 ⟨hp, hz, by omega, hd, fun k h1 h2 => by
    have : k = n := by omega
    subst this; rfl⟩ (by omega)
  obtain ⟨d1, d2, d3⟩ := d
  have hpos := d3.pos
  split
  · have d4 := d3.rev (by omega)
    exact tail3_ok d4.perm d4.size d4.dn (by omega) (by omega) hr
  · exact tail3_ok d3.perm d3.size d3.dn (by omega) (by omega) hr
theorem count_ok {p : Array Nat} {nrem : Nat} (h1 : 1 ≤ nrem) (hr : nrem ≤ p.size) : CntR O key p nrem (run (cmpK O key) (kas_count nrem p)) := by
  unfold kas_count
  rw [run_bind]
  have a := asc_ok (O := O) (key := key) (p := p) (nrem - 1) 1 (Nat.le_refl _) (fun i j hij hj => by
    have : i = j := by omega
    subst this; exact KeyOrd.kle_refl _)
  generalize run (cmpK O key) (kas_asc p (nrem - 1) 1) = n at a ⊢
  obtain ⟨a1, a2, a3, a4⟩ := a
  split
  · exact ⟨Array.Perm.refl _, rfl, a1, by show n ≤ nrem; omega, a3⟩
  · rename_i hne
    have hlt : n < nrem := by
      have : n ≠ nrem := by simpa using hne
      omega
    have hl := a4 (by omega)
    split
    · rename_i h2
      have unf : run (cmpK O key) (KasT.ask (p.getD 0 0) (p.getD (n - 1) 0) fun c => if c = true then .ret (n, p) else kas_descPart n nrem (kas_rev p 0 n)) =
        run (cmpK O key) (if O.blt (kk O key p 0) (kk O key p (n - 1)) = true then .ret (n, p) else kas_descPart n nrem (kas_rev p 0 n)) := rfl
      rw [unf]
      cases hb : O.blt (kk O key p 0) (kk O key p (n - 1)) with
      | true =>
        simp only [if_true]
        exact ⟨Array.Perm.refl _, rfl, a1, by show n ≤ nrem; omega, a3⟩
      | false =>
        simp only [Bool.false_eq_true, if_false]
        have e0 : kk O key p 0 = kk O key p (n - 1) := O.total _ _ hb (a3 0 (n - 1) (by omega) (by omega))
        have e : ∀ k, 0 ≤ k → k < n → kk O key p k = kk O key p (n - 1) := fun k _ hk => by
          refine KeyOrd.kle_antisymm (a3 k (n - 1) (by omega) (by omega)) ?_
          rw [← e0]; exact a3 0 k (by omega) hk
        have er := rev_eq (O := O) (key := key) (i := 0) (j := n) (p := p) (by omega) e
        refine descPart_ok (rev_perm _ _ _) (rev_size _ _ _) ?_ (by omega) hr
        have dn : Dn O key (kas_rev p 0 n) n := fun i j hij hj => by
          rw [er, er, e i (by omega) (by omega), e j (by omega) (by omega)]; exact KeyOrd.kle_refl _
        refine dn.more a1 ?_
        rw [er, er]; exact KeyOrd.kle_of_klt hl
    · have h2 : n = 1 := by omega
      subst h2
      refine descPart_ok (Array.Perm.refl _) rfl ?_ (by omega) hr
      have dn : Dn O key p 1 := fun i j hij hj => by
        have : i = j := by omega
        subst this; exact KeyOrd.kle_refl _
      exact dn.more (Nat.le_refl _) (KeyOrd.kle_of_klt hl)
theorem place_ok {p : Array Nat} {k : Nat} (hu : Up O key p k) : ∀ (f l r : Nat), l ≤ r → r ≤ k → r - l ≤ f → (∀ i, i < l → O.kle (kk O key p i) (kk O key p k)) → (∀ i, r ≤ i → i < k → O.klt (kk O key p k) (kk O key p i)) →
    run (cmpK O key) (kas_place p k f l r) ≤ k ∧ (∀ i, i < run (cmpK O key) (kas_place p k f l r) → O.kle (kk O key p i) (kk O key p k)) ∧ (∀ i, run (cmpK O key) (kas_place p k f l r) ≤ i → i < k → O.klt (kk O key p k) (kk O key p i))
  | 0, l, r, h1, h2, h3, h4, h5 => by
    have : l = r := by omega
    subst this
    exact ⟨h2, h4, h5⟩
  | f + 1, l, r, h1, h2, h3, h4, h5 => by
    have unf : kas_place p k (f + 1) l r = (if l ≥ r then .ret l else .ask (p.getD k 0) (p.getD ((l + r) / 2) 0) fun c => if c = true then kas_place p k f l ((l + r) / 2) else kas_place p k f ((l + r) / 2 + 1) r) := rfl
    rw [unf]
    by_cases hlr : l ≥ r
    · rw [if_pos hlr]
      have : l = r := by omega
      subst this
      exact ⟨h2, h4, h5⟩
    · rw [if_neg hlr]
      have unf2 : run (cmpK O key) (KasT.ask (p.getD k 0) (p.getD ((l + r) / 2) 0) fun c => if c = true then kas_place p k f l ((l + r) / 2) else kas_place p k f ((l + r) / 2 + 1) r) =
        run (cmpK O key) (if O.blt (kk O key p k) (kk O key p ((l + r) / 2)) = true then kas_place p k f l ((l + r) / 2) else kas_place p k f ((l + r) / 2 + 1) r) := rfl
      rw [unf2]
      cases hb : O.blt (kk O key p k) (kk O key p ((l + r) / 2)) with
      | true =>
        simp only [if_true]
        exact place_ok hu f l ((l + r) / 2) (by omega) (by omega) (by omega) h4 fun i hi hk => KeyOrd.klt_of_klt_of_kle hb (hu _ i hi hk)
      | false =>
        simp only [Bool.false_eq_true, if_false]
        exact place_ok hu f ((l + r) / 2 + 1) r (by omega) (by omega) (by omega) (fun i hi => KeyOrd.kle_trans (hu i ((l + r) / 2) (by omega) (by omega)) hb) h5
theorem bin_ok {p0 : Array Nat} : ∀ (f : Nat) (p : Array Nat) (k : Nat), p.Perm p0 → p.size = p0.size → Up O key p k → k + f ≤ p0.size →
    (run (cmpK O key) (kas_bin f p k)).Perm p0 ∧ Up O key (run (cmpK O key) (kas_bin f p k)) (k + f)
  | 0, p, k, hp, _, hu, _ => ⟨hp, hu⟩
  | f + 1, p, k, hp, hz, hu, hk => by
    have unf : kas_bin (f + 1) p k = (kas_place p k k 0 k).bind fun l => kas_bin f (bubble p k (k - l)) (k + 1) := rfl
    rw [unf, run_bind]
    have pl := place_ok (O := O) (key := key) hu k 0 k (by omega) (by omega) (by omega) (fun i hi => absurd hi (Nat.not_lt_zero _)) (fun i h1 h2 => absurd h2 (by omega))
    generalize run (cmpK O key) (kas_place p k k 0 k) = l at pl ⊢
    obtain ⟨l1, l2, l3⟩ := pl
    have hb := kk_bub (O := O) (key := key) (p := p) (k := k) (d := k - l) (by omega) (by omega)
    have hu' : Up O key (bubble p k (k - l)) (k + 1) := fun i j hij hj => by
      rw [hb, hb]
      have el : k - (k - l) = l := by omega
      rw [el]
      by_cases ei : i = l
      · rw [if_pos ei]
        by_cases ej : j = l
        · rw [if_pos ej]; exact KeyOrd.kle_refl _
        · rw [if_neg ej, if_pos (by omega)]
          exact KeyOrd.kle_of_klt (l3 _ (by omega) (by omega))
      · rw [if_neg ei]
        by_cases hi : l < i ∧ i ≤ k
        · rw [if_pos hi, if_neg (by omega), if_pos (by omega)]
          exact hu _ _ (by omega) (by omega)
        · rw [if_neg hi]
          by_cases ej : j = l
          · rw [if_pos ej]; exact l2 _ (by omega)
          · rw [if_neg ej]
            by_cases hj' : l < j ∧ j ≤ k
            · rw [if_pos hj']; exact hu _ _ (by omega) (by omega)
            · rw [if_neg hj']; exact hu _ _ hij (by omega)
    have ih := bin_ok (p0 := p0) f (bubble p k (k - l)) (k + 1) ((bubble_perm _ _ _).trans hp) ((bubble_size _ _ _).trans hz) hu' (by omega)
    exact ⟨ih.1, by have := ih.2; rwa [show k + 1 + f = k + (f + 1) by omega] at this⟩
theorem sort_ok {n : Nat} (h1 : 1 ≤ n) : (run (cmpK O key) (kas_sort n)).Perm (List.range n).toArray ∧ Up O key (run (cmpK O key) (kas_sort n)) n := by
  unfold kas_sort
  rw [run_bind]
  have c := count_ok (O := O) (key := key) (p := (List.range n).toArray) h1 (by simp)
  generalize run (cmpK O key) (kas_count n (List.range n).toArray) = r at c ⊢
  obtain ⟨c1, c2, c3, c4, c5⟩ := c
  split
  · have b := bin_ok (O := O) (key := key) (n - max r.1 1) r.2 (max r.1 1) c1 c2 (by rw [Nat.max_eq_left c3]; exact c5) (by simp; omega)
    exact ⟨b.1, by have := b.2; rwa [show max r.1 1 + (n - max r.1 1) = n by omega] at this⟩
  · have : r.1 = n := by omega
    rw [this] at c5
    exact ⟨c1, c5⟩
end
end MySort

namespace MySort
open PySem PySem.W PyProof.Rows
/-- every question is about places below n -/
def Asks {α : Type} (n : Nat) : KasT α → Prop
  | .ret _ => True
  | .ask i j k => (i < n ∧ j < n) ∧ ∀ b, Asks n (k b)
def Rets {α : Type} (G : α → Prop) : KasT α → Prop
  | .ret a => G a
  | .ask _ _ k => ∀ b, Rets G (k b)
theorem Asks.bind {α β : Type} {n : Nat} {f : α → KasT β} {G : α → Prop} (hf : ∀ a, G a → Asks n (f a)) : ∀ {t : KasT α}, Asks n t → Rets G t → Asks n (t.bind f)
  | .ret a, _, g => hf a g
  | .ask _ _ _, h, g => ⟨h.1, fun b => Asks.bind hf (h.2 b) (g b)⟩
theorem Rets.bind {α β : Type} {f : α → KasT β} {G : α → Prop} {G' : β → Prop} (hf : ∀ a, G a → Rets G' (f a)) : ∀ {t : KasT α}, Rets G t → Rets G' (t.bind f)
  | .ret a, g => hf a g
  | .ask _ _ _, g => fun b => Rets.bind hf (g b)
def Low (n : Nat) (p : Array Nat) : Prop := ∀ i, p.getD i 0 < n
theorem low_of {n : Nat} {p q : Array Nat} (h1 : 1 ≤ n) (hp : p.Perm q) (hq : ∀ x ∈ q.toList, x < n) : Low n p := fun i => by
  by_cases hi : i < p.size
  · have e : p.getD i 0 = p[i] := by simp [Array.getD, hi]
    rw [e]
    exact hq _ (hp.toList.mem_iff.mp (by simp))
  · have e : p.getD i 0 = 0 := by simp [Array.getD, hi]
    rw [e]; exact h1
structure Good (n : Nat) (q p : Array Nat) : Prop where
  low : Low n p
  perm : p.Perm q
theorem Good.rev {n : Nat} {q p : Array Nat} (h1 : 1 ≤ n) (hq : ∀ x ∈ q.toList, x < n) (g : Good n q p) (i j : Nat) : Good n q (kas_rev p i j) :=
  have e := (mirror_perm p i j ((j - i) / 2)).trans g.perm
  ⟨low_of h1 e hq, e⟩
theorem Good.bub {n : Nat} {q p : Array Nat} (h1 : 1 ≤ n) (hq : ∀ x ∈ q.toList, x < n) (g : Good n q p) (i j : Nat) : Good n q (bubble p i j) :=
  have e := (bubble_perm p i j).trans g.perm
  ⟨low_of h1 e hq, e⟩
section
variable {n : Nat} {q : Array Nat}
theorem asc_asks {p : Array Nat} (g : Low n p) : ∀ (f k : Nat), Asks n (kas_asc p f k)
  | 0, _ => trivial
  | f + 1, k => ⟨⟨g _, g _⟩, fun b => by cases b with | true => exact trivial | false => exact asc_asks g f (k + 1)⟩
theorem asc_rets {p : Array Nat} : ∀ (f k : Nat), Rets (fun _ => True) (kas_asc p f k)
  | 0, _ => trivial
  | f + 1, k => fun b => by cases b with | true => exact trivial | false => exact asc_rets f (k + 1)
theorem desc_asks (h1 : 1 ≤ n) (hq : ∀ x ∈ q.toList, x < n) : ∀ (f : Nat) (p : Array Nat) (k c : Nat), Good n q p → Asks n (kas_desc f p k c) ∧ Rets (fun r => Good n q r.1) (kas_desc f p k c)
  | 0, p, k, c, g => ⟨trivial, g⟩
  | f + 1, p, k, c, g => by
    have a := fun p' k' c' g' => (desc_asks h1 hq f p' k' c' g').1
    have r := fun p' k' c' g' => (desc_asks h1 hq f p' k' c' g').2
    refine ⟨⟨⟨g.low _, g.low _⟩, fun b => ?_⟩, fun b => ?_⟩
    · cases b with
      | true =>
        show Asks n (if c > 0 then kas_desc f (kas_rev p (k - (c + 1)) k) (k + 1) 0 else kas_desc f p (k + 1) 0)
        split
        · exact a _ _ _ (g.rev h1 hq _ _)
        · exact a _ _ _ g
      | false => exact ⟨⟨g.low _, g.low _⟩, fun d => by cases d with | true => exact trivial | false => exact a _ _ _ g⟩
    · cases b with
      | true =>
        show Rets _ (if c > 0 then kas_desc f (kas_rev p (k - (c + 1)) k) (k + 1) 0 else kas_desc f p (k + 1) 0)
        split
        · exact r _ _ _ (g.rev h1 hq _ _)
        · exact r _ _ _ g
      | false => exact fun d => by cases d with | true => exact g | false => exact r _ _ _ g
theorem tail3_asks (h1 : 1 ≤ n) (hq : ∀ x ∈ q.toList, x < n) {p : Array Nat} (g : Good n q p) (k m : Nat) : Asks n (kas_tail3 k m p) ∧ Rets (fun r => Good n q r.2) (kas_tail3 k m p) :=
  have g' := g.rev h1 hq 0 k
  And.intro (Asks.bind (f := fun m' => KasT.ret (m', kas_rev p 0 k)) (fun _ _ => True.intro) (asc_asks g'.low (m - k) k) (asc_rets (m - k) k)) (Rets.bind (f := fun m' => KasT.ret (m', kas_rev p 0 k)) (G' := fun r => Good n q r.2) (fun _ _ => g') (asc_rets (m - k) k))
theorem descPart_asks (h1 : 1 ≤ n) (hq : ∀ x ∈ q.toList, x < n) {p : Array Nat} (g : Good n q p) (k m : Nat) : Asks n (kas_descPart k m p) ∧ Rets (fun r => Good n q r.2) (kas_descPart k m p) := by
  have d := desc_asks h1 hq (m - (k + 1)) p (k + 1) 0 g
  refine ⟨Asks.bind (fun r gr => ?_) d.1 d.2, Rets.bind (fun r gr => ?_) d.2⟩
  · split
    · exact (tail3_asks h1 hq (gr.rev h1 hq _ _) _ _).1
    · exact (tail3_asks h1 hq gr _ _).1
  · split
    · exact (tail3_asks h1 hq (gr.rev h1 hq _ _) _ _).2
    · exact (tail3_asks h1 hq gr _ _).2
theorem count_asks (h1 : 1 ≤ n) (hq : ∀ x ∈ q.toList, x < n) {p : Array Nat} (g : Good n q p) (m : Nat) : Asks n (kas_count m p) ∧ Rets (fun r => Good n q r.2) (kas_count m p) := by
  refine ⟨Asks.bind (fun k _ => ?_) (asc_asks g.low _ _) (asc_rets _ _), Rets.bind (fun k _ => ?_) (asc_rets _ _)⟩
  · split
    · exact trivial
    · split
      · exact ⟨⟨g.low _, g.low _⟩, fun b => by cases b with | true => exact trivial | false => exact (descPart_asks h1 hq (g.rev h1 hq _ _) _ _).1⟩
      · exact (descPart_asks h1 hq g _ _).1
  · split
    · exact g
    · split
      · exact fun b => by cases b with | true => exact g | false => exact (descPart_asks h1 hq (g.rev h1 hq _ _) _ _).2
      · exact (descPart_asks h1 hq g _ _).2
theorem place_asks {p : Array Nat} (g : Low n p) (k : Nat) : ∀ (f l r : Nat), Asks n (kas_place p k f l r) ∧ Rets (fun _ => True) (kas_place p k f l r)
  | 0, _, _ => ⟨trivial, trivial⟩
  | f + 1, l, r => by
    have e : kas_place p k (f + 1) l r = (if l ≥ r then .ret l else .ask (p.getD k 0) (p.getD ((l + r) / 2) 0) fun c => if c = true then kas_place p k f l ((l + r) / 2) else kas_place p k f ((l + r) / 2 + 1) r) := rfl
    rw [e]
    split
    · exact ⟨trivial, trivial⟩
    · refine ⟨⟨⟨g _, g _⟩, fun b => ?_⟩, fun b => ?_⟩
      · cases b with
        | true => exact (place_asks g k f _ _).1
        | false => exact (place_asks g k f _ _).1
      · cases b with
        | true => exact (place_asks g k f _ _).2
        | false => exact (place_asks g k f _ _).2
theorem bin_asks (h1 : 1 ≤ n) (hq : ∀ x ∈ q.toList, x < n) : ∀ (f : Nat) (p : Array Nat) (k : Nat), Good n q p → Asks n (kas_bin f p k)
  | 0, _, _, _ => trivial
  | f + 1, p, k, g => Asks.bind (fun l _ => bin_asks h1 hq f _ _ (g.bub h1 hq _ _)) (place_asks g.low k k 0 k).1 (place_asks g.low k k 0 k).2
theorem sort_asks (h1 : 1 ≤ n) : Asks n (kas_sort n) := by
  have hq : ∀ x ∈ ((List.range n).toArray).toList, x < n := fun x hx => by simpa using hx
  have g : Good n (List.range n).toArray (List.range n).toArray := ⟨low_of h1 (Array.Perm.refl _) hq, Array.Perm.refl _⟩
  have c := count_asks h1 hq g n
  refine Asks.bind (fun r gr => ?_) c.1 c.2
  split
  · exact bin_asks h1 hq _ _ _ gr
  · exact trivial
end
theorem kasWp_run {α : Type} {n : Nat} {cmp : Nat → Nat → Bool} {ask : Nat → Nat → (Bool → Shared → Prop) → Shared → Prop} {s : Shared} (h : ∀ i j (C : Bool → Shared → Prop), i < n → j < n → C (cmp i j) s → ask i j C s) {Q : α → Shared → Prop} :
    ∀ (t : KasT α), Asks n t → Q (run cmp t) s → t.kasWp ask Q s
  | .ret _, _, q => q
  | .ask i j k, a, q => h i j _ a.1.1 a.1.2 (kasWp_run h (k (cmp i j)) (a.2 _) q)
/-! lists of ints, the lesser first -/
def lexB : List Int → List Int → Bool
  | [], [] => false
  | [], _ :: _ => true
  | _ :: _, [] => false
  | x :: r, y :: q => if x = y then lexB r q else decide (x < y)
theorem lexB_irrefl : ∀ a, lexB a a = false
  | [] => rfl
  | x :: r => by show (if x = x then lexB r r else _) = _; rw [if_pos rfl]; exact lexB_irrefl r
theorem lexB_trans : ∀ a b c, lexB a b = true → lexB b c = true → lexB a c = true
  | [], [], _, h, _ => by cases h
  | [], _ :: _, [], _, h => by cases h
  | [], _ :: _, _ :: _, _, _ => rfl
  | _ :: _, [], _, h, _ => by cases h
  | _ :: _, _ :: _, [], _, h => by cases h
  | x :: a, y :: b, z :: c, h1, h2 => by
    have h1 : (if x = y then lexB a b else decide (x < y)) = true := h1
    have h2 : (if y = z then lexB b c else decide (y < z)) = true := h2
    show (if x = z then lexB a c else decide (x < z)) = true
    by_cases e1 : x = y
    · rw [if_pos e1] at h1
      by_cases e2 : y = z
      · rw [if_pos e2] at h2
        rw [if_pos (e1.trans e2)]
        exact lexB_trans a b c h1 h2
      · rw [if_neg e2] at h2
        rw [if_neg (by omega)]
        rw [e1]; exact h2
    · rw [if_neg e1] at h1
      have l1 : x < y := by simpa using h1
      by_cases e2 : y = z
      · rw [if_neg (by omega)]; exact decide_eq_true (by omega)
      · rw [if_neg e2] at h2
        have l2 : y < z := by simpa using h2
        rw [if_neg (by omega)]; exact decide_eq_true (by omega)
theorem lexB_total : ∀ a b, lexB a b = false → lexB b a = false → a = b
  | [], [], _, _ => rfl
  | [], _ :: _, h, _ => by cases h
  | _ :: _, [], _, h => by cases h
  | x :: a, y :: b, h1, h2 => by
    have h1 : (if x = y then lexB a b else decide (x < y)) = false := h1
    have h2 : (if y = x then lexB b a else decide (y < x)) = false := h2
    by_cases e : x = y
    · subst e
      rw [if_pos rfl] at h1 h2
      rw [lexB_total a b h1 h2]
    · rw [if_neg e] at h1
      rw [if_neg (Ne.symm e)] at h2
      have l1 : ¬ x < y := by simpa using h1
      have l2 : ¬ y < x := by simpa using h2
      omega
theorem lexB_neg (a b c : List Int) (h : lexB a c = true) : lexB a b = true ∨ lexB b c = true := by
  cases hab : lexB a b with
  | true => exact .inl rfl
  | false =>
    right
    cases hba : lexB b a with
    | true => exact lexB_trans b a c hba h
    | false => rw [← lexB_total a b hab hba]; exact h
def lexO : KeyOrd := ⟨List Int, lexB, lexB_irrefl, lexB_trans, lexB_neg, lexB_total⟩
end MySort

namespace MySort
open PySem PySem.W PyProof.Rows
section
variable {P : Program} {w : World} {A : Around} {E : Value → Shared → Prop} {s : Shared}
/-- a tuple of ints, one at least -/
def KeyAt (h : Heap) (v : Value) (k : List Int) : Prop := ∃ b o its n, v = .ref b ∧ h.get? b = some o ∧ o.cls = .type "tuple" ∧ o.data = .seq its n ∧ IntsAre its.toList k ∧ k ≠ []
theorem KeyAt.keep {h h' : Heap} {v : Value} {k : List Int} (x : KeyAt h v k) (kp : ∀ b o, h.get? b = some o → o.cls = .type "tuple" → h'.get? b = some o) : KeyAt h' v k := by
  obtain ⟨b, o, its, n, e, ho, hc, r⟩ := x
  exact ⟨b, o, its, n, e, kp b o ho hc, hc, r⟩
theorem keys_keep {h h' : Heap} (kp : ∀ b o, h.get? b = some o → o.cls = .type "tuple" → h'.get? b = some o) : ∀ {vs : List Value} {ks : List (List Int)}, Paired (KeyAt h) vs ks → Paired (KeyAt h') vs ks
  | _, _, .nil => .nil
  | _, _, .cons x r => .cons (x.keep kp) (keys_keep kp r)
theorem keys_get {h : Heap} : ∀ {vs : List Value} {ks : List (List Int)} {i : Nat}, Paired (KeyAt h) vs ks → i < vs.length → KeyAt h (vs.getD i Value.none) (ks.getD i [])
  | _, _, _, .nil, hi => absurd hi (Nat.not_lt_zero _)
  | _, _, 0, .cons x _, _ => by simpa using x
  | _, _, i + 1, .cons _ r, hi => by simpa using keys_get (i := i) r (by simpa using hi)
theorem keys_len {h : Heap} : ∀ {vs : List Value} {ks : List (List Int)}, Paired (KeyAt h) vs ks → vs.length = ks.length
  | _, _, .nil => rfl
  | _, _, .cons _ r => by simp [keys_len r]
theorem keys_tups {h : Heap} : ∀ {vs : List Value} {ks : List (List Int)}, Paired (KeyAt h) vs ks → ∃ fs : List Value, KatTups h vs fs ∧ fs.length = vs.length ∧ ∀ v ∈ fs, ∃ i t, v = Value.int i t
  | _, _, .nil => ⟨[], .nil, rfl, fun _ hv => absurd hv (by simp)⟩
  | _, _, .cons x r => by
    obtain ⟨fs, h1, h2, h3⟩ := keys_tups r
    obtain ⟨b, o, its, n, e, ho, hc, hd, hi, hne⟩ := x
    subst e
    obtain ⟨i, t, rest, hit⟩ : ∃ i t rest, its.toList = Value.int i t :: rest := by
      cases hi' : its.toList with
      | nil => rw [hi'] at hi; cases hi; exact absurd rfl hne
      | cons v rest => rw [hi'] at hi; cases hi with | cons n t h => exact ⟨n, t, rest, rfl⟩
    refine ⟨Value.int i t :: fs, .cons ho hc hd ?_ h1, by simp [h2], fun v hv => ?_⟩
    · rw [← Array.getElem?_toList, hit]; rfl
    · rcases List.mem_cons.mp hv with q | q
      · exact ⟨i, t, q⟩
      · exact h3 v q
theorem lex_ok {b fin : Bool} {Q : Bool → Shared → Prop} : ∀ {xs ys : List Value} {ns ms : List Int}, IntsAre xs ns → IntsAre ys ms → ∀ (i : Nat), fin = decide (xs.length < ys.length) → Q (lexB ns ms) s → KatLex P w A b fin Q (xs.zip ys) i s
  | _, _, _, _, .nil, .nil, i, hf, h => by subst hf; exact kat_nil h
  | _, _, _, _, .nil, .cons m u hy, i, hf, h => by subst hf; exact kat_nil h
  | _, _, _, _, .cons m u hy, .nil, i, hf, h => by subst hf; exact kat_nil h
  | _, _, _, _, .cons (vs := xs) (ns := ns) n t hx, .cons (vs := ys) (ns := ms) m u hy, i, hf, h => by
    have h : Q (if n = m then lexB ns ms else decide (n < m)) s := h
    refine kat_cons (wpAny_eqBool_int ?_)
    refine kat_go (fun e => ?_) (fun e => ?_)
    · have e' : n = m := by simpa using e
      rw [if_pos e'] at h
      exact kat_yes (lex_ok hx hy (i + 1) (by rw [hf]; simp) h)
    · have e' : ¬ n = m := by simpa using e
      rw [if_neg e'] at h
      refine kat_no ?_
      cases hb : (b && i == 0) with
      | true => exact oneLt_int h
      | false => exact kat_one _ _ (lt_int h)
theorem ask_ok {v1 v2 : Value} {k1 k2 : List Int} {b : Bool} {C : Bool → Shared → Prop} (hx : KeyAt s.heap v1 k1) (hy : KeyAt s.heap v2 k2) (h : C (lexB k1 k2) s) : wpAny (model P w) A (keyLt' (tuples' b) v1 v2) C E s := by
  obtain ⟨b1, o1, it1, n1, e1, ho1, _, hd1, hi1, _⟩ := hx
  obtain ⟨b2, o2, it2, n2, e2, ho2, _, hd2, hi2, _⟩ := hy
  subst e1 e2
  exact kat_lt ho1 hd1 ho2 hd2 (lex_ok hi1 hi2 0 (by simp) h)
def sortedBy (ks : List (List Int)) (p : List Nat) : Prop := p.Perm (List.range ks.length) ∧ (p.map fun i => ks.getD i []).Pairwise fun x y => lexB y x = false
theorem range_getD {α : Type} (d : α) : ∀ (l : List α), (List.range l.length).map (fun i => l.getD i d) = l := fun l => by
  refine List.ext_getElem (by simp) fun i h1 h2 => ?_
  simp at h1
  simp [h1]
theorem lsort_pairs {a : Addr} {vs : List Value} {ks : List (List Int)} {n : Nat} {R : PySem.Fin → Shared → Prop} (ho : s.heap.get? a = some (seqObj "list" vs.toArray n)) (hk : Paired (KeyAt s.heap) vs ks) (h64 : vs.length < 64)
    (h : ∀ (p : List Nat) (h' : Heap) (c : Nat), sortedBy ks p → (∀ b o, b ≠ a → s.heap.get? b = some o → h'.get? b = some o) → h'.get? a = some (seqObj "list" (p.map fun i => vs.getD i Value.none).toArray c) → R (.done (.ret .none)) { s with heap := h' }) :
    wpAny (model P w) A (Builtin.«list.sort» ⟨[.ref a], []⟩) R E s := by
  have ha : a < s.heap.objs.size := Heap.lt_size ho
  have hlen := keys_len hk
  have s1 := Heap.SameBut.update s.heap a (Obj.mapSeq fun _ => (#[] : Array Value))
  obtain ⟨e1, ho1⟩ : ∃ e1, (s.heap.update a (Obj.mapSeq fun _ => (#[] : Array Value))).get? a = some (seqObj "list" #[] e1) := ⟨_, get?_update_seq ho fun _ => #[]⟩
  have kp : ∀ b o, b ≠ a → s.heap.get? b = some o → (((s.heap.update a (Obj.mapSeq fun _ => (#[] : Array Value))).push (seqObj "tuple" vs.toArray 0)).push (seqObj "list" #[] 0)).get? b = some o := fun b o hb e => Heap.get?_push_of_some _ (Heap.get?_push_of_some _ ((s1.2 b hb).trans e))
  have ho6 : (((s.heap.update a (Obj.mapSeq fun _ => (#[] : Array Value))).push (seqObj "tuple" vs.toArray 0)).push (seqObj "list" #[] 0)).get? a = some (seqObj "list" #[] e1) := Heap.get?_push_of_some _ (Heap.get?_push_of_some _ ho1)
  have hk6 : Paired (KeyAt (((s.heap.update a (Obj.mapSeq fun _ => (#[] : Array Value))).push (seqObj "tuple" vs.toArray 0)).push (seqObj "list" #[] 0))) vs ks := keys_keep (fun b o e hc => kp b o (fun q => by subst q; rw [ho] at e; cases e; have hc' : Value.type "list" = Value.type "tuple" := hc; injection hc' with hc'; exact absurd hc' (by decide)) e) hk
  rw [list_sort_plain]; refine wpAny_bind (listItems_at ho rfl (wpAny_bind (listUpdate_at ho rfl ?_ (by rw [List.size_toArray, sizeLine_eq]; omega) (Nat.zero_le _))))
  refine wpAny_bind (seqEpoch_at ho1 rfl (wpAny_bind (wpAny_newTuple ?_ (by show vs.length ≤ _; rw [sizeLine_eq]; omega)))); refine wpAny_bind (wpAny_newList (wpAny_holding ?_) (Nat.zero_le _))
  show wpAny (model P w) A _ R E { s with heap := ((s.heap.update a (Obj.mapSeq fun _ => (#[] : Array Value))).push (seqObj "tuple" vs.toArray 0)).push (seqObj "list" #[] 0) }
  generalize hH : ((s.heap.update a (Obj.mapSeq fun _ => (#[] : Array Value))).push (seqObj "tuple" vs.toArray 0)).push (seqObj "list" #[] 0) = h6 at kp ho6 hk6 ⊢
  have fin : ∀ (p : List Nat) (out : Array Value), out = (p.map fun i => vs.getD i Value.none).toArray → sortedBy ks p → wpAny (model P w) A (do
      let touched := (← seqEpoch a) != e1
      Builtin.List.listUpdate (.ref a) fun _ => out
      if touched then rule "list.sort.modified"; raiseError "ValueError" "list modified during sort"
      ret .none) R E { s with heap := h6 } := fun p out eo hp => by
    subst eo
    have hsz : (p.map fun i => vs.getD i Value.none).toArray.size = vs.length := by rw [List.size_toArray, List.length_map, hp.1.length_eq, List.length_range, hlen]
    have s2 := Heap.SameBut.update h6 a (Obj.mapSeq fun _ => (p.map fun i => vs.getD i Value.none).toArray)
    refine wpAny_bind (seqEpoch_at ho6 rfl (wpAny_bind (listUpdate_at ho6 rfl ?_ (Nat.zero_le _) (Nat.le_trans (Nat.le_of_eq hsz) (by rw [sizeLine_eq]; omega)))))
    simp only [bne_self_eq_false, Bool.false_eq_true, if_false]
    exact wpAny_pure (h p _ _ hp (fun b o hb e => (s2.2 b hb).trans (kp b o hb e)) (get?_update_seq ho6 fun _ => (p.map fun i => vs.getD i Value.none).toArray))
  dsimp only
  by_cases h2 : vs.toArray.size < 2
  · rw [if_pos h2, if_pos h2]; refine wpAny_bind (wpAny_pure ?_); rw [StateT.run_pure]; refine wpAny_bind (wpAny_pure ?_); dsimp only
    have h2' : ks.length < 2 := by rw [← hlen]; simpa using h2
    refine fin (List.range vs.length) _ ?_ ⟨by rw [hlen], ?_⟩
    · rw [range_getD]; apply Array.toList_inj.mp; rw [Array.toList_map]; show List.map _ (vs.toArray.zip vs.toArray).toList = vs; rw [ksk_zip]; exact List.map_snd_zip (Nat.le_refl _)
    · rw [hlen, range_getD]
      match ks, h2' with
      | [], _ => exact .nil
      | [_], _ => simp
      | _ :: _ :: _, q => simp at q; omega
  · rw [if_neg h2, if_neg h2]
    have h2' : 2 ≤ vs.length := by simpa using h2
    obtain ⟨fs, t1, t2, t3⟩ := keys_tups hk6
    refine wpAny_bind (kat_kind (s := { s with heap := h6 }) (T := .type "int") t1 (by omega) (fun v hv => by obtain ⟨i, t, rfl⟩ := t3 v hv; exact Looks.of_pure rfl) rfl ?_)
    have so := sort_ok (O := lexO) (key := fun i => ks.getD i []) (n := vs.length) (by omega)
    refine wpAny_bind (wpAny_mono (kat_run (s := { s with heap := h6 }) (Q := fun st' s' => s' = { s with heap := h6 } ∧ failedOf st' = none ∧ arrOf st' = (run (cmpK lexO fun i => ks.getD i []) (kas_sort vs.length)).map (kas_item (vs.toArray.zip vs.toArray)))
      (G := fun p s' => s' = { s with heap := h6 } ∧ p = run (cmpK lexO fun i => ks.getD i []) (kas_sort vs.length)) rfl h2' h64 (fun p st' s' a1 a2 a3 a4 => ⟨a4.1, a3, by rw [a2, a4.2]⟩)
      (kasWp_run (n := vs.length) (cmp := cmpK lexO fun i => ks.getD i []) (fun i j C hi hj hC => ask_ok (keys_get hk6 hi) (keys_get hk6 hj) hC) (kas_sort vs.length) (sort_asks (by omega)) ⟨rfl, rfl⟩)) ?_ fun _ _ e => e)
    rintro ⟨⟨⟩, st'⟩ s' ⟨hs', hf, har⟩
    subst hs'
    dsimp only
    rw [hf]
    generalize run (cmpK lexO fun i => ks.getD i []) (kas_sort vs.length) = p at so har
    refine fin p.toList _ (kat_snds rfl har) ⟨?_, ?_⟩
    · have := so.1.toList; rw [hlen] at this; simpa using this
    · rw [List.pairwise_iff_getElem]
      intro i j hi hj hij
      have hsz : p.size = vs.length := by have := so.1.size_eq; simpa using this
      have hi' : i < p.size := by simpa using hi
      have hj' : j < p.size := by simpa using hj
      have u := so.2 i j (Nat.le_of_lt hij) (by omega)
      have g : ∀ k, k < p.size → kk lexO (fun i => ks.getD i []) p k = ks.getD (p.toList.getD k 0) [] := fun k hk => by show ks.getD (p.getD k 0) [] = _; rw [Array.getD_eq_getD_getElem?, List.getD_eq_getElem?_getD (l := p.toList), Array.getElem?_toList]
      have u' : lexB (ks.getD (p.toList.getD j 0) []) (ks.getD (p.toList.getD i 0) []) = false := by
        have := u; unfold KeyOrd.kle at this; rw [g i hi', g j hj'] at this; exact this
      simpa [hi', hj'] using u'
end
end MySort

namespace HT
open PySem PyProof.Rows
section
open PySem.SeqAt
open PySem.AutoSeq1 (wpAny_loadPart')
open PySem.MeetsSeq PySem.MeetsSeq2 PySem.MeetsSeq3
open MySort (lexB)
/-- not greater -/
def leB (ns ms : List Int) : Bool := !lexB ms ns
theorem leB_cons (x y : Int) (r q : List Int) : leB (x :: r) (y :: q) = if x = y then leB r q else decide (x ≤ y) := by
  show (!(if y = x then lexB q r else decide (y < x))) = _
  by_cases e : x = y
  · rw [if_pos e, if_pos e.symm]; rfl
  · rw [if_neg e, if_neg (Ne.symm e)]
    by_cases l : y < x
    · rw [decide_eq_true l, decide_eq_false (by omega)]; rfl
    · rw [decide_eq_false l, decide_eq_true (by omega)]; rfl
theorem rcLe_int (A : Around) (s : Shared) (a : Int) (t : Tok) (c : Int) (u : Tok) (P : Program) (w : World) (E : Value → Shared → Prop) (Q : Value → Shared → Prop) (h : Q (.bool (decide (a ≤ c))) s) : wpAny (model P w) A (richCompare .LtE (.int a t) (.int c u)) Q E s :=
  (PyProof.Rows.le_int h : wpAny (model P w) A (compareOp .LtE (.int a t) (.int c u)) Q E s)
theorem tuple_le_ints (l b : Addr) (i1 i2 : Array Value) (n n2 : Nat) (dd dd2 : Option Addr) (sl sl2 : Array (Option Value)) (ns ms : List Int) (hi : IntsAre i1.toList ns) (hj : IntsAre i2.toList ms) :
    Meets (Builtin.«tuple.__le__» ⟨[.ref l, .ref b], []⟩) (fun _ R s => s.heap.get? l = some { cls := .type "tuple", dict := dd, data := .seq i1 n, slots := sl } ∧ s.heap.get? b = some { cls := .type "tuple", dict := dd2, data := .seq i2 n2, slots := sl2 } ∧ R (.ok (.ret (.bool (leB ns ms)))) s) :=
  .of_wp fun P w A R s h => by
    obtain ⟨hp, g, d, tk, os⟩ := s; obtain ⟨hl, hb, h⟩ := h
    have f2 := AutoSeq1.sub_tuple_tuple
    have z1 : i1.size = ns.length := by rw [← hi.length]; simp
    have z2 : i2.size = ms.length := by rw [← hj.length]; simp
    wp_walk using wpAny_loadPart' hl, wpAny_loadPart' hb, wpAny_forIn_list _ (fun rest b s' => b.1 = none ∧ s' = ⟨hp, g, d, tk, os⟩ ∧ ∃ (vs ws : List Value) (ns' ms' : List Int), rest = vs.zip ws ∧ IntsAre vs ns' ∧ IntsAre ws ms' ∧ ns'.length + i2.size = ms'.length + i1.size ∧ R (.ok (.ret (.bool (leB ns' ms')))) ⟨hp, g, d, tk, os⟩) _
    case turn =>
      rintro ⟨y, x⟩ rest b s' ⟨hb', rfl, vs, ws, ns', ms', hz, hvi, hwi, hlen, hR⟩
      cases hvi with
      | nil => rw [List.zip_nil_left] at hz; cases hz
      | cons a t hvi' =>
        cases hwi with
        | nil => rw [List.zip_nil_right] at hz; cases hz
        | cons c u hwi' =>
          rw [List.zip_cons_cons] at hz; injection hz with hyx hrest; injection hyx with hy hx; subst hy hx
          rw [leB_cons] at hR; simp only [List.length_cons] at hlen
          obtain ⟨e, he, hiff⟩ := eqAt_int A.in1 ⟨hp, g, d, tk, os⟩ a t c u
          refine wpAny_bind (he P w _ _ ?_)
          cases e with
          | true =>
            rw [if_pos (hiff.mp rfl)] at hR; wp_walk
            exact ⟨rfl, rfl, _, _, _, _, hrest, hvi', hwi', by omega, hR⟩
          | false =>
            rw [if_neg (fun q => absurd (hiff.mpr q) Bool.false_ne_true)] at hR
            have hri := rcLe_int A.in1 ⟨hp, g, d, tk, os⟩ a t c u P w
            wp_walk using hri
            exact ⟨_, rfl, by simpa using hR⟩
    case fin =>
      rintro ⟨b1, b2⟩ s' ⟨hb', rfl, vs, ws, ns', ms', hz, hvi, hwi, hlen, hR⟩
      simp only at hb'; subst hb'
      have hv : leB ns' ms' = decide (i1.size ≤ i2.size) := by
        cases hvi with
        | nil =>
          cases hwi with
          | nil => simp only [List.length_nil] at hlen; exact (decide_eq_true (by omega)).symm
          | cons c u hw => simp only [List.length_nil, List.length_cons] at hlen; exact (decide_eq_true (by omega)).symm
        | cons a t hv =>
          cases hwi with
          | nil => simp only [List.length_nil, List.length_cons] at hlen; exact (decide_eq_false (by omega)).symm
          | cons c u hw => rw [List.zip_cons_cons] at hz; cases hz
      rw [hv] at hR; wp_walk
      exact ⟨_, rfl, by simpa [Builtin.Tuple.tupleCompareSizes] using hR⟩
    case h => exact ⟨rfl, rfl, i1.toList, i2.toList, ns, ms, rfl, hi, hj, by omega, h⟩
end
section
variable {P : Program} {w : World} {A : Around} {E : Value → Shared → Prop} {s : Shared}
theorem le_tupInts {l b : Addr} {i1 i2 : Array Value} {ns ms : List Int} {Q : Value → Shared → Prop} (hl : IsTup s.heap l i1) (hb : IsTup s.heap b i2) (hi : IntsAre i1.toList ns) (hj : IntsAre i2.toList ms)
    (hu : A.units < cLine) (h : Q (.bool (leB ns ms)) s) : wpAny (model P w) A (compareOp .LtE (.ref l) (.ref b)) Q E s := by
  obtain ⟨⟨cls, dd, data, sl⟩, ho, hc, n, hd⟩ := id hl; obtain ⟨⟨cls2, dd2, data2, sl2⟩, ho2, hc2, n2, hd2⟩ := id hb
  simp only at hc hd hc2 hd2; subst hc hd hc2 hd2
  exact richCompare_meets_room (op := .LtE) ⟨_, ho, rfl⟩ ⟨_, ho2, rfl⟩ PySem.F.slot_tuple_le PySem.F.entry_tuple_le (PySem.F.args_tuple_le_2 _ _) (tuple_le_ints l b i1 i2 n n2 dd dd2 sl sl2 ns ms hi hj)
    ⟨ho, ho2, show Value.bool (leB ns ms) ≠ Value.notImplemented ∧ Q (.bool (leB ns ms)) s from ⟨(fun x => nomatch x), h⟩⟩ hu
theorem cat_nil {t b : Addr} {ws : List Value} {Q : Value → Shared → Prop} (ht : IsTup s.heap t #[]) (hb : IsTup s.heap b ws.toArray) (h : Q (.ref b) s) : wpAny (model P w) A (binaryOp .Add (.ref t) (.ref b)) Q E s := by
  obtain ⟨⟨cls, dd, data, sl⟩, ho, hc, n, hd⟩ := id ht; obtain ⟨⟨cls2, dd2, data2, sl2⟩, ho2, hc2, n2, hd2⟩ := id hb
  simp only at hc hd hc2 hd2; subst hc hd hc2 hd2
  exact concat_meets ⟨_, ho, rfl⟩ ⟨_, ho2, rfl⟩ noFill_tuple_add seq_tuple_add PySem.F.slot_tuple_add PySem.F.entry_tuple_add (PySem.F.args_tuple_add_2 _ _) (tuple_addW0 t b #[] ws.toArray n n2 dd dd2 sl sl2 (by simp)) ⟨ho, ho2, h⟩
/-! t * k -/
theorem repeat_tuple : seqRepeat? (.type "tuple") = pure (some (.builtin "tuple.__mul__")) := by
  first | kernel_rfl | rfl | (unfold seqRepeat?; kernel_rfl)
theorem noFill_tuple_mul : fillsNumberSlot (.type "tuple") "mul" = pure false := by
  first | kernel_rfl | rfl
theorem rmul_tuple (a : Int) (t : Tok) (l : Addr) (xs : Array Value) (n : Nat) (dd : Option Addr) (sl : Array (Option Value)) :
    Meets (Builtin.«int.__rmul__» ⟨[.int a t, .ref l], []⟩) (fun _ R s => s.heap.get? l = some { cls := .type "tuple", dict := dd, data := .seq xs n, slots := sl } ∧ R (.ok (.ret Value.notImplemented)) s) :=
  .of_wp fun P w A R s h => by obtain ⟨hp, g, d, tk, os⟩ := s; obtain ⟨hl, h⟩ := h; wp_walk; exact ⟨_, rfl, h⟩
theorem mul_nil (l : Addr) (k : Int) (u : Tok) (n : Nat) (dd : Option Addr) (sl : Array (Option Value)) (h1 : ¬ (decide (k < -(2 ^ 63)) || decide (k ≥ 2 ^ 63)) = true) :
    Meets (Builtin.«tuple.__mul__» ⟨[.ref l, .int k u], []⟩) (fun _ R s => s.heap.get? l = some { cls := .type "tuple", dict := dd, data := .seq #[] n, slots := sl } ∧ R (.ok (.ret (.ref l))) s) :=
  .of_wp fun P w A R s h => by
    obtain ⟨hp, g, d, tk, os⟩ := s; obtain ⟨hl, h⟩ := h
    have f1 := AutoSeq1.idx_int
    have hc : ((#[] : Array Value).isEmpty || k == 1) = true := by simp
    wp_walk using AutoSeq1.wpAny_loadPart' hl
    simp only [h1, if_false]
    wp_walk using AutoSeq1.wpAny_loadPart' hl
    exact ⟨_, rfl, h⟩
theorem mul_more (l : Addr) (xs : Array Value) (k : Int) (u : Tok) (n : Nat) (dd : Option Addr) (sl : Array (Option Value)) (h1 : ¬ (decide (k < -(2 ^ 63)) || decide (k ≥ 2 ^ 63)) = true) (h2 : ¬ (xs.isEmpty || k == 1) = true) (h3 : ¬ (decide (k ≤ 0) || xs.isEmpty) = true)
    (h4 : ¬ (xs.size : Int) * k > (2 ^ 63 - 1) / 8) (h5 : ¬ Builtin.Tuple.tupleTooMany ((xs.size : Int) * k) = true) (h6 : (List.foldl (fun x y => x ++ y) #[] (List.replicate k.toNat xs)).size ≤ sizeLine) :
    Meets (Builtin.«tuple.__mul__» ⟨[.ref l, .int k u], []⟩) (fun _ R s => s.heap.get? l = some { cls := .type "tuple", dict := dd, data := .seq xs n, slots := sl } ∧ R (.ok (.ret (.ref s.heap.objs.size))) { s with heap := s.heap.push { cls := .type "tuple", data := .seq (List.foldl (fun x y => x ++ y) #[] (List.replicate k.toNat xs)) } }) :=
  .of_wp fun P w A R s h => by
    obtain ⟨hp, g, d, tk, os⟩ := s; obtain ⟨hl, h⟩ := h
    have f1 := AutoSeq1.idx_int
    wp_walk using AutoSeq1.wpAny_loadPart' hl
    simp only [h1, if_false]
    wp_walk using AutoSeq1.wpAny_loadPart' hl
    simp only [h4, h5, if_false]
    refine wpAny_bind (m := Builtin.Tuple.tupleExact _) (wpAny_newObj_type (wpAny_pure ?_) h6)
    exact ⟨_, rfl, h⟩
end
end HT

namespace HT
open PySem PyProof.Rows
theorem filterMap_all {α β : Type} (f : α → Option β) (g : α → β) : ∀ (l : List α), (∀ k ∈ l, f k = some (g k)) → l.filterMap f = l.map g
  | [], _ => rfl
  | x :: r, h => by rw [List.filterMap_cons, h x List.mem_cons_self, List.map_cons, filterMap_all f g r fun k hk => h k (List.mem_cons_of_mem _ hk)]
section
variable {P : Program} {w : World} {A : Around} {E : Value → Shared → Prop} {s : Shared}
/-- t[lo:hi] that is the whole of t -/
theorem getItem_tuple_whole {t sl : Addr} {xs : Array Value} {vl vu : Value} {lo hi : Option Int} {Q : Value → Shared → Prop} (ht : IsTup s.heap t xs) (hs : s.heap.IsSliceOf sl vl vu .none) (pl : IsPart vl lo) (pu : IsPart vu hi)
    (hw : sIx xs.size 0 lo = 0 ∧ sIx xs.size xs.size hi = xs.size) (h : Q (.ref t) s) : wpAny (model P w) A (getItem (.ref t) (.ref sl)) Q E s := by
  obtain ⟨os, hos, hcs, hds⟩ := id hs
  have hTs : s.TypeIs (.ref sl) "slice" := ⟨os, hos, hcs⟩
  unfold getItem; try with_reducible refine wpAny_holding ?_
  first | refine wpAny_bind (wpAny_pure ?_) | skip
  refine wpAny_bind (wpAny_sequenceKey ht.typeIs (by decide) ?_); refine wpAny_bind (wpAny_callSpecial?_slot (name := Str.ofString "__getitem__") ht.typeIs PyProof.Rows.slot_tuple_getitem (wpAny_call_entry PyProof.Rows.slot_tuple_getitem ht.typeIs entry_tuple_getitem ?_ (args_tuple_getitem _ _)))
  show wpAny _ _ (Builtin.Tuple.tupleItemsOf (.ref t) >>= _) _ _ s; refine wpAny_bind (tupleItemsOf_ ht (wpAny_bind (wpAny_typeOf hTs ?_)))
  rw [if_pos (by decide)]; refine wpAny_bind (sliceApplied_gen hs pl pu ?_)
  rw [hw.1, hw.2]
  show wpAny _ _ (if (((0 : Nat) : Int) == 0 && (1 : Int) == 1 && (xs.size - 0) == xs.size) = true then _ else _) _ _ s
  rw [if_pos (by simp)]
  refine wpAny_bind (m := Builtin.Tuple.tupleIsExact _) ?_
  unfold Builtin.Tuple.tupleIsExact
  refine wpAny_bind (wpAny_typeOf ht.typeIs (wpAny_pure ?_))
  rw [if_pos (by decide)]
  first
    | exact wpAny_bind (wpAny_rule (wpAny_pure ⟨_, rfl, wpAny_pure h⟩))
    | exact wpAny_bind (wpAny_rule (wpAny_bind (wpAny_pure (wpAny_pure ⟨_, rfl, wpAny_pure h⟩))))
/-- t[::-1] -/
theorem getItem_tuple_rev {t sl : Addr} {xs : List Value} {u : Tok} {Q : Value → Shared → Prop} (ht : IsTup s.heap t xs.toArray) (hs : s.heap.IsSliceOf sl .none .none (.int (-1) u))
    (h : Q (.ref s.heap.objs.size) { s with heap := s.heap.push { cls := .type "tuple", data := .seq xs.reverse.toArray } }) (hz : xs.length ≤ sizeLine) : wpAny (model P w) A (getItem (.ref t) (.ref sl)) Q E s := by
  obtain ⟨os, hos, hcs, hds⟩ := id hs
  have hTs : s.TypeIs (.ref sl) "slice" := ⟨os, hos, hcs⟩
  unfold getItem; try with_reducible refine wpAny_holding ?_
  first | refine wpAny_bind (wpAny_pure ?_) | skip
  refine wpAny_bind (wpAny_sequenceKey ht.typeIs (by decide) ?_); refine wpAny_bind (wpAny_callSpecial?_slot (name := Str.ofString "__getitem__") ht.typeIs PyProof.Rows.slot_tuple_getitem (wpAny_call_entry PyProof.Rows.slot_tuple_getitem ht.typeIs entry_tuple_getitem ?_ (args_tuple_getitem _ _)))
  show wpAny _ _ (Builtin.Tuple.tupleItemsOf (.ref t) >>= _) _ _ s; refine wpAny_bind (tupleItemsOf_ ht (wpAny_bind (wpAny_typeOf hTs ?_)))
  rw [if_pos (by decide)]
  have app : ∀ {R : Int × Int × Nat → Shared → Prop}, R ((xs.length : Int) - 1, -1, xs.length) s → wpAny (model P w) A.in1 (Builtin.Slice.sliceApplied (.ref sl) (pure (xs.toArray.size : Int))) R E s := fun {R} q => by
    unfold Builtin.Slice.sliceApplied Builtin.Slice.sliceFields
    refine wpAny_bind (wpAny_bind (wpAny_field hos hds (x := .none) rfl (wpAny_bind (wpAny_field hos hds (x := .none) rfl (wpAny_bind (wpAny_field hos hds (x := .int (-1) u) rfl (wpAny_pure ?_)))))))
    refine wpAny_bind (slicePart_int ?_)
    show wpAny _ _ (if ((-1 : Int) == 0) = true then _ else _) _ _ s
    rw [if_neg (by decide)]
    refine wpAny_bind (slicePart_none (wpAny_bind (slicePart_none (wpAny_bind (wpAny_pure ?_)))))
    have e1 : Builtin.Slice.sliceAdjust none none (-1) (xs.toArray.size : Int) = ((xs.length : Int) - 1, -1) := by simp [Builtin.Slice.sliceAdjust]
    have e2 : Builtin.Slice.slicePlaces ((xs.length : Int) - 1) (-1) (-1) = xs.length := by
      unfold Builtin.Slice.slicePlaces
      rw [if_neg (by decide)]
      split
      · simp only [Int.neg_neg, Int.ediv_one]; omega
      · omega
    show wpAny _ _ (match Builtin.Slice.sliceAdjust none none (-1) (xs.toArray.size : Int) with | (lo, hi) => pure (lo, (-1 : Int), Builtin.Slice.slicePlaces lo hi (-1))) _ _ s
    rw [e1]
    show wpAny _ _ (pure ((xs.length : Int) - 1, (-1 : Int), Builtin.Slice.slicePlaces ((xs.length : Int) - 1) (-1) (-1))) _ _ s
    rw [e2]
    exact wpAny_pure q
  refine wpAny_bind (app ?_)
  show wpAny _ _ (if (((xs.length : Int) - 1) == 0 && (-1 : Int) == 1 && xs.length == xs.toArray.size) = true then _ else _) _ _ s
  rw [if_neg (by simp)]
  have pick : ((List.range xs.length).filterMap fun (k : Nat) => xs.toArray[((xs.length : Int) - 1 + (k : Int) * -1).toNat]?) = xs.reverse := by
    refine List.ext_getElem? fun i => ?_
    have hall : ∀ k ∈ List.range xs.length, xs.toArray[((xs.length : Int) - 1 + (k : Int) * -1).toNat]? = some (xs.getD (xs.length - 1 - k) Value.none) := fun k hk => by
      have hk' : k < xs.length := by simpa using hk
      have e : ((xs.length : Int) - 1 + (k : Int) * -1).toNat = xs.length - 1 - k := by omega
      rw [e]
      have : xs.length - 1 - k < xs.length := by omega
      simp [this]
    rw [filterMap_all _ _ _ hall, List.getElem?_map]
    by_cases hi : i < xs.length
    · have h2 : xs.length - 1 - i < xs.length := by omega
      rw [List.getElem?_range hi, List.getElem?_reverse hi]
      simp [h2]
    · rw [List.getElem?_eq_none (by simpa using hi), List.getElem?_eq_none (by simpa using hi)]; rfl
  rw [pick]
  have hsz : sizeOk (.seq xs.reverse.toArray) := by show xs.reverse.toArray.size ≤ sizeLine; rw [List.size_toArray, List.length_reverse]; exact hz
  first
    | exact wpAny_bind (m := Builtin.Tuple.tupleExact _) (wpAny_newObj_type (wpAny_pure ⟨_, rfl, wpAny_pure h⟩) hsz)
    | exact wpAny_bind (m := Builtin.Tuple.tupleExact _) (wpAny_newObj_type (wpAny_bind (wpAny_pure (wpAny_pure ⟨_, rfl, wpAny_pure h⟩))) hsz)
    | exact wpAny_bind (wpAny_bind (m := Builtin.Tuple.tupleExact _) (wpAny_newObj_type (wpAny_pure (wpAny_pure ⟨_, rfl, wpAny_pure h⟩)) hsz))
    | exact wpAny_bind (wpAny_bind (m := Builtin.Tuple.tupleExact _) (wpAny_newObj_type (wpAny_pure ⟨_, rfl, wpAny_pure h⟩) hsz))
end
end HT
namespace L2
open PySem PySem.Spec PyProof.Rows
theorem Same.sqT {K : PySem.W.Frag} {H H' : Hp} {a : Addr} {xs : List V} (e : Same H H') (h : SqT K H a xs) : SqT K H' a xs := by
  rcases h with (h | ⟨o, h⟩) | h
  · exact .inl (.inl (e _ _ h))
  · exact .inl (.inr ⟨o, e _ _ h⟩)
  · exact .inr h
theorem Same.new {H : Hp} {p : Addr} (o : HO) (n : H p = none) : Same H (upd H p o) := fun b u e => by rw [upd_ne (ne_of_none e n)]; exact e
/-- some tuple zs comes, all else as it was -/
def TupQ (K : PySem.W.Frag) (H : Hp) (zs : List V) (Q : VK) : Prop := ∀ p H', Same H H' → SqT K H' p zs → Q (.ref p) H'
section
variable {X : Cx} {pins : List (Addr × Obj)} {σ : St} {H : Hp} {s : Shared}
theorem TupQ.here {zs : List V} {Q : VK} {a : Addr} (q : TupQ X.K H zs Q) (I : Inv X pins σ H s) (h : SqT X.K H a zs) : EP X pins σ Q (.ref a) s := ⟨.ref a, H, I, rfl, q a H (Same.refl H) h⟩
theorem TupQ.new {zs : List V} {us : List Value} {Q : VK} (q : TupQ X.K H zs Q) (I : Inv X pins σ H s) (r : Vals zs us) (hz : zs.length ≤ sizeLine) :
    EP X pins σ Q (.ref s.heap.objs.size) { s with heap := s.heap.push { cls := .type "tuple", data := .seq us.toArray } } :=
  have hn : H s.heap.objs.size = none := I.hok.fresh (Nat.le_refl _)
  ⟨.ref s.heap.objs.size, _, I.laid (t' := s.toks) (o := .tup zs) (fun b ob q => Heap.get?_push_of_some _ q) (Nat.le_refl _) ⟨hz, _, r, IsTup.new _ _⟩, rfl, q _ _ (Same.new _ hn) (SqT.of upd_same)⟩
end
section
variable {X : Cx}
def rLeT (K : PySem.W.Frag) : R2 := fun x y H Q => ∃ a b ns ms, x = .ref a ∧ y = .ref b ∧ SqT K H a (ns.map V.int) ∧ SqT K H b (ms.map V.int) ∧ Q (.bl (HT.leB ns ms)) H
theorem op_leT (hu : X.A.units < cLine) : OpR X (compareOp .LtE) (rLeT X.K) := by
  intro pins s σ H x y v u Q I rx ry h
  obtain ⟨a, b, ns, ms, rfl, rfl, ha, hb, q⟩ := h
  cases rx; cases ry
  obtain ⟨v1, r1, p1, _⟩ := I.tuple ha
  obtain ⟨v2, r2, p2, _⟩ := I.tuple hb
  exact HT.le_tupInts p1 p2 (show IntsAre v1.toArray.toList ns from intsAre_of r1) (show IntsAre v2.toArray.toList ms from intsAre_of r2) hu ⟨.bl (HT.leB ns ms), H, I, rfl, q⟩
/-- t + u -/
def rCatG (K : PySem.W.Frag) : R2 := fun x y H Q => ∃ a b xs ys, x = .ref a ∧ y = .ref b ∧ SqT K H a xs ∧ SqT K H b ys ∧ xs.length + ys.length ≤ sizeLine ∧ TupQ K H (xs ++ ys) Q
theorem op_catG : OpR X (binaryOp .Add) (rCatG X.K) := by
  intro pins s σ H x y v u Q I rx ry h
  obtain ⟨a, b, xs, ys, rfl, rfl, ha, hb, hz, q⟩ := h
  cases rx; cases ry
  obtain ⟨v1, r1, p1, _⟩ := I.tuple ha
  obtain ⟨v2, r2, p2, _⟩ := I.tuple hb
  by_cases hx : xs = []
  · subst hx
    have e := r1.nil_iff.mpr rfl
    subst e
    exact HT.cat_nil p1 p2 (q.here I hb)
  · refine HT.cat_tup p1 p2 (fun z => hx (r1.nil_iff.mp z)) (fun z => ?_) (fun z => q.new I (r1.append r2) (by rw [List.length_append]; exact hz)) (by rw [← r1.length, ← r2.length]; exact hz)
    have e := r2.nil_iff.mp z
    subst e
    rw [List.append_nil] at q
    exact q.here I ha
/-- t * k, k at least 2 -/
def rMulT (K : PySem.W.Frag) : R2 := fun x y H Q => ∃ a k xs, x = .ref a ∧ y = .int k ∧ SqT K H a xs ∧ 2 ≤ k ∧ k < 1000000 ∧ k.toNat * xs.length ≤ sizeLine ∧ TupQ K H (List.replicate k.toNat xs).flatten Q
theorem op_mulT : OpR X (binaryOp .Mult) (rMulT X.K) := by
  intro pins s σ H x y v u Q I rx ry h
  obtain ⟨a, k, xs, rfl, rfl, ha, hk, hk2, hz, q⟩ := h
  cases rx
  obtain ⟨t, rfl⟩ := ry
  obtain ⟨v1, r1, p1, _⟩ := I.tuple ha
  have hl := r1.length
  obtain ⟨⟨cls, dd, data, sl⟩, ho, hc, n, hd⟩ := id p1
  simp only at hc hd; subst hc hd
  have h1 : ¬ (decide (k < -(2 ^ 63)) || decide (k ≥ 2 ^ 63)) = true := by simp; omega
  refine wpAny_binaryOp_repeat_ref (T := "tuple") (U := "int") (by decide) ⟨_, ho, rfl⟩ (fun s' => typeIs_int s' k t) HT.noFill_tuple_mul F.fills_int_mul F.slot_int_rmul HT.repeat_tuple F.slot_int_index.lookup
    (call_meets F.slot_int_rmul (typeIs_int s k t) F.entry_int_rmul (F.args_int_rmul_2 _ _) (HT.rmul_tuple k t a v1.toArray n dd sl) ⟨ho, rfl, ⟨_, ho, rfl⟩, ?_⟩)
  by_cases hx : xs = []
  · subst hx
    have e := r1.nil_iff.mpr rfl
    subst e
    refine call_meets F.slot_tuple_mul ⟨_, ho, rfl⟩ F.entry_tuple_mul (F.args_tuple_mul_2 _ _) (HT.mul_nil a k t n dd sl h1) ⟨ho, ?_⟩
    have e2 : (List.replicate k.toNat ([] : List V)).flatten = [] := by simp
    rw [e2] at q
    exact q.here I ha
  · have hv : v1 ≠ [] := fun z => hx (r1.nil_iff.mp z)
    have hpos : 0 < v1.length := List.length_pos_iff.mpr hv
    have hfl : List.foldl (fun x y => x ++ y) #[] (List.replicate k.toNat v1.toArray) = (List.replicate k.toNat v1).flatten.toArray := by
      have := foldl_rep v1 k.toNat []
      rw [List.nil_append] at this
      exact this
    have hsz : v1.length * k.toNat ≤ sizeLine := by rw [← hl, Nat.mul_comm]; exact hz
    have hcast : ((v1.toArray.size : Nat) : Int) * k = ((v1.length * k.toNat : Nat) : Int) := by rw [List.size_toArray, Int.natCast_mul, Int.toNat_of_nonneg (by omega)]
    have hline : (sizeLine : Nat) ≤ (2 ^ 63 - 1) / 8 := by decide
    refine call_meets F.slot_tuple_mul ⟨_, ho, rfl⟩ F.entry_tuple_mul (F.args_tuple_mul_2 _ _) (HT.mul_more a v1.toArray k t n dd sl h1 (by simp [hv]; omega) (by simp [hv]; omega) (by rw [hcast]; generalize v1.length * k.toNat = m at hsz; omega) (by rw [hcast]; generalize v1.length * k.toNat = m at hsz; unfold Builtin.Tuple.tupleTooMany; intro z; have z' := of_decide_eq_true z; omega)
      (by rw [hfl, List.size_toArray, len_rep, Nat.mul_comm]; exact hsz)) ⟨ho, ?_⟩
    rw [hfl]
    exact q.new I (r1.rep k.toNat) (by rw [len_rep]; exact hz)
/-- t[lo:hi] -/
def rSlG (K : PySem.W.Frag) : V → Option Int → Option Int → Hp → VK → Prop := fun x lo hi H Q => ∃ a xs, x = .ref a ∧ SqT K H a xs ∧ TupQ K H (cutV xs lo hi) Q
theorem sl_tupG : SlR X (rSlG X.K) := by
  intro pins s σ H x v vl vu lo hi sl Q I rx hs pl pu h
  obtain ⟨a, xs, rfl, hx, q⟩ := h
  cases rx
  obtain ⟨its, r, ht, hz⟩ := I.tuple hx
  have hlen : its.toArray.size = xs.length := by rw [List.size_toArray]; exact r.length.symm
  refine ⟨"tuple", _, PyProof.Rows.slot_tuple_getitem.lookup, ht.typeIs, ?_⟩
  by_cases hw : HT.sIx xs.length 0 lo = 0 ∧ HT.sIx xs.length xs.length hi = xs.length
  · refine HT.getItem_tuple_whole ht hs pl pu (by rw [hlen]; exact hw) ?_
    have e : cutV xs lo hi = xs := by unfold cutV; rw [hw.1, hw.2]; simp
    rw [e] at q
    exact q.here I hx
  · refine HT.getItem_tuple_cut ht hs pl pu (by rw [hlen]; exact hw) ?_ (by rw [hlen]; exact hz)
    rw [hlen]
    exact q.new I ((r.drop (HT.sIx xs.length 0 lo)).take (HT.sIx xs.length xs.length hi - HT.sIx xs.length 0 lo)) (Nat.le_trans (cutV_length xs lo hi) hz)
/-- t[::-1] -/
def tRev (K : PySem.W.Frag) (te ts : TE) : TE := fun σ H Q => te σ H fun x H1 => ts σ H1 fun y H2 => y = .int (-1) ∧ ∃ a xs, x = .ref a ∧ SqT K H2 a xs ∧ TupQ K H2 xs.reverse Q
theorem pe_rev {e st : Expr} {te ts : TE} {p2 pos : Pos} (he : PE X e te) (hst : PE X st ts) (hts : ∀ o r, letTemporaryGo e o r = pure () := by intro _ _; rfl) : PE X (.Subscript e (.Slice none none (some st) p2) pos) (tRev X.K te ts) := by
  intro pins s σ H Q I h
  refine wpAny_Subscript_Slice_step (T := "tuple") PyProof.Rows.slot_tuple_getitem.lookup (thn (he pins s σ H _ I h) fun v s1 ⟨x, H1, I1, r1, q1⟩ => ?_) hts
  refine wpAny_Slice ?_
  rw [evalPart_none]
  refine wpAny_pure (wpAny_pure ?_)
  rw [evalPart_some]
  refine thn (hst pins s1 σ H1 _ I1 q1) fun w' s2 ⟨y, H2, I2, r2, q2⟩ => ?_
  obtain ⟨rfl, a, xs, rfl, hq, q⟩ := q2
  obtain ⟨t, rfl⟩ := r2
  cases r1
  have I4 : Inv X pins σ H2 { s2 with heap := s2.heap.push { cls := .type "slice", data := .fields #[.none, .none, .int (-1) t] } } := I2.kept (t' := s2.toks) fun b ob q => Heap.get?_push_of_some _ q
  obtain ⟨its, r, ht, hz⟩ := I4.tuple hq
  exact ⟨ht.typeIs, HT.getItem_tuple_rev ht (Heap.IsSliceOf.new ..) (q.new I4 r.reverse (by rw [List.length_reverse]; exact hz)) (by rw [← r.length]; exact hz)⟩
theorem op_isB : OpR X (compareOp .Is) (fun x y H Q => ∃ b c, x = .bl b ∧ y = .bl c ∧ Q (.bl (b == c)) H) := by
  intro pins s σ H x y v u Q I rx ry h
  obtain ⟨b, c, rfl, rfl, q⟩ := h
  cases rx; cases ry
  exact is_bool (fin_bl I q rfl)
theorem op_isnotB : OpR X (compareOp .IsNot) (fun x y H Q => ∃ b c, x = .bl b ∧ y = .bl c ∧ Q (.bl (b != c)) H) := by
  intro pins s σ H x y v u Q I rx ry h
  obtain ⟨b, c, rfl, rfl, q⟩ := h
  cases rx; cases ry
  exact isnot_bool (fin_bl I q rfl)
theorem Inv.big {pins : List (Addr × Obj)} {σ : St} {H : Hp} {s : Shared} (I : Inv X pins σ H s) : sysModules < s.heap.objs.size := by
  have h : mainGlobals < s.heap.objs.size := (I.mod.glob.keeps I.bk).lt
  exact Nat.lt_trans (by decide) h
def tDNew : TE := fun _ H Q => ∀ p, H p = none → Q (.ref p) (upd H p (.dK []))
theorem pe_dnew {pos : Pos} : PE X (.Dict [] [] pos) tDNew := fun pins s σ H Q I h =>
  wpAny_Dict_empty ⟨.ref s.heap.objs.size, _, I.laid (a := s.heap.objs.size) (o := .dK []) (t' := s.toks) (fun _ _ q => Heap.get?_push_of_some _ q) (Nat.le_refl _) ⟨Nat.zero_le _, beq_eq_false_iff_ne.mpr (Ne.symm (Nat.ne_of_lt I.big)), [], .nil, Heap.DictOf.new _⟩, rfl, h _ (I.hok.fresh (Nat.le_refl _))⟩
/-- a op b op c op d -/
def tChain3 (r r' r'' : R2) (ta tb tc td : TE) : TT := fun σ H Q => ta σ H fun x H1 => tb σ H1 fun y H2 => r x y H2 fun z H3 => ∃ k, z = .bl k ∧
  (if k = true then tc σ H3 fun w' H4 => r' y w' H4 fun z2 H5 => ∃ k2, z2 = .bl k2 ∧ (if k2 = true then td σ H5 fun w3 H6 => r'' w' w3 H6 fun z3 H7 => ∃ k3, z3 = .bl k3 ∧ Q k3 H7 else Q false H5) else Q false H3)
theorem pt_chain3 {a b c d : Expr} {ta tb tc td : TE} {pos : Pos} {op op' op'' : CmpOp} {r r' r'' : R2} (ho : OpR X (compareOp op) r) (ho' : OpR X (compareOp op') r') (ho'' : OpR X (compareOp op'') r'') (ha : PE X a ta) (hb : PE X b tb) (hc : PE X c tc) (hd : PE X d td)
    (hm : lastMarks [op, op', op''] [b, c, d] = false := by with_unfolding_all rfl) : PT X (.Compare a [op, op', op''] [b, c, d] pos) (tChain3 r r' r'' ta tb tc td) := by
  intro pins s σ H Q I h
  refine isTrue_chain (thn (ha pins s σ H _ I h) fun v s1 ⟨x, H1, I1, r1, q1⟩ => test_link (thn (hb pins s1 σ H1 _ I1 q1) fun u s2 ⟨y, H2, I2, r2, q2⟩ => thn (ho pins s2 σ H2 x y v u _ I2 r1 r2 q2) fun e1 s3 ⟨z, H3, I3, r3, k, ek, q3⟩ => ?_)) hm
  subst ek; cases r3; refine wpAny_truthy_bool ?_
  cases k with
  | false => exact ite_ff ⟨H3, I3, q3⟩
  | true =>
    refine ite_tt (test_link (thn (hc pins s3 σ H3 _ I3 q3) fun w' s4 ⟨z', H4, I4, r4, q4⟩ => thn (ho' pins s4 σ H4 y z' u w' _ I4 r2 r4 q4) fun e2 s5 ⟨z2, H5, I5, r5, k2, ek2, q5⟩ => ?_))
    subst ek2; cases r5; refine wpAny_truthy_bool ?_
    cases k2 with
    | false => exact ite_ff ⟨H5, I5, q5⟩
    | true =>
      refine ite_tt (test_last (thn (hd pins s5 σ H5 _ I5 q5) fun w3 s6 ⟨z3, H6, I6, r6, q6⟩ => thn (ho'' pins s6 σ H6 z' z3 w' w3 _ I6 r4 r6 q6) fun e3 s7 ⟨z4, H7, I7, r7, k3, ek3, q7⟩ => ?_))
      subst ek3; cases r7
      exact wpAny_truthy_bool ⟨H7, I7, q7⟩
end
end L2

namespace MySort
open PySem PySem.W PyProof.Rows
section
variable {P : Program} {w : World} {A : Around} {E : Value → Shared → Prop} {s : Shared}
theorem collect_seq {l : Addr} {o : Obj} {vs : List Value} {n : Nat} {Q : List Value → Shared → Prop} (ho : s.heap.get? l = some o) (hc : o.cls = .type "list" ∨ o.cls = .type "tuple") (hd : o.data = .seq vs.toArray n)
    (h : Q vs { s with heap := (s.heap.push (seqObj "list" #[] 0)).update s.heap.objs.size (Obj.mapSeq (· ++ vs.toArray)) }) (hz : vs.length ≤ sizeLine) : wpAny (model P w) A (collect (.ref l)) Q E s := by
  unfold collect
  refine wpAny_bind (wpAny_runValue (codeAny_builtin entry_proto_collect' ?_)); show wpAny _ _ (do again (.builtin "list.__iadd__" ⟨[← newList [], .ref l], []⟩)) _ _ s
  refine wpAny_bind (wpAny_newList (wpAny_pure ⟨Code.quiet_builtin _ (by decide +kernel), codeAny_builtin entry_list_iadd' ?_⟩))
  show wpAny _ _ (Builtin.List.listExtendWith (.ref s.heap.objs.size) (.ref l) (.ref s.heap.objs.size)) _ _ { s with heap := s.heap.push (seqObj "list" #[] 0) }
  unfold Builtin.List.listExtendWith
  have ho' : (s.heap.push (seqObj "list" #[] 0)).get? l = some o := Heap.get?_push_of_some _ ho
  have fin : wpAny (model P w) A (do
      let o ← load s.heap.objs.size
      match o.data with
      | .seq xs _ => pure xs.toList
      | _ => unsupported "internal:collect") Q E { s with heap := (s.heap.push (seqObj "list" #[] 0)).update s.heap.objs.size (Obj.mapSeq (· ++ vs.toArray)) } := by
    refine wpAny_bind (wpAny_load (get?_update_seq (Heap.get?_push_size _ rfl) _) ?_)
    show wpAny _ _ (pure ((#[] : Array Value) ++ vs.toArray).toList) Q E _
    rw [show ((#[] : Array Value) ++ vs.toArray).toList = vs by simp]; exact wpAny_pure h
  rcases hc with hc | hc
  · refine wpAny_bind (wpAny_typeOf (T := "list") ⟨o, ho', hc⟩ ?_); rw [if_pos (by rw [show (Value.type "list" == Value.type "list") = true by rfl]; simp)]
    refine wpAny_bind (listItems_at ho' hd (wpAny_bind (listItems_at (xs := #[]) (n := 0) (Heap.get?_push_size _ rfl) rfl ?_))); rw [if_neg (by simp)]
    exact wpAny_bind (listUpdate_at (xs := #[]) (n := 0) (Heap.get?_push_size _ rfl) rfl (wpAny_pure fin) (Nat.zero_le _) (by show (#[] ++ vs.toArray).size ≤ sizeLine + 1; simp only [Array.size_append, List.size_toArray, List.length_nil]; omega))
  · refine wpAny_bind (wpAny_typeOf (T := "tuple") ⟨o, ho', hc⟩ ?_); rw [if_pos (by rw [show (Value.type "tuple" == Value.type "tuple") = true by rfl]; simp)]
    refine wpAny_bind (listItems_at ho' hd (wpAny_bind (listItems_at (xs := #[]) (n := 0) (Heap.get?_push_size _ rfl) rfl ?_))); rw [if_neg (by simp)]
    exact wpAny_bind (listUpdate_at (xs := #[]) (n := 0) (Heap.get?_push_size _ rfl) rfl (wpAny_pure fin) (Nat.zero_le _) (by show (#[] ++ vs.toArray).size ≤ sizeLine + 1; simp only [Array.size_append, List.size_toArray, List.length_nil]; omega))
theorem sorted_call {l : Addr} {o : Obj} {vs : List Value} {ks : List (List Int)} {n : Nat} {Q : Value → Shared → Prop} (ho : s.heap.get? l = some o) (hc : o.cls = .type "list" ∨ o.cls = .type "tuple") (hd : o.data = .seq vs.toArray n)
    (hk : Paired (KeyAt s.heap) vs ks) (h64 : vs.length < 64)
    (h : ∀ (p : List Nat) (h' : Heap) (c : Nat), sortedBy ks p → (∀ b o, s.heap.get? b = some o → h'.get? b = some o) → h'.get? (s.heap.objs.size + 1) = some (seqObj "list" (p.map fun i => vs.getD i Value.none).toArray c) → Q (.ref (s.heap.objs.size + 1)) { s with heap := h' }) :
    wpAny (model P w) A (call (.builtin "sorted") [.ref l]) Q E s := by
  refine Calls.call_function_entry kind_sorted plain_sorted entry_sorted (args_sorted1 _) ?_; unfold Builtin.«sorted»
  refine wpAny_bind (m := checkCount "sorted" 1 1 _) (wpAny_pure ?_); refine wpAny_bind (collect_seq ho hc hd ?_ (by rw [sizeLine_eq]; omega)); refine wpAny_bind (wpAny_newList ?_ (by rw [sizeLine_eq]; omega))
  have hsz : ((s.heap.push (seqObj "list" #[] 0)).update s.heap.objs.size (Obj.mapSeq (· ++ vs.toArray))).objs.size = s.heap.objs.size + 1 := by rw [Heap.size_update, size_push']
  have hoL : (((s.heap.push (seqObj "list" #[] 0)).update s.heap.objs.size (Obj.mapSeq (· ++ vs.toArray))).push (seqObj "list" vs.toArray 0)).get? (s.heap.objs.size + 1) = some (seqObj "list" vs.toArray 0) := by rw [← hsz]; exact Heap.get?_push_size _ rfl
  have keep : ∀ b o, s.heap.get? b = some o → (((s.heap.push (seqObj "list" #[] 0)).update s.heap.objs.size (Obj.mapSeq (· ++ vs.toArray))).push (seqObj "list" vs.toArray 0)).get? b = some o := fun b o q => by
    have hlt : b < s.heap.objs.size := Heap.lt_size q
    rw [Heap.get?_push_ne _ _ _ (by rw [hsz]; exact Nat.ne_of_lt (Nat.lt_succ_of_lt hlt)), Heap.get?_update_ne _ _ _ _ (Nat.ne_of_lt hlt), Heap.get?_push_ne _ _ _ (Nat.ne_of_lt hlt)]; exact q
  show wpAny _ _ _ _ _ { s with heap := ((s.heap.push (seqObj "list" #[] 0)).update s.heap.objs.size (Obj.mapSeq (· ++ vs.toArray))).push (seqObj "list" vs.toArray 0) }
  rw [hsz]
  refine wpAny_bind (wpAny_holding (wpAny_call_entry slot_list_sort ⟨_, hoL, rfl⟩ entry_list_sort (lsort_pairs hoL (keys_keep (fun b o e _ => keep b o e) hk) h64 fun p h' c hp kp hD => ⟨_, rfl, wpAny_pure ⟨_, rfl, h p h' c hp (fun b o e => kp b o (Nat.ne_of_lt (Nat.lt_succ_of_lt (Heap.lt_size e))) (keep b o e)) hD⟩⟩) (args_list_sort _)))
theorem ints_inj {vs : List Value} {ns : List Int} (h : IntsAre vs ns) : ∀ {ms : List Int}, IntsAre vs ms → ns = ms := by
  induction h with
  | nil => intro ms h'; cases h'; rfl
  | cons n t h ih => intro ms h'; cases h' with | cons _ _ h'' => rw [ih h'']
theorem ints_get {vs : List Value} {ns : List Int} (h : IntsAre vs ns) : ∀ {j : Nat} (hj : j < vs.length), ∃ t, vs[j] = Value.int (ns.getD j 0) t := by
  induction h with
  | nil => intro j hj; exact absurd hj (Nat.not_lt_zero _)
  | cons n t h ih =>
    intro j hj
    cases j with
    | zero => exact ⟨t, rfl⟩
    | succ j =>
      obtain ⟨u, e⟩ := ih (j := j) (by simpa using hj)
      exact ⟨u, by simpa using e⟩
theorem all_eq {α : Type} [DecidableEq α] (d : α) (ns ms : List α) : (((List.range (min ns.length ms.length)).all fun j => decide (ns.getD j d = ms.getD j d)) && ns.length == ms.length) = decide (ns = ms) := by
  rw [Bool.eq_iff_iff, Bool.and_eq_true, decide_eq_true_iff, List.all_eq_true]
  constructor
  · rintro ⟨h1, h2⟩
    have h2 : ns.length = ms.length := by simpa using h2
    refine List.ext_getElem h2 fun i a1 a2 => ?_
    have := h1 i (by simp; omega)
    simpa [a1, a2] using this
  · rintro rfl
    exact ⟨fun j _ => by simp, by simp⟩
theorem keys_eqAt {v1 v2 : Value} {k1 k2 : List Int} (hu : A.units < cLine) (hx : KeyAt s.heap v1 k1) (hy : KeyAt s.heap v2 k2) : SeqAt.EqAt A s v1 v2 (decide (k1 = k2)) := by
  obtain ⟨b1, o1, it1, n1, e1, ho1, hc1, hd1, hi1, _⟩ := hx
  obtain ⟨b2, o2, it2, n2, e2, ho2, hc2, hd2, hi2, _⟩ := hy
  subst e1 e2
  by_cases hb : b1 = b2
  · subst hb
    rw [ho1] at ho2; cases ho2
    rw [hd1] at hd2; cases hd2
    rw [ints_inj hi1 hi2, decide_eq_true rfl]
    exact SeqAt.EqAt.same _
  · have l1 : it1.size = k1.length := by rw [← hi1.length]; simp
    have l2 : it2.size = k2.length := by rw [← hi2.length]; simp
    have r := SeqAt.RcAt.tuples (A := A) (s := s) (e := fun j => decide (k1.getD j 0 = k2.getD j 0)) ⟨o1, ho1, hc1, n1, hd1⟩ ⟨o2, ho2, hc2, n2, hd2⟩ hu fun j h1 h2 => by
      obtain ⟨t, e⟩ := ints_get hi1 (j := j) (by simpa using h1)
      obtain ⟨u, e'⟩ := ints_get hi2 (j := j) (by simpa using h2)
      have e : it1[j] = Value.int (k1.getD j 0) t := by simpa using e
      have e' : it2[j] = Value.int (k2.getD j 0) u := by simpa using e'
      rw [e, e']
      have := SeqAt.EqAt.int_int (A := A.in1) (s := s) (k1.getD j 0) t (k2.getD j 0) u
      rwa [Bool.beq_eq_decide_eq] at this
    rw [l1, l2, all_eq] at r
    exact SeqAt.EqAt.of_refs hb r
end
end MySort
namespace L2
open PySem PySem.Spec PyProof.Rows
open MySort (sortedBy)
/-- tuples of ints, each of one at least -/
def KeysV (K : PySem.W.Frag) (H : Hp) (xs : List V) (ks : List (List Int)) : Prop := Paired (fun x k => ∃ b, x = V.ref b ∧ SqT K H b (k.map V.int) ∧ k ≠ []) xs ks
theorem KeysV.same {K : PySem.W.Frag} {H H' : Hp} {xs : List V} {ks : List (List Int)} (e : Same H H') (h : KeysV K H xs ks) : KeysV K H' xs ks := Paired.mapP h fun _ _ ⟨b, e1, e2, e3⟩ => ⟨b, e1, e.sqT e2, e3⟩
theorem KeysV.length : ∀ {K : PySem.W.Frag} {H : Hp} {xs : List V} {ks : List (List Int)}, KeysV K H xs ks → xs.length = ks.length
  | _, _, _, _, .nil => rfl
  | _, _, _, _, .cons _ r => by simp [KeysV.length r]
section
variable {X : Cx}
theorem keys_at {pins : List (Addr × Obj)} {σ : St} {H : Hp} {s : Shared} (I : Inv X pins σ H s) : ∀ {xs : List V} {ks : List (List Int)} {us : List Value}, KeysV X.K H xs ks → Vals xs us → Paired (MySort.KeyAt s.heap) us ks
  | _, _, _, .nil, .nil => .nil
  | _, _, _, .cons ⟨b, e, hq, hne⟩ r, .cons rv rr => by
    subst e
    cases rv
    obtain ⟨its, r1, ⟨o, ho, hc, n, hd⟩, _⟩ := I.tuple hq
    exact .cons ⟨b, o, its.toArray, n, rfl, ho, hc, hd, intsAre_of r1, hne⟩ (keys_at I r rr)
theorem call_sorted : CallR X (.builtin "sorted") (fun args H Q => ∃ a xs ks, args = [.ref a] ∧ (SqL X.K H a xs ∨ SqT X.K H a xs) ∧ xs.length < 64 ∧ KeysV X.K H xs ks ∧ ∀ p l, sortedBy ks p → H l = none → Q (.ref l) (upd H l (.lst (p.map fun i => xs.getD i .non)))) := by
  intro pins s σ H args us Q I r h
  obtain ⟨a, xs, ks, rfl, hq, h64, hk, q⟩ := h
  obtain ⟨u, rfl, rx⟩ := vals1 r
  cases rx
  have go : ∀ (its : List Value) (o : Obj) (n : Nat), Vals xs its → s.heap.get? a = some o → (o.cls = .type "list" ∨ o.cls = .type "tuple") → o.data = .seq its.toArray n → wpAny (model X.prog X.w) X.A (call (.builtin "sorted") [.ref a]) (EP X pins σ Q) X.xe s := fun its o n rv ho hc hd => by
    refine MySort.sorted_call ho hc hd (keys_at I hk rv) (by rw [← rv.length]; exact h64) fun p h' c hp kp hD => ?_
    have hn : H (s.heap.objs.size + 1) = none := I.hok.fresh (Nat.le_add_right _ 1)
    have hlen : (p.map fun i => xs.getD i .non).length ≤ sizeLine := by rw [List.length_map, hp.1.length_eq, List.length_range, ← hk.length, sizeLine_eq]; omega
    have rv' : Vals (p.map fun i => xs.getD i .non) (p.map fun i => its.getD i Value.none) := by
      have hall : ∀ i ∈ p, i < xs.length := fun i hi => by have := hp.1.mem_iff.mp hi; rw [hk.length]; simpa using this
      clear hp hD hlen
      induction p with
      | nil => exact .nil
      | cons i r ih =>
        refine .cons ?_ (ih fun j hj => hall j (List.mem_cons_of_mem _ hj))
        have hi := hall i List.mem_cons_self
        obtain ⟨u, hu, ru⟩ := rv.get (i := i) (x := xs[i]) (by simp [hi])
        have e1 : xs.getD i V.non = xs[i] := by simp [hi]
        have e2 : its.getD i Value.none = u := by rw [List.getD_eq_getElem?_getD, hu]; rfl
        show RelV (xs.getD i V.non) (its.getD i Value.none)
        rw [e1, e2]; exact ru
    exact ⟨.ref (s.heap.objs.size + 1), _, I.laid (t' := s.toks) kp (Nat.le_add_right _ 1) (show ObjOk X.prog X.w _ h' _ (.lst _) from ⟨hlen, _, c, rv', hD⟩), rfl, q p _ hp hn⟩
  rcases hq with hq | hq
  · obtain ⟨its, rv, pl, _⟩ := I.list hq
    obtain ⟨o, ho, hc, n, hd⟩ := pl.isList
    exact go its o n rv ho (.inl hc) hd
  · obtain ⟨its, rv, ⟨o, ho, hc, n, hd⟩, _⟩ := I.tuple hq
    exact go its o n rv ho (.inr hc) hd
theorem op_eqK (hu : X.A.units + 1 < cLine) : OpR X (compareOp .Eq) (fun x y H Q => ∃ a b xs ys ks js, x = .ref a ∧ y = .ref b ∧ SqL X.K H a xs ∧ SqL X.K H b ys ∧ KeysV X.K H xs ks ∧ KeysV X.K H ys js ∧ Q (.bl (decide (ks = js))) H) := by
  intro pins s σ H x y v u Q I rx ry h
  obtain ⟨a, b, xs, ys, ks, js, rfl, rfl, ha, hb, hk, hj, q⟩ := h
  cases rx; cases ry
  obtain ⟨v1, r1, p1, _⟩ := I.list ha
  obtain ⟨v2, r2, p2, _⟩ := I.list hb
  have k1 := keys_at I hk r1
  have k2 := keys_at I hj r2
  have l1 := MySort.keys_len k1
  have l2 := MySort.keys_len k2
  by_cases hl : ks.length = js.length
  · refine SeqAt.eq_listAt (e := fun j => decide (ks.getD j [] = js.getD j [])) p1.isList p2.isList (by simp; omega) (by omega) (fun j h1 h2 => ?_) ⟨.bl (decide (ks = js)), H, I, ?_, q⟩
    · have h1' : j < v1.length := by simpa using h1
      have h2' : j < v2.length := by simpa using h2
      have := MySort.keys_eqAt (A := X.A.in1) (by show X.A.units + 1 < cLine; exact hu) (MySort.keys_get k1 h1') (MySort.keys_get k2 h2')
      simpa [h1', h2'] using this
    · show Value.bool _ = Value.bool _
      have e := MySort.all_eq [] ks js
      rw [hl, Nat.min_self] at e
      simp only [beq_self_eq_true, Bool.and_true] at e
      rw [← e]
      congr 2
      rw [List.size_toArray, l1, hl]
  · refine SeqAt.eq_list_lengthsAt p1.isList p2.isList (by simp; omega) (by omega) ⟨.bl (decide (ks = js)), H, I, ?_, q⟩
    show Value.bool _ = Value.bool _
    rw [decide_eq_false fun e => hl (by rw [e])]
/-- isinstance(x, (T, ..)) -/
theorem call_isinstT : CallR X (.builtin "isinstance") (fun xs H Q => ∃ (x : V) (a : Addr) (ts : List String) (t : Value) (b : Bool), xs = [x, .ref a] ∧ TyOf X.K H x t ∧ SqT X.K H a (ts.map V.ty) ∧ PySem.W.kitAny X.K t (ts.map Value.type) = some b ∧ (x = .non ∨ (∃ c, x = .bl c) ∨ (∃ c, x = .int c) ∨ (∃ c, x = .str c) ∨ (∃ c zs, x = .ref c ∧ (H c = some (.tup zs) ∨ H c = some (.lst zs)))) ∧ Q (.bl b) H) := by
  intro pins s σ H xs us Q I r h
  obtain ⟨x, a, ts, t, b, rfl, ty, hq, e, hx, q⟩ := h
  obtain ⟨u, w', rfl, rx, rt⟩ := vals2 r
  cases (show w' = Value.ref a from rt)
  obtain ⟨its, rv, ⟨⟨cls, dd, data, sl⟩, ho, hc, n, hd⟩, hzz⟩ := I.tuple hq
  clear hzz
  simp only at hc hd; subst hc hd
  have eits : its = ts.map Value.type := by
    clear ho e hq
    induction ts generalizing its with
    | nil => cases rv; rfl
    | cons t r ih => cases rv with | cons p q => rw [ih _ q, show _ = Value.type t from p]; rfl
  subst eits
  have fin : ∀ tk, EP X pins σ Q (.bool b) { s with toks := tk } := fun tk => ⟨.bl b, H, I.tok tk, rfl, q⟩
  rcases hx with rfl | ⟨c, rfl⟩ | ⟨c, rfl⟩ | ⟨c, rfl⟩ | ⟨c, zs, rfl, hcz⟩
  · cases ty; cases rx; exact PySem.W.kia_tup PySem.W.kitx_none I.kIn True.intro ho e (fun z => nomatch z) fin
  · cases ty; cases rx; exact PySem.W.kia_tup PySem.W.kitx_bool I.kIn True.intro ho e (fun z => nomatch z) fin
  · cases ty; obtain ⟨t, rfl⟩ := rx; exact PySem.W.kia_tup PySem.W.kitx_int I.kIn True.intro ho e (fun z => nomatch z) fin
  · cases ty; obtain ⟨t, rfl⟩ := rx; exact PySem.W.kia_tup PySem.W.kitx_str I.kIn True.intro ho e (fun z => nomatch z) fin
  · cases rx
    rcases hcz with hcz | hcz
    · have et : t = .type "tuple" := by cases ty <;> first | rfl | (rename_i e'; rw [hcz] at e'; cases e') | (rename_i e' _ _ _ _ _; rw [hcz] at e'; cases e')
      subst et
      obtain ⟨_, _, _, p⟩ := (show ObjOk X.prog X.w H s.heap c (.tup zs) from I.hok c _ hcz)
      obtain ⟨o, h1, h2, _⟩ := p
      exact PySem.W.kia_tup PySem.W.kitx_tuple I.kIn ⟨o, h1, h2⟩ ho e (fun z => nomatch z) fin
    · have et : t = .type "list" := by cases ty <;> first | rfl | (rename_i e'; rw [hcz] at e'; cases e') | (rename_i e' _ _ _ _ _; rw [hcz] at e'; cases e')
      subst et
      obtain ⟨_, _, n, _, h1⟩ := (show ObjOk X.prog X.w H s.heap c (.lst zs) from I.hok c _ hcz)
      exact PySem.W.kia_tup PySem.W.kitx_list I.kIn ⟨_, h1, rfl⟩ ho e (fun z => nomatch z) fin
end
/-! ### comprehensions, the forms one uses -/
section
variable {K : PySem.W.Frag} {g : TG} {tt : TT} {te : TE} {σ0 : St} {H : Hp} {Q : VK}
theorem comp_list {a : Addr} {xs : List V} (Pv : Nat → List V → Hp → Prop) (hz : xs.length ≤ sizeLine) (h0 : Pv 0 [] H) (hl : ∀ i ys H, i ≤ xs.length → Pv i ys H → SqL K H a xs ∧ ys.length ≤ i)
    (hs : ∀ i x ys H, xs[i]? = some x → Pv i ys H → g x σ0 H fun σ2 H2 => tt σ2 H2 fun b H3 => if b = true then te σ2 H3 (fun y H4 => Pv (i + 1) (ys ++ [y]) H4) else Pv (i + 1) ys H3)
    (hd : ∀ ys H p, Pv xs.length ys H → H p = none → Q (.ref p) (upd H p (.lst ys))) : compW (Itl K a) σ0 H g tt te Q := by
  refine ⟨fun i m ys H => m = xs.length - i ∧ i ≤ xs.length ∧ Pv i ys H, ⟨xs.length, by simp, Nat.zero_le _, h0⟩, ?_⟩
  rintro i m ys H ⟨rfl, hi, p⟩
  obtain ⟨q, hy⟩ := hl i ys H hi p
  by_cases hlt : i < xs.length
  · refine .inr ⟨⟨xs, xs[i], q, by simp [hlt]⟩, by omega, Pv (i + 1), fun zs H' p' => ⟨xs.length - (i + 1), by omega, rfl, hlt, p'⟩, fun x H' y => ?_⟩
    obtain ⟨e, y⟩ := y
    subst e
    exact hs i x ys _ (y xs q) p
  · have e : i = xs.length := by omega
    subst e
    exact .inl ⟨⟨xs, q, Nat.le_refl _⟩, fun z hz => hd ys H z p hz⟩
theorem comp_tup {a : Addr} {xs : List V} (Pv : Nat → List V → Hp → Prop) (hz : xs.length ≤ sizeLine) (h0 : Pv 0 [] H) (hl : ∀ i ys H, i ≤ xs.length → Pv i ys H → SqT K H a xs ∧ ys.length ≤ i)
    (hs : ∀ i x ys H, xs[i]? = some x → Pv i ys H → g x σ0 H fun σ2 H2 => tt σ2 H2 fun b H3 => if b = true then te σ2 H3 (fun y H4 => Pv (i + 1) (ys ++ [y]) H4) else Pv (i + 1) ys H3)
    (hd : ∀ ys H p, Pv xs.length ys H → H p = none → Q (.ref p) (upd H p (.lst ys))) : compW (Itt K a) σ0 H g tt te Q := by
  refine ⟨fun i m ys H => m = xs.length - i ∧ i ≤ xs.length ∧ Pv i ys H, ⟨xs.length, by simp, Nat.zero_le _, h0⟩, ?_⟩
  rintro i m ys H ⟨rfl, hi, p⟩
  obtain ⟨q, hy⟩ := hl i ys H hi p
  by_cases hlt : i < xs.length
  · refine .inr ⟨⟨xs, xs[i], q, by simp [hlt]⟩, by omega, Pv (i + 1), fun zs H' p' => ⟨xs.length - (i + 1), by omega, rfl, hlt, p'⟩, fun x H' y => ?_⟩
    obtain ⟨e, y⟩ := y
    subst e
    exact hs i x ys _ (y xs q) p
  · have e : i = xs.length := by omega
    subst e
    exact .inl ⟨⟨xs, q, Nat.le_refl _⟩, fun z hz => hd ys H z p hz⟩
theorem comp_rng {lo : Int} {n : Nat} (Pv : Nat → List V → Hp → Prop) (hz : n ≤ sizeLine) (h0 : Pv 0 [] H) (hl : ∀ i ys H, Pv i ys H → ys.length ≤ i)
    (hs : ∀ i ys H, i < n → Pv i ys H → g (.int (lo + i)) σ0 H fun σ2 H2 => tt σ2 H2 fun b H3 => if b = true then te σ2 H3 (fun y H4 => Pv (i + 1) (ys ++ [y]) H4) else Pv (i + 1) ys H3)
    (hd : ∀ ys H p, Pv n ys H → H p = none → Q (.ref p) (upd H p (.lst ys))) : compW (Itr lo n) σ0 H g tt te Q := by
  refine ⟨fun i m ys H => m = n - i ∧ i ≤ n ∧ Pv i ys H, ⟨n, by simp, Nat.zero_le _, h0⟩, ?_⟩
  rintro i m ys H ⟨rfl, hi, p⟩
  have hy := hl i ys H p
  by_cases hlt : i < n
  · refine .inr ⟨hlt, by omega, Pv (i + 1), fun zs H' p' => ⟨n - (i + 1), by omega, rfl, hlt, p'⟩, fun x H' y => ?_⟩
    obtain ⟨e, y⟩ := y
    subst e y
    exact hs i ys _ hlt p
  · have e : i = n := by omega
    subst e
    exact .inl ⟨Nat.le_refl _, fun z hz => hd ys H z p hz⟩
theorem comp_zip {a b : Addr} {xs zs : List V} (Pv : Nat → List V → Hp → Prop) (hz : xs.length ≤ sizeLine) (h0 : Pv 0 [] H) (hl : ∀ i ys H, Pv i ys H → SqT K H a xs ∧ SqT K H b zs ∧ ys.length ≤ i)
    (hs : ∀ i x z ys H T, xs[i]? = some x → zs[i]? = some z → Pv i ys H → H T = none → g (.ref T) σ0 (upd H T (.tup [x, z])) fun σ2 H2 => tt σ2 H2 fun b H3 => if b = true then te σ2 H3 (fun y H4 => Pv (i + 1) (ys ++ [y]) H4) else Pv (i + 1) ys H3)
    (hd : ∀ ys H p, Pv (min xs.length zs.length) ys H → H p = none → Q (.ref p) (upd H p (.lst ys))) : compW (Itz K a b) σ0 H g tt te Q := by
  refine ⟨fun i m ys H => m = min xs.length zs.length - i ∧ i ≤ min xs.length zs.length ∧ Pv i ys H, ⟨min xs.length zs.length, by simp, Nat.zero_le _, h0⟩, ?_⟩
  rintro i m ys H ⟨rfl, hi, p⟩
  obtain ⟨q1, q2, hy⟩ := hl i ys H p
  by_cases hlt : i < min xs.length zs.length
  · have h1 : i < xs.length := by omega
    have h2 : i < zs.length := by omega
    refine .inr ⟨⟨xs, zs, xs[i], zs[i], q1, q2, by simp [h1], by simp [h2]⟩, by omega, Pv (i + 1), fun ws H' p' => ⟨min xs.length zs.length - (i + 1), by omega, rfl, hlt, p'⟩, fun x H' y => ?_⟩
    obtain ⟨T, e, hT, y⟩ := y
    subst e
    have e := y xs zs xs[i] zs[i] q1 q2 (by simp [h1]) (by simp [h2])
    subst e
    exact hs i xs[i] zs[i] ys _ T (by simp [h1]) (by simp [h2]) p hT
  · have e : i = min xs.length zs.length := by omega
    subst e
    exact .inl ⟨⟨xs, zs, q1, q2, by omega⟩, fun z hz => hd ys H z p hz⟩
end
end L2

namespace L2
open PySem PySem.Spec PyProof.Rows
/-- a thing, as one sees it from outside -/
inductive D where
  | non | bl (b : Bool) | int (i : Int) | str (x : Str) | tup (ds : List D) | lst (ds : List D) | dct
def D.ty : D → String
  | .non => "NoneType"
  | .bl _ => "bool"
  | .int _ => "int"
  | .str _ => "str"
  | .tup _ => "tuple"
  | .lst _ => "list"
  | .dct => "dict"
mutual
def Has (K : PySem.W.Frag) (H : Hp) : D → V → Prop
  | .non, v => v = .non
  | .bl b, v => v = .bl b
  | .int i, v => v = .int i
  | .str x, v => v = .str x
  | .tup ds, v => ∃ a xs, v = .ref a ∧ SqT K H a xs ∧ HasAll K H ds xs
  | .lst ds, v => ∃ a xs, v = .ref a ∧ SqL K H a xs ∧ HasAll K H ds xs
  | .dct, v => ∃ a kvs, v = .ref a ∧ H a = some (.dK kvs)
def HasAll (K : PySem.W.Frag) (H : Hp) : List D → List V → Prop
  | [], xs => xs = []
  | d :: ds, xs => ∃ x r, xs = x :: r ∧ Has K H d x ∧ HasAll K H ds r
end
section
variable {K : PySem.W.Frag} {H H' : Hp}
mutual
theorem Has.same (e : Same H H') : ∀ {d : D} {v : V}, Has K H d v → Has K H' d v
  | .non, _, h => by unfold Has at h ⊢; exact h
  | .bl _, _, h => by unfold Has at h ⊢; exact h
  | .int _, _, h => by unfold Has at h ⊢; exact h
  | .str _, _, h => by unfold Has at h ⊢; exact h
  | .tup ds, _, h => by
    unfold Has at h ⊢
    obtain ⟨a, xs, rfl, h1, h2⟩ := h
    exact ⟨a, xs, rfl, e.sqT h1, HasAll.same e h2⟩
  | .lst ds, _, h => by
    unfold Has at h ⊢
    obtain ⟨a, xs, rfl, h1, h2⟩ := h
    exact ⟨a, xs, rfl, e.seq h1, HasAll.same e h2⟩
  | .dct, _, h => by
    unfold Has at h ⊢
    obtain ⟨a, kvs, rfl, h1⟩ := h
    exact ⟨a, kvs, rfl, e _ _ h1⟩
theorem HasAll.same (e : Same H H') : ∀ {ds : List D} {xs : List V}, HasAll K H ds xs → HasAll K H' ds xs
  | [], _, h => by unfold HasAll at h ⊢; exact h
  | d :: ds, _, h => by
    unfold HasAll at h ⊢
    obtain ⟨x, r, rfl, h1, h2⟩ := h
    exact ⟨x, r, rfl, Has.same e h1, HasAll.same e h2⟩
end
theorem HasAll.nil : HasAll K H [] [] := by unfold HasAll; rfl
theorem HasAll.cons {d : D} {ds : List D} {x : V} {xs : List V} (h : Has K H d x) (r : HasAll K H ds xs) : HasAll K H (d :: ds) (x :: xs) := by unfold HasAll; exact ⟨x, xs, rfl, h, r⟩
theorem HasAll.length : ∀ {ds : List D} {xs : List V}, HasAll K H ds xs → xs.length = ds.length
  | [], _, h => by unfold HasAll at h; rw [h]; rfl
  | d :: ds, _, h => by
    unfold HasAll at h
    obtain ⟨x, r, rfl, _, h2⟩ := h
    simp [h2.length]
theorem HasAll.get : ∀ {ds : List D} {xs : List V} {i : Nat} {x : V}, HasAll K H ds xs → xs[i]? = some x → ∃ d, ds[i]? = some d ∧ Has K H d x
  | [], _, _, _, h, e => by unfold HasAll at h; rw [h] at e; simp at e
  | d :: ds, _, i, x, h, e => by
    unfold HasAll at h
    obtain ⟨y, r, rfl, h1, h2⟩ := h
    cases i with
    | zero => simp at e; subst e; exact ⟨d, rfl, h1⟩
    | succ i =>
      obtain ⟨d', e1, e2⟩ := HasAll.get (i := i) h2 (by simpa using e)
      exact ⟨d', by simpa using e1, e2⟩
theorem HasAll.append : ∀ {ds es : List D} {xs ys : List V}, HasAll K H ds xs → HasAll K H es ys → HasAll K H (ds ++ es) (xs ++ ys)
  | [], _, _, _, h, g => by unfold HasAll at h; rw [h]; exact g
  | d :: ds, _, _, _, h, g => by
    unfold HasAll at h
    obtain ⟨x, r, rfl, h1, h2⟩ := h
    exact .cons h1 (HasAll.append h2 g)
theorem HasAll.take : ∀ {ds : List D} {xs : List V} (n : Nat), HasAll K H ds xs → HasAll K H (ds.take n) (xs.take n)
  | ds, xs, 0, _ => by simp; exact .nil
  | [], _, n + 1, h => by unfold HasAll at h; rw [h]; simp; exact .nil
  | d :: ds, _, n + 1, h => by
    unfold HasAll at h
    obtain ⟨x, r, rfl, h1, h2⟩ := h
    exact .cons h1 (HasAll.take n h2)
theorem HasAll.drop : ∀ {ds : List D} {xs : List V} (n : Nat), HasAll K H ds xs → HasAll K H (ds.drop n) (xs.drop n)
  | ds, xs, 0, h => by simpa using h
  | [], _, n + 1, h => by unfold HasAll at h; rw [h]; simp; exact .nil
  | d :: ds, _, n + 1, h => by
    unfold HasAll at h
    obtain ⟨x, r, rfl, h1, h2⟩ := h
    exact HasAll.drop n h2
theorem HasAll.reverse : ∀ {ds : List D} {xs : List V}, HasAll K H ds xs → HasAll K H ds.reverse xs.reverse
  | [], _, h => by unfold HasAll at h; rw [h]; simp; exact .nil
  | d :: ds, _, h => by
    unfold HasAll at h
    obtain ⟨x, r, rfl, h1, h2⟩ := h
    rw [List.reverse_cons, List.reverse_cons]
    exact (HasAll.reverse h2).append (.cons h1 .nil)
theorem HasAll.rep {ds : List D} {xs : List V} (h : HasAll K H ds xs) : ∀ n : Nat, HasAll K H (List.replicate n ds).flatten (List.replicate n xs).flatten
  | 0 => by simp; exact .nil
  | n + 1 => by rw [List.replicate_succ, List.replicate_succ, List.flatten_cons, List.flatten_cons]; exact h.append (h.rep n)
theorem HasAll.set : ∀ {ds : List D} {xs : List V} {d : D} {x : V} (i : Nat), HasAll K H ds xs → Has K H d x → HasAll K H (ds.set i d) (xs.set i x)
  | [], _, _, _, _, h, _ => by unfold HasAll at h; rw [h]; simp; exact .nil
  | e :: ds, _, d, x, i, h, g => by
    unfold HasAll at h
    obtain ⟨y, r, rfl, h1, h2⟩ := h
    cases i with
    | zero => exact .cons g h2
    | succ i => exact .cons h1 (HasAll.set i h2 g)
theorem Has.non : Has K H .non .non := by unfold Has; rfl
theorem Has.bl (b : Bool) : Has K H (.bl b) (.bl b) := by unfold Has; rfl
theorem Has.int (i : Int) : Has K H (.int i) (.int i) := by unfold Has; rfl
theorem Has.str (x : Str) : Has K H (.str x) (.str x) := by unfold Has; rfl
theorem Has.tup {a : Addr} {xs : List V} {ds : List D} (h : SqT K H a xs) (r : HasAll K H ds xs) : Has K H (.tup ds) (.ref a) := by unfold Has; exact ⟨a, xs, rfl, h, r⟩
theorem Has.lst {a : Addr} {xs : List V} {ds : List D} (h : SqL K H a xs) (r : HasAll K H ds xs) : Has K H (.lst ds) (.ref a) := by unfold Has; exact ⟨a, xs, rfl, h, r⟩
theorem Has.dct {a : Addr} {kvs : List (Key × V)} (h : H a = some (.dK kvs)) : Has K H .dct (.ref a) := by unfold Has; exact ⟨a, kvs, rfl, h⟩
/-- some thing of outside -/
def Any (K : PySem.W.Frag) (H : Hp) (v : V) : Prop := ∃ d, Has K H d v
end
/-- whether a thing of type T is an instance of C -/
def isB (T C : String) : Bool := T == C || (T == "bool" && C == "int")
theorem kit_D (K : PySem.W.Frag) (d : D) : ∀ C ∈ ["int", "bool", "tuple", "list"], PySem.W.kitOne K (.type d.ty) (.type C) = some (isB d.ty C) := by
  intro C hC
  simp only [List.mem_cons, List.not_mem_nil, or_false] at hC
  rcases hC with rfl | rfl | rfl | rfl <;> cases d <;> first | rfl | kernel_rfl | decide +kernel
section
variable {X : Cx}
theorem call_isD : CallR X (.builtin "isinstance") (fun xs H Q => ∃ d x C, xs = [x, .ty C] ∧ Has X.K H d x ∧ C ∈ ["int", "bool", "tuple", "list"] ∧ Q (.bl (isB d.ty C)) H) := by
  intro pins s σ H xs us Q I r h
  obtain ⟨d, x, C, rfl, hd, hC, q⟩ := h
  obtain ⟨u, w', rfl, rx, rt⟩ := vals2 r
  cases (show w' = Value.type C from rt)
  have e := kit_D X.K d C hC
  have fin : ∀ tk, EP X pins σ Q (.bool (isB d.ty C)) { s with toks := tk } := fun tk => ⟨.bl _, H, I.tok tk, rfl, q⟩
  cases d with
  | non => unfold Has at hd; subst hd; cases rx; exact PySem.W.kia_one PySem.W.kitx_none I.kIn True.intro e (fun z => nomatch z) fin
  | bl b => unfold Has at hd; subst hd; cases rx; exact PySem.W.kia_one PySem.W.kitx_bool I.kIn True.intro e (fun z => nomatch z) fin
  | int i => unfold Has at hd; subst hd; obtain ⟨t, rfl⟩ := rx; exact PySem.W.kia_one PySem.W.kitx_int I.kIn True.intro e (fun z => nomatch z) fin
  | str y => unfold Has at hd; subst hd; obtain ⟨t, rfl⟩ := rx; exact PySem.W.kia_one PySem.W.kitx_str I.kIn True.intro e (fun z => nomatch z) fin
  | tup ds =>
    unfold Has at hd
    obtain ⟨a, ys, rfl, hq, _⟩ := hd
    cases rx
    obtain ⟨its, _, ⟨o, h1, h2, _⟩, _⟩ := I.tuple hq
    exact PySem.W.kia_one PySem.W.kitx_tuple I.kIn ⟨o, h1, h2⟩ e (fun z => nomatch z) fin
  | lst ds =>
    unfold Has at hd
    obtain ⟨a, ys, rfl, hq, _⟩ := hd
    cases rx
    obtain ⟨its, _, pl, _⟩ := I.list hq
    obtain ⟨o, h1, h2, _⟩ := pl.isList
    exact PySem.W.kia_one PySem.W.kitx_list I.kIn ⟨o, h1, h2⟩ e (fun z => nomatch z) fin
  | dct =>
    unfold Has at hd
    obtain ⟨a, kvs, rfl, hq⟩ := hd
    cases rx
    obtain ⟨_, _, vs, _, p⟩ := (show ObjOk X.prog X.w H s.heap a (.dK kvs) from I.hok a _ hq)
    obtain ⟨o, es, ep, h1, h2, _⟩ := p
    exact PySem.W.kia_one PySem.W.kitx_dict I.kIn ⟨o, h1, h2.1⟩ e (fun z => nomatch z) fin
end
/-! ### a heap without one address -/
def hide (st : Addr) (H : Hp) : Hp := fun b => if b = st then none else H b
theorem hide_same (st : Addr) (H : Hp) : Same (hide st H) H := fun b o e => by
  unfold hide at e
  split at e
  · cases e
  · exact e
theorem hide_upd (st : Addr) (H : Hp) (o : HO) : hide st (upd H st o) = hide st H := by
  funext b
  unfold hide upd
  by_cases e : b = st
  · rw [if_pos e, if_pos e]
  · rw [if_neg e, if_neg e, if_neg e]
theorem hide_mono {st : Addr} {H H' : Hp} (e : ∀ b o, b ≠ st → H b = some o → H' b = some o) : Same (hide st H) (hide st H') := fun b o h => by
  unfold hide at h ⊢
  by_cases q : b = st
  · rw [if_pos q] at h; cases h
  · rw [if_neg q] at h ⊢; exact e b o q h
theorem hide_get {st b : Addr} {H : Hp} {o : HO} (h : H b = some o) (n : b ≠ st) : hide st H b = some o := by
  unfold hide; rw [if_neg n]; exact h
end L2

namespace L2
open PySem PySem.Spec PyProof.Rows
def compOk (sc scX : Scope) (N own : List Str) (capt : List (Str × Nat)) : Bool :=
  sc.kind == .function && sc.names.all (fun y => y.2 != .cell) && sc.names.all (fun y => y.2 != .local || sc.names.lookup y.1 == some .local) &&
    sc.names.all (fun y => y.2 != .free || (scX.names.lookup y.1 == some .cell || scX.names.lookup y.1 == some .free)) && capt.all fun p => N[p.2]? == some p.1 && sc.names.lookup p.1 == some .free
theorem CompSc.of {X : Cx} {sc scX : Scope} {N own : List Str} {capt : List (Str × Nat)} (e : X.env.scope = scX) (eN : X.N = N) (h : compOk sc scX N own capt = true) : CompSc X sc own capt := by
  unfold compOk at h
  simp only [Bool.and_eq_true] at h
  obtain ⟨⟨⟨⟨h1, h2⟩, h3⟩, h4⟩, h5⟩ := h
  rw [List.all_eq_true] at h2 h3 h4 h5
  refine ⟨by simpa using h1, fun y hy => by simpa using h2 y hy, fun y hy hl => ?_, fun y hy hf => ?_, fun p hp => ?_⟩
  · have := h3 y hy; rw [hl] at this; simpa using this
  · have := h4 y hy
    rw [hf] at this
    show X.env.scope.names.lookup y.1 = _ ∨ X.env.scope.names.lookup y.1 = _
    rw [e]
    simpa using this
  · have := h5 p hp
    rw [eN]
    simpa using this
theorem gN {i : Nat} {v : V} {σ : St} {H : Hp} {R : St → Hp → Prop} (h : R (σ.set i (some v)) H) : gName i v σ H R := h
theorem ttYes_of {σ : St} {H : Hp} {R : Bool → Hp → Prop} (h : R true H) : ttYes σ H R := h
theorem small64 {n : Nat} (h : n ≤ 64) : n ≤ sizeLine := Nat.le_trans h (by decide)
/-! rules with the module's part named -/
theorem pg_tupK {X : Cx} (K : PySem.W.Frag) (n : Nat) {es : List Expr} {k : Nat} {pos : Pos} {t : TGs} (hc : X.calm = true) (h : PGs X es t) (hK : X.K = K := by rfl)
    (hn : (assignEach es X.env).length = n := by rfl) (hst : (assignEach es X.env).findIdx? (·.1) = none := by rfl) : PG X (.Tuple es k pos) (gTup K n t) := by subst hK; exact pg_tup hc h hn hst
theorem op_leK {X : Cx} (K : PySem.W.Frag) (hu : X.A.units < cLine) (hK : X.K = K := by rfl) : OpR X (compareOp .LtE) (rLeT K) := by subst hK; exact op_leT hu
end L2

namespace L2
open PySem PySem.Spec PyProof.Rows
section
variable {X : Cx}
/-- t == u, tuples of ints -/
theorem op_eqT2 (hu : X.A.units + 1 < cLine) : OpR X (compareOp .Eq) (fun x y H Q => ∃ (a b : Addr) (ns ms : List Int), x = .ref a ∧ y = .ref b ∧ SqT X.K H a (ns.map V.int) ∧ SqT X.K H b (ms.map V.int) ∧ Q (.bl (decide (ns = ms))) H) := by
  intro pins s σ H x y v u Q I rx ry h
  obtain ⟨a, b, ns, ms, rfl, rfl, ha, hb, q⟩ := h
  cases rx; cases ry
  obtain ⟨v1, r1, p1, _⟩ := I.tuple ha
  obtain ⟨v2, r2, p2, _⟩ := I.tuple hb
  have i1 := intsAre_of r1
  have i2 := intsAre_of r2
  have l1 := i1.length
  have l2 := i2.length
  refine SeqAt.eq_tupleAt (e := fun j => decide (ns.getD j 0 = ms.getD j 0)) p1 p2 (by omega) (fun j h1 h2 => ?_) ⟨.bl (decide (ns = ms)), H, I, ?_, q⟩
  · obtain ⟨t, e⟩ := MySort.ints_get i1 (j := j) (by simpa using h1)
    obtain ⟨u, e'⟩ := MySort.ints_get i2 (j := j) (by simpa using h2)
    have e : v1.toArray[j] = Value.int (ns.getD j 0) t := by simpa using e
    have e' : v2.toArray[j] = Value.int (ms.getD j 0) u := by simpa using e'
    rw [e, e']
    have := SeqAt.EqAt.int_int (A := X.A.in1) (s := s) (ns.getD j 0) t (ms.getD j 0) u
    rwa [Bool.beq_eq_decide_eq] at this
  · show Value.bool _ = Value.bool _
    rw [List.size_toArray, List.size_toArray, l1, l2, MySort.all_eq]
/-- xs == [] -/
theorem op_eqNil (hu : X.A.units + 1 < cLine) : OpR X (compareOp .Eq) (fun x y H Q => ∃ a b xs, x = .ref a ∧ y = .ref b ∧ SqL X.K H a xs ∧ SqL X.K H b [] ∧ Q (.bl xs.isEmpty) H) := by
  intro pins s σ H x y v u Q I rx ry h
  obtain ⟨a, b, xs, rfl, rfl, ha, hb, q⟩ := h
  cases rx; cases ry
  obtain ⟨v1, r1, p1, _⟩ := I.list ha
  obtain ⟨v2, r2, p2, _⟩ := I.list hb
  have l1 := r1.length
  have l2 := r2.length
  cases xs with
  | nil =>
    refine SeqAt.eq_listAt (e := fun _ => true) p1.isList p2.isList (by simp at l1 l2; simp; omega) (by omega) (fun j h1 h2 => ?_) ⟨.bl true, H, I, ?_, q⟩
    · simp at l1 h1; omega
    · show Value.bool _ = Value.bool _
      simp
  | cons y r =>
    refine SeqAt.eq_list_lengthsAt p1.isList p2.isList (by simp at l1 l2; simp; omega) (by omega) ⟨.bl false, H, I, rfl, q⟩
/-- xs != ys, lists of ints -/
theorem op_neInts (hu : X.A.units + 64 < cLine) : OpR X (compareOp .NotEq) (fun x y H Q => ∃ (a b : Addr) (ns ms : List Int), x = .ref a ∧ y = .ref b ∧ SqL X.K H a (ns.map V.int) ∧ SqL X.K H b (ms.map V.int) ∧ Q (.bl (!decide (ns = ms))) H) := by
  intro pins s σ H x y v u Q I rx ry h
  obtain ⟨a, b, ns, ms, rfl, rfl, ha, hb, q⟩ := h
  cases rx; cases ry
  obtain ⟨v1, r1, p1, _⟩ := I.list ha
  obtain ⟨v2, r2, p2, _⟩ := I.list hb
  exact PySem.W.ne_intsK p1.isList (intsAre_of r1) p2.isList (intsAre_of r2) hu ⟨.bl _, H, I, rfl, q⟩
theorem reads_ints {h : Heap} : ∀ {vs : List Value} {ns : List Int}, IntsAre vs ns → ReadsAll h vs (ns.map PyData.int) []
  | _, _, .nil => .nil
  | _, _, .cons n t r => .cons (as := []) (.int n t) (reads_ints r)
def dataK (ks : List (List Int)) : List PyData := ks.map fun k => .tuple (k.map PyData.int)
theorem reads_keys {h : Heap} : ∀ {us : List Value} {ks : List (List Int)}, Paired (MySort.KeyAt h) us ks → ∃ as, ReadsAll h us (dataK ks) as
  | _, _, .nil => ⟨_, .nil⟩
  | _, _, .cons p r => by
    obtain ⟨b, o, it, n, rfl, ho, hc, hd, hi, _⟩ := p
    obtain ⟨as, hr⟩ := reads_keys r
    exact ⟨_, .cons (.tuple ho hc hd (reads_ints hi)) hr⟩
theorem lay_ints : ∀ ns : List Int, PyData.canLayAll0 (ns.map PyData.int) = true
  | [] => rfl
  | _ :: r => by simp [PyData.canLayAll0, PyData.canLay0, lay_ints r]
theorem depth_ints : ∀ ns : List Int, PyData.depthAll (ns.map PyData.int) = 0
  | [] => rfl
  | _ :: r => by simp [PyData.depthAll, PyData.depth, depth_ints r]
theorem lay_keys : ∀ ks : List (List Int), PyData.canLayAll0 (dataK ks) = true
  | [] => rfl
  | k :: r => by
    have := lay_keys r
    simp only [dataK, List.map_cons, PyData.canLayAll0, PyData.canLay0, lay_ints, Bool.true_and] at this ⊢
    exact this
theorem depth_keys : ∀ ks : List (List Int), PyData.depthAll (dataK ks) ≤ 1
  | [] => by simp [dataK, PyData.depthAll]
  | k :: r => by
    have := depth_keys r
    simp only [dataK, List.map_cons, PyData.depthAll, PyData.depth, depth_ints] at this ⊢
    omega
/-- t != (), a tuple of tuples of ints -/
theorem op_neTnil (hu : X.A.units + 64 < cLine) : OpR X (compareOp .NotEq) (fun x y H Q => ∃ a b xs ks, x = .ref a ∧ y = .ref b ∧ SqT X.K H a xs ∧ KeysV X.K H xs ks ∧ SqT X.K H b [] ∧ Q (.bl (!ks.isEmpty)) H) := by
  intro pins s σ H x y v u Q I rx ry h
  obtain ⟨a, b, xs, ks, rfl, rfl, ha, hk, hb, q⟩ := h
  cases rx; cases ry
  obtain ⟨v1, r1, ⟨o1, h1, c1, n1, d1⟩, _⟩ := I.tuple ha
  obtain ⟨v2, r2, ⟨o2, h2, c2, n2, d2⟩, _⟩ := I.tuple hb
  cases r2
  obtain ⟨as, hr⟩ := reads_keys (keys_at I hk r1)
  refine ne_dataH (da := .tuple (dataK ks)) (db := .tuple []) (.tuple h1 c1 d1 (by simpa using hr)) (.tuple h2 c2 d2 .nil) ?_ (by decide) hu ⟨.bl (!ks.isEmpty), H, I, ?_, q⟩
  · simp only [SeqAt.shaped, PyData.canLay0, lay_keys, PyData.depth, Bool.true_and]
    have := depth_keys ks
    exact (decide_eq_true (by omega))
  · show Value.bool _ = Value.bool _
    cases ks with
    | nil => rfl
    | cons k r => rfl
end
end L2

namespace L2
open PySem PySem.Spec PyProof.Rows
theorem ObjOk.there {P : Program} {w : World} {H : Hp} {h : Heap} {a : Addr} {o : HO} (x : ObjOk P w H h a o) : ∃ u, h.get? a = some u := by
  cases o with
  | lst xs => obtain ⟨_, _, _, _, e⟩ := x; exact ⟨_, e⟩
  | tup xs => obtain ⟨_, _, _, o, e, _⟩ := x; exact ⟨_, e⟩
  | dK kvs => obtain ⟨_, _, _, _, o, _, _, e, _⟩ := x; exact ⟨_, e⟩
  | dT kvs => obtain ⟨_, _, _, _, o, _, _, e, _⟩ := x; exact ⟨_, e⟩
  | set S n => obtain ⟨o, _, _, _, e, _⟩ := x; exact ⟨_, e⟩
  | ins C dx fs => obtain ⟨_, _, _, e, _⟩ := x; exact ⟨_, e⟩
  | own y => obtain ⟨_, e⟩ := x; exact ⟨_, e⟩
  | xd fs => obtain ⟨_, ⟨_, _, _, e, _⟩, _⟩ := x; exact ⟨_, e⟩
  | rng lo hi => obtain ⟨_, _, _, e⟩ := x; exact ⟨_, e⟩
  | frz ob u => obtain ⟨e, _⟩ := x; exact ⟨_, e⟩
  | tbl ps => exact ⟨_, (show h.get? a = some _ from x)⟩
  | met f y => exact ⟨_, (show h.get? a = some _ from x)⟩
  | ext φ => obtain ⟨_, ⟨_, e⟩, _⟩ := x; exact ⟨_, e⟩
/-- all that an exception in flight leaves as it is stands in B -/
def InB (B : Heap) (fs : List Addr) (H' : Hp) (h h' : Heap) : Prop := ∀ b u, h'.get? b = some u → b ∉ fs → ((∃ o, h.get? b = some o) ∨ H' b ≠ none) → B.get? b = some u
/-- an exception that flies: its class and place, the tracked heap behind it -/
def CX1 (P : Program) (w : World) : CXT := fun outer H s E e s' => ∃ (a : Addr) (cls a0 : Value) (H' : Hp) (B : Heap), e = .ref a ∧ s'.os = s.os ∧ AllBare s'.gens ∧ Un (frs outer) [] H H' s.heap s'.heap ∧ HOk P w H' s'.heap ∧
  Heap.FlyingW B outer a cls a0 s'.heap ∧ H' a = none ∧ InB B (frs outer) H' s.heap s'.heap ∧ E cls (some a) H'
section
variable {X : Cx} {pins : List (Addr × Obj)} {σ : St} {H H' : Hp} {s s' : Shared} {B h'' : Heap} {a : Addr} {cls a0 : Value} {E : XK}
theorem fly_out (hS : X.stack = X.env :: X.outer) (hx : X.ex = []) (hf : X.env.frame = some X.env.locals) (I : Inv X pins σ H s) (os : s'.os = s.os) (bare : AllBare s'.gens) (un : Un (frs X.stack) [] H H' s.heap s'.heap) (hok : HOk X.prog X.w H' s'.heap)
    (bB : InB B (frs X.stack) H' s.heap s'.heap) (na : H' a = none) (fl : Heap.FlyingW B X.outer a cls a0 h'') (sm : s'.heap.UpToSlots h'') (he : E cls (some a) H') : CX1 X.prog X.w X.outer X.H₀ X.s₀ E (.ref a) { s' with heap := h'' } := by
  have hfs : frs X.stack = X.env.locals :: frs X.outer := by rw [hS]; unfold frs; rw [List.filterMap_cons, hf]
  have U1 := I.base
  rw [hx] at U1
  have U : Un (frs X.stack) [] X.H₀ H' X.s₀.heap s'.heap := (U1.mono (fun b hb => by rw [hfs]; exact List.mem_cons_of_mem _ hb) fun b hb => hb).trans un
  have nL : ∀ b o, X.s₀.heap.get? b = some o → b ∉ frs X.outer → b ∉ frs X.stack := fun b o e hn hm => by
    rw [hfs] at hm
    rcases List.mem_cons.mp hm with z | z
    · exact absurd (Heap.lt_size e) (by rw [z]; exact Nat.not_lt.mpr I.ok.above)
    · exact hn z
  have frN : ∀ b ∈ frs X.stack, H' b = none := fun b hb => by
    obtain ⟨_, o, ho, _⟩ := I.stack.mem hb
    exact un.free b o ho (I.stkFree b hb) (by simp)
  have old : ∀ b o, X.s₀.heap.get? b = some o → b ∉ frs X.outer → ∃ u, s'.heap.get? b = some u ∧ B.get? b = some u := fun b o e hn => by
    obtain ⟨o1, e1⟩ := U1.there b o e (by simp)
    obtain ⟨o2, e2⟩ := un.there b o1 e1 (by simp)
    exact ⟨o2, e2, bB b o2 e2 (nL b o e hn) (.inl ⟨o1, e1⟩)⟩
  have trk : ∀ b, H' b ≠ none → ∃ u, s'.heap.get? b = some u ∧ B.get? b = some u := fun b hb => by
    obtain ⟨o, e⟩ := Option.ne_none_iff_exists'.mp hb
    obtain ⟨u, eu⟩ := (hok b o e).there
    exact ⟨u, eu, bB b u eu (fun hm => by rw [frN b hm] at e; cases e) (.inr hb)⟩
  refine ⟨a, cls, a0, H', B, rfl, os.trans I.os, bare, ⟨fun b o e n hb _ => ?_, fun b o e n hb _ => ?_, fun b o e n hb => U.free b o e n hb, fun b o e _ => ?_, U.tups, U.frzs, U.tbls⟩, fun c o e => ?_, fl, na, fun b u e hn hor => ?_, he⟩
  · obtain ⟨u, e1, e2⟩ := old b o e hb
    have e3 := U.keep b o e n (nL b o e hb) (by simp)
    rw [e1] at e3; cases e3
    exact fl.1 b _ e2
  · obtain ⟨sl, e1⟩ := U.slot b o e n (by rw [hfs]; exact List.mem_cons_of_mem _ hb) (by simp)
    obtain ⟨_, o', ho', hd⟩ := I.ok.funs.mem hb
    rw [e] at ho'; cases ho'
    obtain ⟨sl', e2⟩ := sm b _ e1 hd
    exact ⟨sl', e2⟩
  · by_cases hb : b ∈ frs X.outer
    · obtain ⟨_, o', ho', _⟩ := fl.2.2.1.mem hb
      exact ⟨o', ho'⟩
    · obtain ⟨u, _, e2⟩ := old b o e hb
      exact ⟨u, fl.1 b _ e2⟩
  · refine (hok c o e).stay (fun b u hb q => ?_) (fun _ q => q) fun _ _ q => q
    have hbn : H' b ≠ none := by
      rcases hb with rfl | hb
      · rw [e]; exact fun z => nomatch z
      · rw [hb]; exact fun z => nomatch z
    obtain ⟨u', e1, e2⟩ := trk b hbn
    rw [q] at e1; cases e1
    exact fl.1 b _ e2
  · have : ∃ u', B.get? b = some u' := by
      rcases hor with ⟨o, ho⟩ | hor
      · obtain ⟨u', _, e2⟩ := old b o ho hn
        exact ⟨u', e2⟩
      · obtain ⟨u', _, e2⟩ := trk b hor
        exact ⟨u', e2⟩
    obtain ⟨u', e2⟩ := this
    have e3 := fl.1 b _ e2
    rw [e] at e3; cases e3
    exact e2
end
section
variable {P : Program} {w : World} {K : PySem.W.Frag} {mg : Str → Option Value} {base : Heap} {N : List Str} {qual : Str} {scope : Scope} {f : Addr} {cd : Value} {A : Around} {outer : List Env} {s₀ : Shared} {H₀ : Hp} {E : XK}
/-- raised here, it leaves the frame -/
theorem raise_out {pins : List (Addr × Obj)} {σ : St} {H : Hp} {s : Shared} {h' : Heap} {e : Addr} {cls : Value} {vs : List Value} (I : Inv (cxOf (CX1 P w) P w K mg base N qual scope f cd A outer s₀ H₀ E) pins σ H s) (hx : Heap.MadeExcOf s.heap h' e cls vs) (he : E cls (some e) H) :
    (cxOf (CX1 P w) P w K mg base N qual scope f cd A outer s₀ H₀ E).xe (.ref e) { s with heap := h' } := by
  have hin : ∀ env ∈ (cxOf (CX1 P w) P w K mg base N qual scope f cd A outer s₀ H₀ E).stack, ∀ a, env.frame = some a → a ∈ frs (cxOf (CX1 P w) P w K mg base N qual scope f cd A outer s₀ H₀ E).stack := fun env he a ha => List.mem_filterMap.mpr ⟨env, he, ha⟩
  have kB : (PySem.W.hideAll s.heap (frs (cxOf (CX1 P w) P w K mg base N qual scope f cd A outer s₀ H₀ E).stack)).StaysIn s.heap := fun b o q => PySem.W.of_hideAll _ q
  show wpAny _ _ (leaving _ _) _ _ _
  refine wpAny_leaves_madeW (base := PySem.W.hideAll s.heap (frs (cxOf (CX1 P w) P w K mg base N qual scope f cd A outer s₀ H₀ E).stack)) (h := s.heap) I.ok.frames rfl kB (PySem.W.funFrames_hide I.stack hin) hx fun h'' t fl _ _ sm => ?_
  have na : H e = none := by
    cases z : H e with
    | none => rfl
    | some o => obtain ⟨u, eu⟩ := (I.hok e o z).there; rw [hx.new] at eu; cases eu
  refine fly_out (X := cxOf (CX1 P w) P w K mg base N qual scope f cd A outer s₀ H₀ E) (s' := { s with heap := h' }) rfl rfl rfl I rfl I.bare (Un.kept hx.keeps) (I.hok.kept hx.keeps) (fun b u q hn hor => ?_) na fl sm he
  have : ∃ o, s.heap.get? b = some o := by
    rcases hor with hor | hor
    · exact hor
    · obtain ⟨o, z⟩ := Option.ne_none_iff_exists'.mp hor
      exact (I.hok b o z).there
  obtain ⟨o, ho⟩ := this
  have := hx.keeps b o ho
  have q' : h'.get? b = some u := q
  rw [this] at q'; cases q'
  exact PySem.W.hideAll_get _ ho hn
/-- raised by a callee, it passes through the frame -/
theorem pass1 : Passes (CX1 P w) (cxOf (CX1 P w) P w K mg base N qual scope f cd A outer s₀ H₀ E) E := by
  intro pins σ H s e s' I h
  obtain ⟨a, cls, a0, H', B, rfl, os, bare, un, hok, fl, na, bB, he⟩ := h
  show wpAny _ _ (leaving _ _) _ _ _
  refine wpAny_leaves_onW I.ok.frames rfl fl fun h'' fl' sm => ?_
  exact fly_out (X := cxOf (CX1 P w) P w K mg base N qual scope f cd A outer s₀ H₀ E) (s' := s') rfl rfl rfl I os bare un hok bB na fl' sm he
end
end L2

namespace L2
open PySem PySem.Spec PyProof.Rows
/-- an own exception class that stands in the written part: its object in the heap -/
theorem exc_obj {K : PySem.W.Frag} {h : Heap} {C : Addr} {bmB : List Value} {newId : String} (KX : K.In h) (hq : PySem.W.excIn K C bmB newId = true) :
    ∃ bm N nm q bs hdct sn sub ab col dd k0 k1 k2 k3 k5 mN, h.get? C = some (excClassObj nm q C N bs bm hdct sn sub ab col dd k0 k1 k2 k3 k5 newId) ∧ h.Ns N mN ∧ mN "__init__" = none ∧ OwnTail h bmB bm := by
  unfold PySem.W.excIn at hq
  split at hq
  case h_2 => cases hq
  case h_1 dd cd sl ho =>
    split at hq
    case h_2 => cases hq
    case h_1 C' bm k0 k1 k2 k3 n k5 hm hs =>
      simp only [Bool.and_eq_true, beq_iff_eq, Bool.not_eq_true'] at hq
      obtain ⟨⟨⟨⟨⟨z1, z2⟩, hdel⟩, ht⟩, hok⟩, hni⟩ := hq
      subst z1 z2
      cases cd with
      | mk nm bs mro ns qn hd sn sub ab col del =>
        dsimp only at hm hdel hok hni
        subst hm hdel
        have esl : sl = #[k0, k1, k2, k3, some (.builtin n), k5] := by cases sl with | mk l => simp only at hs; rw [hs]
        subst esl
        refine ⟨bm, ns, nm, qn, bs, hd, sn, sub, ab, col, dd, k0, k1, k2, k3, k5, h.nsMap ns, KX _ _ ho, ?_, PySem.W.nsMap_none_of_in KX hok hni, PySem.W.tail_of_in KX ht⟩
        exact .of_isNs (PySem.W.isNs_of_in KX hok)
/-- what a raise asks of its frame -/
def CanRaise (X : Cx) (E : XK) : Prop := ∀ (pins : List (Addr × Obj)) (σ : St) (H : Hp) (s : Shared) (h' : Heap) (e : Addr) (cls : Value) (vs : List Value), Inv X pins σ H s → Heap.MadeExcOf s.heap h' e cls vs → E cls (some e) H → X.xe (.ref e) { s with heap := h' }
theorem canRaise1 {P : Program} {w : World} {K : PySem.W.Frag} {mg : Str → Option Value} {base : Heap} {N : List Str} {qual : Str} {scope : Scope} {f : Addr} {cd : Value} {A : Around} {outer : List Env} {s₀ : Shared} {H₀ : Hp} {E : XK} :
    CanRaise (cxOf (CX1 P w) P w K mg base N qual scope f cd A outer s₀ H₀ E) E := fun _ _ _ _ _ _ _ _ I hx he => raise_out I hx he
/-- raise C('..') -/
def tRaise (E : XK) (C : Addr) (t : TA) : TS := fun _ σ H => t σ H fun vs H1 => vs.length ≤ sizeLine ∧ ∀ e, H1 e = none → E (.ref C) (some e) H1
section
variable {X : Cx} {x : Str} {C : Addr} {E : XK} {e₀ : Expr} {rest : List Expr} {t : TA} {np cpos pos : Pos}
theorem ps_raise (hE : CanRaise X E) (hc : X.calm = true) (hg : Gl X x) (hm : X.mg x = some (.ref C)) (hq : PySem.W.excIn X.K C [.type "ValueError", .type "Exception", .type "BaseException", .type "object"] "ValueError.__new__" = true) (ha : PA X (e₀ :: rest) t)
    (hdb : (x == ("__debug__" : Str)) = false := by decide) (he : starEach (e₀ :: rest) X.env = (false, eval e₀ X.env) :: starEach rest X.env := by rfl) (hpl : (backTo cpos (starEach rest X.env)).any (·.1) = false := by rfl) :
    PS X (.Raise (some (.Call (.Name x np) (e₀ :: rest) [] cpos)) none pos) (tRaise E C t) := by
  intro pins s σ H D I h
  obtain ⟨bm, N, nm, q, bs, hdct, sn, sub, ab, col, dd, k0, k1, k2, k3, k5, mN, hC, hN, hni, T⟩ := exc_obj I.ok.mod.kin hq
  refine wpAny_Raise_call_subT (C := C) (nm := nm) (q := q) (N := N) (bs := bs) (bm := bm) (hdct := hdct) (sn := sn) (sub := sub) (ab := ab) (col := col) (dd := dd) (k0 := k0) (k1 := k1) (k2 := k2) (k3 := k3) (k5 := k5)
    PySem.F.excBase_ValueError (mN := mN) (T.hasType PySem.F.excBase_ValueError.hasBase) (I.ok.hd hc) (by rw [he]; exact hpl) hni (ld_glob I hg hm ⟨rfl, ?_⟩ hdb)
  have k := ha cpos pins s σ H _ I h
  rw [he] at k ⊢
  refine Calls.evalArgs_plain (thn k fun us s2 ⟨vs, H2, I2, r, z, q⟩ => ⟨rfl, by show us.length ≤ _; rw [← r.length]; exact z, I2.bk _ _ hC, hN.keeps I2.bk, T.keeps I2.bk, fun h' e hx => ?_⟩)
  refine hE pins σ H2 s2 h' e _ us I2 hx (q e ?_)
  cases z : H2 e with
  | none => rfl
  | some o => obtain ⟨u, eu⟩ := (I2.hok e o z).there; rw [hx.new] at eu; cases eu
end
section
variable {P : Program} {w : World} {K : PySem.W.Frag} {mg : Str → Option Value} {base : Heap}
/-- a def that may raise -/
theorem Fun.okX {x qual : Str} {st : Stmt} {f : Addr} {fd : FuncData} {N ps : List Str} {k : Nat} {sp : Sp} (F : Fun K x qual st f fd) (S : FnScope N ps (defScope st)) (len : ∀ vs H Q E, sp vs H Q E → vs.length = ps.length)
    (hb : ∀ (cdv : Value) (A : Around) (outer : List Env) (s : Shared) (H : Hp) (vs : List V) (Q : VK) (E : XK), Room k (A.deeper (envOfC qual (defScope st) s.heap.objs.size f cdv)) → sp vs H Q E →
      ∃ t, PSs (cxOf (CX1 P w) P w K mg base N qual (defScope st) f cdv A outer s H E) (defBody st) t ∧ t { nx := fun _ H' => Q .non H', rt := Q } (start N vs) H) : FnOk P w K mg base (CX1 P w) (k + 1) f fd ps sp := by
  obtain ⟨oc, od, kV, doc, pm, an, cdv, ct, osl, rfl, lk, hcd⟩ := F.ex
  exact fn_of lk hcd S len fun A outer s H vs Q E hr hsp => hb cdv A outer s H vs Q E hr hsp
/-- a def that raises nothing, among such as may -/
theorem FnOk.quiet {k : Nat} {f : Addr} {fd : FuncData} {ps : List Str} {sp : Sp} (F : FnOk P w K mg base CX0 k f fd ps sp) : FnOk P w K mg base (CX1 P w) k f fd ps sp :=
  ⟨F.len, fun A outer s H args us vs Q E hr he hb hv hs => codeAny_mono (F.run A outer s H args us vs Q E hr he hb hv hs) fun r s' h => by
    cases r with
    | error e => exact False.elim h
    | ok fl => cases fl <;> exact h⟩
end
end L2

namespace L2
open PySem PySem.Spec PyProof.Rows PySem.W PySem.Builtin PySem.Builtin.ObjectAttr PySem.Builtin.Getset_descriptor
section
variable {prog : Program} {w : World} {A : Around} {E : Value → Shared → Prop} {K : PySem.W.Frag} {h : Heap} {gg : Array GenState} {d : Drawn} {t : Nat} {os : OsState} {x D : Addr} {ox : Obj}
/-- what the written part says of an own exception class, for __class__ of its instances -/
structure ExcLook (K : PySem.W.Frag) (D : Addr) : Prop where
  ga : findIn K (.ref D) "__getattribute__" = some (some (.builtin "BaseException.__getattribute__"))
  gh : findIn K (.ref D) "__getattr__" = some none
  mb : mroIn K D (.type "BaseException") = some true
  mo : mroIn K D (.type "object") = some true
  fc : findIn K (.ref D) "__class__" = some (some (.builtin "object.__class__"))
  fg : specialIn K (.builtin "object.__class__") "__get__" = some (some (.builtin "getset_descriptor.__get__"))
  ft : takesIn K (.builtin "object.__class__") = some true
/-- an object of the own class D -/
def excAt (a D : Addr) (h : Heap) : Prop := ∃ ox, h.get? a = some ox ∧ ox.cls = .ref D
theorem excAt.ty {M : Model} {a D : Addr} {h : Heap} (p : excAt a D h) : Looks M h (typeOf (.ref a)) (.ref D) := by
  obtain ⟨ox, e, c⟩ := p
  rw [← c]
  exact (Looks.ld e).andThen .now
theorem exc_find {M : Model} (KX : K.In h) (L : ExcLook K D) : Looks M h (find (.ref x) (.ref D) "__class__") (.bind (.builtin "getset_descriptor.__get__") (.builtin "object.__class__")) := by
  have l1 := looks_takesIn (M := M) KX L.ft
  have l2 : Looks M h (dataDescriptor? (some (.builtin "object.__class__")) (some (.builtin "getset_descriptor.__get__"))) (some (.builtin "getset_descriptor.__get__", .builtin "object.__class__")) := l1.andThen .now
  exact (looks_findIn KX L.fc).andThen ((looks_specialIn KX L.fg).andThen (l2.andThen (Looks.tag .now)))
theorem exc_get {R : Result → Shared → Prop} {tp : Value} (KX : K.In h) (I : excAt x D h) (hm : mroIn K D (.type "object") = some true) (hq : R (.ok (.ret (.ref D))) ⟨h, gg, d, t, os⟩) :
    codeAny (model prog w) A (.call (.builtin "getset_descriptor.__get__") ⟨[.builtin "object.__class__", .ref x, tp], []⟩) R ⟨h, gg, d, t, os⟩ := by
  have L0 := I.ty (M := model prog w)
  have L1 := looks_mroIn (M := model prog w) KX hm
  (refine codeAny_call_builtin KF.slot_gs.plain KF.entry_gs (KF.slot_gs.check _ _ _ _ _ _ _ _ KF.type_class (KF.args_gs _ _ _) ?_); unfold Builtin.«getset_descriptor.__get__» descrGet; rw [dga_obj]; refine wpAny_bind (wpAny_pure ?_); unfold descrGetter descrCheckInstance descrNameAndClass isInstance; simp only [KF.owner_class]; repeat lk)
  (refine ⟨Code.quiet_builtin _ (by decide +kernel), codeAny_builtin KF.entry_class ?_⟩; unfold Builtin.«object.__class__» shownTypeOf; repeat lk)
  exact hq
theorem exc_check {M : Model} {nameV : Value} {Q : Unit → Shared → Prop} (KX : K.In h) (I : excAt x D h) (L : ExcLook K D) (hq : Q () ⟨h, gg, d, t, os⟩) :
    wpAny M A (checkBuiltinCall "BaseException.__getattribute__" ⟨[.ref x, nameV], []⟩) Q E ⟨h, gg, d, t, os⟩ := by
  have hkd : builtinKind "BaseException.__getattribute__" = some .slot := by decide +kernel
  have hsp : splitId "BaseException.__getattribute__" = some ("BaseException", "__getattribute__") := by decide +kernel
  have L0 := I.ty (M := M)
  have L1 := looks_mroIn (M := M) KX L.mb
  have ha := F.args_bexc_ga (.ref x) nameV
  simp only [checkBuiltinCall, hkd, hsp]
  unfold isInstance
  refine wpAny_bind (wpAny_bind (L0.at (L1.at ?_)))
  repeat (first | assumption | wp_step)
theorem exc_entry {tk : Tok} {Q : Fin → Shared → Prop} (KX : K.In h) (I : excAt x D h) (L : ExcLook K D) (hq : Q (.done (.ret (.ref D))) ⟨h, gg, d, t, os⟩) :
    wpAny (model prog w) A (Builtin.«object.__getattribute__» ⟨[.ref x, .str "__class__" tk], []⟩) Q E ⟨h, gg, d, t, os⟩ := by
  have L0 := I.ty (M := model prog w)
  have L1 := exc_find (M := model prog w) (x := x) KX L
  (unfold Builtin.«object.__getattribute__»); refine wpAny_bind (wpAny_pure (wpAny_bind (wpAny_pure (wpAny_bind (L0.at (wpAny_bind (L1.at ?_)))))))
  show wpAny _ _ (holding [Value.builtin "object.__class__"] (call (.builtin "getset_descriptor.__get__") [.builtin "object.__class__", .ref x, .ref D]) >>= _) _ _ _
  refine wpAny_bind (wpAny_holding (wpAny_call (exc_get KX I L.mo ?_)))
  exact wpAny_pure hq
theorem exc_call {tk : Tok} {R : Result → Shared → Prop} (KX : K.In h) (I : excAt x D h) (L : ExcLook K D) (hq : R (.ok (.ret (.ref D))) ⟨h, gg, d, t, os⟩) :
    codeAny (model prog w) A (.call (.builtin "BaseException.__getattribute__") ⟨[.ref x, .str "__class__" tk], []⟩) R ⟨h, gg, d, t, os⟩ :=
  codeAny_call_builtin F.attr_ValueError.ga.plain F.entry_bexc_ga (exc_check KX I L (exc_entry KX I L hq))
theorem exc_by {tk : Tok} {fill expr : Bool} {Q : Value → Shared → Prop} (KX : K.In h) (I : excAt x D h) (L : ExcLook K D) (hq : Q (.ref D) ⟨h, gg, d, t, os⟩) :
    wpAny (model prog w) A (getAttrBy (.ref x) (.str "__class__" tk) fill expr) Q E ⟨h, gg, d, t, os⟩ := by
  have L0 := I.ty (M := model prog w)
  have L1 := looks_findIn (M := model prog w) KX L.ga
  have L2 := looks_findIn (M := model prog w) KX L.gh
  have f3 := F.attr_ValueError.ga.bind (.ref x)
  have hno : (expr && onTheHeap (Value.builtin "BaseException.__getattribute__")) = false := by cases expr <;> rfl
  unfold getAttrBy
  (refine wpAny_holding (wpAny_bind (L0.at (wpAny_bind (L1.at ?_)))));
  show wpAny _ _ (getAttrByItsOwn _ _ _ _ _ _) _ _ _
  unfold getAttrByItsOwn hookBefore
  rw [if_pos (show onTheHeap (Value.ref D) = true from rfl)]
  refine wpAny_bind (L2.at ?_)
  unfold callGetattribute
  rw [hno, if_neg (by decide)]
  unfold boundAndCalled
  (refine wpAny_bind (wpAny_attempt (wpAny_holding ?_)))
  repeat (any_goals (first | assumption | (with_reducible refine wpAny_call (exc_call KX I L ?_)) | wp_step))
theorem exc_attr {s : Shared} {Q : Option Value → Shared → Prop} (KX : K.In s.heap) (I : excAt x D s.heap) (L : ExcLook K D) (hq : Q (some (.ref D)) { s with toks := s.toks + 1 }) : wpAny (model prog w) A (getAttr? (.ref x) "__class__") Q E s := by
  obtain ⟨h, gg, d, t, os⟩ := s
  unfold getAttr? getAttrBy?
  refine wpAny_bind (wpAny_mkText (wpAny_bind (wpAny_attempt (exc_by KX I L ?_))))
  exact wpAny_pure hq
/-- an own exception is looked at by isinstance -/
theorem kitx_exc (L : ExcLook K D) (hd : hasDictIn K D = true) : KitX K (.ref x) (.ref D) (excAt x D) where
  ty := fun _ _ _ I => I.ty
  it := fun M h KX _ => by
    obtain ⟨cdD, hcD, _⟩ := any_some hd
    unfold clsIn at hcD
    split at hcD
    case h_2 => cases hcD
    case h_1 ho =>
      intro A' Q' E' s' k q
      unfold isType loadHead
      exact wpAny_bind (wpAny_loadPart (k _ _ (KX _ _ ho)) (wpAny_pure q))
  ne := fun h tp dd its n sl KX htp => by
    obtain ⟨cdD, hcD, _⟩ := any_some hd
    refine Bool.eq_false_iff.mpr fun same => ?_
    cases Value.ref.inj (beq_iff_eq.mp same)
    unfold clsIn at hcD
    split at hcD
    case h_2 => cases hcD
    case h_1 ho => cases (KX _ _ ho).symm.trans htp
  ca := fun KX I k => exc_attr KX I L k
end
/-- a caught exception, tracked -/
def ExcH (H : Hp) (a D : Addr) : Prop := H a = some (.ext (excAt a D))
theorem excAt_stay {a D : Addr} {h1 h2 : Heap} (h : excAt a D h1) (k : ∀ o, h1.get? a = some o → h2.get? a = some o) : excAt a D h2 := by
  obtain ⟨ox, e, c⟩ := h
  exact ⟨ox, k _ e, c⟩
section
variable {X : Cx}
/-- isinstance(e, C), e a caught exception of the own class D -/
theorem call_isExc : CallR X (.builtin "isinstance") (fun xs H Q => ∃ (a D : Addr) (c : V) (cv : Value) (b : Bool), xs = [.ref a, c] ∧ ((∃ C, c = .ref C ∧ cv = .ref C) ∨ ∃ T, c = .ty T ∧ cv = .type T) ∧ ExcH H a D ∧ ExcLook X.K D ∧ hasDictIn X.K D = true ∧ kitOne X.K (.ref D) cv = some b ∧ Q (.bl b) H) := by
  intro pins s σ H xs us Q I r h
  obtain ⟨a, D, c, cv, b, rfl, hc, hx, L, hd, e, q⟩ := h
  obtain ⟨u, w', rfl, rx, rt⟩ := vals2 r
  cases (show u = Value.ref a from rx)
  obtain ⟨hp, _, _⟩ := (show ObjOk X.prog X.w H s.heap a (.ext (excAt a D)) from I.hok a _ hx)
  have fin : ∀ tk, EP X pins σ Q (.bool b) { s with toks := tk } := fun tk => ⟨.bl b, H, I.tok tk, rfl, q⟩
  have ew : w' = cv := by
    rcases hc with ⟨C, rfl, rfl⟩ | ⟨T, rfl, rfl⟩
    · exact rt
    · exact rt
  subst ew
  exact kia_one (kitx_exc L hd) I.kIn hp e (fun z => by rcases hc with ⟨C, _, rfl⟩ | ⟨T, _, rfl⟩ <;> exact nomatch z) fin
end
end L2

namespace L2
open PySem PySem.Spec PyProof.Rows
section
variable {X : Cx} {pins : List (Addr × Obj)} {σ : St} {H H' : Hp} {s s' : Shared} {B h4 : Heap}
/-- back in the frame: the exception lies still, all else is as the callee left it -/
theorem fly_in (I : Inv X pins σ H s) (os : s'.os = s.os) (bare : AllBare s'.gens) (un : Un (frs X.stack) [] H H' s.heap s'.heap) (hok : HOk X.prog X.w H' s'.heap) (bB : InB B (frs X.stack) H' s.heap s'.heap) (kB : B.StaysIn h4) (sm : s'.heap.UpToSlots h4) :
    Inv X pins σ H' { s' with heap := h4 } := by
  have frN : ∀ b ∈ frs X.stack, H' b = none := fun b hb => by
    obtain ⟨_, o, ho, _⟩ := I.stack.mem hb
    exact un.free b o ho (I.stkFree b hb) (by simp)
  have fr4 : ∀ b o, s.heap.get? b = some o → b ∈ frs X.stack → ∃ sl, h4.get? b = some { o with slots := sl } := fun b o e hb => by
    obtain ⟨sl, e1⟩ := un.slot b o e (I.stkFree b hb) hb (by simp)
    obtain ⟨_, o', ho', hd⟩ := I.stack.mem hb
    rw [e] at ho'; cases ho'
    obtain ⟨sl', e2⟩ := sm b _ e1 hd
    exact ⟨sl', e2⟩
  have old : ∀ b o, s.heap.get? b = some o → b ∉ frs X.stack → ∃ u, s'.heap.get? b = some u ∧ h4.get? b = some u := fun b o e hn => by
    obtain ⟨o2, e2⟩ := un.there b o e (by simp)
    exact ⟨o2, e2, kB b _ (bB b o2 e2 hn (.inl ⟨o, e⟩))⟩
  refine I.call' (s' := { s' with heap := h4 }) (ch := []) os ⟨fun b o e n hb _ => ?_, fun b o e n hb _ => fr4 b o e hb, un.free, fun b o e _ => ?_, un.tups, un.frzs, un.tbls⟩ (fun c o e => ?_) bare fun b hb => absurd hb (by simp)
  · obtain ⟨u, e1, e2⟩ := old b o e hb
    have e3 := un.keep b o e n hb (by simp)
    rw [e1] at e3; cases e3
    exact e2
  · by_cases hb : b ∈ frs X.stack
    · obtain ⟨sl, e1⟩ := fr4 b o e hb
      exact ⟨_, e1⟩
    · obtain ⟨u, _, e2⟩ := old b o e hb
      exact ⟨u, e2⟩
  · refine (hok c o e).stay (fun b u hb q => ?_) (fun _ q => q) fun _ _ q => q
    have hbn : H' b ≠ none := by
      rcases hb with rfl | hb
      · rw [e]; exact fun z => nomatch z
      · rw [hb]; exact fun z => nomatch z
    exact kB b _ (bB b u q (fun hm => hbn (frN b hm)) (.inr hbn))
/-- the frame's own object has changed in names that are not watched -/
theorem Inv.relocal {h' : Heap} {m m' : Str → Option Value} {t' : Nat} (I : Inv X pins σ H s) (hl : ∀ (i : Nat) (x : Str) (v : V), X.N[i]? = some x → σ[i]? = some (some v) → Vis X.env.scope x → ∃ u, RelV v u ∧ Look X.env s.heap m x u)
    (hn' : h'.Ns X.env.locals m') (hs : Heap.SameBut X.env.locals s.heap h') (hm : ∀ (i : Nat) (x : Str), X.N[i]? = some x → m' x = m x) : Inv X pins σ H { s with heap := h', toks := t' } := by
  have oth : ∀ b o, b ≠ X.env.locals → s.heap.get? b = some o → h'.get? b = some o := fun b o hb e => (hs.2 b hb).trans e
  have neL : ∀ b o, X.s₀.heap.get? b = some o → b ≠ X.env.locals := fun b o e => Nat.ne_of_lt (Nat.lt_of_lt_of_le (Heap.lt_size e) I.ok.above)
  have cel : ∀ x c v, X.env.cells.lookup x = some c → s.heap.IsCell c v → h'.IsCell c v := fun x c v e ⟨o, ho, hd⟩ => ⟨o, oth c o (I.cne x c e) ho, hd⟩
  refine ⟨I.ok, I.os, I.bare, ⟨fun b o e n hb hx => oth b o (neL b o e) (I.base.keep b o e n hb hx), fun b o e n hb hx => ?_, I.base.free, fun b o e hx => ?_, I.base.tups, I.base.frzs, I.base.tbls⟩, ⟨m', hn', fun i x v e1 e2 e3 => ?_⟩, fun x c e => ?_, I.free, I.freeC, fun p hp => ?_, fun c o e => ?_, I.len⟩
  · obtain ⟨sl, e1⟩ := I.base.slot b o e n hb hx
    exact ⟨sl, oth b _ (neL b o e) e1⟩
  · obtain ⟨o', e1⟩ := I.base.there b o e hx
    exact ⟨o', oth b _ (neL b o e) e1⟩
  · obtain ⟨u, r, l⟩ := hl i x v e1 e2 e3
    refine ⟨u, r, ?_⟩
    rcases l with ⟨k, z⟩ | ⟨k, c, ec, z⟩
    · exact .inl ⟨k, (hm i x e1).trans z⟩
    · exact .inr ⟨k, c, ec, cel x c _ ec z⟩
  · obtain ⟨v, z⟩ := I.cell x c e
    exact ⟨v, cel x c v e z⟩
  · obtain ⟨e, n, ne, nf, d⟩ := I.pin p hp
    exact ⟨oth _ _ ne e, n, ne, nf, d⟩
  · refine (I.hok c o e).stay (fun b u hb q => oth b u (fun z => ?_) q) (fun _ q => q) fun _ _ q => q
    rcases hb with rfl | hb
    · rw [z, I.free] at e; cases e
    · rw [z, I.free] at hb; cases hb
/-- a thing that the state ahead did not have is tracked from here on -/
theorem Inv.trackX {T : Addr} {o : HO} (I : Inv X pins σ H s) (nT : H T = none) (n0 : X.s₀.heap.get? T = none) (hL : T ≠ X.env.locals) (hc : ∀ x c, X.env.cells.lookup x = some c → c ≠ T) (hp : ∀ p ∈ X.pn ++ pins, p.1 ≠ T) (new : ObjOk X.prog X.w (upd H T o) s.heap T o) :
    Inv X pins σ (upd H T o) s := by
  have u := I.base
  refine ⟨I.ok, I.os, I.bare, ⟨u.keep, u.slot, fun b ob e n hx => ?_, u.there, fun b xs e => ?_, fun b ob xs e => ?_, fun b ps e => ?_⟩, I.loc, I.cell, ?_, fun x c e => ?_, fun p hpp => ?_, fun c v e => ?_, I.len⟩
  · rw [upd_ne (fun z => by rw [z, n0] at e; cases e)]; exact u.free b ob e n hx
  · have z := u.tups b xs e; rw [upd_ne (ne_of_none z nT)]; exact z
  · have z := u.frzs b ob xs e; rw [upd_ne (ne_of_none z nT)]; exact z
  · obtain ⟨more, z⟩ := u.tbls b ps e
    exact ⟨more, by rw [upd_ne (ne_of_none z nT)]; exact z⟩
  · rw [upd_ne hL.symm]; exact I.free
  · rw [upd_ne (hc x c e)]; exact I.freeC x c e
  · obtain ⟨e, n, r⟩ := I.pin p hpp
    exact ⟨e, by rw [upd_ne (hp p hpp)]; exact n, r⟩
  · by_cases hcT : c = T
    · subst hcT; rw [upd_same] at e; cases e; exact new
    · rw [upd_ne hcT] at e
      exact (I.hok c v e).stay (fun _ _ _ q => q) (fun b q => by rw [upd_ne (ne_of_none q nT)]; exact q) fun b xs q => by rw [upd_ne (ne_of_none q nT)]; exact q
end
end L2

namespace L2
open PySem PySem.Spec PyProof.Rows
/-- to call f (nothing handed in) raises an exception of the class cls, at any state that comes of s₀ -/
structure Thunk (P : Program) (w : World) (K : PySem.W.Frag) (mg : Str → Option Value) (base : Heap) (k : Nat) (f : Addr) (H₀ : Hp) (s₀ : Shared) (cls : Value) : Prop where
  fn : ∃ o fd, s₀.heap.get? f = some o ∧ o.data = .func fd ∧ H₀ f = none
  run : ∀ (A : Around) (outer : List Env) (s : Shared) (H : Hp), Room k A → Env0 P w K mg base A outer s H → Un (frs outer) [] H₀ H s₀.heap s.heap → Same H₀ H →
    codeAny (model P w) A (.call (.ref f) ⟨[], []⟩) (CR (CX1 P w) outer P w H s (fun _ _ => False) fun c _ H' => c = cls ∧ Same H H') s
def tTry (X : Cx) (i j : Nat) (f C : Addr) : TS := fun D σ H => σ[i]? = some (some (.ref f)) ∧ Same X.H₀ H ∧ ∀ a H', Same H H' → H' a = none → D.nx (σ.set j (some (.ref a))) (upd H' a (.ext (excAt a C)))
section
variable {X : Cx} {k i j : Nat} {f C D : Addr} {x y z n : Str} {p1 p2 p3 p4 p5 p6 p7 p8 p9 : Pos}
theorem ps_tryAs (hx0 : X.ex = []) (hS : X.stack = X.env :: X.outer) (hf : X.env.frame = some X.env.locals) (hr : Room k X.A) (th : Thunk X.prog X.w X.K X.mg X.base k f X.H₀ X.s₀ (.ref C))
    (hy : X.N[i]? = some y) (vy : Vis X.env.scope y) (dy : (y == ("__debug__" : Str)) = false) (cy : (y == ("__classdict__" : Str)) = false)
    (hg : Gl X x) (hm : X.mg x = some (.ref D)) (dx : (x == ("__debug__" : Str)) = false) (he : PySem.W.exmOne X.K (.ref C) (.ref D) = some true)
    (hn : X.env.kindOf n = some .local) (nN : n ∉ X.N) (dn : (n == ("__debug__" : Str)) = false) (hN : X.N.Nodup) (hz : X.N[j]? = some z) (lz : Loc X.env.scope z) (hfn : X.fn z = true) :
    PS X (.Try [.Expr (.Call (.Name y p1) [] [] p2) p3] [.ExceptHandler (some (.Name x p4)) (some n) [.Assign [.Name z p5] (.Name n p6) p7] p8] [] [] p9) (tTry X i j f C) := by
  intro pins s σ H Dd I h
  obtain ⟨eσ, sH, q⟩ := h
  have U0 : Un (frs X.stack) [] X.H₀ H X.s₀.heap s.heap := by
    have u := I.base
    rw [hx0] at u
    exact u.mono (fun b hb => by rw [hS]; unfold frs; rw [List.filterMap_cons, hf]; exact List.mem_cons_of_mem _ hb) fun b hb => hb
  obtain ⟨⟨c0, d0, dt0, sl0⟩, fd, ho0, hd0, nf⟩ := th.fn
  have hd0' : dt0 = .func fd := hd0
  subst hd0'
  obtain ⟨sl, hof⟩ := U0.any ho0 nf (by simp)
  have hkind : (X.env.scope.kind == .class || (X.env.scope.kind == .module && X.env.locals != X.env.globals)) = false := by rw [I.ok.kind]; rfl
  refine wpAny_Try_except (wpAny_execs_cons ?_)
  refine wpAny_Expr_any ?_ I.quiet rfl
  refine wpAny_Call_Name_kw ?_
  -- the name of the thunk
  have ld : ∀ {Q : Value → Shared → Prop} {E : Value → Shared → Prop}, Q (.ref f) s → wpAny (model X.prog X.w) X.A (eval (.Name y p1) X.env) Q E s := fun {Q E} hq => by
    obtain ⟨m, hnm, hl⟩ := I.loc
    obtain ⟨u, r, l⟩ := hl i y _ hy eσ vy
    cases (show u = Value.ref f from r)
    rcases l with ⟨hk, hv⟩ | ⟨hk, c, hc, hcell⟩
    · exact wpAny_Name (wpAny_loadName_local I.ok.kind hk hnm hv hq) dy
    · rcases hk with hk | hk
      · exact wpAny_Name (wpAny_loadName_cell I.ok.kind hk hc hcell hq) dy
      · exact wpAny_Name (wpAny_loadName_free I.ok.kind hk hc hcell hq cy) dy
  refine ld ?_
  refine PySem.W.callWith_of (P := fun h => h.get? f = some ⟨c0, d0, .func fd, sl⟩) rfl (fun h e => ⟨.frame, .inl rfl, ?_⟩) (evalArgs_nil3 ⟨hof, ?_⟩)
  · exact (PySem.W.Looks.ld (part := none) e).andThen .now
  refine wpAny_call (codeAny_mono (th.run X.A X.stack s H hr I.env0 U0 sH) fun r s1 hq => ?_)
  cases r with
  | ok fl =>
    cases fl with
    | ret u => obtain ⟨_, _, _, _, _, _, _, z⟩ := hq; exact z.elim
    | next => exact False.elim hq
    | brk => exact False.elim hq
    | cont => exact False.elim hq
  | error e =>
    obtain ⟨a, cls, a0, H1, B, rfl, os1, bare1, un, hok, fl, na, bB, rfl, s1H⟩ := hq
    -- where it stands was free ahead
    have nA : s.heap.get? a = none := by
      cases ea : s.heap.get? a with
      | none => rfl
      | some o =>
        exfalso
        obtain ⟨oe, vs, hoe, _, hde, _⟩ := fl.first
        by_cases hb : a ∈ frs X.stack
        · obtain ⟨sl', e1⟩ := un.slot a o ea (I.stkFree a hb) hb (by simp)
          obtain ⟨_, o', ho', hd'⟩ := I.stack.mem hb
          rw [ea] at ho'; cases ho'
          rw [hoe] at e1; cases e1
          exact hd' vs hde
        · have := bB a oe hoe hb (.inl ⟨o, ea⟩)
          rw [fl.2.1] at this; cases this
    have n0 : X.s₀.heap.get? a = none := by
      cases ea : X.s₀.heap.get? a with
      | none => rfl
      | some o =>
        obtain ⟨o', e1⟩ := U0.there a o ea (by simp)
        rw [nA] at e1; cases e1
    have aL : a ≠ X.env.locals := fun z => by
      obtain ⟨m, ⟨o, _, _, ho, _⟩, _⟩ := I.loc
      rw [z, ho] at nA; cases nA
    have aC : ∀ x c, X.env.cells.lookup x = some c → c ≠ a := fun x c e z => by
      obtain ⟨v, o, ho, _⟩ := I.cell x c e
      rw [z, nA] at ho; cases ho
    have aP : ∀ p ∈ X.pn ++ pins, p.1 ≠ a := fun p hp z => by
      have := (I.pin p hp).1
      rw [z, nA] at this; cases this
    refine wpAny_looks_onW (I.ok.frames.trans (by rw [hS])) hf (by rw [← hS]; exact fl) fun h2 held2 sm2 => ?_
    refine wpAny_landsW held2 fun h3 fl3 sm3 => ?_
    have I3 : Inv X pins σ H1 { s1 with heap := h3 } := fly_in I os1 bare1 un hok bB fl3.1 (sm2.trans sm3)
    have at3 : excAt a C h3 := by obtain ⟨oe, e1, e2⟩ := fl3.there; exact ⟨oe, e1, e2⟩
    refine wpAny_handleBy_cons (codeAny_handlers_test ?_) (fun z => nomatch z)
    refine Calls.Name_function_global I3.ok.kind hg (Calls.loadGlobal_global (by rw [I3.ok.glob]; exact I3.mod.glob.keeps I3.bk) hm ?_) dx
    refine (PySem.W.exm_one (h := h3) I3.kIn at3.ty he).here ?_
    refine codeAny_handlers_suite_as (lands_againW fl3 fun h4 fl4 sm4 => ?_)
    have I4 : Inv X pins σ H1 { s1 with heap := h4 } := fly_in I os1 bare1 un hok bB fl4.1 ((sm2.trans sm3).trans sm4)
    have at4 : excAt a C h4 := by obtain ⟨oe, e1, e2⟩ := fl4.there; exact ⟨oe, e1, e2⟩
    obtain ⟨m4, hn4, hl4⟩ := id I4.loc
    refine wpAny_storeName_local hn hn4 (fun h5 hn5 hs5 => ?_) hkind
    have offN : ∀ (i : Nat) (x : Str), X.N[i]? = some x → x ≠ n := fun i x e z => nN (by rw [← z]; exact List.mem_of_getElem? e)
    have I5 : Inv X pins σ H1 { s1 with heap := h5, toks := s1.toks + 1 } := Inv.relocal (s := { s1 with heap := h4 }) I4 hl4 hn5 hs5 fun i x e => if_neg (offN i x e)
    refine wpAny_execs_cons (wpAny_Assign_Name ?_ rfl)
    refine wpAny_Name (wpAny_loadName_local I.ok.kind hn hn5 (if_pos rfl) ?_) dn
    refine store_ok2 (v := .ref a) I5 hN hz lz rfl (fun s6 I6 hsame => ?_) (.inl hfn)
    refine wpAny_execs_nil ?_
    show wpAny _ _ (do bindName X.env n .none; unbindBehindTheSuite X.env n p8) _ _ _
    obtain ⟨m6, hn6, hl6⟩ := id I6.loc
    refine wpAny_nameGoes_keeps hn hn6 hkind fun h7 v7 hn7 hs7 => ?_
    have I7 := Inv.relocal (t' := s6.toks + 1) I6 hl6 hn7 hs7 fun i x e => if_neg (offN i x e)
    have at7 : excAt a C h7 := by
      obtain ⟨oe, e1, e2⟩ := at4
      obtain ⟨b6, hb6, hor⟩ := hsame
      have e5 : h5.get? a = some oe := (hs5.2 a aL).trans e1
      have e6 : s6.heap.get? a = some oe := (hb6.2 a (fun z => by
        rcases hor with y | y
        · exact aL (z.trans y)
        · exact aC _ _ y z.symm)).trans e5
      exact ⟨oe, (hs7.2 a aL).trans e6, e2⟩
    have nT : H1 a = none := na
    have I8 := Inv.trackX (T := a) (o := .ext (excAt a C)) I7 nT n0 aL aC aP ⟨at7, by obtain ⟨oe, e1, _⟩ := at7; exact ⟨oe, e1⟩, fun h1 h2 p kk => excAt_stay p kk⟩
    exact ⟨_, _, I8, q a H1 s1H na⟩
end
end L2

namespace L2
open PySem PySem.Spec PyProof.Rows
/-- a def's promise that speaks of the state at the entry, too -/
structure FnOkS (P : Program) (w : World) (K : PySem.W.Frag) (mg : Str → Option Value) (base : Heap) (CX : CXT) (k : Nat) (f : Addr) (fd : FuncData) (ps : List Str) (sp : Shared → Sp) : Prop where
  len : ∀ s vs H Q E, sp s vs H Q E → vs.length = ps.length
  run : ∀ (A : Around) (outer : List Env) (s : Shared) (H : Hp) (args : Args) (us : List Value) (vs : List V) (Q : VK) (E : XK), Room k A → Env0 P w K mg base A outer s H → BindsTo s fd args (ps.zip us) → Vals vs us → sp s vs H Q E →
    codeAny (model P w) A (.call (.ref f) args) (CR CX outer P w H s Q E) s
theorem fnS_of {CX : CXT} {P : Program} {w : World} {K : PySem.W.Frag} {mg : Str → Option Value} {base : Heap} {k : Nat} {f : Addr} {name qual : Str} {params : Arguments} {body : List Stmt} {scope : Scope} {dV kV doc pm cdv ct oc : Value} {an od : Option Addr}
    {osl : Array (Option Value)} {N ps : List Str} {sp : Shared → Sp} (lk : K.lookup f = some ⟨oc, od, .func (PySem.W.fnOf name qual params body scope dV kV doc pm an cdv ct), osl⟩) (hcd : PySem.W.codeIn K cdv qual = true) (S : FnScope N ps scope)
    (len : ∀ s vs H Q E, sp s vs H Q E → vs.length = ps.length)
    (hbody : ∀ (A : Around) (outer : List Env) (s : Shared) (H : Hp) (vs : List V) (Q : VK) (E : XK), Room k (A.deeper (envOfC qual scope s.heap.objs.size f cdv)) → sp s vs H Q E →
      ∃ t, PSs (cxOf CX P w K mg base N qual scope f cdv A outer s H E) body t ∧ t { nx := fun _ H' => Q .non H', rt := Q } (start N vs) H) :
    FnOkS P w K mg base CX (k + 1) f (PySem.W.fnOf name qual params body scope dV kV doc pm an cdv ct) ps sp := by
  refine ⟨len, fun A outer s H args us vs Q E hr e0 hb r hsp => ?_⟩
  have hl := len _ _ _ _ _ hsp
  have KX : K.In s.heap := e0.mod.kin.keeps fun b o e => (e0.bs b o e).1
  have lim : s.heap.NoLimit := e0.mod.nolimit.keeps fun b o e => (e0.bs b o e).1
  have hkind : ∀ y ∈ ps.zip us, scope.names.lookup y.1 = some .local ∨ (scope.names.lookup y.1 = some .cell ∧ ((cellsFrom (s.heap.objs.size + 1) scope.names []).lookup y.1).isSome = true) := fun ⟨n, v⟩ hy => by
    rcases S.par n (List.of_mem_zip hy).1 with q | q
    · exact .inl q
    · exact .inr ⟨q, PySem.W.cellsFrom_some _ _ _ (.inl q)⟩
  refine codeAny_call_function hr.depth (KX _ _ lk) rfl S.co S.gen rfl (PySem.W.codeRec_of KX hcd) (hb _ _ _ _ ?_)
  refine wpAny_newFunctionEnv_cells S.kind hkind fun env he s1 x => ?_
  subst he
  refine ⟨lim.keeps x.toInCall.keep, codeAny_func ?_⟩
  obtain ⟨t, ht, hq⟩ := hbody A outer s H vs Q E (hr.deeper _) hsp
  have I : Inv (cxOf CX P w K mg base N qual scope f cdv A outer s H E) [] (start N vs) H s1 := inv_start S hr.hd e0 hl r x
  refine wpAny_mono (ht [] s1 (start N vs) H _ I hq) (fun fl s' hs => ?_) fun e s' hs => hs
  have fin : ∀ {σ' : St} {H' : Hp} {v : V} {u : Value}, Inv (cxOf CX P w K mg base N qual scope f cdv A outer s H E) [] σ' H' s' → RelV v u → Q v H' → CE outer P w H s Q u s' :=
    fun {σ' H' v u} J rv q => ⟨v, H', J.os, J.bare, J.base, J.hok, rv, q⟩
  cases fl with
  | ret u =>
    obtain ⟨v, σ', H', J, rv, q⟩ := hs
    exact fin J rv q
  | next =>
    obtain ⟨σ', H', J, q⟩ := hs
    exact fin (v := V.non) (u := Value.none) J rfl q
  | brk =>
    obtain ⟨_, _, _, q⟩ := hs
    exact False.elim q
  | cont =>
    obtain ⟨_, _, _, q⟩ := hs
    exact False.elim q
theorem Fun.okS {P : Program} {w : World} {K : PySem.W.Frag} {mg : Str → Option Value} {base : Heap} {x qual : Str} {st : Stmt} {f : Addr} {fd : FuncData} {N ps : List Str} {k : Nat} {sp : Shared → Sp} (F : Fun K x qual st f fd) (S : FnScope N ps (defScope st)) (len : ∀ s vs H Q E, sp s vs H Q E → vs.length = ps.length)
    (hb : ∀ (cdv : Value) (A : Around) (outer : List Env) (s : Shared) (H : Hp) (vs : List V) (Q : VK) (E : XK), Room k (A.deeper (envOfC qual (defScope st) s.heap.objs.size f cdv)) → sp s vs H Q E →
      ∃ t, PSs (cxOf CX0 P w K mg base N qual (defScope st) f cdv A outer s H E).nox (defBody st) t ∧ t { nx := fun _ H' => Q .non H', rt := Q } (start N vs) H) : FnOkS P w K mg base CX0 (k + 1) f fd ps sp := by
  obtain ⟨oc, od, kV, doc, pm, an, cdv, ct, osl, rfl, lk, hcd⟩ := F.ex
  refine fnS_of lk hcd S len fun A outer s H vs Q E hr hsp => ?_
  obtain ⟨t, h, q⟩ := hb cdv A outer s H vs Q E hr hsp
  exact ⟨t, h.nox, q⟩
end L2

namespace L2
open PySem PySem.Spec PyProof.Rows
/-- the context of a lambda's expression: its free names' cells at cl -/
def cxLam (P : Program) (w : World) (K : PySem.W.Frag) (mg : Str → Option Value) (base : Heap) (N : List Str) (qual : Str) (scope : Scope) (f : Addr) (cd : Value) (cl : List (Str × Addr)) (A : Around) (outer : List Env) (s : Shared) (H : Hp) (E : XK) : Cx where
  prog := P
  w := w
  K := K
  mg := mg
  base := base
  A := A.deeper (PySem.W.envX qual scope s.heap.objs.size f cd cl)
  N := N
  s₀ := s
  H₀ := H
  env := PySem.W.envX qual scope s.heap.objs.size f cd cl
  outer := outer
  stack := PySem.W.envX qual scope s.heap.objs.size f cd cl :: outer
  ex := []
  calm := true
  fn := fun _ => false
  pn := []
  xe := fun e s' => wpAny (model P w) (A.deeper (PySem.W.envX qual scope s.heap.objs.size f cd cl)) (leaving (PySem.W.envX qual scope s.heap.objs.size f cd cl) e) (fun _ s'' => CX1 P w outer H s E e s'') (fun e' s'' => CX1 P w outer H s E e' s'') s'
section
variable {P : Program} {w : World} {K : PySem.W.Frag} {mg : Str → Option Value} {base : Heap} {N : List Str} {qual : Str} {scope : Scope} {f : Addr} {cd : Value} {cl : List (Str × Addr)} {A : Around} {outer : List Env} {s₀ : Shared} {H₀ : Hp} {E : XK}
theorem passLam : Passes (CX1 P w) (cxLam P w K mg base N qual scope f cd cl A outer s₀ H₀ E) E := by
  intro pins σ H s e s' I h
  obtain ⟨a, cls, a0, H', B, rfl, os, bare, un, hok, fl, na, bB, he⟩ := h
  show wpAny _ _ (leaving _ _) _ _ _
  refine wpAny_leaves_onW I.ok.frames rfl fl fun h'' fl' sm => ?_
  exact fly_out (X := cxLam P w K mg base N qual scope f cd cl A outer s₀ H₀ E) (s' := s') rfl rfl rfl I os bare un hok bB na fl' sm he
/-- the free names' cells, as they stand -/
structure Frees (scope : Scope) (cl : List (Str × Addr)) (N : List Str) (vs : List V) (H : Hp) (h : Heap) : Prop where
  inj : ∀ x y c, cl.lookup x = some c → cl.lookup y = some c → x = y
  has : ∀ x, (scope.names.lookup x = some .cell ∨ scope.names.lookup x = some .free) → ∃ c, cl.lookup x = some c
  cell : ∀ x c, cl.lookup x = some c → ∃ v, h.IsCell c v
  free : ∀ x c, cl.lookup x = some c → H c = none
  val : ∀ (i : Nat) (x : Str) (v : V), N[i]? = some x → vs[i]? = some v → scope.names.lookup x = some .free ∧ ∃ c u, cl.lookup x = some c ∧ RelV v u ∧ h.IsCell c (some u)
  len : vs.length = N.length
theorem inv_lam {vs : List V} {h₁ : Heap} {t : Nat} (e0 : Env0 P w K mg base A outer s₀ H₀) (hd : A.handled = none) (hk : scope.kind = .function) (FR : Frees scope cl N vs H₀ s₀.heap) (hns : h₁.Ns s₀.heap.objs.size fun _ => none)
    (hkp : ∀ b o, s₀.heap.get? b = some o → h₁.get? b = some o) :
    Inv (cxLam P w K mg base N qual scope f cd cl A outer s₀ H₀ E) [] (vs.map some) H₀ { s₀ with heap := h₁, toks := t } := by
  have noA : ∀ b : Addr, b ∉ (cxLam P w K mg base N qual scope f cd cl A outer s₀ H₀ E).ex := fun b z => absurd (show b ∈ ([] : List Addr) from z) (by simp)
  have cel : ∀ c v, s₀.heap.IsCell c v → h₁.IsCell c v := fun c v ⟨o, ho, hd⟩ => ⟨o, hkp c o ho, hd⟩
  refine ⟨⟨e0.mod, hk, rfl, rfl, Nat.le_refl _, FR.inj, FR.has, (fun _ _ z => nomatch z), (fun _ => hd), Around.frames_deeper e0.frames, .inr ⟨rfl, rfl⟩, fun b z => absurd z (noA b), e0.bs, e0.bsz, fun b _ _ => noA b, fun b z => absurd z (noA b), e0.funs, e0.frf⟩,
    rfl, e0.bare, Un.kept hkp, ⟨_, hns, fun i x v h1 h2 h3 => ?_⟩, fun x c h => ?_, e0.hok.fresh (Nat.le_refl _), FR.free, fun p hp => absurd (show p ∈ ([] : List (Addr × Obj)) from hp) (by simp), e0.hok.kept hkp, ?_⟩
  · have hv : vs[i]? = some v := by
      rw [List.getElem?_map] at h2
      cases e : vs[i]? with
      | none => rw [e] at h2; cases h2
      | some a => rw [e] at h2; cases h2; rfl
    obtain ⟨k, c, u, ec, r, z⟩ := FR.val i x v h1 hv
    exact ⟨u, r, .inr ⟨.inr k, c, ec, cel c _ z⟩⟩
  · obtain ⟨v, z⟩ := FR.cell x c h
    exact ⟨v, cel c v z⟩
  · rw [List.length_map]; exact FR.len
end
end L2

namespace L2
open PySem PySem.Spec PyProof.Rows
def recAt (c : Addr) (qual : Str) : Heap → Prop := fun h => h.CodeRec (.ref c) qual
theorem recAt_stay {c : Addr} {qual : Str} {h1 h2 : Heap} (h : recAt c qual h1) (k : ∀ o, h1.get? c = some o → h2.get? c = some o) : recAt c qual h2 := by
  obtain ⟨c', oc, vs, tq, e, ho, hd, hq⟩ := h
  cases e
  exact ⟨c, oc, vs, tq, rfl, k _ ho, hd, hq⟩
section
variable {P : Program} {w : World} {K : PySem.W.Frag} {mg : Str → Option Value} {base : Heap} {N : List Str} {qual : Str} {scope : Scope} {f c' : Addr} {cl : List (Str × Addr)} {s₀ : Shared} {H₀ : Hp} {k : Nat} {pm ctv cls : Value} {params : Arguments} {body : Expr} {vs : List V}
theorem Frees.later {outer : List Env} {H : Hp} {s : Shared} (FR : Frees scope cl N vs H₀ s₀.heap) (un : Un (frs outer) [] H₀ H s₀.heap s.heap) : Frees scope cl N vs H s.heap := by
  have cel : ∀ x c v, cl.lookup x = some c → s₀.heap.IsCell c v → s.heap.IsCell c v := fun x c v e ⟨o, ho, hd⟩ => by
    obtain ⟨sl, e1⟩ := un.any ho (FR.free x c e) (by simp)
    exact ⟨_, e1, hd⟩
  refine ⟨FR.inj, FR.has, fun x c e => ?_, fun x c e => ?_, fun i x v h1 h2 => ?_, FR.len⟩
  · obtain ⟨v, z⟩ := FR.cell x c e
    exact ⟨v, cel x c v e z⟩
  · obtain ⟨v, o, ho, _⟩ := FR.cell x c e
    exact un.free c o ho (FR.free x c e) (by simp)
  · obtain ⟨k, c, u, ec, r, z⟩ := FR.val i x v h1 h2
    exact ⟨k, c, u, ec, r, cel x c _ ec z⟩
/-- a lambda, called later, raises what its expression raises -/
theorem thunk_lam (ho : ∃ o, s₀.heap.get? f = some o ∧ o.data = .func (PySem.W.kla_fn "<lambda>" qual params body scope cl pm (.ref c') ctv)) (nf : H₀ f = none) (hc : H₀ c' = some (.ext (recAt c' qual)))
    (hk : scope.kind = .function) (hco : scope.isCoroutine = false) (hgen : scope.isGenerator = false) (hcell : ∀ x ∈ scope.names, x.2 ≠ .cell)
    (hb : bindArgs (PySem.W.kla_fn "<lambda>" qual params body scope cl pm (.ref c') ctv) ⟨[], []⟩ = pure []) (FR : Frees scope cl N vs H₀ s₀.heap)
    (hbody : ∀ (A : Around) (outer : List Env) (s : Shared) (H : Hp), Room k (A.deeper (PySem.W.envX qual scope s.heap.objs.size f (.ref c') cl)) → Same H₀ H →
      ∃ t, PE (cxLam P w K mg base N qual scope f (.ref c') cl A outer s H fun c _ H' => c = cls ∧ Same H H') body t ∧ t (vs.map some) H fun _ _ => False) :
    Thunk P w K mg base (k + 1) f H₀ s₀ cls := by
  obtain ⟨⟨c0, d0, dt0, sl0⟩, ho, hd⟩ := ho
  have hd' : dt0 = .func (PySem.W.kla_fn "<lambda>" qual params body scope cl pm (.ref c') ctv) := hd
  subst hd'
  refine ⟨⟨_, _, ho, rfl, nf⟩, fun A outer s H hr e0 un sm => ?_⟩
  obtain ⟨sl, hof⟩ := un.any ho nf (by simp)
  have hrec : s.heap.CodeRec (.ref c') qual := (e0.hok c' _ (sm _ _ hc)).1
  have lim : s.heap.NoLimit := e0.mod.nolimit.keeps fun b o e => (e0.bs b o e).1
  refine PySem.W.kla_callFunE hr.depth hof rfl hco hgen rfl hrec ?_
  rw [hb]
  refine wpAny_pure (wpAny_newFunctionEnv hcell (fun y hy => absurd hy (by simp)) (fun h₁ hns hsb => ⟨lim.fresh _ hsb, ?_⟩) hk)
  show codeAny _ _ (.expr body (PySem.W.envX qual scope s.heap.objs.size f (.ref c') cl)) _ _
  have hkeep1 : ∀ b o, s.heap.get? b = some o → h₁.get? b = some o := fun b o e => hsb.extBut b o (Nat.ne_of_lt (Heap.lt_size e)) (Heap.get?_push_of_some _ e)
  obtain ⟨t, ht, hq⟩ := hbody A outer s H (hr.deeper _) sm
  have I : Inv (cxLam P w K mg base N qual scope f (.ref c') cl A outer s H fun c _ H' => c = cls ∧ Same H H') [] (vs.map some) H { s with heap := h₁, toks := s.toks + 0 } := inv_lam e0 hr.hd hk (FR.later un) hns hkeep1
  refine PySem.W.kla_codeExpr (wpAny_mono (ht [] _ _ H _ I hq) (fun v s' hv => ?_) fun e s' he => he)
  obtain ⟨_, _, _, _, z⟩ := hv
  exact z.elim
end
end L2

namespace L2
open PySem PySem.Spec PyProof.Rows
/-- the table of a def's code object: the lambdas that it has made so far -/
def Tab (H : Hp) (P : Addr) (qual : Str) : Prop := ∃ ps : Array Value, H P = some (.tbl ps) ∧ TriplesOk ps.toList ∧ ∀ pos c, codeAmong pos ps.toList = some c → ∃ c', c = .ref c' ∧ H c' = some (.ext (recAt c' qual))
theorem among_snoc {line col : Int} {pos' : Pos} {c c2 : Value} (tl : List Value) (h : TriplesOk tl) (e : codeAmong pos' (tl ++ [rawInt line, rawInt col, c]) = some c2) : c2 = c ∨ codeAmong pos' tl = some c2 := by
  fun_induction TriplesOk tl with
  | case1 =>
    simp only [List.nil_append, codeAmong, rawInt] at e
    split at e
    · cases e; exact .inl rfl
    · cases e
  | case2 a t b u x rest ih =>
    simp only [List.cons_append, codeAmong] at e ⊢
    split at e
    · rename_i hc; rw [if_pos hc]; exact .inr e
    · rename_i hc; rw [if_neg hc]; exact ih h e
  | case3 tl h1 h2 => exact h.elim
theorem clos_env {env : Env} {lsc : Scope} (hf : ∀ y ∈ lsc.names, y.2 = .free → ∃ c, env.cells.lookup y.1 = some c) : ∃ cl, closureFor lsc env = pure cl ∧ (∀ x c, cl.lookup x = some c → env.cells.lookup x = some c) ∧ ∀ y ∈ lsc.names, y.2 = .free → ∃ c, cl.lookup y.1 = some c := by
  obtain ⟨cl, e, h1, _, h3⟩ := clos_go env lsc.names [] hf (fun x c z => by simp at z)
  refine ⟨cl, ?_, h1, h3⟩
  unfold closureFor
  first
    | (rw [show (forIn lsc.names ([] : List (Str × Addr)) _ : Sem _) = _ from e]; rfl)
    | (simp only [bind_pure]; exact e)
/-- but for the table P and new things all is as it was -/
structure KeepBut (P : Addr) (H H' : Hp) : Prop where
  same : ∀ b o, b ≠ P → H b = some o → H' b = some o
section
variable {X : Cx} {pins : List (Addr × Obj)} {σ : St} {H : Hp} {s : Shared} {c P : Addr} {qual : Str} {params : Arguments} {body : Expr} {lsc : Scope} {lpos : Pos} {A : Around} {Q : Value → Shared → Prop} {E : Value → Shared → Prop}
theorem lam_make (I : Inv X pins σ H s) (hdef : defaultsOf params X.env = ([], [])) (hcode : X.env.code = .ref c) (hhd : PySem.W.codeHdIn X.K c P = true) (TB : Tab H P qual) (hqu : X.env.qual ++ "<lambda>" = qual)
    (hbm : ∃ bm ob, X.mg "__builtins__" = some (.ref bm) ∧ bm ≠ builtinsNs ∧ X.base.get? bm = some ob ∧ ob.cls = .type "module" ∧ ob.dict = some builtinsNs ∧ ob.data = .plain)
    (hfr : ∀ y ∈ lsc.names, y.2 = .free → ∃ c, X.env.cells.lookup y.1 = some c)
    (k : ∀ (cl : List (Str × Addr)) (f c' : Addr) (pm ctv : Value) (h2 : Heap) (tk : Tok) (H2 : Hp), (∀ x c, cl.lookup x = some c → X.env.cells.lookup x = some c) → (∀ y ∈ lsc.names, y.2 = .free → ∃ c, cl.lookup y.1 = some c) →
      Inv X pins σ H2 { s with heap := h2, toks := tk } → Tab H2 P qual → KeepBut P H H2 → (∃ o, h2.get? f = some o ∧ o.data = .func (PySem.W.kla_fn "<lambda>" qual params body lsc cl pm (.ref c') ctv)) → H2 f = none → H2 c' = some (.ext (recAt c' qual)) →
      Q (.ref f) { s with heap := h2, toks := tk }) : wpAny (model X.prog X.w) A (eval (.Lambda params body lsc lpos) X.env) Q E s := by
  refine PySem.W.kla_eval hdef ?_
  rw [hqu]
  obtain ⟨cl, ecl, cl1, cl2⟩ := clos_env hfr
  obtain ⟨ps, hP, ht, hall⟩ := TB
  have hPt : s.heap.get? P = some (PySem.W.tabObj ps) := I.hok P _ hP
  have hg := I.mod.glob.keeps I.bk
  have bsN : ∀ b o, X.base.get? b = some o → b ≠ P := fun b o e z => by have := (I.bs b o e).2; rw [z, hP] at this; cases this
  have hgP : mainGlobals ≠ P := by obtain ⟨o, _, _, e, _⟩ := I.mod.glob; exact bsN _ o e
  obtain ⟨bm, ob, b1, b2, b3, b4, b5, b6⟩ := hbm
  have hbGl : bm ≠ mainGlobals := fun q => by
    obtain ⟨o, es, ep, e, hd, _⟩ := I.mod.glob
    rw [q, e] at b3; (cases b3; rw [hd] at b6; cases b6)
  have BA : s.heap.BuiltinsAt X.mg P := ⟨bm, ob, b1, b2, hbGl, bsN _ _ b3, I.bk _ _ b3, b4, b5, b6⟩
  have CH := PySem.W.codeHd_of_K I.kIn hhd
  cases hca : codeAmong lpos ps.toList with
  | some cv =>
    obtain ⟨c', rfl, hc'⟩ := hall lpos cv hca
    refine PySem.W.kla_makeFunctionHit ecl I.ok.glob hg hcode CH hPt ht hca BA fun ctv h' tk hk hsz => ?_
    have kp : ∀ b o, s.heap.get? b = some o → (h'.push { cls := .type "function", data := .func (PySem.W.kla_fn "<lambda>" qual params body lsc cl ((X.mg "__name__").getD .none) (.ref c') ctv) }).get? b = some o := fun b o e => Heap.get?_push_of_some _ (hk b o e)
    have nf : H h'.objs.size = none := I.hok.fresh hsz
    exact k cl h'.objs.size c' _ ctv _ tk H cl1 cl2 (I.kept (t' := tk) kp) ⟨ps, hP, ht, hall⟩ ⟨fun _ _ _ e => e⟩ ⟨_, Heap.get?_push_size _ rfl, rfl⟩ nf hc'
  | none =>
    refine PySem.W.kla_makeFunction ecl I.ok.glob hg hcode CH hPt ht hca hgP BA fun c' ctv h' tk hx hge hlt hrec htb => ?_
    have lP : P < s.heap.objs.size := Heap.lt_size hPt
    have cP : c' ≠ P := Nat.ne_of_gt (Nat.lt_of_lt_of_le lP hge)
    have nC : H c' = none := I.hok.fresh hge
    have kp : ∀ b o, b ≠ P → s.heap.get? b = some o → (h'.push (PySem.W.kla_obj "<lambda>" qual params body lsc cl ((X.mg "__name__").getD .none) c' ctv)).get? b = some o := fun b o hb e => Heap.get?_push_of_some _ (hx b o hb e)
    have tb : (h'.push (PySem.W.kla_obj "<lambda>" qual params body lsc cl ((X.mg "__name__").getD .none) c' ctv)).get? P = some (PySem.W.tabObj (ps ++ #[rawInt lpos.line, rawInt lpos.col, .ref c'])) := Heap.get?_push_of_some _ htb
    have rc : recAt c' qual (h'.push (PySem.W.kla_obj "<lambda>" qual params body lsc cl ((X.mg "__name__").getD .none) c' ctv)) := recAt_stay hrec fun o q => Heap.get?_push_of_some _ q
    have h2P : upd (upd H P (.tbl (ps ++ #[rawInt lpos.line, rawInt lpos.col, .ref c']))) c' (.ext (recAt c' qual)) P = some (.tbl (ps ++ #[rawInt lpos.line, rawInt lpos.col, .ref c'])) := by rw [upd_ne cP.symm]; exact upd_same
    have oth : ∀ b, b ≠ P → b ≠ c' → upd (upd H P (.tbl (ps ++ #[rawInt lpos.line, rawInt lpos.col, .ref c']))) c' (.ext (recAt c' qual)) b = H b := fun b h1 h2 => by rw [upd_ne h2, upd_ne h1]
    have neC : ∀ b o, H b = some o → b ≠ c' := fun b o e => ne_of_none e nC
    have I2 : Inv X pins σ (upd (upd H P (.tbl (ps ++ #[rawInt lpos.line, rawInt lpos.col, .ref c']))) c' (.ext (recAt c' qual))) { s with heap := h'.push (PySem.W.kla_obj "<lambda>" qual params body lsc cl ((X.mg "__name__").getD .none) c' ctv), toks := tk } := by
      have nP : ∀ b, H b = none → b ≠ P := fun b n z => by rw [z, hP] at n; cases n
      refine I.step (g' := s.gens) (d' := s.drawn) (ch := []) (fun b hb => absurd hb (by simp)) (fun b o _ _ _ e n => kp b o (nP b n) e) (fun b o _ _ _ e n => ⟨o.slots, kp b o (nP b n) e⟩) (fun b o _ e n => ?_) (fun b o _ e => ?_) (fun b xs e => ?_) (fun b o u e => ?_) (fun b qs e => ?_) (fun m hm => ?_) (fun b u e => ?_) I.bare
      · rw [oth b (nP b n) (Nat.ne_of_lt (Nat.lt_of_lt_of_le (Heap.lt_size e) hge))]; exact n
      · by_cases hb : b = P
        · subst hb; exact ⟨_, tb⟩
        · exact ⟨o, kp b o hb e⟩
      · rw [oth b (fun z => by rw [z, hP] at e; cases e) (neC b _ e)]; exact e
      · rw [oth b (fun z => by rw [z, hP] at e; cases e) (neC b _ e)]; exact e
      · by_cases hb : b = P
        · subst hb
          rw [hP] at e; cases e
          exact ⟨_, h2P⟩
        · exact ⟨#[], by rw [oth b hb (neC b _ e), e]; simp⟩
      · obtain ⟨o, es, ep, ho, r⟩ := hm
        exact ⟨o, es, ep, kp _ o (nP _ I.free) ho, r⟩
      · by_cases hbc : b = c'
        · subst hbc
          rw [upd_same] at e; cases e
          obtain ⟨_, oc, _, _, e1, e2, _⟩ := id rc
          cases e1
          exact ⟨rc, ⟨oc, e2⟩, fun h1 h2 p kk => recAt_stay p kk⟩
        · by_cases hb : b = P
          · subst hb
            rw [h2P] at e; cases e
            exact tb
          · rw [oth b hb hbc] at e
            refine (I.hok b u e).stay (fun b2 u2 hb2 q => kp b2 u2 (fun z => ?_) q) (fun b2 q => ?_) fun b2 xs q => ?_
            · rcases hb2 with y | y
              · exact hb (y.symm.trans z)
              · rw [z, hP] at y; cases y
            · rw [oth b2 (fun z => by rw [z, hP] at q; cases q) (neC b2 _ q)]; exact q
            · rw [oth b2 (fun z => by rw [z, hP] at q; cases q) (neC b2 _ q)]; exact q
    have lf : s.heap.objs.size ≤ h'.objs.size := Nat.le_of_lt (Nat.lt_of_le_of_lt hge hlt)
    refine k cl h'.objs.size c' _ ctv _ tk _ cl1 cl2 I2 ⟨_, h2P, ?_, fun pos cc e => ?_⟩ ⟨fun b o hb e => by rw [oth b hb (neC b _ e)]; exact e⟩ ⟨_, Heap.get?_push_size _ rfl, rfl⟩ ?_ upd_same
    · rw [Array.toList_append]; exact TriplesOk_snoc _ _ _ _ ht
    · rw [Array.toList_append] at e
      rcases among_snoc _ ht e with z | z
      · exact ⟨c', z, upd_same⟩
      · obtain ⟨c2, rfl, hc2⟩ := hall pos cc z
        exact ⟨c2, rfl, by rw [oth c2 (fun y => by rw [y, hP] at hc2; cases hc2) (neC c2 _ hc2)]; exact hc2⟩
    · rw [oth _ (Nat.ne_of_gt (Nat.lt_of_lt_of_le lP lf)) (Nat.ne_of_gt hlt)]; exact I.hok.fresh lf
end
end L2

namespace L2
open PySem PySem.Spec PyProof.Rows
/-- g(lambda: body): the lambda's expression raises an exception of the class cls, whatever comes between -/
def tLam (X : Cx) (P : Addr) (qual : Str) (N : List Str) (lsc : Scope) (body : Expr) (k : Nat) (cls : Value) (sp : Shared → Sp) : TE := fun σ H Q => Tab H P qual ∧ ∃ vs : List V, vs.length = N.length ∧
  (∀ (i : Nat) (x : Str) (v : V), N[i]? = some x → vs[i]? = some v → ∃ j : Nat, X.N[j]? = some x ∧ σ[j]? = some (some v)) ∧
  ∀ H2, KeepBut P H H2 → Tab H2 P qual →
    (∀ (f c' : Addr) (cl : List (Str × Addr)) (A : Around) (outer : List Env) (s : Shared) (H3 : Hp), Room k (A.deeper (PySem.W.envX qual lsc s.heap.objs.size f (.ref c') cl)) → Same H2 H3 →
      ∃ t, PE (cxLam X.prog X.w X.K X.mg X.base N qual lsc f (.ref c') cl A outer s H3 fun c _ H' => c = cls ∧ Same H3 H') body t ∧ t (vs.map some) H3 fun _ _ => False) ∧
    ∀ (s2 : Shared) (f : Addr), Thunk X.prog X.w X.K X.mg X.base (k + 1) f H2 s2 cls → sp s2 [.ref f] H2 Q fun _ _ _ => False
section
variable {X : Cx} {c P f : Addr} {fd : FuncData} {qual g par : Str} {N : List Str} {params : Arguments} {body : Expr} {lsc : Scope} {lpos p pos : Pos} {k kr : Nat} {cls : Value} {sp : Shared → Sp}
theorem pe_lamcall (F : FnOkS X.prog X.w X.K X.mg X.base CX0 kr f fd [par] sp) (hr : Room kr X.A) (hg : Gl X g) (hm : X.mg g = some (.ref f)) (hk : PySem.W.keepIn X.K (.ref f) = true) (hb : Binds X.K fd [par] [])
    (hcode : X.env.code = .ref c) (hhd : PySem.W.codeHdIn X.K c P = true) (hqu : X.env.qual ++ "<lambda>" = qual)
    (hbm : ∃ bm ob, X.mg "__builtins__" = some (.ref bm) ∧ bm ≠ builtinsNs ∧ X.base.get? bm = some ob ∧ ob.cls = .type "module" ∧ ob.dict = some builtinsNs ∧ ob.data = .plain)
    (hfr : ∀ y ∈ lsc.names, y.2 = .free → X.env.kindOf y.1 = some .cell) (hnc : ∀ y ∈ lsc.names, y.2 ≠ .cell) (hNf : ∀ x ∈ N, lsc.names.lookup x = some .free)
    (lk : lsc.kind = .function) (lco : lsc.isCoroutine = false) (lge : lsc.isGenerator = false) (hdef : defaultsOf params X.env = ([], []))
    (hbd : ∀ (cl : List (Str × Addr)) (pm ctv : Value) (c' : Addr), bindArgs (PySem.W.kla_fn "<lambda>" qual params body lsc cl pm (.ref c') ctv) ⟨[], []⟩ = pure [])
    (hdb : (g == ("__debug__" : Str)) = false := by decide) (he : starEach [.Lambda params body lsc lpos] X.env = [(false, eval (.Lambda params body lsc lpos) X.env)] := by rfl) :
    PE X (.Call (.Name g p) [.Lambda params body lsc lpos] [] pos) (tLam X P qual N lsc body k cls sp) := by
  intro pins s σ H Q I h
  obtain ⟨TB, vs, hlen, hvs, q⟩ := h
  refine wpAny_Call_Name_kw (ld_glob I hg hm ?_ hdb)
  refine PySem.W.callWith_K (h₀ := X.base) I.ok.mod.kin hk ?_ he rfl
  rw [he]
  refine Calls.spliced_cons (lam_make I hdef hcode hhd TB hqu hbm (fun y hy hf => I.ok.has y.1 (.inl (hfr y hy hf))) fun cl f' c' pm ctv h2 tk H2 cl1 cl2 I2 TB2 KB ho nf hc => ?_)
  have FR : Frees lsc cl N vs H2 h2 := by
    refine ⟨fun x y c e1 e2 => I2.ok.inj x y c (cl1 x c e1) (cl1 y c e2), fun x hx => ?_, fun x c e => I2.cell x c (cl1 x c e), fun x c e => I2.freeC x c (cl1 x c e), fun i x v h1 h2 => ?_, hlen⟩
    · rcases hx with hx | hx
      · exact absurd rfl (hnc _ (PySem.mem_of_lookup hx))
      · exact cl2 _ (PySem.mem_of_lookup hx) rfl
    · have hf := hNf x (List.mem_of_getElem? h1)
      have mem := PySem.mem_of_lookup hf
      have kc : X.env.kindOf x = some .cell := hfr _ mem rfl
      obtain ⟨j, e1, e2⟩ := hvs i x v h1 h2
      obtain ⟨m, _, hl⟩ := I2.loc
      obtain ⟨u, r, l⟩ := hl j x v e1 e2 (Or.inr (Or.inl kc))
      obtain ⟨c2, ec2⟩ := cl2 _ mem rfl
      refine ⟨hf, c2, u, ec2, r, ?_⟩
      rcases l with ⟨kl, _⟩ | ⟨_, c3, ec3, z⟩
      · rw [kc] at kl; cases kl
      · have := cl1 _ _ ec2
        rw [ec3] at this; cases this
        exact z
  obtain ⟨q1, q2⟩ := q H2 KB TB2
  have th : Thunk X.prog X.w X.K X.mg X.base (k + 1) f' H2 { s with heap := h2, toks := tk } cls := thunk_lam (s₀ := { s with heap := h2, toks := tk }) ho nf hc lk lco lge hnc (hbd cl pm ctv c') FR fun A outer s H3 hr sm => q1 f' c' cl A outer s H3 hr sm
  refine Calls.spliced_nil ⟨I2.kIn, ?_⟩
  have hsp := q2 { s with heap := h2, toks := tk } f' th
  refine wpAny_call (codeAny_mono (F.run X.A X.stack { s with heap := h2, toks := tk } H2 ⟨[.ref f'], []⟩ [.ref f'] [.ref f'] Q _ hr I2.env0 (hb _ [.ref f'] I2.kIn rfl) (.cons rfl .nil) hsp) fun r s' hq => ?_)
  cases r with
  | error e => exact False.elim hq
  | ok fl =>
    cases fl with
    | ret u => exact I2.after hq
    | next => exact False.elim hq
    | brk => exact False.elim hq
    | cont => exact False.elim hq
end
end L2

namespace L2
open PySem PySem.Spec PyProof.Rows
def BMain (mg : Str → Option Value) (h : Heap) : Prop := ∃ bm ob, mg "__builtins__" = some (.ref bm) ∧ bm ≠ builtinsNs ∧ h.get? bm = some ob ∧ ob.cls = .type "module" ∧ ob.dict = some builtinsNs ∧ ob.data = .plain
/-- the head of a law whose defs make lambdas: the tables at ts are tracked from the start -/
theorem law_callT {P : Program} {w : World} {K : PySem.W.Frag} {mg mb : Str → Option Value} {k : Nat} {fa a : Addr} {fd : FuncData} {x : Str} {sp : Sp} {s₁ : Shared} {vs : List Value} {ns : List Int} {ts : List Addr}
    (KX : K.In s₁.heap) (hns : s₁.heap.Ns mainGlobals mg) (hb : s₁.heap.Ns builtinsNs mb) (hbb : ∀ x : Str, x ≠ "__name__" → mb x = bootBuiltins x) (hlim : s₁.heap.NoLimit) (hg : s₁.gens = #[])
    (ha : s₁.heap.get? a = some { cls := .type "list", data := .seq vs.toArray }) (hi : IntsAre vs ns) (hl : ns.length ≤ sizeLine) (hr : Room k callerA)
    (hT : ∀ Pt ∈ ts, s₁.heap.get? Pt = some (PySem.W.tabObj #[]) ∧ K.lookup Pt = none ∧ ∃ c, PySem.W.codeHdIn K c Pt = true) (bmn : BMain mg s₁.heap)
    (F : ∀ base : Heap, K.In base → base.Ns mainGlobals mg → BMain mg base → FnOk P w K mg base CX0 k fa fd [x] sp) (hbind : ∀ (s : Shared) (u : Value), BindsTo s fd ⟨[u], []⟩ [(x, u)])
    (hsp : ∀ H : Hp, (∀ Pt ∈ ts, H Pt = some (.tbl #[])) → SqL K H a (ns.map V.int) → sp [.ref a] H (fun v _ => v = .bl true) fun _ _ _ => False) :
    codeAny (model P w) callerA (.call (.ref fa) ⟨[.ref a], []⟩) (fun r s' => r = .ok (.ret (.bool true)) ∧ OldK s₁.heap s'.heap ∧ s'.os = s₁.os ∧ AllBare s'.gens) s₁ := by
  have rv := vals_ints hi
  have lenV := hi.length
  have naT : a ∉ ts := fun h => by have := (hT a h).1; rw [ha] at this; cases this
  have core : ∀ H : Hp, (∀ Pt ∈ ts, H Pt = some (.tbl #[])) → (∀ b, H b = none ∨ b ∈ ts ∨ (b = a ∧ ∃ xs, H b = some (.frz { cls := .type "list", data := .seq vs.toArray } (.lst xs)))) → SqL K H a (ns.map V.int) → HOk P w H s₁.heap → (H a ≠ none → K.lookup a = none) →
      codeAny (model P w) callerA (.call (.ref fa) ⟨[.ref a], []⟩) (fun r s' => r = .ok (.ret (.bool true)) ∧ OldK s₁.heap s'.heap ∧ s'.os = s₁.os ∧ AllBare s'.gens) s₁ := by
    intro H hH hO hS hok hK
    have plainN : ∀ {b : Addr} {o : Obj}, s₁.heap.get? b = some o → (∀ xs n, o.data ≠ .seq xs n) → (∀ xs, o.data ≠ .fields xs) → H b = none := fun {b o} e d1 d2 => by
      rcases hO b with z | z | ⟨z, _⟩
      · exact z
      · have := (hT b z).1
        rw [e] at this; cases this
        exact absurd rfl (d2 _)
      · rw [z, ha] at e; cases e
        exact absurd rfl (d1 _ _)
    have nsK : ∀ {b : Addr} {m : Str → Option Value}, s₁.heap.Ns b m → (hidT s₁.heap H).Ns b m := fun {b m} ⟨o, es, ep, e, d, r⟩ => ⟨o, es, ep, hidT_get e (plainN e (fun xs n z => by rw [d] at z; cases z) fun xs z => by rw [d] at z; cases z), d, r⟩
    have hKb : K.In (hidT s₁.heap H) := fun b o e => hidT_get (KX b o e) (by
      rcases hO b with z | z | ⟨z, xs, z2⟩
      · exact z
      · rw [(hT b z).2.1] at e; cases e
      · rw [z] at e z2
        rw [hK (by rw [z2]; exact fun y => nomatch y)] at e; cases e)
    have hM : Mod K mg (hidT s₁.heap H) := ⟨hKb, nsK hns, ⟨mb, nsK hb, hbb⟩, let ⟨mc, h1, h2⟩ := hlim; ⟨mc, nsK h1, h2⟩⟩
    have hBM : BMain mg (hidT s₁.heap H) := by
      obtain ⟨bm, ob, b1, b2, b3, b4, b5, b6⟩ := bmn
      exact ⟨bm, ob, b1, b2, hidT_get b3 (plainN b3 (fun xs n z => by rw [b6] at z; cases z) fun xs z => by rw [b6] at z; cases z), b4, b5, b6⟩
    have e0 : Env0 P w K mg (hidT s₁.heap H) callerA [] s₁ H := ⟨rfl, hM, fun b o e => of_hidT e, Nat.le_of_eq (hidT_size _ _), trivial, fun b hb => absurd (show b ∈ ([] : List Addr) from hb) (by simp), hok, .of_eq hg⟩
    refine codeAny_mono ((F _ hKb (nsK hns) hBM).run callerA [] s₁ H ⟨[.ref a], []⟩ [.ref a] [.ref a] _ _ hr e0 (hbind s₁ (.ref a)) (.cons rfl .nil) (hsp H hH hS)) fun r s' h => ?_
    cases r with
    | error e => exact False.elim h
    | ok fl =>
      cases fl with
      | next => exact False.elim h
      | brk => exact False.elim h
      | cont => exact False.elim h
      | ret u =>
        obtain ⟨v, H', os, bare, un, hok', r', q⟩ := h
        have q' : v = .bl true := q
        subst q'
        obtain rfl : u = Value.bool true := r'
        refine ⟨rfl, ⟨fun b o e => ?_, fun b o e => un.there b o e (by simp)⟩, os, bare⟩
        rcases hO b with z | z | ⟨z, xs, z2⟩
        · exact .inl (un.keep b o e z (by intro y; exact absurd (show b ∈ ([] : List Addr) from y) (by simp)) (by simp))
        · obtain ⟨t1, _, c, t2⟩ := hT b z
          rw [e] at t1; cases t1
          obtain ⟨more, m1⟩ := un.tbls b _ (hH b z)
          have m2 : s'.heap.get? b = some { cls := .none, data := .fields (#[] ++ more) } := hok' b _ m1
          have CH := PySem.W.codeHd_of_K KX t2
          exact .inr (.inl ⟨(CH.tab e).isCodeTable, rfl, #[], more, rfl, m2⟩)
        · have z3 := un.frzs b _ _ z2
          obtain ⟨e1, _⟩ := hok b _ z2
          obtain ⟨e2, _⟩ := hok' b _ z3
          rw [e] at e1; cases e1
          exact .inl e2
  cases hk : K.lookup a with
  | some o =>
    have e := KX a o hk
    rw [ha] at e
    cases e
    refine core (fun b => if b ∈ ts then some (.tbl #[]) else none) (fun Pt h => if_pos h) (fun b => ?_) (.inr ⟨_, vs.toArray, _, hk, rfl, rfl, rfl, by rw [List.size_toArray, lenV]; exact hl, by simpa using rv⟩) (fun b u z => ?_) fun z => absurd (if_neg naT) z
    · by_cases h : b ∈ ts
      · exact .inr (.inl h)
      · exact .inl (if_neg h)
    · by_cases h : b ∈ ts
      · have z' := (if_pos h).symm.trans z
        cases z'
        exact (hT b h).1
      · have z' := (if_neg h).symm.trans z
        cases z'
  | none =>
    refine core (fun b => if b = a then some (.frz { cls := .type "list", data := .seq vs.toArray } (.lst (ns.map V.int))) else if b ∈ ts then some (.tbl #[]) else none) (fun Pt h => ?_) (fun b => ?_) (.inl (.inr ⟨{ cls := .type "list", data := .seq vs.toArray }, if_pos rfl⟩)) (fun b u z => ?_) fun _ => hk
    · rw [if_neg (fun y => naT (by rw [← y]; exact h)), if_pos h]
    · by_cases hb : b = a
      · exact .inr (.inr ⟨hb, _, if_pos hb⟩)
      · by_cases h : b ∈ ts
        · exact .inr (.inl h)
        · exact .inl (by rw [if_neg hb, if_neg h])
    · by_cases hb : b = a
      · have z' := (if_pos hb).symm.trans z
        cases z'
        subst hb
        exact ⟨ha, by rw [List.length_map]; exact hl, vs, _, rv, ha⟩
      · replace z := (if_neg hb).symm.trans z
        by_cases h : b ∈ ts
        · have z' := (if_pos h).symm.trans z
          cases z'
          exact (hT b h).1
        · have z' := (if_neg h).symm.trans z
          cases z'
theorem walk_ofT {l : PySem.W.OpenLaw} {n k : Nat} {q : Program} {loose : List Str} {XP : (Str → Option Value) → Heap → Prop} {YP : World → Heap → Prop} {d : DefRec} {K : Params → PySem.W.Frag} {sp : World → Sp} {x : Str} {ts : List Addr}
    (hn : l.most = some n) (hn2 : n ≤ sizeLine) (hdf : d.params.defaults = []) (hr : Room k callerA)
    (hY : ∀ (w : World) (h : Heap), YP w h → (K w.params).In h ∧ ∀ Pt ∈ ts, h.get? Pt = some (PySem.W.tabObj #[]))
    (hT : ∀ (w : World), ∀ Pt ∈ ts, (K w.params).lookup Pt = none ∧ ∃ c, PySem.W.codeHdIn (K w.params) c Pt = true)
    (F : ∀ (w : World) (mg : Str → Option Value) (fa : Addr) (h : Heap), (K w.params).In h → h.Ns mainGlobals mg → mg d.name = some (.ref fa) →
      ∃ fd : FuncData, (∀ (s : Shared) (u : Value), BindsTo s fd ⟨[u], []⟩ [(x, u)]) ∧
        ∀ base : Heap, (K w.params).In base → base.Ns mainGlobals mg → BMain mg base → FnOk l.prog w (K w.params) mg base CX0 k fa fd [x] (sp w))
    (hsp : ∀ (w : World) (H : Hp) (a : Addr) (ns : List Int), ns.length ≤ n → (∀ Pt ∈ ts, H Pt = some (.tbl #[])) → SqL (K w.params) H a (ns.map V.int) → sp w [.ref a] H (fun v _ => v = .bl true) fun _ _ _ => False) :
    PySem.W.WalkO q loose XP YP l.row.toRowW d [] (fun f vs => PySem.call f vs) := by
  refine Att.attach_call hn hdf fun w s₀ s₁ mg mb fa o pm cd doc a vs ns G Y ho hd hcd hmg hobj hints hlen hg => ?_
  obtain ⟨KX, TX⟩ := hY w _ Y
  obtain ⟨fd, hb, hF⟩ := F w mg fa _ KX G.T.g hmg
  exact law_callT KX G.T.g G.T.b G.T.builtins G.T.nolimit hg hobj hints (Nat.le_trans hlen hn2) hr (fun Pt h => ⟨TX Pt h, hT w Pt h⟩) G.T.bmain hF hb fun H hH hS => hsp w H a ns hlen hH hS
end L2

namespace L2
open PySem PySem.Spec PyProof.Rows
theorem Fun.okC {P : Program} {w : World} {K : PySem.W.Frag} {mg : Str → Option Value} {base : Heap} {x qual : Str} {st : Stmt} {f c : Addr} {fd : FuncData} {N ps : List Str} {k : Nat} {sp : Sp} (F : Fun K x qual st f fd) (hc : fd.code = .ref c) (S : FnScope N ps (defScope st)) (len : ∀ vs H Q E, sp vs H Q E → vs.length = ps.length)
    (hbody : ∀ (A : Around) (outer : List Env) (s : Shared) (H : Hp) (vs : List V) (Q : VK) (E : XK), Room k (A.deeper (envOfC qual (defScope st) s.heap.objs.size f (.ref c))) → sp vs H Q E →
      ∃ t, PSs (cxOf CX0 P w K mg base N qual (defScope st) f (.ref c) A outer s H E).nox (defBody st) t ∧ t { nx := fun _ H' => Q .non H', rt := Q } (start N vs) H) : FnOk P w K mg base CX0 (k + 1) f fd ps sp := by
  obtain ⟨oc, od, kV, doc, pm, an, cdv, ct, osl, rfl, lk, hcd⟩ := F.ex
  have hc : cdv = .ref c := hc
  subst hc
  refine fn_of lk hcd S len fun A outer s H vs Q E hr hsp => ?_
  obtain ⟨t, h, q⟩ := hbody A outer s H vs Q E hr hsp
  exact ⟨t, h.nox, q⟩
theorem passNo {P : Program} {w : World} {X : Cx} : Passes (CX1 P w) X (fun _ _ _ => False) := fun _ _ _ _ _ _ _ h => by
  obtain ⟨_, _, _, _, _, _, _, _, _, _, _, _, _, e⟩ := h
  exact e.elim
theorem Tab.same {H H' : Hp} {P : Addr} {q : Str} (t : Tab H P q) (s : Same H H') : Tab H' P q := by
  obtain ⟨ps, e, tr, h⟩ := t
  refine ⟨ps, s _ _ e, tr, fun pos c hc => ?_⟩
  obtain ⟨c', e1, e2⟩ := h pos c hc
  exact ⟨c', e1, s _ _ e2⟩
theorem KeepBut.sqL {K : PySem.W.Frag} {H H' : Hp} {P a : Addr} {ps : Array Value} {xs : List V} (k : KeepBut P H H') (e : H P = some (.tbl ps)) (h : SqL K H a xs) : SqL K H' a xs := by
  rcases h with (h | ⟨o, h⟩) | h
  · exact .inl (.inl (k.same _ _ (fun z => by rw [z, e] at h; cases h) h))
  · exact .inl (.inr ⟨o, k.same _ _ (fun z => by rw [z, e] at h; cases h) h⟩)
  · exact .inr h
theorem KeepBut.sqT {K : PySem.W.Frag} {H H' : Hp} {P a : Addr} {ps : Array Value} {xs : List V} (k : KeepBut P H H') (e : H P = some (.tbl ps)) (h : SqT K H a xs) : SqT K H' a xs := by
  rcases h with (h | ⟨o, h⟩) | h
  · exact .inl (.inl (k.same _ _ (fun z => by rw [z, e] at h; cases h) h))
  · exact .inl (.inr ⟨o, k.same _ _ (fun z => by rw [z, e] at h; cases h) h⟩)
  · exact .inr h
section
variable {K : PySem.W.Frag} {H H' : Hp} {P : Addr} {ps : Array Value}
mutual
theorem Has.keep (k : KeepBut P H H') (e : H P = some (.tbl ps)) : ∀ {d : D} {v : V}, Has K H d v → Has K H' d v
  | .non, _, h => by unfold Has at h ⊢; exact h
  | .bl _, _, h => by unfold Has at h ⊢; exact h
  | .int _, _, h => by unfold Has at h ⊢; exact h
  | .str _, _, h => by unfold Has at h ⊢; exact h
  | .tup ds, _, h => by
    unfold Has at h ⊢
    obtain ⟨a, xs, rfl, h1, h2⟩ := h
    exact ⟨a, xs, rfl, k.sqT e h1, HasAll.keep k e h2⟩
  | .lst ds, _, h => by
    unfold Has at h ⊢
    obtain ⟨a, xs, rfl, h1, h2⟩ := h
    exact ⟨a, xs, rfl, k.sqL e h1, HasAll.keep k e h2⟩
  | .dct, _, h => by
    unfold Has at h ⊢
    obtain ⟨a, kvs, rfl, h1⟩ := h
    exact ⟨a, kvs, rfl, k.same _ _ (fun z => by rw [z, e] at h1; cases h1) h1⟩
theorem HasAll.keep (k : KeepBut P H H') (e : H P = some (.tbl ps)) : ∀ {ds : List D} {xs : List V}, HasAll K H ds xs → HasAll K H' ds xs
  | [], _, h => by unfold HasAll at h ⊢; exact h
  | d :: ds, _, h => by
    unfold HasAll at h ⊢
    obtain ⟨x, r, rfl, h1, h2⟩ := h
    exact ⟨x, r, rfl, Has.keep k e h1, HasAll.keep k e h2⟩
end
end
end L2

namespace L2
open PySem PySem.W PySem.Calls PyProof.Rows
/-- the top's run over a tree heap; what it asks of a thread and the step are handed in -/
def topRunT (thr sok : Thread → Bool) (stp : SharedT → Thread → Option (SharedT × Thread)) : Nat → SharedT → Thread → Option SharedT
  | 0, _, _ => none
  | n + 1, s, t => match thr t with
    | true => some s
    | false => match sok t with
      | false => none
      | true => match stp s t with
        | some (s', t') => topRunT thr sok stp n s' t'
        | none => none
theorem topRun_of {tb : String → Option Builtin} {p : Program} {w : World} {n₀ : Nat} {ann : Option Value} : ∀ {n : Nat} {s s' : SharedT} {t : Thread}, topRunT through (stepOk n₀ ann) (stepT (denote tb) p w) n s t = some s' → topRun tb p w n₀ ann n s.abs t = some s'.abs
  | 0, _, _, _, h => by cases h
  | n + 1, s, s', t, h => by
    unfold topRunT at h
    unfold topRun
    cases ht : through t with
    | true => rw [ht] at h; cases h; rfl
    | false =>
      rw [ht] at h
      cases hok : stepOk n₀ ann t with
      | false => rw [hok] at h; cases h
      | true =>
        rw [hok] at h
        cases hst : stepT (denote tb) p w s t with
        | none => rw [hst] at h; cases h
        | some r => obtain ⟨s₂, t₂⟩ := r; rw [hst] at h; rw [stepT_spec hst]; exact topRun_of h
def grow : List Obj → Nat → BT → BT
  | [], _, t => t
  | o :: r, i, t => grow r (i + 1) (t.ins i o)
noncomputable def bootT (w : World) (os : OsState) : SharedT := ⟨grow (boot_heap w.params).objs.toList 0 .nil, 11, (boot_heap w.params).life, Array.mk [], boot_drawn, boot_toks, os⟩
theorem bootT_abs : ∀ (w : World) (os : OsState), (bootT w os).abs = ⟨boot_heap w.params, Array.mk [], boot_drawn, boot_toks, os⟩ := fun w os => by kernel_rfl
theorem boot_size : ∀ w : World, ((boot_heap w.params).isNs mainGlobals && (Array.mk [] : Array GenState).size == 0, (boot_heap w.params).objs.size, (boot_heap w.params).nsMap mainGlobals "__annotations__") = (true, 11, some (.ref 6)) := fun w => by kernel_rfl
theorem left_of {p q : Program} {loose : List Str} {Xt : Shared → Bool} {α : Type} {Yf : Shared → α} {Ya : World → α} {N : Nat}
    (e : opening p = plainProg p.main.scope.names) (hN : Nat.ble 600 N = true) (f : ∀ s, fenceModules? p s = some s)
    (run : ∀ (w : World) (os : OsState), (topRunT through (stepOk 11 (some (.ref 6))) (stepT (denote treeTable) p w) N (bootT w os) (topStub p)).map (fun s =>
      (staticsOk (importedModules p.main.body) (boot_heap w.params) s.abs.heap && namesBound p s.abs.heap && gensDone s.abs && laidKept (boot_heap w.params) s.abs.heap,
        openSeen q loose (importedModules p.main.body) Xt true s.abs, Yf s.abs)) = some (true, openGood q loose, Ya w)) : LeftO p q loose Xt Yf Ya N := fun w => by
  obtain ⟨⟨h, gs, d, k, os⟩, e1, e2⟩ := Option.map_eq_some_iff.mp (boot_open (N := N) e hN f w)
  obtain ⟨rfl, rfl, rfl, rfl⟩ : h = boot_heap w.params ∧ gs = Array.mk [] ∧ d = boot_drawn ∧ k = boot_toks := by simpa using e2
  obtain ⟨z1, z2, z3⟩ : _ ∧ _ ∧ _ := by simpa only [Prod.mk.injEq] using boot_size w
  obtain ⟨s1, r1, r2⟩ := Option.map_eq_some_iff.mp (run w os)
  obtain ⟨l1, l2, l3⟩ : _ ∧ _ ∧ _ := by simpa only [Prod.mk.injEq] using r2
  have r := topRun_of r1
  rw [bootT_abs] at r
  unfold openEnds
  rw [e1]
  show Option.map _ (topFrom treeTable p w N _) = _
  unfold topFrom
  dsimp only
  rw [z1, z2, z3, r]
  show Option.map _ (match staticsOk (importedModules p.main.body) (boot_heap w.params) s1.abs.heap && namesBound p s1.abs.heap && gensDone s1.abs && laidKept (boot_heap w.params) s1.abs.heap with | true => _ | false => _) = _
  rw [l1]
  exact congrArg Option.some (Prod.ext l2 l3)
end L2

namespace L2
open PySem PySem.W PySem.Calls PyProof.Rows
/-! ### what stands behind the top, looked at: the written part K is the whole heap but for empty tables -/
def isTab0 (o : Obj) : Bool := match o with
  | ⟨.none, none, .fields vs, sl⟩ => vs.isEmpty && sl.isEmpty
  | _ => false
def objB (h : Heap) (a : Addr) : Option Obj := match h.get? a with
  | some o => if isTab0 o then none else some o
  | none => none
def fragOf (h : Heap) : Frag := (List.range h.objs.size).filterMap fun a => (objB h a).map fun o => (a, o)
theorem lookup_fm (g : Addr → Option Obj) (a : Addr) : ∀ l : List Addr, (l.filterMap fun a => (g a).map fun o => (a, o)).lookup a = if a ∈ l then g a else none
  | [] => rfl
  | b :: r => by
    by_cases hb : a = b
    · subst hb
      rw [if_pos List.mem_cons_self]
      cases hg : g a with
      | none =>
        rw [List.filterMap_cons, hg]
        show (r.filterMap fun a => (g a).map fun o => (a, o)).lookup a = none
        rw [lookup_fm g a r]
        split
        · exact hg
        · rfl
      | some o =>
        rw [List.filterMap_cons, hg]
        show List.lookup a ((a, o) :: _) = some o
        rw [List.lookup_cons_self]
    · have hm : (a ∈ b :: r) ↔ a ∈ r := by rw [List.mem_cons]; exact ⟨fun h => h.resolve_left hb, Or.inr⟩
      have ih := lookup_fm g a r
      have e : (if a ∈ b :: r then g a else none) = if a ∈ r then g a else none := by simp only [hm]
      rw [e, ← ih]
      cases hg : g b with
      | none => rw [List.filterMap_cons, hg]; rfl
      | some o =>
        rw [List.filterMap_cons, hg]
        show List.lookup a ((b, o) :: _) = _
        have : (a == b) = false := by simpa using hb
        simp only [List.lookup, this]
theorem fragOf_in (h : Heap) : (fragOf h).In h := fun a o e => by
  unfold fragOf at e
  rw [lookup_fm] at e
  split at e
  · unfold objB at e
    cases hg : h.get? a with
    | none => rw [hg] at e; cases e
    | some u =>
      rw [hg] at e
      dsimp only at e
      split at e
      · cases e
      · exact e
  · cases e
theorem tab0_eq {o : Obj} (h : isTab0 o = true) : o = tabObj #[] := by
  unfold isTab0 at h
  split at h
  · rename_i vs sl
    rw [Bool.and_eq_true, Array.isEmpty_iff, Array.isEmpty_iff] at h
    obtain ⟨rfl, rfl⟩ := h
    rfl
  · cases h
theorem fragOf_tab {h : Heap} {a : Addr} {o : Obj} (e : h.get? a = some o) (t : isTab0 o = true) : (fragOf h).lookup a = none := by
  unfold fragOf
  rw [lookup_fm]
  split
  · unfold objB; rw [e]; exact if_pos t
  · rfl
/-- a def as it is seen -/
def fnSeen (K : Frag) (x : Str) : Option (Str × Str × Arguments × FuncBody × Scope × Addr × List (Str × Addr) × Value × Addr × Bool) := match nsIn K mainGlobals x with
  | some (some (.ref at0)) => (match K.lookup at0 with
    | some ⟨_, _, .func fd, _⟩ => some (fd.name, fd.qualname, fd.params, fd.body, fd.scope, fd.globals, fd.closure, fd.defaults, fd.builtins, codeIn K fd.code x)
    | _ => none)
  | _ => none
def fnDue (x : Str) (st : Stmt) : Option (Str × Str × Arguments × FuncBody × Scope × Addr × List (Str × Addr) × Value × Addr × Bool) := some (x, x, defArgs st, .stmts (defBody st), defScope st, mainGlobals, [], .none, builtinsNs, true)
theorem fun_of_seen {K : Frag} {x : Str} {st : Stmt} (e : fnSeen K x = fnDue x st) : ∃ f fd, nsIn K mainGlobals x = some (some (.ref f)) ∧ Fun K x x st f fd ∧ ∃ oc od sl, K.lookup f = some ⟨oc, od, .func fd, sl⟩ := by
  unfold fnSeen fnDue at e
  split at e
  · rename_i f hf
    split at e
    · rename_i oc od fd sl hl
      obtain ⟨nm, qn, pm, bd, sc, gl, cl, df, kd, dc, py, an, cd, ct, bl⟩ := fd
      simp only [Prod.mk.injEq, Option.some.injEq] at e
      obtain ⟨rfl, rfl, rfl, rfl, rfl, rfl, rfl, rfl, rfl, hc⟩ := e
      exact ⟨f, _, hf, ⟨⟨oc, od, kd, dc, py, an, cd, ct, sl, rfl, hl, hc⟩, by simp only [keepIn, hl]⟩, oc, od, sl, hl⟩
    · cases e
  · cases e
def tab0At (h : Heap) (T : Addr) : Bool := match h.get? T with
  | some o => isTab0 o
  | none => false
theorem tab0At_eq {h : Heap} {T : Addr} (e : tab0At h T = true) : h.get? T = some (tabObj #[]) := by
  unfold tab0At at e
  split at e
  · rename_i o ho
    rw [ho, tab0_eq e]
  · cases e
/-- the table of a def that makes lambdas -/
def mkSeen (h : Heap) (K : Frag) (x : Str) : Option Addr := match nsIn K mainGlobals x with
  | some (some (.ref at0)) => (match K.lookup at0 with
    | some ⟨_, _, .func fn0, _⟩ => (match fn0.code with
      | .ref c => (match K.lookup c with
        | some ⟨_, _, .fields vs, _⟩ => (match (vs[11]? : Option Value) with
          | some (.ref T) => if codeHdIn K c T && tab0At h T then some T else none
          | _ => none)
        | _ => none)
      | _ => none)
    | _ => none)
  | _ => none
theorem mk_of_seen {h : Heap} {K : Frag} {x : Str} {T : Addr} (e : mkSeen h K x = some T) : h.get? T = some (tabObj #[]) ∧ ∃ f oc od fd sl c, nsIn K mainGlobals x = some (some (.ref f)) ∧ K.lookup f = some ⟨oc, od, .func fd, sl⟩ ∧ fd.code = .ref c ∧ codeHdIn K c T = true := by
  unfold mkSeen at e
  split at e
  · rename_i f hf
    split at e
    · rename_i oc od fd sl hl
      split at e
      · rename_i c hc
        split at e
        · split at e
          · rename_i T' _
            split at e
            · rename_i q
              cases e
              rw [Bool.and_eq_true] at q
              obtain ⟨q1, q2⟩ := q
              exact ⟨tab0At_eq q2, f, oc, od, fd, sl, c, hf, hl, hc, q1⟩
            · cases e
          · cases e
        · cases e
      · cases e
    · cases e
  · cases e
def clsNames : List Str := ["NoWeb", "NoLot", "NoPlaces", "NoPlace", "NoTie", "NoChance", "NoChances", "NoPaper", "TooMany", "NoText", "NoLine", "NoDeed"]
def refAt (K : Frag) (x : Str) : Option Addr := match nsIn K mainGlobals x with
  | some (some (.ref f)) => some f
  | _ => none
theorem refAt_eq {K : Frag} {x : Str} {f : Addr} (e : refAt K x = some f) : nsIn K mainGlobals x = some (some (.ref f)) := by
  unfold refAt at e
  split at e
  · cases e; assumption
  · cases e
abbrev ClsT := Option (Option Value) × Option (Option Value) × Option Bool × Option Bool × Option (Option Value) × Bool × Option Bool × Option Bool × Bool × List (Option Bool)
/-- what is asked of an error's class: C the class, D the one above all of them -/
def clsSeen (K : Frag) (C : Addr) : ClsT := (findIn K (.ref C) "__getattribute__", findIn K (.ref C) "__getattr__", mroIn K C (.type "BaseException"), mroIn K C (.type "object"), findIn K (.ref C) "__class__", hasDictIn K C, kitOne K (.ref C) (.type "ValueError"),
  (refAt K "ChanceError").bind fun D => exmOne K (.ref C) (.ref D), excIn K C [.type "ValueError", .type "Exception", .type "BaseException", .type "object"] "ValueError.__new__", clsNames.map fun y => (refAt K y).bind fun B => kitOne K (.ref C) (.ref B))
def clsDue (x : Str) : ClsT := (some (some (Value.builtin "BaseException.__getattribute__")), some (none : Option Value), some true, some true, some (some (Value.builtin "object.__class__")), true, some true, some true, true, clsNames.map fun y => some (decide (x = y)))
def intSeen (K : Frag) (x : Str) : Option Int := match nsIn K mainGlobals x with
  | some (some (.int i _)) => some i
  | _ => none
theorem int_of_seen {K : Frag} {x : Str} {i : Int} (e : intSeen K x = some i) : ∃ t, nsIn K mainGlobals x = some (some (.int i t)) := by
  unfold intSeen at e
  split at e
  · rename_i t h; cases e; exact ⟨t, h⟩
  · cases e
def nonSeen (K : Frag) (x : Str) : Bool := match nsIn K mainGlobals x with
  | some none => true
  | _ => false
theorem non_of_seen {K : Frag} {x : Str} (e : nonSeen K x = true) : nsIn K mainGlobals x = some none := by
  unfold nonSeen at e
  split at e
  · assumption
  · cases e
/-- what a law asks of the heap behind the top -/
structure Asks where
  ds : List (Str × Stmt)
  is : List (Str × Int)
  ns : List Str
  ms : List Str
  cs : List Str
def Asks.obs (q : Asks) (s : Shared) :=
  let K := fragOf s.heap
  (q.ds.map fun d => fnSeen K d.1, q.is.map fun d => intSeen K d.1, q.ns.map (nonSeen K), q.ms.map fun x => (mkSeen s.heap K x).isSome, q.cs.map fun x => (refAt K x).map (clsSeen K),
    (specialIn K (.builtin "object.__class__") "__get__", takesIn K (.builtin "object.__class__")))
def Asks.due (q : Asks) (_ : World) :=
  (q.ds.map fun d => fnDue d.1 d.2, q.is.map fun d => some d.2, q.ns.map fun _ => true, q.ms.map fun _ => true, q.cs.map fun x => some (clsDue x),
    (some (some (Value.builtin "getset_descriptor.__get__")), some true))
structure Facts (q : Asks) (K : Frag) (h : Heap) : Prop where
  fn : ∀ d ∈ q.ds, ∃ f fd, nsIn K mainGlobals d.1 = some (some (.ref f)) ∧ Fun K d.1 d.1 d.2 f fd ∧ ∃ oc od sl, K.lookup f = some ⟨oc, od, .func fd, sl⟩
  it : ∀ d ∈ q.is, ∃ t, nsIn K mainGlobals d.1 = some (some (.int d.2 t))
  no : ∀ x ∈ q.ns, nsIn K mainGlobals x = some none
  mt : ∀ x ∈ q.ms, ∃ T, h.get? T = some (tabObj #[]) ∧ K.lookup T = none ∧ ∃ f oc od fd sl c, nsIn K mainGlobals x = some (some (.ref f)) ∧ K.lookup f = some ⟨oc, od, .func fd, sl⟩ ∧ fd.code = .ref c ∧ codeHdIn K c T = true
  cl : ∀ x ∈ q.cs, ∃ C, nsIn K mainGlobals x = some (some (.ref C)) ∧ clsSeen K C = clsDue x
  sp : specialIn K (.builtin "object.__class__") "__get__" = some (some (Value.builtin "getset_descriptor.__get__"))
  tk : takesIn K (.builtin "object.__class__") = some true
theorem map_at {α β : Type} {f g : α → β} : ∀ {l : List α}, l.map f = l.map g → ∀ a ∈ l, f a = g a := fun {l} h a ha => List.map_inj_left.mp h a ha
theorem Asks.facts (q : Asks) (w : World) (s : Shared) (e : q.obs s = q.due w) : Facts q (fragOf s.heap) s.heap := by
  unfold Asks.obs Asks.due at e
  simp only [Prod.mk.injEq] at e
  obtain ⟨e1, e2, e3, e4, e5, e6, e7⟩ := e
  refine ⟨fun d hd => fun_of_seen (map_at e1 d hd), fun d hd => int_of_seen (map_at e2 d hd), fun x hx => non_of_seen (map_at e3 x hx), fun x hx => ?_, fun x hx => ?_, e6, e7⟩
  · obtain ⟨T, hT⟩ := Option.isSome_iff_exists.mp (map_at e4 x hx)
    obtain ⟨h1, h2⟩ := mk_of_seen hT
    exact ⟨T, h1, fragOf_tab h1 rfl, h2⟩
  · obtain ⟨C, h1, h2⟩ := Option.map_eq_some_iff.mp (map_at e5 x hx)
    exact ⟨C, refAt_eq h1, h2⟩
def Asks.hook (q : Asks) : Hook where
  α := _
  obs := q.obs
  val := q.due
  says := fun _ h => ∃ K : Frag, K.In h ∧ Facts q K h
  of := fun w s e => ⟨_, fragOf_in _, q.facts w s e⟩
  keeps := fun _ h h' ⟨K, X, F⟩ k => ⟨K, X.keeps k, ⟨F.fn, F.it, F.no, fun x hx => let ⟨T, a, b⟩ := F.mt x hx; ⟨T, k _ _ a, b⟩, F.cl, F.sp, F.tk⟩⟩
end L2

namespace L2
open PySem PySem.W PySem.Calls PyProof.Rows
/-- the law's promise from what is seen behind the top -/
theorem walk_ofH {l : OpenLaw} {n k : Nat} {q : Program} {loose : List Str} {XP : (Str → Option Value) → Heap → Prop} {d : DefRec} {A : Asks} {x : Str}
    (hn : l.most = some n) (hn2 : n ≤ sizeLine) (hdf : d.params.defaults = []) (hr : Room k callerA)
    (F : ∀ (w : World) (mg : Str → Option Value) (fa : Addr) (h : Heap) (K : Frag), Facts A K h → K.In h → h.Ns mainGlobals mg → mg d.name = some (.ref fa) →
      ∃ (fd : FuncData) (ts : List Addr) (sp : Sp), (∀ Pt ∈ ts, h.get? Pt = some (tabObj #[]) ∧ K.lookup Pt = none ∧ ∃ c, codeHdIn K c Pt = true) ∧ (∀ (s : Shared) (u : Value), BindsTo s fd ⟨[u], []⟩ [(x, u)]) ∧
        (∀ base : Heap, K.In base → base.Ns mainGlobals mg → BMain mg base → FnOk l.prog w K mg base CX0 k fa fd [x] sp) ∧
        ∀ (H : Hp) (a : Addr) (ns : List Int), ns.length ≤ n → (∀ Pt ∈ ts, H Pt = some (.tbl #[])) → SqL K H a (ns.map V.int) → sp [.ref a] H (fun v _ => v = .bl true) fun _ _ _ => False) :
    WalkO q loose XP A.hook.says l.row.toRowW d [] (fun f vs => PySem.call f vs) := by
  refine Att.attach_call hn hdf fun w s₀ s₁ mg mb fa o pm cd doc a vs ns G Y ho hd hcd hmg hobj hints hlen hg => ?_
  obtain ⟨K, KX, FX⟩ := Y
  obtain ⟨fd, ts, sp, hT, hb, hF, hsp⟩ := F w mg fa _ K FX KX G.T.g hmg
  exact law_callT KX G.T.g G.T.b G.T.builtins G.T.nolimit hg hobj hints (Nat.le_trans hlen hn2) hr hT G.T.bmain hF hb fun H hH hS => hsp H a ns hlen hH hS
end L2

namespace K3
open PySem L2
def top (i : Nat) : Stmt := PySem.Challenge.pw_tiechances_k03_chances_known.main.body.getD i (.Pass ⟨0, 0, 0, 0⟩)
abbrev sWhole : Stmt := top 19
abbrev sBelow : Stmt := top 20
abbrev sTie : Stmt := top 21
abbrev sTies : Stmt := top 22
abbrev sWeb : Stmt := top 23
abbrev sCell : Stmt := top 30
abbrev sState : Stmt := top 31
abbrev sTake : Stmt := top 32
abbrev sDraw : Stmt := top 33
abbrev sLWhole : Stmt := top 37
abbrev sBad : Stmt := top 39
abbrev sSame : Stmt := top 40
abbrev sLWeb : Stmt := top 99


theorem b_isinstance : bootBuiltins "isinstance" = some (.builtin "isinstance") := by decide +kernel
theorem b_len : bootBuiltins "len" = some (.builtin "len") := by decide +kernel
theorem b_all : bootBuiltins "all" = some (.builtin "all") := by decide +kernel
theorem b_sorted : bootBuiltins "sorted" = some (.builtin "sorted") := by decide +kernel
theorem b_min : bootBuiltins "min" = some (.builtin "min") := by decide +kernel
theorem b_max : bootBuiltins "max" = some (.builtin "max") := by decide +kernel
theorem b_int : bootBuiltins "int" = some (.type "int") := by decide +kernel
theorem b_bool : bootBuiltins "bool" = some (.type "bool") := by decide +kernel
theorem b_tuple : bootBuiltins "tuple" = some (.type "tuple") := by decide +kernel
theorem b_list : bootBuiltins "list" = some (.type "list") := by decide +kernel
theorem b_str : bootBuiltins "str" = some (.type "str") := by decide +kernel
/-- the names of the module that the bodies ask -/
structure Txt (mg : Str → Option Value) : Prop where
  places : ∃ t, mg "MOST_PLACES" = some (.int 6 t)
  ties : ∃ t, mg "MOST_TIES" = some (.int 8 t)
  isin : mg "isinstance" = none
  len : mg "len" = none
  all : mg "all" = none
  srt : mg "sorted" = none
  min : mg "min" = none
  max : mg "max" = none
  int : mg "int" = none
  bool : mg "bool" = none
  tuple : mg "tuple" = none
  list : mg "list" = none
  str : mg "str" = none
  zip : mg "zip" = none
  range : mg "range" = none
/-- a def of the module, ready to be called -/
structure Fn (P : Program) (w : World) (K : PySem.W.Frag) (mg : Str → Option Value) (base : Heap) (k : Nat) (x : Str) (ps : List Str) (sp : Sp) : Prop where
  ex : ∃ f fd, mg x = some (.ref f) ∧ PySem.W.keepIn K (.ref f) = true ∧ Binds K fd ps [] ∧ FnOk P w K mg base CX0 k f fd ps sp
def wholeD : D → Bool
  | .int _ => true
  | _ => false
def spWhole (K : PySem.W.Frag) : Sp := fun vs H Q _ => ∃ d v, vs = [v] ∧ Has K H d v ∧ Q (.bl (wholeD d)) H
section
variable {P : Program} {w : World} {K : PySem.W.Frag} {mg : Str → Option Value} {base : Heap}
theorem sc3 : FnScope ["thing"] ["thing"] (defScope sWhole) := ⟨rfl, rfl, rfl, by decide +kernel, rfl, by decide +kernel, by decide +kernel⟩
theorem ok_whole {f : Addr} {fd : FuncData} (F : Fun K "is_whole" "is_whole" sWhole f fd) (T : Txt mg) : FnOk P w K mg base CX0 1 f fd ["thing"] (spWhole K) := by
  refine F.ok sc3 (fun vs H Q E h => ?_) (fun cdv A outer s H vs Q E hr h => ?_)
  · obtain ⟨d, v, rfl, _⟩ := h; rfl
  · obtain ⟨d, v, rfl, hd, q⟩ := h
    refine ⟨_, pss_one (ps_ret (pe_and (pe_callB call_isD rfl T.isin b_isinstance (pa_cons (pv 0) (pa_cons (pe_bltn (v := .ty "int") rfl T.int b_int rfl) pa_nil)))
      (pe_one (pe_not (pe_callB call_isD rfl T.isin b_isinstance (pa_cons (pv 0) (pa_cons (pe_bltn (v := .ty "bool") rfl T.bool b_bool rfl) pa_nil))))))), ?_⟩
    refine ⟨_, rfl, d, v, "int", rfl, hd, by simp, _, rfl, ?_⟩
    refine ite2 (fun e => ?_) (fun e => ?_)
    · refine ⟨_, rfl, d, v, "bool", rfl, hd, by simp, _, rfl, ?_⟩
      have e2 : (!isB d.ty "bool") = wholeD d := by cases d <;> first | rfl | (simp [D.ty, isB] at e)
      rw [e2]; exact q
    · have e2 : wholeD d = false := by cases d <;> first | rfl | (simp [D.ty, isB] at e)
      rw [e2] at q; exact q
/-! is_below -/
def belowD (m : Int) : D → Bool
  | .int i => decide (0 ≤ i) && decide (i < m)
  | _ => false
def spBelow (K : PySem.W.Frag) : Sp := fun vs H Q _ => ∃ d v m, vs = [v, .int m] ∧ Has K H d v ∧ Q (.bl (belowD m d)) H
theorem sc4 : FnScope ["thing", "many"] ["thing", "many"] (defScope sBelow) := ⟨rfl, rfl, rfl, by decide +kernel, rfl, by decide +kernel, by decide +kernel⟩
theorem ok_below {f : Addr} {fd : FuncData} (F : Fun K "is_below" "is_below" sBelow f fd) (W : Fn P w K mg base 1 "is_whole" ["thing"] (spWhole K)) : FnOk P w K mg base CX0 2 f fd ["thing", "many"] (spBelow K) := by
  obtain ⟨fW, fdW, mW, kW, bW, GW⟩ := W.ex
  refine F.ok sc4 (fun vs H Q E h => ?_) (fun cdv A outer s H vs Q E hr h => ?_)
  · obtain ⟨d, v, m, rfl, _⟩ := h; rfl
  · obtain ⟨d, v, m, rfl, hd, q⟩ := h
    refine ⟨_, pss_one (ps_ret (pe_and (pe_call GW hr rfl mW kW bW .nil pass0 (pa_cons (pv 0) pa_nil)) (pe_one (pe_chain op_le op_lt pe_int (pv 0) (pv 1))))), ?_⟩
    refine ⟨_, rfl, d, v, rfl, hd, _, rfl, ?_⟩
    cases d with
    | int i =>
      refine iteT ?_
      unfold Has at hd; subst hd
      refine ⟨_, rfl, _, _, rfl, rfl, _, rfl, ?_⟩
      refine ite2 (fun e => ?_) (fun e => ?_)
      · refine ⟨_, rfl, _, _, rfl, rfl, ?_⟩
        have e2 : decide (i < m) = belowD m (.int i) := by simp [belowD, of_decide_eq_true e]
        show Q (.bl (decide (i < m))) H
        rw [e2]; exact q
      · have e2 : belowD m (.int i) = false := by have : ¬ (0 ≤ i) := fun z => e (decide_eq_true z); simp [belowD, this]
        rw [e2] at q; exact q
    | _ => exact iteF q
/-! is_tie -/
def ltD : D → D → Bool
  | .int a, .int b => decide (a < b)
  | _, _ => false
def tieD (m : Int) : D → Bool
  | .tup [d, e] => belowD m d && belowD m e && ltD d e
  | _ => false
def spTie (K : PySem.W.Frag) : Sp := fun vs H Q _ => ∃ d v m, vs = [v, .int m] ∧ Has K H d v ∧ Q (.bl (tieD m d)) H
theorem sc5 : FnScope ["thing", "many", "a", "b"] ["thing", "many"] (defScope sTie) := ⟨rfl, rfl, rfl, by decide +kernel, rfl, by decide +kernel, by decide +kernel⟩
theorem tieD_not {m : Int} {d : D} (h : isB d.ty "tuple" = false) : tieD m d = false := by
  cases d <;> first | rfl | (simp [D.ty, isB] at h)
theorem tup_of {d : D} (h : isB d.ty "tuple" = true) : ∃ ds, d = .tup ds := by
  cases d <;> first | exact ⟨_, rfl⟩ | (simp [D.ty, isB] at h)
theorem ok_tie {f : Addr} {fd : FuncData} (F : Fun K "is_tie" "is_tie" sTie f fd) (T : Txt mg) (B : Fn P w K mg base 2 "is_below" ["thing", "many"] (spBelow K)) : FnOk P w K mg base CX0 3 f fd ["thing", "many"] (spTie K) := by
  obtain ⟨fB, fdB, mB, kB, bB, GB⟩ := B.ex
  refine F.ok sc5 (fun vs H Q E h => ?_) (fun cdv A outer s H vs Q E hr h => ?_)
  · obtain ⟨d, v, m, rfl, _⟩ := h; rfl
  · obtain ⟨d, v, m, rfl, hd, q⟩ := h
    refine ⟨_, pss_cons (ps_if (PW.pt (pw_or (pt_not (pt_val (pe_callB call_isD rfl T.isin b_isinstance (pa_cons (pv 0) (pa_cons (pe_bltn (v := .ty "tuple") rfl T.tuple b_tuple rfl) pa_nil)))))
        (pw_or1 (pt_cmpR op_ne (pe_callB call_len_seq rfl T.len b_len (pa_cons (pv 0) pa_nil)) pe_int (nomark _))))) (pss_one (ps_ret pe_bl)) pss_nil)
      (pss_cons (ps_asg (pv 0) (pg_tup rfl (pgs_cons (pg_name (i := 2) sc5.nd rfl (Or.inl rfl)) (pgs_cons (pg_name (i := 3) sc5.nd rfl (Or.inl rfl)) pgs_nil))))
      (pss_one (ps_ret (pe_and (pe_call GB hr rfl mB kB bB .nil pass0 (pa_cons (pv 2) (pa_cons (pv 1) pa_nil)))
        (pe_and (pe_call GB hr rfl mB kB bB .nil pass0 (pa_cons (pv 3) (pa_cons (pv 1) pa_nil))) (pe_one (pe_cmpR op_lt (pv 2) (pv 3) (nomark _)))))))), ?_⟩
    refine ⟨_, rfl, d, v, "tuple", rfl, hd, by simp, _, rfl, ?_⟩
    cases e : isB d.ty "tuple" with
    | false =>
      refine iteT (iteT ?_)
      show Q (.bl false) H
      rw [← tieD_not (m := m) e]; exact q
    | true =>
      refine iteF ?_
      obtain ⟨ds, rfl⟩ := tup_of e
      have hd' := hd
      unfold Has at hd'
      obtain ⟨a, xs, rfl, hq, hall⟩ := hd'
      have hlen := hall.length
      refine ⟨_, rfl, a, xs, rfl, .inr hq, rfl, _, rfl, ?_⟩
      refine ite2 (fun e2 => ?_) (fun e2 => ?_)
      · have hne : ¬ ds.length = 2 := fun z => by rw [← hlen] at z; simp [z] at e2
        show Q (.bl false) H
        have : tieD m (.tup ds) = false := by
          match ds, hne with
          | [], _ => rfl
          | [_], _ => rfl
          | [_, _], hn => exact absurd rfl hn
          | _ :: _ :: _ :: _, _ => rfl
        rw [← this]; exact q
      · have h2 : xs.length = 2 := by
          have : ¬ ((!decide (V.int (xs.length : Int) = V.int 2)) = true) := e2
          simp at this
          omega
        match xs, ds, h2, hlen, hall, hq, q with
        | [x, y], [d1, d2], _, _, hall, hq, q =>
          unfold HasAll at hall
          obtain ⟨x', r, e1, hx, hr1⟩ := hall
          cases e1
          unfold HasAll at hr1
          obtain ⟨y', r', e1, hy, _⟩ := hr1
          cases e1
          refine ⟨_, rfl, a, [x, y], rfl, hq, rfl, _, _, rfl, _, _, rfl, rfl, ?_⟩
          refine ⟨_, rfl, _, rfl, d1, x, m, rfl, hx, _, rfl, ?_⟩
          have qq : Q (.bl (belowD m d1 && belowD m d2 && ltD d1 d2)) H := q
          cases h1 : belowD m d1 with
          | false => refine iteF ?_; rw [h1] at qq; simpa using qq
          | true =>
            refine iteT ?_
            rw [h1] at qq
            refine ⟨_, rfl, _, rfl, d2, y, m, rfl, hy, _, rfl, ?_⟩
            cases h3 : belowD m d2 with
            | false => refine iteF ?_; rw [h3] at qq; simpa using qq
            | true =>
              refine iteT ?_
              rw [h3] at qq
              obtain ⟨i, rfl⟩ : ∃ i, d1 = .int i := by cases d1 <;> first | exact ⟨_, rfl⟩ | (exact absurd h1 (by simp [belowD]))
              obtain ⟨j, rfl⟩ : ∃ j, d2 = .int j := by cases d2 <;> first | exact ⟨_, rfl⟩ | (exact absurd h3 (by simp [belowD]))
              unfold Has at hx hy
              subst hx hy
              refine ⟨_, rfl, _, rfl, _, _, rfl, rfl, ?_⟩
              simpa [ltD] using qq
end
end K3

namespace K3
open PySem L2
def keyD : D → List Int
  | .tup [.int a, .int b] => [a, b]
  | _ => []
/-- none less than the one ahead -/
def chainD (ts : List D) : Bool := ((ts.zip ts.tail).map fun p => HT.leB (keyD p.1) (keyD p.2)).all id
def tiesD (m : Int) : D → Bool
  | .tup ts => decide (ts.length ≤ 8) && ((ts.map (tieD m)).all id && chainD ts)
  | _ => false
def spTies (K : PySem.W.Frag) : Sp := fun vs H Q _ => ∃ d v m, vs = [v, .int m] ∧ Has K H d v ∧ ∀ H', Same H H' → Q (.bl (tiesD m d)) H'
section
variable {P : Program} {w : World} {K : PySem.W.Frag} {mg : Str → Option Value} {base : Heap}
theorem sc6 : FnScope ["thing", "many"] ["thing", "many"] (defScope sTies) := ⟨rfl, rfl, rfl, by decide +kernel, rfl, by decide +kernel, by decide +kernel⟩
theorem nd61 : (nComp ["tie"] [("many", 1)]).Nodup := by decide +kernel
theorem nd62 : (nComp ["one", "other"] []).Nodup := by decide +kernel
theorem key_of {K : PySem.W.Frag} {H : Hp} {m : Int} {d : D} {x : V} (h : Has K H d x) (t : tieD m d = true) : ∃ a, x = .ref a ∧ SqT K H a ((keyD d).map V.int) := by
  obtain ⟨ds, rfl⟩ : ∃ ds, d = .tup ds := by cases d <;> first | exact ⟨_, rfl⟩ | (simp [tieD] at t)
  match ds, t, h with
  | [d1, d2], t, h =>
    have t : (belowD m d1 && belowD m d2 && ltD d1 d2) = true := t
    obtain ⟨i, rfl⟩ : ∃ i, d1 = .int i := by cases d1 <;> first | exact ⟨_, rfl⟩ | (simp [belowD] at t)
    obtain ⟨j, rfl⟩ : ∃ j, d2 = .int j := by cases d2 <;> first | exact ⟨_, rfl⟩ | (simp [belowD] at t)
    unfold Has at h
    obtain ⟨a, xs, rfl, hq, hall⟩ := h
    refine ⟨a, rfl, ?_⟩
    unfold HasAll at hall
    obtain ⟨x', r, rfl, hx, hr1⟩ := hall
    unfold HasAll at hr1
    obtain ⟨y', r', rfl, hy, hr2⟩ := hr1
    unfold HasAll at hr2
    subst hr2
    unfold Has at hx hy
    subst hx hy
    exact hq
theorem take_succ_map {α β : Type} (f : α → β) (l : List α) (i : Nat) (x : α) (h : l[i]? = some x) : (l.take (i + 1)).map f = (l.take i).map f ++ [f x] := by
  rw [List.take_succ, h, List.map_append]; rfl
theorem ok_ties {f : Addr} {fd : FuncData} (F : Fun K "are_ties" "are_ties" sTies f fd) (T : Txt mg) (B : Fn P w K mg base 3 "is_tie" ["thing", "many"] (spTie K)) : FnOk P w K mg base CX0 4 f fd ["thing", "many"] (spTies K) := by
  obtain ⟨fB, fdB, mB, kB, bB, GB⟩ := B.ex
  obtain ⟨tk8, h8⟩ := T.ties
  refine F.ok sc6 (fun vs H Q E h => ?_) (fun cdv A outer s H vs Q E hr h => ?_)
  · obtain ⟨d, v, m, rfl, _⟩ := h; rfl
  · obtain ⟨d, v, m, rfl, hd, q⟩ := h
    refine ⟨_, pss_cons (ps_if (PW.pt (pw_or (pt_not (pt_val (pe_callB call_isD rfl T.isin b_isinstance (pa_cons (pv 0) (pa_cons (pe_bltn (v := .ty "tuple") rfl T.tuple b_tuple rfl) pa_nil)))))
        (pw_or1 (pt_cmpR op_gt (pe_callB call_len_seq rfl T.len b_len (pa_cons (pv 0) pa_nil)) (pe_glob (v := .int 8) rfl h8 ⟨_, rfl⟩) (nomark _))))) (pss_one (ps_ret pe_bl)) pss_nil)
      (pss_cons (ps_if (pt_not (pt_val (pe_callB (call_all rfl) rfl T.all b_all (pa_cons (pe_comp (own := ["tie"]) (capt := [("many", 1)]) rfl (by exact CompSc.of (scX := defScope sTies) (N := ["thing", "many"]) rfl rfl (by decide +kernel)) (pi_tup (pv 0)) (fun cl C s H fp => pg_name (i := 0) nd61 rfl (Or.inl rfl)) (fun cl C s H fp => pts_nil)
          (fun cl C s H fp => pe_call GB hr rfl mB kB bB .nil pass0 (pa_cons (pv 0) (pa_cons (pv 1) pa_nil)))) pa_nil)))) (pss_one (ps_ret pe_bl)) pss_nil)
      (pss_one (ps_ret (pe_callB (call_all rfl) rfl T.all b_all (pa_cons (pe_comp (own := ["one", "other"]) (capt := []) rfl (by exact CompSc.of (scX := defScope sTies) (N := ["thing", "many"]) rfl rfl (by decide +kernel)) (pi_zip rfl T.zip (pa_cons (pv 0) (pa_cons (pe_slice sl_tupG (pv 0) (po_some pe_int) po_none) pa_nil)))
          (fun cl C s H fp => pg_tupK K 2 rfl (pgs_cons (pg_name (i := 0) nd62 rfl (Or.inl rfl)) (pgs_cons (pg_name (i := 1) nd62 rfl (Or.inl rfl)) pgs_nil))) (fun cl C s H fp => pts_nil)
          (fun cl C s H fp => pe_cmpR (op_leK K hr.units0) (pv 0) (pv 1) (nomark _))) pa_nil))))), ?_⟩
    refine ⟨_, rfl, d, v, "tuple", rfl, hd, by simp, _, rfl, ?_⟩
    cases e : isB d.ty "tuple" with
    | false =>
      refine iteT (iteT ?_)
      have : tiesD m d = false := by cases d <;> first | rfl | (simp [D.ty, isB] at e)
      rw [this] at q
      exact q H (Same.refl H)
    | true =>
      refine iteF ?_
      obtain ⟨ds, rfl⟩ := tup_of e
      have hd' := hd
      unfold Has at hd'
      obtain ⟨a, xs, rfl, hq, hall⟩ := hd'
      have hlen := hall.length
      refine ⟨_, rfl, a, xs, rfl, .inr hq, _, _, rfl, rfl, _, rfl, ?_⟩
      have qq : ∀ H', Same H H' → Q (.bl (decide (ds.length ≤ 8) && ((ds.map (tieD m)).all id && chainD ds))) H' := q
      refine ite2 (fun e2 => ?_) (fun e2 => ?_)
      · have : ¬ ds.length ≤ 8 := by have := of_decide_eq_true e2; omega
        rw [decide_eq_false this] at qq
        exact qq H (Same.refl H)
      · have h8' : ds.length ≤ 8 := by
          have : ¬ ((8 : Int) < (xs.length : Int)) := fun z => e2 (decide_eq_true z)
          omega
        rw [decide_eq_true h8'] at qq
        simp only [Bool.true_and] at qq
        -- all are ties
        refine ⟨_, rfl, a, rfl, ⟨xs, hq⟩, comp_tup (xs := xs) (fun i ys H' => H' = H ∧ ys = ((ds.take i).map (tieD m)).map V.bl) (small64 (by omega)) ⟨rfl, rfl⟩ (fun i ys H' hi p => ⟨by rw [p.1]; exact hq, by rw [p.2]; simp; omega⟩) ?_ ?_⟩
        · rintro i x ys H' hx ⟨rfl, rfl⟩
          obtain ⟨dx, e1, hx'⟩ := hall.get hx
          refine gN (ttYes_of ?_)
          refine iteT ?_
          refine ⟨_, rfl, _, rfl, dx, x, m, rfl, hx', rfl, ?_⟩
          rw [take_succ_map _ _ _ _ e1, List.map_append]; rfl
        · rintro ys H' p ⟨rfl, rfl⟩ hp
          rw [hlen, List.take_length]
          refine ⟨p, _, rfl, SqL.of upd_same, _, rfl, ?_⟩
          have sm : Same H' (upd H' p (.lst ((ds.map (tieD m)).map V.bl))) := Same.new _ hp
          cases hall2 : (ds.map (tieD m)).all id with
          | false =>
            refine iteT ?_
            rw [hall2] at qq
            exact qq _ sm
          | true =>
            refine iteF ?_
            rw [hall2] at qq
            simp only [Bool.true_and] at qq
            have tie : ∀ (i : Nat) x dx, xs[i]? = some x → ds[i]? = some dx → ∀ H2, Same H' H2 → ∃ b, x = .ref b ∧ SqT K H2 b ((keyD dx).map V.int) := fun i x dx hx hdx H2 sm2 => by
              obtain ⟨dx', e1, hx'⟩ := hall.get hx
              rw [hdx] at e1; cases e1
              have ht : tieD m dx = true := by
                rw [List.all_eq_true] at hall2
                exact hall2 _ (List.mem_map.mpr ⟨dx, List.mem_of_getElem? hdx, rfl⟩)
              obtain ⟨b, e2, e3⟩ := key_of hx' ht
              exact ⟨b, e2, sm2.sqT e3⟩
            -- each with the next one
            refine ⟨_, rfl, _, rfl, _, rfl, a, xs, rfl, sm.sqT hq, fun p2 H2 sm2 hq2 => ?_⟩
            have e1 : cutV xs (some 1) none = xs.tail := by
              unfold cutV
              have : HT.sIx xs.length 0 (some 1) = min 1 xs.length := HT.sIx_nat xs.length 0 1
              rw [this, HT.sIx_none]
              cases xs with
              | nil => rfl
              | cons x r => simp
            rw [e1] at hq2
            have sm02 : Same H' H2 := sm.trans sm2
            refine ⟨a, p2, rfl, ⟨xs, sm02.sqT hq⟩, ⟨xs.tail, hq2⟩, comp_zip (xs := xs) (zs := xs.tail) (fun i ys H3 => Same H2 H3 ∧ ys = (((ds.zip ds.tail).take i).map fun p => HT.leB (keyD p.1) (keyD p.2)).map V.bl) (small64 (by omega)) ⟨Same.refl _, rfl⟩ (fun i ys H3 p => ⟨p.1.sqT (sm02.sqT hq), p.1.sqT hq2, by rw [p.2]; simp; omega⟩) ?_ ?_⟩
            · rintro i x z ys H3 T hx hz ⟨sm3, rfl⟩ hT
              obtain ⟨dx, ex, _⟩ := hall.get hx
              obtain ⟨dz, ez, _⟩ := (show HasAll K H' ds.tail xs.tail by cases xs with | nil => (cases ds with | nil => exact hall | cons _ _ => simp at hlen) | cons x r => (cases ds with | nil => simp at hlen | cons d r' => unfold HasAll at hall; obtain ⟨x', r'', e', _, h⟩ := hall; cases e'; exact h)).get hz
              have sm3' : Same H' (upd H3 T (.tup [x, z])) := (sm02.trans sm3).trans (Same.new _ hT)
              obtain ⟨b1, rfl, k1⟩ := tie i x dx hx ex _ sm3'
              have hz' : xs[i + 1]? = some z := by rw [← List.getElem?_tail]; exact hz
              have ez' : ds[i + 1]? = some dz := by rw [← List.getElem?_tail]; exact ez
              obtain ⟨b2, rfl, k2⟩ := tie (i + 1) z dz hz' ez' _ sm3'
              refine ⟨T, _, rfl, SqT.of upd_same, rfl, _, _, rfl, _, _, rfl, rfl, ?_⟩
              refine ttYes_of ?_
              refine iteT ?_
              refine ⟨_, rfl, _, rfl, b1, b2, _, _, rfl, rfl, k1, k2, ?_⟩
              refine ⟨sm3.trans (Same.new _ hT), ?_⟩
              have eg : (ds.zip ds.tail)[i]? = some (dx, dz) := by rw [List.getElem?_zip_eq_some]; exact ⟨ex, ez⟩
              rw [take_succ_map _ _ _ _ eg, List.map_append]; rfl
            · rintro ys H3 p3 ⟨sm3, rfl⟩ hp3
              have el : min xs.length xs.tail.length = (ds.zip ds.tail).length := by rw [List.length_zip, List.length_tail, List.length_tail, hlen]
              rw [el, List.take_length]
              refine ⟨p3, _, rfl, SqL.of upd_same, ?_⟩
              exact qq _ ((sm02.trans sm3).trans (Same.new _ hp3))
end
end K3

namespace K3
open PySem L2
def webI : D → D → Bool
  | .int m, d => decide (1 ≤ m) && (decide (m ≤ 6) && tiesD m d)
  | _, _ => false
def webD : D → Bool
  | .tup [d, e] => webI d e
  | _ => false
def spWeb (K : PySem.W.Frag) : Sp := fun vs H Q _ => ∃ d v, vs = [v] ∧ Has K H d v ∧ ∀ H', Same H H' → Q (.bl (webD d)) H'
/-! two rising lists of the same things are one -/
theorem rise_same : ∀ {l1 l2 : List (List Int)}, l1.Pairwise (fun x y => MySort.lexB y x = false) → l2.Pairwise (fun x y => MySort.lexB y x = false) → l1.Perm l2 → l1 = l2
  | [], l2, _, _, h => (List.Perm.nil_eq h)
  | a :: r, [], _, _, h => by have := h.length_eq; simp at this
  | a :: r, b :: q, h1, h2, h => by
    rw [List.pairwise_cons] at h1 h2
    have e : a = b := by
      have ma : a ∈ b :: q := h.mem_iff.mp List.mem_cons_self
      have mb : b ∈ a :: r := h.mem_iff.mpr List.mem_cons_self
      rcases List.mem_cons.mp ma with e | ma
      · exact e
      · rcases List.mem_cons.mp mb with e | mb
        · exact e.symm
        · exact MySort.lexB_total a b (h2.1 a ma) (h1.1 b mb)
    subst e
    rw [rise_same h1.2 h2.2 ((List.perm_cons a).mp h)]
theorem leB_trans {a b c : List Int} (h1 : HT.leB a b = true) (h2 : HT.leB b c = true) : HT.leB a c = true := by
  unfold HT.leB at *
  have h1 : MySort.lexB b a = false := by simpa using h1
  have h2 : MySort.lexB c b = false := by simpa using h2
  cases hca : MySort.lexB c a with
  | false => rfl
  | true =>
    rcases MySort.lexB_neg c b a hca with h | h
    · rw [h2] at h; cases h
    · rw [h1] at h; cases h
/-- each with the next one, and so each with all behind it -/
theorem chain_pair : ∀ (ts : List D), chainD ts = true → (ts.map keyD).Pairwise (fun x y => MySort.lexB y x = false)
  | [], _ => .nil
  | [_], _ => by simp
  | x :: y :: r, h => by
    have h : (HT.leB (keyD x) (keyD y) && chainD (y :: r)) = true := h
    rw [Bool.and_eq_true] at h
    have ih := chain_pair (y :: r) h.2
    rw [List.map_cons, List.pairwise_cons]
    refine ⟨fun z hz => ?_, ih⟩
    rw [List.map_cons] at hz ih
    rw [List.pairwise_cons] at ih
    rcases List.mem_cons.mp hz with e | hz
    · rw [e]; have := h.1; unfold HT.leB at this; simpa using this
    · have h3 : HT.leB (keyD y) z = true := by unfold HT.leB; simp [ih.1 z hz]
      have := leB_trans h.1 h3
      unfold HT.leB at this; simpa using this
theorem pair_chain : ∀ (ts : List D), (ts.map keyD).Pairwise (fun x y => MySort.lexB y x = false) → chainD ts = true
  | [], _ => rfl
  | [_], _ => rfl
  | x :: y :: r, h => by
    rw [List.map_cons, List.pairwise_cons] at h
    show (HT.leB (keyD x) (keyD y) && chainD (y :: r)) = true
    rw [pair_chain (y :: r) h.2, Bool.and_true]
    unfold HT.leB
    simp [h.1 (keyD y) (by simp)]
theorem sorted_eq {ts : List D} {p : List Nat} (hp : MySort.sortedBy (ts.map keyD) p) : decide (ts.map keyD = p.map fun i => (ts.map keyD).getD i []) = chainD ts := by
  have hperm : (p.map fun i => (ts.map keyD).getD i []).Perm (ts.map keyD) := by
    have := hp.1.map fun i => (ts.map keyD).getD i []
    rwa [MySort.range_getD] at this
  rw [Bool.eq_iff_iff, decide_eq_true_iff]
  constructor
  · intro e
    refine pair_chain ts ?_
    have := hp.2
    rwa [← e] at this
  · intro h
    exact rise_same (chain_pair ts h) hp.2 hperm.symm
section
variable {P : Program} {w : World} {K : PySem.W.Frag} {mg : Str → Option Value} {base : Heap}
theorem two_of {K : PySem.W.Frag} {H : Hp} {ds : List D} {xs : List V} (h : HasAll K H ds xs) (h2 : xs.length = 2) : ∃ d1 d2 x y, ds = [d1, d2] ∧ xs = [x, y] ∧ Has K H d1 x ∧ Has K H d2 y := by
  have hl := h.length
  match xs, ds, h2, hl, h with
  | [x, y], [d1, d2], _, _, h =>
    unfold HasAll at h
    obtain ⟨x', r, e1, hx, hr1⟩ := h
    cases e1
    unfold HasAll at hr1
    obtain ⟨y', r', e1, hy, _⟩ := hr1
    cases e1
    exact ⟨d1, d2, x, y, rfl, rfl, hx, hy⟩
theorem webD_not2 {ds : List D} (h : ¬ ds.length = 2) : webD (.tup ds) = false := by
  match ds, h with
  | [], _ => rfl
  | [_], _ => rfl
  | [_, _], hn => exact absurd rfl hn
  | _ :: _ :: _ :: _, _ => rfl
theorem sc7 : FnScope ["thing", "many", "ties"] ["thing"] (defScope sWeb) := ⟨rfl, rfl, rfl, by decide +kernel, rfl, by decide +kernel, by decide +kernel⟩
theorem ok_web {f : Addr} {fd : FuncData} (F : Fun K "is_web" "is_web" sWeb f fd) (T : Txt mg) (W : Fn P w K mg base 1 "is_whole" ["thing"] (spWhole K)) (B : Fn P w K mg base 4 "are_ties" ["thing", "many"] (spTies K)) : FnOk P w K mg base CX0 5 f fd ["thing"] (spWeb K) := by
  obtain ⟨fB, fdB, mB, kB, bB, GB⟩ := B.ex
  obtain ⟨fW, fdW, mW, kW, bW, GW⟩ := W.ex
  obtain ⟨tk6, h6⟩ := T.places
  refine F.ok sc7 (fun vs H Q E h => ?_) (fun cdv A outer s H vs Q E hr h => ?_)
  · obtain ⟨d, v, rfl, _⟩ := h; rfl
  · obtain ⟨d, v, rfl, hd, q⟩ := h
    have hr1 : Room 1 _ := hr.mono (by decide)
    refine ⟨_, pss_cons (ps_if (PW.pt (pw_or (pt_not (pt_val (pe_callB call_isD rfl T.isin b_isinstance (pa_cons (pv 0) (pa_cons (pe_bltn (v := .ty "tuple") rfl T.tuple b_tuple rfl) pa_nil)))))
        (pw_or1 (pt_cmpR op_ne (pe_callB call_len_seq rfl T.len b_len (pa_cons (pv 0) pa_nil)) pe_int (nomark _))))) (pss_one (ps_ret pe_bl)) pss_nil)
      (pss_cons (ps_asg (pv 0) (pg_tup rfl (pgs_cons (pg_name (i := 1) sc7.nd rfl (Or.inl rfl)) (pgs_cons (pg_name (i := 2) sc7.nd rfl (Or.inl rfl)) pgs_nil))))
      (pss_one (ps_ret (pe_and (pe_call GW hr1 rfl mW kW bW .nil pass0 (pa_cons (pv 1) pa_nil))
        (pe_and (pe_chain op_le op_le pe_int (pv 1) (pe_glob (v := .int 6) rfl h6 ⟨_, rfl⟩)) (pe_one (pe_call GB hr rfl mB kB bB .nil pass0 (pa_cons (pv 2) (pa_cons (pv 1) pa_nil))))))))), ?_⟩
    refine ⟨_, rfl, d, v, "tuple", rfl, hd, by simp, _, rfl, ?_⟩
    cases e : isB d.ty "tuple" with
    | false =>
      refine iteT (iteT ?_)
      have : webD d = false := by cases d <;> first | rfl | (simp [D.ty, isB] at e)
      rw [this] at q
      exact q H (Same.refl H)
    | true =>
      refine iteF ?_
      obtain ⟨ds, rfl⟩ := tup_of e
      have hd' := hd
      unfold Has at hd'
      obtain ⟨a, xs, rfl, hq, hall⟩ := hd'
      have hlen := hall.length
      refine ⟨_, rfl, a, xs, rfl, .inr hq, rfl, _, rfl, ?_⟩
      refine ite2 (fun e2 => ?_) (fun e2 => ?_)
      · have hne : ¬ ds.length = 2 := fun z => by rw [← hlen] at z; simp [z] at e2
        rw [webD_not2 hne] at q
        exact q H (Same.refl H)
      · have h2 : xs.length = 2 := by
          have : ¬ ((!decide (V.int (xs.length : Int) = V.int 2)) = true) := e2
          simp at this
          omega
        obtain ⟨d1, d2, x, y, rfl, rfl, hx, hy⟩ := two_of hall h2
        refine ⟨_, rfl, a, [x, y], rfl, hq, rfl, _, _, rfl, _, _, rfl, rfl, ?_⟩
        refine ⟨_, rfl, d1, x, rfl, hx, _, rfl, ?_⟩
        have qq : ∀ H', Same H H' → Q (.bl (webI d1 d2)) H' := q
        cases d1 with
        | int m =>
          refine iteT ?_
          unfold Has at hx
          subst hx
          have qq : ∀ H', Same H H' → Q (.bl (decide (1 ≤ m) && (decide (m ≤ 6) && tiesD m d2))) H' := q
          refine ⟨_, rfl, _, _, rfl, rfl, _, rfl, ?_⟩
          refine ite2 (fun e3 => ?_) (fun e3 => ?_)
          · rw [e3] at qq
            refine ⟨_, _, rfl, rfl, _, rfl, ?_⟩
            refine ite2 (fun e4 => ?_) (fun e4 => ?_)
            · rw [e4] at qq
              refine ⟨_, rfl, _, rfl, d2, y, m, rfl, hy, fun H' sm => ?_⟩
              simpa using qq H' sm
            · rw [show decide (m ≤ 6) = false by simpa using e4] at qq
              simpa using qq H (Same.refl H)
          · rw [show decide (1 ≤ m) = false by simpa using e3] at qq
            refine ⟨_, rfl, ?_⟩
            refine iteF ?_
            simpa using qq H (Same.refl H)
        | _ => exact iteF (qq H (Same.refl H))
/-! the law's own -/
theorem sc13 : FnScope ["_law_thing"] ["_law_thing"] (defScope sLWhole) := ⟨rfl, rfl, rfl, by decide +kernel, rfl, by decide +kernel, by decide +kernel⟩
theorem ok_lwhole {f : Addr} {fd : FuncData} (F : Fun K "_law_whole" "_law_whole" sLWhole f fd) (T : Txt mg) : FnOk P w K mg base CX0 1 f fd ["_law_thing"] (spWhole K) := by
  refine F.ok sc13 (fun vs H Q E h => ?_) (fun cdv A outer s H vs Q E hr h => ?_)
  · obtain ⟨d, v, rfl, _⟩ := h; rfl
  · obtain ⟨d, v, rfl, hd, q⟩ := h
    refine ⟨_, pss_one (ps_ret (pe_and (pe_callB call_isD rfl T.isin b_isinstance (pa_cons (pv 0) (pa_cons (pe_bltn (v := .ty "int") rfl T.int b_int rfl) pa_nil)))
      (pe_one (pe_not (pe_callB call_isD rfl T.isin b_isinstance (pa_cons (pv 0) (pa_cons (pe_bltn (v := .ty "bool") rfl T.bool b_bool rfl) pa_nil))))))), ?_⟩
    refine ⟨_, rfl, d, v, "int", rfl, hd, by simp, _, rfl, ?_⟩
    refine ite2 (fun e => ?_) (fun e => ?_)
    · refine ⟨_, rfl, d, v, "bool", rfl, hd, by simp, _, rfl, ?_⟩
      have e2 : (!isB d.ty "bool") = wholeD d := by cases d <;> first | rfl | (simp [D.ty, isB] at e)
      rw [e2]; exact q
    · have e2 : wholeD d = false := by cases d <;> first | rfl | (simp [D.ty, isB] at e)
      rw [e2] at q; exact q
theorem tieD_eq (m i j : Int) : tieD m (.tup [.int i, .int j]) = (decide (0 ≤ i) && (decide (i < j) && decide (j < m))) := by
  show (decide (0 ≤ i) && decide (i < m) && (decide (0 ≤ j) && decide (j < m)) && decide (i < j)) = _
  rw [Bool.eq_iff_iff]
  simp only [Bool.and_eq_true, decide_eq_true_eq]
  omega
theorem keysV_of {H : Hp} {m : Int} : ∀ {ds : List D} {xs : List V}, HasAll K H ds xs → (∀ d ∈ ds, tieD m d = true) → KeysV K H xs (ds.map keyD)
  | [], _, h, _ => by unfold HasAll at h; rw [h]; exact .nil
  | d :: ds, _, h, ht => by
    unfold HasAll at h
    obtain ⟨x, r, rfl, h1, h2⟩ := h
    obtain ⟨a, e, hq⟩ := key_of h1 (ht d List.mem_cons_self)
    refine .cons ⟨a, e, hq, fun z => ?_⟩ (keysV_of h2 fun d' hd' => ht d' (List.mem_cons_of_mem _ hd'))
    have t := ht d List.mem_cons_self
    obtain ⟨es, rfl⟩ : ∃ es, d = .tup es := by cases d <;> first | exact ⟨_, rfl⟩ | (simp [tieD] at t)
    match es, t, z with
    | [d1, d2], t, z =>
      have t : (belowD m d1 && belowD m d2 && ltD d1 d2) = true := t
      obtain ⟨i, rfl⟩ : ∃ i, d1 = .int i := by cases d1 <;> first | exact ⟨_, rfl⟩ | (simp [belowD] at t)
      obtain ⟨j, rfl⟩ : ∃ j, d2 = .int j := by cases d2 <;> first | exact ⟨_, rfl⟩ | (simp [belowD] at t)
      exact absurd z (by simp [keyD])
theorem keysV_get {H : Hp} : ∀ {xs : List V} {ks : List (List Int)} {i : Nat}, KeysV K H xs ks → i < xs.length → ∃ b, xs.getD i .non = V.ref b ∧ SqT K H b ((ks.getD i []).map V.int) ∧ ks.getD i [] ≠ []
  | _, _, _, .nil, hi => absurd hi (Nat.not_lt_zero _)
  | _, _, 0, .cons x _, _ => by simpa using x
  | _, _, i + 1, .cons _ r, hi => by simpa using keysV_get (i := i) r (by simpa using hi)
theorem keysV_pick {H : Hp} {xs : List V} {ks : List (List Int)} (h : KeysV K H xs ks) : ∀ {p : List Nat}, (∀ i ∈ p, i < xs.length) → KeysV K H (p.map fun i => xs.getD i .non) (p.map fun i => ks.getD i [])
  | [], _ => .nil
  | i :: r, hi => .cons (keysV_get h (hi i List.mem_cons_self)) (keysV_pick h fun j hj => hi j (List.mem_cons_of_mem _ hj))
end
end K3

namespace K3
open PySem L2
/-- the state of the draws stands at st; all but it is as it was -/
structure Adv (st : Addr) (H H' : Hp) : Prop where
  same : ∀ c o, c ≠ st → H c = some o → H' c = some o
  st : ∃ n b, H' st = some (.lst [.int n, .bl b])
theorem Adv.hid {st : Addr} {H H' : Hp} (a : Adv st H H') : Same (hide st H) (hide st H') := hide_mono a.same
theorem Adv.trans {st : Addr} {H H1 H2 : Hp} (a : Adv st H H1) (b : Adv st H1 H2) : Adv st H H2 := ⟨fun c o n e => b.same c o n (a.same c o n e), b.st⟩
theorem Adv.new {st p : Addr} {H H' : Hp} (a : Adv st H H') (o : HO) (n : H' p = none) : Adv st H (upd H' p o) :=
  ⟨fun c u hc e => by rw [upd_ne (ne_of_none (a.same c u hc e) n)]; exact a.same c u hc e, by obtain ⟨k, b, e⟩ := a.st; exact ⟨k, b, by rw [upd_ne (ne_of_none e n)]; exact e⟩⟩
theorem Adv.refl {st : Addr} {H : Hp} (h : ∃ n b, H st = some (.lst [.int n, .bl b])) : Adv st H H := ⟨fun _ _ _ e => e, h⟩
theorem Adv.turn {st : Addr} {H H' : Hp} (a : Adv st H H') (n : Int) (b : Bool) : Adv st H (upd H' st (.lst [.int n, .bl b])) := ⟨fun c o hc e => by rw [upd_ne hc]; exact a.same c o hc e, ⟨n, b, upd_same⟩⟩
theorem Adv.same' {st : Addr} {H H' : Hp} (a : Adv st H H') (s : Same H' H2) : Adv st H H2 := ⟨fun c o hc e => s _ _ (a.same c o hc e), by obtain ⟨n, b, e⟩ := a.st; exact ⟨n, b, s _ _ e⟩⟩
def spCell (K : PySem.W.Frag) : Sp := fun vs H Q _ => ∃ (a : Addr) (ns : List Int) (k : Nat), vs = [.ref a, .int k] ∧ SqL K H a (ns.map V.int) ∧ ∀ i, Q (.int i) H
def spState (K : PySem.W.Frag) : Sp := fun vs H Q _ => ∃ (a : Addr) (ns : List Int) (k : Nat), vs = [.ref a, .int k] ∧ SqL K H a (ns.map V.int) ∧ ∀ st n b, H st = none → Q (.ref st) (upd H st (.lst [.int n, .bl b]))
def spTake : Sp := fun vs H Q _ => ∃ (st : Addr) (n : Int) (b : Bool) (m : Int), vs = [.ref st, .int m] ∧ H st = some (.lst [.int n, .bl b]) ∧ 0 < m ∧ m < 1073741824 ∧ ∀ r n', 0 ≤ r → r < m → Q (.int r) (upd H st (.lst [.int n', .bl b]))
section
variable {P : Program} {w : World} {K : PySem.W.Frag} {mg : Str → Option Value} {base : Heap}
theorem sc9 : FnScope ["_law_script", "_law_k"] ["_law_script", "_law_k"] (defScope sCell) := ⟨rfl, rfl, rfl, by decide +kernel, rfl, by decide +kernel, by decide +kernel⟩
theorem ok_cell {f : Addr} {fd : FuncData} (F : Fun K "_law_cell_at" "_law_cell_at" sCell f fd) (T : Txt mg) : FnOk P w K mg base CX0 1 f fd ["_law_script", "_law_k"] (spCell K) := by
  refine F.ok sc9 (fun vs H Q E h => ?_) (fun cdv A outer s H vs Q E hr h => ?_)
  · obtain ⟨a, ns, k, rfl, _⟩ := h; rfl
  · obtain ⟨a, ns, k, rfl, hq, q⟩ := h
    refine ⟨_, pss_cons (ps_if (pt_cmpR op_lt (pv 1) (pe_callB call_len_seq rfl T.len b_len (pa_cons (pv 0) pa_nil)) (nomark _)) (pss_one (ps_ret (pe_ix ix_list (pv 0) (pv 1) (fun _ _ => rfl)))) pss_nil) (pss_one (ps_ret pe_int)), ?_⟩
    refine ⟨_, rfl, _, rfl, a, _, rfl, .inl hq, _, _, rfl, rfl, _, rfl, ?_⟩
    refine ite2 (fun e => ?_) (fun e => ?_)
    · have hk : k < ns.length := by have := of_decide_eq_true e; rw [List.length_map] at this; omega
      refine ⟨_, rfl, _, rfl, a, _, k, .int ns[k], rfl, rfl, hq, atI_nat (by simp [hk]), q _⟩
    · exact q _
theorem sc10 : FnScope ["_law_script", "_law_k", "_law_cell"] ["_law_script", "_law_k"] (defScope sState) := ⟨rfl, rfl, rfl, by decide +kernel, rfl, by decide +kernel, by decide +kernel⟩
theorem ok_state {f : Addr} {fd : FuncData} (F : Fun K "_law_state" "_law_state" sState f fd) (C : Fn P w K mg base 1 "_law_cell_at" ["_law_script", "_law_k"] (spCell K)) : FnOk P w K mg base CX0 2 f fd ["_law_script", "_law_k"] (spState K) := by
  obtain ⟨fC, fdC, mC, kC, bC, GC⟩ := C.ex
  refine F.ok sc10 (fun vs H Q E h => ?_) (fun cdv A outer s H vs Q E hr h => ?_)
  · obtain ⟨a, ns, k, rfl, _⟩ := h; rfl
  · obtain ⟨a, ns, k, rfl, hq, q⟩ := h
    refine ⟨_, pss_cons (ps_set (i := 2) sc10.nd rfl (Or.inl rfl) (pe_call GC hr rfl mC kC bC .nil pass0 (pa_cons (pv 0) (pa_cons (pv 1) pa_nil))))
      (pss_cons (ps_if (pt_cmpR op_ge (pv 2) (pe_op op_pow pe_int pe_int) (nomark _)) (pss_one (ps_ret (pe_lst (pa_cons (pe_op op_sub (pv 2) (pe_op op_pow pe_int pe_int)) (pa_cons pe_bl pa_nil))))) pss_nil)
      (pss_one (ps_ret (pe_lst (pa_cons (pe_op op_mod (pv 2) pe_int) (pa_cons pe_bl pa_nil)))))), ?_⟩
    refine ⟨_, rfl, _, rfl, a, ns, k, rfl, hq, fun i => ?_⟩
    have pw : CPow 10 18 := ⟨by decide, by decide, by decide⟩
    refine ⟨_, rfl, _, _, rfl, rfl, pw, _, _, rfl, rfl, _, rfl, ?_⟩
    refine ite2 (fun e => ?_) (fun e => ?_)
    · refine ⟨_, rfl, _, _, rfl, rfl, pw, _, _, rfl, rfl, small64 (by show 2 ≤ 64; decide), fun p hp => q p _ _ hp⟩
    · refine ⟨_, rfl, _, _, rfl, rfl, (by show (0 : Int) < 2147483647; decide), small64 (by show 2 ≤ 64; decide), fun p hp => q p _ _ hp⟩
theorem sc11 : FnScope ["_law_state_here", "_law_many", "_law_found", "_law_stirred"] ["_law_state_here", "_law_many"] (defScope sTake) := ⟨rfl, rfl, rfl, by decide +kernel, rfl, by decide +kernel, by decide +kernel⟩
theorem ok_take {f : Addr} {fd : FuncData} (F : Fun K "_law_take" "_law_take" sTake f fd) : FnOk P w K mg base CX0 1 f fd ["_law_state_here", "_law_many"] spTake := by
  refine F.ok sc11 (fun vs H Q E h => ?_) (fun cdv A outer s H vs Q E hr h => ?_)
  · obtain ⟨st, n, b, m, rfl, _⟩ := h; rfl
  · obtain ⟨st, n, b, m, rfl, hst, h0, h1, q⟩ := h
    refine ⟨_, pss_cons (ps_if (pt_val (pe_ix ix_list (pv 0) pe_int (fun _ _ => rfl)))
        (pss_cons (ps_set (i := 2) sc11.nd rfl (Or.inl rfl) (pe_op op_mod (pe_ix ix_list (pv 0) pe_int (fun _ _ => rfl)) (pv 1)))
        (pss_cons (ps_asg (pe_op op_fdiv (pe_ix ix_list (pv 0) pe_int (fun _ _ => rfl)) (pv 1)) (pg_sub (pv 0) pe_int set_list))
        (pss_one (ps_ret (pv 2))))) pss_nil)
      (pss_cons (ps_asg (pe_op op_mod (pe_op op_add (pe_op op_mul (pe_ix ix_list (pv 0) pe_int (fun _ _ => rfl)) pe_int) pe_int) pe_int) (pg_sub (pv 0) pe_int set_list))
      (pss_cons (ps_set (i := 3) sc11.nd rfl (Or.inl rfl) (pe_op op_mod (pe_op op_add (pe_op op_add (pe_op op_mul (pe_ix ix_list (pv 0) pe_int (fun _ _ => rfl)) (pe_ix ix_list (pv 0) pe_int (fun _ _ => rfl))) (pe_op op_mul pe_int (pe_ix ix_list (pv 0) pe_int (fun _ _ => rfl)))) pe_int) pe_int))
      (pss_cons (ps_set (i := 3) sc11.nd rfl (Or.inl rfl) (pe_op op_mod (pe_op op_add (pe_op op_mul (pv 3) (pv 3)) (pe_op op_mul pe_int (pv 3))) pe_int))
      (pss_one (ps_ret (pe_op op_mod (pe_op op_fdiv (pv 3) pe_int) (pv 1))))))), ?_⟩
    refine ⟨_, rfl, st, _, 1, .bl b, rfl, rfl, SqL.of hst, rfl, _, rfl, ?_⟩
    cases b with
    | true =>
      refine iteT ?_
      refine ⟨_, rfl, st, _, 0, .int n, rfl, rfl, SqL.of hst, rfl, _, rfl, _, _, rfl, rfl, h0, ?_⟩
      refine ⟨_, rfl, st, _, 0, .int n, rfl, rfl, SqL.of hst, rfl, _, rfl, _, _, rfl, rfl, ⟨h0, h1⟩, ?_⟩
      refine ⟨_, rfl, st, _, 0, 0, rfl, rfl, hst, rfl, ?_⟩
      exact ⟨_, rfl, q _ _ (Int.emod_nonneg _ (by omega)) (Int.emod_lt_of_pos _ h0)⟩
    | false =>
      refine iteF ?_
      refine ⟨_, rfl, st, _, 0, .int n, rfl, rfl, SqL.of hst, rfl, _, _, rfl, rfl, .inr ⟨by decide, by decide⟩, _, _, rfl, rfl, _, _, rfl, rfl, (by show (0 : Int) < 2147483647; decide), ?_⟩
      refine ⟨_, rfl, st, _, 0, 0, rfl, rfl, hst, rfl, ?_⟩
      have b1 : 0 ≤ (n * 48271 + 29) % 2147483647 := Int.emod_nonneg _ (by decide)
      have b2 : (n * 48271 + 29) % 2147483647 < 2147483647 := Int.emod_lt_of_pos _ (by decide)
      have hx : upd H st (.lst ([V.int n, V.bl false].set 0 (.int ((n * 48271 + 29) % 2147483647)))) st = some (.lst [.int ((n * 48271 + 29) % 2147483647), .bl false]) := upd_same
      refine ⟨_, rfl, st, _, 0, .int ((n * 48271 + 29) % 2147483647), rfl, rfl, SqL.of hx, rfl, _, rfl, st, _, 0, .int ((n * 48271 + 29) % 2147483647), rfl, rfl, SqL.of hx, rfl, _, _, rfl, rfl, .inl ⟨by omega, by omega⟩, _, rfl, st, _, 0, .int ((n * 48271 + 29) % 2147483647), rfl, rfl, SqL.of hx, rfl, _, _, rfl, rfl, .inl ⟨by decide, by decide⟩, _, _, rfl, rfl, _, _, rfl, rfl, _, _, rfl, rfl, (by show (0 : Int) < 2147483629; decide), ?_⟩
      have c1 : 0 ≤ ((n * 48271 + 29) % 2147483647 * ((n * 48271 + 29) % 2147483647) + 39373 * ((n * 48271 + 29) % 2147483647) + 7) % 2147483629 := Int.emod_nonneg _ (by decide)
      have c2 : ((n * 48271 + 29) % 2147483647 * ((n * 48271 + 29) % 2147483647) + 39373 * ((n * 48271 + 29) % 2147483647) + 7) % 2147483629 < 2147483629 := Int.emod_lt_of_pos _ (by decide)
      have d1 : ∀ z : Int, 0 ≤ z → z < 2147483629 → CMul z z := fun z z1 z2 => .inl ⟨by omega, by omega⟩
      refine ⟨_, rfl, _, rfl, _, _, rfl, rfl, d1 _ c1 c2, _, rfl, _, _, rfl, rfl, .inl ⟨by decide, by decide⟩, _, _, rfl, rfl, _, _, rfl, rfl, (by show (0 : Int) < 2147483587; decide), ?_⟩
      refine ⟨_, rfl, _, _, rfl, rfl, ⟨by decide, by decide⟩, _, rfl, _, _, rfl, rfl, h0, ?_⟩
      exact q _ _ (Int.emod_nonneg _ (by omega)) (Int.emod_lt_of_pos _ h0)
end
end K3

namespace K3
open PySem L2
/-- a web as it is drawn -/
structure GoodWeb (m : Int) (ts : List D) : Prop where
  lo : 1 ≤ m
  hi : m ≤ 6
  len : ts.length ≤ 8
  tie : ∀ t ∈ ts, tieD m t = true
  chain : chainD ts = true
def spDraw (K : PySem.W.Frag) : Sp := fun vs H Q _ => ∃ (st : Addr) (n : Int) (b : Bool), vs = [.ref st, .int 8] ∧ H st = some (.lst [.int n, .bl b]) ∧ ∀ v m ts H', Adv st H H' → GoodWeb m ts → Has K (hide st H') (.tup [.int m, .tup ts]) v → Q v H'
/-- the heap without two addresses -/
def hid2 (st tl : Addr) (H : Hp) : Hp := fun b => if b = st ∨ b = tl then none else H b
theorem hid2_same (st tl : Addr) (H : Hp) : Same (hid2 st tl H) (hide st H) := fun b o e => by
  unfold hid2 at e
  split at e
  · cases e
  · rename_i h; unfold hide; rw [if_neg fun z => h (.inl z)]; exact e
theorem hid2_upd1 (st tl : Addr) (H : Hp) (o : HO) : hid2 st tl (upd H st o) = hid2 st tl H := by
  funext b; unfold hid2 upd
  by_cases e : b = st
  · rw [if_pos (.inl e), if_pos (.inl e)]
  · by_cases e2 : b = tl
    · rw [if_pos (.inr e2), if_pos (.inr e2)]
    · have hn : ¬ (b = st ∨ b = tl) := fun z => z.elim e e2
      rw [if_neg hn, if_neg hn, if_neg e]
theorem hid2_upd2 (st tl : Addr) (H : Hp) (o : HO) : hid2 st tl (upd H tl o) = hid2 st tl H := by
  funext b; unfold hid2 upd
  by_cases e2 : b = tl
  · rw [if_pos (.inr e2), if_pos (.inr e2)]
  · by_cases e : b = st
    · rw [if_pos (.inl e), if_pos (.inl e)]
    · have hn : ¬ (b = st ∨ b = tl) := fun z => z.elim e e2
      rw [if_neg hn, if_neg hn, if_neg e2]
theorem hid2_mono {st tl : Addr} {H H' : Hp} (s : Same H H') : Same (hid2 st tl H) (hid2 st tl H') := fun b o e => by
  unfold hid2 at e ⊢
  split at e
  · cases e
  · rename_i h; rw [if_neg h]; exact s _ _ e
theorem hid2_get {st tl b : Addr} {H : Hp} {o : HO} (h : H b = some o) (n1 : b ≠ st) (n2 : b ≠ tl) : hid2 st tl H b = some o := by
  unfold hid2; rw [if_neg (fun z => z.elim n1 n2)]; exact h
theorem many_at (r : Int) (h0 : 0 ≤ r) (h1 : r < 8) : ∃ m : Int, atI [V.int 6, .int 5, .int 4, .int 3, .int 4, .int 5, .int 2, .int 1] r = some (.int m) ∧ 1 ≤ m ∧ m ≤ 6 := by
  have : r = 0 ∨ r = 1 ∨ r = 2 ∨ r = 3 ∨ r = 4 ∨ r = 5 ∨ r = 6 ∨ r = 7 := by omega
  rcases this with rfl | rfl | rfl | rfl | rfl | rfl | rfl | rfl
  · exact ⟨6, rfl, by decide, by decide⟩
  · exact ⟨5, rfl, by decide, by decide⟩
  · exact ⟨4, rfl, by decide, by decide⟩
  · exact ⟨3, rfl, by decide, by decide⟩
  · exact ⟨4, rfl, by decide, by decide⟩
  · exact ⟨5, rfl, by decide, by decide⟩
  · exact ⟨2, rfl, by decide, by decide⟩
  · exact ⟨1, rfl, by decide, by decide⟩
structure Mid (K : PySem.W.Frag) (st : Addr) (m : Int) (H : Hp) (most : Nat) (σ : St) (H3 : Hp) : Prop where
  ex : ∃ (tl : Addr) (xs : List V) (ds : List D) (v4 v5 v6 : Option V), σ = [some (.ref st), some (.int 8), some (.int m), some (.ref tl), v4, v5, v6] ∧ H3 tl = some (.lst xs) ∧ tl ≠ st ∧ Adv st H H3 ∧ HasAll K (hid2 st tl H3) ds xs ∧ (∀ d ∈ ds, tieD m d = true) ∧ xs.length ≤ most ∧ H tl = none
section
variable {P : Program} {w : World} {K : PySem.W.Frag} {mg : Str → Option Value} {base : Heap}
abbrev nDraw : List Str := ["_law_state_here", "_law_most", "_law_many", "_law_ties", "_law_turn", "_law_one", "_law_other"]
theorem sc12 : FnScope nDraw ["_law_state_here", "_law_most"] (defScope sDraw) := ⟨rfl, rfl, rfl, by decide +kernel, rfl, by decide +kernel, by decide +kernel⟩
theorem nd12 : (nComp ["_law_place"] [("_law_state_here", 0)]).Nodup := by decide +kernel
theorem pick_has {K : PySem.W.Frag} {H : Hp} {ds : List D} {xs : List V} (h : HasAll K H ds xs) : ∀ {p : List Nat}, (∀ i ∈ p, i < xs.length) → HasAll K H (p.map fun i => ds.getD i .non) (p.map fun i => xs.getD i .non)
  | [], _ => .nil
  | i :: r, hi => by
    have hl := hi i List.mem_cons_self
    obtain ⟨d, e1, e2⟩ := h.get (i := i) (x := xs[i]) (by simp [hl])
    refine .cons ?_ (pick_has h fun j hj => hi j (List.mem_cons_of_mem _ hj))
    have : xs.getD i V.non = xs[i] := by simp [hl]
    show Has K H (ds.getD i .non) (xs.getD i V.non)
    rw [this, List.getD_eq_getElem?_getD, e1]; exact e2
theorem draw_tail {f : Addr} {cdv : Value} {A : Around} {outer : List Env} {s : Shared} {H : Hp} {E : XK} (T : Txt mg) (TK : Fn P w K mg base 1 "_law_take" ["_law_state_here", "_law_many"] spTake)
    (hr : Room 1 (A.deeper (PyProof.Rows.envOfC "_law_web" (defScope sDraw) s.heap.objs.size f cdv))) :
    ∃ t, PSs (cxOf CX0 P w K mg base nDraw "_law_web" (defScope sDraw) f cdv A outer s H E).nox ((defBody sDraw).drop 3) t ∧
      ∀ (D : Ends) (σ : St) (st : Addr) (m : Int) (H0 H3 : Hp), 1 ≤ m → m ≤ 6 → Mid K st m H0 5 σ H3 → (∀ v ts H', Adv st H0 H' → GoodWeb m ts → Has K (hide st H') (.tup [.int m, .tup ts]) v → D.rt v H') → t D σ H3 := by
  obtain ⟨fT, fdT, mT, kT, bT, GT⟩ := TK.ex
  refine ⟨_, pss_cons (ps_for PassesOwn.never rfl (pi_range1 rfl T.range (pa_cons (pe_op op_mul (pe_call GT hr rfl mT kT bT .nil pass0 (pa_cons (pv 0) (pa_cons (pe_op op_add (pv 1) pe_int) pa_nil))) (pe_callTy call_int1 rfl T.int b_int (pa_cons (pe_cmpR op_gt (pv 2) pe_int (nomark _)) pa_nil))) pa_nil)) (pg_name (i := 4) sc12.nd rfl (Or.inl rfl))
      (pss_cons (ps_set (i := 5) sc12.nd rfl (Or.inl rfl) (pe_call GT hr rfl mT kT bT .nil pass0 (pa_cons (pv 0) (pa_cons (pv 2) pa_nil))))
      (pss_cons (ps_set (i := 6) sc12.nd rfl (Or.inl rfl) (pe_op op_mod (pe_op op_add (pe_op op_add (pv 5) pe_int) (pe_call GT hr rfl mT kT bT .nil pass0 (pa_cons (pv 0) (pa_cons (pe_op op_sub (pv 2) pe_int) pa_nil)))) (pv 2)))
      (pss_one (ps_expr (pe_bm PySem.F.plainAttrs_list PySem.F.slot_list_append PySem.F.type_list_append mt_append (pv 3) (pa_cons (pe_tup (pa_cons (pe_callB (call_min2 rfl) rfl T.min b_min (pa_cons (pv 5) (pa_cons (pv 6) pa_nil))) (pa_cons (pe_callB (call_max2 rfl) rfl T.max b_max (pa_cons (pv 5) (pa_cons (pv 6) pa_nil))) pa_nil))) pa_nil)))))))
    (pss_one (ps_ret (pe_tup (pa_cons (pv 2) (pa_cons (pe_callTy call_tuple_of rfl T.tuple b_tuple (pa_cons (pe_callB call_sorted rfl T.srt b_sorted (pa_cons (pe_slice sl_list (pv 3) po_none (po_some (pv 1))) pa_nil)) pa_nil)) pa_nil))))), ?_⟩
  intro D σ st m H0 H3 hm1 hm6 M q
  obtain ⟨tl, xs, ds, v4, v5, v6, rfl, htl, hne, adv, hall, htie, hlen, hnew⟩ := M.ex
  obtain ⟨n, b, hst⟩ := adv.st
  refine ⟨_, rfl, _, rfl, _, _, rfl, rfl, st, n, b, 9, rfl, hst, by decide, by decide, fun r n1 r0 r9 => ?_⟩
  have hst1 : upd H3 st (.lst [.int n1, .bl b]) st = some (.lst [.int n1, .bl b]) := upd_same
  have htl1 : upd H3 st (.lst [.int n1, .bl b]) tl = some (.lst xs) := by rw [upd_ne hne]; exact htl
  refine ⟨_, rfl, _, _, rfl, rfl, .inr ⟨_, rfl, _, _, rfl, rfl, .inl ⟨by omega, by omega⟩, _, rfl, ?_⟩⟩
  -- how many turns
  have hk : ∃ k : Nat, (r * (if decide (1 < m) = true then (1 : Int) else 0)).toNat = k ∧ k ≤ 8 ∧ (0 < k → 1 < m) ∧ -(2 ^ 62) ≤ r * (if decide (1 < m) = true then (1 : Int) else 0) ∧ r * (if decide (1 < m) = true then (1 : Int) else 0) < 2 ^ 62 := by
    by_cases h1 : 1 < m
    · rw [decide_eq_true h1, if_pos rfl, Int.mul_one]
      exact ⟨r.toNat, rfl, by omega, fun _ => h1, by omega, by omega⟩
    · rw [decide_eq_false h1, if_neg (by decide), Int.mul_zero]
      exact ⟨0, rfl, by omega, fun z => absurd z (by decide), by decide, by decide⟩
  obtain ⟨k, ek, hk8, hk1, hb1, hb2⟩ := hk
  refine ⟨hb1, hb2, ?_⟩
  rw [ek]
  refine for_range (n := k) (fun i σ' H' => Mid K st m H0 (5 + i) σ' H') ⟨tl, xs, ds, _, _, _, rfl, htl1, hne, adv.turn n1 b, by rw [hid2_upd1]; exact hall, htie, hlen, hnew⟩ ?_ ?_
  · rintro i σ' H' hi M'
    obtain ⟨tl, xs, ds, v4, v5, v6, rfl, htl, hne, adv, hall, htie, hlen, hnew⟩ := M'.ex
    obtain ⟨n, b, hst⟩ := adv.st
    have hm : 1 < m := hk1 (by omega)
    refine ⟨_, rfl, _, rfl, st, n, b, m, rfl, hst, by omega, by omega, fun one n2 o0 o1 => ?_⟩
    refine ⟨_, rfl, _, _, rfl, rfl, _, rfl, _, rfl, _, _, rfl, rfl, st, n2, b, m - 1, rfl, upd_same, by omega, by omega, fun r2 n3 p0 p1 => ?_⟩
    refine ⟨_, _, rfl, rfl, _, rfl, _, _, rfl, rfl, (show (0 : Int) < m by omega), ?_⟩
    have u2 : upd (upd H' st (.lst [.int n2, .bl b])) st (.lst [.int n3, .bl b]) = upd H' st (.lst [.int n3, .bl b]) := upd_upd
    have o2 : 0 ≤ (one + 1 + r2) % m := Int.emod_nonneg _ (by omega)
    have o3 : (one + 1 + r2) % m < m := Int.emod_lt_of_pos _ (by omega)
    have o4 : (one + 1 + r2) % m ≠ one := by
      by_cases hlt : one + 1 + r2 < m
      · rw [Int.emod_eq_of_lt (by omega) hlt]; omega
      · have : (one + 1 + r2) % m = one + 1 + r2 - m := by
          rw [← Int.sub_emod_right]
          exact Int.emod_eq_of_lt (by omega) (by omega)
        omega
    have htl2 : upd (upd H' st (.lst [.int n2, .bl b])) st (.lst [.int n3, .bl b]) tl = some (.lst xs) := by rw [u2, upd_ne hne]; exact htl
    refine ⟨_, rfl, .inl ⟨rfl, _, SqL.of htl2⟩, _, rfl, _, rfl, _, _, rfl, _, rfl, _, rfl, _, _, rfl, small64 (by show 2 ≤ 64; decide), fun p hp => ?_⟩
    have hptl : p ≠ tl := fun z => by rw [z, htl2] at hp; cases hp
    have hpst : p ≠ st := fun z => by rw [z, upd_same] at hp; cases hp
    refine ⟨tl, xs, _, rfl, rfl, by rw [upd_ne hptl.symm]; exact htl2, Nat.lt_of_le_of_lt (m := 64) (by omega) (by decide), ?_⟩
    rw [u2] at hp htl2 ⊢
    have adv2 : Adv st H0 (upd (upd H' st (.lst [.int n3, .bl b])) p (.tup [.int (if (one + 1 + r2) % m < one then (one + 1 + r2) % m else one), .int (if (one + 1 + r2) % m > one then (one + 1 + r2) % m else one)])) := (adv.turn n3 b).new _ hp
    refine ⟨tl, _, ds ++ [.tup [.int (if (one + 1 + r2) % m < one then (one + 1 + r2) % m else one), .int (if (one + 1 + r2) % m > one then (one + 1 + r2) % m else one)]], _, _, _, rfl, upd_same, hne, ⟨fun c o hc e => ?_, ?_⟩, ?_, fun d hd => ?_, ?_, hnew⟩
    · rw [upd_ne (ne_of_none e hnew)]; exact adv2.same c o hc e
    · obtain ⟨n9, b9, e9⟩ := adv2.st
      exact ⟨n9, b9, by rw [upd_ne hne.symm]; exact e9⟩
    · rw [hid2_upd2]
      refine HasAll.append (HasAll.same (fun c o e => ?_) hall) (.cons (.tup (SqT.of (hid2_get upd_same hpst hptl)) (.cons (.int _) (.cons (.int _) .nil))) .nil)
      rw [← hid2_upd1 st tl H' (.lst [.int n3, .bl b])] at e
      exact hid2_mono (Same.new _ hp) c o e
    · rcases List.mem_append.mp hd with hd | hd
      · exact htie d hd
      · have hd' : d = .tup [.int (if (one + 1 + r2) % m < one then (one + 1 + r2) % m else one), .int (if (one + 1 + r2) % m > one then (one + 1 + r2) % m else one)] := by simpa using hd
        rw [hd', tieD_eq]
        generalize (one + 1 + r2) % m = z at o2 o3 o4
        by_cases hz : z < one
        · rw [if_pos hz, if_neg (by omega)]; simp; omega
        · rw [if_neg hz, if_pos (by omega)]; simp; omega
    · rw [List.length_append]; show xs.length + 1 ≤ _; omega
  · rintro σ' H' M'
    obtain ⟨tl, xs, ds, v4, v5, v6, rfl, htl, hne, adv, hall, htie, hlen, hnew⟩ := M'.ex
    refine ⟨_, rfl, _, rfl, _, rfl, _, rfl, tl, xs, rfl, SqL.of htl, fun l hl => ?_⟩
    have e1 : cutV xs none (some 8) = xs.take 8 := by
      unfold cutV
      have : HT.sIx xs.length xs.length (some 8) = min 8 xs.length := HT.sIx_nat xs.length xs.length 8
      rw [this, HT.sIx_none, List.drop_zero, Nat.sub_zero]
      rcases Nat.le_total 8 xs.length with h | h
      · rw [Nat.min_eq_left h]
      · rw [Nat.min_eq_right h, List.take_length, List.take_of_length_le h]
    rw [e1]
    have s1 : Same H' (upd H' l (.lst (xs.take 8))) := Same.new _ hl
    have hall8 : HasAll K (hid2 st tl H') (ds.take 8) (xs.take 8) := hall.take 8
    have htie8 : ∀ d ∈ ds.take 8, tieD m d = true := fun d hd => htie d (List.mem_of_mem_take hd)
    have hh : Same (hid2 st tl H') H' := (hid2_same st tl H').trans (hide_same st H')
    have hk8' := keysV_of (m := m) (hall8.same hh) htie8
    refine ⟨l, _, _, rfl, .inl (SqL.of upd_same), by rw [List.length_take]; omega, hk8'.same s1, fun p l2 hp hl2 => ?_⟩
    have hpl : ∀ i ∈ p, i < (xs.take 8).length := fun i hi => by
      have := hp.1.mem_iff.mp hi
      rw [hk8'.length]; simpa using this
    refine ⟨l2, _, rfl, .inl ⟨SqL.of upd_same, fun l3 hl3 => ⟨small64 (by show 2 ≤ 64; decide), fun l4 hl4 => ?_⟩⟩⟩
    have n2 : upd H' l (.lst (xs.take 8)) l2 = none := hl2
    have a1 := adv.new (.lst (xs.take 8)) hl
    have a2 := a1.new (.lst (p.map fun i => (xs.take 8).getD i .non)) hl2
    have a3 := a2.new (.tup (p.map fun i => (xs.take 8).getD i .non)) hl3
    have a4 := a3.new (.tup [.int m, .ref l3]) hl4
    have sAll : Same H' (upd (upd (upd (upd H' l (.lst (xs.take 8))) l2 (.lst (p.map fun i => (xs.take 8).getD i .non))) l3 (.tup (p.map fun i => (xs.take 8).getD i .non))) l4 (.tup [.int m, .ref l3])) := ((s1.trans (Same.new _ hl2)).trans (Same.new _ hl3)).trans (Same.new _ hl4)
    obtain ⟨n9, b9, e9⟩ := a3.st
    have l4st : l4 ≠ st := fun z => by rw [z, e9] at hl4; cases hl4
    obtain ⟨n8, b8, e8⟩ := a2.st
    have l3st : l3 ≠ st := fun z => by rw [z, e8] at hl3; cases hl3
    have l34 : l3 ≠ l4 := fun z => by rw [← z, upd_same] at hl4; cases hl4
    have hallp := pick_has hall8 hpl
    have hs4 : Same (hid2 st tl H') (hide st (upd (upd (upd (upd H' l (.lst (xs.take 8))) l2 (.lst (p.map fun i => (xs.take 8).getD i .non))) l3 (.tup (p.map fun i => (xs.take 8).getD i .non))) l4 (.tup [.int m, .ref l3]))) := (hid2_mono sAll).trans (hid2_same st tl _)
    have keyEq : (p.map fun i => (ds.take 8).getD i .non).map keyD = p.map fun i => ((ds.take 8).map keyD).getD i [] := by
      rw [List.map_map]
      refine List.map_congr_left fun i hi => ?_
      have hil : i < (ds.take 8).length := by have := hpl i hi; rw [hall8.length] at this; exact this
      show keyD ((ds.take 8).getD i .non) = ((ds.take 8).map keyD).getD i []
      rw [List.getD_eq_getElem?_getD, List.getD_eq_getElem?_getD, List.getElem?_map, List.getElem?_eq_getElem hil]; rfl
    refine q _ (p.map fun i => (ds.take 8).getD i .non) _ a4 ⟨hm1, hm6, ?_, fun t ht => ?_, ?_⟩ ?_
    · rw [List.length_map, hp.1.length_eq, List.length_range, List.length_map, List.length_take]; omega
    · obtain ⟨i, hi, rfl⟩ := List.mem_map.mp ht
      have hil : i < (ds.take 8).length := by have := hpl i hi; rw [hall8.length] at this; exact this
      refine htie8 _ ?_
      rw [List.getD_eq_getElem?_getD, List.getElem?_eq_getElem hil]
      exact List.getElem_mem hil
    · refine pair_chain _ ?_
      rw [keyEq]; exact hp.2
    · refine .tup (SqT.of (hide_get upd_same l4st)) (.cons (.int m) (.cons (.tup (SqT.of (hide_get ((upd_ne l34).trans upd_same) l3st)) (hallp.same hs4)) .nil))
theorem ok_draw {f : Addr} {fd : FuncData} (F : Fun K "_law_web" "_law_web" sDraw f fd) (T : Txt mg) (TK : Fn P w K mg base 1 "_law_take" ["_law_state_here", "_law_many"] spTake) : FnOk P w K mg base CX0 2 f fd ["_law_state_here", "_law_most"] (spDraw K) := by
  refine F.ok sc12 (fun vs H Q E h => ?_) (fun cdv A outer s H vs Q E hr h => ?_)
  · obtain ⟨st, n, b, rfl, _⟩ := h; rfl
  · obtain ⟨st, n, b, rfl, hst, q⟩ := h
    obtain ⟨t3, pt3, rd3⟩ := draw_tail (cdv := cdv) (A := A) (outer := outer) (s := s) (H := H) (E := E) (f := f) T TK hr
    obtain ⟨fT, fdT, mT, kT, bT, GT⟩ := TK.ex
    refine ⟨_, pss_cons (ps_set (i := 2) sc12.nd rfl (Or.inl rfl) (pe_ix ix_list (pe_lst (pa_cons pe_int (pa_cons pe_int (pa_cons pe_int (pa_cons pe_int (pa_cons pe_int (pa_cons pe_int (pa_cons pe_int (pa_cons pe_int pa_nil))))))))) (pe_call GT hr rfl mT kT bT .nil pass0 (pa_cons (pv 0) (pa_cons pe_int pa_nil))) (fun _ _ => rfl)))
      (pss_cons (ps_set (i := 3) sc12.nd rfl (Or.inl rfl) (pe_lst pa_nil))
      (pss_cons (ps_if (PW.pt (pw_and (pt_cmpR op_gt (pv 2) pe_int (nomark _)) (pw_and1 (pt_cmpR op_gt (pe_call GT hr rfl mT kT bT .nil pass0 (pa_cons (pv 0) (pa_cons pe_int pa_nil))) pe_int (nomark _)))))
        (pss_one (ps_setC (i := 3) (own := ["_law_place"]) (capt := [("_law_state_here", 0)]) sc12.nd rfl (Or.inl rfl) rfl rfl (by exact CompSc.of (scX := defScope sDraw) (N := nDraw) rfl rfl (by decide +kernel)) (pi_range2 rfl T.range (pa_cons pe_int (pa_cons (pv 2) pa_nil)))
          (fun cl C s H fp => pg_name (i := 0) nd12 rfl (Or.inl rfl)) (fun cl C s H fp => pts_nil) (fun cl C s H fp => pe_tup (pa_cons (pe_call GT hr rfl mT kT bT .nil pass0 (pa_cons (pv 1) (pa_cons (pv 0) pa_nil))) (pa_cons (pv 0) pa_nil))))) pss_nil)
      pt3)), ?_⟩
    refine ⟨small64 (by show 8 ≤ 64; decide), fun l hl => ?_⟩
    have lst : l ≠ st := fun z => by rw [z, hst] at hl; cases hl
    refine ⟨_, rfl, st, n, b, 8, rfl, by rw [upd_ne lst.symm]; exact hst, by decide, by decide, fun r n1 r0 r8 => ?_⟩
    obtain ⟨m, em, hm1, hm6⟩ := many_at r r0 r8
    refine ⟨l, _, r, .int m, rfl, rfl, SqL.of (by rw [upd_ne lst]; exact upd_same), em, ?_⟩
    have a1 : Adv st H (upd (upd H l (.lst [V.int 6, .int 5, .int 4, .int 3, .int 4, .int 5, .int 2, .int 1])) st (.lst [.int n1, .bl b])) := ((Adv.refl ⟨n, b, hst⟩).new _ hl).turn n1 b
    refine ⟨small64 (by show 0 ≤ 64; decide), fun tl htl => ?_⟩
    have tlst : tl ≠ st := fun z => by rw [z, upd_same] at htl; cases htl
    have Htl : H tl = none := by
      cases z : H tl with
      | none => rfl
      | some o => rw [a1.same tl o tlst z] at htl; cases htl
    have a2 := a1.new (.lst []) htl
    obtain ⟨n2, b2, e2⟩ := a2.st
    have fin : ∀ (D : Ends) (σ : St) (H3 : Hp), D.rt = Q → Mid K st m H 5 σ H3 → t3 D σ H3 := fun D σ H3 eD M => rd3 D σ st m H H3 hm1 hm6 M (fun v ts H' a g hh => by rw [eD]; exact q v m ts H' a g hh)
    refine ⟨_, rfl, _, _, rfl, rfl, _, rfl, ?_⟩
    refine ite2 (fun h1 => ?_) (fun h1 => ?_)
    · have hm : 1 < m := of_decide_eq_true h1
      refine ⟨_, rfl, st, n2, b2, 5, rfl, e2, by decide, by decide, fun r5 n3 p0 p5 => ?_⟩
      have a3 := a2.turn n3 b2
      refine ⟨_, _, rfl, rfl, _, rfl, ?_⟩
      refine ite2 (fun h5 => ?_) (fun h5 => ?_)
      · -- a tie from each place to one ahead of it
        refine ⟨_, rfl, 1, m, rfl, ⟨by decide, by decide, by omega, by omega⟩, comp_rng (lo := 1) (n := (m - 1).toNat) (fun i ys H' => Adv st H H' ∧ H' tl = some (.lst []) ∧ ∃ ds, HasAll K (hid2 st tl H') ds ys ∧ (∀ d ∈ ds, tieD m d = true) ∧ ys.length = i) (small64 (by omega))
          ⟨a3, by rw [upd_ne tlst]; exact upd_same, [], .nil, fun d hd => by simp at hd, rfl⟩ (fun i ys H' p => by obtain ⟨_, _, ds, _, _, e⟩ := p; omega) ?_ ?_⟩
        · rintro i ys H' hi ⟨adv, htl', ds, hall, htie, hlen⟩
          obtain ⟨n4, b4, e4⟩ := adv.st
          refine gN (ttYes_of ?_)
          refine iteT ?_
          refine ⟨_, rfl, _, rfl, st, n4, b4, 1 + (i : Int), rfl, e4, by omega, by omega, fun r6 n5 s0 s1 => ?_⟩
          refine ⟨_, rfl, small64 (by show 2 ≤ 64; decide), fun p hp => ?_⟩
          have hpst : p ≠ st := fun z => by rw [z, upd_same] at hp; cases hp
          have hptl : p ≠ tl := fun z => by rw [z, upd_ne tlst, htl'] at hp; cases hp
          refine ⟨(adv.turn n5 b4).new _ hp, by rw [upd_ne hptl.symm, upd_ne tlst]; exact htl', ds ++ [.tup [.int r6, .int (1 + (i : Int))]], ?_, fun d hd => ?_, by rw [List.length_append, hlen]; rfl⟩
          · refine HasAll.append (HasAll.same (fun c o e => ?_) hall) (.cons (.tup (SqT.of (hid2_get upd_same hpst hptl)) (.cons (.int _) (.cons (.int _) .nil))) .nil)
            rw [← hid2_upd1 st tl H' (.lst [.int n5, .bl b4])] at e
            exact hid2_mono (Same.new _ hp) c o e
          · rcases List.mem_append.mp hd with hd | hd
            · exact htie d hd
            · have hd' : d = .tup [.int r6, .int (1 + (i : Int))] := by simpa using hd
              rw [hd', tieD_eq]; simp; omega
        · rintro ys H' p ⟨adv, htl', ds, hall, htie, hlen⟩ hp
          have hpst : p ≠ st := fun z => by obtain ⟨n4, b4, e4⟩ := adv.st; rw [z, e4] at hp; cases hp
          have Hp : H p = none := by
            cases z : H p with
            | none => rfl
            | some o => rw [adv.same p o hpst z] at hp; cases hp
          refine fin _ _ _ rfl ⟨p, ys, ds, _, _, _, rfl, upd_same, hpst, adv.new _ hp, ?_, htie, by omega, Hp⟩
          -- elements are tuples, none of them at p or tl
          refine HasAll.same (fun c o e => ?_) hall
          have hc : c ≠ st ∧ c ≠ tl ∧ H' c = some o := by
            unfold hid2 at e
            split at e
            · cases e
            · rename_i hn; exact ⟨fun z => hn (.inl z), fun z => hn (.inr z), e⟩
          have hcp : c ≠ p := ne_of_none hc.2.2 hp
          exact hid2_get (by rw [upd_ne hcp]; exact hc.2.2) hc.1 hcp
      · refine fin _ _ _ rfl ⟨tl, [], [], _, _, _, rfl, by rw [upd_ne tlst]; exact upd_same, tlst, a3, .nil, fun d hd => by simp at hd, by simp, Htl⟩
    · refine fin _ _ _ rfl ⟨tl, [], [], _, _, _, rfl, upd_same, tlst, a2, .nil, fun d hd => by simp at hd, by simp, Htl⟩
end
end K3

namespace K3
open PySem L2
/-! ### displays: one reading for all of them -/
inductive Kd where
  | int (b : Nat) | tup (b : Nat) | any | pr
def valK (K : PySem.W.Frag) (st : Addr) : Kd → Hp → V → Prop
  | .int b, _, v => ∃ i : Int, v = .int i ∧ i.natAbs ≤ b
  | .tup b, H, v => ∃ a xs ds, v = .ref a ∧ SqT K (hide st H) a xs ∧ HasAll K (hide st H) ds xs ∧ xs.length ≤ b
  | .any, H, v => Any K (hide st H) v
  | .pr, H, v => ∃ (a : Addr) (t b : Int), v = .ref a ∧ SqT K (hide st H) a [.int t, .int b] ∧ 0 ≤ t ∧ t ≤ 1000 ∧ 1 ≤ b ∧ b ≤ 1000
abbrev Nms := List (Str × Nat × Kd)
/-- the draws' state stands; the names have things of their kinds -/
structure Pr (K : PySem.W.Frag) (st : Addr) (nm : Nms) (σ : St) (H : Hp) : Prop where
  stt : ∃ n b, H st = some (.lst [.int n, .bl b])
  nms : ∀ p ∈ nm, ∃ v, σ[p.2.1]? = some (some v) ∧ valK K st p.2.2 H v
structure NmOk (X : Cx) (nm : Nms) : Prop where
  ok : ∀ p ∈ nm, X.N[p.2.1]? = some p.1 ∧ Vis X.env.scope p.1 ∧ (p.1 == ("__debug__" : Str)) = false ∧ (p.1 == ("__classdict__" : Str)) = false
/-- the two types that are called -/
structure TyOk (X : Cx) : Prop where
  list : Gl X "list" ∧ X.mg "list" = none
def tK (K : PySem.W.Frag) (st : Addr) (nm : Nms) (k : Kd) : TE := fun σ H Q => Pr K st nm σ H ∧ ∀ v H', Same H H' → valK K st k H' v → Q v H'
def tKs (K : PySem.W.Frag) (st : Addr) (nm : Nms) (n : Nat) : TA := fun σ H Q => Pr K st nm σ H ∧ ∀ xs ds H', Same H H' → HasAll K (hide st H') ds xs → xs.length = n → Q xs H'
def tKo (K : PySem.W.Frag) (st : Addr) (nm : Nms) : TO := fun σ H Q => Pr K st nm σ H ∧ ∀ i H', Same H H' → Q i H'
section
variable {X : Cx} {K : PySem.W.Frag} {st : Addr} {nm : Nms} {H H' : Hp} {e : Expr} {te t' : TE}
theorem hide_up (s : Same H H') : Same (hide st H) (hide st H') := hide_mono fun b o _ h => s b o h
theorem valK.same (s : Same H H') : ∀ {k : Kd} {v : V}, valK K st k H v → valK K st k H' v
  | .int _, _, h => h
  | .tup _, _, ⟨a, xs, ds, e, h1, h2, h3⟩ => ⟨a, xs, ds, e, (hide_up s).sqT h1, h2.same (hide_up s), h3⟩
  | .any, _, ⟨d, h⟩ => ⟨d, h.same (hide_up s)⟩
  | .pr, _, ⟨a, t, b, e, h1, h2⟩ => ⟨a, t, b, e, (hide_up s).sqT h1, h2⟩
theorem valK.any : ∀ {k : Kd} {v : V}, valK K st k H v → Any K (hide st H) v
  | .int _, _, ⟨i, e, _⟩ => ⟨.int i, by rw [e]; exact .int i⟩
  | .tup _, _, ⟨a, xs, ds, e, h1, h2, _⟩ => ⟨.tup ds, by rw [e]; exact .tup h1 h2⟩
  | .any, _, h => h
  | .pr, _, ⟨a, t, b, e, h1, _⟩ => ⟨.tup [.int t, .int b], by rw [e]; exact .tup h1 (.cons (.int t) (.cons (.int b) .nil))⟩
theorem Pr.same {σ : St} (h : Pr K st nm σ H) (s : Same H H') : Pr K st nm σ H' :=
  ⟨by obtain ⟨n, b, e⟩ := h.stt; exact ⟨n, b, s _ _ e⟩, fun p hp => by obtain ⟨v, e1, e2⟩ := h.nms p hp; exact ⟨v, e1, e2.same s⟩⟩
theorem Pr.ne {σ : St} {p : Addr} (h : Pr K st nm σ H) (n : H p = none) : p ≠ st := fun z => by obtain ⟨_, _, e⟩ := h.stt; rw [z, e] at n; cases n
theorem sq_hide {a : Addr} {xs : List V} (h : SqT K H a xs) (n : ∃ n b, H st = some (.lst [.int n, .bl b])) : SqT K (hide st H) a xs := by
  obtain ⟨k, b, e⟩ := n
  rcases h with (h | ⟨o, h⟩) | h
  · exact .inl (.inl (hide_get h fun z => by rw [z, e] at h; cases h))
  · exact .inl (.inr ⟨o, hide_get h fun z => by rw [z, e] at h; cases h⟩)
  · exact .inr h
theorem PE.le (h : PE X e te) (m : ∀ σ H Q, t' σ H Q → te σ H Q) : PE X e t' := fun pins s σ H Q I q => h pins s σ H Q I (m σ H Q q)
theorem PA.le {es : List Expr} {t t' : TA} (h : PA X es t) (m : ∀ σ H Q, t' σ H Q → t σ H Q) : PA X es t' := fun pos pins s σ H Q I q => h pos pins s σ H Q I (m σ H Q q)
theorem PO.le {e : Option Expr} {t t' : TO} (h : PO X e t) (m : ∀ σ H Q, t' σ H Q → t σ H Q) : PO X e t' := fun pins s σ H Q I q => h pins s σ H Q I (m σ H Q q)
theorem k_any {k : Kd} (h : PE X e (tK K st nm k)) : PE X e (tK K st nm .any) := PE.le h fun σ H Q ⟨p, q⟩ => ⟨p, fun v H' s w => q v H' s w.any⟩
theorem ks_nil : PA X [] (tKs K st nm 0) := PA.le pa_nil fun σ H Q ⟨_, q⟩ => q [] [] H (Same.refl H) .nil rfl
theorem ks_cons {es : List Expr} {k : Kd} {n : Nat} (h : PE X e (tK K st nm k)) (r : PA X es (tKs K st nm n)) (hs : starEach (e :: es) X.env = (false, eval e X.env) :: starEach es X.env) : PA X (e :: es) (tKs K st nm (n + 1)) :=
  PA.le (pa_cons (k_any h) r hs) fun σ H Q ⟨p, q⟩ => ⟨p, fun v H1 s1 w => ⟨p.same s1, fun xs ds H2 s2 a l => by
    obtain ⟨d, hd⟩ := w
    exact q (v :: xs) (d :: ds) H2 (s1.trans s2) (.cons (hd.same (hide_up s2)) a) (by rw [List.length_cons, l])⟩⟩
theorem k_tup {es : List Expr} {n : Nat} {x1 pos} (h : PA X es (tKs K st nm n)) (hz : n ≤ sizeLine) : PE X (.Tuple es x1 pos) (tK K st nm (.tup n)) :=
  PE.le (pe_tup h) fun σ H Q ⟨p, q⟩ => ⟨p, fun xs ds H1 s1 a l => ⟨by rw [l]; exact hz, fun b hb => by
    have s2 := Same.new (.tup xs) hb
    exact q _ _ (s1.trans s2) ⟨b, xs, ds, rfl, SqT.of (hide_get upd_same ((p.same s1).ne hb)), a.same (hide_up s2), by omega⟩⟩⟩
/-- a list that one may change -/
def tL (K : PySem.W.Frag) (st : Addr) (nm : Nms) (n : Nat) : TE := fun σ H Q => Pr K st nm σ H ∧ ∀ l xs ds H0, Same H H0 → H0 l = none → HasAll K (hide st H0) ds xs → xs.length = n → Q (.ref l) (upd H0 l (.lst xs))
theorem k_l {es : List Expr} {n : Nat} {pos} (h : PA X es (tKs K st nm n)) (hz : n ≤ sizeLine) : PE X (.List es pos) (tL K st nm n) :=
  PE.le (pe_lst h) fun σ H Q ⟨p, q⟩ => ⟨p, fun xs ds H1 s1 a l => ⟨by rw [l]; exact hz, fun b hb => q b xs ds H1 s1 hb a l⟩⟩
theorem k_lst {es : List Expr} {n : Nat} {pos} (h : PA X es (tKs K st nm n)) (hz : n ≤ sizeLine) : PE X (.List es pos) (tK K st nm .any) :=
  PE.le (k_l h hz) fun σ H Q ⟨p, q⟩ => ⟨p, fun l xs ds H1 s1 hb a _ => by
    have s2 := Same.new (.lst xs) hb
    exact q _ _ (s1.trans s2) ⟨.lst ds, .lst (SqL.of (hide_get upd_same ((p.same s1).ne hb))) (a.same (hide_up s2))⟩⟩
theorem k_dict {pos} : PE X (.Dict [] [] pos) (tK K st nm .any) :=
  PE.le pe_dnew fun σ H Q ⟨p, q⟩ => fun b hb => q _ _ (Same.new _ hb) ⟨.dct, .dct (hide_get upd_same (p.ne hb))⟩
theorem k_c {c : V} {k : Kd} (h : PE X e (tC c)) (w : ∀ H, valK K st k H c) : PE X e (tK K st nm k) := PE.le h fun σ H Q ⟨_, q⟩ => q _ H (Same.refl H) (w H)
theorem k_name {x : Str} {i : Nat} {k : Kd} {pos} (o : NmOk X nm) (hp : (x, i, k) ∈ nm) : PE X (.Name x pos) (tK K st nm k) := by
  obtain ⟨h1, h2, h3, h4⟩ := o.ok _ hp
  exact PE.le (pe_var h1 h2 h3 h4) fun σ H Q ⟨p, q⟩ => by
    obtain ⟨v, e1, e2⟩ := p.nms _ hp
    exact ⟨v, e1, q v H (Same.refl H) e2⟩
theorem k_neg {i : Int} {j pos p2} : PE X (.UnaryOp .USub (.Constant (.int i) j p2) pos) (tK K st nm (.int i.natAbs)) :=
  PE.le (pe_un un_neg pe_int) fun σ H Q ⟨_, q⟩ => ⟨i, rfl, q _ H (Same.refl H) ⟨-i, rfl, by omega⟩⟩
theorem k_add {a b : Expr} {m n : Nat} {pos} (ha : PE X a (tK K st nm (.int m))) (hb : PE X b (tK K st nm (.int n))) : PE X (.BinOp a .Add b pos) (tK K st nm (.int (m + n))) :=
  PE.le (pe_op op_add ha hb) fun σ H Q ⟨p, q⟩ => ⟨p, fun v H1 s1 ⟨i, e1, b1⟩ => ⟨p.same s1, fun u H2 s2 ⟨j, e2, b2⟩ => ⟨i, j, e1, e2, q _ H2 (s1.trans s2) ⟨i + j, rfl, by omega⟩⟩⟩⟩
theorem k_sub {a b : Expr} {m n : Nat} {pos} (ha : PE X a (tK K st nm (.int m))) (hb : PE X b (tK K st nm (.int n))) : PE X (.BinOp a .Sub b pos) (tK K st nm (.int (m + n))) :=
  PE.le (pe_op op_sub ha hb) fun σ H Q ⟨p, q⟩ => ⟨p, fun v H1 s1 ⟨i, e1, b1⟩ => ⟨p.same s1, fun u H2 s2 ⟨j, e2, b2⟩ => ⟨i, j, e1, e2, q _ H2 (s1.trans s2) ⟨i - j, rfl, by omega⟩⟩⟩⟩
theorem k_cat {a b : Expr} {m n : Nat} {pos} (hK : X.K = K) (hz : m + n ≤ sizeLine) (ha : PE X a (tK K st nm (.tup m))) (hb : PE X b (tK K st nm (.tup n))) : PE X (.BinOp a .Add b pos) (tK K st nm (.tup (m + n))) := by
  subst hK
  exact PE.le (pe_op op_catG ha hb) fun σ H Q ⟨p, q⟩ => ⟨p, fun v H1 s1 ⟨a1, xs, ds, e1, t1, h1, l1⟩ => ⟨p.same s1, fun u H2 s2 ⟨a2, ys, es, e2, t2, h2, l2⟩ =>
    ⟨a1, a2, xs, ys, e1, e2, (hide_same st H2).sqT ((hide_up s2).sqT t1), (hide_same st H2).sqT t2, by omega, fun r H3 s3 t3 => q _ H3 ((s1.trans s2).trans s3)
      ⟨r, xs ++ ys, ds ++ es, rfl, sq_hide t3 (p.same ((s1.trans s2).trans s3)).stt, (h1.same (hide_up (s2.trans s3))).append (h2.same (hide_up s3)), by rw [List.length_append]; omega⟩⟩⟩⟩
theorem len_reps {α : Type} (n : Nat) (xs : List α) : (List.replicate n xs).flatten.length = n * xs.length := by simp
theorem k_mul {a : Expr} {m : Nat} {j pos p2} (hK : X.K = K) (hz : 9 * m ≤ sizeLine) (ha : PE X a (tK K st nm (.tup m))) : PE X (.BinOp a .Mult (.Constant (.int 9) j p2) pos) (tK K st nm (.tup (9 * m))) := by
  subst hK
  exact PE.le (pe_op op_mulT ha pe_int) fun σ H Q ⟨p, q⟩ => ⟨p, fun v H1 s1 ⟨a1, xs, ds, e1, t1, h1, l1⟩ =>
    ⟨a1, 9, xs, e1, rfl, (hide_same st H1).sqT t1, by decide, by decide, by show 9 * xs.length ≤ sizeLine; omega, fun r H3 s3 t3 => q _ H3 (s1.trans s3)
      ⟨r, _, (List.replicate 9 ds).flatten, rfl, sq_hide t3 (p.same (s1.trans s3)).stt, HasAll.rep (h1.same (hide_up s3)) 9, by rw [len_reps]; show 9 * xs.length ≤ 9 * m; omega⟩⟩⟩
theorem ko_none : PO X none (tKo K st nm) := PO.le po_none fun σ H Q ⟨_, q⟩ => q none H (Same.refl H)
theorem ko_some {m : Nat} (h : PE X e (tK K st nm (.int m))) : PO X (some e) (tKo K st nm) := PO.le (po_some h) fun σ H Q ⟨p, q⟩ => ⟨p, fun v H1 s1 ⟨i, e1, _⟩ => ⟨i, e1, q (some i) H1 s1⟩⟩
theorem has_cut {ds : List D} {xs : List V} (h : HasAll K H ds xs) (lo hi : Option Int) : ∃ es, HasAll K H es (cutV xs lo hi) := ⟨_, (h.drop _).take _⟩
theorem k_cut {a : Expr} {lo hi : Option Expr} {m : Nat} {pos p2} (hK : X.K = K) (ha : PE X a (tK K st nm (.tup m))) (hl : PO X lo (tKo K st nm)) (hh : PO X hi (tKo K st nm)) : PE X (.Subscript a (.Slice lo hi none p2) pos) (tK K st nm (.tup m)) := by
  subst hK
  exact PE.le (pe_slice sl_tupG ha hl hh) fun σ H Q ⟨p, q⟩ => ⟨p, fun v H1 s1 ⟨a1, xs, ds, e1, t1, h1, l1⟩ => ⟨p.same s1, fun i H2 s2 => ⟨p.same (s1.trans s2), fun j H3 s3 =>
    ⟨a1, xs, e1, (hide_same st H3).sqT ((hide_up (s2.trans s3)).sqT t1), fun r H4 s4 t4 => by
      obtain ⟨es, he⟩ := has_cut (h1.same (hide_up ((s2.trans s3).trans s4))) i j
      have s5 := s1.trans ((s2.trans s3).trans s4)
      exact q _ H4 s5 ⟨r, _, es, rfl, sq_hide t4 (p.same s5).stt, he, Nat.le_trans (cutV_length xs i j) l1⟩⟩⟩⟩⟩
theorem k_rev {x : Str} {m : Nat} {p0 pos p2 p3 p4 j} (hK : X.K = K) (ha : PE X (.Name x p0) (tK K st nm (.tup m))) : PE X (.Subscript (.Name x p0) (.Slice none none (some (.UnaryOp .USub (.Constant (.int 1) j p4) p3)) p2) pos) (tK K st nm (.tup m)) := by
  subst hK
  exact PE.le (pe_rev ha (pe_un un_neg pe_int)) fun σ H Q ⟨p, q⟩ => ⟨p, fun v H1 s1 ⟨a1, xs, ds, e1, t1, h1, l1⟩ =>
    ⟨1, rfl, rfl, a1, xs, e1, (hide_same st H1).sqT t1, fun r H4 s4 t4 => q _ H4 (s1.trans s4) ⟨r, _, ds.reverse, rfl, sq_hide t4 (p.same (s1.trans s4)).stt, (h1.same (hide_up s4)).reverse, by rw [List.length_reverse]; exact l1⟩⟩⟩
theorem k_list {a : Expr} {m : Nat} {p0 pos} (hK : X.K = K) (o : TyOk X) (ha : PE X a (tK K st nm (.tup m))) (hs : starEach [a] X.env = (false, eval a X.env) :: starEach [] X.env) : PE X (.Call (.Name "list" p0) [a] [] pos) (tK K st nm .any) := by
  subst hK
  exact PE.le (pe_callTy call_list_of o.list.1 o.list.2 b_list (pa_cons ha pa_nil hs) (he := hs)) fun σ H Q ⟨p, q⟩ => ⟨p, fun v H1 s1 ⟨a1, xs, ds, e1, t1, h1, l1⟩ =>
    ⟨a1, xs, by rw [e1], .inr ((hide_same st H1).sqT t1), fun l hl => by
      have s2 := Same.new (.lst xs) hl
      exact q _ _ (s1.trans s2) ⟨.lst ds, .lst (SqL.of (hide_get upd_same ((p.same s1).ne hl))) (h1.same (hide_up s2))⟩⟩⟩
theorem k_pr (h : PE X e (tK K st nm .pr)) : PE X e (tK K st nm (.tup 2)) := PE.le h fun σ H Q ⟨p, q⟩ => ⟨p, fun v H' s ⟨a, t, b, e1, h1, _⟩ => q v H' s ⟨a, _, [.int t, .int b], e1, h1, .cons (.int t) (.cons (.int b) .nil), Nat.le_refl _⟩⟩
theorem k_ix {x : Str} {i : Int} {p0 p1 pos : Pos} {j : Nat} (hK : X.K = K) (ha : PE X (.Name x p0) (tK K st nm .pr)) (hi : i = 0 ∨ i = 1) : PE X (.Subscript (.Name x p0) (.Constant (.int i) j p1) pos) (tK K st nm (.int 1000)) := by
  subst hK
  exact PE.le (pe_ix ix_tup ha pe_int (fun _ _ => rfl)) fun σ H Q ⟨p, q⟩ => ⟨p, fun v H1 s1 ⟨a, t, b, e1, h1, b1, b2, b3, b4⟩ => by
    rcases hi with rfl | rfl
    · exact ⟨a, _, 0, .int t, e1, rfl, (hide_same st H1).sqT h1, rfl, q _ H1 s1 ⟨t, rfl, by omega⟩⟩
    · exact ⟨a, _, 1, .int b, e1, rfl, (hide_same st H1).sqT h1, rfl, q _ H1 s1 ⟨b, rfl, by omega⟩⟩⟩
theorem k_dbl {b : Expr} {n : Nat} {j p1 pos} (hb : PE X b (tK K st nm (.int n))) : PE X (.BinOp (.Constant (.int 2) j p1) .Mult b pos) (tK K st nm (.int (2 * n))) :=
  PE.le (pe_op op_mul pe_int hb) fun σ H Q ⟨p, q⟩ => ⟨p, fun v H1 s1 ⟨i, e1, b1⟩ => ⟨2, i, rfl, e1, .inl ⟨by decide, by decide⟩, q _ H1 s1 ⟨2 * i, rfl, by omega⟩⟩⟩
theorem k_pow {j1 j2 p1 p2 pos} : PE X (.BinOp (.Constant (.int 10) j1 p1) .Pow (.Constant (.int 29) j2 p2) pos) (tK K st nm (.int (10 ^ 29))) :=
  PE.le (pe_op op_pow pe_int pe_int) fun σ H Q ⟨_, q⟩ => ⟨10, 29, rfl, rfl, ⟨by decide, by decide, by decide⟩, q _ H (Same.refl H) ⟨_, rfl, by decide⟩⟩
end
end K3

namespace K3
open PySem L2
def conK : Const → Option Kd
  | .int i => some (.int i.natAbs)
  | .bool _ => some .any
  | .none => some .any
  | .str _ => some .any
  | _ => Option.none
def addK : Option Kd → Option Kd → Option Kd
  | some (.int p), some (.int q) => some (.int (p + q))
  | some (.tup p), some (.tup q) => if p + q ≤ 1000 then some (.tup (p + q)) else none
  | _, _ => none
def subK : Option Kd → Option Kd → Option Kd
  | some (.int p), some (.int q) => some (.int (p + q))
  | _, _ => none
def mulK : Option Kd → Int → Option Kd
  | some (.tup p), i => if i = 9 ∧ 9 * p ≤ 1000 then some (.tup (9 * p)) else none
  | _, _ => none
def cutK : Option Kd → Option Kd → Option Kd → Option Kd
  | some (.tup p), some (.int _), some (.int _) => some (.tup p)
  | _, _, _ => none
def partK (f : Expr → Option Kd) : Option Expr → Option Kd
  | none => some (.int 0)
  | some e => f e
def revK : Option Kd → Int → Option Kd
  | some (.tup p), i => if i = 1 then some (.tup p) else none
  | _, _ => none
def callK (x : Str) : Option Kd → Option Kd
  | some (.tup _) => if x = "list" then some .any else none
  | _ => none
def asT : Option Kd → Option Kd
  | some .pr => some (.tup 2)
  | k => k
def ixK : Option Kd → Int → Option Kd
  | some .pr, i => if i = 0 ∨ i = 1 then some (.int 1000) else none
  | _, _ => none
def dblK : Int → Option Kd → Option Kd
  | i, some (.int n) => if i = 2 then some (.int (2 * n)) else none
  | _, _ => none
def constI : Const → Option Int
  | .int i => some i
  | _ => none
def intC : Expr → Option Int
  | .Constant k _ _ => constI k
  | _ => none
def nameC : Expr → Bool
  | .Name _ _ => true
  | _ => false
def usubC : UnaryOp → Bool
  | .USub => true
  | _ => false
def negC : Expr → Option Int
  | .UnaryOp op e _ => if usubC op = true then intC e else none
  | _ => none
def dictK (ks : List (Option Expr)) (vs : List Expr) : Option Kd := if ks.isEmpty = true ∧ vs.isEmpty = true then some .any else none
def mulX (r : Expr → Option Kd) (a b : Expr) : Option Kd := match intC b with
  | some i => mulK (asT (r a)) i
  | none => match intC a with
    | some i => dblK i (r b)
    | none => none
def binK (r : Expr → Option Kd) (a b : Expr) : Operator → Option Kd
  | .Add => addK (asT (r a)) (asT (r b))
  | .Sub => subK (r a) (r b)
  | .Mult => mulX r a b
  | .Pow => if intC a = some 10 ∧ intC b = some 29 then some (.int (10 ^ 29)) else none
  | _ => none
def stepK (r : Expr → Option Kd) (a : Expr) (lo hi : Option Expr) : Option Expr → Option Kd
  | none => cutK (asT (r a)) (partK r lo) (partK r hi)
  | some e => if nameC a = true ∧ lo.isNone = true ∧ hi.isNone = true then (negC e).bind fun i => revK (asT (r a)) i else none
def subsK (r : Expr → Option Kd) (a : Expr) : Expr → Option Kd
  | .Slice lo hi st _ => stepK r a lo hi st
  | .Constant k _ _ => if nameC a = true then (constI k).bind fun i => ixK (r a) i else none
  | _ => none
def argK : List Expr → Option Expr
  | [a] => some a
  | _ => none
def callX (r : Expr → Option Kd) (as : List Expr) (kw : Bool) : Expr → Option Kd
  | .Name x _ => if kw = true then (argK as).bind fun a => callK x (asT (r a)) else none
  | _ => none
/-- of what kind an expression is, where it is a plain one; r: the same for its parts -/
def kdS (c : Bool) (nm : Nms) (r : Expr → Option Kd) : Expr → Option Kd
  | .Constant k _ _ => conK k
  | .Name x _ => (nm.find? fun p => decide (p.1 = x)).map fun p => p.2.2
  | .Tuple es _ _ => if es.all (fun e => (r e).isSome) = true ∧ es.length ≤ 100 then some (.tup es.length) else none
  | .List es _ => if es.all (fun e => (r e).isSome) = true ∧ es.length ≤ 100 then some .any else none
  | .Dict ks vs _ => dictK ks vs
  | .UnaryOp op e _ => if usubC op = true then (intC e).map fun i => .int i.natAbs else none
  | .BinOp a op b _ => binK r a b op
  | .Subscript a s _ => subsK r a s
  | .Call f as kw _ => if c = true then callX r as kw.isEmpty f else none
  | _ => none
def kd (c : Bool) (nm : Nms) : Nat → Expr → Option Kd
  | 0, _ => none
  | n + 1, e => kdS c nm (kd c nm n) e
theorem constI_of : ∀ {k : Const} {i : Int}, constI k = some i → k = .int i
  | .int _, _, h => by cases h; rfl
theorem intC_of : ∀ {e : Expr} {i : Int}, intC e = some i → ∃ j p, e = .Constant (.int i) j p := by
  intro e i h
  cases e with
  | Constant k j p => have h : constI k = some i := h; rw [constI_of h]; exact ⟨j, p, rfl⟩
  | _ => cases h
theorem nameC_of {e : Expr} (h : nameC e = true) : ∃ x p, e = .Name x p := by
  cases e with
  | Name x p => exact ⟨x, p, rfl⟩
  | _ => cases h
theorem usubC_of {o : UnaryOp} (h : usubC o = true) : o = .USub := by
  cases o <;> first | rfl | cases h
theorem negC_of {e : Expr} {i : Int} (h : negC e = some i) : ∃ j p p', e = .UnaryOp .USub (.Constant (.int i) j p) p' := by
  cases e with
  | UnaryOp o e p' =>
    have h : (if usubC o = true then intC e else none) = some i := h
    by_cases z : usubC o = true
    · rw [if_pos z] at h
      obtain ⟨j, p, rfl⟩ := intC_of h
      cases usubC_of z
      exact ⟨j, p, p', rfl⟩
    · rw [if_neg z] at h; cases h
  | _ => cases h
theorem argK_of {as : List Expr} {a : Expr} (h : argK as = some a) : as = [a] := by
  match as, h with
  | [x], h => cases h; rfl
section
variable {X : Cx} {K : PySem.W.Frag} {st : Addr} {nm : Nms} {c : Bool}
theorem le1000 {n : Nat} (h : n ≤ 1000) : n ≤ sizeLine := Nat.le_trans h (by decide)
theorem kd_star {n : Nat} {e : Expr} {k : Kd} (h : kd c nm n e = some k) (es : List Expr) (env : Env) : starEach (e :: es) env = (false, eval e env) :: starEach es env := by
  cases n with
  | zero => cases h
  | succ n => cases e <;> first | rfl | (exfalso; have h : kdS c nm (kd c nm n) _ = some k := h; cases h)
theorem kd_starT {n : Nat} {e : Expr} {k : Kd} (h : asT (kd c nm n e) = some k) (es : List Expr) (env : Env) : starEach (e :: es) env = (false, eval e env) :: starEach es env := by
  unfold asT at h
  split at h
  · rename_i h1; exact kd_star h1 es env
  · exact kd_star h es env
theorem kd_ok (hK : X.K = K) (o : NmOk X nm) (ty : c = true → TyOk X) : ∀ (n : Nat) (e : Expr) (k : Kd), kd c nm n e = some k → PE X e (tK K st nm k) := by
  intro n
  induction n with
  | zero => intro e k h; cases h
  | succ n ih =>
    have all : ∀ es : List Expr, es.all (fun e => (kd c nm n e).isSome) = true → PA X es (tKs K st nm es.length) := by
      intro es
      induction es with
      | nil => intro _; exact ks_nil
      | cons e r ihr =>
        intro h
        rw [List.all_cons, Bool.and_eq_true] at h
        obtain ⟨k, hk⟩ := Option.isSome_iff_exists.mp h.1
        exact ks_cons (ih e k hk) (ihr h.2) (kd_star hk r _)
    have part : ∀ (a : Option Expr) (b : Nat), partK (kd c nm n) a = some (.int b) → PO X a (tKo K st nm) := by
      intro a b h
      cases a with
      | none => exact ko_none
      | some e => exact ko_some (ih e _ h)
    have ihT : ∀ (e : Expr) (k : Kd), asT (kd c nm n e) = some k → PE X e (tK K st nm k) := by
      intro e k h
      unfold asT at h
      split at h
      · rename_i h1; cases h; exact k_pr (ih _ _ h1)
      · exact ih _ _ h
    intro e k h
    replace h : kdS c nm (kd c nm n) e = some k := h
    cases e with
    | Constant k0 j p =>
      replace h : conK k0 = some k := h
      cases k0 with
      | int i => cases h; exact k_c pe_int fun H => ⟨_, rfl, Nat.le_refl _⟩
      | bool b => cases h; exact k_c pe_bl fun H => ⟨.bl _, .bl _⟩
      | none => cases h; exact k_c pe_non fun H => ⟨.non, .non⟩
      | str x => cases h; exact k_c pe_str fun H => ⟨.str _, .str _⟩
      | _ => cases h
    | Name x p0 =>
      obtain ⟨p, hp, e1⟩ := Option.map_eq_some_iff.mp h
      have hx0 := List.find?_some hp
      have hx := of_decide_eq_true hx0
      have hm := List.mem_of_find?_eq_some hp
      obtain ⟨x', i, k'⟩ := p
      cases e1
      cases hx
      exact k_name o hm
    | Tuple es k0 p0 =>
      replace h : (if es.all (fun e => (kd c nm n e).isSome) = true ∧ es.length ≤ 100 then some (Kd.tup es.length) else none) = some k := h
      by_cases hh : es.all (fun e => (kd c nm n e).isSome) = true ∧ es.length ≤ 100
      · rw [if_pos hh] at h; cases h; exact k_tup (all _ hh.1) (le1000 (Nat.le_trans hh.2 (by decide)))
      · rw [if_neg hh] at h; cases h
    | List es p0 =>
      replace h : (if es.all (fun e => (kd c nm n e).isSome) = true ∧ es.length ≤ 100 then some Kd.any else none) = some k := h
      by_cases hh : es.all (fun e => (kd c nm n e).isSome) = true ∧ es.length ≤ 100
      · rw [if_pos hh] at h; cases h; exact k_lst (all _ hh.1) (le1000 (Nat.le_trans hh.2 (by decide)))
      · rw [if_neg hh] at h; cases h
    | Dict ks vs p0 =>
      replace h : dictK ks vs = some k := h
      unfold dictK at h
      by_cases hh : ks.isEmpty = true ∧ vs.isEmpty = true
      · rw [if_pos hh] at h; cases h
        rw [List.isEmpty_iff.mp hh.1, List.isEmpty_iff.mp hh.2]
        exact k_dict
      · rw [if_neg hh] at h; cases h
    | UnaryOp op e p0 =>
      replace h : (if usubC op = true then (intC e).map fun i => Kd.int i.natAbs else none) = some k := h
      by_cases hh : usubC op = true
      · rw [if_pos hh] at h
        obtain ⟨i, hi, e1⟩ := Option.map_eq_some_iff.mp h
        obtain ⟨j, p, rfl⟩ := intC_of hi
        cases usubC_of hh
        cases e1
        exact k_neg
      · rw [if_neg hh] at h; cases h
    | BinOp a op b p0 =>
      replace h : binK (kd c nm n) a b op = some k := h
      cases op with
      | Add =>
        replace h : addK (asT (kd c nm n a)) (asT (kd c nm n b)) = some k := h
        unfold addK at h
        split at h
        · rename_i h1 h2; cases h; exact k_add (ihT _ _ h1) (ihT _ _ h2)
        · rename_i h1 h2
          split at h
          · rename_i hz; cases h; exact k_cat hK (le1000 hz) (ihT _ _ h1) (ihT _ _ h2)
          · cases h
        · cases h
      | Sub =>
        replace h : subK (kd c nm n a) (kd c nm n b) = some k := h
        unfold subK at h
        split at h
        · rename_i h1 h2; cases h; exact k_sub (ih _ _ h1) (ih _ _ h2)
        · cases h
      | Mult =>
        replace h : mulX (kd c nm n) a b = some k := h
        unfold mulX at h
        split at h
        · rename_i i hi
          obtain ⟨j, p, rfl⟩ := intC_of hi
          unfold mulK at h
          split at h
          · rename_i h1
            split at h
            · rename_i hz; cases h; cases hz.1; exact k_mul hK (le1000 hz.2) (ihT _ _ h1)
            · cases h
          · cases h
        · split at h
          · rename_i i hi
            obtain ⟨j, p, rfl⟩ := intC_of hi
            unfold dblK at h
            split at h
            · rename_i h1
              split at h
              · rename_i hz; cases h; cases hz; exact k_dbl (ih _ _ h1)
              · cases h
            · cases h
          · cases h
      | Pow =>
        replace h : (if intC a = some 10 ∧ intC b = some 29 then some (Kd.int (10 ^ 29)) else none) = some k := h
        by_cases hh : intC a = some 10 ∧ intC b = some 29
        · rw [if_pos hh] at h; cases h
          obtain ⟨_, _, rfl⟩ := intC_of hh.1
          obtain ⟨_, _, rfl⟩ := intC_of hh.2
          exact k_pow
        · rw [if_neg hh] at h; cases h
      | _ => cases h
    | Subscript a s p0 =>
      replace h : subsK (kd c nm n) a s = some k := h
      cases s with
      | Slice lo hi st p2 =>
        replace h : stepK (kd c nm n) a lo hi st = some k := h
        cases st with
        | none =>
          replace h : cutK (asT (kd c nm n a)) (partK (kd c nm n) lo) (partK (kd c nm n) hi) = some k := h
          unfold cutK at h
          split at h
          · rename_i h1 h2 h3; cases h; exact k_cut hK (ihT _ _ h1) (part _ _ h2) (part _ _ h3)
          · cases h
        | some e =>
          replace h : (if nameC a = true ∧ lo.isNone = true ∧ hi.isNone = true then (negC e).bind fun i => revK (asT (kd c nm n a)) i else none) = some k := h
          by_cases hh : nameC a = true ∧ lo.isNone = true ∧ hi.isNone = true
          · rw [if_pos hh] at h
            replace h := Option.bind_eq_some_iff.mp h
            obtain ⟨i, hi', h⟩ := h
            obtain ⟨j, p, p', rfl⟩ := negC_of hi'
            obtain ⟨x, px, rfl⟩ := nameC_of hh.1
            cases Option.isNone_iff_eq_none.mp hh.2.1
            cases Option.isNone_iff_eq_none.mp hh.2.2
            unfold revK at h
            split at h
            · rename_i h1
              split at h
              · rename_i hz; cases h; cases hz; exact k_rev hK (ihT _ _ h1)
              · cases h
            · cases h
          · rw [if_neg hh] at h; cases h
      | Constant k0 j p2 =>
        replace h : (if nameC a = true then (constI k0).bind fun i => ixK (kd c nm n a) i else none) = some k := h
        by_cases hh : nameC a = true
        · rw [if_pos hh] at h
          replace h := Option.bind_eq_some_iff.mp h
          obtain ⟨i, hi', h⟩ := h
          cases constI_of hi'
          obtain ⟨x, px, rfl⟩ := nameC_of hh
          unfold ixK at h
          split at h
          · rename_i h1
            split at h
            · rename_i hz; cases h; exact k_ix hK (ih _ _ h1) hz
            · cases h
          · cases h
        · rw [if_neg hh] at h; cases h
      | _ => cases h
    | Call f as kw p0 =>
      replace h : (if c = true then callX (kd c nm n) as kw.isEmpty f else none) = some k := h
      by_cases hc : c = true
      case neg => rw [if_neg hc] at h; cases h
      rw [if_pos hc] at h
      cases f with
      | Name x px =>
        replace h : (if kw.isEmpty = true then (argK as).bind fun a => callK x (asT (kd c nm n a)) else none) = some k := h
        by_cases hk : kw.isEmpty = true
        · rw [if_pos hk] at h
          replace h := Option.bind_eq_some_iff.mp h
          obtain ⟨a, ha, h⟩ := h
          cases argK_of ha
          rw [List.isEmpty_iff.mp hk]
          unfold callK at h
          split at h
          · rename_i h1
            split at h
            · rename_i hz; cases h; cases hz; exact k_list hK (ty hc) (ihT _ _ h1) (kd_starT h1 _ _)
            · cases h
          · cases h
        · rw [if_neg hk] at h; cases h
      | _ => cases h
    | _ => cases h
theorem kd_all (hK : X.K = K) (o : NmOk X nm) (ty : c = true → TyOk X) (n : Nat) : ∀ es : List Expr, es.all (fun e => (kd c nm n e).isSome) = true → PA X es (tKs K st nm es.length)
  | [], _ => ks_nil
  | e :: r, h => by
    rw [List.all_cons, Bool.and_eq_true] at h
    obtain ⟨k, hk⟩ := Option.isSome_iff_exists.mp h.1
    exact ks_cons (kd_ok hK o ty n e k hk) (kd_all hK o ty n r h.2) (kd_star hk r _)
theorem kd_l (hK : X.K = K) (o : NmOk X nm) (ty : c = true → TyOk X) (n m : Nat) {es : List Expr} {pos : Pos} (h : es.all (fun e => (kd c nm n e).isSome) = true) (hm : es.length = m) (hm2 : m ≤ 100) : PE X (.List es pos) (tL K st nm m) := by
  subst hm
  exact k_l (kd_all hK o ty n es h) (le1000 (by omega))
theorem NmOk.nil : NmOk X [] := ⟨fun p hp => by simp at hp⟩
theorem Pr.nil {σ : St} {H : Hp} {n : Int} {b : Bool} (h : H st = some (.lst [.int n, .bl b])) : Pr K st [] σ H := ⟨⟨n, b, h⟩, fun p hp => by simp at hp⟩
end
theorem adv_of {st : Addr} {H H' : Hp} {n : Int} {b : Bool} (h : H st = some (.lst [.int n, .bl b])) (s : Same H H') : Adv st H H' := ⟨fun c o _ e => s c o e, ⟨n, b, s _ _ h⟩⟩
theorem at_in {xs : List V} {r : Int} (h0 : 0 ≤ r) (h1 : r < xs.length) : ∃ x, atI xs r = some x ∧ xs[r.toNat]? = some x := by
  obtain ⟨k, rfl⟩ := Int.eq_ofNat_of_zero_le h0
  have hk : k < xs.length := by omega
  exact ⟨xs[k], atI_nat (by simp [hk]), by simp [hk]⟩
theorem has_at {K : PySem.W.Frag} {H : Hp} {ds : List D} {xs : List V} {i : Nat} {x : V} (h : HasAll K H ds xs) (e : xs[i]? = some x) : Any K H x := by
  obtain ⟨d, _, hd⟩ := h.get e
  exact ⟨d, hd⟩
end K3

namespace K3
open PySem L2
def spBad (K : PySem.W.Frag) : Sp := fun vs H Q _ => ∃ (st : Addr) (n : Int) (b : Bool), vs = [.ref st] ∧ H st = some (.lst [.int n, .bl b]) ∧ ∀ v H', Adv st H H' → Any K (hide st H') v → Q v H'
section
variable {P : Program} {w : World} {K : PySem.W.Frag} {mg : Str → Option Value} {base : Heap}
theorem sc14 : FnScope ["_law_state_here", "_law_some"] ["_law_state_here"] (defScope sBad) := ⟨rfl, rfl, rfl, by decide +kernel, rfl, by decide +kernel, by decide +kernel⟩
theorem bad_body : ∃ (e0 e1 e2 : List Expr) (r : Expr) (a1 a2 a3 b1 b2 b3 b4 b5 c1 c2 c3 c4 c5 d1 : Pos), defBody sBad = [.Assign [.Name "_law_some" a1] (.List e0 a2) a3, .Assign [.Name "_law_some" b1] (.BinOp (.Name "_law_some" b2) .Add (.List e1 b3) b4) b5,
      .Assign [.Name "_law_some" c1] (.BinOp (.Name "_law_some" c2) .Add (.List e2 c3) c4) c5, .Return (some r) d1] ∧
    (e0.all (fun e => (kd false [] 8 e).isSome) = true ∧ e0.length = 12) ∧ (e1.all (fun e => (kd false [] 8 e).isSome) = true ∧ e1.length = 5) ∧ (e2.all (fun e => (kd false [] 8 e).isSome) = true ∧ e2.length = 8) ∧
    ∃ (a1 a2 a3 a4 a5 a6 : Pos) (j : Nat), r = .Subscript (.Name "_law_some" a1) (.Call (.Name "_law_take" a2) [.Name "_law_state_here" a3, .Constant (.int 25) j a4] [] a5) a6 :=
  ⟨_, _, _, _, _, _, _, _, _, _, _, _, _, _, _, _, _, _, rfl, ⟨by decide +kernel, by decide +kernel⟩, ⟨by decide +kernel, by decide +kernel⟩, ⟨by decide +kernel, by decide +kernel⟩, _, _, _, _, _, _, _, rfl⟩
theorem ok_bad {f : Addr} {fd : FuncData} (F : Fun K "_law_bad_web" "_law_bad_web" sBad f fd) (TK : Fn P w K mg base 1 "_law_take" ["_law_state_here", "_law_many"] spTake) : FnOk P w K mg base CX0 2 f fd ["_law_state_here"] (spBad K) := by
  obtain ⟨fT, fdT, mT, kT, bT, GT⟩ := TK.ex
  refine F.ok sc14 (fun vs H Q E h => ?_) (fun cdv A outer s H vs Q E hr h => ?_)
  · obtain ⟨st, n, b, rfl, _⟩ := h; rfl
  · obtain ⟨st, n, b, rfl, hst, q⟩ := h
    obtain ⟨e0, e1, e2, r, _, _, _, _, _, _, _, _, _, _, _, _, _, _, eb, ⟨h0, m0⟩, ⟨h1, m1⟩, ⟨h2, m2⟩, _, _, _, _, _, _, _, rfl⟩ := bad_body
    rw [eb]
    refine ⟨_, pss_cons (ps_set (i := 1) sc14.nd rfl (Or.inl rfl) (kd_l (K := K) (st := st) (c := false) rfl NmOk.nil (fun z => nomatch z) 8 12 h0 m0 (by decide)))
      (pss_cons (ps_set (i := 1) sc14.nd rfl (Or.inl rfl) (pe_op op_cat (pv 1) (kd_l (K := K) (st := st) (c := false) rfl NmOk.nil (fun z => nomatch z) 8 5 h1 m1 (by decide))))
      (pss_cons (ps_set (i := 1) sc14.nd rfl (Or.inl rfl) (pe_op op_cat (pv 1) (kd_l (K := K) (st := st) (c := false) rfl NmOk.nil (fun z => nomatch z) 8 8 h2 m2 (by decide))))
      (pss_one (ps_ret (pe_ix ix_list (pv 1) (pe_call GT hr rfl mT kT bT .nil pass0 (pa_cons (pv 0) (pa_cons pe_int pa_nil))) (fun _ _ => rfl)))))), ?_⟩
    refine ⟨.nil hst, fun l1 xs ds H1 s1 hl1 a1 n1 => ?_⟩
    have t1 := s1.trans (Same.new (.lst xs) hl1)
    refine ⟨_, rfl, .nil (t1 _ _ hst), fun l2 ys es H2 s2 hl2 a2 n2 => ?_⟩
    have t2 := s2.trans (Same.new (.lst ys) hl2)
    refine ⟨l1, l2, xs, ys, rfl, rfl, t2 _ _ upd_same, upd_same, small64 (by omega), fun l3 hl3 => ?_⟩
    have t3 := (t1.trans t2).trans (Same.new (.lst (xs ++ ys)) hl3)
    refine ⟨_, rfl, .nil (t3 _ _ hst), fun l4 zs fs H4 s4 hl4 a4 n4 => ?_⟩
    have t4 := s4.trans (Same.new (.lst zs) hl4)
    refine ⟨l3, l4, _, zs, rfl, rfl, t4 _ _ upd_same, upd_same, small64 (by rw [List.length_append]; omega), fun l5 hl5 => ?_⟩
    have t5 := t4.trans (Same.new (.lst (xs ++ ys ++ zs)) hl5)
    have hs5 := (t3.trans t5) _ _ hst
    refine ⟨_, rfl, _, rfl, st, n, b, 25, rfl, hs5, by decide, by decide, fun r n' r0 r1 => ?_⟩
    have l5st : l5 ≠ st := fun z => by rw [z, (t3.trans t4) _ _ hst] at hl5; cases hl5
    obtain ⟨x, ex, gx⟩ := at_in (xs := xs ++ ys ++ zs) r0 (by rw [List.length_append, List.length_append, n1, n2, n4]; exact r1)
    refine ⟨l5, _, r, x, rfl, rfl, SqL.of (by rw [upd_ne l5st]; exact upd_same), ex, ?_⟩
    refine q _ _ ((adv_of hst (t3.trans t5)).turn n' b) ?_
    rw [hide_upd]
    refine has_at (HasAll.append (HasAll.append (a1.same (hide_up ?_)) (a2.same (hide_up ?_))) (a4.same (hide_up ?_))) gx
    · exact ((((Same.new (.lst xs) hl1).trans t2).trans (Same.new (.lst (xs ++ ys)) hl3)).trans t5)
    · exact (((Same.new (.lst ys) hl2).trans (Same.new (.lst (xs ++ ys)) hl3)).trans t5)
    · exact (Same.new (.lst zs) hl4).trans (Same.new _ hl5)
end
end K3

namespace K3
open PySem L2
def spSame : Sp := fun vs H Q _ => ∃ a b : Bool, vs = [.bl a, .bl b] ∧ ∀ H', Same H H' → Q (.bl (a == b)) H'
section
variable {P : Program} {w : World} {K : PySem.W.Frag} {mg : Str → Option Value} {base : Heap}
theorem sc15 : FnScope ["_law_found", "_law_due"] ["_law_found", "_law_due"] (defScope sSame) := ⟨rfl, rfl, rfl, by decide +kernel, rfl, by decide +kernel, by decide +kernel⟩
theorem same_body : ∃ (bd : List Stmt) (t r : Expr) (a1 a2 : Pos), defBody sSame = [.If t bd [] a1, .Return (some r) a2] ∧
    (∃ (a1 a2 a3 a4 a5 a6 : Pos) (j : Nat), t = .Call (.Name "isinstance" a1) [.Name "_law_due" a2, .Tuple [.Name "tuple" a3, .Name "list" a4] j a5] [] a6) ∧
    ∃ (a1 a2 a3 a4 a5 a6 a7 a8 a9 b1 b2 b3 b4 : Pos), r = .BoolOp .And [.Compare (.Name "_law_found" a1) [.Eq] [.Name "_law_due" a2] a3,
      .Compare (.Call (.Name "isinstance" a4) [.Name "_law_found" a5, .Name "bool" a6] [] a7) [.Eq] [.Call (.Name "isinstance" a8) [.Name "_law_due" a9, .Name "bool" b1] [] b2] b3] b4 :=
  ⟨_, _, _, _, _, rfl, ⟨_, _, _, _, _, _, _, rfl⟩, _, _, _, _, _, _, _, _, _, _, _, _, _, rfl⟩
theorem kit_no : PySem.W.kitAny K (.type "bool") (["tuple", "list"].map Value.type) = some false := by first | rfl | kernel_rfl
theorem ok_same {f : Addr} {fd : FuncData} (F : Fun K "_law_same" "_law_same" sSame f fd) (T : Txt mg) : FnOk P w K mg base CX0 1 f fd ["_law_found", "_law_due"] spSame := by
  refine F.ok sc15 (fun vs H Q E h => ?_) (fun cdv A outer s H vs Q E hr h => ?_)
  · obtain ⟨a, b, rfl, _⟩ := h; rfl
  · obtain ⟨a, b, rfl, q⟩ := h
    obtain ⟨bd, t, r, _, _, eb, ⟨_, _, _, _, _, _, _, rfl⟩, _, _, _, _, _, _, _, _, _, _, _, _, _, rfl⟩ := same_body
    rw [eb]
    refine ⟨_, pss_cons (ps_if (pt_val (pe_callB call_isinstT rfl T.isin b_isinstance (pa_cons (pv 1) (pa_cons (pe_tup (pa_cons (pe_bltn (v := .ty "tuple") rfl T.tuple b_tuple rfl) (pa_cons (pe_bltn (v := .ty "list") rfl T.list b_list rfl) pa_nil))) pa_nil)))) pss_never pss_nil)
      (pss_one (ps_ret (pe_and (pe_cmpR op_eq (pv 0) (pv 1) (nomark _)) (pe_one (pe_cmpR op_eq (pe_callB call_isD rfl T.isin b_isinstance (pa_cons (pv 0) (pa_cons (pe_bltn (v := .ty "bool") rfl T.bool b_bool rfl) pa_nil)))
        (pe_callB call_isD rfl T.isin b_isinstance (pa_cons (pv 1) (pa_cons (pe_bltn (v := .ty "bool") rfl T.bool b_bool rfl) pa_nil))) (nomark _)))))), ?_⟩
    refine ⟨_, rfl, small64 (by show 2 ≤ 64; decide), fun p hp => ?_⟩
    refine ⟨.bl b, p, ["tuple", "list"], .type "bool", false, rfl, .bl b, SqT.of upd_same, kit_no, .inr (.inl ⟨b, rfl⟩), _, rfl, iteF ?_⟩
    have q' := q _ (Same.new (.tup [.ty "tuple", .ty "list"]) hp)
    refine ⟨_, rfl, _, rfl, rfl, _, rfl, ?_⟩
    rw [dec_bl]
    refine ite2 (fun e => ?_) (fun e => ?_)
    · refine ⟨_, rfl, .bl a, _, "bool", rfl, .bl a, by simp, _, rfl, .bl b, _, "bool", rfl, .bl b, by simp, rfl, ?_⟩
      rw [e] at q'
      exact q'
    · have e' : (a == b) = false := by simpa using e
      rw [e'] at q'
      exact q'
end
end K3

namespace K3
open PySem L2
abbrev sRef : Stmt := top 41
abbrev nRef : List Str := ["_law_call", "_law_error", "_law_marks"]
abbrev scRef : Scope := { kind := .function, names := [(".0", .local), ("_law_k", .local), ("_law_marks", .free)], isGenerator := false, isCoroutine := false, more := [] }
theorem ref_body : defBody sRef = [.Assign [(.Name "_law_error" ⟨143, 4, 143, 14⟩)] (.Constant .none 0 ⟨143, 17, 143, 21⟩) ⟨143, 4, 143, 21⟩,
      .Try [.Expr (.Call (.Name "_law_call" ⟨145, 8, 145, 17⟩) [] [] ⟨145, 8, 145, 19⟩) ⟨145, 8, 145, 19⟩] [.ExceptHandler (some (.Name "ChanceError" ⟨146, 11, 146, 22⟩)) (some "e") [.Assign [(.Name "_law_error" ⟨147, 8, 147, 18⟩)] (.Name "e" ⟨147, 21, 147, 22⟩) ⟨147, 8, 147, 22⟩] ⟨146, 4, 147, 22⟩] [] [] ⟨144, 4, 147, 22⟩,
      .Assign [(.Name "_law_marks" ⟨148, 4, 148, 14⟩)] (.List [(.Call (.Name "isinstance" ⟨148, 18, 148, 28⟩) [(.Name "_law_error" ⟨148, 29, 148, 39⟩), (.Name "NoWeb" ⟨148, 41, 148, 46⟩)] [] ⟨148, 18, 148, 47⟩), (.Call (.Name "isinstance" ⟨148, 49, 148, 59⟩) [(.Name "_law_error" ⟨148, 60, 148, 70⟩), (.Name "NoLot" ⟨148, 72, 148, 77⟩)] [] ⟨148, 49, 148, 78⟩), (.Call (.Name "isinstance" ⟨148, 80, 148, 90⟩) [(.Name "_law_error" ⟨148, 91, 148, 101⟩), (.Name "NoPlaces" ⟨148, 103, 148, 111⟩)] [] ⟨148, 80, 148, 112⟩)] ⟨148, 17, 148, 113⟩) ⟨148, 4, 148, 113⟩,
      .Assign [(.Name "_law_marks" ⟨149, 4, 149, 14⟩)] (.BinOp (.Name "_law_marks" ⟨149, 17, 149, 27⟩) .Add (.List [(.Call (.Name "isinstance" ⟨149, 31, 149, 41⟩) [(.Name "_law_error" ⟨149, 42, 149, 52⟩), (.Name "NoPlace" ⟨149, 54, 149, 61⟩)] [] ⟨149, 31, 149, 62⟩), (.Call (.Name "isinstance" ⟨149, 64, 149, 74⟩) [(.Name "_law_error" ⟨149, 75, 149, 85⟩), (.Name "NoTie" ⟨149, 87, 149, 92⟩)] [] ⟨149, 64, 149, 93⟩), (.Call (.Name "isinstance" ⟨149, 95, 149, 105⟩) [(.Name "_law_error" ⟨149, 106, 149, 116⟩), (.Name "NoChance" ⟨149, 118, 149, 126⟩)] [] ⟨149, 95, 149, 127⟩)] ⟨149, 30, 149, 128⟩) ⟨149, 17, 149, 128⟩) ⟨149, 4, 149, 128⟩,
      .Assign [(.Name "_law_marks" ⟨150, 4, 150, 14⟩)] (.BinOp (.Name "_law_marks" ⟨150, 17, 150, 27⟩) .Add (.List [(.Call (.Name "isinstance" ⟨150, 31, 150, 41⟩) [(.Name "_law_error" ⟨150, 42, 150, 52⟩), (.Name "NoChances" ⟨150, 54, 150, 63⟩)] [] ⟨150, 31, 150, 64⟩), (.Call (.Name "isinstance" ⟨150, 66, 150, 76⟩) [(.Name "_law_error" ⟨150, 77, 150, 87⟩), (.Name "NoPaper" ⟨150, 89, 150, 96⟩)] [] ⟨150, 66, 150, 97⟩), (.Call (.Name "isinstance" ⟨150, 99, 150, 109⟩) [(.Name "_law_error" ⟨150, 110, 150, 120⟩), (.Name "TooMany" ⟨150, 122, 150, 129⟩)] [] ⟨150, 99, 150, 130⟩)] ⟨150, 30, 150, 131⟩) ⟨150, 17, 150, 131⟩) ⟨150, 4, 150, 131⟩,
      .Assign [(.Name "_law_marks" ⟨151, 4, 151, 14⟩)] (.BinOp (.Name "_law_marks" ⟨151, 17, 151, 27⟩) .Add (.List [(.Call (.Name "isinstance" ⟨151, 31, 151, 41⟩) [(.Name "_law_error" ⟨151, 42, 151, 52⟩), (.Name "NoText" ⟨151, 54, 151, 60⟩)] [] ⟨151, 31, 151, 61⟩), (.Call (.Name "isinstance" ⟨151, 63, 151, 73⟩) [(.Name "_law_error" ⟨151, 74, 151, 84⟩), (.Name "NoLine" ⟨151, 86, 151, 92⟩)] [] ⟨151, 63, 151, 93⟩), (.Call (.Name "isinstance" ⟨151, 95, 151, 105⟩) [(.Name "_law_error" ⟨151, 106, 151, 116⟩), (.Name "NoDeed" ⟨151, 118, 151, 124⟩)] [] ⟨151, 95, 151, 125⟩)] ⟨151, 30, 151, 126⟩) ⟨151, 17, 151, 126⟩) ⟨151, 4, 151, 126⟩,
      .If (.UnaryOp .Not (.Call (.Name "isinstance" ⟨152, 11, 152, 21⟩) [(.Name "_law_error" ⟨152, 22, 152, 32⟩), (.Name "ValueError" ⟨152, 34, 152, 44⟩)] [] ⟨152, 11, 152, 45⟩) ⟨152, 7, 152, 45⟩) [.Return (some (.Constant .none 0 ⟨153, 15, 153, 19⟩)) ⟨153, 8, 153, 19⟩] [] ⟨152, 4, 153, 19⟩,
      .Return (some (.ListComp (.Name "_law_k" ⟨154, 12, 154, 18⟩) [{ target := (.Name "_law_k" ⟨154, 23, 154, 29⟩), iter := (.Call (.Name "range" ⟨154, 33, 154, 38⟩) [(.Constant (.int 12) 0 ⟨154, 39, 154, 41⟩)] [] ⟨154, 33, 154, 42⟩), ifs := [(.Subscript (.Name "_law_marks" ⟨154, 46, 154, 56⟩) (.Name "_law_k" ⟨154, 57, 154, 63⟩) ⟨154, 46, 154, 64⟩)], is_async := 0 }] scRef ⟨154, 11, 154, 65⟩)) ⟨154, 4, 154, 65⟩] ∧ compOk scRef (defScope sRef) nRef ["_law_k"] [("_law_marks", 2)] = true :=
  ⟨rfl, by decide +kernel⟩
theorem ix_listK {X : Cx} (K : PySem.W.Frag) (hK : X.K = K := by rfl) : IxR X (rIxL K) := by subst hK; exact ix_list
/-- the twelve refusals, in the order in which they are marked -/
abbrev names12 : List Str := ["NoWeb", "NoLot", "NoPlaces", "NoPlace", "NoTie", "NoChance", "NoChances", "NoPaper", "TooMany", "NoText", "NoLine", "NoDeed"]
/-- C is the j-th of them -/
structure RefCls (K : PySem.W.Frag) (mg : Str → Option Value) (C : Addr) (j : Nat) : Prop where
  cl : ∀ (i : Nat) (x : Str), names12[i]? = some x → ∃ Ci, mg x = some (.ref Ci) ∧ PySem.W.kitOne K (.ref C) (.ref Ci) = some (decide (i = j))
  lk : ExcLook K C
  hd : PySem.W.hasDictIn K C = true
  ve : PySem.W.kitOne K (.ref C) (.type "ValueError") = some true
  nv : mg "ValueError" = none
  ce : ∃ D, mg "ChanceError" = some (.ref D) ∧ PySem.W.exmOne K (.ref C) (.ref D) = some true
  lt : j < 12
theorem b_ValueError : bootBuiltins "ValueError" = some (.type "ValueError") := by decide +kernel
def spRef (P : Program) (w : World) (K : PySem.W.Frag) (mg : Str → Option Value) (base : Heap) (k : Nat) : Shared → Sp := fun s vs H Q _ => ∃ (f C : Addr) (j : Nat), vs = [.ref f] ∧ Thunk P w K mg base k f H s (.ref C) ∧ RefCls K mg C j ∧ ∀ l H', Same H H' → H' l = none → Q (.ref l) (upd H' l (.lst [.int j]))
abbrev marks12 (j : Nat) : List V := [V.bl (decide (0 = j)), .bl (decide (1 = j)), .bl (decide (2 = j))] ++ [.bl (decide (3 = j)), .bl (decide (4 = j)), .bl (decide (5 = j))] ++ [.bl (decide (6 = j)), .bl (decide (7 = j)), .bl (decide (8 = j))] ++ [.bl (decide (9 = j)), .bl (decide (10 = j)), .bl (decide (11 = j))]
theorem marks_at {i j : Nat} (h : i < 12) : atI (marks12 j) (0 + (i : Int)) = some (.bl (decide (i = j))) := by
  rw [Int.zero_add]
  refine atI_nat ?_
  have : i = 0 ∨ i = 1 ∨ i = 2 ∨ i = 3 ∨ i = 4 ∨ i = 5 ∨ i = 6 ∨ i = 7 ∨ i = 8 ∨ i = 9 ∨ i = 10 ∨ i = 11 := by omega
  rcases this with rfl | rfl | rfl | rfl | rfl | rfl | rfl | rfl | rfl | rfl | rfl | rfl <;> rfl
section
variable {P : Program} {w : World} {K : PySem.W.Frag} {mg : Str → Option Value} {base : Heap}
theorem scR : FnScope nRef ["_law_call"] (defScope sRef) := ⟨rfl, rfl, rfl, by decide +kernel, rfl, by decide +kernel, by decide +kernel⟩
theorem ndR : (nComp ["_law_k"] [("_law_marks", 2)]).Nodup := by decide +kernel
theorem ok_ref {f : Addr} {fd : FuncData} {k : Nat} (F : Fun K "_law_refused" "_law_refused" sRef f fd) (T : Txt mg) : FnOkS P w K mg base CX0 (k + 1) f fd ["_law_call"] (spRef P w K mg base k) := by
  refine F.okS scR (fun s vs H Q E h => ?_) (fun cdv A outer s H vs Q E hr h => ?_)
  · obtain ⟨f, C, j, rfl, _⟩ := h; rfl
  · obtain ⟨g, C, j, rfl, th, R, q⟩ := h
    obtain ⟨eb, hsc⟩ := ref_body
    rw [eb]
    clear eb
    obtain ⟨c0, m0, k0⟩ := R.cl 0 _ rfl
    obtain ⟨c1, m1, k1⟩ := R.cl 1 _ rfl
    obtain ⟨c2, m2, k2⟩ := R.cl 2 _ rfl
    obtain ⟨c3, m3, k3⟩ := R.cl 3 _ rfl
    obtain ⟨c4, m4, k4⟩ := R.cl 4 _ rfl
    obtain ⟨c5, m5, k5⟩ := R.cl 5 _ rfl
    obtain ⟨c6, m6, k6⟩ := R.cl 6 _ rfl
    obtain ⟨c7, m7, k7⟩ := R.cl 7 _ rfl
    obtain ⟨c8, m8, k8⟩ := R.cl 8 _ rfl
    obtain ⟨c9, m9, k9⟩ := R.cl 9 _ rfl
    obtain ⟨c10, m10, k10⟩ := R.cl 10 _ rfl
    obtain ⟨c11, m11, k11⟩ := R.cl 11 _ rfl
    obtain ⟨D, mD, kD⟩ := R.ce
    refine ⟨_, pss_cons (ps_set (i := 1) scR.nd rfl (Or.inl rfl) pe_non)
      (pss_cons (ps_tryAs (i := 0) (j := 1) (f := g) (C := C) (D := D) (k := k) rfl rfl rfl hr th rfl (Or.inl rfl) (by decide) (by decide) rfl mD (by decide) kD rfl (by show ¬ (("e" : Str) ∈ nRef); decide +kernel) (by decide) scR.nd rfl (Or.inl rfl) rfl)
      (pss_cons (ps_set (i := 2) scR.nd rfl (Or.inr rfl) (pe_lst (pa_cons (pe_callB call_isExc rfl T.isin b_isinstance (pa_cons (pv 1) (pa_cons (pe_glob (v := .ref c0) rfl m0 rfl) pa_nil))) (pa_cons (pe_callB call_isExc rfl T.isin b_isinstance (pa_cons (pv 1) (pa_cons (pe_glob (v := .ref c1) rfl m1 rfl) pa_nil))) (pa_cons (pe_callB call_isExc rfl T.isin b_isinstance (pa_cons (pv 1) (pa_cons (pe_glob (v := .ref c2) rfl m2 rfl) pa_nil))) pa_nil)))))
      (pss_cons (ps_set (i := 2) scR.nd rfl (Or.inr rfl) (pe_op op_cat (pv 2) (pe_lst (pa_cons (pe_callB call_isExc rfl T.isin b_isinstance (pa_cons (pv 1) (pa_cons (pe_glob (v := .ref c3) rfl m3 rfl) pa_nil))) (pa_cons (pe_callB call_isExc rfl T.isin b_isinstance (pa_cons (pv 1) (pa_cons (pe_glob (v := .ref c4) rfl m4 rfl) pa_nil))) (pa_cons (pe_callB call_isExc rfl T.isin b_isinstance (pa_cons (pv 1) (pa_cons (pe_glob (v := .ref c5) rfl m5 rfl) pa_nil))) pa_nil))))))
      (pss_cons (ps_set (i := 2) scR.nd rfl (Or.inr rfl) (pe_op op_cat (pv 2) (pe_lst (pa_cons (pe_callB call_isExc rfl T.isin b_isinstance (pa_cons (pv 1) (pa_cons (pe_glob (v := .ref c6) rfl m6 rfl) pa_nil))) (pa_cons (pe_callB call_isExc rfl T.isin b_isinstance (pa_cons (pv 1) (pa_cons (pe_glob (v := .ref c7) rfl m7 rfl) pa_nil))) (pa_cons (pe_callB call_isExc rfl T.isin b_isinstance (pa_cons (pv 1) (pa_cons (pe_glob (v := .ref c8) rfl m8 rfl) pa_nil))) pa_nil))))))
      (pss_cons (ps_set (i := 2) scR.nd rfl (Or.inr rfl) (pe_op op_cat (pv 2) (pe_lst (pa_cons (pe_callB call_isExc rfl T.isin b_isinstance (pa_cons (pv 1) (pa_cons (pe_glob (v := .ref c9) rfl m9 rfl) pa_nil))) (pa_cons (pe_callB call_isExc rfl T.isin b_isinstance (pa_cons (pv 1) (pa_cons (pe_glob (v := .ref c10) rfl m10 rfl) pa_nil))) (pa_cons (pe_callB call_isExc rfl T.isin b_isinstance (pa_cons (pv 1) (pa_cons (pe_glob (v := .ref c11) rfl m11 rfl) pa_nil))) pa_nil))))))
      (pss_cons (ps_if (pt_not (pt_val (pe_callB call_isExc rfl T.isin b_isinstance (pa_cons (pv 1) (pa_cons (pe_bltn (v := .ty "ValueError") rfl R.nv b_ValueError rfl) pa_nil))))) (pss_one (ps_ret pe_non)) pss_nil)
      (pss_one (ps_ret (pe_comp (own := ["_law_k"]) (capt := [("_law_marks", 2)]) rfl (by exact CompSc.of (scX := defScope sRef) (N := nRef) rfl rfl hsc) (pi_range1 rfl T.range (pa_cons pe_int pa_nil))
        (fun cl C s H fp => pg_name (i := 0) ndR rfl (Or.inl rfl)) (fun cl C s H fp => pts_one (pt_val (pe_ix (ix_listK K) (pv 1) (pv 0) (fun _ _ => rfl)))) (fun cl C s H fp => pv 0)))))))))), ?_⟩
    refine ⟨rfl, Same.refl H, fun a H1 s1 na => ?_⟩
    have hX : ExcH (upd H1 a (.ext (excAt a C))) a C := upd_same
    have keep : ∀ {H'}, Same (upd H1 a (.ext (excAt a C))) H' → ExcH H' a C := fun sm => sm _ _ hX
    -- the twelve marks
    refine ⟨_, rfl, a, C, _, _, _, rfl, .inl ⟨c0, rfl, rfl⟩, hX, R.lk, R.hd, k0, _, rfl, a, C, _, _, _, rfl, .inl ⟨c1, rfl, rfl⟩, hX, R.lk, R.hd, k1, _, rfl, a, C, _, _, _, rfl, .inl ⟨c2, rfl, rfl⟩, hX, R.lk, R.hd, k2, small64 (by show 3 ≤ 64; decide), fun l1 hl1 => ?_⟩
    have t1 := Same.new (.lst [.bl (decide (0 = j)), .bl (decide (1 = j)), .bl (decide (2 = j))]) hl1
    refine ⟨_, rfl, _, rfl, a, C, _, _, _, rfl, .inl ⟨c3, rfl, rfl⟩, keep t1, R.lk, R.hd, k3, _, rfl, a, C, _, _, _, rfl, .inl ⟨c4, rfl, rfl⟩, keep t1, R.lk, R.hd, k4, _, rfl, a, C, _, _, _, rfl, .inl ⟨c5, rfl, rfl⟩, keep t1, R.lk, R.hd, k5, small64 (by show 3 ≤ 64; decide), fun l2 hl2 => ?_⟩
    have t2 := Same.new (.lst [.bl (decide (3 = j)), .bl (decide (4 = j)), .bl (decide (5 = j))]) hl2
    refine ⟨l1, l2, _, _, rfl, rfl, t2 _ _ upd_same, upd_same, small64 (by show 3 + 3 ≤ 64; decide), fun l3 hl3 => ?_⟩
    have t3 := t1.trans (t2.trans (Same.new (.lst ([.bl (decide (0 = j)), .bl (decide (1 = j)), .bl (decide (2 = j))] ++ [.bl (decide (3 = j)), .bl (decide (4 = j)), .bl (decide (5 = j))])) hl3))
    refine ⟨_, rfl, _, rfl, a, C, _, _, _, rfl, .inl ⟨c6, rfl, rfl⟩, keep t3, R.lk, R.hd, k6, _, rfl, a, C, _, _, _, rfl, .inl ⟨c7, rfl, rfl⟩, keep t3, R.lk, R.hd, k7, _, rfl, a, C, _, _, _, rfl, .inl ⟨c8, rfl, rfl⟩, keep t3, R.lk, R.hd, k8, small64 (by show 3 ≤ 64; decide), fun l4 hl4 => ?_⟩
    have t4 := Same.new (.lst [.bl (decide (6 = j)), .bl (decide (7 = j)), .bl (decide (8 = j))]) hl4
    refine ⟨l3, l4, _, _, rfl, rfl, t4 _ _ upd_same, upd_same, small64 (by show 6 + 3 ≤ 64; decide), fun l5 hl5 => ?_⟩
    have t5 := t3.trans (t4.trans (Same.new (.lst ([.bl (decide (0 = j)), .bl (decide (1 = j)), .bl (decide (2 = j))] ++ [.bl (decide (3 = j)), .bl (decide (4 = j)), .bl (decide (5 = j))] ++ [.bl (decide (6 = j)), .bl (decide (7 = j)), .bl (decide (8 = j))])) hl5))
    refine ⟨_, rfl, _, rfl, a, C, _, _, _, rfl, .inl ⟨c9, rfl, rfl⟩, keep t5, R.lk, R.hd, k9, _, rfl, a, C, _, _, _, rfl, .inl ⟨c10, rfl, rfl⟩, keep t5, R.lk, R.hd, k10, _, rfl, a, C, _, _, _, rfl, .inl ⟨c11, rfl, rfl⟩, keep t5, R.lk, R.hd, k11, small64 (by show 3 ≤ 64; decide), fun l6 hl6 => ?_⟩
    have t6 := Same.new (.lst [.bl (decide (9 = j)), .bl (decide (10 = j)), .bl (decide (11 = j))]) hl6
    refine ⟨l5, l6, _, _, rfl, rfl, t6 _ _ upd_same, upd_same, small64 (by show 9 + 3 ≤ 64; decide), fun l7 hl7 => ?_⟩
    have t7 := t5.trans (t6.trans (Same.new (.lst (marks12 j)) hl7))
    refine ⟨_, rfl, a, C, _, _, _, rfl, .inr ⟨"ValueError", rfl, rfl⟩, keep t7, R.lk, R.hd, R.ve, _, rfl, iteF ?_⟩
    refine ⟨12, rfl, by decide, by decide, comp_rng (lo := 0) (n := 12) (fun i ys H' => Same (upd H1 a (.ext (excAt a C))) H' ∧ H' l7 = some (.lst (marks12 j)) ∧ ys = if j < i then [.int j] else []) (small64 (by decide)) ⟨t7, upd_same, by rw [if_neg (by omega)]⟩ (fun i ys H' p => by rw [p.2.2]; split <;> simp <;> omega) ?_ ?_⟩
    · rintro i ys H' hi ⟨s8, h8, rfl⟩
      refine gN ?_
      refine ⟨_, rfl, _, rfl, l7, marks12 j, 0 + (i : Int), .bl (decide (i = j)), rfl, rfl, SqL.of h8, marks_at hi, _, rfl, ?_⟩
      refine ite2 (fun e => ?_) (fun e => ?_)
      · have ej : i = j := of_decide_eq_true e
        subst ej
        refine ⟨_, rfl, s8, h8, ?_⟩
        rw [if_neg (by omega), if_pos (by omega), Int.zero_add]; rfl
      · have ej : ¬ i = j := fun z => e (decide_eq_true z)
        refine ⟨s8, h8, ?_⟩
        by_cases hj : j < i
        · rw [if_pos hj, if_pos (by omega)]
        · rw [if_neg hj, if_neg (by omega)]
    · rintro ys H' p ⟨s8, _, rfl⟩ hp
      rw [if_pos R.lt]
      exact q p H' ((s1.trans (Same.new _ na)).trans s8) hp
end
end K3

namespace K3
open PySem L2
abbrev sGcd : Stmt := top 15
abbrev sLow : Stmt := top 34
theorem gcd_body : defBody sGcd = [.While (.Compare (.Name "other" ⟨30, 10, 30, 15⟩) [.Gt] [(.Constant (.int 0) 0 ⟨30, 18, 30, 19⟩)] ⟨30, 10, 30, 19⟩) [.Assign [(.Tuple [(.Name "one" ⟨31, 8, 31, 11⟩), (.Name "other" ⟨31, 13, 31, 18⟩)] 0 ⟨31, 8, 31, 18⟩)] (.Tuple [(.Name "other" ⟨31, 22, 31, 27⟩), (.BinOp (.Name "one" ⟨31, 29, 31, 32⟩) .Mod (.Name "other" ⟨31, 35, 31, 40⟩) ⟨31, 29, 31, 40⟩)] 0 ⟨31, 21, 31, 41⟩) ⟨31, 8, 31, 41⟩] [] ⟨30, 4, 31, 41⟩,
      .Return (some (.Name "one" ⟨32, 11, 32, 14⟩)) ⟨32, 4, 32, 14⟩] :=
  rfl
theorem low_body : defBody sLow = [.Assign [(.Tuple [(.Name "_law_one" ⟨105, 4, 105, 12⟩), (.Name "_law_other" ⟨105, 14, 105, 24⟩)] 0 ⟨105, 4, 105, 24⟩)] (.Tuple [(.Name "_law_top" ⟨105, 28, 105, 36⟩), (.Name "_law_bottom" ⟨105, 38, 105, 49⟩)] 0 ⟨105, 27, 105, 50⟩) ⟨105, 4, 105, 50⟩,
      .While (.Compare (.Name "_law_other" ⟨106, 10, 106, 20⟩) [.NotEq] [(.Constant (.int 0) 0 ⟨106, 24, 106, 25⟩)] ⟨106, 10, 106, 25⟩) [.Assign [(.Tuple [(.Name "_law_one" ⟨107, 8, 107, 16⟩), (.Name "_law_other" ⟨107, 18, 107, 28⟩)] 0 ⟨107, 8, 107, 28⟩)] (.Tuple [(.Name "_law_other" ⟨107, 32, 107, 42⟩), (.BinOp (.Name "_law_one" ⟨107, 44, 107, 52⟩) .Mod (.Name "_law_other" ⟨107, 55, 107, 65⟩) ⟨107, 44, 107, 65⟩)] 0 ⟨107, 31, 107, 66⟩) ⟨107, 8, 107, 66⟩] [] ⟨106, 4, 107, 66⟩,
      .Return (some (.Tuple [(.BinOp (.Name "_law_top" ⟨108, 12, 108, 20⟩) .FloorDiv (.Name "_law_one" ⟨108, 24, 108, 32⟩) ⟨108, 12, 108, 32⟩), (.BinOp (.Name "_law_bottom" ⟨108, 34, 108, 45⟩) .FloorDiv (.Name "_law_one" ⟨108, 49, 108, 57⟩) ⟨108, 34, 108, 57⟩)] 0 ⟨108, 11, 108, 58⟩)) ⟨108, 4, 108, 58⟩] :=
  rfl

def spGcd : Sp := fun vs H Q _ => ∃ a b : Nat, vs = [.int a, .int b] ∧ Q (.int (Nat.gcd a b)) H
def spLow : Sp := fun vs H Q _ => ∃ a b : Nat, vs = [.int a, .int b] ∧ 0 < b ∧ b ≤ 1000 ∧ ∀ l, H l = none → Q (.ref l) (upd H l (.tup [.int ((a / Nat.gcd a b : Nat) : Int), .int ((b / Nat.gcd a b : Nat) : Int)]))
section
variable {P : Program} {w : World} {K : PySem.W.Frag} {mg : Str → Option Value} {base : Heap}
theorem scGcd : FnScope ["one", "other"] ["one", "other"] (defScope sGcd) := ⟨rfl, rfl, rfl, by decide +kernel, rfl, by decide +kernel, by decide +kernel⟩
theorem ok_gcd {f : Addr} {fd : FuncData} (F : Fun K "common_divisor" "common_divisor" sGcd f fd) : FnOk P w K mg base CX0 1 f fd ["one", "other"] spGcd := by
  refine F.ok scGcd (fun vs H Q E h => ?_) (fun cdv A outer s H vs Q E hr h => ?_)
  · obtain ⟨a, b, rfl, _⟩ := h; rfl
  · obtain ⟨a, b, rfl, q⟩ := h
    rw [gcd_body]
    refine ⟨_, pss_cons (ps_while PassesOwn.never (pt_cmpR op_gt (pv 1) pe_int (nomark _)) (pss_one (ps_par (i := 0) (j := 1) rfl scGcd.nd rfl rfl (by decide) rfl rfl (pa_cons (pv 1) (pa_cons (pe_op op_mod (pv 0) (pv 1)) pa_nil)) rfl)))
      (pss_one (ps_ret (pv 0))), ?_⟩
    refine while_by (fun σ H' => H' = H ∧ ∃ a' b' : Nat, σ = [some (.int a'), some (.int b')] ∧ Nat.gcd a' b' = Nat.gcd a b) (fun σ _ => match σ with | [_, some (.int b')] => b'.toNat | _ => 0) ⟨rfl, a, b, rfl, rfl⟩ ?_ ?_
    · rintro σ H' ⟨rfl, a', b', rfl, hgc⟩
      refine ⟨_, rfl, _, _, rfl, rfl, _, rfl, ?_⟩
      refine ite2 (fun e => ?_) (fun e => ?_)
      · have hb : (0 : Int) < b' := of_decide_eq_true e
        refine ⟨_, rfl, _, rfl, _, rfl, _, _, rfl, rfl, hb, _, _, rfl, ⟨rfl, b', a' % b', ?_, ?_⟩, ?_⟩
        · rw [Int.natCast_emod]; rfl
        · rw [Nat.gcd_comm b' (a' % b'), ← Nat.gcd_rec, Nat.gcd_comm]; exact hgc
        · show ((a' : Int) % (b' : Int)).toNat < (b' : Int).toNat
          have := Int.emod_lt_of_pos (a' : Int) hb
          have := Int.emod_nonneg (a' : Int) (show (b' : Int) ≠ 0 by omega)
          omega
      · have hb : b' = 0 := by have : ¬ (0 : Int) < b' := fun z => e (decide_eq_true z); omega
        subst hb
        rw [Nat.gcd_zero_right] at hgc
        subst hgc
        exact ⟨_, rfl, q⟩
    · rintro σ H' Q1 Q2 hm ⟨v, e1, i, j, e2, e3, k, e4, e5⟩
      exact ⟨v, e1, i, j, e2, e3, k, e4, hm _ _ e5⟩
theorem scLow : FnScope ["_law_top", "_law_bottom", "_law_one", "_law_other"] ["_law_top", "_law_bottom"] (defScope sLow) := ⟨rfl, rfl, rfl, by decide +kernel, rfl, by decide +kernel, by decide +kernel⟩
theorem ok_low {f : Addr} {fd : FuncData} (F : Fun K "_law_lowest" "_law_lowest" sLow f fd) : FnOk P w K mg base CX0 1 f fd ["_law_top", "_law_bottom"] spLow := by
  refine F.ok scLow (fun vs H Q E h => ?_) (fun cdv A outer s H vs Q E hr h => ?_)
  · obtain ⟨a, b, rfl, _⟩ := h; rfl
  · obtain ⟨a, b, rfl, hb0, hb1, q⟩ := h
    rw [low_body]
    refine ⟨_, pss_cons (ps_par (i := 2) (j := 3) rfl scLow.nd rfl rfl (by decide) rfl rfl (pa_cons (pv 0) (pa_cons (pv 1) pa_nil)) rfl)
      (pss_cons (ps_while PassesOwn.never (pt_cmpR op_ne (pv 3) pe_int (nomark _)) (pss_one (ps_par (i := 2) (j := 3) rfl scLow.nd rfl rfl (by decide) rfl rfl (pa_cons (pv 3) (pa_cons (pe_op op_mod (pv 2) (pv 3)) pa_nil)) rfl)))
      (pss_one (ps_ret (pe_tup (pa_cons (pe_op op_fdiv (pv 0) (pv 2)) (pa_cons (pe_op op_fdiv (pv 1) (pv 2)) pa_nil)))))), ?_⟩
    refine ⟨_, rfl, _, rfl, _, _, rfl, ?_⟩
    refine while_by (fun σ H' => H' = H ∧ ∃ a' b' : Nat, σ = [some (.int a), some (.int b), some (.int a'), some (.int b')] ∧ Nat.gcd a' b' = Nat.gcd a b) (fun σ _ => match σ with | [_, _, _, some (.int b')] => b'.toNat | _ => 0) ⟨rfl, a, b, rfl, rfl⟩ ?_ ?_
    · rintro σ H' ⟨rfl, a', b', rfl, hgc⟩
      refine ⟨_, rfl, rfl, _, rfl, ?_⟩
      refine ite2 (fun e => ?_) (fun e => ?_)
      · have hbn : b' ≠ 0 := fun z => by subst z; simp at e
        have hb : (0 : Int) < b' := by omega
        refine ⟨_, rfl, _, rfl, _, rfl, _, _, rfl, rfl, hb, _, _, rfl, ⟨rfl, b', a' % b', ?_, ?_⟩, ?_⟩
        · rw [Int.natCast_emod]; rfl
        · rw [Nat.gcd_comm b' (a' % b'), ← Nat.gcd_rec, Nat.gcd_comm]; exact hgc
        · show ((a' : Int) % (b' : Int)).toNat < (b' : Int).toNat
          have := Int.emod_lt_of_pos (a' : Int) hb
          have := Int.emod_nonneg (a' : Int) (show (b' : Int) ≠ 0 by omega)
          omega
      · have hb : b' = 0 := by
          by_cases z : b' = 0
          · exact z
          · exfalso; apply e; simp [z]
        subst hb
        rw [Nat.gcd_zero_right] at hgc
        subst hgc
        have g0 : 0 < Nat.gcd a b := Nat.gcd_pos_of_pos_right _ hb0
        have g1 : Nat.gcd a b ≤ b := Nat.gcd_le_right _ hb0
        refine ⟨_, rfl, _, rfl, _, _, rfl, rfl, ⟨by omega, by omega⟩, _, rfl, _, rfl, _, _, rfl, rfl, ⟨by omega, by omega⟩, small64 (by show 2 ≤ 64; decide), fun p hp => ?_⟩
        have := q p hp
        rw [Int.natCast_ediv, Int.natCast_ediv] at this
        exact this
    · rintro σ H' Q1 Q2 hm ⟨v, e1, e2, k, e4, e5⟩
      exact ⟨v, e1, e2, k, e4, hm _ _ e5⟩
end
end K3

namespace K3
open PySem L2
abbrev sChk : Stmt := top 24
abbrev sIch : Stmt := top 27
abbrev sArc : Stmt := top 28
theorem chk_body : defBody sChk = [.If (.UnaryOp .Not (.Call (.Name "is_web" ⟨57, 11, 57, 17⟩) [(.Name "thing" ⟨57, 18, 57, 23⟩)] [] ⟨57, 11, 57, 24⟩) ⟨57, 7, 57, 24⟩) [.Raise (some (.Call (.Name "NoWeb" ⟨58, 14, 58, 19⟩) [(.Constant (.str "this is no web") 0 ⟨58, 20, 58, 36⟩)] [] ⟨58, 14, 58, 37⟩)) none ⟨58, 8, 58, 37⟩] [] ⟨57, 4, 58, 37⟩] :=
  rfl
theorem ich_body : defBody sIch = [.If (.BoolOp .Or [(.UnaryOp .Not (.Call (.Name "isinstance" ⟨62, 11, 62, 21⟩) [(.Name "thing" ⟨62, 22, 62, 27⟩), (.Name "tuple" ⟨62, 29, 62, 34⟩)] [] ⟨62, 11, 62, 35⟩) ⟨62, 7, 62, 35⟩), (.Compare (.Call (.Name "len" ⟨62, 39, 62, 42⟩) [(.Name "thing" ⟨62, 43, 62, 48⟩)] [] ⟨62, 39, 62, 49⟩) [.NotEq] [(.Constant (.int 2) 0 ⟨62, 53, 62, 54⟩)] ⟨62, 39, 62, 54⟩)] ⟨62, 7, 62, 54⟩) [.Return (some (.Constant (.bool false) 0 ⟨63, 15, 63, 20⟩)) ⟨63, 8, 63, 20⟩] [] ⟨62, 4, 63, 20⟩,
      .Assign [(.Tuple [(.Name "top" ⟨64, 4, 64, 7⟩), (.Name "bottom" ⟨64, 9, 64, 15⟩)] 0 ⟨64, 4, 64, 15⟩)] (.Name "thing" ⟨64, 18, 64, 23⟩) ⟨64, 4, 64, 23⟩,
      .If (.BoolOp .Or [(.UnaryOp .Not (.Call (.Name "is_whole" ⟨65, 11, 65, 19⟩) [(.Name "top" ⟨65, 20, 65, 23⟩)] [] ⟨65, 11, 65, 24⟩) ⟨65, 7, 65, 24⟩), (.UnaryOp .Not (.Call (.Name "is_whole" ⟨65, 32, 65, 40⟩) [(.Name "bottom" ⟨65, 41, 65, 47⟩)] [] ⟨65, 32, 65, 48⟩) ⟨65, 28, 65, 48⟩)] ⟨65, 7, 65, 48⟩) [.Return (some (.Constant (.bool false) 0 ⟨66, 15, 66, 20⟩)) ⟨66, 8, 66, 20⟩] [] ⟨65, 4, 66, 20⟩,
      .If (.BoolOp .Or [(.UnaryOp .Not (.Compare (.Constant (.int 1) 0 ⟨67, 11, 67, 12⟩) [.LtE, .LtE] [(.Name "bottom" ⟨67, 16, 67, 22⟩), (.Name "MOST_BOTTOM" ⟨67, 26, 67, 37⟩)] ⟨67, 11, 67, 37⟩) ⟨67, 7, 67, 37⟩), (.UnaryOp .Not (.Compare (.Constant (.int 0) 0 ⟨67, 45, 67, 46⟩) [.LtE, .LtE] [(.Name "top" ⟨67, 50, 67, 53⟩), (.Name "bottom" ⟨67, 57, 67, 63⟩)] ⟨67, 45, 67, 63⟩) ⟨67, 41, 67, 63⟩)] ⟨67, 7, 67, 63⟩) [.Return (some (.Constant (.bool false) 0 ⟨68, 15, 68, 20⟩)) ⟨68, 8, 68, 20⟩] [] ⟨67, 4, 68, 20⟩,
      .Return (some (.Compare (.Call (.Name "common_divisor" ⟨69, 11, 69, 25⟩) [(.Name "top" ⟨69, 26, 69, 29⟩), (.Name "bottom" ⟨69, 31, 69, 37⟩)] [] ⟨69, 11, 69, 38⟩) [.Eq] [(.Constant (.int 1) 0 ⟨69, 42, 69, 43⟩)] ⟨69, 11, 69, 43⟩)) ⟨69, 4, 69, 43⟩] :=
  rfl
abbrev arc_body_sc1 : Scope := { kind := .function, names := [(".0", .local), ("chance", .local), ("is_chance", .globalImplicit)], isGenerator := false, isCoroutine := false, more := [] }
theorem arc_body : defBody sArc = [.Expr (.Call (.Name "check_web" ⟨71, 4, 71, 13⟩) [(.Name "web" ⟨71, 14, 71, 17⟩)] [] ⟨71, 4, 71, 18⟩) ⟨71, 4, 71, 18⟩,
      .If (.BoolOp .Or [(.UnaryOp .Not (.Call (.Name "isinstance" ⟨72, 11, 72, 21⟩) [(.Name "thing" ⟨72, 22, 72, 27⟩), (.Name "tuple" ⟨72, 29, 72, 34⟩)] [] ⟨72, 11, 72, 35⟩) ⟨72, 7, 72, 35⟩), (.Compare (.Call (.Name "len" ⟨72, 39, 72, 42⟩) [(.Name "thing" ⟨72, 43, 72, 48⟩)] [] ⟨72, 39, 72, 49⟩) [.NotEq] [(.Call (.Name "len" ⟨72, 53, 72, 56⟩) [(.Subscript (.Name "web" ⟨72, 57, 72, 60⟩) (.Constant (.int 1) 0 ⟨72, 61, 72, 62⟩) ⟨72, 57, 72, 63⟩)] [] ⟨72, 53, 72, 64⟩)] ⟨72, 39, 72, 64⟩)] ⟨72, 7, 72, 64⟩) [.Return (some (.Constant (.bool false) 0 ⟨73, 15, 73, 20⟩)) ⟨73, 8, 73, 20⟩] [] ⟨72, 4, 73, 20⟩,
      .Return (some (.Call (.Name "all" ⟨74, 11, 74, 14⟩) [(.ListComp (.Call (.Name "is_chance" ⟨74, 16, 74, 25⟩) [(.Name "chance" ⟨74, 26, 74, 32⟩)] [] ⟨74, 16, 74, 33⟩) [{ target := (.Name "chance" ⟨74, 38, 74, 44⟩), iter := (.Name "thing" ⟨74, 48, 74, 53⟩), ifs := [], is_async := 0 }] arc_body_sc1 ⟨74, 15, 74, 54⟩)] [] ⟨74, 11, 74, 55⟩)) ⟨74, 4, 74, 55⟩] :=
  rfl

def chI (t b : Int) : Bool := (decide (1 ≤ b) && decide (b ≤ 1000)) && ((decide (0 ≤ t) && decide (t ≤ b)) && decide (Nat.gcd t.toNat b.toNat = 1))
def chP : D → D → Bool
  | .int t, .int b => chI t b
  | _, _ => false
def chD : D → Bool
  | .tup [d, e] => chP d e
  | _ => false
def spIch (K : PySem.W.Frag) : Sp := fun vs H Q _ => ∃ d v, vs = [v] ∧ Has K H d v ∧ Q (.bl (chD d)) H
theorem chD_not2 {ds : List D} (h : ¬ ds.length = 2) : chD (.tup ds) = false := by
  match ds, h with
  | [], _ => rfl
  | [_], _ => rfl
  | [_, _], hn => exact absurd rfl hn
  | _ :: _ :: _ :: _, _ => rfl
def spChk (K : PySem.W.Frag) (CW : Addr) : Sp := fun vs H Q E => ∃ d v, vs = [v] ∧ Has K H d v ∧ (webD d = true → ∀ H', Same H H' → Q .non H') ∧ (webD d = false → ∀ e H', Same H H' → H' e = none → E (.ref CW) (some e) H')
def areD : D → D → Bool
  | .tup [_, .tup ts], .tup ds => decide (ds.length = ts.length) && ds.all chD
  | _, _ => false
def spArc (K : PySem.W.Frag) (CW : Addr) : Sp := fun vs H Q E => ∃ dw v d u, vs = [v, u] ∧ Has K H dw v ∧ Has K H d u ∧ (webD dw = true → ∀ H', Same H H' → Q (.bl (areD dw d)) H') ∧ (webD dw = false → ∀ e H', Same H H' → H' e = none → E (.ref CW) (some e) H')
section
variable {P : Program} {w : World} {K : PySem.W.Frag} {mg : Str → Option Value} {base : Heap}
theorem scChk : FnScope ["thing"] ["thing"] (defScope sChk) := ⟨rfl, rfl, rfl, by decide +kernel, rfl, by decide +kernel, by decide +kernel⟩
theorem ok_chk {f CW : Addr} {fd : FuncData} (F : Fun K "check_web" "check_web" sChk f fd) (W : Fn P w K mg base 5 "is_web" ["thing"] (spWeb K)) (mW' : mg "NoWeb" = some (.ref CW))
    (hq : PySem.W.excIn K CW [.type "ValueError", .type "Exception", .type "BaseException", .type "object"] "ValueError.__new__" = true) : FnOk P w K mg base (CX1 P w) 6 f fd ["thing"] (spChk K CW) := by
  obtain ⟨fW, fdW, mW, kW, bW, GW⟩ := W.ex
  refine F.okX scChk (fun vs H Q E h => ?_) (fun cdv A outer s H vs Q E hr h => ?_)
  · obtain ⟨d, v, rfl, _⟩ := h; rfl
  · obtain ⟨d, v, rfl, hd, q1, q2⟩ := h
    rw [chk_body]
    refine ⟨_, pss_one (ps_if (pt_not (pt_val (pe_call GW hr rfl mW kW bW .nil pass0 (pa_cons (pv 0) pa_nil)))) (pss_one (ps_raise canRaise1 rfl rfl mW' hq (pa_cons pe_str pa_nil))) pss_nil), ?_⟩
    refine ⟨_, rfl, d, v, rfl, hd, fun H1 s1 => ⟨_, rfl, ?_⟩⟩
    cases e : webD d with
    | true => exact iteF (q1 e H1 s1)
    | false => exact iteT ⟨small64 (by show 1 ≤ 64; decide), fun x hx => q2 e x H1 s1 hx⟩
theorem scIch : FnScope ["thing", "top", "bottom"] ["thing"] (defScope sIch) := ⟨rfl, rfl, rfl, by decide +kernel, rfl, by decide +kernel, by decide +kernel⟩
theorem ok_ich {f : Addr} {fd : FuncData} (F : Fun K "is_chance" "is_chance" sIch f fd) (T : Txt mg) (hmb : ∃ t, mg "MOST_BOTTOM" = some (.int 1000 t)) (W : Fn P w K mg base 1 "is_whole" ["thing"] (spWhole K)) (G : Fn P w K mg base 1 "common_divisor" ["one", "other"] spGcd) : FnOk P w K mg base CX0 2 f fd ["thing"] (spIch K) := by
  obtain ⟨fW, fdW, mW, kW, bW, GW⟩ := W.ex
  obtain ⟨fG, fdG, mG, kG, bG, GG⟩ := G.ex
  obtain ⟨tk, hmb⟩ := hmb
  refine F.ok scIch (fun vs H Q E h => ?_) (fun cdv A outer s H vs Q E hr h => ?_)
  · obtain ⟨d, v, rfl, _⟩ := h; rfl
  · obtain ⟨d, v, rfl, hd, q⟩ := h
    rw [ich_body]
    refine ⟨_, pss_cons (ps_if (PW.pt (pw_or (pt_not (pt_val (pe_callB call_isD rfl T.isin b_isinstance (pa_cons (pv 0) (pa_cons (pe_bltn (v := .ty "tuple") rfl T.tuple b_tuple rfl) pa_nil)))))
        (pw_or1 (pt_cmpR op_ne (pe_callB call_len_seq rfl T.len b_len (pa_cons (pv 0) pa_nil)) pe_int (nomark _))))) (pss_one (ps_ret pe_bl)) pss_nil)
      (pss_cons (ps_asg (pv 0) (pg_tup rfl (pgs_cons (pg_name (i := 1) scIch.nd rfl (Or.inl rfl)) (pgs_cons (pg_name (i := 2) scIch.nd rfl (Or.inl rfl)) pgs_nil))))
      (pss_cons (ps_if (PW.pt (pw_or (pt_not (pt_val (pe_call GW hr rfl mW kW bW .nil pass0 (pa_cons (pv 1) pa_nil)))) (pw_or1 (pt_not (pt_val (pe_call GW hr rfl mW kW bW .nil pass0 (pa_cons (pv 2) pa_nil))))))) (pss_one (ps_ret pe_bl)) pss_nil)
      (pss_cons (ps_if (PW.pt (pw_or (pt_not (pt_chain op_le op_le pe_int (pv 2) (pe_glob (v := .int 1000) rfl hmb ⟨_, rfl⟩))) (pw_or1 (pt_not (pt_chain op_le op_le pe_int (pv 1) (pv 2)))))) (pss_one (ps_ret pe_bl)) pss_nil)
      (pss_one (ps_ret (pe_cmpR op_eq (pe_call GG hr rfl mG kG bG .nil pass0 (pa_cons (pv 1) (pa_cons (pv 2) pa_nil))) pe_int (nomark _))))))), ?_⟩
    have q0 : ∀ b, chD d = b → Q (.bl b) H := fun b e => by rw [← e]; exact q
    refine ⟨_, rfl, d, v, "tuple", rfl, hd, by simp, _, rfl, ?_⟩
    cases e : isB d.ty "tuple" with
    | false =>
      refine iteT (iteT ?_)
      exact q0 false (by cases d <;> first | rfl | (simp [D.ty, isB] at e))
    | true =>
      refine iteF ?_
      obtain ⟨ds, rfl⟩ := tup_of e
      have hd' := hd
      unfold Has at hd'
      obtain ⟨a, xs, rfl, hq, hall⟩ := hd'
      have hlen := hall.length
      refine ⟨_, rfl, a, xs, rfl, .inr hq, rfl, _, rfl, ?_⟩
      refine ite2 (fun e2 => ?_) (fun e2 => ?_)
      · exact q0 false (chD_not2 fun z => by rw [← hlen] at z; simp [z] at e2)
      · have h2 : xs.length = 2 := by
          have : ¬ ((!decide (V.int (xs.length : Int) = V.int 2)) = true) := e2
          simp at this
          omega
        obtain ⟨d1, d2, x, y, rfl, rfl, hx, hy⟩ := two_of hall h2
        refine ⟨_, rfl, a, [x, y], rfl, hq, rfl, _, _, rfl, _, _, rfl, rfl, ?_⟩
        refine ⟨_, rfl, d1, x, rfl, hx, _, rfl, ?_⟩
        cases h1 : wholeD d1 with
        | false =>
          refine iteT (iteT ?_)
          exact q0 false (by cases d1 <;> first | rfl | (simp [wholeD] at h1))
        | true =>
          refine iteF ?_
          refine ⟨_, rfl, d2, y, rfl, hy, _, rfl, ?_⟩
          obtain ⟨i, rfl⟩ : ∃ i, d1 = .int i := by cases d1 <;> first | exact ⟨_, rfl⟩ | (simp [wholeD] at h1)
          cases h3 : wholeD d2 with
          | false =>
            refine iteT ?_
            exact q0 false (by cases d2 <;> first | rfl | (simp [wholeD] at h3))
          | true =>
            refine iteF ?_
            obtain ⟨j, rfl⟩ : ∃ j, d2 = .int j := by cases d2 <;> first | exact ⟨_, rfl⟩ | (simp [wholeD] at h3)
            unfold Has at hx hy
            subst hx hy
            have qq : ∀ b, chI i j = b → Q (.bl b) H := fun b e => q0 b e
            refine ⟨_, rfl, _, _, rfl, rfl, _, rfl, ?_⟩
            refine ite2 (fun e3 => ?_) (fun e3 => ?_)
            · refine ⟨_, _, rfl, rfl, _, rfl, ?_⟩
              refine ite2 (fun e4 => ?_) (fun e4 => ?_)
              · refine iteT ?_
                exact qq false (by unfold chI; rw [show decide (j ≤ 1000) = false by simpa using e4]; simp)
              · refine ⟨_, rfl, _, _, rfl, rfl, _, rfl, ?_⟩
                have j1 : 1 ≤ j := of_decide_eq_true e3
                have j2 : j ≤ 1000 := by simpa using e4
                refine ite2 (fun e5 => ?_) (fun e5 => ?_)
                · refine ⟨_, rfl, _, _, rfl, rfl, _, rfl, ?_⟩
                  have i1 : 0 ≤ i := of_decide_eq_true e5
                  refine ite2 (fun e6 => ?_) (fun e6 => ?_)
                  · exact qq false (by unfold chI; rw [show decide (i ≤ j) = false by simpa using e6]; simp)
                  · have i2 : i ≤ j := by simpa using e6
                    obtain ⟨a', rfl⟩ := Int.eq_ofNat_of_zero_le i1
                    obtain ⟨b', rfl⟩ := Int.eq_ofNat_of_zero_le (show 0 ≤ j by omega)
                    refine ⟨_, rfl, _, rfl, a', b', rfl, rfl, ?_⟩
                    refine qq _ ?_
                    unfold chI
                    rw [decide_eq_true j1, decide_eq_true j2, decide_eq_true i1, decide_eq_true i2]
                    simp only [Bool.true_and, Int.toNat_natCast]
                    rw [dec_int]
                    rw [Bool.eq_iff_iff, decide_eq_true_iff, beq_iff_eq]
                    omega
                · exact ⟨_, rfl, qq false (by unfold chI; rw [show decide (0 ≤ i) = false by simpa using e5]; simp)⟩
            · refine ⟨_, rfl, iteT (iteT ?_)⟩
              exact qq false (by unfold chI; rw [show decide (1 ≤ j) = false by simpa using e3]; simp)
theorem scArc : FnScope ["web", "thing"] ["web", "thing"] (defScope sArc) := ⟨rfl, rfl, rfl, by decide +kernel, rfl, by decide +kernel, by decide +kernel⟩
theorem ndArc : (nComp ["chance"] []).Nodup := by decide +kernel
theorem compArc : compOk arc_body_sc1 (defScope sArc) ["web", "thing"] ["chance"] [] = true := by decide +kernel
theorem web_shape {dw : D} (h : webD dw = true) : ∃ m ts, dw = .tup [.int m, .tup ts] ∧ ts.length ≤ 8 := by
  obtain ⟨ds, rfl⟩ : ∃ ds, dw = .tup ds := by cases dw <;> first | exact ⟨_, rfl⟩ | (simp [webD] at h)
  match ds, h with
  | [d1, d2], h =>
    have h : webI d1 d2 = true := h
    obtain ⟨m, rfl⟩ : ∃ m, d1 = .int m := by cases d1 <;> first | exact ⟨_, rfl⟩ | (simp [webI] at h)
    have h : (decide (1 ≤ m) && (decide (m ≤ 6) && tiesD m d2)) = true := h
    (simp only [Bool.and_eq_true] at h)
    obtain ⟨_, _, h3⟩ := h
    obtain ⟨ts, rfl⟩ : ∃ ts, d2 = .tup ts := by cases d2 <;> first | exact ⟨_, rfl⟩ | (simp [tiesD] at h3)
    refine ⟨m, ts, rfl, ?_⟩
    have h3 : (decide (ts.length ≤ 8) && ((ts.map (tieD m)).all id && chainD ts)) = true := h3
    simp only [Bool.and_eq_true] at h3
    exact of_decide_eq_true h3.1
theorem ok_arc {f CW : Addr} {fd : FuncData} (F : Fun K "are_chances" "are_chances" sArc f fd) (T : Txt mg) {fC : Addr} {fdC : FuncData} (mC : mg "check_web" = some (.ref fC)) (kC : PySem.W.keepIn K (.ref fC) = true) (bC : Binds K fdC ["thing"] [])
    (GC : FnOk P w K mg base (CX1 P w) 6 fC fdC ["thing"] (spChk K CW)) (I : Fn P w K mg base 2 "is_chance" ["thing"] (spIch K)) : FnOk P w K mg base (CX1 P w) 7 f fd ["web", "thing"] (spArc K CW) := by
  obtain ⟨fI, fdI, mI, kI, bI, GI⟩ := I.ex
  refine F.okX scArc (fun vs H Q E h => ?_) (fun cdv A outer s H vs Q E hr h => ?_)
  · obtain ⟨dw, v, d, u, rfl, _⟩ := h; rfl
  · obtain ⟨dw, v, d, u, rfl, hw, hd, q1, q2⟩ := h
    rw [arc_body]
    refine ⟨_, pss_cons (ps_expr (pe_call GC hr rfl mC kC bC .nil pass1 (pa_cons (pv 0) pa_nil)))
      (pss_cons (ps_if (PW.pt (pw_or (pt_not (pt_val (pe_callB call_isD rfl T.isin b_isinstance (pa_cons (pv 1) (pa_cons (pe_bltn (v := .ty "tuple") rfl T.tuple b_tuple rfl) pa_nil)))))
        (pw_or1 (pt_cmpR op_ne (pe_callB call_len_seq rfl T.len b_len (pa_cons (pv 1) pa_nil)) (pe_callB call_len_seq rfl T.len b_len (pa_cons (pe_ix ix_tup (pv 0) pe_int (fun _ _ => rfl)) pa_nil)) (nomark _))))) (pss_one (ps_ret pe_bl)) pss_nil)
      (pss_one (ps_ret (pe_callB (call_all rfl) rfl T.all b_all (pa_cons (pe_comp (own := ["chance"]) (capt := []) rfl (by exact CompSc.of (scX := defScope sArc) (N := ["web", "thing"]) rfl rfl compArc) (pi_tup (pv 1)) (fun cl C s H fp => pg_name (i := 0) ndArc rfl (Or.inl rfl)) (fun cl C s H fp => pts_nil)
          (fun cl C s H fp => pe_call GI (hr.mono (by decide)) rfl mI kI bI .nil pass0 (pa_cons (pv 0) pa_nil))) pa_nil))))), ?_⟩
    refine ⟨_, rfl, dw, v, rfl, hw, fun e1 H1 s1 => ?_, fun e1 x H1 s1 hx => q2 e1 x H1 s1 hx⟩
    obtain ⟨m, ts, rfl, ht8⟩ := web_shape e1
    have hw1 := hw.same s1
    have hd1 := hd.same s1
    have q0 : ∀ b, areD (.tup [.int m, .tup ts]) d = b → Q (.bl b) H1 := fun b e => by rw [← e]; exact q1 e1 H1 s1
    refine ⟨_, rfl, d, u, "tuple", rfl, hd1, by simp, _, rfl, ?_⟩
    cases e : isB d.ty "tuple" with
    | false =>
      refine iteT (iteT ?_)
      exact q0 false (by cases d <;> first | rfl | (simp [D.ty, isB] at e))
    | true =>
      refine iteF ?_
      obtain ⟨ds, rfl⟩ := tup_of e
      unfold Has at hd1 hw1
      obtain ⟨a, xs, rfl, hq, hall⟩ := hd1
      have hlen := hall.length
      obtain ⟨aw, ws, rfl, hqw, hallw⟩ := hw1
      obtain ⟨dd1, dd2, x, y, ew, rfl, hx, hy⟩ := two_of hallw (by rw [hallw.length]; rfl)
      cases ew
      unfold Has at hy
      obtain ⟨at_, ys, rfl, hqt, hallt⟩ := hy
      refine ⟨_, rfl, a, xs, rfl, .inr hq, _, rfl, aw, [x, .ref at_], 1, .ref at_, rfl, rfl, hqw, rfl, at_, ys, rfl, .inr hqt, rfl, _, rfl, ?_⟩
      have ar : areD (.tup [.int m, .tup ts]) (.tup ds) = (decide (ds.length = ts.length) && ds.all chD) := rfl
      have hl2 := hallt.length
      refine ite2 (fun e2 => ?_) (fun e2 => ?_)
      · refine q0 false ?_
        rw [ar, decide_eq_false (fun z => by rw [← hlen, ← hl2] at z; simp [z] at e2)]; rfl
      · have hll : ds.length = ts.length := by
          have : ¬ ((!decide (V.int (xs.length : Int) = V.int (ys.length : Int))) = true) := e2
          simp at this
          omega
        have hz1 : xs.length ≤ sizeLine := by rw [hlen, hll]; exact small64 (by omega)
        refine ⟨_, rfl, a, rfl, ⟨_, hq⟩, comp_tup (K := K) (xs := xs) (fun i zs H' => H' = H1 ∧ zs = ((ds.take i).map chD).map V.bl) hz1 ⟨rfl, rfl⟩ (fun i zs H' hi p => ?_) ?_ ?_⟩
        · obtain ⟨rfl, rfl⟩ := p
          exact ⟨hq, by simp only [List.length_map, List.length_take]; omega⟩
        · rintro i z zs H' hi ⟨rfl, rfl⟩
          obtain ⟨dz, e3, hz⟩ := hall.get hi
          refine gN (ttYes_of ?_)
          refine iteT ?_
          refine ⟨_, rfl, dz, z, rfl, hz, rfl, ?_⟩
          rw [List.take_succ, e3, List.map_append, List.map_append]; rfl
        · rintro zs H' p ⟨rfl, rfl⟩ hp
          refine ⟨p, _, rfl, SqL.of upd_same, ?_⟩
          have el : ds.take xs.length = ds := by rw [hlen]; exact List.take_length
          rw [el, List.all_map]
          have := q1 e1 (upd H' p (.lst (((ds.take xs.length).map chD).map V.bl))) (s1.trans (Same.new _ hp))
          rw [ar, decide_eq_true hll, Bool.true_and, el] at this
          exact this
end
end K3

namespace K3
open PySem L2
abbrev sLic : Stmt := top 42
abbrev sLar : Stmt := top 43
theorem lic_body : defBody sLic = [.If (.BoolOp .Or [(.UnaryOp .Not (.Call (.Name "isinstance" ⟨156, 11, 156, 21⟩) [(.Name "_law_thing" ⟨156, 22, 156, 32⟩), (.Name "tuple" ⟨156, 34, 156, 39⟩)] [] ⟨156, 11, 156, 40⟩) ⟨156, 7, 156, 40⟩), (.Compare (.Call (.Name "len" ⟨156, 44, 156, 47⟩) [(.Name "_law_thing" ⟨156, 48, 156, 58⟩)] [] ⟨156, 44, 156, 59⟩) [.NotEq] [(.Constant (.int 2) 0 ⟨156, 63, 156, 64⟩)] ⟨156, 44, 156, 64⟩), (.UnaryOp .Not (.Call (.Name "_law_whole" ⟨156, 73, 156, 83⟩) [(.Subscript (.Name "_law_thing" ⟨156, 84, 156, 94⟩) (.Constant (.int 0) 0 ⟨156, 95, 156, 96⟩) ⟨156, 84, 156, 97⟩)] [] ⟨156, 73, 156, 98⟩) ⟨156, 69, 156, 98⟩), (.UnaryOp .Not (.Call (.Name "_law_whole" ⟨156, 108, 156, 118⟩) [(.Subscript (.Name "_law_thing" ⟨156, 119, 156, 129⟩) (.Constant (.int 1) 0 ⟨156, 130, 156, 131⟩) ⟨156, 119, 156, 132⟩)] [] ⟨156, 108, 156, 133⟩) ⟨156, 104, 156, 133⟩)] ⟨156, 7, 156, 134⟩) [.Return (some (.Constant (.bool false) 0 ⟨157, 15, 157, 20⟩)) ⟨157, 8, 157, 20⟩] [] ⟨156, 4, 157, 20⟩,
      .If (.BoolOp .Or [(.UnaryOp .Not (.Compare (.Constant (.int 1) 0 ⟨158, 11, 158, 12⟩) [.LtE, .LtE] [(.Subscript (.Name "_law_thing" ⟨158, 16, 158, 26⟩) (.Constant (.int 1) 0 ⟨158, 27, 158, 28⟩) ⟨158, 16, 158, 29⟩), (.Constant (.int 1000) 0 ⟨158, 33, 158, 37⟩)] ⟨158, 11, 158, 37⟩) ⟨158, 7, 158, 37⟩), (.UnaryOp .Not (.Compare (.Constant (.int 0) 0 ⟨158, 45, 158, 46⟩) [.LtE, .LtE] [(.Subscript (.Name "_law_thing" ⟨158, 50, 158, 60⟩) (.Constant (.int 0) 0 ⟨158, 61, 158, 62⟩) ⟨158, 50, 158, 63⟩), (.Subscript (.Name "_law_thing" ⟨158, 67, 158, 77⟩) (.Constant (.int 1) 0 ⟨158, 78, 158, 79⟩) ⟨158, 67, 158, 80⟩)] ⟨158, 45, 158, 80⟩) ⟨158, 41, 158, 80⟩)] ⟨158, 7, 158, 80⟩) [.Return (some (.Constant (.bool false) 0 ⟨159, 15, 159, 20⟩)) ⟨159, 8, 159, 20⟩] [] ⟨158, 4, 159, 20⟩,
      .Return (some (.Compare (.Call (.Name "_law_lowest" ⟨160, 11, 160, 22⟩) [(.Subscript (.Name "_law_thing" ⟨160, 23, 160, 33⟩) (.Constant (.int 0) 0 ⟨160, 34, 160, 35⟩) ⟨160, 23, 160, 36⟩), (.Subscript (.Name "_law_thing" ⟨160, 38, 160, 48⟩) (.Constant (.int 1) 0 ⟨160, 49, 160, 50⟩) ⟨160, 38, 160, 51⟩)] [] ⟨160, 11, 160, 52⟩) [.Eq] [(.Name "_law_thing" ⟨160, 56, 160, 66⟩)] ⟨160, 11, 160, 66⟩)) ⟨160, 4, 160, 66⟩] :=
  rfl
abbrev lar_body_sc1 : Scope := { kind := .function, names := [(".0", .local), ("_law_one", .local), ("_law_is_chance", .globalImplicit)], isGenerator := false, isCoroutine := false, more := [] }
theorem lar_body : defBody sLar = [.If (.BoolOp .Or [(.UnaryOp .Not (.Call (.Name "isinstance" ⟨162, 11, 162, 21⟩) [(.Name "_law_thing" ⟨162, 22, 162, 32⟩), (.Name "tuple" ⟨162, 34, 162, 39⟩)] [] ⟨162, 11, 162, 40⟩) ⟨162, 7, 162, 40⟩), (.Compare (.Call (.Name "len" ⟨162, 44, 162, 47⟩) [(.Name "_law_thing" ⟨162, 48, 162, 58⟩)] [] ⟨162, 44, 162, 59⟩) [.NotEq] [(.Call (.Name "len" ⟨162, 63, 162, 66⟩) [(.Subscript (.Name "_law_web_here" ⟨162, 67, 162, 80⟩) (.Constant (.int 1) 0 ⟨162, 81, 162, 82⟩) ⟨162, 67, 162, 83⟩)] [] ⟨162, 63, 162, 84⟩)] ⟨162, 44, 162, 84⟩)] ⟨162, 7, 162, 84⟩) [.Return (some (.Constant (.bool false) 0 ⟨163, 15, 163, 20⟩)) ⟨163, 8, 163, 20⟩] [] ⟨162, 4, 163, 20⟩,
      .Return (some (.Compare (.ListComp (.Name "_law_one" ⟨164, 12, 164, 20⟩) [{ target := (.Name "_law_one" ⟨164, 25, 164, 33⟩), iter := (.Name "_law_thing" ⟨164, 37, 164, 47⟩), ifs := [(.UnaryOp .Not (.Call (.Name "_law_is_chance" ⟨164, 55, 164, 69⟩) [(.Name "_law_one" ⟨164, 70, 164, 78⟩)] [] ⟨164, 55, 164, 79⟩) ⟨164, 51, 164, 79⟩)], is_async := 0 }] lar_body_sc1 ⟨164, 11, 164, 80⟩) [.Eq] [(.List [] ⟨164, 84, 164, 86⟩)] ⟨164, 11, 164, 86⟩)) ⟨164, 4, 164, 86⟩] :=
  rfl

def spLic (K : PySem.W.Frag) : Sp := fun vs H Q _ => ∃ d v, vs = [v] ∧ Has K H d v ∧ ∀ H', Same H H' → Q (.bl (chD d)) H'
def spLar (K : PySem.W.Frag) : Sp := fun vs H Q _ => ∃ m ts v d u, vs = [v, u] ∧ Has K H (.tup [.int m, .tup ts]) v ∧ ts.length ≤ 8 ∧ Has K H d u ∧ ∀ H', Same H H' → Q (.bl (areD (.tup [.int m, .tup ts]) d)) H'
theorem low_one {t b : Nat} (hb : 0 < b) : decide ([((t / Nat.gcd t b : Nat) : Int), ((b / Nat.gcd t b : Nat) : Int)] = [(t : Int), (b : Int)]) = decide (Nat.gcd t b = 1) := by
  rw [decide_eq_decide]
  constructor
  · intro h
    have h2 : ((b / Nat.gcd t b : Nat) : Int) = b := by simpa using (List.cons.inj (List.cons.inj h).2).1
    have h3 : b / Nat.gcd t b = b := by omega
    have g0 : 0 < Nat.gcd t b := Nat.gcd_pos_of_pos_right _ hb
    by_cases h4 : Nat.gcd t b = 1
    · exact h4
    · have := Nat.div_lt_self hb (show 1 < Nat.gcd t b by omega)
      omega
  · intro h
    rw [h, Nat.div_one, Nat.div_one]
section
variable {P : Program} {w : World} {K : PySem.W.Frag} {mg : Str → Option Value} {base : Heap}
theorem scLic : FnScope ["_law_thing"] ["_law_thing"] (defScope sLic) := ⟨rfl, rfl, rfl, by decide +kernel, rfl, by decide +kernel, by decide +kernel⟩
theorem ok_lic {f : Addr} {fd : FuncData} (F : Fun K "_law_is_chance" "_law_is_chance" sLic f fd) (T : Txt mg) (W : Fn P w K mg base 1 "_law_whole" ["_law_thing"] (spWhole K)) (G : Fn P w K mg base 1 "_law_lowest" ["_law_top", "_law_bottom"] spLow) : FnOk P w K mg base CX0 2 f fd ["_law_thing"] (spLic K) := by
  obtain ⟨fW, fdW, mW, kW, bW, GW⟩ := W.ex
  obtain ⟨fG, fdG, mG, kG, bG, GG⟩ := G.ex
  refine F.ok scLic (fun vs H Q E h => ?_) (fun cdv A outer s H vs Q E hr h => ?_)
  · obtain ⟨d, v, rfl, _⟩ := h; rfl
  · obtain ⟨d, v, rfl, hd, q⟩ := h
    rw [lic_body]
    refine ⟨_, pss_cons (ps_if (PW.pt (pw_or (pt_not (pt_val (pe_callB call_isD rfl T.isin b_isinstance (pa_cons (pv 0) (pa_cons (pe_bltn (v := .ty "tuple") rfl T.tuple b_tuple rfl) pa_nil)))))
        (pw_or (pt_cmpR op_ne (pe_callB call_len_seq rfl T.len b_len (pa_cons (pv 0) pa_nil)) pe_int (nomark _))
        (pw_or (pt_not (pt_val (pe_call GW hr rfl mW kW bW .nil pass0 (pa_cons (pe_ix ix_tup (pv 0) pe_int (fun _ _ => rfl)) pa_nil))))
        (pw_or1 (pt_not (pt_val (pe_call GW hr rfl mW kW bW .nil pass0 (pa_cons (pe_ix ix_tup (pv 0) pe_int (fun _ _ => rfl)) pa_nil))))))))) (pss_one (ps_ret pe_bl)) pss_nil)
      (pss_cons (ps_if (PW.pt (pw_or (pt_not (pt_chain op_le op_le pe_int (pe_ix ix_tup (pv 0) pe_int (fun _ _ => rfl)) pe_int)) (pw_or1 (pt_not (pt_chain op_le op_le pe_int (pe_ix ix_tup (pv 0) pe_int (fun _ _ => rfl)) (pe_ix ix_tup (pv 0) pe_int (fun _ _ => rfl))))))) (pss_one (ps_ret pe_bl)) pss_nil)
      (pss_one (ps_ret (pe_cmpR (op_eqT2 (hu_of hr)) (pe_call GG hr rfl mG kG bG .nil pass0 (pa_cons (pe_ix ix_tup (pv 0) pe_int (fun _ _ => rfl)) (pa_cons (pe_ix ix_tup (pv 0) pe_int (fun _ _ => rfl)) pa_nil))) (pv 0) (nomark _))))), ?_⟩
    have q0 : ∀ b, chD d = b → Q (.bl b) H := fun b e => by rw [← e]; exact q H (Same.refl H)
    refine ⟨_, rfl, d, v, "tuple", rfl, hd, by simp, _, rfl, ?_⟩
    cases e : isB d.ty "tuple" with
    | false =>
      refine iteT (iteT ?_)
      exact q0 false (by cases d <;> first | rfl | (simp [D.ty, isB] at e))
    | true =>
      refine iteF ?_
      obtain ⟨ds, rfl⟩ := tup_of e
      have hd' := hd
      unfold Has at hd'
      obtain ⟨a, xs, rfl, hq, hall⟩ := hd'
      have hlen := hall.length
      refine ⟨_, rfl, a, xs, rfl, .inr hq, rfl, _, rfl, ?_⟩
      refine ite2 (fun e2 => ?_) (fun e2 => ?_)
      · refine iteT ?_
        exact q0 false (chD_not2 fun z => by rw [← hlen] at z; simp [z] at e2)
      · have h2 : xs.length = 2 := by
          have : ¬ ((!decide (V.int (xs.length : Int) = V.int 2)) = true) := e2
          simp at this
          omega
        obtain ⟨d1, d2, x, y, rfl, rfl, hx, hy⟩ := two_of hall h2
        refine ⟨_, rfl, a, [x, y], 0, x, rfl, rfl, hq, rfl, d1, x, rfl, hx, _, rfl, ?_⟩
        cases h1 : wholeD d1 with
        | false =>
          refine iteT (iteT ?_)
          exact q0 false (by cases d1 <;> first | rfl | (simp [wholeD] at h1))
        | true =>
          refine iteF ?_
          refine ⟨_, rfl, a, [x, y], 1, y, rfl, rfl, hq, rfl, d2, y, rfl, hy, _, rfl, ?_⟩
          obtain ⟨i, rfl⟩ : ∃ i, d1 = .int i := by cases d1 <;> first | exact ⟨_, rfl⟩ | (simp [wholeD] at h1)
          cases h3 : wholeD d2 with
          | false =>
            refine iteT ?_
            exact q0 false (by cases d2 <;> first | rfl | (simp [wholeD] at h3))
          | true =>
            refine iteF ?_
            obtain ⟨j, rfl⟩ : ∃ j, d2 = .int j := by cases d2 <;> first | exact ⟨_, rfl⟩ | (simp [wholeD] at h3)
            unfold Has at hx hy
            subst hx hy
            have qq : ∀ b, chI i j = b → Q (.bl b) H := fun b e => q0 b e
            refine ⟨_, rfl, a, _, 1, .int j, rfl, rfl, hq, rfl, _, _, rfl, rfl, _, rfl, ?_⟩
            refine ite2 (fun e3 => ?_) (fun e3 => ?_)
            · refine ⟨_, _, rfl, rfl, _, rfl, ?_⟩
              refine ite2 (fun e4 => ?_) (fun e4 => ?_)
              · refine iteT ?_
                exact qq false (by unfold chI; rw [show decide (j ≤ 1000) = false by simpa using e4]; simp)
              · refine ⟨_, rfl, a, _, 0, .int i, rfl, rfl, hq, rfl, _, _, rfl, rfl, _, rfl, ?_⟩
                have j1 : 1 ≤ j := of_decide_eq_true e3
                have j2 : j ≤ 1000 := by simpa using e4
                refine ite2 (fun e5 => ?_) (fun e5 => ?_)
                · refine ⟨_, rfl, a, _, 1, .int j, rfl, rfl, hq, rfl, _, _, rfl, rfl, _, rfl, ?_⟩
                  have i1 : 0 ≤ i := of_decide_eq_true e5
                  refine ite2 (fun e6 => ?_) (fun e6 => ?_)
                  · exact qq false (by unfold chI; rw [show decide (i ≤ j) = false by simpa using e6]; simp)
                  · have i2 : i ≤ j := by simpa using e6
                    obtain ⟨a', rfl⟩ := Int.eq_ofNat_of_zero_le i1
                    obtain ⟨b', rfl⟩ := Int.eq_ofNat_of_zero_le (show 0 ≤ j by omega)
                    refine ⟨_, rfl, a, _, 0, .int a', rfl, rfl, hq, rfl, _, rfl, a, _, 1, .int b', rfl, rfl, hq, rfl, a', b', rfl, by omega, by omega, fun l hl => ?_⟩
                    refine ⟨_, rfl, l, a, [_, _], [_, _], rfl, rfl, SqT.of upd_same, (Same.new _ hl).sqT hq, ?_⟩
                    rw [low_one (by omega)]
                    have := q _ (Same.new (.tup [.int ((a' / Nat.gcd a' b' : Nat) : Int), .int ((b' / Nat.gcd a' b' : Nat) : Int)]) hl)
                    have ec : chD (.tup [.int (a' : Int), .int (b' : Int)]) = decide (Nat.gcd a' b' = 1) := by
                      show chI a' b' = _
                      unfold chI
                      rw [decide_eq_true j1, decide_eq_true j2, decide_eq_true i1, decide_eq_true i2]
                      simp only [Bool.true_and, Int.toNat_natCast]
                    rw [ec] at this
                    exact this
                · exact ⟨_, rfl, qq false (by unfold chI; rw [show decide (0 ≤ i) = false by simpa using e5]; simp)⟩
            · refine ⟨_, rfl, iteT (iteT ?_)⟩
              exact qq false (by unfold chI; rw [show decide (1 ≤ j) = false by simpa using e3]; simp)
end
end K3

namespace K3
open PySem L2
/-! ### displays of constants: the very thing -/
def cDs (f : Expr → Option D) : List Expr → Option (List D)
  | [] => some []
  | e :: r => match f e, cDs f r with
    | some one, some rest => some (one :: rest)
    | _, _ => none
def conD : Const → Option D
  | .int i => some (.int i)
  | .bool b => some (.bl b)
  | .none => some .non
  | .str x => some (.str x)
  | _ => Option.none
def repD : Option D → Int → Option D
  | some (.tup ds), i => if i = 9 ∧ 9 * ds.length ≤ 1000 then some (.tup (List.replicate 9 ds).flatten) else none
  | _, _ => none
def multC : Operator → Bool
  | .Mult => true
  | _ => false
theorem multC_of {o : Operator} (h : multC o = true) : o = .Mult := by
  cases o <;> first | rfl | cases h
def cDS (r : Expr → Option D) : Expr → Option D
  | .Constant c _ _ => conD c
  | .Tuple es _ _ => if es.length ≤ 100 then (cDs r es).map .tup else none
  | .List es _ => if es.length ≤ 100 then (cDs r es).map .lst else none
  | .Dict ks vs _ => if ks.isEmpty = true ∧ vs.isEmpty = true then some .dct else none
  | .UnaryOp op e _ => if usubC op = true then (intC e).map fun i => .int (-i) else none
  | .BinOp a op b _ => if multC op = true then (intC b).bind fun i => repD (r a) i else none
  | _ => none
def cD : Nat → Expr → Option D
  | 0, _ => none
  | n + 1, e => cDS (cD n) e
def StAt (st : Addr) (H : Hp) : Prop := ∃ n b, H st = some (.lst [.int n, .bl b])
def tD (K : PySem.W.Frag) (st : Addr) (d : D) : TE := fun _ H Q => StAt st H ∧ ∀ v H', Same H H' → Has K (hide st H') d v → Q v H'
def tDs (K : PySem.W.Frag) (st : Addr) (ds : List D) : TA := fun _ H Q => StAt st H ∧ ∀ xs H', Same H H' → HasAll K (hide st H') ds xs → Q xs H'
def tDl (K : PySem.W.Frag) (st : Addr) (ds : List D) : TE := fun _ H Q => StAt st H ∧ ∀ l xs H0, Same H H0 → H0 l = none → HasAll K (hide st H0) ds xs → Q (.ref l) (upd H0 l (.lst xs))
section
variable {X : Cx} {K : PySem.W.Frag} {st : Addr} {H H' : Hp}
theorem StAt.same (h : StAt st H) (s : Same H H') : StAt st H' := by obtain ⟨n, b, e⟩ := h; exact ⟨n, b, s _ _ e⟩
theorem StAt.ne {p : Addr} (h : StAt st H) (n : H p = none) : p ≠ st := fun z => by obtain ⟨_, _, e⟩ := h; rw [z, e] at n; cases n
theorem cDs_len {f : Expr → Option D} : ∀ {es : List Expr} {ds : List D}, cDs f es = some ds → ds.length = es.length
  | [], _, h => by cases h; rfl
  | e :: r, ds, h => by
    unfold cDs at h
    split at h
    · rename_i d1 ds1 h1 h2
      cases h
      rw [List.length_cons, List.length_cons, cDs_len h2]
    · cases h
theorem cD_star {n : Nat} {e : Expr} {d : D} (h : cD n e = some d) (es : List Expr) (env : Env) : starEach (e :: es) env = (false, eval e env) :: starEach es env := by
  cases n with
  | zero => cases h
  | succ n => cases e <;> first | rfl | (exfalso; replace h : cDS (cD n) _ = some d := h; cases h)
theorem cD_ok (hK : X.K = K) : ∀ (n : Nat), (∀ (e : Expr) (d : D), cD n e = some d → PE X e (tD K st d)) ∧ ∀ (es : List Expr) (ds : List D), cDs (cD n) es = some ds → PA X es (tDs K st ds) := by
  have fromE : ∀ n : Nat, (∀ (e : Expr) (d : D), cD n e = some d → PE X e (tD K st d)) → ∀ (es : List Expr) (ds : List D), cDs (cD n) es = some ds → PA X es (tDs K st ds) := by
    intro n hE es
    induction es with
    | nil =>
      intro ds h
      cases h
      exact PA.le pa_nil fun σ H Q ⟨_, q⟩ => q [] H (Same.refl H) .nil
    | cons e r ih =>
      intro ds h
      unfold cDs at h
      split at h
      · rename_i d1 ds1 h1 h2
        cases h
        exact PA.le (pa_cons (hE e d1 h1) (ih ds1 h2) (cD_star h1 r _)) fun σ H Q ⟨p, q⟩ => ⟨p, fun v H1 s1 w => ⟨p.same s1, fun xs H2 s2 a => q (v :: xs) H2 (s1.trans s2) (.cons (w.same (hide_up s2)) a)⟩⟩
      · cases h
  intro n
  induction n with
  | zero =>
    have h0 : ∀ (e : Expr) (d : D), cD 0 e = some d → PE X e (tD K st d) := fun e d h => by cases h
    exact ⟨h0, fromE 0 h0⟩
  | succ n ih =>
    obtain ⟨ihe, ihs⟩ := ih
    have hE : ∀ (e : Expr) (d : D), cD (n + 1) e = some d → PE X e (tD K st d) := by
      intro e d h
      replace h : cDS (cD n) e = some d := h
      cases e with
      | Constant k0 j p =>
        replace h : conD k0 = some d := h
        cases k0 with
        | int i => cases h; exact PE.le pe_int fun σ H Q ⟨_, q⟩ => q _ H (Same.refl H) (.int _)
        | bool b => cases h; exact PE.le pe_bl fun σ H Q ⟨_, q⟩ => q _ H (Same.refl H) (.bl _)
        | none => cases h; exact PE.le pe_non fun σ H Q ⟨_, q⟩ => q _ H (Same.refl H) .non
        | str x => cases h; exact PE.le pe_str fun σ H Q ⟨_, q⟩ => q _ H (Same.refl H) (.str _)
        | _ => cases h
      | Tuple es k0 p0 =>
        replace h : (if es.length ≤ 100 then (cDs (cD n) es).map D.tup else none) = some d := h
        by_cases hz : es.length ≤ 100
        · rw [if_pos hz] at h
          obtain ⟨ds, hds, rfl⟩ := Option.map_eq_some_iff.mp h
          have hl := cDs_len hds
          exact PE.le (pe_tup (ihs _ _ hds)) fun σ H Q ⟨p, q⟩ => ⟨p, fun xs H1 s1 a => ⟨le1000 (by have := a.length; omega), fun b hb => by
            have s2 := Same.new (.tup xs) hb
            exact q _ _ (s1.trans s2) (.tup (SqT.of (hide_get upd_same ((p.same s1).ne hb))) (a.same (hide_up s2)))⟩⟩
        · rw [if_neg hz] at h; cases h
      | List es p0 =>
        replace h : (if es.length ≤ 100 then (cDs (cD n) es).map D.lst else none) = some d := h
        by_cases hz : es.length ≤ 100
        · rw [if_pos hz] at h
          obtain ⟨ds, hds, rfl⟩ := Option.map_eq_some_iff.mp h
          have hl := cDs_len hds
          exact PE.le (pe_lst (ihs _ _ hds)) fun σ H Q ⟨p, q⟩ => ⟨p, fun xs H1 s1 a => ⟨le1000 (by have := a.length; omega), fun b hb => by
            have s2 := Same.new (.lst xs) hb
            exact q _ _ (s1.trans s2) (.lst (SqL.of (hide_get upd_same ((p.same s1).ne hb))) (a.same (hide_up s2)))⟩⟩
        · rw [if_neg hz] at h; cases h
      | Dict ks vs p0 =>
        replace h : (if ks.isEmpty = true ∧ vs.isEmpty = true then some D.dct else none) = some d := h
        by_cases hh : ks.isEmpty = true ∧ vs.isEmpty = true
        · rw [if_pos hh] at h; cases h
          rw [List.isEmpty_iff.mp hh.1, List.isEmpty_iff.mp hh.2]
          exact PE.le pe_dnew fun σ H Q ⟨p, q⟩ => fun b hb => q _ _ (Same.new _ hb) (.dct (hide_get upd_same (p.ne hb)))
        · rw [if_neg hh] at h; cases h
      | UnaryOp op e p0 =>
        replace h : (if usubC op = true then (intC e).map fun i => D.int (-i) else none) = some d := h
        by_cases hh : usubC op = true
        · rw [if_pos hh] at h
          obtain ⟨i, hi, e1⟩ := Option.map_eq_some_iff.mp h
          obtain ⟨j, p, rfl⟩ := intC_of hi
          cases usubC_of hh
          cases e1
          exact PE.le (pe_un un_neg pe_int) fun σ H Q ⟨_, q⟩ => ⟨_, rfl, q _ H (Same.refl H) (.int _)⟩
        · rw [if_neg hh] at h; cases h
      | BinOp a op b p0 =>
        replace h : (if multC op = true then (intC b).bind fun i => repD (cD n a) i else none) = some d := h
        by_cases hh : multC op = true
        case neg => rw [if_neg hh] at h; cases h
        rw [if_pos hh] at h
        replace h := Option.bind_eq_some_iff.mp h
        obtain ⟨i, hi, h⟩ := h
        obtain ⟨j, p, rfl⟩ := intC_of hi
        cases multC_of hh
        unfold repD at h
        split at h
        · rename_i ds h1
          split at h
          · rename_i hz
            cases h
            cases hz.1
            subst hK
            exact PE.le (pe_op op_mulT (ihe _ _ h1) pe_int) fun σ H Q ⟨p, q⟩ => ⟨p, fun v H1 s1 hv => by
              unfold Has at hv
              obtain ⟨a1, xs, e1, t1, a⟩ := hv
              have hl := a.length
              exact ⟨a1, 9, xs, e1, rfl, (hide_same st H1).sqT t1, by decide, by decide, le1000 (by show 9 * xs.length ≤ 1000; rw [hl]; exact hz.2), fun r H3 s3 t3 => q _ H3 (s1.trans s3) (.tup (sq_hide t3 (p.same (s1.trans s3))) (HasAll.rep (a.same (hide_up s3)) 9))⟩⟩
          · cases h
        · cases h
      | _ => cases h
    exact ⟨hE, fromE (n + 1) hE⟩
/-- a list display of constants -/
theorem cD_l (hK : X.K = K) (n : Nat) {es : List Expr} {ds : List D} {pos : Pos} (h : cDs (cD n) es = some ds) (hz : es.length ≤ 100) : PE X (.List es pos) (tDl K st ds) :=
  PE.le (pe_lst ((cD_ok hK n).2 es ds h)) fun σ H Q ⟨p, q⟩ => ⟨p, fun xs H1 s1 a => ⟨le1000 (by have := a.length; have := cDs_len h; omega), fun b hb => q b xs H1 s1 hb a⟩⟩
end
end K3

namespace K3
open PySem L2
abbrev sCha : Stmt := top 35
abbrev sChs : Stmt := top 36
/-- a pair of ints, as a drawn chance is -/
def pairOk : D → Bool
  | .tup [.int t, .int b] => decide (0 ≤ t) && (decide (t ≤ 1000) && (decide (1 ≤ b) && decide (b ≤ 1000)))
  | _ => false
theorem pair_of {d : D} (h : pairOk d = true) : ∃ t b : Int, d = .tup [.int t, .int b] ∧ 0 ≤ t ∧ t ≤ 1000 ∧ 1 ≤ b ∧ b ≤ 1000 := by
  obtain ⟨ds, rfl⟩ : ∃ ds, d = .tup ds := by cases d <;> first | exact ⟨_, rfl⟩ | (simp [pairOk] at h)
  match ds, h with
  | [d1, d2], h =>
    obtain ⟨t, rfl⟩ : ∃ t, d1 = .int t := by cases d1 <;> first | exact ⟨_, rfl⟩ | (simp [pairOk] at h)
    obtain ⟨b, rfl⟩ : ∃ b, d2 = .int b := by cases d2 <;> first | exact ⟨_, rfl⟩ | (simp [pairOk] at h)
    have h : (decide (0 ≤ t) && (decide (t ≤ 1000) && (decide (1 ≤ b) && decide (b ≤ 1000)))) = true := h
    simp only [Bool.and_eq_true, decide_eq_true_eq] at h
    exact ⟨t, b, rfl, h.1, h.2.1, h.2.2.1, h.2.2.2⟩
  | [], h => simp [pairOk] at h
  | [_], h => simp [pairOk] at h
  | _ :: _ :: _ :: _, h => simp [pairOk] at h
def spCha (K : PySem.W.Frag) : Sp := fun vs H Q _ => ∃ (st : Addr) (n : Int) (b : Bool), vs = [.ref st] ∧ H st = some (.lst [.int n, .bl b]) ∧ ∀ d v H', Adv st H H' → pairOk d = true → Has K (hide st H') d v → Q v H'
def spChs (K : PySem.W.Frag) : Sp := fun vs H Q _ => ∃ (st : Addr) (n : Int) (b : Bool) (m : Int) (ts : List D) (v : V), vs = [.ref st, v] ∧ H st = some (.lst [.int n, .bl b]) ∧ Has K (hide st H) (.tup [.int m, .tup ts]) v ∧ ts.length ≤ 8 ∧
  ∀ ds u H', Adv st H H' → ds.length = ts.length → (∀ d ∈ ds, pairOk d = true) → Has K (hide st H') (.tup ds) u → Q u H'
/-- a web that is none -/
def spBadW (K : PySem.W.Frag) : Sp := fun vs H Q _ => ∃ (st : Addr) (n : Int) (b : Bool), vs = [.ref st] ∧ H st = some (.lst [.int n, .bl b]) ∧ ∀ d v H', Adv st H H' → webD d = false → Has K (hide st H') d v → Q v H'
theorem bad_bodyW : ∃ (e0 e1 e2 : List Expr) (r : Expr) (a1 a2 a3 b1 b2 b3 b4 b5 c1 c2 c3 c4 c5 d1 : Pos), defBody sBad = [.Assign [.Name "_law_some" a1] (.List e0 a2) a3, .Assign [.Name "_law_some" b1] (.BinOp (.Name "_law_some" b2) .Add (.List e1 b3) b4) b5,
      .Assign [.Name "_law_some" c1] (.BinOp (.Name "_law_some" c2) .Add (.List e2 c3) c4) c5, .Return (some r) d1] ∧
    ((cDs (cD 8) e0).isSome = true ∧ e0.length = 12) ∧ ((cDs (cD 8) e1).isSome = true ∧ e1.length = 5) ∧ ((cDs (cD 8) e2).isSome = true ∧ e2.length = 8) ∧
    (((cDs (cD 8) e0).getD [] ++ (cDs (cD 8) e1).getD [] ++ (cDs (cD 8) e2).getD []).all fun d => !webD d) = true ∧
    ∃ (a1 a2 a3 a4 a5 a6 : Pos) (j : Nat), r = .Subscript (.Name "_law_some" a1) (.Call (.Name "_law_take" a2) [.Name "_law_state_here" a3, .Constant (.int 25) j a4] [] a5) a6 :=
  ⟨_, _, _, _, _, _, _, _, _, _, _, _, _, _, _, _, _, _, rfl, ⟨by decide +kernel, by decide +kernel⟩, ⟨by decide +kernel, by decide +kernel⟩, ⟨by decide +kernel, by decide +kernel⟩, by decide +kernel, _, _, _, _, _, _, _, rfl⟩
theorem cha_body : ∃ (e0 : List Expr), defBody sCha = [.Assign [(.Name "_law_some" ⟨110, 4, 110, 13⟩)] (.List e0 ⟨110, 16, 110, 97⟩) ⟨110, 4, 110, 97⟩,
      .Assign [(.Name "_law_way" ⟨111, 4, 111, 12⟩)] (.Call (.Name "_law_take" ⟨111, 15, 111, 24⟩) [(.Name "_law_state_here" ⟨111, 25, 111, 40⟩), (.Constant (.int 16) 0 ⟨111, 42, 111, 44⟩)] [] ⟨111, 15, 111, 45⟩) ⟨111, 4, 111, 45⟩,
      .If (.Compare (.Name "_law_way" ⟨112, 7, 112, 15⟩) [.Lt] [(.Constant (.int 9) 0 ⟨112, 18, 112, 19⟩)] ⟨112, 7, 112, 19⟩) [.Return (some (.Subscript (.Name "_law_some" ⟨113, 15, 113, 24⟩) (.Name "_law_way" ⟨113, 25, 113, 33⟩) ⟨113, 15, 113, 34⟩)) ⟨113, 8, 113, 34⟩] [] ⟨112, 4, 113, 34⟩,
      .Assign [(.Name "_law_bottom" ⟨114, 4, 114, 15⟩)] (.BinOp (.Constant (.int 1) 0 ⟨114, 18, 114, 19⟩) .Add (.Call (.Name "_law_take" ⟨114, 22, 114, 31⟩) [(.Name "_law_state_here" ⟨114, 32, 114, 47⟩), (.Subscript (.List [(.Constant (.int 12) 0 ⟨114, 50, 114, 52⟩), (.Constant (.int 1000) 0 ⟨114, 54, 114, 58⟩)] ⟨114, 49, 114, 59⟩) (.Call (.Name "_law_take" ⟨114, 60, 114, 69⟩) [(.Name "_law_state_here" ⟨114, 70, 114, 85⟩), (.Constant (.int 2) 0 ⟨114, 87, 114, 88⟩)] [] ⟨114, 60, 114, 89⟩) ⟨114, 49, 114, 90⟩)] [] ⟨114, 22, 114, 91⟩) ⟨114, 18, 114, 91⟩) ⟨114, 4, 114, 91⟩,
      .Return (some (.Call (.Name "_law_lowest" ⟨115, 11, 115, 22⟩) [(.Call (.Name "_law_take" ⟨115, 23, 115, 32⟩) [(.Name "_law_state_here" ⟨115, 33, 115, 48⟩), (.BinOp (.Name "_law_bottom" ⟨115, 50, 115, 61⟩) .Add (.Constant (.int 1) 0 ⟨115, 64, 115, 65⟩) ⟨115, 50, 115, 65⟩)] [] ⟨115, 23, 115, 66⟩), (.Name "_law_bottom" ⟨115, 68, 115, 79⟩)] [] ⟨115, 11, 115, 80⟩)) ⟨115, 4, 115, 80⟩] ∧ (cDs (cD 8) e0).isSome = true ∧ e0.length = 9 ∧ ((cDs (cD 8) e0).getD []).all pairOk = true :=
  ⟨_, rfl, by decide +kernel, by decide +kernel, by decide +kernel⟩
abbrev chs_body_sc1 : Scope := { kind := .function, names := [(".0", .local), ("_law_tie", .local), ("_law_chance", .globalImplicit), ("_law_state_here", .free)], isGenerator := false, isCoroutine := false, more := [] }
theorem chs_body : defBody sChs = [.Return (some (.Call (.Name "tuple" ⟨117, 11, 117, 16⟩) [(.ListComp (.Call (.Name "_law_chance" ⟨117, 18, 117, 29⟩) [(.Name "_law_state_here" ⟨117, 30, 117, 45⟩)] [] ⟨117, 18, 117, 46⟩) [{ target := (.Name "_law_tie" ⟨117, 51, 117, 59⟩), iter := (.Subscript (.Name "_law_web_here" ⟨117, 63, 117, 76⟩) (.Constant (.int 1) 0 ⟨117, 77, 117, 78⟩) ⟨117, 63, 117, 79⟩), ifs := [], is_async := 0 }] chs_body_sc1 ⟨117, 17, 117, 80⟩)] [] ⟨117, 11, 117, 81⟩)) ⟨117, 4, 117, 81⟩] :=
  rfl

theorem stAt {st : Addr} {H : Hp} {n : Int} {b : Bool} (h : H st = some (.lst [.int n, .bl b])) : StAt st H := ⟨n, b, h⟩
section
variable {P : Program} {w : World} {K : PySem.W.Frag} {mg : Str → Option Value} {base : Heap}
theorem ok_badW {f : Addr} {fd : FuncData} (F : Fun K "_law_bad_web" "_law_bad_web" sBad f fd) (TK : Fn P w K mg base 1 "_law_take" ["_law_state_here", "_law_many"] spTake) : FnOk P w K mg base CX0 2 f fd ["_law_state_here"] (spBadW K) := by
  obtain ⟨fT, fdT, mT, kT, bT, GT⟩ := TK.ex
  refine F.ok sc14 (fun vs H Q E h => ?_) (fun cdv A outer s H vs Q E hr h => ?_)
  · obtain ⟨st, n, b, rfl, _⟩ := h; rfl
  · obtain ⟨st, n, b, rfl, hst, q⟩ := h
    obtain ⟨e0, e1, e2, r, _, _, _, _, _, _, _, _, _, _, _, _, _, _, eb, ⟨h0, m0⟩, ⟨h1, m1⟩, ⟨h2, m2⟩, hall, _, _, _, _, _, _, _, rfl⟩ := bad_bodyW
    rw [eb]
    obtain ⟨d0, h0⟩ := Option.isSome_iff_exists.mp h0
    obtain ⟨d1, h1⟩ := Option.isSome_iff_exists.mp h1
    obtain ⟨d2, h2⟩ := Option.isSome_iff_exists.mp h2
    rw [h0, h1, h2] at hall
    have hall : ((d0 ++ d1 ++ d2).all fun d => !webD d) = true := hall
    have l0 := cDs_len h0
    have l1 := cDs_len h1
    have l2 := cDs_len h2
    refine ⟨_, pss_cons (ps_set (i := 1) sc14.nd rfl (Or.inl rfl) (cD_l (K := K) (st := st) rfl 8 h0 (by omega)))
      (pss_cons (ps_set (i := 1) sc14.nd rfl (Or.inl rfl) (pe_op op_cat (pv 1) (cD_l (K := K) (st := st) rfl 8 h1 (by omega))))
      (pss_cons (ps_set (i := 1) sc14.nd rfl (Or.inl rfl) (pe_op op_cat (pv 1) (cD_l (K := K) (st := st) rfl 8 h2 (by omega))))
      (pss_one (ps_ret (pe_ix ix_list (pv 1) (pe_call GT hr rfl mT kT bT .nil pass0 (pa_cons (pv 0) (pa_cons pe_int pa_nil))) (fun _ _ => rfl)))))), ?_⟩
    refine ⟨stAt hst, fun la xs H1 s1 hl1 a1 => ?_⟩
    have n1 := a1.length
    have t1 := s1.trans (Same.new (.lst xs) hl1)
    refine ⟨_, rfl, stAt (t1 _ _ hst), fun lb ys H2 s2 hl2 a2 => ?_⟩
    have n2 := a2.length
    have t2 := s2.trans (Same.new (.lst ys) hl2)
    refine ⟨la, lb, xs, ys, rfl, rfl, t2 _ _ upd_same, upd_same, small64 (by omega), fun lc hl3 => ?_⟩
    have t3 := (t1.trans t2).trans (Same.new (.lst (xs ++ ys)) hl3)
    refine ⟨_, rfl, stAt (t3 _ _ hst), fun ld zs H4 s4 hl4 a4 => ?_⟩
    have n4 := a4.length
    have t4 := s4.trans (Same.new (.lst zs) hl4)
    refine ⟨lc, ld, _, zs, rfl, rfl, t4 _ _ upd_same, upd_same, small64 (by rw [List.length_append]; omega), fun l5 hl5 => ?_⟩
    have t5 := t4.trans (Same.new (.lst (xs ++ ys ++ zs)) hl5)
    have hs5 := (t3.trans t5) _ _ hst
    refine ⟨_, rfl, _, rfl, st, n, b, 25, rfl, hs5, by decide, by decide, fun r n' r0 r1 => ?_⟩
    have l5st : l5 ≠ st := fun z => by rw [z, (t3.trans t4) _ _ hst] at hl5; cases hl5
    obtain ⟨x, ex, gx⟩ := at_in (xs := xs ++ ys ++ zs) r0 (by rw [List.length_append, List.length_append, n1, n2, n4, l0, l1, l2, m0, m1, m2]; exact r1)
    refine ⟨l5, _, r, x, rfl, rfl, SqL.of (by rw [upd_ne l5st]; exact upd_same), ex, ?_⟩
    have HA := HasAll.append (HasAll.append (a1.same (hide_up (st := st) ((((Same.new (.lst xs) hl1).trans t2).trans (Same.new (.lst (xs ++ ys)) hl3)).trans t5))) (a2.same (hide_up (st := st) (((Same.new (.lst ys) hl2).trans (Same.new (.lst (xs ++ ys)) hl3)).trans t5)))) (a4.same (hide_up (st := st) ((Same.new (.lst zs) hl4).trans (Same.new (.lst (xs ++ ys ++ zs)) hl5))))
    obtain ⟨d, ed, hd⟩ := HA.get gx
    refine q d _ _ ((adv_of hst (t3.trans t5)).turn n' b) ?_ ?_
    · have := List.all_eq_true.mp hall d (List.mem_of_getElem? ed)
      simpa using this
    · rw [hide_upd]; exact hd
theorem scCha : FnScope ["_law_state_here", "_law_some", "_law_way", "_law_bottom"] ["_law_state_here"] (defScope sCha) := ⟨rfl, rfl, rfl, by decide +kernel, rfl, by decide +kernel, by decide +kernel⟩
theorem ok_cha {f : Addr} {fd : FuncData} (F : Fun K "_law_chance" "_law_chance" sCha f fd) (TK : Fn P w K mg base 1 "_law_take" ["_law_state_here", "_law_many"] spTake) (LO : Fn P w K mg base 1 "_law_lowest" ["_law_top", "_law_bottom"] spLow) : FnOk P w K mg base CX0 2 f fd ["_law_state_here"] (spCha K) := by
  obtain ⟨fT, fdT, mT, kT, bT, GT⟩ := TK.ex
  obtain ⟨fL, fdL, mL, kL, bL, GL⟩ := LO.ex
  refine F.ok scCha (fun vs H Q E h => ?_) (fun cdv A outer s H vs Q E hr h => ?_)
  · obtain ⟨st, n, b, rfl, _⟩ := h; rfl
  · obtain ⟨st, n, b, rfl, hst, q⟩ := h
    obtain ⟨e0, eb, h0, m0, hall⟩ := cha_body
    rw [eb]
    clear eb
    obtain ⟨d0, h0⟩ := Option.isSome_iff_exists.mp h0
    rw [h0] at hall
    have hall : d0.all pairOk = true := hall
    have l0 := cDs_len h0
    refine ⟨_, pss_cons (ps_set (i := 1) scCha.nd rfl (Or.inl rfl) (cD_l (K := K) (st := st) rfl 8 h0 (by omega)))
      (pss_cons (ps_set (i := 2) scCha.nd rfl (Or.inl rfl) (pe_call GT hr rfl mT kT bT .nil pass0 (pa_cons (pv 0) (pa_cons pe_int pa_nil))))
      (pss_cons (ps_if (pt_cmpR op_lt (pv 2) pe_int (nomark _)) (pss_one (ps_ret (pe_ix ix_list (pv 1) (pv 2) (fun _ _ => rfl)))) pss_nil)
      (pss_cons (ps_set (i := 3) scCha.nd rfl (Or.inl rfl) (pe_op op_add pe_int (pe_call GT hr rfl mT kT bT .nil pass0 (pa_cons (pv 0) (pa_cons (pe_ix ix_list (pe_lst (pa_cons pe_int (pa_cons pe_int pa_nil))) (pe_call GT hr rfl mT kT bT .nil pass0 (pa_cons (pv 0) (pa_cons pe_int pa_nil))) (fun _ _ => rfl)) pa_nil)))))
      (pss_one (ps_ret (pe_call GL hr rfl mL kL bL .nil pass0 (pa_cons (pe_call GT hr rfl mT kT bT .nil pass0 (pa_cons (pv 0) (pa_cons (pe_op op_add (pv 3) pe_int) pa_nil))) (pa_cons (pv 3) pa_nil)))))))), ?_⟩
    refine ⟨stAt hst, fun la xs H1 s1 hl1 a1 => ?_⟩
    have n1 := a1.length
    have t1 := s1.trans (Same.new (.lst xs) hl1)
    have A1 := adv_of hst t1
    have hs1 := t1 _ _ hst
    have last : la ≠ st := fun z => by rw [z, s1 _ _ hst] at hl1; cases hl1
    refine ⟨_, rfl, st, n, b, 16, rfl, hs1, by decide, by decide, fun r n1' r0 r1 => ?_⟩
    have A2 := A1.turn n1' b
    refine ⟨_, rfl, _, _, rfl, rfl, _, rfl, ?_⟩
    refine ite2 (fun e => ?_) (fun e => ?_)
    · have r9 : r < 9 := of_decide_eq_true e
      obtain ⟨x, ex, gx⟩ := at_in (xs := xs) r0 (by rw [n1, l0, m0]; exact r9)
      refine ⟨_, rfl, _, rfl, la, xs, r, x, rfl, rfl, SqL.of (by rw [upd_ne last]; exact upd_same), ex, ?_⟩
      obtain ⟨d, ed, hd⟩ := (a1.same (hide_up (st := st) (Same.new (.lst xs) hl1))).get gx
      exact q d _ _ A2 (List.all_eq_true.mp hall d (List.mem_of_getElem? ed)) (by rw [hide_upd]; exact hd)
    · refine ⟨_, rfl, small64 (by show 2 ≤ 64; decide), fun lb hlb => ?_⟩
      have A3 := A2.new (.lst [.int 12, .int 1000]) hlb
      have lbst : lb ≠ st := fun z => by rw [z, upd_same] at hlb; cases hlb
      obtain ⟨n3, b3, e3⟩ := A3.st
      refine ⟨_, rfl, st, n3, b3, 2, rfl, e3, by decide, by decide, fun r2 n4 p0 p1 => ?_⟩
      have A4 := A3.turn n4 b3
      obtain ⟨mm, em, m1, m2⟩ : ∃ mm : Int, atI [V.int 12, .int 1000] r2 = some (.int mm) ∧ 1 ≤ mm ∧ mm ≤ 1000 := by
        have : r2 = 0 ∨ r2 = 1 := by omega
        rcases this with rfl | rfl
        · exact ⟨12, rfl, by decide, by decide⟩
        · exact ⟨1000, rfl, by decide, by decide⟩
      refine ⟨lb, _, r2, .int mm, rfl, rfl, SqL.of (by rw [upd_ne lbst]; exact upd_same), em, ?_⟩
      refine ⟨st, n4, b3, mm, rfl, upd_same, by omega, by omega, fun r5 n5 s0 s1' => ?_⟩
      have A5 := A4.turn n5 b3
      refine ⟨_, _, rfl, rfl, ?_⟩
      refine ⟨_, rfl, _, rfl, _, _, rfl, rfl, st, n5, b3, 1 + r5 + 1, rfl, upd_same, by omega, by omega, fun r6 n6 u0 u1 => ?_⟩
      have A6 := A5.turn n6 b3
      obtain ⟨ta, rfl⟩ := Int.eq_ofNat_of_zero_le u0
      obtain ⟨bo, ebo⟩ := Int.eq_ofNat_of_zero_le (show 0 ≤ 1 + r5 by omega)
      refine ⟨_, rfl, ta, bo, by show [V.int (ta : Int), V.int (1 + r5)] = _; rw [ebo], by omega, by omega, fun lz hlz => ?_⟩
      have lzst : lz ≠ st := fun z => by rw [z, upd_same] at hlz; cases hlz
      have A7 := A6.new (.tup [.int ((ta / Nat.gcd ta bo : Nat) : Int), .int ((bo / Nat.gcd ta bo : Nat) : Int)]) hlz
      have g0 : 0 < Nat.gcd ta bo := Nat.gcd_pos_of_pos_right _ (by omega)
      have d1 : ta / Nat.gcd ta bo ≤ ta := Nat.div_le_self _ _
      have d2 : bo / Nat.gcd ta bo ≤ bo := Nat.div_le_self _ _
      have d3 : 1 ≤ bo / Nat.gcd ta bo := (Nat.one_le_div_iff g0).mpr (Nat.gcd_le_right _ (by omega))
      refine q (.tup [.int ((ta / Nat.gcd ta bo : Nat) : Int), .int ((bo / Nat.gcd ta bo : Nat) : Int)]) _ _ A7 ?_ (.tup (SqT.of (hide_get upd_same lzst)) (.cons (.int _) (.cons (.int _) .nil)))
      have ta1 : ta ≤ 1000 := by omega
      have bo1 : bo ≤ 1000 := by omega
      simp only [pairOk, Bool.and_eq_true, decide_eq_true_eq]
      exact ⟨Int.natCast_nonneg _, Int.ofNat_le.mpr (Nat.le_trans d1 ta1), Int.ofNat_le.mpr d3, Int.ofNat_le.mpr (Nat.le_trans d2 bo1)⟩
theorem scChs : FnScope ["_law_state_here", "_law_web_here"] ["_law_state_here", "_law_web_here"] (defScope sChs) := ⟨rfl, rfl, rfl, by decide +kernel, rfl, by decide +kernel, by decide +kernel⟩
theorem ndChs : (nComp ["_law_tie"] [("_law_state_here", 0)]).Nodup := by decide +kernel
theorem compChs : compOk chs_body_sc1 (defScope sChs) ["_law_state_here", "_law_web_here"] ["_law_tie"] [("_law_state_here", 0)] = true := by decide +kernel
theorem ok_chs {f : Addr} {fd : FuncData} (F : Fun K "_law_chances" "_law_chances" sChs f fd) (T : Txt mg) (CH : Fn P w K mg base 2 "_law_chance" ["_law_state_here"] (spCha K)) : FnOk P w K mg base CX0 3 f fd ["_law_state_here", "_law_web_here"] (spChs K) := by
  obtain ⟨fC, fdC, mC, kC, bC, GC⟩ := CH.ex
  refine F.ok scChs (fun vs H Q E h => ?_) (fun cdv A outer s H vs Q E hr h => ?_)
  · obtain ⟨st, n, b, m, ts, v, rfl, _⟩ := h; rfl
  · obtain ⟨st, n, b, m, ts, v, rfl, hst, hv, ht8, q⟩ := h
    rw [chs_body]
    refine ⟨_, pss_one (ps_ret (pe_callTy call_tuple_of rfl T.tuple b_tuple (pa_cons (pe_comp (own := ["_law_tie"]) (capt := [("_law_state_here", 0)]) rfl (by exact CompSc.of (scX := defScope sChs) (N := ["_law_state_here", "_law_web_here"]) rfl rfl compChs) (pi_tup (pe_ix ix_tup (pv 1) pe_int (fun _ _ => rfl)))
        (fun cl C s H fp => pg_name (i := 0) ndChs rfl (Or.inl rfl)) (fun cl C s H fp => pts_nil) (fun cl C s H fp => pe_call GC hr rfl mC kC bC .nil pass0 (pa_cons (pv 1) pa_nil))) pa_nil))), ?_⟩
    unfold Has at hv
    obtain ⟨aw, ws, rfl, hqw, hallw⟩ := hv
    obtain ⟨dd1, dd2, x, y, ew, rfl, hx, hy⟩ := two_of hallw (by rw [hallw.length]; rfl)
    cases ew
    unfold Has at hy
    obtain ⟨at_, ys, rfl, hqt, hallt⟩ := hy
    have hl2 := hallt.length
    have A0 : Adv st H H := .refl ⟨n, b, hst⟩
    refine ⟨_, rfl, aw, [x, .ref at_], 1, .ref at_, rfl, rfl, (hide_same st H).sqT hqw, rfl, at_, rfl, ⟨_, (hide_same st H).sqT hqt⟩, ?_⟩
    refine comp_tup (K := K) (xs := ys) (fun i zs H' => Adv st H H' ∧ zs.length = i ∧ ∃ ds, HasAll K (hide st H') ds zs ∧ ∀ d ∈ ds, pairOk d = true) (small64 (by omega)) ⟨A0, rfl, [], .nil, fun d hd => by simp at hd⟩ (fun i zs H' hi p => ⟨(hide_same st H').sqT (p.1.hid.sqT hqt), by rw [p.2.1]; exact Nat.le_refl _⟩) ?_ ?_
    · rintro i z zs H' hi ⟨adv, hlz, ds, hall, hok⟩
      obtain ⟨n4, b4, e4⟩ := adv.st
      refine gN (ttYes_of ?_)
      refine iteT ?_
      refine ⟨_, rfl, st, n4, b4, rfl, e4, fun d u H2 a2 hp hu => ?_⟩
      refine ⟨adv.trans a2, by rw [List.length_append, hlz]; rfl, ds ++ [d], (hall.same a2.hid).append (.cons hu .nil), fun d' hd' => ?_⟩
      rcases List.mem_append.mp hd' with y | y
      · exact hok d' y
      · have : d' = d := by simpa using y
        rw [this]; exact hp
    · rintro zs H' p ⟨adv, hlz, ds, hall, hok⟩ hp
      have adv2 := adv.new (.lst zs) hp
      refine ⟨p, zs, rfl, .inl ⟨SqL.of upd_same, fun l hl => ?_⟩⟩
      have adv3 := adv2.new (.tup zs) hl
      have lst : l ≠ st := fun z => by obtain ⟨_, _, e⟩ := adv2.st; rw [z, e] at hl; cases hl
      refine q ds _ _ adv3 (by rw [← hall.length, hlz, hl2]) hok (.tup (SqT.of (hide_get upd_same lst)) (hall.same (hide_up ((Same.new _ hp).trans (Same.new _ hl)))))
theorem scLar : FnScope ["_law_web_here", "_law_thing"] ["_law_web_here", "_law_thing"] (defScope sLar) := ⟨rfl, rfl, rfl, by decide +kernel, rfl, by decide +kernel, by decide +kernel⟩
theorem ndLar : (nComp ["_law_one"] []).Nodup := by decide +kernel
theorem compLar : compOk lar_body_sc1 (defScope sLar) ["_law_web_here", "_law_thing"] ["_law_one"] [] = true := by decide +kernel
theorem ok_lar {f : Addr} {fd : FuncData} (F : Fun K "_law_are" "_law_are" sLar f fd) (T : Txt mg) (I : Fn P w K mg base 2 "_law_is_chance" ["_law_thing"] (spLic K)) : FnOk P w K mg base CX0 3 f fd ["_law_web_here", "_law_thing"] (spLar K) := by
  obtain ⟨fI, fdI, mI, kI, bI, GI⟩ := I.ex
  refine F.ok scLar (fun vs H Q E h => ?_) (fun cdv A outer s H vs Q E hr h => ?_)
  · obtain ⟨m, ts, v, d, u, rfl, _⟩ := h; rfl
  · obtain ⟨m, ts, v, d, u, rfl, hw, ht8, hd, q1⟩ := h
    rw [lar_body]
    refine ⟨_, pss_cons (ps_if (PW.pt (pw_or (pt_not (pt_val (pe_callB call_isD rfl T.isin b_isinstance (pa_cons (pv 1) (pa_cons (pe_bltn (v := .ty "tuple") rfl T.tuple b_tuple rfl) pa_nil)))))
        (pw_or1 (pt_cmpR op_ne (pe_callB call_len_seq rfl T.len b_len (pa_cons (pv 1) pa_nil)) (pe_callB call_len_seq rfl T.len b_len (pa_cons (pe_ix ix_tup (pv 0) pe_int (fun _ _ => rfl)) pa_nil)) (nomark _))))) (pss_one (ps_ret pe_bl)) pss_nil)
      (pss_one (ps_ret (pe_cmpR (op_eqNil (hu_of hr)) (pe_comp (own := ["_law_one"]) (capt := []) rfl (by exact CompSc.of (scX := defScope sLar) (N := ["_law_web_here", "_law_thing"]) rfl rfl compLar) (pi_tup (pv 1)) (fun cl C s H fp => pg_name (i := 0) ndLar rfl (Or.inl rfl))
          (fun cl C s H fp => pts_one (pt_not (pt_val (pe_call GI hr rfl mI kI bI .nil pass0 (pa_cons (pv 0) pa_nil))))) (fun cl C s H fp => pv 0)) (pe_lst pa_nil) (nomark _)))), ?_⟩
    have q0 : ∀ b, areD (.tup [.int m, .tup ts]) d = b → Q (.bl b) H := fun b e => by rw [← e]; exact q1 H (Same.refl H)
    refine ⟨_, rfl, d, u, "tuple", rfl, hd, by simp, _, rfl, ?_⟩
    cases e : isB d.ty "tuple" with
    | false =>
      refine iteT (iteT ?_)
      exact q0 false (by cases d <;> first | rfl | (simp [D.ty, isB] at e))
    | true =>
      refine iteF ?_
      obtain ⟨ds, rfl⟩ := tup_of e
      unfold Has at hd hw
      obtain ⟨a, xs, rfl, hq, hall⟩ := hd
      have hlen := hall.length
      obtain ⟨aw, ws, rfl, hqw, hallw⟩ := hw
      obtain ⟨dd1, dd2, x, y, ew, rfl, hx, hy⟩ := two_of hallw (by rw [hallw.length]; rfl)
      cases ew
      unfold Has at hy
      obtain ⟨at_, ys, rfl, hqt, hallt⟩ := hy
      refine ⟨_, rfl, a, xs, rfl, .inr hq, _, rfl, aw, [x, .ref at_], 1, .ref at_, rfl, rfl, hqw, rfl, at_, ys, rfl, .inr hqt, rfl, _, rfl, ?_⟩
      have ar : areD (.tup [.int m, .tup ts]) (.tup ds) = (decide (ds.length = ts.length) && ds.all chD) := rfl
      have hl2 := hallt.length
      refine ite2 (fun e2 => ?_) (fun e2 => ?_)
      · refine q0 false ?_
        rw [ar, decide_eq_false (fun z => by rw [← hlen, ← hl2] at z; simp [z] at e2)]; rfl
      · have hll : ds.length = ts.length := by
          have : ¬ ((!decide (V.int (xs.length : Int) = V.int (ys.length : Int))) = true) := e2
          simp at this
          omega
        have hz1 : xs.length ≤ sizeLine := by rw [hlen, hll]; exact small64 (by omega)
        refine ⟨_, rfl, a, rfl, ⟨_, hq⟩, comp_tup (K := K) (xs := xs) (fun i zs H' => Same H H' ∧ zs.isEmpty = (ds.take i).all chD ∧ zs.length ≤ i) hz1 ⟨Same.refl H, rfl, Nat.le_refl _⟩ (fun i zs H' hi p => ⟨p.1.sqT hq, p.2.2⟩) ?_ ?_⟩
        · rintro i z zs H' hi ⟨sm, he, hzl⟩
          obtain ⟨dz, e3, hz⟩ := hall.get hi
          refine gN ?_
          refine ⟨_, rfl, dz, z, rfl, hz.same sm, fun H2 s2 => ⟨_, rfl, ?_⟩⟩
          have tk : (ds.take (i + 1)).all chD = ((ds.take i).all chD && chD dz) := by rw [List.take_succ, e3, List.all_append]; simp
          cases hc : chD dz with
          | true =>
            refine iteF ?_
            exact ⟨sm.trans s2, by rw [tk, hc, Bool.and_true]; exact he, by omega⟩
          | false =>
            refine iteT ?_
            refine ⟨_, rfl, sm.trans s2, by rw [tk, hc, Bool.and_false]; simp, by rw [List.length_append]; show zs.length + 1 ≤ i + 1; omega⟩
        · rintro zs H' p ⟨sm, he, hzl⟩ hp
          refine ⟨small64 (by show 0 ≤ 64; decide), fun l hl => ?_⟩
          refine ⟨p, l, zs, rfl, rfl, SqL.of ((Same.new _ hl) _ _ upd_same), SqL.of upd_same, ?_⟩
          have el : ds.take xs.length = ds := by rw [hlen]; exact List.take_length
          rw [he, el]
          have := q1 _ ((sm.trans (Same.new (.lst zs) hp)).trans (Same.new (.lst []) hl))
          rw [ar, decide_eq_true hll, Bool.true_and] at this
          exact this
end
end K3

namespace K3
open PySem L2
abbrev sBch : Stmt := top 38
abbrev nBch : List Str := ["_law_state_here", "_law_chances_here", "_law_at", "_law_odd", "_law_some"]
abbrev nmX : Nms := [("_law_chances_here", 1, .tup 8), ("_law_at", 2, .int 10), ("_law_odd", 3, .any)]
theorem NmOk.cons {X : Cx} {x : Str} {i : Nat} {k : Kd} {r : Nms} (h1 : X.N[i]? = some x) (h2 : Vis X.env.scope x) (h3 : (x == ("__debug__" : Str)) = false) (h4 : (x == ("__classdict__" : Str)) = false) (o : NmOk X r) : NmOk X ((x, i, k) :: r) :=
  ⟨fun p hp => by
    rcases List.mem_cons.mp hp with rfl | hp
    · exact ⟨h1, h2, h3, h4⟩
    · exact o.ok p hp⟩
theorem Pr.cons {K : PySem.W.Frag} {st : Addr} {H : Hp} {σ : St} {x : Str} {i : Nat} {k : Kd} {r : Nms} {v : V} (e : σ[i]? = some (some v)) (h : valK K st k H v) (o : Pr K st r σ H) : Pr K st ((x, i, k) :: r) σ H :=
  ⟨o.stt, fun p hp => by
    rcases List.mem_cons.mp hp with rfl | hp
    · exact ⟨v, e, h⟩
    · exact o.nms p hp⟩
theorem Any.same' {K : PySem.W.Frag} {H H' : Hp} {v : V} (h : Any K H v) (s : Same H H') : Any K H' v := by obtain ⟨d, hd⟩ := h; exact ⟨d, hd.same s⟩
theorem keysP {K : PySem.W.Frag} {H : Hp} : ∀ {ds : List D} {xs : List V}, HasAll K H ds xs → (∀ d ∈ ds, pairOk d = true) → ∃ ks, KeysV K H xs ks ∧ ks.isEmpty = xs.isEmpty
  | [], _, h, _ => by unfold HasAll at h; subst h; exact ⟨[], .nil, rfl⟩
  | d :: ds, _, h, hp => by
    unfold HasAll at h
    obtain ⟨x, r, rfl, h1, h2⟩ := h
    obtain ⟨ks, hk, _⟩ := keysP h2 fun d hd => hp d (List.mem_cons_of_mem _ hd)
    obtain ⟨t, b, rfl, _⟩ := pair_of (hp d List.mem_cons_self)
    unfold Has at h1
    obtain ⟨a, xs, rfl, hq, hall⟩ := h1
    obtain ⟨d1, d2, y1, y2, e, rfl, hy1, hy2⟩ := two_of hall (by rw [hall.length]; rfl)
    cases e
    unfold Has at hy1 hy2
    subst hy1 hy2
    exact ⟨[t, b] :: ks, .cons ⟨a, rfl, hq, by simp⟩ hk, rfl⟩
theorem bch_body : ∃ (e0 e1 e2 e3 : List Expr), defBody sBch = [.Assign [(.Name "_law_at" ⟨121, 4, 121, 11⟩)] (.Call (.Name "_law_take" ⟨121, 14, 121, 23⟩) [(.Name "_law_state_here" ⟨121, 24, 121, 39⟩), (.BinOp (.Call (.Name "len" ⟨121, 41, 121, 44⟩) [(.Name "_law_chances_here" ⟨121, 45, 121, 62⟩)] [] ⟨121, 41, 121, 63⟩) .Add (.Constant (.int 1) 0 ⟨121, 66, 121, 67⟩) ⟨121, 41, 121, 67⟩)] [] ⟨121, 14, 121, 68⟩) ⟨121, 4, 121, 68⟩,
      .Assign [(.Name "_law_odd" ⟨122, 4, 122, 12⟩)] (.List e0 ⟨122, 15, 122, 122⟩) ⟨122, 4, 122, 122⟩,
      .Assign [(.Name "_law_odd" ⟨123, 4, 123, 12⟩)] (.Subscript (.Name "_law_odd" ⟨123, 15, 123, 23⟩) (.Call (.Name "_law_take" ⟨123, 24, 123, 33⟩) [(.Name "_law_state_here" ⟨123, 34, 123, 49⟩), (.Constant (.int 13) 0 ⟨123, 51, 123, 53⟩)] [] ⟨123, 24, 123, 54⟩) ⟨123, 15, 123, 55⟩) ⟨123, 4, 123, 55⟩,
      .Assign [(.Name "_law_some" ⟨124, 4, 124, 13⟩)] (.List e1 ⟨124, 16, 124, 155⟩) ⟨124, 4, 124, 155⟩,
      .If (.Compare (.Name "_law_chances_here" ⟨125, 7, 125, 24⟩) [.NotEq] [(.Tuple [] 0 ⟨125, 28, 125, 30⟩)] ⟨125, 7, 125, 30⟩) [.Assign [(.Name "_law_at" ⟨126, 8, 126, 15⟩)] (.Call (.Name "_law_take" ⟨126, 18, 126, 27⟩) [(.Name "_law_state_here" ⟨126, 28, 126, 43⟩), (.Call (.Name "len" ⟨126, 45, 126, 48⟩) [(.Name "_law_chances_here" ⟨126, 49, 126, 66⟩)] [] ⟨126, 45, 126, 67⟩)] [] ⟨126, 18, 126, 68⟩) ⟨126, 8, 126, 68⟩,
      .Assign [(.Name "_law_some" ⟨127, 8, 127, 17⟩)] (.BinOp (.BinOp (.Name "_law_some" ⟨127, 20, 127, 29⟩) .Add (.BinOp (.List e2 ⟨127, 32, 127, 109⟩) .Mult (.Constant (.int 5) 0 ⟨127, 112, 127, 113⟩) ⟨127, 32, 127, 113⟩) ⟨127, 20, 127, 113⟩) .Add (.List e3 ⟨127, 116, 127, 185⟩) ⟨127, 20, 127, 185⟩) ⟨127, 8, 127, 185⟩] [] ⟨125, 4, 127, 185⟩,
      .Return (some (.Subscript (.Name "_law_some" ⟨128, 11, 128, 20⟩) (.Call (.Name "_law_take" ⟨128, 21, 128, 30⟩) [(.Name "_law_state_here" ⟨128, 31, 128, 46⟩), (.Call (.Name "len" ⟨128, 48, 128, 51⟩) [(.Name "_law_some" ⟨128, 52, 128, 61⟩)] [] ⟨128, 48, 128, 62⟩)] [] ⟨128, 21, 128, 63⟩) ⟨128, 11, 128, 64⟩)) ⟨128, 4, 128, 64⟩] ∧ (e0.all (fun e => (kd false [] 8 e).isSome) = true ∧ e0.length = 13) ∧ (e1.all (fun e => (kd true nmX 8 e).isSome) = true ∧ e1.length = 5) ∧ (e2.all (fun e => (kd true nmX 8 e).isSome) = true ∧ e2.length = 1) ∧ (e3.all (fun e => (kd true nmX 8 e).isSome) = true ∧ e3.length = 2) :=
  ⟨_, _, _, _, rfl, ⟨by decide +kernel, by decide +kernel⟩, ⟨by decide +kernel, by decide +kernel⟩, ⟨by decide +kernel, by decide +kernel⟩, ⟨by decide +kernel, by decide +kernel⟩⟩

def spBch (K : PySem.W.Frag) : Sp := fun vs H Q _ => ∃ (st : Addr) (n : Int) (b : Bool) (ds : List D) (v : V), vs = [.ref st, v] ∧ H st = some (.lst [.int n, .bl b]) ∧ ds.length ≤ 8 ∧ (∀ d ∈ ds, pairOk d = true) ∧ Has K (hide st H) (.tup ds) v ∧ ∀ u H', Adv st H H' → Any K (hide st H') u → Q u H'
section
variable {P : Program} {w : World} {K : PySem.W.Frag} {mg : Str → Option Value} {base : Heap}
theorem scBch : FnScope nBch ["_law_state_here", "_law_chances_here"] (defScope sBch) := ⟨rfl, rfl, rfl, by decide +kernel, rfl, by decide +kernel, by decide +kernel⟩
theorem ok_bch {f : Addr} {fd : FuncData} (F : Fun K "_law_bad_chances" "_law_bad_chances" sBch f fd) (T : Txt mg) (TK : Fn P w K mg base 1 "_law_take" ["_law_state_here", "_law_many"] spTake) : FnOk P w K mg base CX0 2 f fd ["_law_state_here", "_law_chances_here"] (spBch K) := by
  obtain ⟨fT, fdT, mT, kT, bT, GT⟩ := TK.ex
  refine F.ok scBch (fun vs H Q E h => ?_) (fun cdv A outer s H vs Q E hr h => ?_)
  · obtain ⟨st, n, b, ds, v, rfl, _⟩ := h; rfl
  · obtain ⟨st, n, b, ds, v, rfl, hst, hz8, hpo, hv, q⟩ := h
    obtain ⟨e0, e1, e2, e3, eb, ⟨g0, k0⟩, ⟨g1, k1⟩, ⟨g2, k2⟩, ⟨g3, k3⟩⟩ := bch_body
    rw [eb]
    clear eb
    refine ⟨_, pss_cons (ps_set (i := 2) scBch.nd rfl (Or.inl rfl) (pe_call GT hr rfl mT kT bT .nil pass0 (pa_cons (pv 0) (pa_cons (pe_op op_add (pe_callB call_len_seq rfl T.len b_len (pa_cons (pv 1) pa_nil)) pe_int) pa_nil))))
      (pss_cons (ps_set (i := 3) scBch.nd rfl (Or.inl rfl) (kd_l (K := K) (st := st) (c := false) rfl NmOk.nil (fun z => nomatch z) 8 13 g0 k0 (by decide)))
      (pss_cons (ps_set (i := 3) scBch.nd rfl (Or.inl rfl) (pe_ix ix_list (pv 3) (pe_call GT hr rfl mT kT bT .nil pass0 (pa_cons (pv 0) (pa_cons pe_int pa_nil))) (fun _ _ => rfl)))
      (pss_cons (ps_set (i := 4) scBch.nd rfl (Or.inl rfl) (kd_l (K := K) (st := st) (nm := nmX) (c := true) rfl (.cons rfl (Or.inl rfl) (by decide) (by decide) (.cons rfl (Or.inl rfl) (by decide) (by decide) (.cons rfl (Or.inl rfl) (by decide) (by decide) .nil))) (fun _ => by exact ⟨⟨rfl, T.list⟩⟩) 8 5 g1 k1 (by decide)))
      (pss_cons (ps_if (pt_cmpR (op_neTnil hr.units) (pv 1) (pe_tup pa_nil) (nomark _))
        (pss_cons (ps_set (i := 2) scBch.nd rfl (Or.inl rfl) (pe_call GT hr rfl mT kT bT .nil pass0 (pa_cons (pv 0) (pa_cons (pe_callB call_len_seq rfl T.len b_len (pa_cons (pv 1) pa_nil)) pa_nil))))
        (pss_one (ps_set (i := 4) scBch.nd rfl (Or.inl rfl) (pe_op op_cat (pe_op op_cat (pv 4) (pe_op op_rep (kd_l (K := K) (st := st) (nm := nmX) (c := true) rfl (.cons rfl (Or.inl rfl) (by decide) (by decide) (.cons rfl (Or.inl rfl) (by decide) (by decide) (.cons rfl (Or.inl rfl) (by decide) (by decide) .nil))) (fun _ => by exact ⟨⟨rfl, T.list⟩⟩) 8 1 g2 k2 (by decide)) pe_int)) (kd_l (K := K) (st := st) (nm := nmX) (c := true) rfl (.cons rfl (Or.inl rfl) (by decide) (by decide) (.cons rfl (Or.inl rfl) (by decide) (by decide) (.cons rfl (Or.inl rfl) (by decide) (by decide) .nil))) (fun _ => by exact ⟨⟨rfl, T.list⟩⟩) 8 2 g3 k3 (by decide)))))) pss_nil)
      (pss_one (ps_ret (pe_ix ix_list (pv 4) (pe_call GT hr rfl mT kT bT .nil pass0 (pa_cons (pv 0) (pa_cons (pe_callB call_len_seq rfl T.len b_len (pa_cons (pv 4) pa_nil)) pa_nil))) (fun _ _ => rfl)))))))), ?_⟩
    unfold Has at hv
    obtain ⟨tc, ys, rfl, hqt, hally⟩ := hv
    have hyl := hally.length
    have tq : ∀ {H'}, Adv st H H' → SqT K H' tc ys := fun A => (hide_same st _).sqT (A.hid.sqT hqt)
    have A0 : Adv st H H := .refl ⟨n, b, hst⟩
    refine ⟨_, rfl, _, rfl, tc, ys, rfl, .inr (tq A0), _, _, rfl, rfl, st, n, b, (ys.length : Int) + 1, rfl, hst, by omega, by omega, fun at_ n1 a0 a1 => ?_⟩
    have A1 := A0.turn n1 b
    refine ⟨.nil upd_same, fun l1 os ods H2 s2 hl1 a2 n13 => ?_⟩
    have A2 := A1.same' s2
    have A2' := A2.new (.lst os) hl1
    have l1st : l1 ≠ st := fun z => by obtain ⟨_, _, e⟩ := A2.st; rw [z, e] at hl1; cases hl1
    obtain ⟨n3, b3, e3'⟩ := A2'.st
    refine ⟨_, rfl, _, rfl, st, n3, b3, 13, rfl, e3', by decide, by decide, fun r n4 r0 r1 => ?_⟩
    obtain ⟨od, eo, go⟩ := at_in (xs := os) r0 (by rw [n13]; exact r1)
    refine ⟨l1, os, r, od, rfl, rfl, SqL.of (by rw [upd_ne l1st]; exact upd_same), eo, ?_⟩
    have A3 := A2'.turn n4 b3
    have od3 : Any K (hide st (upd (upd H2 l1 (.lst os)) st (.lst [.int n4, .bl b3]))) od := by
      rw [hide_upd]; exact has_at (a2.same (hide_up (Same.new _ hl1))) go
    have P0 : Pr K st nmX [some (.ref st), some (.ref tc), some (.int at_), some od, none] _ :=
      .cons rfl ⟨tc, ys, ds, rfl, A3.hid.sqT hqt, hally.same A3.hid, by omega⟩ (.cons rfl ⟨at_, rfl, by omega⟩ (.cons rfl od3 (.nil upd_same)))
    refine ⟨P0, fun c1 xs1 ds1 Ha sa hc1 ha n5 => ?_⟩
    have S1 := sa.trans (Same.new (.lst xs1) hc1)
    have h1 := ha.same (hide_up (st := st) (Same.new (.lst xs1) hc1))
    have A4 := A3.same' S1
    refine ⟨_, rfl, small64 (by show 0 ≤ 64; decide), fun p0 hp0 => ?_⟩
    have S2 := S1.trans (Same.new (.tup []) hp0)
    have A5 := A3.same' S2
    obtain ⟨ks, hks, hke⟩ := keysP (hally.same (A5.hid.trans (hide_same st _))) hpo
    refine ⟨tc, p0, ys, ks, rfl, rfl, tq A5, hks, SqT.of upd_same, _, rfl, ?_⟩
    have h2 := h1.same (hide_up (st := st) (Same.new (.tup []) hp0))
    obtain ⟨n6, b6, e6⟩ := A5.st
    have c1a : (upd (upd Ha c1 (.lst xs1)) p0 (.tup [])) c1 = some (.lst xs1) := (Same.new (.tup []) hp0) _ _ upd_same
    refine ite2 (fun ey => ?_) (fun ey => ?_)
    · have hy0 : 0 < ys.length := by
        rw [hke] at ey
        cases ys with
        | nil => simp at ey
        | cons => simp
      refine ⟨_, rfl, _, rfl, tc, ys, rfl, .inr (tq A5), st, n6, b6, (ys.length : Int), rfl, e6, by omega, by omega, fun at2 n7 b0 b1 => ?_⟩
      have A6 := A5.turn n7 b6
      have c1st : c1 ≠ st := fun z => by obtain ⟨_, _, e⟩ := (A3.same' sa).st; rw [z, e] at hc1; cases hc1
      have od6 : Any K (hide st (upd (upd (upd Ha c1 (.lst xs1)) p0 (.tup [])) st (.lst [.int n7, .bl b6]))) od := by
        rw [hide_upd]; exact Any.same' od3 (hide_up S2)
      have P6 : Pr K st nmX [some (.ref st), some (.ref tc), some (.int at2), some od, some (.ref c1)] _ :=
        .cons rfl ⟨tc, ys, ds, rfl, A6.hid.sqT hqt, hally.same A6.hid, by omega⟩ (.cons rfl ⟨at2, rfl, by omega⟩ (.cons rfl od6 (.nil upd_same)))
      refine ⟨_, rfl, P6, fun c2 xs2 ds2 Hb sb hc2 hb n21 => ?_⟩
      have u2 := sb.trans (Same.new (.lst xs2) hc2)
      refine ⟨c2, 5, xs2, rfl, rfl, upd_same, by decide, by decide, small64 (by rw [n21]; decide), fun c3 hc3 => ?_⟩
      have u3 := u2.trans (Same.new (.lst (List.replicate (5 : Int).toNat xs2).flatten) hc3)
      have c1b : (upd (upd (upd Ha c1 (.lst xs1)) p0 (.tup [])) st (.lst [.int n7, .bl b6])) c1 = some (.lst xs1) := by rw [upd_ne c1st]; exact c1a
      have l55 : (List.replicate (5 : Int).toNat xs2).flatten.length = 5 := by rw [len_rep, n21]; rfl
      refine ⟨c1, c3, xs1, _, rfl, rfl, u3 _ _ c1b, upd_same, small64 (by rw [n5, l55]; decide), fun c4 hc4 => ?_⟩
      have u4 := u3.trans (Same.new (.lst (xs1 ++ (List.replicate (5 : Int).toNat xs2).flatten)) hc4)
      refine ⟨P6.same u4, fun c5 xs5 ds5 Hc sc hc5 hcc n22 => ?_⟩
      have u5 := sc.trans (Same.new (.lst xs5) hc5)
      refine ⟨c4, c5, _, xs5, rfl, rfl, u5 _ _ upd_same, upd_same, small64 (by rw [List.length_append, n5, l55, n22]; decide), fun c6 hc6 => ?_⟩
      have w6 := Same.new (.lst (xs1 ++ (List.replicate (5 : Int).toNat xs2).flatten ++ xs5)) hc6
      have u6 := u4.trans (u5.trans w6)
      have A7 := A6.same' u6
      obtain ⟨n8, b8, e8⟩ := A7.st
      have HA := HasAll.append (HasAll.append ((h2.same (by rw [← hide_upd st _ (.lst [.int n7, .bl b6])]; exact hide_up (st := st) u6)) : HasAll K _ ds1 xs1)
        (HasAll.rep (hb.same (hide_up (st := st) ((Same.new (.lst xs2) hc2).trans ((Same.new (.lst (List.replicate (5 : Int).toNat xs2).flatten) hc3).trans ((Same.new (.lst (xs1 ++ (List.replicate (5 : Int).toNat xs2).flatten)) hc4).trans (u5.trans w6)))))) (5 : Int).toNat))
        (hcc.same (hide_up (st := st) ((Same.new (.lst xs5) hc5).trans w6)))
      have lenF : (xs1 ++ (List.replicate (5 : Int).toNat xs2).flatten ++ xs5).length = 12 := by rw [List.length_append, List.length_append, n5, l55, n22]
      have c6st : c6 ≠ st := fun z => by obtain ⟨_, _, e⟩ := (A6.same' (u4.trans u5)).st; rw [z, e] at hc6; cases hc6
      refine ⟨_, rfl, _, rfl, _, rfl, c6, _, rfl, .inl (SqL.of upd_same), st, n8, b8, _, rfl, e8, by rw [lenF]; decide, by rw [lenF]; decide, fun rr n9 rr0 rr1 => ?_⟩
      obtain ⟨x, ex, gx⟩ := at_in (xs := xs1 ++ (List.replicate (5 : Int).toNat xs2).flatten ++ xs5) rr0 rr1
      refine ⟨c6, _, rr, x, rfl, rfl, SqL.of (by rw [upd_ne c6st]; exact upd_same), ex, ?_⟩
      refine q _ _ (A7.turn n9 b8) ?_
      rw [hide_upd]
      exact has_at HA gx
    · refine ⟨_, rfl, _, rfl, _, rfl, c1, xs1, rfl, .inl (SqL.of c1a), st, n6, b6, _, rfl, e6, by rw [n5]; decide, by rw [n5]; decide, fun rr n9 rr0 rr1 => ?_⟩
      have c1st : c1 ≠ st := fun z => by obtain ⟨_, _, e⟩ := (A3.same' sa).st; rw [z, e] at hc1; cases hc1
      obtain ⟨x, ex, gx⟩ := at_in (xs := xs1) rr0 rr1
      refine ⟨c1, _, rr, x, rfl, rfl, SqL.of (by rw [upd_ne c1st]; exact c1a), ex, ?_⟩
      refine q _ _ (A5.turn n9 b6) ?_
      rw [hide_upd]
      exact has_at h2 gx
end
end K3

namespace K3
open PySem L2
abbrev sLaw : Stmt := top 44
abbrev nLaw : List Str := ["_law_script", "_law_k", "_law_state_here", "_law_web_here", "_law_chances_here", "_law_top", "_law_bottom", "_law_one", "_law_some", "_law_thing", "_law_bad"]
abbrev nmL : Nms := [("_law_one", 7, .pr), ("_law_top", 5, .int 1003), ("_law_bottom", 6, .int 1003)]
abbrev nmC : Nms := [("_law_chances_here", 4, .tup 8)]
abbrev law_body_sc1 : Scope := { kind := .function, names := [(".0", .local), ("_law_turn", .local), ("_law_bad_chances", .globalImplicit), ("_law_chances_here", .free), ("_law_state_here", .free)], isGenerator := false, isCoroutine := false, more := [] }
abbrev law_body_sc2 : Scope := { kind := .function, names := [("_law_bad", .free), ("_law_chances_here", .free), ("are_chances", .globalImplicit)], isGenerator := false, isCoroutine := false, more := [] }
theorem law_body : ∃ (e0 e1 e2 : List Expr), defBody sLaw = [.For (.Name "_law_k" ⟨166, 8, 166, 14⟩) (.Call (.Name "range" ⟨166, 18, 166, 23⟩) [(.Call (.Name "max" ⟨166, 24, 166, 27⟩) [(.Constant (.int 1) 0 ⟨166, 28, 166, 29⟩), (.Call (.Name "min" ⟨166, 31, 166, 34⟩) [(.Call (.Name "len" ⟨166, 35, 166, 38⟩) [(.Name "_law_script" ⟨166, 39, 166, 50⟩)] [] ⟨166, 35, 166, 51⟩), (.Constant (.int 10) 0 ⟨166, 53, 166, 55⟩)] [] ⟨166, 31, 166, 56⟩)] [] ⟨166, 24, 166, 57⟩)] [] ⟨166, 18, 166, 58⟩) [.Assign [(.Name "_law_state_here" ⟨167, 8, 167, 23⟩)] (.Call (.Name "_law_state" ⟨167, 26, 167, 36⟩) [(.Name "_law_script" ⟨167, 37, 167, 48⟩), (.Name "_law_k" ⟨167, 50, 167, 56⟩)] [] ⟨167, 26, 167, 57⟩) ⟨167, 8, 167, 57⟩,
      .Assign [(.Name "_law_web_here" ⟨168, 8, 168, 21⟩)] (.Call (.Name "_law_web" ⟨168, 24, 168, 32⟩) [(.Name "_law_state_here" ⟨168, 33, 168, 48⟩), (.Constant (.int 8) 0 ⟨168, 50, 168, 51⟩)] [] ⟨168, 24, 168, 52⟩) ⟨168, 8, 168, 52⟩,
      .Assign [(.Name "_law_chances_here" ⟨169, 8, 169, 25⟩)] (.Call (.Name "_law_chances" ⟨169, 28, 169, 40⟩) [(.Name "_law_state_here" ⟨169, 41, 169, 56⟩), (.Name "_law_web_here" ⟨169, 58, 169, 71⟩)] [] ⟨169, 28, 169, 72⟩) ⟨169, 8, 169, 72⟩,
      .Assign [(.Tuple [(.Name "_law_top" ⟨170, 8, 170, 16⟩), (.Name "_law_bottom" ⟨170, 18, 170, 29⟩)] 0 ⟨170, 8, 170, 29⟩)] (.Tuple [(.BinOp (.Call (.Name "_law_take" ⟨170, 33, 170, 42⟩) [(.Name "_law_state_here" ⟨170, 43, 170, 58⟩), (.Constant (.int 1003) 0 ⟨170, 60, 170, 64⟩)] [] ⟨170, 33, 170, 65⟩) .Sub (.Constant (.int 1) 0 ⟨170, 68, 170, 69⟩) ⟨170, 33, 170, 69⟩), (.Call (.Name "_law_take" ⟨170, 71, 170, 80⟩) [(.Name "_law_state_here" ⟨170, 81, 170, 96⟩), (.Constant (.int 1003) 0 ⟨170, 98, 170, 102⟩)] [] ⟨170, 71, 170, 103⟩)] 0 ⟨170, 32, 170, 104⟩) ⟨170, 8, 170, 104⟩,
      .Assign [(.Name "_law_one" ⟨171, 8, 171, 16⟩)] (.Call (.Name "_law_chance" ⟨171, 19, 171, 30⟩) [(.Name "_law_state_here" ⟨171, 31, 171, 46⟩)] [] ⟨171, 19, 171, 47⟩) ⟨171, 8, 171, 47⟩,
      .Assign [(.Name "_law_some" ⟨172, 8, 172, 17⟩)] (.List e0 ⟨172, 20, 172, 169⟩) ⟨172, 8, 172, 169⟩,
      .For (.Name "_law_thing" ⟨173, 12, 173, 22⟩) (.BinOp (.Name "_law_some" ⟨173, 26, 173, 35⟩) .Add (.List e1 ⟨173, 38, 173, 137⟩) ⟨173, 26, 173, 137⟩) [.If (.UnaryOp .Not (.Call (.Name "_law_same" ⟨174, 19, 174, 28⟩) [(.Call (.Name "is_chance" ⟨174, 29, 174, 38⟩) [(.Name "_law_thing" ⟨174, 39, 174, 49⟩)] [] ⟨174, 29, 174, 50⟩), (.Call (.Name "_law_is_chance" ⟨174, 52, 174, 66⟩) [(.Name "_law_thing" ⟨174, 67, 174, 77⟩)] [] ⟨174, 52, 174, 78⟩)] [] ⟨174, 19, 174, 79⟩) ⟨174, 15, 174, 79⟩) [.Return (some (.Constant (.bool false) 0 ⟨175, 23, 175, 28⟩)) ⟨175, 16, 175, 28⟩] [] ⟨174, 12, 175, 28⟩] [] ⟨173, 8, 175, 28⟩,
      .For (.Name "_law_thing" ⟨176, 12, 176, 22⟩) (.BinOp (.List e2 ⟨176, 26, 176, 49⟩) .Add (.ListComp (.Call (.Name "_law_bad_chances" ⟨176, 53, 176, 69⟩) [(.Name "_law_state_here" ⟨176, 70, 176, 85⟩), (.Name "_law_chances_here" ⟨176, 87, 176, 104⟩)] [] ⟨176, 53, 176, 105⟩) [{ target := (.Name "_law_turn" ⟨176, 110, 176, 119⟩), iter := (.Call (.Name "range" ⟨176, 123, 176, 128⟩) [(.Constant (.int 5) 0 ⟨176, 129, 176, 130⟩)] [] ⟨176, 123, 176, 131⟩), ifs := [], is_async := 0 }] law_body_sc1 ⟨176, 52, 176, 132⟩) ⟨176, 26, 176, 132⟩) [.If (.UnaryOp .Not (.Call (.Name "_law_same" ⟨177, 19, 177, 28⟩) [(.Call (.Name "are_chances" ⟨177, 29, 177, 40⟩) [(.Name "_law_web_here" ⟨177, 41, 177, 54⟩), (.Name "_law_thing" ⟨177, 56, 177, 66⟩)] [] ⟨177, 29, 177, 67⟩), (.Call (.Name "_law_are" ⟨177, 69, 177, 77⟩) [(.Name "_law_web_here" ⟨177, 78, 177, 91⟩), (.Name "_law_thing" ⟨177, 93, 177, 103⟩)] [] ⟨177, 69, 177, 104⟩)] [] ⟨177, 19, 177, 105⟩) ⟨177, 15, 177, 105⟩) [.Return (some (.Constant (.bool false) 0 ⟨178, 23, 178, 28⟩)) ⟨178, 16, 178, 28⟩] [] ⟨177, 12, 178, 28⟩] [] ⟨176, 8, 178, 28⟩,
      .Assign [(.Name "_law_bad" ⟨179, 8, 179, 16⟩)] (.Call (.Name "_law_bad_web" ⟨179, 19, 179, 31⟩) [(.Name "_law_state_here" ⟨179, 32, 179, 47⟩)] [] ⟨179, 19, 179, 48⟩) ⟨179, 8, 179, 48⟩,
      .If (.Compare (.Call (.Name "_law_refused" ⟨180, 11, 180, 23⟩) [(.Lambda { posonlyargs := [], args := [], vararg := none, kwonlyargs := [], kw_defaults := [], kwarg := none, defaults := [] } (.Call (.Name "are_chances" ⟨180, 32, 180, 43⟩) [(.Name "_law_bad" ⟨180, 44, 180, 52⟩), (.Name "_law_chances_here" ⟨180, 54, 180, 71⟩)] [] ⟨180, 32, 180, 72⟩) law_body_sc2 ⟨180, 24, 180, 72⟩)] [] ⟨180, 11, 180, 73⟩) [.NotEq] [(.List [(.Constant (.int 0) 0 ⟨180, 78, 180, 79⟩)] ⟨180, 77, 180, 80⟩)] ⟨180, 11, 180, 80⟩) [.Return (some (.Constant (.bool false) 0 ⟨181, 19, 181, 24⟩)) ⟨181, 12, 181, 24⟩] [] ⟨180, 8, 181, 24⟩] [] ⟨166, 4, 181, 24⟩,
      .Return (some (.Constant (.bool true) 0 ⟨182, 11, 182, 15⟩)) ⟨182, 4, 182, 15⟩] ∧ (e0.all (fun e => (kd true nmL 8 e).isSome) = true ∧ e0.length = 9) ∧ (e1.all (fun e => (kd true nmL 8 e).isSome) = true ∧ e1.length = 10) ∧ (e2.all (fun e => (kd true nmC 8 e).isSome) = true ∧ e2.length = 2) ∧ compOk law_body_sc1 (defScope sLaw) nLaw ["_law_turn"] [("_law_chances_here", 4), ("_law_state_here", 2)] = true :=
  ⟨_, _, _, rfl, ⟨by decide +kernel, by decide +kernel⟩, ⟨by decide +kernel, by decide +kernel⟩, ⟨by decide +kernel, by decide +kernel⟩, by decide +kernel⟩
abbrev qLam : Str := "law.<locals>.<lambda>"
def spLaw (K : PySem.W.Frag) (PT : Addr) : Sp := fun vs H Q _ => ∃ (a : Addr) (ns : List Int), vs = [.ref a] ∧ SqL K H a (ns.map V.int) ∧ H PT = some (.tbl #[]) ∧ ∀ H', Q (.bl true) H'
theorem good_web {m : Int} {ts : List D} (g : GoodWeb m ts) : webD (.tup [.int m, .tup ts]) = true := by
  have h1 : (ts.map (tieD m)).all id = true := by
    rw [List.all_map, List.all_eq_true]
    exact fun t ht => g.tie t ht
  have h2 : tiesD m (.tup ts) = true := by
    show (decide (ts.length ≤ 8) && ((ts.map (tieD m)).all id && chainD ts)) = true
    rw [h1, g.chain, decide_eq_true g.len]; rfl
  have h3 := g.lo
  have h4 := g.hi
  show (decide (1 ≤ m) && (decide (m ≤ 6) && tiesD m (.tup ts))) = true
  rw [h2, decide_eq_true h3, decide_eq_true h4]; rfl
section
variable {P : Program} {w : World} {K : PySem.W.Frag} {mg : Str → Option Value} {base : Heap}
theorem scLaw : FnScope nLaw ["_law_script"] (defScope sLaw) := ⟨rfl, rfl, rfl, by decide +kernel, rfl, by decide +kernel, by decide +kernel⟩
theorem ndLaw : (nComp ["_law_turn"] [("_law_chances_here", 4), ("_law_state_here", 2)]).Nodup := by decide +kernel
theorem tri0 : TriplesOk (#[] : Array Value).toList := by first | trivial | (unfold TriplesOk; trivial)
def tLx (K : PySem.W.Frag) (nm : Nms) (n : Nat) : TE := fun σ H Q => ∃ st, tL K st nm n σ H Q
theorem kd_lx {X : Cx} {K : PySem.W.Frag} {nm : Nms} {c : Bool} (hK : X.K = K) (o : NmOk X nm) (ty : c = true → TyOk X) (n m : Nat) {es : List Expr} {pos : Pos} (h : es.all (fun e => (kd c nm n e).isSome) = true) (hm : es.length = m) (hm2 : m ≤ 100) : PE X (.List es pos) (tLx K nm m) :=
  fun pins s σ H Q I ⟨st, z⟩ => kd_l (st := st) hK o ty n m h hm hm2 pins s σ H Q I z
theorem hfrLaw : ∀ y ∈ law_body_sc2.names, y.2 = .free → (defScope sLaw).names.lookup y.1 = some .cell := by decide +kernel
theorem ok_law {f c PT CW fA : Addr} {fd fdA : FuncData} (F : Fun K "law" "law" sLaw f fd) (hc : fd.code = .ref c) (hhd : PySem.W.codeHdIn K c PT = true)
    (hbm : ∃ bm ob, mg "__builtins__" = some (.ref bm) ∧ bm ≠ builtinsNs ∧ base.get? bm = some ob ∧ ob.cls = .type "module" ∧ ob.dict = some builtinsNs ∧ ob.data = .plain) (T : Txt mg) (RC : RefCls K mg CW 0)
    (S : Fn P w K mg base 2 "_law_state" ["_law_script", "_law_k"] (spState K)) (DR : Fn P w K mg base 2 "_law_web" ["_law_state_here", "_law_most"] (spDraw K))
    (CS : Fn P w K mg base 3 "_law_chances" ["_law_state_here", "_law_web_here"] (spChs K)) (TK : Fn P w K mg base 1 "_law_take" ["_law_state_here", "_law_many"] spTake) (CH : Fn P w K mg base 2 "_law_chance" ["_law_state_here"] (spCha K))
    (IC : Fn P w K mg base 2 "is_chance" ["thing"] (spIch K)) (LC : Fn P w K mg base 2 "_law_is_chance" ["_law_thing"] (spLic K)) (SA : Fn P w K mg base 1 "_law_same" ["_law_found", "_law_due"] spSame)
    (BC : Fn P w K mg base 2 "_law_bad_chances" ["_law_state_here", "_law_chances_here"] (spBch K)) (LA : Fn P w K mg base 3 "_law_are" ["_law_web_here", "_law_thing"] (spLar K)) (BW : Fn P w K mg base 2 "_law_bad_web" ["_law_state_here"] (spBadW K))
    (mA : mg "are_chances" = some (.ref fA)) (kA : PySem.W.keepIn K (.ref fA) = true) (bA : Binds K fdA ["web", "thing"] []) (GA : FnOk P w K mg base (CX1 P w) 7 fA fdA ["web", "thing"] (spArc K CW))
    {fR : Addr} {fdR : FuncData} (mR : mg "_law_refused" = some (.ref fR)) (kR : PySem.W.keepIn K (.ref fR) = true) (bR : Binds K fdR ["_law_call"] []) (GR : FnOkS P w K mg base CX0 9 fR fdR ["_law_call"] (spRef P w K mg base 8)) :
    FnOk P w K mg base CX0 10 f fd ["_law_script"] (spLaw K PT) := by
  obtain ⟨fS, fdS, mS, kS, bS, GS⟩ := S.ex
  obtain ⟨fD, fdD, mD, kD, bD, GD⟩ := DR.ex
  obtain ⟨fC, fdC, mC, kC, bC, GC⟩ := CS.ex
  obtain ⟨fT, fdT, mT, kT, bT, GT⟩ := TK.ex
  obtain ⟨fH, fdH, mH, kH, bH, GH⟩ := CH.ex
  obtain ⟨fI, fdI, mI, kI, bI, GI⟩ := IC.ex
  obtain ⟨fL, fdL, mL, kL, bL, GL⟩ := LC.ex
  obtain ⟨fM, fdM, mM, kM, bM, GM⟩ := SA.ex
  obtain ⟨fB, fdB, mB, kB, bB, GB⟩ := BC.ex
  obtain ⟨fE, fdE, mE, kE, bE, GE⟩ := LA.ex
  obtain ⟨fX, fdX, mX, kX, bX, GX⟩ := BW.ex
  refine F.okC hc scLaw (fun vs H Q E h => ?_) (fun A outer s H vs Q E hr h => ?_)
  · obtain ⟨a, ns, rfl, _⟩ := h; rfl
  · obtain ⟨a, ns, rfl, hq, hpt, q⟩ := h
    obtain ⟨e0, e1, e2, eb, ⟨g0, k0⟩, ⟨g1, k1⟩, ⟨g2, k2⟩, hsc⟩ := law_body
    rw [eb]
    have h1 := hr.mono (j := 1) (by decide)
    have h2 := hr.mono (j := 2) (by decide)
    have h3 := hr.mono (j := 3) (by decide)
    have h7 := hr.mono (j := 7) (by decide)
    refine ⟨_, pss_cons (ps_for PassesOwn.never rfl (pi_range1 rfl T.range (pa_cons (pe_callB (call_max2 rfl) rfl T.max b_max (pa_cons pe_int (pa_cons (pe_callB (call_min2 rfl) rfl T.min b_min (pa_cons (pe_callB call_len_seq rfl T.len b_len (pa_cons (pv 0) pa_nil)) (pa_cons pe_int pa_nil))) pa_nil))) pa_nil)) (pg_name (i := 1) scLaw.nd rfl (Or.inl rfl))
        (pss_cons (ps_set (i := 2) scLaw.nd rfl (Or.inr rfl) (pe_call GS h2 rfl mS kS bS .nil pass0 (pa_cons (pv 0) (pa_cons (pv 1) pa_nil))))
        (pss_cons (ps_set (i := 3) scLaw.nd rfl (Or.inl rfl) (pe_call GD h2 rfl mD kD bD .nil pass0 (pa_cons (pv 2) (pa_cons pe_int pa_nil))))
        (pss_cons (ps_set (i := 4) scLaw.nd rfl (Or.inr rfl) (pe_call GC h3 rfl mC kC bC .nil pass0 (pa_cons (pv 2) (pa_cons (pv 3) pa_nil))))
        (pss_cons (ps_par (i := 5) (j := 6) rfl scLaw.nd rfl rfl (by decide) rfl rfl (pa_cons (pe_op op_sub (pe_call GT h1 rfl mT kT bT .nil pass0 (pa_cons (pv 2) (pa_cons pe_int pa_nil))) pe_int) (pa_cons (pe_call GT h1 rfl mT kT bT .nil pass0 (pa_cons (pv 2) (pa_cons pe_int pa_nil))) pa_nil)) rfl)
        (pss_cons (ps_set (i := 7) scLaw.nd rfl (Or.inl rfl) (pe_call GH h2 rfl mH kH bH .nil pass0 (pa_cons (pv 2) pa_nil)))
        (pss_cons (ps_set (i := 8) scLaw.nd rfl (Or.inl rfl) (kd_lx (K := K) (nm := nmL) (c := true) rfl (.cons rfl (Or.inl rfl) (by decide) (by decide) (.cons rfl (Or.inl rfl) (by decide) (by decide) (.cons rfl (Or.inl rfl) (by decide) (by decide) .nil))) (fun _ => by exact ⟨⟨rfl, T.list⟩⟩) 8 9 g0 k0 (by decide)))
        (pss_cons (ps_for PassesOwn.never rfl (pi_list (pe_op op_cat (pv 8) (kd_lx (K := K) (nm := nmL) (c := true) rfl (.cons rfl (Or.inl rfl) (by decide) (by decide) (.cons rfl (Or.inl rfl) (by decide) (by decide) (.cons rfl (Or.inl rfl) (by decide) (by decide) .nil))) (fun _ => by exact ⟨⟨rfl, T.list⟩⟩) 8 10 g1 k1 (by decide)))) (pg_name (i := 9) scLaw.nd rfl (Or.inl rfl))
          (pss_one (ps_if (pt_not (pt_val (pe_call GM h1 rfl mM kM bM .nil pass0 (pa_cons (pe_call GI h2 rfl mI kI bI .nil pass0 (pa_cons (pv 9) pa_nil)) (pa_cons (pe_call GL h2 rfl mL kL bL .nil pass0 (pa_cons (pv 9) pa_nil)) pa_nil))))) (pss_one (ps_ret pe_bl)) pss_nil)))
        (pss_cons (ps_for PassesOwn.never rfl (pi_list (pe_op op_cat (kd_lx (K := K) (nm := nmC) (c := true) rfl (.cons rfl (Or.inr (Or.inl rfl)) (by decide) (by decide) .nil) (fun _ => by exact ⟨⟨rfl, T.list⟩⟩) 8 2 g2 k2 (by decide)) (pe_comp (own := ["_law_turn"]) (capt := [("_law_chances_here", 4), ("_law_state_here", 2)]) rfl (by exact CompSc.of (scX := defScope sLaw) (N := nLaw) rfl rfl hsc) (pi_range1 rfl T.range (pa_cons pe_int pa_nil))
            (fun cl C s H fp => pg_name (i := 0) ndLaw rfl (Or.inl rfl)) (fun cl C s H fp => pts_nil) (fun cl C s H fp => pe_call GB h2 rfl mB kB bB .nil pass0 (pa_cons (pv 2) (pa_cons (pv 1) pa_nil)))))) (pg_name (i := 9) scLaw.nd rfl (Or.inl rfl))
          (pss_one (ps_if (pt_not (pt_val (pe_call GM h1 rfl mM kM bM .nil pass0 (pa_cons (pe_call GA h7 rfl mA kA bA .nil passNo (pa_cons (pv 3) (pa_cons (pv 9) pa_nil))) (pa_cons (pe_call GE h3 rfl mE kE bE .nil pass0 (pa_cons (pv 3) (pa_cons (pv 9) pa_nil))) pa_nil))))) (pss_one (ps_ret pe_bl)) pss_nil)))
        (pss_cons (ps_set (i := 10) scLaw.nd rfl (Or.inr rfl) (pe_call GX h2 rfl mX kX bX .nil pass0 (pa_cons (pv 2) pa_nil)))
        (pss_one (ps_if (pt_cmpR (op_neInts hr.units) (pe_lamcall (k := 7) (N := ["_law_bad", "_law_chances_here"]) (qual := qLam) (P := PT) (cls := .ref CW) GR hr rfl mR kR bR rfl hhd rfl hbm (fun y hy hf => hfrLaw y hy hf) (by decide +kernel) (by decide +kernel) rfl rfl rfl rfl (fun _ _ _ _ => rfl)) (pe_lst (pa_cons pe_int pa_nil)) (nomark _)) (pss_one (ps_ret pe_bl)) pss_nil))))))))))))
      (pss_one (ps_ret pe_bl)), ?_⟩
    clear eb
    have hb : ∀ k : Int, -(2 ^ 62) ≤ (if (if (10 : Int) < k then (10 : Int) else k) > 1 then (if (10 : Int) < k then (10 : Int) else k) else 1) ∧ (if (if (10 : Int) < k then (10 : Int) else k) > 1 then (if (10 : Int) < k then (10 : Int) else k) else 1) < 2 ^ 62 := fun k => by
      split <;> split <;> constructor <;> omega
    refine ⟨_, rfl, a, _, rfl, .inl hq, _, _, rfl, _, _, rfl, _, rfl, (hb _).1, (hb _).2, ?_⟩
    have tb00 : Tab H PT qLam := ⟨#[], hpt, tri0, fun pos c e => nomatch e⟩
    refine for_range (fun i σ' H' => SqL K H' a (ns.map V.int) ∧ Tab H' PT qLam ∧ ∃ v1 v2 v3 v4 v5 v6 v7 v8 v9 v10, σ' = [some (.ref a), v1, v2, v3, v4, v5, v6, v7, v8, v9, v10]) ⟨hq, tb00, _, _, _, _, _, _, _, _, _, _, rfl⟩ ?_ ?_
    · rintro i σ' H0 hi ⟨hq0, tb0, v1, v2, v3, v4, v5, v6, v7, v8, v9, v10, rfl⟩
      refine ⟨_, rfl, _, rfl, a, ns, i, by show [V.ref a, V.int (0 + (i : Int))] = _; rw [Int.zero_add], hq0, fun st n b hst0 => ?_⟩
      have s01 : Same H0 (hide st (upd H0 st (.lst [.int n, .bl b]))) := fun c o e => hide_get (by rw [upd_ne (ne_of_none e hst0)]; exact e) (ne_of_none e hst0)
      refine ⟨_, rfl, st, n, b, rfl, upd_same, fun v m ts H2 A2 gw hv => ?_⟩
      obtain ⟨n2, b2, e2⟩ := A2.st
      have lt8 := gw.len
      refine ⟨_, rfl, _, rfl, st, n2, b2, m, ts, v, rfl, e2, hv, lt8, fun ds u H3 A3 dl dp hu => ?_⟩
      obtain ⟨n3, b3, e3⟩ := A3.st
      refine ⟨_, rfl, st, n3, b3, 1003, rfl, e3, by decide, by decide, fun r1 n4 ra rb => ?_⟩
      have A4 := A3.turn n4 b3
      refine ⟨_, _, rfl, rfl, _, rfl, st, n4, b3, 1003, rfl, upd_same, by decide, by decide, fun r2 n5 rc rd => ?_⟩
      have A5 := A4.turn n5 b3
      refine ⟨_, _, rfl, ?_⟩
      refine ⟨_, rfl, st, n5, b3, rfl, upd_same, fun d1 o1 H6 A6 pd1 ho1 => ?_⟩
      obtain ⟨t1, bo1, rfl, pa, pb, pc, pd⟩ := pair_of pd1
      unfold Has at ho1
      obtain ⟨oa, oxs, rfl, osq, oall⟩ := ho1
      obtain ⟨_, _, y1, y2, ee, rfl, hy1, hy2⟩ := two_of oall (by rw [oall.length]; rfl)
      cases ee
      unfold Has at hy1 hy2
      subst hy1 hy2
      obtain ⟨n6, b6, e6⟩ := A6.st
      have P0 : ∀ x8 x9 x10, Pr K st nmL [some (.ref a), some (.int (0 + (i : Int))), some (.ref st), some v, some u, some (.int (r1 - 1)), some (.int r2), some (.ref oa), x8, x9, x10] H6 := fun _ _ _ =>
        .cons rfl ⟨oa, t1, bo1, rfl, osq, pa, pb, pc, pd⟩ (.cons rfl ⟨r1 - 1, rfl, by omega⟩ (.cons rfl ⟨r2, rfl, by omega⟩ (.nil e6)))
      refine ⟨st, P0 _ _ _, fun l1 xs1 ds1 Ha sa hl1 ha nn1 => ?_⟩
      have sa' := sa.trans (Same.new (.lst xs1) hl1)
      refine ⟨_, rfl, st, (P0 _ _ _).same sa', fun l2 xs2 ds2 Hb sb hl2 hbb nn2 => ?_⟩
      have sb' := sb.trans (Same.new (.lst xs2) hl2)
      refine ⟨l1, l2, xs1, xs2, rfl, rfl, sb' _ _ upd_same, upd_same, small64 (by omega), fun lf hlf => ?_⟩
      have sf := Same.new (.lst (xs1 ++ xs2)) hlf
      have all1 := HasAll.append (ha.same (hide_up (st := st) ((Same.new (.lst xs1) hl1).trans (sb'.trans sf)))) (hbb.same (hide_up (st := st) ((Same.new (.lst xs2) hl2).trans sf)))
      have A7 := A6.same' (sa'.trans (sb'.trans sf))
      refine ⟨lf, rfl, ⟨_, SqL.of upd_same⟩, ?_⟩
      refine for_list (K := K) (xs := xs1 ++ xs2) (fun j σ' H' => Same (upd (upd Hb l2 (.lst xs2)) lf (.lst (xs1 ++ xs2))) H' ∧ ∃ v9, σ' = [some (.ref a), some (.int (0 + (i : Int))), some (.ref st), some v, some u, some (.int (r1 - 1)), some (.int r2), some (.ref oa), some (.ref l1), v9, v10]) ⟨Same.refl _, _, rfl⟩ (fun j σ' H' _ p => p.1.seq (SqL.of upd_same)) ?_ ?_
      · rintro j x σ' H' hx ⟨s6, v9, rfl⟩
        obtain ⟨d, _, hd⟩ := all1.get hx
        have hd6 := (hd.same (hide_same st _)).same s6
        refine ⟨_, rfl, d, x, rfl, hd6, _, rfl, d, x, rfl, hd6, fun H9 s9 => ⟨chD d, chD d, rfl, fun H10 s10 => ⟨_, rfl, ?_⟩⟩⟩
        rw [beq_self_eq_true]
        refine iteF ?_
        exact ⟨s6.trans (s9.trans s10), _, rfl⟩
      · rintro σ' H8 ⟨s8, v9, rfl⟩
        have A8 := A7.same' s8
        have B8 : Adv st H3 H8 := (((Adv.refl ⟨n3, b3, e3⟩).turn n4 b3).turn n5 b3).trans A8
        have w28 := A3.hid.trans B8.hid
        have hu8 := hu.same B8.hid
        have hv8 := hv.same w28
        have s08 := s01.trans (A2.hid.trans w28)
        obtain ⟨n8, b8, e8⟩ := B8.st
        unfold Has at hu8
        obtain ⟨ua, uxs, rfl, usq, uall⟩ := hu8
        have ul := uall.length
        have P8 : ∀ x5 x6 x7 x8 x9 x10, Pr K st nmC [some (.ref a), some (.int (0 + (i : Int))), some (.ref st), some v, some (.ref ua), x5, x6, x7, x8, x9, x10] H8 := fun _ _ _ _ _ _ =>
          .cons rfl ⟨ua, uxs, ds, rfl, usq, uall, by omega⟩ (.nil e8)
        refine ⟨st, P8 _ _ _ _ _ _, fun l3 xs3 ds3 Hc sc hl3 hc3 nn3 => ?_⟩
        have sc' := sc.trans (Same.new (.lst xs3) hl3)
        have C0 : Adv st (upd Hc l3 (.lst xs3)) (upd Hc l3 (.lst xs3)) := .refl ⟨n8, b8, sc' _ _ e8⟩
        have l3st : l3 ≠ st := fun z => by rw [z, sc _ _ e8] at hl3; cases hl3
        refine ⟨5, rfl, by decide, by decide, comp_rng (lo := 0) (n := 5) (fun j ys H' => Adv st (upd Hc l3 (.lst xs3)) H' ∧ ys.length = j ∧ ∃ dy, HasAll K (hide st H') dy ys) (small64 (by decide)) ⟨C0, rfl, [], .nil⟩ (fun j ys H' p => by omega) ?_ ?_⟩
        · rintro j ys H' hj ⟨adv, hl, dy, hall⟩
          obtain ⟨n9, b9, e9⟩ := adv.st
          have z9 := (hide_up (st := st) sc').trans adv.hid
          refine gN (ttYes_of ?_)
          refine iteT ?_
          refine ⟨_, rfl, _, rfl, st, n9, b9, ds, .ref ua, rfl, e9, by omega, dp, .tup (z9.sqT usq) (uall.same z9), fun y H'' a' hy => ?_⟩
          obtain ⟨dd, hdd⟩ := hy
          exact ⟨adv.trans a', by rw [List.length_append, hl]; rfl, dy ++ [dd], (hall.same a'.hid).append (.cons hdd .nil)⟩
        · rintro ys H9 p9 ⟨adv, hl, dy, hall⟩ hp9
          have sp9 := Same.new (.lst ys) hp9
          have adv9 := adv.same' sp9
          refine ⟨l3, p9, xs3, ys, rfl, rfl, adv9.same _ _ l3st upd_same, upd_same, small64 (by omega), fun lg hlg => ?_⟩
          have sg := Same.new (.lst (xs3 ++ ys)) hlg
          have adv10 := adv9.same' sg
          have z10 := (hide_up (st := st) sc').trans adv10.hid
          have all2 := HasAll.append ((hc3.same (hide_up (st := st) (Same.new (.lst xs3) hl3))).same adv10.hid) (hall.same (hide_up (st := st) (sp9.trans sg)))
          have hv10 := (hv8.same z10).same (hide_same st _)
          refine ⟨lg, rfl, ⟨_, SqL.of upd_same⟩, ?_⟩
          refine for_list (K := K) (xs := xs3 ++ ys) (fun j σ' H' => Same (upd (upd H9 p9 (.lst ys)) lg (.lst (xs3 ++ ys))) H' ∧ ∃ v9, σ' = [some (.ref a), some (.int (0 + (i : Int))), some (.ref st), some v, some (.ref ua), some (.int (r1 - 1)), some (.int r2), some (.ref oa), some (.ref l1), v9, v10]) ⟨Same.refl _, _, rfl⟩ (fun j σ' H' _ p => p.1.seq (SqL.of upd_same)) ?_ ?_
          · rintro j x σ' H' hx ⟨s11, v9, rfl⟩
            obtain ⟨d, _, hd⟩ := all2.get hx
            have hd11 := (hd.same (hide_same st _)).same s11
            have gw' := good_web gw
            refine ⟨_, rfl, _, rfl, .tup [.int m, .tup ts], v, d, x, rfl, hv10.same s11, hd11, fun _ H12 s12 => ?_, fun z => absurd (gw'.symm.trans z) (by decide)⟩
            refine ⟨_, rfl, _, rfl, m, ts, v, d, x, rfl, hv10.same (s11.trans s12), lt8, hd11.same s12, fun H13 s13 => ⟨_, _, rfl, fun H14 s14 => ⟨_, rfl, ?_⟩⟩⟩
            rw [beq_self_eq_true]
            refine iteF ?_
            exact ⟨s11.trans (s12.trans (s13.trans s14)), _, rfl⟩
          · rintro σ' H11 ⟨s11, v9, rfl⟩
            have adv11 := adv10.same' s11
            have z11 := (hide_up (st := st) sc').trans adv11.hid
            obtain ⟨n11, b11, e11⟩ := adv11.st
            refine ⟨_, rfl, st, n11, b11, rfl, e11, fun db vb H12 A12 wf hvb => ?_⟩
            have z12 := z11.trans A12.hid
            have tb12 := tb0.same ((s08.trans z12).trans (hide_same st _))
            have hq12 := ((s08.trans z12).trans (hide_same st _)).seq hq0
            have hu12 : Has K H12 (.tup ds) (.ref ua) := .tup ((z12.trans (hide_same st _)).sqT usq) (uall.same (z12.trans (hide_same st _)))
            have hvb12 := hvb.same (hide_same st _)
            have tb12' := tb12
            obtain ⟨tps, te, _⟩ := tb12
            refine ⟨tb12', [vb, .ref ua], rfl, ?_, fun H13 KB TB13 => ⟨fun f' c' cl A' outer' s' H14 hr' s14 => ?_, fun s2 f' th => ?_⟩⟩
            · intro i x y e1 e2
              match i, e1, e2 with
              | 0, e1, e2 => cases e1; cases e2; exact ⟨10, rfl, rfl⟩
              | 1, e1, e2 => cases e1; cases e2; exact ⟨4, rfl, rfl⟩
              | _ + 2, e1, _ => cases e1
            · refine ⟨_, pe_call GA hr' rfl mA kA bA .nil passLam (pa_cons (pv 0) (pa_cons (pv 1) pa_nil)), ?_⟩
              refine ⟨_, rfl, _, rfl, db, vb, .tup ds, .ref ua, rfl, (hvb12.keep KB te).same s14, (hu12.keep KB te).same s14, fun z => absurd (wf.symm.trans z) (by decide), fun _ _ H15 s15 _ => ⟨rfl, s15⟩⟩
            · refine ⟨f', CW, 0, rfl, th, RC, fun l14 H14 s14 hl14 => ?_⟩
              refine ⟨small64 (by show 1 ≤ 64; decide), fun l15 hl15 => ?_⟩
              have s15 := Same.new (.lst [.int 0]) hl15
              refine ⟨l14, l15, [0], [0], rfl, rfl, SqL.of (s15 _ _ upd_same), SqL.of upd_same, _, rfl, ?_⟩
              refine iteF ?_
              have s35 := s14.trans ((Same.new (.lst [.int ((0 : Nat) : Int)]) hl14).trans s15)
              exact ⟨s35.seq (KB.sqL te hq12), TB13.same s35, _, _, _, _, _, _, _, _, _, _, rfl⟩
    · rintro σ' H0 ⟨hq0, tb0, v1, v2, v3, v4, v5, v6, v7, v8, v9, v10, rfl⟩
      exact q _
end
end K3

namespace K3
open PySem L2
theorem us1 {us : List Value} (h : us.length = 1) : ∃ u, us = [u] := List.length_eq_one_iff.mp h
theorem us2 {us : List Value} (h : us.length = 2) : ∃ u v, us = [u, v] := by
  match us, h with
  | [a, b], _ => exact ⟨a, b, rfl⟩
theorem refCls {K : PySem.W.Frag} {h : Heap} {mg : Str → Option Value} {q : Asks} {x : Str} {j : Nat} (X : K.In h) (G : h.Ns mainGlobals mg) (F : Facts q K h) (hx : x ∈ q.cs) (hj : names12[j]? = some x) (hv : ("ValueError" : Str) ∈ q.ns) : ∃ C, mg x = some (.ref C) ∧ RefCls K mg C j ∧ PySem.W.excIn K C [.type "ValueError", .type "Exception", .type "BaseException", .type "object"] "ValueError.__new__" = true := by
  obtain ⟨C, hC, e⟩ := F.cl x hx
  unfold clsSeen clsDue at e
  simp only [Prod.mk.injEq] at e
  obtain ⟨u1, u2, u3, u4, u5, hd, ve, ce, ex, ys⟩ := e
  obtain ⟨D, hD, ce⟩ := Option.bind_eq_some_iff.mp ce
  have lt : j < 12 := (List.getElem?_eq_some_iff.mp hj).1
  refine ⟨C, PySem.W.mg_of X G hC, ⟨fun i y hy => ?_, ⟨u1, u2, u3, u4, u5, F.sp, F.tk⟩, hd, ve, PySem.W.mg_none_of X G (F.no _ hv), ⟨D, PySem.W.mg_of X G (refAt_eq hD), ce⟩, lt⟩, ex⟩
  have hm := map_at ys y (List.mem_of_getElem? hy)
  obtain ⟨B, hB, hk⟩ := Option.bind_eq_some_iff.mp hm
  refine ⟨B, PySem.W.mg_of X G (refAt_eq hB), hk.trans (congrArg some (decide_eq_decide.mpr ⟨fun q => ?_, fun q => ?_⟩))⟩
  · subst q
    have nd : names12.Nodup := by decide +kernel
    exact (List.getElem?_inj (List.getElem?_eq_some_iff.mp hy).1 nd).mp (hy.trans hj.symm)
  · subst q
    rw [hj] at hy; cases hy; rfl
noncomputable def asks : Asks := ⟨[("is_whole", sWhole), ("is_below", sBelow), ("is_tie", sTie), ("are_ties", sTies), ("is_web", sWeb), ("common_divisor", sGcd), ("check_web", sChk), ("is_chance", sIch), ("are_chances", sArc), ("_law_cell_at", sCell), ("_law_state", sState), ("_law_take", sTake), ("_law_web", sDraw), ("_law_lowest", sLow), ("_law_chance", sCha), ("_law_chances", sChs), ("_law_whole", sLWhole), ("_law_bad_chances", sBch), ("_law_bad_web", sBad), ("_law_same", sSame), ("_law_refused", sRef), ("_law_is_chance", sLic), ("_law_are", sLar), ("law", sLaw)], [("MOST_PLACES", 6), ("MOST_TIES", 8), ("MOST_BOTTOM", 1000)], ["isinstance", "len", "all", "sorted", "min", "max", "int", "bool", "tuple", "list", "str", "zip", "range", "ValueError"], ["law"], ["NoWeb"]⟩
theorem all_mk {l : PySem.W.OpenLaw} {w : World} {K : PySem.W.Frag} {h : Heap} {mg : Str → Option Value} {fa : Addr} (X : K.In h) (G : h.Ns mainGlobals mg) (Q : Facts asks K h) (hfa : mg "law" = some (.ref fa)) :
    ∃ (fd : FuncData) (ts : List Addr) (sp : Sp), (∀ Pt ∈ ts, h.get? Pt = some (PySem.W.tabObj #[]) ∧ K.lookup Pt = none ∧ ∃ c, PySem.W.codeHdIn K c Pt = true) ∧ (∀ (s : Shared) (u : Value), BindsTo s fd ⟨[u], []⟩ [("_law_script", u)]) ∧
        (∀ base : Heap, K.In base → base.Ns mainGlobals mg → BMain mg base → FnOk l.prog w K mg base CX0 10 fa fd ["_law_script"] sp) ∧
        ∀ (H : Hp) (a : Addr) (ns : List Int), ns.length ≤ 63 → (∀ Pt ∈ ts, H Pt = some (.tbl #[])) → SqL K H a (ns.map V.int) → sp [.ref a] H (fun v _ => v = .bl true) fun _ _ _ => False := by
  obtain ⟨f1, fd1, a1, F1, oc1, od1, sl1, l1⟩ := Q.fn ("is_whole", sWhole) (.head _)
  obtain ⟨f2, fd2, a2, F2, oc2, od2, sl2, l2⟩ := Q.fn ("is_below", sBelow) (.tail _ (.head _))
  obtain ⟨f3, fd3, a3, F3, oc3, od3, sl3, l3⟩ := Q.fn ("is_tie", sTie) (.tail _ (.tail _ (.head _)))
  obtain ⟨f4, fd4, a4, F4, oc4, od4, sl4, l4⟩ := Q.fn ("are_ties", sTies) (.tail _ (.tail _ (.tail _ (.head _))))
  obtain ⟨f5, fd5, a5, F5, oc5, od5, sl5, l5⟩ := Q.fn ("is_web", sWeb) (.tail _ (.tail _ (.tail _ (.tail _ (.head _)))))
  obtain ⟨f6, fd6, a6, F6, oc6, od6, sl6, l6⟩ := Q.fn ("common_divisor", sGcd) (.tail _ (.tail _ (.tail _ (.tail _ (.tail _ (.head _))))))
  obtain ⟨f7, fd7, a7, F7, oc7, od7, sl7, l7⟩ := Q.fn ("check_web", sChk) (.tail _ (.tail _ (.tail _ (.tail _ (.tail _ (.tail _ (.head _)))))))
  obtain ⟨f8, fd8, a8, F8, oc8, od8, sl8, l8⟩ := Q.fn ("is_chance", sIch) (.tail _ (.tail _ (.tail _ (.tail _ (.tail _ (.tail _ (.tail _ (.head _))))))))
  obtain ⟨f9, fd9, a9, F9, oc9, od9, sl9, l9⟩ := Q.fn ("are_chances", sArc) (.tail _ (.tail _ (.tail _ (.tail _ (.tail _ (.tail _ (.tail _ (.tail _ (.head _)))))))))
  obtain ⟨f10, fd10, a10, F10, oc10, od10, sl10, l10⟩ := Q.fn ("_law_cell_at", sCell) (.tail _ (.tail _ (.tail _ (.tail _ (.tail _ (.tail _ (.tail _ (.tail _ (.tail _ (.head _))))))))))
  obtain ⟨f11, fd11, a11, F11, oc11, od11, sl11, l11⟩ := Q.fn ("_law_state", sState) (.tail _ (.tail _ (.tail _ (.tail _ (.tail _ (.tail _ (.tail _ (.tail _ (.tail _ (.tail _ (.head _)))))))))))
  obtain ⟨f12, fd12, a12, F12, oc12, od12, sl12, l12⟩ := Q.fn ("_law_take", sTake) (.tail _ (.tail _ (.tail _ (.tail _ (.tail _ (.tail _ (.tail _ (.tail _ (.tail _ (.tail _ (.tail _ (.head _))))))))))))
  obtain ⟨f13, fd13, a13, F13, oc13, od13, sl13, l13⟩ := Q.fn ("_law_web", sDraw) (.tail _ (.tail _ (.tail _ (.tail _ (.tail _ (.tail _ (.tail _ (.tail _ (.tail _ (.tail _ (.tail _ (.tail _ (.head _)))))))))))))
  obtain ⟨f14, fd14, a14, F14, oc14, od14, sl14, l14⟩ := Q.fn ("_law_lowest", sLow) (.tail _ (.tail _ (.tail _ (.tail _ (.tail _ (.tail _ (.tail _ (.tail _ (.tail _ (.tail _ (.tail _ (.tail _ (.tail _ (.head _))))))))))))))
  obtain ⟨f15, fd15, a15, F15, oc15, od15, sl15, l15⟩ := Q.fn ("_law_chance", sCha) (.tail _ (.tail _ (.tail _ (.tail _ (.tail _ (.tail _ (.tail _ (.tail _ (.tail _ (.tail _ (.tail _ (.tail _ (.tail _ (.tail _ (.head _)))))))))))))))
  obtain ⟨f16, fd16, a16, F16, oc16, od16, sl16, l16⟩ := Q.fn ("_law_chances", sChs) (.tail _ (.tail _ (.tail _ (.tail _ (.tail _ (.tail _ (.tail _ (.tail _ (.tail _ (.tail _ (.tail _ (.tail _ (.tail _ (.tail _ (.tail _ (.head _))))))))))))))))
  obtain ⟨f17, fd17, a17, F17, oc17, od17, sl17, l17⟩ := Q.fn ("_law_whole", sLWhole) (.tail _ (.tail _ (.tail _ (.tail _ (.tail _ (.tail _ (.tail _ (.tail _ (.tail _ (.tail _ (.tail _ (.tail _ (.tail _ (.tail _ (.tail _ (.tail _ (.head _)))))))))))))))))
  obtain ⟨f18, fd18, a18, F18, oc18, od18, sl18, l18⟩ := Q.fn ("_law_bad_chances", sBch) (.tail _ (.tail _ (.tail _ (.tail _ (.tail _ (.tail _ (.tail _ (.tail _ (.tail _ (.tail _ (.tail _ (.tail _ (.tail _ (.tail _ (.tail _ (.tail _ (.tail _ (.head _))))))))))))))))))
  obtain ⟨f19, fd19, a19, F19, oc19, od19, sl19, l19⟩ := Q.fn ("_law_bad_web", sBad) (.tail _ (.tail _ (.tail _ (.tail _ (.tail _ (.tail _ (.tail _ (.tail _ (.tail _ (.tail _ (.tail _ (.tail _ (.tail _ (.tail _ (.tail _ (.tail _ (.tail _ (.tail _ (.head _)))))))))))))))))))
  obtain ⟨f20, fd20, a20, F20, oc20, od20, sl20, l20⟩ := Q.fn ("_law_same", sSame) (.tail _ (.tail _ (.tail _ (.tail _ (.tail _ (.tail _ (.tail _ (.tail _ (.tail _ (.tail _ (.tail _ (.tail _ (.tail _ (.tail _ (.tail _ (.tail _ (.tail _ (.tail _ (.tail _ (.head _))))))))))))))))))))
  obtain ⟨f21, fd21, a21, F21, oc21, od21, sl21, l21⟩ := Q.fn ("_law_refused", sRef) (.tail _ (.tail _ (.tail _ (.tail _ (.tail _ (.tail _ (.tail _ (.tail _ (.tail _ (.tail _ (.tail _ (.tail _ (.tail _ (.tail _ (.tail _ (.tail _ (.tail _ (.tail _ (.tail _ (.tail _ (.head _)))))))))))))))))))))
  obtain ⟨f22, fd22, a22, F22, oc22, od22, sl22, l22⟩ := Q.fn ("_law_is_chance", sLic) (.tail _ (.tail _ (.tail _ (.tail _ (.tail _ (.tail _ (.tail _ (.tail _ (.tail _ (.tail _ (.tail _ (.tail _ (.tail _ (.tail _ (.tail _ (.tail _ (.tail _ (.tail _ (.tail _ (.tail _ (.tail _ (.head _))))))))))))))))))))))
  obtain ⟨f23, fd23, a23, F23, oc23, od23, sl23, l23⟩ := Q.fn ("_law_are", sLar) (.tail _ (.tail _ (.tail _ (.tail _ (.tail _ (.tail _ (.tail _ (.tail _ (.tail _ (.tail _ (.tail _ (.tail _ (.tail _ (.tail _ (.tail _ (.tail _ (.tail _ (.tail _ (.tail _ (.tail _ (.tail _ (.tail _ (.head _)))))))))))))))))))))))
  obtain ⟨f24, fd24, a24, F24, oc24, od24, sl24, l24⟩ := Q.fn ("law", sLaw) (.tail _ (.tail _ (.tail _ (.tail _ (.tail _ (.tail _ (.tail _ (.tail _ (.tail _ (.tail _ (.tail _ (.tail _ (.tail _ (.tail _ (.tail _ (.tail _ (.tail _ (.tail _ (.tail _ (.tail _ (.tail _ (.tail _ (.tail _ (.head _))))))))))))))))))))))))
  have m1 : ∃ t, mg "MOST_PLACES" = some (.int 6 t) := let ⟨t, e⟩ := Q.it ("MOST_PLACES", 6) (.head _); ⟨t, PySem.W.mg_of X G e⟩
  have m2 : ∃ t, mg "MOST_TIES" = some (.int 8 t) := let ⟨t, e⟩ := Q.it ("MOST_TIES", 8) (.tail _ (.head _)); ⟨t, PySem.W.mg_of X G e⟩
  have m3 : ∃ t, mg "MOST_BOTTOM" = some (.int 1000 t) := let ⟨t, e⟩ := Q.it ("MOST_BOTTOM", 1000) (.tail _ (.tail _ (.head _))); ⟨t, PySem.W.mg_of X G e⟩
  have z1 : mg "isinstance" = none := PySem.W.mg_none_of X G (Q.no "isinstance" (.head _))
  have z2 : mg "len" = none := PySem.W.mg_none_of X G (Q.no "len" (.tail _ (.head _)))
  have z3 : mg "all" = none := PySem.W.mg_none_of X G (Q.no "all" (.tail _ (.tail _ (.head _))))
  have z4 : mg "sorted" = none := PySem.W.mg_none_of X G (Q.no "sorted" (.tail _ (.tail _ (.tail _ (.head _)))))
  have z5 : mg "min" = none := PySem.W.mg_none_of X G (Q.no "min" (.tail _ (.tail _ (.tail _ (.tail _ (.head _))))))
  have z6 : mg "max" = none := PySem.W.mg_none_of X G (Q.no "max" (.tail _ (.tail _ (.tail _ (.tail _ (.tail _ (.head _)))))))
  have z7 : mg "int" = none := PySem.W.mg_none_of X G (Q.no "int" (.tail _ (.tail _ (.tail _ (.tail _ (.tail _ (.tail _ (.head _))))))))
  have z8 : mg "bool" = none := PySem.W.mg_none_of X G (Q.no "bool" (.tail _ (.tail _ (.tail _ (.tail _ (.tail _ (.tail _ (.tail _ (.head _)))))))))
  have z9 : mg "tuple" = none := PySem.W.mg_none_of X G (Q.no "tuple" (.tail _ (.tail _ (.tail _ (.tail _ (.tail _ (.tail _ (.tail _ (.tail _ (.head _))))))))))
  have z10 : mg "list" = none := PySem.W.mg_none_of X G (Q.no "list" (.tail _ (.tail _ (.tail _ (.tail _ (.tail _ (.tail _ (.tail _ (.tail _ (.tail _ (.head _)))))))))))
  have z11 : mg "str" = none := PySem.W.mg_none_of X G (Q.no "str" (.tail _ (.tail _ (.tail _ (.tail _ (.tail _ (.tail _ (.tail _ (.tail _ (.tail _ (.tail _ (.head _))))))))))))
  have z12 : mg "zip" = none := PySem.W.mg_none_of X G (Q.no "zip" (.tail _ (.tail _ (.tail _ (.tail _ (.tail _ (.tail _ (.tail _ (.tail _ (.tail _ (.tail _ (.tail _ (.head _)))))))))))))
  have z13 : mg "range" = none := PySem.W.mg_none_of X G (Q.no "range" (.tail _ (.tail _ (.tail _ (.tail _ (.tail _ (.tail _ (.tail _ (.tail _ (.tail _ (.tail _ (.tail _ (.tail _ (.head _))))))))))))))
  have z14 : mg "ValueError" = none := PySem.W.mg_none_of X G (Q.no "ValueError" (.tail _ (.tail _ (.tail _ (.tail _ (.tail _ (.tail _ (.tail _ (.tail _ (.tail _ (.tail _ (.tail _ (.tail _ (.tail _ (.head _)))))))))))))))
  have T : Txt mg := ⟨m1, m2, z1, z2, z3, z4, z5, z6, z7, z8, z9, z10, z11, z12, z13⟩
  obtain ⟨PT, t1, t2, fL, oL, odL, fdL, slL, cL, t3, t4, t5, hd0⟩ := Q.mt "law" (.head _)
  obtain ⟨C0, x0, RC, ex⟩ := refCls (j := 0) X G Q (x := "NoWeb") (.head _) rfl (.tail _ (.tail _ (.tail _ (.tail _ (.tail _ (.tail _ (.tail _ (.tail _ (.tail _ (.tail _ (.tail _ (.tail _ (.tail _ (.head _))))))))))))))
  have e := hfa.symm.trans (PySem.W.mg_of X G a24)
  cases e
  have e := a24.symm.trans t3
  cases e
  have e := l24.symm.trans t4
  cases e
  have b1 := F1.binds (ps := ["thing"]) fun _ _ _ _ _ _ us hl => by obtain ⟨_, rfl⟩ := us1 hl; rfl
  have b2 := F2.binds (ps := ["thing", "many"]) fun _ _ _ _ _ _ us hl => by obtain ⟨_, _, rfl⟩ := us2 hl; rfl
  have b3 := F3.binds (ps := ["thing", "many"]) fun _ _ _ _ _ _ us hl => by obtain ⟨_, _, rfl⟩ := us2 hl; rfl
  have b4 := F4.binds (ps := ["thing", "many"]) fun _ _ _ _ _ _ us hl => by obtain ⟨_, _, rfl⟩ := us2 hl; rfl
  have b5 := F5.binds (ps := ["thing"]) fun _ _ _ _ _ _ us hl => by obtain ⟨_, rfl⟩ := us1 hl; rfl
  have b6 := F6.binds (ps := ["one", "other"]) fun _ _ _ _ _ _ us hl => by obtain ⟨_, _, rfl⟩ := us2 hl; rfl
  have b7 := F7.binds (ps := ["thing"]) fun _ _ _ _ _ _ us hl => by obtain ⟨_, rfl⟩ := us1 hl; rfl
  have b8 := F8.binds (ps := ["thing"]) fun _ _ _ _ _ _ us hl => by obtain ⟨_, rfl⟩ := us1 hl; rfl
  have b9 := F9.binds (ps := ["web", "thing"]) fun _ _ _ _ _ _ us hl => by obtain ⟨_, _, rfl⟩ := us2 hl; rfl
  have b10 := F10.binds (ps := ["_law_script", "_law_k"]) fun _ _ _ _ _ _ us hl => by obtain ⟨_, _, rfl⟩ := us2 hl; rfl
  have b11 := F11.binds (ps := ["_law_script", "_law_k"]) fun _ _ _ _ _ _ us hl => by obtain ⟨_, _, rfl⟩ := us2 hl; rfl
  have b12 := F12.binds (ps := ["_law_state_here", "_law_many"]) fun _ _ _ _ _ _ us hl => by obtain ⟨_, _, rfl⟩ := us2 hl; rfl
  have b13 := F13.binds (ps := ["_law_state_here", "_law_most"]) fun _ _ _ _ _ _ us hl => by obtain ⟨_, _, rfl⟩ := us2 hl; rfl
  have b14 := F14.binds (ps := ["_law_top", "_law_bottom"]) fun _ _ _ _ _ _ us hl => by obtain ⟨_, _, rfl⟩ := us2 hl; rfl
  have b15 := F15.binds (ps := ["_law_state_here"]) fun _ _ _ _ _ _ us hl => by obtain ⟨_, rfl⟩ := us1 hl; rfl
  have b16 := F16.binds (ps := ["_law_state_here", "_law_web_here"]) fun _ _ _ _ _ _ us hl => by obtain ⟨_, _, rfl⟩ := us2 hl; rfl
  have b17 := F17.binds (ps := ["_law_thing"]) fun _ _ _ _ _ _ us hl => by obtain ⟨_, rfl⟩ := us1 hl; rfl
  have b18 := F18.binds (ps := ["_law_state_here", "_law_chances_here"]) fun _ _ _ _ _ _ us hl => by obtain ⟨_, _, rfl⟩ := us2 hl; rfl
  have b19 := F19.binds (ps := ["_law_state_here"]) fun _ _ _ _ _ _ us hl => by obtain ⟨_, rfl⟩ := us1 hl; rfl
  have b20 := F20.binds (ps := ["_law_found", "_law_due"]) fun _ _ _ _ _ _ us hl => by obtain ⟨_, _, rfl⟩ := us2 hl; rfl
  have b21 := F21.binds (ps := ["_law_call"]) fun _ _ _ _ _ _ us hl => by obtain ⟨_, rfl⟩ := us1 hl; rfl
  have b22 := F22.binds (ps := ["_law_thing"]) fun _ _ _ _ _ _ us hl => by obtain ⟨_, rfl⟩ := us1 hl; rfl
  have b23 := F23.binds (ps := ["_law_web_here", "_law_thing"]) fun _ _ _ _ _ _ us hl => by obtain ⟨_, _, rfl⟩ := us2 hl; rfl
  have bL : ∀ (s : Shared) (v : Value), BindsTo s fd24 ⟨[v], []⟩ [("_law_script", v)] := by
    obtain ⟨_, _, _, _, _, _, _, _, _, rfl, _, _⟩ := F24.ex
    exact fun s v => .of_eq rfl
  refine ⟨fd24, [PT], spLaw K PT, fun Pt hP => ?_, bL, fun base _ _ bmn => ?_, fun H a ns _ hH hS => ⟨a, ns, rfl, hS, hH PT (List.mem_singleton.mpr rfl), fun _ => rfl⟩⟩
  · rw [List.mem_singleton] at hP; subst hP; exact ⟨t1, t2, cL, hd0⟩
  have Wh : Fn l.prog w K mg base 1 "is_whole" ["thing"] (spWhole K) := ⟨⟨f1, _, PySem.W.mg_of X G a1, F1.kp, b1, ok_whole F1 T⟩⟩
  have Be : Fn l.prog w K mg base 2 "is_below" ["thing", "many"] (spBelow K) := ⟨⟨f2, _, PySem.W.mg_of X G a2, F2.kp, b2, ok_below F2 Wh⟩⟩
  have Ti : Fn l.prog w K mg base 3 "is_tie" ["thing", "many"] (spTie K) := ⟨⟨f3, _, PySem.W.mg_of X G a3, F3.kp, b3, ok_tie F3 T Be⟩⟩
  have Ts : Fn l.prog w K mg base 4 "are_ties" ["thing", "many"] (spTies K) := ⟨⟨f4, _, PySem.W.mg_of X G a4, F4.kp, b4, ok_ties F4 T Ti⟩⟩
  have We : Fn l.prog w K mg base 5 "is_web" ["thing"] (spWeb K) := ⟨⟨f5, _, PySem.W.mg_of X G a5, F5.kp, b5, ok_web F5 T Wh Ts⟩⟩
  have Gc : Fn l.prog w K mg base 1 "common_divisor" ["one", "other"] (spGcd) := ⟨⟨f6, _, PySem.W.mg_of X G a6, F6.kp, b6, ok_gcd F6⟩⟩
  have Ck := ok_chk (CW := C0) F7 We x0 ex
  have Ic : Fn l.prog w K mg base 2 "is_chance" ["thing"] (spIch K) := ⟨⟨f8, _, PySem.W.mg_of X G a8, F8.kp, b8, ok_ich F8 T m3 Wh Gc⟩⟩
  have Ac := ok_arc (CW := C0) F9 T (PySem.W.mg_of X G a7) F7.kp b7 Ck Ic
  have Ce : Fn l.prog w K mg base 1 "_law_cell_at" ["_law_script", "_law_k"] (spCell K) := ⟨⟨f10, _, PySem.W.mg_of X G a10, F10.kp, b10, ok_cell F10 T⟩⟩
  have St : Fn l.prog w K mg base 2 "_law_state" ["_law_script", "_law_k"] (spState K) := ⟨⟨f11, _, PySem.W.mg_of X G a11, F11.kp, b11, ok_state F11 Ce⟩⟩
  have Ta : Fn l.prog w K mg base 1 "_law_take" ["_law_state_here", "_law_many"] (spTake) := ⟨⟨f12, _, PySem.W.mg_of X G a12, F12.kp, b12, ok_take F12⟩⟩
  have Dr : Fn l.prog w K mg base 2 "_law_web" ["_law_state_here", "_law_most"] (spDraw K) := ⟨⟨f13, _, PySem.W.mg_of X G a13, F13.kp, b13, ok_draw F13 T Ta⟩⟩
  have Lo : Fn l.prog w K mg base 1 "_law_lowest" ["_law_top", "_law_bottom"] (spLow) := ⟨⟨f14, _, PySem.W.mg_of X G a14, F14.kp, b14, ok_low F14⟩⟩
  have Ch : Fn l.prog w K mg base 2 "_law_chance" ["_law_state_here"] (spCha K) := ⟨⟨f15, _, PySem.W.mg_of X G a15, F15.kp, b15, ok_cha F15 Ta Lo⟩⟩
  have Cs : Fn l.prog w K mg base 3 "_law_chances" ["_law_state_here", "_law_web_here"] (spChs K) := ⟨⟨f16, _, PySem.W.mg_of X G a16, F16.kp, b16, ok_chs F16 T Ch⟩⟩
  have Lw : Fn l.prog w K mg base 1 "_law_whole" ["_law_thing"] (spWhole K) := ⟨⟨f17, _, PySem.W.mg_of X G a17, F17.kp, b17, ok_lwhole F17 T⟩⟩
  have Bc : Fn l.prog w K mg base 2 "_law_bad_chances" ["_law_state_here", "_law_chances_here"] (spBch K) := ⟨⟨f18, _, PySem.W.mg_of X G a18, F18.kp, b18, ok_bch F18 T Ta⟩⟩
  have Bw : Fn l.prog w K mg base 2 "_law_bad_web" ["_law_state_here"] (spBadW K) := ⟨⟨f19, _, PySem.W.mg_of X G a19, F19.kp, b19, ok_badW F19 Ta⟩⟩
  have Sa : Fn l.prog w K mg base 1 "_law_same" ["_law_found", "_law_due"] (spSame) := ⟨⟨f20, _, PySem.W.mg_of X G a20, F20.kp, b20, ok_same F20 T⟩⟩
  have Re := ok_ref (P := l.prog) (w := w) (base := base) (k := 8) F21 T
  have Lc : Fn l.prog w K mg base 2 "_law_is_chance" ["_law_thing"] (spLic K) := ⟨⟨f22, _, PySem.W.mg_of X G a22, F22.kp, b22, ok_lic F22 T Lw Lo⟩⟩
  have Lr : Fn l.prog w K mg base 3 "_law_are" ["_law_web_here", "_law_thing"] (spLar K) := ⟨⟨f23, _, PySem.W.mg_of X G a23, F23.kp, b23, ok_lar F23 T Lc⟩⟩
  exact ok_law F24 t5 hd0 bmn T RC St Dr Cs Ta Ch Ic Lc Sa Bc Lr Bw (PySem.W.mg_of X G a9) F9.kp b9 Ac (PySem.W.mg_of X G a21) F21.kp b21 Re
noncomputable def prg : Program := PySem.Challenge.pw_tiechances_k03_chances_known
noncomputable def vq : Program := PySem.W.view prg [44]
noncomputable def loose : List Str := prg.boundNames.filter fun x => !(x == ("law" : Str))
noncomputable def runL (w : World) (os : OsState) := (topRunT PySem.W.through (PySem.W.stepOk 11 (some (.ref 6))) (PySem.W.stepT (denote treeTable) prg w) 8000 (bootT w os) (PySem.W.topStub prg)).map (fun s =>
      (PySem.W.staticsOk (importedModules prg.main.body) (PySem.W.boot_heap w.params) s.abs.heap && PySem.W.namesBound prg s.abs.heap && PySem.W.gensDone s.abs && PySem.W.laidKept (PySem.W.boot_heap w.params) s.abs.heap,
        PySem.W.openSeen vq loose (importedModules prg.main.body) (fun _ => true) true s.abs, asks.obs s.abs))
noncomputable def runR (w : World) := some (true, PySem.W.openGood vq loose, asks.due w)
theorem twins : (fun (_ : runL = runL ∧ runR = runR) => true) ⟨rfl, rfl⟩ = true := by k_qdec
theorem run_eq : ∀ (w : World) (os : OsState), PySem.W.Fast.tw14075725262101462980 w os = PySem.W.Fast.tw18139657281711212703 w := fun w os => by kernel_rfl
theorem left : PySem.W.LeftO PySem.Challenge.pw_tiechances_k03_chances_known vq loose (fun _ => true) asks.hook.obs asks.hook.val 8000 := left_of (by kernel_rfl) rfl (fun _ => by kernel_rfl) fun w os =>
  (congrFun (congrFun PySem.W.Fast.te14075725262101462980 w) os).trans ((run_eq w os).trans (congrFun PySem.W.Fast.te18139657281711212703 w).symm)
end K3
open PySem PySem.W PyProof.Rows
set_option maxRecDepth 100000 in
set_option maxHeartbeats 0 in
theorem PySem.Challenge.cw_tiechances_k03_chances_known_holds : PySem.Challenge.rw_tiechances_k03_chances_known.Holds := by
  w_on; o_law
  refine holds_open (q := K3.vq) (loose := K3.loose) (Xt := fun _ => true) (XP := fun _ _ => True) (Yf := K3.asks.hook.obs) (Ya := K3.asks.hook.val) (YP := K3.asks.hook.says) K3.left K3.asks.hook.of K3.asks.hook.keeps (fun _ _ => trivial) (fun _ _ _ _ _ => trivial) (by rfl) (by rfl) (by rfl) (fun s _ => recFacts_of rfl) rfl (by first | assumption | decide +kernel) (by decide +kernel) ⟨rfl, rfl, rfl, rfl, rfl, by decide +kernel⟩ ?hw ?hc
  case hw => w_witness2
  case hc => exact L2.walk_ofH (l := PySem.Challenge.rw_tiechances_k03_chances_known) (n := 63) (k := 10) (x := "_law_script") rfl (by decide) rfl ⟨rfl, by decide, by decide⟩ fun w mg fa h K Q X G e => K3.all_mk X G Q e
#print axioms PySem.Challenge.cw_tiechances_k03_chances_known_holds
