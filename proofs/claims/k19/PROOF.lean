import PyProof.Rows.All
import Wide.All
import OpenK.AllK
import Wide.FinOn
import Lean
import PyProof.EqAt
import PyProof.EqKinds
import PyProof.TupleCall
import PyProof.NeKinds
import PyProof.AutoListH
import PyProof.Rows.Range3
import PyProof.ZipIter
import KE.KEqDict
import KE.KDictList
import PyProof.WalksEnum
import PyProof.EnumMake
import KE.KPairComp
import PySem.Challenge.RW_numbersay_k19_kinds
set_option Elab.async false
set_option linter.all false
set_option maxRecDepth 100000
/-! THE HAND LAYER, for ints, bools, texts, own classes, LISTS and tuples (index, slices, in, append, pop ..), calls, loops. Paste it whole ahead of your own text; what your proof does not reach may be deleted. -/
namespace L2
open PySem PySem.Spec PyProof.Rows

/-- a key: an int or a str -/
abbrev Key := Sum Int Str
def keyIs : Key → Value → Bool
  | .inl k, v => Value.isInt k v
  | .inr x, v => Value.isStrOf x v
def keyH (w : World) : Key → Int
  | .inl k => hashInt k
  | .inr x => hashStr w x
theorem keyIs_shape : ∀ {k : Key} {v : Value}, keyIs k v = true → (∃ i t, k = Sum.inl i ∧ v = Value.int i t) ∨ (∃ x t, k = Sum.inr x ∧ v = Value.str x t)
  | .inl i, v, h => by
    obtain ⟨t, e⟩ := Value.isInt_shape (k := i) (v := v) h
    exact .inl ⟨i, t, rfl, e⟩
  | .inr x, v, h => by
    obtain ⟨t, e⟩ := Value.isStrOf_shape (x := x) (v := v) h
    exact .inr ⟨x, t, rfl, e⟩
theorem keyIs_int (i : Int) (t : Tok) : keyIs (.inl i) (.int i t) = true := by simp [keyIs, Value.isInt]
theorem keyIs_str (x : Str) (t : Tok) : keyIs (.inr x) (.str x t) = true := by simp [keyIs, Value.isStrOf]
theorem key_ll (a b : Int) : decide ((Sum.inl a : Key) = Sum.inl b) = (a == b) := by
  by_cases e : a = b
  · subst e; simp
  · have h : ¬ (Sum.inl a : Key) = Sum.inl b := fun q => e (Sum.inl.inj q)
    rw [decide_eq_false h]
    exact (beq_eq_false_iff_ne.mpr e).symm
theorem key_rr (a b : Str) : decide ((Sum.inr a : Key) = Sum.inr b) = decide (a = b) := by
  by_cases e : a = b
  · subst e; simp
  · have h : ¬ (Sum.inr a : Key) = Sum.inr b := fun q => e (Sum.inr.inj q)
    rw [decide_eq_false h, decide_eq_false e]
theorem key_lr (a : Int) (b : Str) : decide ((Sum.inl a : Key) = Sum.inr b) = false := decide_eq_false (fun q => nomatch q)
theorem key_rl (a : Str) (b : Int) : decide ((Sum.inr a : Key) = Sum.inl b) = false := decide_eq_false (fun q => nomatch q)

def mixKind (prog : Program) (w : World) : PySem.KeyKind prog w Key where
  is := keyIs
  hash := keyH w
  inj := fun v a b ha hb => by
    rcases keyIs_shape ha with ⟨i, t, rfl, rfl⟩ | ⟨x, t, rfl, rfl⟩
    · rcases keyIs_shape hb with ⟨j, u, rfl, e⟩ | ⟨y, u, rfl, e⟩
      · injection e with e1 _; rw [e1]
      · exact nomatch e
    · rcases keyIs_shape hb with ⟨j, u, rfl, e⟩ | ⟨y, u, rfl, e⟩
      · exact nomatch e
      · injection e with e1 _; rw [e1]
  byValue := fun k v h => by
    rcases keyIs_shape h with ⟨i, t, rfl, rfl⟩ | ⟨x, t, rfl, rfl⟩ <;> rfl
  pyHash := fun hv h => by
    rcases keyIs_shape hv with ⟨i, t, rfl, rfl⟩ | ⟨x, t, rfl, rfl⟩
    · exact wpAny_pyHash_int h
    · exact wpAny_pyHash_str h
  eqBool := fun hu hv h => by
    rcases keyIs_shape hu with ⟨i, t, rfl, rfl⟩ | ⟨x, t, rfl, rfl⟩
    · rcases keyIs_shape hv with ⟨j, u, rfl, rfl⟩ | ⟨y, u, rfl, rfl⟩
      · rw [key_ll] at h; exact wpAny_eqBool_int h
      · rw [key_lr] at h; exact SeqAt.EqAt.int_str i t y u _ _ _ _ h
    · rcases keyIs_shape hv with ⟨j, u, rfl, rfl⟩ | ⟨y, u, rfl, rfl⟩
      · rw [key_rl] at h; exact SeqAt.EqAt.str_int x t j u _ _ _ _ h
      · rw [key_rr] at h; exact wpAny_eqBool_str h
  «strs» := fun k x t v h => by
    rcases keyIs_shape h with ⟨i, u, rfl, e⟩ | ⟨y, u, rfl, e⟩
    · exact nomatch e
    · injection e with e1 _
      subst e1
      cases v <;> rfl

theorem mixKind_int (prog : Program) (w : World) (i : Int) (t : Tok) : (mixKind prog w).is (.inl i) (.int i t) = true := keyIs_int i t
theorem mixKind_str (prog : Program) (w : World) (x : Str) (t : Tok) : (mixKind prog w).is (.inr x) (.str x t) = true := keyIs_str x t
end L2

namespace L2
open PySem PySem.Spec PyProof.Rows

/-- a value, without the heap -/
inductive V where
  | non | bl (b : Bool) | int (i : Int) | str (x : Str) | byt (b : Array UInt8) | flt (b : UInt64) | ref (a : Addr) | ty (n : String)
  deriving DecidableEq

def RelV : V → Value → Prop
  | .non, u => u = Value.none
  | .bl b, u => u = Value.bool b
  | .int i, u => ∃ t, u = Value.int i t
  | .str x, u => ∃ t, u = Value.str x t
  | .byt b, u => ∃ t, u = Value.bytes b t
  | .flt b, u => ∃ t, u = Value.float b t
  | .ref a, u => u = Value.ref a
  | .ty n, u => u = Value.type n

abbrev Vals : List V → List Value → Prop := Paired RelV
theorem Vals.length {xs : List V} {us : List Value} (r : Vals xs us) : xs.length = us.length := Paired.length r
theorem Vals.get : ∀ {xs : List V} {us : List Value} {i : Nat} {x : V}, Vals xs us → xs[i]? = some x → ∃ u, us[i]? = some u ∧ RelV x u
  | _, _, _, _, .nil, e => by simp at e
  | _, _, 0, _, .cons r _, e => by simp at e; subst e; exact ⟨_, rfl, r⟩
  | _, _, i + 1, x, .cons _ t, e => by
    obtain ⟨u, h1, h2⟩ := Vals.get (i := i) (x := x) t (by simpa using e)
    exact ⟨u, by simpa using h1, h2⟩
theorem Vals.set {x : V} {u : Value} (r : RelV x u) : ∀ {xs : List V} {us : List Value} (i : Nat), Vals xs us → Vals (xs.set i x) (us.set i u)
  | _, _, _, .nil => .nil
  | _, _, 0, .cons _ t => .cons r t
  | _, _, i + 1, .cons q t => .cons q (Vals.set r i t)
theorem Vals.append : ∀ {xs ys : List V} {us ws : List Value}, Vals xs us → Vals ys ws → Vals (xs ++ ys) (us ++ ws)
  | _, _, _, _, .nil, s => s
  | _, _, _, _, .cons r t, s => .cons r (Vals.append t s)
theorem Vals.take : ∀ {xs : List V} {us : List Value} (n : Nat), Vals xs us → Vals (xs.take n) (us.take n)
  | _, _, 0, _ => .nil
  | _, _, _ + 1, .nil => .nil
  | _, _, n + 1, .cons r t => .cons r (Vals.take n t)
theorem Vals.drop : ∀ {xs : List V} {us : List Value} (n : Nat), Vals xs us → Vals (xs.drop n) (us.drop n)
  | _, _, 0, r => r
  | _, _, _ + 1, .nil => .nil
  | _, _, n + 1, .cons _ t => Vals.drop n t
def RelO : Option V → Option Value → Prop
  | some v, some u => RelV v u
  | none, none => True
  | _, _ => False
def KV {κ : Type} : List (κ × V) → List (κ × Value) → Prop := Paired fun (p : κ × V) (q : κ × Value) => p.1 = q.1 ∧ RelV p.2 q.2

/-- a key of a dict (00_mix): an int or a text -/
def kV : Key → V
  | .inl i => .int i
  | .inr x => .str x

/-- what stands at a tracked address -/
inductive HO where
  /-- a list -/
  | lst (xs : List V)
  /-- a tuple (never changes) -/
  | tup (xs : List V)
  /-- a dict whose keys are ints and texts; one whose keys are tuples of ints and texts (the empty one is both) -/
  | dK (kvs : List (Key × V)) | dT (kvs : List (List Key × V))
  /-- a set of ints: its members, its size -/
  | set (S : Int → Bool) (n : Nat)
  /-- an instance of the class at C, its dict at dx, its attributes -/
  | ins (C dx : Addr) (fs : List (Str × V))
  /-- the dict of the instance at x -/
  | own (x : Addr)
  /-- the dict of an exception -/
  | xd (fs : List (Str × V))
  /-- a bound method, f of x -/
  | met (f x : Addr)
  /-- a range object lo, lo + 1, .. below hi -/
  | rng (lo hi : Int)
  /-- a thing that is known to the object (the script; a dict while a loop walks it): read, never written while it is so -/
  | frz (o : Obj) (u : HO)
  /-- a code object's table -/
  | tbl (ps : Array Value)
  /-- any other thing, by what is true of its one object (a def of one's own: SetO a S n := HO.ext fun h => ..) -/
  | ext (φ : Heap → Prop)

abbrev Hp := Addr → Option HO
def upd (H : Hp) (a : Addr) (o : HO) : Hp := fun b => if b = a then some o else H b
theorem upd_same {H : Hp} {a : Addr} {o : HO} : upd H a o a = some o := by unfold upd; rw [if_pos rfl]
theorem upd_ne {H : Hp} {a b : Addr} {o : HO} (h : b ≠ a) : upd H a o b = H b := by unfold upd; rw [if_neg h]
theorem upd_upd {H : Hp} {a : Addr} {o u : HO} : upd (upd H a o) a u = upd H a u := by
  funext b; unfold upd; split <;> rfl
/-- two objects of different content stand apart -/
theorem ne_of {H : Hp} {a b : Addr} {o u : HO} (h : H a = some o) (h' : H b = some u) (d : o ≠ u) : a ≠ b := by
  intro e; subst e; rw [h] at h'; exact d (Option.some.inj h')
theorem ne_of_none {H : Hp} {a b : Addr} {o : HO} (h : H a = some o) (h' : H b = none) : a ≠ b := by
  intro e; subst e; rw [h] at h'; cases h'

section
variable (P : Program) (w : World)
def ObjOk (H : Hp) (h : Heap) (a : Addr) : HO → Prop
  | .lst xs => xs.length ≤ sizeLine ∧ ∃ (its : List Value) (n : Nat), Vals xs its ∧ h.get? a = some { cls := .type "list", data := .seq its.toArray n }
  | .tup xs => xs.length ≤ sizeLine ∧ ∃ its : List Value, Vals xs its ∧ IsTup h a its.toArray
  | .dK kvs => kvs.length ≤ sizeLine ∧ (a == sysModules) = false ∧ ∃ vs, KV kvs vs ∧ h.DictOf (mixKind P w) a vs
  | .dT kvs => kvs.length ≤ sizeLine ∧ (a == sysModules) = false ∧ ∃ xs : List (List Key × Addr × Value),
      Paired (fun (p : List Key × V) (q : List Key × Addr × Value) => p.1 = q.1 ∧ H q.2.1 = some (.tup (p.1.map kV)) ∧ RelV p.2 q.2.2) kvs xs ∧
      ∃ o es ep, h.get? a = some o ∧ o.ExactDict ∧ o.data = .dict es ep ∧ es.toList = xs.map (entryOfKey (tupleKind (mixKind P w))) ∧ (xs.map (·.1)).Nodup
  | .set S n => h.SetOf (intKind P w) a S n
  | .ins C dx fs => H dx = some (.own a) ∧ fs.length ≤ 1000 ∧ dx ≠ a ∧ h.get? a = some (PySem.W.instObj C dx) ∧
      ∃ mA, h.Ns1 dx mA ∧ (∀ f, RelO (fs.lookup f) (mA f)) ∧ PySem.Within mA (fs.map (·.1))
  | .own _ => ∃ o, h.get? a = some o
  | .xd fs => ∃ mA, h.Ns1 a mA ∧ ∀ f, RelO (fs.lookup f) (mA f)
  | .rng lo hi => ∃ t u v, h.get? a = some { cls := .type "range", data := .fields #[.int lo t, .int hi u, .int 1 v] }
  | .frz o u => h.get? a = some o ∧ ObjOk H h a u
  | .tbl ps => h.get? a = some { cls := .none, data := .fields ps }
  | .met f x => h.get? a = some (PySem.W.methodObj (.ref f) (.ref x))
  | .ext φ => φ h ∧ (∃ o, h.get? a = some o) ∧ ∀ h1 h2 : Heap, φ h1 → (∀ o, h1.get? a = some o → h2.get? a = some o) → φ h2
/-- the abstract heap is held -/
def HOk (H : Hp) (h : Heap) : Prop := ∀ a o, H a = some o → ObjOk P w H h a o
end

section
variable {P : Program} {w : World} {H H' : Hp} {h h' : Heap} {a : Addr} {o : HO}
theorem ObjOk.lt (x : ObjOk P w H h a o) : a < h.objs.size := by
  cases o with
  | lst xs => obtain ⟨_, _, _, _, e⟩ := x; exact Heap.lt_size e
  | tup xs => obtain ⟨_, _, _, p⟩ := x; exact p.lt
  | dK kvs => obtain ⟨_, _, _, _, o, _, _, e, _⟩ := x; exact Heap.lt_size e
  | dT kvs => obtain ⟨_, _, _, _, o, _, _, e, _⟩ := x; exact Heap.lt_size e
  | set S n => obtain ⟨o, _, _, _, e, _⟩ := x; exact Heap.lt_size e
  | ins C dx fs => obtain ⟨_, _, _, e, _⟩ := x; exact Heap.lt_size e
  | own y => obtain ⟨_, e⟩ := x; exact Heap.lt_size e
  | xd fs => obtain ⟨_, ⟨_, _, _, e, _⟩, _⟩ := x; exact Heap.lt_size e
  | rng lo hi => obtain ⟨_, _, _, e⟩ := x; exact Heap.lt_size e
  | frz ob u => obtain ⟨e, _⟩ := x; exact Heap.lt_size e
  | tbl ps => exact Heap.lt_size (show h.get? a = some _ from x)
  | met f y => exact Heap.lt_size (show h.get? a = some _ from x)
  | ext φ => obtain ⟨_, ⟨_, e⟩, _⟩ := x; exact Heap.lt_size e
theorem Paired.mapP {α β : Type} {F G : α → β → Prop} : ∀ {l₁ : List α} {l₂ : List β}, Paired F l₁ l₂ → (∀ a b, F a b → G a b) → Paired G l₁ l₂
  | _, _, .nil, _ => .nil
  | _, _, .cons r t, f => .cons (f _ _ r) (Paired.mapP t f)
/-- what an object's description leans on: its own object, its own dict, the tuples -/
theorem ObjOk.stay (x : ObjOk P w H h a o) (k : ∀ b u, (b = a ∨ H b = some (.own a)) → h.get? b = some u → h'.get? b = some u)
    (ho : ∀ b, H b = some (.own a) → H' b = some (.own a)) (ht : ∀ b xs, H b = some (.tup xs) → H' b = some (.tup xs)) : ObjOk P w H' h' a o := by
  induction o with
  | lst xs => obtain ⟨z, its, n, r, e⟩ := x; exact ⟨z, its, n, r, k _ _ (.inl rfl) e⟩
  | tup xs => obtain ⟨z, its, r, ob, e, c⟩ := x; exact ⟨z, its, r, ob, k _ _ (.inl rfl) e, c⟩
  | dK kvs => obtain ⟨z, y, vs, r, ob, es, ep, e, c⟩ := x; exact ⟨z, y, vs, r, ob, es, ep, k _ _ (.inl rfl) e, c⟩
  | dT kvs =>
    obtain ⟨z, y, xs, r, ob, es, ep, e, c⟩ := x
    exact ⟨z, y, xs, Paired.mapP r fun p q z => ⟨z.1, ht _ _ z.2.1, z.2.2⟩, ob, es, ep, k _ _ (.inl rfl) e, c⟩
  | set S n => obtain ⟨ob, es, ep, t, e, c⟩ := x; exact ⟨ob, es, ep, t, k _ _ (.inl rfl) e, c⟩
  | ins C dx fs =>
    obtain ⟨d, z, ne, e, mA, ⟨od, es, ep, e2, c⟩, r⟩ := x
    exact ⟨ho _ d, z, ne, k _ _ (.inl rfl) e, mA, ⟨od, es, ep, k _ _ (.inr d) e2, c⟩, r⟩
  | own y => obtain ⟨ob, e⟩ := x; exact ⟨ob, k _ _ (.inl rfl) e⟩
  | xd fs => obtain ⟨mA, ⟨od, es, ep, e, c⟩, r⟩ := x; exact ⟨mA, ⟨od, es, ep, k _ _ (.inl rfl) e, c⟩, r⟩
  | rng lo hi => obtain ⟨t, u, v, e⟩ := x; exact ⟨t, u, v, k _ _ (.inl rfl) e⟩
  | frz ob u ih => obtain ⟨e, q⟩ := x; exact ⟨k _ _ (.inl rfl) e, ih q⟩
  | tbl ps =>
    have e : h.get? a = some { cls := .none, data := .fields ps } := x
    show h'.get? a = some { cls := .none, data := .fields ps }
    exact k a _ (.inl rfl) e
  | met f y =>
    have e : h.get? a = some (PySem.W.methodObj (.ref f) (.ref y)) := x
    show h'.get? a = some (PySem.W.methodObj (.ref f) (.ref y))
    exact k a _ (.inl rfl) e
  | ext φ => obtain ⟨p, ⟨o, e⟩, st⟩ := x; exact ⟨st _ _ p fun o q => k _ _ (.inl rfl) q, ⟨o, k _ _ (.inl rfl) e⟩, st⟩
theorem HOk.lt (x : HOk P w H h) (e : H a = some o) : a < h.objs.size := (x a o e).lt
theorem HOk.fresh (x : HOk P w H h) (e : h.objs.size ≤ a) : H a = none := by
  cases q : H a with
  | none => rfl
  | some u => exact absurd (Nat.lt_of_lt_of_le (x.lt q) e) (Nat.lt_irrefl _)
/-- every object of the heap is kept -/
theorem HOk.kept (x : HOk P w H h) (k : ∀ b u, h.get? b = some u → h'.get? b = some u) : HOk P w H h' := fun a o e =>
  (x a o e).stay (fun b u _ q => k b u q) (fun _ q => q) fun _ _ q => q
/-- a new object is laid and tracked -/
theorem HOk.laid (x : HOk P w H h) (k : ∀ b u, h.get? b = some u → h'.get? b = some u) (hp : h.objs.size ≤ a) (new : ObjOk P w (upd H a o) h' a o) : HOk P w (upd H a o) h' := fun b u e => by
  have hn := x.fresh hp
  by_cases hb : b = a
  · subst hb; rw [upd_same] at e; cases e; exact new
  · rw [upd_ne hb] at e
    exact (x b u e).stay (fun c v _ q => k c v q) (fun c q => by rw [upd_ne (ne_of_none q hn)]; exact q) fun c xs q => by rw [upd_ne (ne_of_none q hn)]; exact q
end

/-- what may be read as u: it is u, or a known u -/
def Rd (H : Hp) (a : Addr) (u : HO) : Prop := H a = some u ∨ ∃ o, H a = some (.frz o u)
theorem Rd.of {H : Hp} {a : Addr} {u : HO} (h : H a = some u) : Rd H a u := .inl h
theorem Rd.ok {P : Program} {w : World} {H : Hp} {h : Heap} {a : Addr} {u : HO} (r : Rd H a u) (x : HOk P w H h) : ObjOk P w H h a u := by
  rcases r with r | ⟨o, r⟩
  · exact x a u r
  · obtain ⟨_, q⟩ := x a _ r
    exact q
/-- what may be written -/
def Mut : Option HO → Prop
  | some (.lst _) => True
  | some (.dK _) => True
  | some (.dT _) => True
  | some (.set _ _) => True
  | some (.ins _ _ _) => True
  | some (.ext _) => True
  | _ => False
section
variable {P : Program} {w : World} {H : Hp} {h h' : Heap} {x e : Addr} {o' : HO}
/-- the object at e is changed: x itself, or the dict of the instance x -/
theorem HOk.write (ok : HOk P w H h) (mu : Mut (H x)) (he : e = x ∨ H e = some (.own x)) (k : ∀ b u, b ≠ e → h.get? b = some u → h'.get? b = some u) (heo : ∃ u, h'.get? e = some u)
    (new : ObjOk P w (upd H x o') h' x o') : HOk P w (upd H x o') h' := fun b u q => by
  have nown : ∀ c y, H c = some (.own y) → c ≠ x := fun c y r z => by subst z; rw [r] at mu; exact mu
  have ntup : ∀ c xs, H c = some (.tup xs) → c ≠ x := fun c xs r z => by subst z; rw [r] at mu; exact mu
  by_cases hb : b = x
  · subst hb; rw [upd_same] at q; cases q; exact new
  · rw [upd_ne hb] at q
    by_cases hbe : b = e
    · have q' : H b = some (.own x) := by
        rcases he with z | z
        · exact absurd (hbe.trans z) hb
        · rw [hbe]; exact z
      rw [q] at q'; cases q'
      obtain ⟨v, hv⟩ := heo
      exact ⟨v, by rw [hbe]; exact hv⟩
    · refine (ok b u q).stay (fun c v hc r => k c v ?_ r) (fun c r => by rw [upd_ne (nown c b r)]; exact r) fun c xs r => by rw [upd_ne (ntup c xs r)]; exact r
      rcases hc with rfl | hc
      · exact hbe
      · rintro rfl
        rcases he with z | z
        · exact nown c b hc z
        · rw [hc] at z; cases z; exact hb rfl
end

/-! ### kept unless tracked; of the frames at fs (the callers') the slots may change (an exception that passes writes there); of the records at ex (iterators) nothing is said -/
structure Un (fs ex : List Addr) (H H' : Hp) (h h' : Heap) : Prop where
  keep : ∀ b o, h.get? b = some o → H b = none → b ∉ fs → b ∉ ex → h'.get? b = some o
  slot : ∀ b o, h.get? b = some o → H b = none → b ∈ fs → b ∉ ex → ∃ sl, h'.get? b = some { o with slots := sl }
  free : ∀ b o, h.get? b = some o → H b = none → b ∉ ex → H' b = none
  there : ∀ b o, h.get? b = some o → b ∉ ex → ∃ o', h'.get? b = some o'
  tups : ∀ b xs, H b = some (.tup xs) → H' b = some (.tup xs)
  frzs : ∀ b o u, H b = some (.frz o u) → H' b = some (.frz o u)
  tbls : ∀ b ps, H b = some (.tbl ps) → ∃ more, H' b = some (.tbl (ps ++ more))
section
variable {fs fs' ex ex' : List Addr} {H H1 H2 : Hp} {h h1 h2 h' : Heap} {a x e : Addr} {o : HO}
theorem Un.any (u : Un fs ex H H1 h h1) {b : Addr} {ob : Obj} (q : h.get? b = some ob) (n : H b = none) (hx : b ∉ ex) : ∃ sl, h1.get? b = some { ob with slots := sl } := by
  by_cases hb : b ∈ fs
  · exact u.slot b ob q n hb hx
  · exact ⟨ob.slots, u.keep b ob q n hb hx⟩
theorem Un.trans (a : Un fs ex H H1 h h1) (b : Un fs ex H1 H2 h1 h2) : Un fs ex H H2 h h2 where
  keep := fun c ob q n hc hx => b.keep c ob (a.keep c ob q n hc hx) (a.free c ob q n hx) hc hx
  slot := fun c ob q n hc hx => by
    obtain ⟨sl, e1⟩ := a.slot c ob q n hc hx
    obtain ⟨sl', e2⟩ := b.slot c _ e1 (a.free c ob q n hx) hc hx
    exact ⟨sl', e2⟩
  free := fun c ob q n hx => by
    obtain ⟨o', e1⟩ := a.there c ob q hx
    exact b.free c o' e1 (a.free c ob q n hx) hx
  there := fun c ob q hx => by
    obtain ⟨o', e1⟩ := a.there c ob q hx
    exact b.there c o' e1 hx
  tups := fun c xs q => b.tups c xs (a.tups c xs q)
  frzs := fun c ob xs q => b.frzs c ob xs (a.frzs c ob xs q)
  tbls := fun c ps q => by
    obtain ⟨m1, e1⟩ := a.tbls c ps q
    obtain ⟨m2, e2⟩ := b.tbls c _ e1
    exact ⟨m1 ++ m2, by rw [e2, Array.append_assoc]⟩
theorem Un.kept (k : ∀ b u, h.get? b = some u → h'.get? b = some u) : Un fs ex H H h h' :=
  ⟨fun b ob q _ _ _ => k b ob q, fun b ob q _ _ _ => ⟨ob.slots, k b ob q⟩, fun _ _ _ n _ => n, fun b ob q _ => ⟨ob, k b ob q⟩, fun _ _ q => q, fun _ _ _ q => q, fun _ ps q => ⟨#[], by rw [q]; simp⟩⟩
theorem Un.refl : Un fs ex H H h h := Un.kept fun _ _ q => q
theorem Un.laid (k : ∀ b u, h.get? b = some u → h'.get? b = some u) (hp : h.objs.size ≤ a) (hn : H a = none) : Un fs ex H (upd H a o) h h' where
  keep := fun b u q _ _ _ => k b u q
  slot := fun b u q _ _ _ => ⟨u.slots, k b u q⟩
  free := fun b u q n _ => by rw [upd_ne (Nat.ne_of_lt (Nat.lt_of_lt_of_le (Heap.lt_size q) hp))]; exact n
  there := fun b u q _ => ⟨u, k b u q⟩
  tups := fun b xs q => by rw [upd_ne (ne_of_none q hn)]; exact q
  frzs := fun b u xs q => by rw [upd_ne (ne_of_none q hn)]; exact q
  tbls := fun b ps q => ⟨#[], by rw [upd_ne (ne_of_none q hn), q]; simp⟩
theorem Un.write (mu : Mut (H x)) (he : e = x ∨ H e = some (.own x)) (k : ∀ b u, b ≠ e → h.get? b = some u → h'.get? b = some u) (heo : ∃ u, h'.get? e = some u) : Un fs ex H (upd H x o) h h' := by
  have hx : ∀ b, H b = none → b ≠ x := fun b n z => by subst z; rw [n] at mu; exact mu
  have hb : ∀ b, H b = none → b ≠ e := fun b n z => by
    subst z
    rcases he with r | r
    · exact hx b n r
    · rw [n] at r; cases r
  have hm : ∀ b u, H b = some u → ¬ Mut (some u) → b ≠ x := fun b u q nm z => by subst z; rw [q] at mu; exact nm mu
  refine ⟨fun b u q n _ _ => k b u (hb b n) q, fun b u q n _ _ => ⟨u.slots, k b u (hb b n) q⟩, fun b u q n _ => by rw [upd_ne (hx b n)]; exact n, fun b u q _ => ?_,
    fun b xs q => by rw [upd_ne (hm b _ q fun z => z)]; exact q, fun b u xs q => by rw [upd_ne (hm b _ q fun z => z)]; exact q, fun b ps q => ⟨#[], by rw [upd_ne (hm b _ q fun z => z), q]; simp⟩⟩
  by_cases hbe : b = e
  · subst hbe; exact heo
  · exact ⟨u, k b u hbe q⟩
theorem Un.mono (u : Un fs ex H H1 h h1) (hs : ∀ b ∈ fs, b ∈ fs') (hx : ∀ b ∈ ex, b ∈ ex') : Un fs' ex' H H1 h h1 :=
  ⟨fun b ob q n hb he => u.keep b ob q n (fun z => hb (hs b z)) fun z => he (hx b z), fun _ _ q n _ he => u.any q n fun z => he (hx _ z), fun b ob q n he => u.free b ob q n fun z => he (hx b z), fun b ob q he => u.there b ob q fun z => he (hx b z), u.tups, u.frzs, u.tbls⟩
end

/-! ### the heap without what is tracked -/
def trk (h : Heap) (H : Hp) : List Addr := (List.range h.objs.size).filter fun a => (H a).isSome
def hidT (h : Heap) (H : Hp) : Heap := PySem.W.hideAll h (trk h H)
theorem hidT_size (h : Heap) (H : Hp) : (hidT h H).objs.size = h.objs.size := PySem.W.hideAll_size _ _
theorem hidT_get {h : Heap} {H : Hp} {b : Addr} {o : Obj} (e : h.get? b = some o) (n : H b = none) : (hidT h H).get? b = some o :=
  PySem.W.hideAll_get _ e fun hm => by
    have q : (H b).isSome = true := (List.mem_filter.mp hm).2
    rw [n] at q; simp at q
theorem of_hidT {h : Heap} {H : Hp} {b : Addr} {o : Obj} (e : (hidT h H).get? b = some o) : h.get? b = some o ∧ H b = none := by
  have e' : h.get? b = some o := PySem.W.of_hideAll (trk h H) e
  refine ⟨e', ?_⟩
  cases q : H b with
  | none => rfl
  | some x =>
    have hm : b ∈ trk h H := List.mem_filter.mpr ⟨List.mem_range.mpr (Heap.lt_size e'), by simp [q]⟩
    have z : (hidT h H).get? b = none := PySem.W.hideAll_none (trk h H) hm
    rw [z] at e; cases e

/-! ### OpenK's ledger, filled with every new object but one -/
def allNews (g h : Heap) (L : Addr) : List (Addr × Obj) := (List.range h.objs.size).filterMap fun a => if a = L ∨ (g.get? a).isSome = true then none else (h.get? a).map fun o => (a, o)
def rest (g h : Heap) (L d : Addr) : List (Addr × Obj) := (allNews g h L).filter fun p => decide (p.1 ≠ d)
end L2

namespace L2
open PySem PySem.Spec PyProof.Rows

/-- the module's facts, over the base: the heap at the law's entry without what is tracked there -/
structure Mod (K : PySem.W.Frag) (mg : Str → Option Value) (base : Heap) : Prop where
  kin : K.In base
  glob : base.Ns mainGlobals mg
  blt : ∃ mb, base.Ns builtinsNs mb ∧ ∀ x : Str, x ≠ "__name__" → mb x = bootBuiltins x
  nolimit : base.NoLimit

/-- the context: a def's body (or a comprehension's block) running. base: fixed through the whole law; s₀, H₀: the entry; outer: the frames whose slots others may change (a def's callers); stack: all frames that run;
   ex: iterators that were made ahead of the entry and are walked here (a comprehension's); fn: the names whose cells were made at the entry (a def: all; a comprehension's block: its own); calm: not within an except suite; pn: pins that every state bears; xe: what is wanted of an exception that leaves the code -/
structure Cx where
  prog : Program
  w : World
  K : PySem.W.Frag
  mg : Str → Option Value
  base : Heap
  A : Around
  N : List Str
  s₀ : Shared
  H₀ : Hp
  env : Env
  outer : List Env
  stack : List Env
  ex : List Addr
  fn : Str → Bool
  calm : Bool
  pn : List (Addr × Obj)
  xe : Value → Shared → Prop
/-- the callers' frames -/
def frs (l : List Env) : List Addr := l.filterMap (·.frame)
abbrev Cx.fs (X : Cx) : List Addr := frs X.outer

def Vis (sc : Scope) (x : Str) : Prop := sc.names.lookup x = some .local ∨ sc.names.lookup x = some .cell ∨ sc.names.lookup x = some .free
def Loc (sc : Scope) (x : Str) : Prop := sc.names.lookup x = some .local ∨ sc.names.lookup x = some .cell
def Look (env : Env) (h : Heap) (m : Str → Option Value) (x : Str) (u : Value) : Prop :=
  (env.kindOf x = some .local ∧ m x = some u) ∨ ((env.kindOf x = some .cell ∨ env.kindOf x = some .free) ∧ ∃ c, env.cells.lookup x = some c ∧ h.IsCell c (some u))

structure Cx.Ok (X : Cx) : Prop where
  mod : Mod X.K X.mg X.base
  kind : X.env.scope.kind = .function
  glob : X.env.globals = mainGlobals
  blt : X.env.builtins = builtinsNs
  above : X.s₀.heap.objs.size ≤ X.env.locals
  inj : ∀ x y c, X.env.cells.lookup x = some c → X.env.cells.lookup y = some c → x = y
  has : ∀ x, (X.env.kindOf x = some .cell ∨ X.env.kindOf x = some .free) → ∃ c, X.env.cells.lookup x = some c
  cab : ∀ x c, X.fn x = true → X.env.cells.lookup x = some c → X.s₀.heap.objs.size ≤ c
  hd : X.calm = true → X.A.handled = none
  frames : X.A.frames = some X.stack
  stk : X.stack = X.outer ∨ (X.stack = X.env :: X.outer ∧ X.env.frame = some X.env.locals)
  exf : ∀ b ∈ X.ex, b ≠ X.env.locals ∧ ∀ x c, X.env.cells.lookup x = some c → c ≠ b
  bs : ∀ b o, X.base.get? b = some o → X.s₀.heap.get? b = some o ∧ X.H₀ b = none
  bsz : X.base.objs.size ≤ X.s₀.heap.objs.size
  noex : ∀ b o, X.base.get? b = some o → b ∉ X.ex
  exfs : ∀ b ∈ X.ex, b ∉ X.fs
  funs : X.s₀.heap.FunFrames X.base X.outer
  frf : ∀ b ∈ X.fs, X.H₀ b = none

structure Inv (X : Cx) (pins : List (Addr × Obj)) (σ : List (Option V)) (H : Hp) (s : Shared) : Prop where
  ok : X.Ok
  os : s.os = X.s₀.os
  bare : AllBare s.gens
  base : Un X.fs X.ex X.H₀ H X.s₀.heap s.heap
  loc : ∃ m, s.heap.Ns X.env.locals m ∧ ∀ (i : Nat) (x : Str) (v : V), X.N[i]? = some x → σ[i]? = some (some v) → Vis X.env.scope x → ∃ u, RelV v u ∧ Look X.env s.heap m x u
  cell : ∀ x c, X.env.cells.lookup x = some c → ∃ v, s.heap.IsCell c v
  free : H X.env.locals = none
  freeC : ∀ x c, X.env.cells.lookup x = some c → H c = none
  pin : ∀ p ∈ X.pn ++ pins, s.heap.get? p.1 = some p.2 ∧ H p.1 = none ∧ p.1 ≠ X.env.locals ∧ p.1 ∉ X.fs ∧ ∀ v, p.2.data ≠ .cell v
  hok : HOk X.prog X.w H s.heap
  len : σ.length = X.N.length

section
variable {X : Cx} {pins : List (Addr × Obj)} {σ : List (Option V)} {H H' : Hp} {s : Shared} {h' : Heap}

theorem Cx.Ok.nofr (ok : X.Ok) {b : Addr} {o : Obj} (e : X.base.get? b = some o) : b ∉ X.fs := fun hb => by
  have := (ok.funs.mem hb).1
  rw [e] at this; cases this
theorem Inv.bs (I : Inv X pins σ H s) : ∀ b o, X.base.get? b = some o → s.heap.get? b = some o ∧ H b = none := fun b o e =>
  ⟨I.base.keep b o (I.ok.bs b o e).1 (I.ok.bs b o e).2 (I.ok.nofr e) (I.ok.noex b o e), I.base.free b o (I.ok.bs b o e).1 (I.ok.bs b o e).2 (I.ok.noex b o e)⟩
theorem Inv.bk (I : Inv X pins σ H s) : ∀ b o, X.base.get? b = some o → s.heap.get? b = some o := fun b o e => (I.bs b o e).1
theorem Inv.mod (I : Inv X pins σ H s) : Mod X.K X.mg X.base := I.ok.mod
theorem Inv.kIn (I : Inv X pins σ H s) : X.K.In s.heap := I.ok.mod.kin.keeps I.bk
theorem Inv.nolimit (I : Inv X pins σ H s) : s.heap.NoLimit := I.ok.mod.nolimit.keeps I.bk
/-- the frame over the base: for OpenK's rules (K.In X.base is I.mod.kin) -/
theorem Inv.fr (I : Inv X pins σ H s) : ∃ m, Fr X.base X.env.locals s.heap m :=
  let ⟨m, hn, _⟩ := I.loc
  ⟨m, hn, I.bk, Nat.le_trans I.ok.bsz I.ok.above⟩
theorem Inv.lt (I : Inv X pins σ H s) : X.env.locals < s.heap.objs.size := let ⟨_, hn, _⟩ := I.loc; hn.lt
theorem Inv.sz (I : Inv X pins σ H s) : X.s₀.heap.objs.size ≤ s.heap.objs.size := Nat.le_trans I.ok.above (Nat.le_of_lt I.lt)
theorem Inv.nofs (I : Inv X pins σ H s) {a : Addr} (h : s.heap.objs.size ≤ a) : a ∉ X.fs := fun hb => by
  obtain ⟨_, o, ho, _⟩ := I.ok.funs.mem hb
  exact absurd (Nat.lt_of_lt_of_le (Heap.lt_size ho) (Nat.le_trans I.sz h)) (Nat.lt_irrefl _)
theorem Inv.cne (I : Inv X pins σ H s) : ∀ x c, X.env.cells.lookup x = some c → c ≠ X.env.locals := fun x c e z => by
  obtain ⟨v, o, ho, hd⟩ := I.cell x c e
  obtain ⟨m, ⟨o', es, ep, ho', hd', _⟩, _⟩ := I.loc
  rw [z, ho'] at ho; cases ho; rw [hd'] at hd; cases hd
theorem Inv.funs (I : Inv X pins σ H s) : s.heap.FunFrames X.base X.outer := by
  have all : ∀ (l : List Env), (∀ b ∈ frs l, b ∈ X.fs) → X.s₀.heap.FunFrames X.base l → s.heap.FunFrames X.base l := by
    intro l
    induction l with
    | nil => intro _ _; trivial
    | cons env r ih =>
      intro hs hl
      obtain ⟨hk, ⟨L, o, hf, hn, ho, hd⟩, hr⟩ := hl
      have hL : L ∈ X.fs := hs L (by unfold frs; rw [List.filterMap_cons, hf]; exact List.mem_cons_self)
      obtain ⟨sl, e⟩ := I.base.slot L o ho (I.ok.frf L hL) hL fun z => I.ok.exfs L z hL
      exact ⟨hk, ⟨L, _, hf, hn, e, hd⟩, ih (fun b hb => hs b (by unfold frs; rw [List.filterMap_cons, hf]; exact List.mem_cons_of_mem _ hb)) hr⟩
  exact all X.outer (fun _ hb => hb) I.ok.funs

/-- the frames that run, for a call -/
theorem Inv.stack (I : Inv X pins σ H s) : s.heap.FunFrames X.base X.stack := by
  rcases I.ok.stk with e | ⟨e, hf⟩
  · rw [e]; exact I.funs
  · rw [e]
    obtain ⟨m, hn, _⟩ := I.loc
    refine .cons (by rw [I.ok.kind]; decide) hf hn ?_ I.funs
    exact Heap.get?_none_of_le (Nat.le_trans I.ok.bsz I.ok.above)
theorem Inv.stkSub (I : Inv X pins σ H s) : ∀ b ∈ frs X.stack, b ∈ X.env.locals :: X.fs := fun b hb => by
  rcases I.ok.stk with e | ⟨e, hf⟩
  · rw [e] at hb; exact List.mem_cons_of_mem _ hb
  · rw [e] at hb
    unfold frs at hb
    rw [List.filterMap_cons, hf] at hb
    exact hb
theorem Inv.stkFree (I : Inv X pins σ H s) : ∀ b ∈ frs X.stack, H b = none := fun b hb => by
  rcases List.mem_cons.mp (I.stkSub b hb) with e | hb
  · rw [e]; exact I.free
  · obtain ⟨_, o, ho, _⟩ := I.ok.funs.mem hb
    exact I.base.free b o ho (I.ok.frf b hb) fun z => I.ok.exfs b z hb

/-- THE STEP: the untracked objects but the frame and the records at ch are kept (the callers' frames up to slots), the frame's map is kept, the new abstract heap is held -/
theorem Inv.step {g' : Array GenState} {t' : Nat} {d' : Drawn} {ch : List Addr} (I : Inv X pins σ H s)
    (hch : ∀ b ∈ ch, (b ∈ X.ex ∨ X.s₀.heap.objs.size ≤ b) ∧ b ≠ X.env.locals ∧ (∀ x c, X.env.cells.lookup x = some c → c ≠ b) ∧ ∀ p ∈ X.pn ++ pins, p.1 ≠ b)
    (keep : ∀ b o, b ≠ X.env.locals → b ∉ X.fs → b ∉ ch → s.heap.get? b = some o → H b = none → h'.get? b = some o)
    (slot : ∀ b o, b ≠ X.env.locals → b ∈ X.fs → b ∉ ch → s.heap.get? b = some o → H b = none → ∃ sl, h'.get? b = some { o with slots := sl }) (free : ∀ b o, b ∉ ch → s.heap.get? b = some o → H b = none → H' b = none)
    (there : ∀ b o, b ∉ ch → s.heap.get? b = some o → ∃ o', h'.get? b = some o')
    (tups : ∀ b xs, H b = some (.tup xs) → H' b = some (.tup xs)) (frzs : ∀ b o u, H b = some (.frz o u) → H' b = some (.frz o u)) (tbls : ∀ b ps, H b = some (.tbl ps) → ∃ more, H' b = some (.tbl (ps ++ more)))
    (ns : ∀ m, s.heap.Ns X.env.locals m → h'.Ns X.env.locals m) (hok : HOk X.prog X.w H' h') (hg : AllBare g') :
    Inv X pins σ H' { s with heap := h', gens := g', drawn := d', toks := t' } := by
  have neL : ∀ b o, X.s₀.heap.get? b = some o → b ≠ X.env.locals := fun b o e => Nat.ne_of_lt (Nat.lt_of_lt_of_le (Heap.lt_size e) I.ok.above)
  have neC : ∀ b o, X.s₀.heap.get? b = some o → b ∉ X.ex → b ∉ ch := fun b o e hx hb => by
    rcases (hch b hb).1 with z | z
    · exact hx z
    · exact absurd (Nat.lt_of_lt_of_le (Heap.lt_size e) z) (Nat.lt_irrefl _)
  have cellK : ∀ x c, X.env.cells.lookup x = some c → ∀ v, s.heap.IsCell c v → h'.IsCell c v := fun x c e v ⟨o, ho, hd⟩ => by
    have nch : c ∉ ch := fun z => (hch c z).2.2.1 x c e rfl
    by_cases hc : c ∈ X.fs
    · obtain ⟨sl, q⟩ := slot c o (I.cne x c e) hc nch ho (I.freeC x c e)
      exact ⟨_, q, hd⟩
    · exact ⟨o, keep c o (I.cne x c e) hc nch ho (I.freeC x c e), hd⟩
  refine ⟨I.ok, I.os, hg, ⟨fun b o e n hb hx => ?_, fun b o e n hb hx => ?_, fun b o e n hx => ?_, fun b o e hx => ?_, fun b xs e => tups b xs (I.base.tups b xs e), fun b o xs e => frzs b o xs (I.base.frzs b o xs e), fun b ps e => ?_⟩, ?_, fun x c e => ?_, ?_, fun x c e => ?_, fun p hp => ?_, hok, I.len⟩
  · exact keep b o (neL b o e) hb (neC b o e hx) (I.base.keep b o e n hb hx) (I.base.free b o e n hx)
  · obtain ⟨sl, e1⟩ := I.base.slot b o e n hb hx
    obtain ⟨sl', e2⟩ := slot b _ (neL b o e) hb (neC b o e hx) e1 (I.base.free b o e n hx)
    exact ⟨sl', e2⟩
  · obtain ⟨o', e1⟩ := I.base.there b o e hx
    exact free b o' (neC b o e hx) e1 (I.base.free b o e n hx)
  · obtain ⟨o', e1⟩ := I.base.there b o e hx
    exact there b o' (neC b o e hx) e1
  · obtain ⟨m1, e1⟩ := I.base.tbls b ps e
    obtain ⟨m2, e2⟩ := tbls b _ e1
    exact ⟨m1 ++ m2, by rw [e2, Array.append_assoc]⟩
  · obtain ⟨m, hn, hl⟩ := I.loc
    refine ⟨m, ns m hn, fun i x v e1 e2 e3 => ?_⟩
    obtain ⟨u, r, l⟩ := hl i x v e1 e2 e3
    refine ⟨u, r, ?_⟩
    rcases l with l | ⟨k, c, e, z⟩
    · exact .inl l
    · exact .inr ⟨k, c, e, cellK x c e _ z⟩
  · obtain ⟨v, z⟩ := I.cell x c e
    exact ⟨v, cellK x c e v z⟩
  · obtain ⟨m, ⟨o, _, _, ho, _⟩, _⟩ := I.loc
    exact free _ o (fun z => (hch _ z).2.1 rfl) ho I.free
  · obtain ⟨v, o, ho, hd⟩ := I.cell x c e
    exact free c o (fun z => (hch c z).2.2.1 x c e rfl) ho (I.freeC x c e)
  · obtain ⟨e, n, ne, nf, d⟩ := I.pin p hp
    have nch : p.1 ∉ ch := fun z => (hch p.1 z).2.2.2 p hp rfl
    exact ⟨keep p.1 p.2 ne nf nch e n, free p.1 p.2 nch e n, ne, nf, d⟩
/-- .. where the frame's own object is kept too -/
theorem Inv.un {t' : Nat} (I : Inv X pins σ H s) (u : Un X.fs [] H H' s.heap h') (hok : HOk X.prog X.w H' h') : Inv X pins σ H' { s with heap := h', toks := t' } := by
  obtain ⟨m, ⟨o, es, ep, ho, r⟩, _⟩ := id I.loc
  obtain ⟨sl, hL⟩ := u.any ho I.free (by simp)
  exact I.step (g' := s.gens) (d' := s.drawn) (ch := []) (fun _ z => nomatch z) (fun b o _ hb _ e n => u.keep b o e n hb (by simp)) (fun b o _ hb _ e n => u.slot b o e n hb (by simp)) (fun b o _ e n => u.free b o e n (by simp)) (fun b o _ e => u.there b o e (by simp)) u.tups u.frzs u.tbls (fun m' hm => by
    obtain ⟨o', es', ep', ho', r'⟩ := hm
    rw [ho] at ho'; cases ho'
    exact ⟨_, es', ep', hL, r'⟩) hok I.bare
/-- behind a call (or a comprehension's block): the slots of this frame may have changed too, the records at ch may have turned -/
theorem Inv.call {g' : Array GenState} {t' : Nat} {d' : Drawn} {ch : List Addr} (I : Inv X pins σ H s) (u : Un (frs X.stack) ch H H' s.heap h') (hok : HOk X.prog X.w H' h') (hg : AllBare g')
    (hch : ∀ b ∈ ch, (b ∈ X.ex ∨ X.s₀.heap.objs.size ≤ b) ∧ b ≠ X.env.locals ∧ (∀ x c, X.env.cells.lookup x = some c → c ≠ b) ∧ ∀ p ∈ X.pn ++ pins, p.1 ≠ b) :
    Inv X pins σ H' { s with heap := h', gens := g', drawn := d', toks := t' } := by
  obtain ⟨m, ⟨o, es, ep, ho, r⟩, _⟩ := id I.loc
  obtain ⟨sl, hL⟩ := u.any ho I.free fun z => (hch _ z).2.1 rfl
  exact I.step (ch := ch) hch (fun b o hL hb hc e n => u.keep b o e n (fun z => (List.mem_cons.mp (I.stkSub b z)).elim hL hb) hc) (fun b o _ _ hc e n => u.any e n hc) (fun b o hc e n => u.free b o e n hc) (fun b o hc e => u.there b o e hc) u.tups u.frzs u.tbls (fun m' hm => by
    obtain ⟨o', es', ep', ho', r'⟩ := hm
    rw [ho] at ho'; cases ho'
    exact ⟨_, es', ep', hL, r'⟩) hok hg
/-- an untracked record of ours (an iterator) has turned -/
theorem Inv.turned {t' : Nat} {it : Addr} (I : Inv X pins σ H s) (k : ∀ b o, b ≠ it → s.heap.get? b = some o → h'.get? b = some o) (hn : H it = none) (hL : it ≠ X.env.locals)
    (h1 : it ∈ X.ex ∨ X.s₀.heap.objs.size ≤ it) (h2 : ∀ x c, X.env.cells.lookup x = some c → c ≠ it) (h3 : ∀ p ∈ X.pn ++ pins, p.1 ≠ it) : Inv X pins σ H { s with heap := h', toks := t' } := by
  have nit : ∀ b u, H b = some u → b ≠ it := fun b u e z => by rw [z, hn] at e; cases e
  refine I.step (g' := s.gens) (d' := s.drawn) (ch := [it]) (fun b hb => ?_) (fun b o _ _ hc e _ => k b o (fun z => hc (by simp [z])) e) (fun b o _ _ hc e _ => ⟨o.slots, k b o (fun z => hc (by simp [z])) e⟩) (fun _ _ _ _ n => n)
    (fun b o hc e => ⟨o, k b o (fun z => hc (by simp [z])) e⟩) (fun _ _ e => e) (fun _ _ _ e => e) (fun b ps e => ⟨#[], by rw [e]; simp⟩) (fun m hm => ?_) (fun b u e => ?_) I.bare
  · have e : b = it := by simpa using hb
    subst e
    exact ⟨h1, hL, h2, h3⟩
  · obtain ⟨o, es, ep, ho, r⟩ := hm
    exact ⟨o, es, ep, k _ o (Ne.symm hL) ho, r⟩
  · refine (I.hok b u e).stay (fun c v hc q => k c v ?_ q) (fun _ q => q) fun _ _ q => q
    rcases hc with z | z
    · rw [z]; exact nit b u e
    · exact nit c _ z
theorem Inv.tok (I : Inv X pins σ H s) (t : Nat) : Inv X pins σ H { s with toks := t } := I.un (h' := s.heap) (t' := t) Un.refl I.hok
/-- all objects kept -/
theorem Inv.kept {t' : Nat} (I : Inv X pins σ H s) (k : ∀ b u, s.heap.get? b = some u → h'.get? b = some u) : Inv X pins σ H { s with heap := h', toks := t' } := I.un (Un.kept k) (I.hok.kept k)
/-- a new object laid and tracked -/
theorem Inv.laid {a : Addr} {o : HO} {t' : Nat} (I : Inv X pins σ H s) (k : ∀ b u, s.heap.get? b = some u → h'.get? b = some u) (hp : s.heap.objs.size ≤ a) (new : ObjOk X.prog X.w (upd H a o) h' a o) :
    Inv X pins σ (upd H a o) { s with heap := h', toks := t' } := I.un (Un.laid k hp (I.hok.fresh hp)) (I.hok.laid k hp new)
/-- an object written -/
theorem Inv.write {x e : Addr} {o : HO} {t' : Nat} (I : Inv X pins σ H s) (mu : Mut (H x)) (he : e = x ∨ H e = some (.own x)) (k : ∀ b u, b ≠ e → s.heap.get? b = some u → h'.get? b = some u) (heo : ∃ u, h'.get? e = some u)
    (new : ObjOk X.prog X.w (upd H x o) h' x o) : Inv X pins σ (upd H x o) { s with heap := h', toks := t' } := I.un (Un.write mu he k heo) (I.hok.write mu he k heo new)
/-- forgetting slots, pins -/
theorem Inv.weak {σ' : List (Option V)} (I : Inv X pins σ H s) (hl : σ'.length = σ.length) (w : ∀ (i : Nat) v, σ'[i]? = some (some v) → σ[i]? = some (some v)) : Inv X pins σ' H s :=
  ⟨I.ok, I.os, I.bare, I.base, let ⟨m, hn, hl'⟩ := I.loc; ⟨m, hn, fun i x v e1 e2 e3 => hl' i x v e1 (w i v e2) e3⟩, I.cell, I.free, I.freeC, I.pin, I.hok, hl.trans I.len⟩
theorem Inv.pins_of {pins' : List (Addr × Obj)} (I : Inv X pins σ H s) (h : ∀ p ∈ pins', s.heap.get? p.1 = some p.2 ∧ H p.1 = none ∧ p.1 ≠ X.env.locals ∧ p.1 ∉ X.fs ∧ ∀ v, p.2.data ≠ .cell v) : Inv X pins' σ H s :=
  ⟨I.ok, I.os, I.bare, I.base, I.loc, I.cell, I.free, I.freeC, fun p hp => (List.mem_append.mp hp).elim (fun z => I.pin p (List.mem_append_left _ z)) (h p), I.hok, I.len⟩

theorem nodup_ix {N : List Str} (hN : N.Nodup) {i j : Nat} {x : Str} (a : N[i]? = some x) (b : N[j]? = some x) : i = j := by
  obtain ⟨h1, e1⟩ := List.getElem?_eq_some_iff.mp a
  obtain ⟨h2, e2⟩ := List.getElem?_eq_some_iff.mp b
  exact (List.getElem_inj hN).mp (e1.trans e2.symm)

/-- a name is stored; what changed -/
theorem store_ok2 {M : Model} {A : Around} {E : Value → Shared → Prop} {i : Nat} {x : Str} {v : V} {u : Value} {Q : Unit → Shared → Prop} (I : Inv X pins σ H s) (hN : X.N.Nodup) (hi : X.N[i]? = some x) (hx : Loc X.env.scope x) (r : RelV v u)
    (h : ∀ s', Inv X pins (σ.set i (some v)) H s' → (∃ a, Heap.SameBut a s.heap s'.heap ∧ (a = X.env.locals ∨ X.env.cells.lookup x = some a)) → Q () s') (hf : X.fn x = true ∨ X.env.scope.names.lookup x = some .local := by first | exact .inl rfl | exact .inr rfl | assumption) : wpAny M A (storeName X.env x u) Q E s := by
  obtain ⟨m, hn, hl⟩ := id I.loc
  have hcls : (X.env.scope.kind == .class || (X.env.scope.kind == .module && X.env.locals != X.env.globals)) = false := by rw [I.ok.kind]; rfl
  have hiσ : i < σ.length := by rw [I.len]; exact (List.getElem?_eq_some_iff.mp hi).1
  have cne := I.cne
  have tracked : ∀ {a : Addr} {h' : Heap}, (∃ o, s.heap.get? a = some o ∧ H a = none) → Heap.SameBut a s.heap h' → HOk X.prog X.w H h' := fun {a h'} ha hs b ob e => by
    obtain ⟨_, _, hfree⟩ := ha
    refine (I.hok b ob e).stay (fun c w' hc q => (hs.2 c ?_).trans q) (fun _ q => q) fun _ _ q => q
    rintro rfl
    rcases hc with rfl | hc
    · rw [hfree] at e; cases e
    · rw [hfree] at hc; cases hc
  rcases hx with hk | hk
  · refine wpAny_storeName_local hk hn (fun h' hn' hs => ?_) hcls
    obtain ⟨oL, _, _, hoL, _⟩ := id hn
    refine h _ ⟨I.ok, I.os, I.bare, ⟨fun b o e n hb hx => ?_, fun b o e n hb hx => ?_, I.base.free, fun b o e hx => ?_, I.base.tups, I.base.frzs, I.base.tbls⟩, ⟨_, hn', fun j y v' e1 e2 e3 => ?_⟩, fun y c e => ?_, I.free, I.freeC, fun p hp => ?_, tracked ⟨oL, hoL, I.free⟩ hs, by simpa using I.len⟩ ⟨_, hs, .inl rfl⟩
    · exact (hs.2 b (Nat.ne_of_lt (Nat.lt_of_lt_of_le (Heap.lt_size e) I.ok.above))).trans (I.base.keep b o e n hb hx)
    · obtain ⟨sl, e1⟩ := I.base.slot b o e n hb hx
      exact ⟨sl, (hs.2 b (Nat.ne_of_lt (Nat.lt_of_lt_of_le (Heap.lt_size e) I.ok.above))).trans e1⟩
    · obtain ⟨o', e1⟩ := I.base.there b o e hx
      exact ⟨o', (hs.2 b (Nat.ne_of_lt (Nat.lt_of_lt_of_le (Heap.lt_size e) I.ok.above))).trans e1⟩
    · by_cases hj : j = i
      · subst hj
        rw [hi] at e1; cases e1
        rw [List.getElem?_set_self hiσ] at e2
        cases e2
        exact ⟨u, r, .inl ⟨hk, by simp⟩⟩
      · rw [List.getElem?_set_ne (Ne.symm hj)] at e2
        obtain ⟨u', r', q⟩ := hl j y v' e1 e2 e3
        refine ⟨u', r', ?_⟩
        rcases q with ⟨k, e⟩ | ⟨k, c, e, z⟩
        · refine .inl ⟨k, ?_⟩
          have : y ≠ x := fun e => hj (nodup_ix hN e1 (e ▸ hi))
          simp [this, e]
        · exact .inr ⟨k, c, e, z.sameBut hs (cne y c e)⟩
    · obtain ⟨w', z⟩ := I.cell y c e
      exact ⟨w', z.sameBut hs (cne y c e)⟩
    · obtain ⟨e, n, ne, nf, d⟩ := I.pin p hp
      exact ⟨(hs.2 p.1 ne).trans e, n, ne, nf, d⟩
  · have hfn : X.fn x = true := by
      rcases hf with z | z
      · exact z
      · rw [z] at hk; cases hk
    obtain ⟨c, hc⟩ := I.ok.has x (.inl hk)
    obtain ⟨w', z⟩ := I.cell x c hc
    refine wpAny_storeName_cell I.ok.kind hk hc z (fun h' hc' hs => ?_)
    obtain ⟨oc, hoc, hocd⟩ := id z
    refine h { s with heap := h' } ⟨I.ok, I.os, I.bare, ⟨fun b o e n hb hx => ?_, fun b o e n hb hx => ?_, I.base.free, fun b o e hx => ?_, I.base.tups, I.base.frzs, I.base.tbls⟩, ⟨m, hn.sameBut hs (Ne.symm (cne x c hc)), fun j y v' e1 e2 e3 => ?_⟩, fun y c' e => ?_, I.free, I.freeC, fun p hp => ?_, tracked ⟨oc, hoc, I.freeC x c hc⟩ hs, by simpa using I.len⟩ ⟨c, hs, .inr hc⟩
    · exact (hs.2 b (Nat.ne_of_lt (Nat.lt_of_lt_of_le (Heap.lt_size e) (I.ok.cab x c hfn hc)))).trans (I.base.keep b o e n hb hx)
    · obtain ⟨sl, e1⟩ := I.base.slot b o e n hb hx
      exact ⟨sl, (hs.2 b (Nat.ne_of_lt (Nat.lt_of_lt_of_le (Heap.lt_size e) (I.ok.cab x c hfn hc)))).trans e1⟩
    · obtain ⟨o', e1⟩ := I.base.there b o e hx
      exact ⟨o', (hs.2 b (Nat.ne_of_lt (Nat.lt_of_lt_of_le (Heap.lt_size e) (I.ok.cab x c hfn hc)))).trans e1⟩
    · by_cases hj : j = i
      · subst hj
        rw [hi] at e1; cases e1
        rw [List.getElem?_set_self hiσ] at e2
        cases e2
        exact ⟨u, r, .inr ⟨.inl hk, c, hc, hc'⟩⟩
      · rw [List.getElem?_set_ne (Ne.symm hj)] at e2
        obtain ⟨u', r', q⟩ := hl j y v' e1 e2 e3
        refine ⟨u', r', ?_⟩
        rcases q with q | ⟨k, c', e, z'⟩
        · exact .inl q
        · refine .inr ⟨k, c', e, z'.sameBut hs ?_⟩
          rintro rfl
          exact hj (nodup_ix hN e1 (I.ok.inj _ _ _ e hc ▸ hi))
    · by_cases hcc : c' = c
      · subst hcc; exact ⟨_, hc'⟩
      · obtain ⟨w2, z2⟩ := I.cell y c' e
        exact ⟨w2, z2.sameBut hs hcc⟩
    · obtain ⟨e, n, ne, nf, d⟩ := I.pin p hp
      refine ⟨(hs.2 p.1 ?_).trans e, n, ne, nf, d⟩
      intro q
      rw [q, hoc] at e
      have q' : oc = p.2 := Option.some.inj e
      exact d w' (by rw [← q']; exact hocd)
theorem store_ok {M : Model} {A : Around} {E : Value → Shared → Prop} {i : Nat} {x : Str} {v : V} {u : Value} {Q : Unit → Shared → Prop} (I : Inv X pins σ H s) (hN : X.N.Nodup) (hi : X.N[i]? = some x) (hx : Loc X.env.scope x) (r : RelV v u)
    (h : ∀ s', Inv X pins (σ.set i (some v)) H s' → Q () s') (hf : X.fn x = true ∨ X.env.scope.names.lookup x = some .local := by first | exact .inl rfl | exact .inr rfl | assumption) : wpAny M A (storeName X.env x u) Q E s :=
  store_ok2 I hN hi hx r (fun s' I' _ => h s' I') hf
/-- behind a call or a block, the state as it is -/
theorem Inv.call' {s' : Shared} {ch : List Addr} (I : Inv X pins σ H s) (ho : s'.os = s.os) (u : Un (frs X.stack) ch H H' s.heap s'.heap) (hok : HOk X.prog X.w H' s'.heap) (hg : AllBare s'.gens)
    (hch : ∀ b ∈ ch, (b ∈ X.ex ∨ X.s₀.heap.objs.size ≤ b) ∧ b ≠ X.env.locals ∧ (∀ x c, X.env.cells.lookup x = some c → c ≠ b) ∧ ∀ p ∈ X.pn ++ pins, p.1 ≠ b) : Inv X pins σ H' s' := by
  obtain ⟨h', g', d', t', o'⟩ := s'
  have e : o' = s.os := ho
  subst e
  exact I.call (g' := g') (t' := t') (d' := d') u hok hg hch
end

/-! ### the judgements -/
/-- an exception: its class, its own dict's address (where it has one), the abstract heap behind it -/
abbrev XK := Value → Option Addr → Hp → Prop
abbrev St := List (Option V)
abbrev VK := V → Hp → Prop
/-- an expression's reading; a test's; an argument list's -/
abbrev TE := St → Hp → VK → Prop
abbrev TT := St → Hp → (Bool → Hp → Prop) → Prop
abbrev TA := St → Hp → (List V → Hp → Prop) → Prop
/-- what is wanted behind a statement -/
structure Ends where
  nx : St → Hp → Prop
  rt : VK
  bk : St → Hp → Prop := fun _ _ => False
  ct : St → Hp → Prop := fun _ _ => False
abbrev TS := Ends → St → Hp → Prop

def EP (X : Cx) (pins : List (Addr × Obj)) (σ : St) (Q : VK) (u : Value) (s' : Shared) : Prop := ∃ v H', Inv X pins σ H' s' ∧ RelV v u ∧ Q v H'
def TP (X : Cx) (pins : List (Addr × Obj)) (σ : St) (Q : Bool → Hp → Prop) (b : Bool) (s' : Shared) : Prop := ∃ H', Inv X pins σ H' s' ∧ Q b H'
def AP (X : Cx) (pins : List (Addr × Obj)) (σ : St) (Q : List V → Hp → Prop) (us : List Value) (s' : Shared) : Prop := ∃ vs H', Inv X pins σ H' s' ∧ Vals vs us ∧ Q vs H'
def SP (X : Cx) (pins : List (Addr × Obj)) (D : Ends) (f : Flow) (s' : Shared) : Prop :=
  match f with
  | .next => ∃ σ' H', Inv X pins σ' H' s' ∧ D.nx σ' H'
  | .brk => ∃ σ' H', Inv X pins σ' H' s' ∧ D.bk σ' H'
  | .cont => ∃ σ' H', Inv X pins σ' H' s' ∧ D.ct σ' H'
  | .ret u => ∃ v σ' H', Inv X pins σ' H' s' ∧ RelV v u ∧ D.rt v H'

def PE (X : Cx) (e : Expr) (t : TE) : Prop :=
  ∀ (pins : List (Addr × Obj)) (s : Shared) (σ : St) (H : Hp) (Q : VK), Inv X pins σ H s → t σ H Q → wpAny (model X.prog X.w) X.A (eval e X.env) (EP X pins σ Q) X.xe s
def PT (X : Cx) (e : Expr) (t : TT) : Prop :=
  ∀ (pins : List (Addr × Obj)) (s : Shared) (σ : St) (H : Hp) (Q : Bool → Hp → Prop), Inv X pins σ H s → t σ H Q → wpAny (model X.prog X.w) X.A (isTrue e X.env (eval e X.env)) (TP X pins σ Q) X.xe s
/-- a test whatever its 'whole' is (and, or) -/
def PW (X : Cx) (e : Expr) (t : TT) : Prop :=
  ∀ (whole : Sem Value) (pins : List (Addr × Obj)) (s : Shared) (σ : St) (H : Hp) (Q : Bool → Hp → Prop), Inv X pins σ H s → t σ H Q → wpAny (model X.prog X.w) X.A (isTrue e X.env whole) (TP X pins σ Q) X.xe s
theorem PW.pt {X : Cx} {e : Expr} {t : TT} (h : PW X e t) : PT X e t := h _
/-- an argument list (no star), from the left -/
def PA (X : Cx) (es : List Expr) (t : TA) : Prop :=
  ∀ (pos : Pos) (pins : List (Addr × Obj)) (s : Shared) (σ : St) (H : Hp) (Q : List V → Hp → Prop), Inv X pins σ H s → t σ H Q → wpAny (model X.prog X.w) X.A (spliced (backTo pos (starEach es X.env))) (AP X pins σ Q) X.xe s
def PS (X : Cx) (st : Stmt) (t : TS) : Prop :=
  ∀ (pins : List (Addr × Obj)) (s : Shared) (σ : St) (H : Hp) (D : Ends), Inv X pins σ H s → t D σ H → wpAny (model X.prog X.w) X.A (exec st X.env) (SP X pins D) X.xe s
def PSs (X : Cx) (st : List Stmt) (t : TS) : Prop :=
  ∀ (pins : List (Addr × Obj)) (s : Shared) (σ : St) (H : Hp) (D : Ends), Inv X pins σ H s → t D σ H → wpAny (model X.prog X.w) X.A (execs st X.env) (SP X pins D) X.xe s
/-- weaken the end -/
theorem thn {α : Type} {t : Sem α} {Q Q' : α → Shared → Prop} {M : Model} {A : Around} {E : Value → Shared → Prop} {s : Shared} (h : wpAny M A t Q E s) (hQ : ∀ a s, Q a s → Q' a s) : wpAny M A t Q' E s := wpAny_mono h hQ fun _ _ x => x
end L2

namespace L2
open PySem PySem.Spec PyProof.Rows
section
variable {X : Cx}

/-! ### names and constants -/
def tVar (i : Nat) : TE := fun σ H Q => ∃ v, σ[i]? = some (some v) ∧ Q v H
def tC (v : V) : TE := fun _ H Q => Q v H
theorem pe_var {i : Nat} {x : Str} {pos : Pos} (hN : X.N[i]? = some x) (hv : Vis X.env.scope x) (hd : (x == ("__debug__" : Str)) = false := by decide) (hcd : (x == ("__classdict__" : Str)) = false := by decide) : PE X (.Name x pos) (tVar i) := by
  intro pins s σ H Q I h
  obtain ⟨v, e, h⟩ := h
  obtain ⟨m, hn, hl⟩ := I.loc
  obtain ⟨u, r, l⟩ := hl i x v hN e hv
  have fin : EP X pins σ Q u s := ⟨v, H, I, r, h⟩
  rcases l with ⟨hk, hm⟩ | ⟨hk, c, hc, hcell⟩
  · exact wpAny_Name (wpAny_loadName_local I.ok.kind hk hn hm fin) hd
  · rcases hk with hk | hk
    · exact wpAny_Name (wpAny_loadName_cell I.ok.kind hk hc hcell fin) hd
    · exact wpAny_Name (wpAny_loadName_free I.ok.kind hk hc hcell fin hcd) hd
theorem pe_int {i j pos} : PE X (.Constant (.int i) j pos) (tC (.int i)) := fun _ _ _ H _ I h => wpAny_Constant_int ⟨.int i, H, I.tok _, ⟨_, rfl⟩, h⟩
theorem pe_bl {b j pos} : PE X (.Constant (.bool b) j pos) (tC (.bl b)) := fun _ _ _ H _ I h => Constant_bool ⟨.bl b, H, I, rfl, h⟩
theorem pe_non {j pos} : PE X (.Constant .none j pos) (tC .non) := fun _ _ _ H _ I h => Constant_none ⟨.non, H, I, rfl, h⟩
theorem pe_str {x j pos} : PE X (.Constant (.str x) j pos) (tC (.str x)) := fun _ _ _ H _ I h => Calls.Constant_str ⟨.str x, H, I.tok _, ⟨_, rfl⟩, h⟩

/-- a global name of the def -/
def Gl (X : Cx) (x : Str) : Prop := X.env.kindOf x = some .globalImplicit
theorem ld_glob {E : Value → Shared → Prop} {pins : List (Addr × Obj)} {s : Shared} {σ : St} {H : Hp} {x : Str} {u : Value} {pos : Pos} {Q : Value → Shared → Prop} (I : Inv X pins σ H s) (hg : Gl X x) (hm : X.mg x = some u) (h : Q u s)
    (hd : (x == ("__debug__" : Str)) = false := by decide) : wpAny (model X.prog X.w) X.A (eval (.Name x pos) X.env) Q E s :=
  Calls.Name_function_global I.ok.kind hg (Calls.loadGlobal_global (by rw [I.ok.glob]; exact I.mod.glob.keeps I.bk) hm h) hd
theorem ld_blt {E : Value → Shared → Prop} {pins : List (Addr × Obj)} {s : Shared} {σ : St} {H : Hp} {x : Str} {u : Value} {pos : Pos} {Q : Value → Shared → Prop} (I : Inv X pins σ H s) (hg : Gl X x) (hm : X.mg x = none) (hv : bootBuiltins x = some u) (h : Q u s)
    (hn : x ≠ "__name__" := by decide) (hd : (x == ("__debug__" : Str)) = false := by decide) : wpAny (model X.prog X.w) X.A (eval (.Name x pos) X.env) Q E s := by
  obtain ⟨mb, h1, h2⟩ := I.mod.blt
  exact Calls.Name_function_global I.ok.kind hg (Calls.loadGlobal_builtin (by rw [I.ok.glob]; exact I.mod.glob.keeps I.bk) hm (by rw [I.ok.blt]; exact h1.keeps I.bk) ((h2 x hn).trans hv) h) hd
/-- a module's constant, a class, a function, as a value -/
theorem pe_glob {x : Str} {v : V} {u : Value} {pos : Pos} (hg : Gl X x) (hm : X.mg x = some u) (r : RelV v u) (hd : (x == ("__debug__" : Str)) = false := by decide) : PE X (.Name x pos) (tC v) :=
  fun _ _ _ H _ I h => ld_glob I hg hm ⟨v, H, I, r, h⟩ hd
theorem pe_bltn {x : Str} {v : V} {u : Value} {pos : Pos} (hg : Gl X x) (hm : X.mg x = none) (hv : bootBuiltins x = some u) (r : RelV v u) (hn : x ≠ "__name__" := by decide) (hd : (x == ("__debug__" : Str)) = false := by decide) : PE X (.Name x pos) (tC v) :=
  fun _ _ _ H _ I h => ld_blt I hg hm hv ⟨v, H, I, r, h⟩ hn hd

/-! ### arithmetic -/
variable {a b : Expr} {ta tb : TE} {pos : Pos}
/-! ### comparisons -/
def PC (X : Cx) (op : CmpOp) (a b : Expr) (t : TE) : Prop :=
  ∀ (pins : List (Addr × Obj)) (s : Shared) (σ : St) (H : Hp) (Q : VK), Inv X pins σ H s → t σ H Q →
    wpAny (model X.prog X.w) X.A (eval a X.env) (fun v s₁ => wpAny (model X.prog X.w) X.A (eval b X.env) (fun u s₂ => wpAny (model X.prog X.w) X.A (compareOp op v u) (EP X pins σ Q) X.xe s₂) X.xe s₁) X.xe s
theorem nobehind (b : Expr) {op : CmpOp} (h : op ≠ .In) (h2 : op ≠ .NotIn) : behindInMarks op b = false := by
  have e1 : (op == CmpOp.In) = false := by cases op <;> first | rfl | exact absurd rfl h
  have e2 : (op == CmpOp.NotIn) = false := by cases op <;> first | rfl | exact absurd rfl h2
  cases b <;> simp [behindInMarks, e1, e2]
/-- a comparison as a value, as a test -/
def tB (t : TE) : TT := fun σ H Q => t σ H fun x H1 => ∃ c, x = .bl c ∧ Q c H1
theorem pt_cmp {op : CmpOp} {t : TE} (h : PC X op a b t) (h1 : behindInMarks op b = false := by first | exact nobehind _ (by decide) (by decide) | rfl) : PT X (.Compare a [op] [b] pos) (tB t) := by
  intro pins s σ H Q I hw
  refine wpAny_isTrue_Compare1 (thn (h pins s σ H _ I hw) fun v s1 h1 => thn h1 fun u s2 h2 => thn h2 fun c s3 ⟨x, H1, I1, r1, q1⟩ => ?_) h1
  obtain ⟨d, rfl, q⟩ := q1
  cases r1
  exact wpAny_truthy_bool ⟨H1, I1, q⟩
/-- an expression whose value is a bool, as a test -/
theorem pt_val {e : Expr} {t : TE} (h : PE X e t) (he : ∀ whole, isTrue e X.env whole = (do let v ← whole; standAt e.pos; holding [v] (truthy v)) := by intro _; rfl) : PT X e (tB t) := by
  intro pins s σ H Q I hw
  refine isTrue_plain (thn (h pins s σ H _ I hw) fun v s1 ⟨x, H1, I1, r1, q1⟩ => ?_) (he _)
  obtain ⟨d, rfl, q⟩ := q1
  cases r1
  exact wpAny_truthy_bool ⟨H1, I1, q⟩

/-! ### and, or, not -/
variable {tA tB' : TT} {rest : List Expr}
def tAnd (t u : TT) : TT := fun σ H Q => t σ H fun c H1 => if c = true then u σ H1 Q else Q false H1
def tOr (t u : TT) : TT := fun σ H Q => t σ H fun c H1 => if c = true then Q true H1 else u σ H1 Q
def tNot (t : TT) : TT := fun σ H Q => t σ H fun c H1 => Q (!c) H1
theorem pw_and1 (ha : PT X a tA) : PW X (.BoolOp .And [a] pos) tA := by
  intro wh pins s σ H Q I h
  refine isTrue_and (thn (ha pins s σ H Q I h) fun c s1 e => ?_)
  cases c with
  | true => exact isTrue_and_nil e
  | false => exact e
theorem pw_or1 (ha : PT X a tA) : PW X (.BoolOp .Or [a] pos) tA := by
  intro wh pins s σ H Q I h
  refine isTrue_or (thn (ha pins s σ H Q I h) fun c s1 e => ?_)
  cases c with
  | false => exact isTrue_or_nil e
  | true => exact e
theorem pw_and (ha : PT X a tA) (hb : PW X (.BoolOp .And (b :: rest) pos) tB') : PW X (.BoolOp .And (a :: b :: rest) pos) (tAnd tA tB') := by
  intro wh pins s σ H Q I h
  refine isTrue_and (thn (ha pins s σ H _ I h) fun c s1 ⟨H1, I1, q1⟩ => ?_)
  cases c with
  | true => exact hb wh pins s1 σ H1 Q I1 q1
  | false => exact ⟨H1, I1, q1⟩
theorem pw_or (ha : PT X a tA) (hb : PW X (.BoolOp .Or (b :: rest) pos) tB') : PW X (.BoolOp .Or (a :: b :: rest) pos) (tOr tA tB') := by
  intro wh pins s σ H Q I h
  refine isTrue_or (thn (ha pins s σ H _ I h) fun c s1 ⟨H1, I1, q1⟩ => ?_)
  cases c with
  | true => exact ⟨H1, I1, q1⟩
  | false => exact hb wh pins s1 σ H1 Q I1 q1
theorem pt_not (ha : PT X a tA) : PT X (.UnaryOp .Not a pos) (tNot tA) := by
  intro pins s σ H Q I h
  exact isTrue_not (ha pins s σ H (fun c H1 => Q (!c) H1) I h)
/-- .. as values (bools) -/
def tAndV (ta tb : TE) : TE := fun σ H Q => ta σ H fun x H1 => ∃ c, x = .bl c ∧ if c = true then tb σ H1 Q else Q (.bl false) H1
def tOrV (ta tb : TE) : TE := fun σ H Q => ta σ H fun x H1 => ∃ c, x = .bl c ∧ if c = true then Q (.bl true) H1 else tb σ H1 Q
def tNotV (ta : TE) : TE := fun σ H Q => ta σ H fun x H1 => ∃ c, x = .bl c ∧ Q (.bl (!c)) H1
theorem pe_one {op} {t : TE} (h : PE X a t) : PE X (.BoolOp op [a] pos) t := fun pins s σ H Q I hw => BoolOp_one (h pins s σ H Q I hw)
theorem pe_and (ha : PE X a ta) (hb : PE X (.BoolOp .And (b :: rest) pos) tb) : PE X (.BoolOp .And (a :: b :: rest) pos) (tAndV ta tb) := by
  intro pins s σ H Q I h
  refine BoolOp_and (thn (ha pins s σ H _ I h) fun v s1 ⟨x, H1, I1, r1, q1⟩ => ?_)
  obtain ⟨c, rfl, q1⟩ := q1
  cases r1
  refine wpAny_truthy_bool ?_
  cases c with
  | true => exact hb pins s1 σ H1 Q I1 q1
  | false => exact ⟨.bl false, H1, I1, rfl, q1⟩
theorem pe_or (ha : PE X a ta) (hb : PE X (.BoolOp .Or (b :: rest) pos) tb) : PE X (.BoolOp .Or (a :: b :: rest) pos) (tOrV ta tb) := by
  intro pins s σ H Q I h
  refine BoolOp_or (thn (ha pins s σ H _ I h) fun v s1 ⟨x, H1, I1, r1, q1⟩ => ?_)
  obtain ⟨c, rfl, q1⟩ := q1
  cases r1
  refine wpAny_truthy_bool ?_
  cases c with
  | false => exact hb pins s1 σ H1 Q I1 q1
  | true => exact ⟨.bl true, H1, I1, rfl, q1⟩
theorem pe_not (ha : PE X a ta) : PE X (.UnaryOp .Not a pos) (tNotV ta) := by
  intro pins s σ H Q I h
  refine UnaryOp_ (thn (ha pins s σ H _ I h) fun v s1 ⟨x, H1, I1, r1, q1⟩ => ?_)
  obtain ⟨c, rfl, q1⟩ := q1
  cases r1
  exact not_of (wpAny_truthy_bool ⟨.bl (!c), H1, I1, rfl, q1⟩)
/-- a if t else b -/
def tIf (t : TT) (ta tb : TE) : TE := fun σ H Q => t σ H fun c H1 => if c = true then ta σ H1 Q else tb σ H1 Q
theorem pe_ifExp {c : Expr} (hc : PT X c tA) (ha : PE X a ta) (hb : PE X b tb) : PE X (.IfExp c a b pos) (tIf tA ta tb) := by
  intro pins s σ H Q I h
  refine wpAny_IfExp (thn (hc pins s σ H _ I h) fun d s1 ⟨H1, I1, q1⟩ => ?_)
  cases d with
  | true => exact ha pins s1 σ H1 Q I1 q1
  | false => exact hb pins s1 σ H1 Q I1 q1
end
end L2

namespace L2
open PySem PySem.Spec PyProof.Rows

/-! ### a list, a tuple that is read: tracked, frozen, or an object of the module -/
def SqL (K : PySem.W.Frag) (H : Hp) (a : Addr) (xs : List V) : Prop :=
  Rd H a (.lst xs) ∨
    ∃ (o : Obj) (its : Array Value) (n : Nat), K.lookup a = some o ∧ o.cls = .type "list" ∧ o.dict = none ∧ o.data = .seq its n ∧ its.size ≤ sizeLine ∧ Vals xs its.toList
def SqT (K : PySem.W.Frag) (H : Hp) (a : Addr) (xs : List V) : Prop :=
  Rd H a (.tup xs) ∨
    ∃ (o : Obj) (its : Array Value) (n : Nat), K.lookup a = some o ∧ o.cls = .type "tuple" ∧ o.data = .seq its n ∧ its.size ≤ sizeLine ∧ Vals xs its.toList
def absV : Value → Option V
  | .none => some .non
  | .bool b => some (.bl b)
  | .int i _ => some (.int i)
  | .str x _ => some (.str x)
  | .bytes b _ => some (.byt b)
  | .float b _ => some (.flt b)
  | .ref a => some (.ref a)
  | .type n => some (.ty n)
  | _ => none
theorem RelV.abs {x : V} {u : Value} (r : RelV x u) : absV u = some x := by
  cases x with
  | non => cases r; rfl
  | bl _ => cases r; rfl
  | int _ => obtain ⟨t, rfl⟩ := r; rfl
  | str _ => obtain ⟨t, rfl⟩ := r; rfl
  | byt _ => obtain ⟨t, rfl⟩ := r; rfl
  | flt _ => obtain ⟨t, rfl⟩ := r; rfl
  | ref _ => cases r; rfl
  | ty _ => cases r; rfl
theorem RelV.inj {x y : V} {u : Value} (r : RelV x u) (q : RelV y u) : x = y := Option.some.inj (r.abs.symm.trans q.abs)
theorem Vals.inj : ∀ {xs ys : List V} {us : List Value}, Vals xs us → Vals ys us → xs = ys
  | _, _, _, .nil, .nil => rfl
  | _, _, _, .cons r t, .cons r' t' => by rw [r.inj r', Vals.inj t t']
section
variable {X : Cx} {pins : List (Addr × Obj)} {σ : St} {H : Hp} {s : Shared} {a : Addr} {xs ys : List V}
theorem SqL.of {K : PySem.W.Frag} (h : H a = some (.lst xs)) : SqL K H a xs := .inl (.inl h)
theorem SqT.of {K : PySem.W.Frag} (h : H a = some (.tup xs)) : SqT K H a xs := .inl (.inl h)
theorem Inv.list (I : Inv X pins σ H s) (h : SqL X.K H a xs) : ∃ its : List Value, Vals xs its ∧ PlainL s.heap a its.toArray ∧ xs.length ≤ sizeLine := by
  rcases h with h | ⟨o, its, n, hk, hc, hd, hs, hz, r⟩
  · obtain ⟨z, its, n, r, e⟩ := h.ok I.hok
    exact ⟨its, r, ⟨_, n, e, rfl, rfl, rfl⟩, z⟩
  · refine ⟨its.toList, r, ⟨o, n, I.kIn a o hk, hc, hd, by simpa using hs⟩, ?_⟩
    have e := r.length
    simp only [Array.length_toList] at e
    omega
theorem Inv.tuple (I : Inv X pins σ H s) (h : SqT X.K H a xs) : ∃ its : List Value, Vals xs its ∧ IsTup s.heap a its.toArray ∧ xs.length ≤ sizeLine := by
  rcases h with h | ⟨o, its, n, hk, hc, hs, hz, r⟩
  · obtain ⟨z, its, r, p⟩ := h.ok I.hok
    exact ⟨its, r, p, z⟩
  · refine ⟨its.toList, r, ⟨o, I.kIn a o hk, hc, n, by simpa using hs⟩, ?_⟩
    have e := r.length
    simp only [Array.length_toList] at e
    omega
theorem Inv.list_inj (I : Inv X pins σ H s) (h : SqL X.K H a xs) (h' : SqL X.K H a ys) : xs = ys := by
  obtain ⟨its, r, ⟨o, n, e, _, _, d⟩, _⟩ := I.list h
  obtain ⟨its', r', ⟨o', n', e', _, _, d'⟩, _⟩ := I.list h'
  rw [e] at e'; cases e'
  rw [d] at d'
  injection d' with d1 _
  have : its = its' := by simpa using congrArg Array.toList d1
  subst this
  exact r.inj r'
end

/-! ### another wish about exceptions -/
abbrev Cx.wish (X : Cx) (E : Value → Shared → Prop) : Cx := { X with xe := E }
/-- no exception leaves -/
abbrev Cx.nox (X : Cx) : Cx := X.wish fun _ _ => False
theorem Cx.Ok.wish {X : Cx} (ok : X.Ok) (E : Value → Shared → Prop) : (X.wish E).Ok :=
  ⟨ok.mod, ok.kind, ok.glob, ok.blt, ok.above, ok.inj, ok.has, ok.cab, ok.hd, ok.frames, ok.stk, ok.exf, ok.bs, ok.bsz, ok.noex, ok.exfs, ok.funs, ok.frf⟩
theorem Cx.Ok.unwish {X : Cx} {E : Value → Shared → Prop} (ok : (X.wish E).Ok) : X.Ok :=
  ⟨ok.mod, ok.kind, ok.glob, ok.blt, ok.above, ok.inj, ok.has, ok.cab, ok.hd, ok.frames, ok.stk, ok.exf, ok.bs, ok.bsz, ok.noex, ok.exfs, ok.funs, ok.frf⟩
section
variable {X : Cx} {pins : List (Addr × Obj)} {σ : St} {H : Hp} {s : Shared} {E : Value → Shared → Prop}
theorem Inv.wish (I : Inv X pins σ H s) (E : Value → Shared → Prop) : Inv (X.wish E) pins σ H s := ⟨I.ok.wish E, I.os, I.bare, I.base, I.loc, I.cell, I.free, I.freeC, I.pin, I.hok, I.len⟩
theorem Inv.unwish (I : Inv (X.wish E) pins σ H s) : Inv X pins σ H s := ⟨I.ok.unwish, I.os, I.bare, I.base, I.loc, I.cell, I.free, I.freeC, I.pin, I.hok, I.len⟩
theorem SP.unwish {D : Ends} {f : Flow} {s' : Shared} (h : SP (X.wish E) pins D f s') : SP X pins D f s' := by
  cases f with
  | next => obtain ⟨σ', H', I, q⟩ := h; exact ⟨σ', H', I.unwish, q⟩
  | brk => obtain ⟨σ', H', I, q⟩ := h; exact ⟨σ', H', I.unwish, q⟩
  | cont => obtain ⟨σ', H', I, q⟩ := h; exact ⟨σ', H', I.unwish, q⟩
  | ret u => obtain ⟨v, σ', H', I, r, q⟩ := h; exact ⟨v, σ', H', I.unwish, r, q⟩
theorem PE.nox {e : Expr} {t : TE} (h : PE X.nox e t) : PE X e t := fun pins s σ H Q I hw =>
  wpAny_mono (h pins s σ H Q (I.wish _) hw) (fun _ _ ⟨v, H', I', r, q⟩ => ⟨v, H', I'.unwish, r, q⟩) fun _ _ z => False.elim z
theorem PT.nox {e : Expr} {t : TT} (h : PT X.nox e t) : PT X e t := fun pins s σ H Q I hw =>
  wpAny_mono (h pins s σ H Q (I.wish _) hw) (fun _ _ ⟨H', I', q⟩ => ⟨H', I'.unwish, q⟩) fun _ _ z => False.elim z
theorem PSs.nox {st : List Stmt} {t : TS} (h : PSs X.nox st t) : PSs X st t := fun pins s σ H D I hw =>
  wpAny_mono (h pins s σ H D (I.wish _) hw) (fun _ _ q => q.unwish) fun _ _ z => False.elim z
end

/-! ### blocks and small statements -/
section
variable {X : Cx} {st : Stmt} {rest : List Stmt} {t u : TS} {e : Expr} {te : TE} {pos : Pos}
def tNext : TS := fun D σ H => D.nx σ H
def tSeq (t u : TS) : TS := fun D σ H => t { D with nx := u D } σ H
theorem pss_nil : PSs X [] tNext := fun _ _ σ H _ I h => wpAny_execs_nil ⟨σ, H, I, h⟩
theorem pss_cons (h1 : PS X st t) (h2 : PSs X rest u) : PSs X (st :: rest) (tSeq t u) := by
  intro pins s σ H D I h
  refine wpAny_execs_cons (thn (h1 pins s σ H { D with nx := u D } I h) fun f s1 q => ?_)
  cases f with
  | next =>
    obtain ⟨σ', H', I', q⟩ := q
    exact h2 pins s1 σ' H' D I' q
  | ret v => exact q
  | brk => exact q
  | cont => exact q
theorem pss_one (h1 : PS X st t) : PSs X [st] t := by
  intro pins s σ H D I h
  refine wpAny_execs_cons (thn (h1 pins s σ H D I h) fun f s1 q => ?_)
  cases f with
  | next => exact wpAny_execs_nil q
  | ret v => exact q
  | brk => exact q
  | cont => exact q
/-- in a def's body nothing is shown -/
theorem Inv.quiet {pins : List (Addr × Obj)} {σ : St} {H : Hp} {s : Shared} (I : Inv X pins σ H s) : interactive X.env = false := by simp [interactive, I.ok.kind]
/-- an expression whose value is dropped -/
def tDrop (te : TE) : TS := fun D σ H => te σ H fun _ H1 => D.nx σ H1
theorem ps_expr (he : PE X e te) (hs : swapsWith e none pos.line X.env = pure false := by rfl) : PS X (.Expr e pos) (tDrop te) := by
  intro pins s σ H D I h
  exact wpAny_Expr_any (thn (he pins s σ H _ I h) fun v s1 ⟨x, H1, I1, r1, q1⟩ => ⟨σ, H1, I1, q1⟩) I.quiet hs
def tRet (te : TE) : TS := fun D σ H => te σ H D.rt
theorem ps_ret (he : PE X e te) : PS X (.Return (some e) pos) (tRet te) := by
  intro pins s σ H D I h
  exact wpAny_Return_some (thn (he pins s σ H _ I h) fun v s1 ⟨x, H1, I1, r1, q1⟩ => ⟨x, σ, H1, I1, r1, q1⟩)
def tIfS (c : TT) (t u : TS) : TS := fun D σ H => c σ H fun b H1 => if b = true then t D σ H1 else u D σ H1
theorem ps_if {c : Expr} {a b : List Stmt} {tc : TT} (hc : PT X c tc) (ha : PSs X a t) (hb : PSs X b u) : PS X (.If c a b pos) (tIfS tc t u) := by
  intro pins s σ H D I h
  refine wpAny_If (thn (hc pins s σ H _ I h) fun d s1 ⟨H1, I1, q1⟩ => ?_)
  cases d with
  | true => exact ha pins s1 σ H1 D I1 q1
  | false => exact hb pins s1 σ H1 D I1 q1
/-- code that the proof never comes to -/
def tNever : TS := fun _ _ _ => False
theorem ps_never : PS X st tNever := fun _ _ _ _ _ _ h => h.elim
end

/-! ### targets -/
abbrev TG := V → St → Hp → (St → Hp → Prop) → Prop
abbrev TGs := List V → St → Hp → (St → Hp → Prop) → Prop
def PG (X : Cx) (target : Expr) (t : TG) : Prop :=
  ∀ (pins : List (Addr × Obj)) (s : Shared) (σ : St) (H : Hp) (v : V) (u : Value) (Q : St → Hp → Prop), Inv X pins σ H s → RelV v u → t v σ H Q →
    wpAny (model X.prog X.w) X.A (assign target X.env u) (fun _ s' => ∃ σ' H', Inv X pins σ' H' s' ∧ Q σ' H') X.xe s
/-- several targets, one after another -/
def PGs (X : Cx) (ts : List Expr) (t : TGs) : Prop :=
  ∀ (pins : List (Addr × Obj)) (s : Shared) (σ : St) (H : Hp) (vs : List V) (us : List Value) (Q : St → Hp → Prop), Inv X pins σ H s → Vals vs us → t vs σ H Q →
    wpAny (model X.prog X.w) X.A (assignInOrder ((assignEach ts X.env).map (·.2)) us) (fun _ s' => ∃ σ' H', Inv X pins σ' H' s' ∧ Q σ' H') X.xe s
/-- o[i] = v, by values -/
abbrev TSet := V → V → V → Hp → (Hp → Prop) → Prop
def PSet (X : Cx) (t : TSet) : Prop :=
  ∀ (pins : List (Addr × Obj)) (s : Shared) (σ : St) (H : Hp) (o i v : V) (ov iv u : Value) (Q : Hp → Prop), Inv X pins σ H s → RelV o ov → RelV i iv → RelV v u → t o i v H Q →
    wpAny (model X.prog X.w) X.A (setItem ov iv u) (fun _ s' => ∃ H', Inv X pins σ H' s' ∧ Q H') X.xe s
section
variable {X : Cx} {pos : Pos}
def gName (i : Nat) : TG := fun v σ H Q => Q (σ.set i (some v)) H
theorem pg_name {i : Nat} {x : Str} (hN : X.N.Nodup) (hi : X.N[i]? = some x) (hx : Loc X.env.scope x) (hf : X.fn x = true ∨ X.env.scope.names.lookup x = some .local := by first | exact .inl rfl | exact .inr rfl | assumption) : PG X (.Name x pos) (gName i) := by
  intro pins s σ H v u Q I r h
  exact wpAny_assign_Name (store_ok I hN hi hx r (fun s' I' => ⟨_, H, I', h⟩) hf)
def gNil : TGs := fun vs σ H Q => vs = [] ∧ Q σ H
def gCons (t : TG) (u : TGs) : TGs := fun vs σ H Q => ∃ v r, vs = v :: r ∧ t v σ H fun σ' H' => u r σ' H' Q
theorem pgs_nil : PGs X [] gNil := by
  intro pins s σ H vs us Q I r h
  obtain ⟨e, h⟩ := h
  subst e
  cases r
  exact assignInOrder_nil ⟨σ, H, I, h⟩
theorem pgs_cons {e : Expr} {es : List Expr} {t : TG} {u : TGs} (h1 : PG X e t) (h2 : PGs X es u)
    (hs : (assignEach (e :: es) X.env).map (·.2) = assign e X.env :: (assignEach es X.env).map (·.2) := by rfl) : PGs X (e :: es) (gCons t u) := by
  intro pins s σ H vs us Q I r h
  obtain ⟨v, vr, e1, h⟩ := h
  subst e1
  cases r with
  | cons r rr =>
    rw [hs]
    refine assignInOrder_cons (thn (h1 pins s σ H _ _ _ I r h) fun _ s1 ⟨σ1, H1, I1, q1⟩ => ?_)
    exact h2 pins s1 σ1 H1 _ _ Q I1 rr q1
/-- (a, b, ..) = a tuple of that length -/
def gTup (K : PySem.W.Frag) (n : Nat) (t : TGs) : TG := fun v σ H Q => ∃ a xs, v = .ref a ∧ SqT K H a xs ∧ xs.length = n ∧ t xs σ H Q
theorem pg_tup {es : List Expr} {k : Nat} {t : TGs} {n : Nat} (hc : X.calm = true) (h : PGs X es t)
    (hn : (assignEach es X.env).length = n := by rfl) (hst : (assignEach es X.env).findIdx? (·.1) = none := by rfl) : PG X (.Tuple es k pos) (gTup X.K n t) := by
  intro pins s σ H v u Q I r hw
  obtain ⟨a, xs, e1, hq, hl, hw⟩ := hw
  subst e1
  cases r
  obtain ⟨its, rv, ht, hz⟩ := I.tuple hq
  refine assign_Tuple_tuple (I.ok.hd hc) ht (by simp [hn, ← hl, rv.length]) hst fun h' hx => ?_
  have I1 : Inv X pins σ H { s with heap := h' } := I.kept (t' := s.toks) fun b o e => hx b o (Nat.ne_of_lt (Heap.lt_size e)) e
  exact h pins _ σ H xs _ Q I1 (by simpa using rv) hw
/-- o[i] = .. -/
def gSub (to ti : TE) (t : TSet) : TG := fun v σ H Q => to σ H fun o H1 => ti σ H1 fun i H2 => t o i v H2 fun H3 => Q σ H3
theorem pg_sub {o i : Expr} {to ti : TE} {t : TSet} (ho : PE X o to) (hi : PE X i ti) (hs : PSet X t)
    (ha : ∀ v, assign (.Subscript o i pos) X.env v = (do
      let ov ← holding [v] (eval o X.env)
      let iv ← holding [v, ov] (eval i X.env)
      standAt pos
      holding [v, ov, iv] (setItem ov iv v)
      release [v, ov, iv] []) := by intro _; rfl) : PG X (.Subscript o i pos) (gSub to ti t) := by
  intro pins s σ H v u Q I r h
  rw [ha]
  refine wpAny_bind (wpAny_holding (thn (ho pins s σ H _ I h) fun ov s1 ⟨x, H1, I1, r1, q1⟩ => ?_))
  refine wpAny_bind (wpAny_holding (thn (hi pins s1 σ H1 _ I1 q1) fun iv s2 ⟨y, H2, I2, r2, q2⟩ => ?_))
  refine wpAny_bind (wpAny_standAt (wpAny_bind (wpAny_holding (thn (hs pins s2 σ H2 x y v ov iv u _ I2 r1 r2 r q2) fun _ s3 ⟨H3, I3, q3⟩ => ?_))))
  exact wpAny_release ⟨σ, H3, I3, q3⟩
/-- target = value -/
def tAsg (te : TE) (g : TG) : TS := fun D σ H => te σ H fun x H1 => g x σ H1 D.nx
theorem ps_asg {tg e : Expr} {te : TE} {g : TG} (he : PE X e te) (hg : PG X tg g) (hs : swapsWithSole [tg] e pos.line X.env = pure false := by rfl) (hw : swappedStores [tg] e X.env = pure none := by rfl)
    (h1 : (assignEach [tg] X.env).map (·.2) = [assign tg X.env] := by rfl) : PS X (.Assign [tg] e pos) (tAsg te g) := by
  intro pins s σ H D I h
  refine wpAny_Assign_stores (thn (he pins s σ H _ I h) fun v s1 ⟨x, H1, I1, r1, q1⟩ => ?_) hs hw
  rw [h1]
  exact thn (hg pins s1 σ H1 x v _ I1 r1 q1) fun _ s2 q => q
/-- name = value -/
theorem ps_set {i : Nat} {x : Str} {e : Expr} {te : TE} {pos' : Pos} (hN : X.N.Nodup) (hi : X.N[i]? = some x) (hx : Loc X.env.scope x) (he : PE X e te) (hs : swapsWith e (some (.Name x pos')) pos.line X.env = pure false := by rfl) (hf : X.fn x = true ∨ X.env.scope.names.lookup x = some .local := by first | exact .inl rfl | exact .inr rfl | assumption) :
    PS X (.Assign [.Name x pos'] e pos) (tAsg te (gName i)) := by
  intro pins s σ H D I h
  refine wpAny_Assign_Name (thn (he pins s σ H _ I h) fun v s1 ⟨y, H1, I1, r1, q1⟩ => ?_) hs
  exact store_ok I1 hN hi hx r1 (fun s2 I2 => ⟨_, H1, I2, q1⟩) hf
end

/-! ### while -/
section
variable {X : Cx} {pos : Pos}
end

/-! ### what a loop or a comprehension walks -/
/-- at turn i: it yields x (the heap may grow), or it stops -/
structure It where
  go : Nat → Hp → Prop
  yld : Nat → Hp → V → Hp → Prop
  stop : Nat → Hp → Prop
/-- the iterator's own objects may turn: they are not the frame's, not pinned, younger than the entry (or a comprehension's own) -/
def FpOk (X : Cx) (pins : List (Addr × Obj)) (H : Hp) (b : Addr) : Prop :=
  H b = none ∧ b ≠ X.env.locals ∧ b ∉ X.fs ∧ (b ∈ X.ex ∨ X.s₀.heap.objs.size ≤ b) ∧ (∀ x c, X.env.cells.lookup x = some c → c ≠ b) ∧ ∀ p ∈ X.pn ++ pins, p.1 ≠ b
theorem Inv.fpOk {X : Cx} {pins : List (Addr × Obj)} {σ : St} {H H' : Hp} {s : Shared} {b : Addr} (I : Inv X pins σ H s) (hb : s.heap.objs.size ≤ b) (hn : H' b = none) : FpOk X pins H' b := by
  refine ⟨hn, Nat.ne_of_gt (Nat.lt_of_lt_of_le I.lt hb), I.nofs hb, .inr (Nat.le_trans I.sz hb), fun x c e z => ?_, fun p hp z => ?_⟩
  · obtain ⟨v, q⟩ := I.cell x c e
    exact absurd (Nat.lt_of_lt_of_le q.lt (by rw [z]; exact hb)) (Nat.lt_irrefl _)
  · exact absurd (Nat.lt_of_lt_of_le (Heap.lt_size (I.pin p hp).1) (by rw [z]; exact hb)) (Nat.lt_irrefl _)
structure Turn (P : Program) (w : World) (K : PySem.W.Frag) (tg : Expr) (J : It) (fp : List Addr) (it : Addr) (tn : Nat → Heap → Prop) : Prop where
  mem : it ∈ fp
  obj : ∀ i h, tn i h → ∀ b ∈ fp, ∃ o, h.get? b = some o ∧ ∀ v, o.data ≠ .cell v
  keep : ∀ i h h', tn i h → (∀ b ∈ fp, ∀ o, h.get? b = some o → h'.get? b = some o) → tn i h'
  item : ∀ (X : Cx), X.prog = P → X.w = w → X.K = K → X.calm = true → ∀ (i : Nat) (pins : List (Addr × Obj)) (s : Shared) (σ : St) (H : Hp) (E : Value → Shared → Prop), Inv X pins σ H s → (∀ b ∈ fp, FpOk X pins H b) → tn i s.heap → J.go i H →
    wpAny (model P w) X.A (pyNext (.ref it)) (fun r s1 => ∃ u, r = some u ∧
      wpAny (model P w) X.A (letOwnedTupleGo tg (.ref it) u) (fun _ s2 => ∃ x H', Inv X pins σ H' s2 ∧ RelV x u ∧ J.yld i H x H' ∧ tn (i + 1) s2.heap ∧ ∀ b ∈ fp, H' b = none) E s1) E s
  done : ∀ (X : Cx), X.prog = P → X.w = w → X.K = K → X.calm = true → ∀ (i : Nat) (pins : List (Addr × Obj)) (s : Shared) (σ : St) (H : Hp) (E : Value → Shared → Prop), Inv X pins σ H s → (∀ b ∈ fp, FpOk X pins H b) → tn i s.heap → J.stop i H →
    wpAny (model P w) X.A (pyNext (.ref it)) (fun r s1 => r = none ∧ Inv X pins σ H s1) E s
  self : ∀ (A : Around) (i : Nat) (s : Shared) (Q : Value → Shared → Prop) (E : Value → Shared → Prop), tn i s.heap → Q (.ref it) s → wpAny (model P w) A (pyIter (.ref it)) Q E s
abbrev TI := St → Hp → (It → Hp → Prop) → Prop
/-- an iterator has come -/
def PIE (X : Cx) (pins : List (Addr × Obj)) (σ : St) (tg : Expr) (R : It → Hp → Prop) (itv : Value) (s2 : Shared) : Prop :=
  ∃ (it : Addr) (fp : List Addr) (tn : Nat → Heap → Prop) (J : It) (H' : Hp), itv = .ref it ∧ Inv X pins σ H' s2 ∧ Turn X.prog X.w X.K tg J fp it tn ∧ tn 0 s2.heap ∧ (∀ b ∈ fp, FpOk X pins H' b) ∧ R J H'
def PI (X : Cx) (tg iter : Expr) (wi : TI) : Prop :=
  ∀ (pins : List (Addr × Obj)) (s : Shared) (σ : St) (H : Hp) (R : It → Hp → Prop), Inv X pins σ H s → wi σ H R →
    wpAny (model X.prog X.w) X.A (eval iter X.env) (fun v s1 => wpAny (model X.prog X.w) X.A (pyIter v) (PIE X pins σ tg R) X.xe s1) X.xe s

/-- the step ahead of the store is nothing for an iterator that keeps no tuple -/
theorem go_of {M : Model} {A : Around} {E : Value → Shared → Prop} {s : Shared} {tg : Expr} {it : Addr} {u : Value} {o : Obj} {n : String} {vs : Array Value} {Q : Unit → Shared → Prop} (ho : s.heap.get? it = some o) (hc : o.cls = .type n) (hd : o.data = .fields vs)
    (hn : ["enumerate", "zip", "dict_itemiterator", "dict_reverseitemiterator", "odict_iterator", "itertools.zip_longest", "itertools.pairwise"].contains n = false) (hQ : Q () s) : wpAny M A (letOwnedTupleGo tg (.ref it) u) Q E s := by
  unfold letOwnedTupleGo
  cases tg <;> first
    | exact wpAny_pure hQ
    | (cases u <;> first
        | exact wpAny_pure hQ
        | (refine wpAny_bind (wpAny_load ho ?_)
           rw [hc, hd]
           show wpAny M A (if (["enumerate", "zip", "dict_itemiterator", "dict_reverseitemiterator", "odict_iterator", "itertools.zip_longest", "itertools.pairwise"].contains n && vs[0]? == some (rawInt _)) = true then _ else _) Q E s
           rw [if_neg (by intro h; rw [hn, Bool.false_and] at h; cases h)]
           exact wpAny_pure hQ))

/-- the list at a, as it stands at each turn (a loop may append to it) -/
def Itl (K : PySem.W.Frag) (a : Addr) : It :=
  ⟨fun i H => ∃ xs x, SqL K H a xs ∧ xs[i]? = some x, fun i H x H' => H' = H ∧ ∀ xs, SqL K H a xs → xs[i]? = some x, fun i H => ∃ xs, SqL K H a xs ∧ xs.length ≤ i⟩
def Itt (K : PySem.W.Frag) (a : Addr) : It :=
  ⟨fun i H => ∃ xs x, SqT K H a xs ∧ xs[i]? = some x, fun i H x H' => H' = H ∧ ∀ xs, SqT K H a xs → xs[i]? = some x, fun i H => ∃ xs, SqT K H a xs ∧ xs.length ≤ i⟩
/-- lo, lo + 1, .. (n of them) -/
def Itr (lo : Int) (n : Nat) : It := ⟨fun i _ => i < n, fun i H x H' => H' = H ∧ x = .int (lo + i), fun i _ => n ≤ i⟩
theorem turn_list {P : Program} {w : World} {K : PySem.W.Frag} {tg : Expr} (a it : Addr) : Turn P w K tg (Itl K a) [it] it (fun i h => h.IsListIter it a i) where
  mem := by simp
  obj := fun i h st b hb => by
    have e : b = it := by simpa using hb
    subst e
    obtain ⟨o, e, c, d⟩ := st
    exact ⟨o, e, fun v z => by rw [d] at z; cases z⟩
  keep := fun i h h' st k => st.at fun o e => k it (by simp) o e
  item := by
    intro X hP hw hK hc i pins s σ H E I hf st hg
    subst hP hw hK
    obtain ⟨xs, x, hq, hx⟩ := hg
    obtain ⟨its, rv, p, hz⟩ := I.list hq
    obtain ⟨u, hu, ru⟩ := rv.get hx
    obtain ⟨f0, f1, f2, f3, f4, f5⟩ := hf it (by simp)
    refine wpAny_pyNext_list_item st p.isList (x := u) (by simpa using hu) fun h' st' sb => ?_
    have I1 : Inv X pins σ H { s with heap := h' } := I.turned (t' := s.toks) (fun b o hb e => (sb.2 b hb).trans e) f0 f1 f3 f4 f5
    obtain ⟨o, e, c, d⟩ := id st'
    exact ⟨u, rfl, go_of (s := { s with heap := h' }) e c d (by decide) ⟨x, H, I1, ru, ⟨rfl, fun ys hy => by rw [I.list_inj hy hq]; exact hx⟩, st', fun b hb => (hf b hb).1⟩⟩
  done := by
    intro X hP hw hK hc i pins s σ H E I hf st hg
    subst hP hw hK
    obtain ⟨xs, hq, hx⟩ := hg
    obtain ⟨its, rv, p, hz⟩ := I.list hq
    obtain ⟨f0, f1, f2, f3, f4, f5⟩ := hf it (by simp)
    have hl := rv.length
    exact wpAny_pyNext_list_end (I.ok.hd hc) st p.isList (by simp; omega) fun h' eb => ⟨rfl, I.turned (t' := s.toks) (fun b o hb e => eb b o hb e) f0 f1 f3 f4 f5⟩
  self := fun _ _ _ _ _ st h => wpAny_pyIter_listiter st h
theorem turn_range {P : Program} {w : World} {K : PySem.W.Frag} {tg : Expr} (it : Addr) (lo : Int) (n : Nat) : Turn P w K tg (Itr lo n) [it] it (fun i h => IsRangeIter h it (lo + (i : Nat) * 1) ((n : Int) - (i : Nat)) 1) where
  mem := by simp
  obj := fun i h st b hb => by
    have e : b = it := by simpa using hb
    subst e
    exact ⟨_, st, fun v z => by
      have z' : Data.fields _ = Data.cell v := z
      cases z'⟩
  keep := fun i h h' st k => k it (by simp) _ st
  item := by
    intro X hP hw hK hc i pins s σ H E I hf st hg
    subst hP hw hK
    obtain ⟨f0, f1, f2, f3, f4, f5⟩ := hf it (by simp)
    have W := Walks.range (prog := X.prog) (w := X.w) (I.ok.hd hc) it lo 1 n
    refine W.item i s _ _ hg st fun v h' tk hv st' kk => ?_
    obtain ⟨t, rfl⟩ := hv
    have I1 : Inv X pins σ H { s with heap := h', toks := tk } := I.turned (fun b o hb e => kk b o (by simpa using hb) e) f0 f1 f3 f4 f5
    refine ⟨_, rfl, go_of (s := { s with heap := h', toks := tk }) (n := "range_iterator") st' rfl rfl (by decide) ⟨.int (lo + i), H, I1, ⟨t, ?_⟩, ⟨rfl, rfl⟩, st', fun b hb => (hf b hb).1⟩⟩
    rw [Int.mul_one]
  done := by
    intro X hP hw hK hc i pins s σ H E I hf st hg
    subst hP hw hK
    obtain ⟨f0, f1, f2, f3, f4, f5⟩ := hf it (by simp)
    exact wpAny_pyNext_range_end (I.ok.hd hc) st (by have : n ≤ i := hg; omega) fun h' eb => ⟨rfl, I.turned (t' := s.toks) (fun b o hb e => eb b o hb e) f0 f1 f3 f4 f5⟩
  self := fun _ _ _ _ _ st h => wpAny_pyIter_rangeiter st h
end L2

namespace L2
open PySem PySem.Spec PyProof.Rows
section
variable {X : Cx} {tg : Expr}
def iList (K : PySem.W.Frag) (tl : TE) : TI := fun σ H R => tl σ H fun x H1 => ∃ a, x = .ref a ∧ (∃ xs, SqL K H1 a xs) ∧ R (Itl K a) H1
def iTup (K : PySem.W.Frag) (tl : TE) : TI := fun σ H R => tl σ H fun x H1 => ∃ a, x = .ref a ∧ (∃ xs, SqT K H1 a xs) ∧ R (Itt K a) H1
theorem pi_list {l : Expr} {tl : TE} (hl : PE X l tl) : PI X tg l (iList X.K tl) := by
  intro pins s σ H R I h
  refine thn (hl pins s σ H _ I h) fun v s1 ⟨x, H1, I1, r1, q1⟩ => ?_
  obtain ⟨a, e, ⟨xs, hq⟩, q⟩ := q1
  subst e
  cases r1
  obtain ⟨its, rv, p, hz⟩ := I1.list hq
  refine wpAny_pyIter_list p.isList ?_
  refine ⟨s1.heap.objs.size, [s1.heap.objs.size], _, _, H1, rfl, I1.kept (t' := s1.toks) fun b o e => Heap.get?_push_of_some _ e, turn_list a _, ⟨_, Heap.get?_push_size _ rfl, rfl, rfl⟩, fun b hb => ?_, q⟩
  have e : b = s1.heap.objs.size := by simpa using hb
  subst e
  exact I1.fpOk (Nat.le_refl _) (I1.hok.fresh (Nat.le_refl _))
/-- a range object just made, walked -/
theorem range_it {pins : List (Addr × Obj)} {σ : St} {H : Hp} {s : Shared} {R : It → Hp → Prop} {E : Value → Shared → Prop} {lo hi : Int} {t u v : Tok} {tk : Nat} (I : Inv X pins σ H s) (h1 : -(2 ^ 62) ≤ lo) (h2 : lo < 2 ^ 62) (h3 : -(2 ^ 62) ≤ hi) (h4 : hi < 2 ^ 62)
    (q : R (Itr lo (hi - lo).toNat) H) : wpAny (model X.prog X.w) X.A (pyIter (.ref s.heap.objs.size)) (PIE X pins σ tg R) E { s with heap := s.heap.push { cls := .type "range", data := .fields #[.int lo t, .int hi u, .int 1 v] }, toks := tk } := by
  refine wpAny_pyIter_range (IsRange.new ..) (small_one h1 h2 h3 h4) ?_
  have I1 : Inv X pins σ H { s with heap := s.heap.push { cls := .type "range", data := .fields #[.int lo t, .int hi u, .int 1 v] }, toks := tk } := I.kept fun b o e => Heap.get?_push_of_some _ e
  refine ⟨(s.heap.push { cls := .type "range", data := .fields #[.int lo t, .int hi u, .int 1 v] }).objs.size, [(s.heap.push { cls := .type "range", data := .fields #[.int lo t, .int hi u, .int 1 v] }).objs.size], _, _, H, rfl,
    I1.kept (t' := tk) fun b o e => Heap.get?_push_of_some _ e, turn_range _ lo (hi - lo).toNat, ?_, fun b hb => ?_, q⟩
  · have e1 : lo + ((0 : Nat) : Int) * 1 = lo := by simp
    have e2 : (((hi - lo).toNat : Nat) : Int) - ((0 : Nat) : Int) = Builtin.Range.rangeSize lo hi 1 := by rw [rangeSize_one]; split <;> omega
    show IsRangeIter _ _ (lo + ((0 : Nat) : Int) * 1) ((((hi - lo).toNat : Nat) : Int) - ((0 : Nat) : Int)) 1
    rw [e1, e2]
    exact Heap.get?_push_size _ rfl
  · have e : b = (s.heap.push { cls := .type "range", data := .fields #[.int lo t, .int hi u, .int 1 v] }).objs.size := by simpa using hb
    subst e
    exact I1.fpOk (Nat.le_refl _) (I1.hok.fresh (Nat.le_refl _))
def iRng1 (ta : TA) : TI := fun σ H R => ta σ H fun vs H1 => ∃ j : Int, vs = [.int j] ∧ -(2 ^ 62) ≤ j ∧ j < 2 ^ 62 ∧ R (Itr 0 j.toNat) H1
theorem pi_range1 {a : Expr} {ta : TA} {p pos : Pos} (hg : Gl X "range") (hm : X.mg "range" = none) (ha : PA X [a] ta) (hs : starEach [a] X.env = [(false, eval a X.env)] := by rfl) : PI X tg (.Call (.Name "range" p) [a] [] pos) (iRng1 ta) := by
  intro pins s σ H R I h
  refine Call_ (ld_blt I hg hm boot_range (PyProof.Rows.callWith_type1 (thn (ha pos pins s σ H _ I h) fun us s1 ⟨vs, H1, I1, r1, q1⟩ => ?_) hs rfl))
  obtain ⟨j, e, q1, q2, q⟩ := q1
  subst e
  cases r1 with
  | cons r rr =>
    cases rr
    obtain ⟨t, rfl⟩ := r
    exact call_range_1 (range_it I1 (by omega) (by omega) q1 q2 (by simpa using q))
/-! ### for -/
/-- W: the invariant by the turn and a measure; N: what the body is to reach -/
def tFor (wi : TI) (g : TG) (tb : TS) : TS := fun D σ H => wi σ H fun J H1 => ∃ W : Nat → Nat → St → Hp → Prop, (∃ m, W 0 m σ H1) ∧ ∀ i m σ H, W i m σ H →
  (J.stop i H ∧ D.nx σ H) ∨ (J.go i H ∧ ∃ N : St → Hp → Prop, (∀ σ' H', N σ' H' → ∃ m', m' < m ∧ W (i + 1) m' σ' H') ∧ ∀ x H', J.yld i H x H' → g x σ H' fun σ2 H2 => tb { D with nx := N, ct := N, bk := D.nx } σ2 H2)
/-- the records at fp as they stand -/
def pinsAt (fp : List Addr) (h : Heap) : List (Addr × Obj) := fp.filterMap fun b => (h.get? b).map fun o => (b, o)
theorem mem_pinsAt {fp : List Addr} {h : Heap} {b : Addr} {o : Obj} (hb : b ∈ fp) (e : h.get? b = some o) : (b, o) ∈ pinsAt fp h := List.mem_filterMap.mpr ⟨b, hb, by rw [e]; rfl⟩
theorem of_pinsAt {fp : List Addr} {h : Heap} {p : Addr × Obj} (hp : p ∈ pinsAt fp h) : p.1 ∈ fp ∧ h.get? p.1 = some p.2 := by
  obtain ⟨b, hb, e⟩ := List.mem_filterMap.mp hp
  cases q : h.get? b with
  | none => rw [q] at e; cases e
  | some o =>
    rw [q] at e
    have e' : (b, o) = p := Option.some.inj e
    subst e'
    exact ⟨hb, q⟩
theorem Inv.pinned {pins : List (Addr × Obj)} {σ : St} {H : Hp} {s : Shared} {fp : List Addr} (I : Inv X pins σ H s) (hf : ∀ b ∈ fp, FpOk X pins H b) (ho : ∀ b ∈ fp, ∃ o, s.heap.get? b = some o ∧ ∀ v, o.data ≠ .cell v) : Inv X (pins ++ pinsAt fp s.heap) σ H s :=
  I.pins_of fun p hp => (List.mem_append.mp hp).elim (fun z => I.pin p (List.mem_append_right _ z)) fun z => by
    obtain ⟨hb, e⟩ := of_pinsAt z
    obtain ⟨f0, f1, f2, _⟩ := hf p.1 hb
    obtain ⟨o, e', d⟩ := ho p.1 hb
    rw [e] at e'; cases e'
    exact ⟨e, f0, f1, f2, d⟩
theorem Inv.unpinned {pins pl : List (Addr × Obj)} {σ : St} {H : Hp} {s : Shared} (I : Inv X (pins ++ pl) σ H s) : Inv X pins σ H s := I.pins_of fun p hp => I.pin p (List.mem_append_right _ (List.mem_append_left _ hp))
theorem ps_for {iter : Expr} {body : List Stmt} {wi : TI} {g : TG} {tb : TS} {pos : Pos} (hp : PassesOwn (model X.prog X.w) X.A X.env X.xe) (hc : X.calm = true) (hi : PI X tg iter wi) (hg : PG X tg g) (hb : PSs X body tb)
    (hs : ∀ x, foldedSetIterable iter X.env x = pure x := by intro _; rfl) : PS X (.For tg iter body [] pos) (tFor wi g tb) := by
  intro pins s σ H D I h
  refine wpAny_For (thn (hi pins s σ H _ I h) fun v s1 h1 => thn h1 fun itv s2 h2 => ?_) hs
  obtain ⟨it, fp, tn, J, H2, e, I2, T, st2, f2, W, ⟨m0, w0⟩, turn⟩ := h2
  subst e
  -- what stays true of the iterator's objects through the loop
  have stat : ∀ {H' : Hp}, (∀ b ∈ fp, H' b = none) → ∀ b ∈ fp, FpOk X pins H' b := fun hn b hb => ⟨hn b hb, (f2 b hb).2⟩
  refine codeAny_forLoop_any (fun n s' => ∃ i σ' H', Inv X pins σ' H' s' ∧ tn i s'.heap ∧ (∀ b ∈ fp, H' b = none) ∧ W i n σ' H') ?_ m0 ⟨0, σ, H2, I2, st2, fun b hb => (f2 b hb).1, w0⟩
  rintro n s3 ⟨i, σ3, H3, I3, st3, fr3, w3⟩
  rcases turn i n σ3 H3 w3 with ⟨stop, qn⟩ | ⟨go, N, hN, step⟩
  · refine wpAny_passesOwn hp (thn (T.done X rfl rfl rfl hc i pins s3 σ3 H3 X.xe I3 (stat fr3) st3 stop) fun r s4 ⟨hr, I4⟩ => ?_)
    subst hr
    exact wpAny_execs_nil ⟨σ3, H3, I4, qn⟩
  · refine wpAny_passesOwn hp (thn (T.item X rfl rfl rfl hc i pins s3 σ3 H3 X.xe I3 (stat fr3) st3 go) fun r s4 ⟨u, hr, h4⟩ => ?_)
    subst hr
    refine wpAny_passesOwn hp (thn h4 fun _ s5 ⟨x, H5, I5, r5, y5, st5, fr5⟩ => ?_)
    have I5' := I5.pinned (stat fr5) (T.obj _ _ st5)
    refine wpAny_passesOwn hp (thn (hg _ s5 σ3 H5 x u _ I5' r5 (step x H5 y5)) fun _ s6 ⟨σ6, H6, I6, q6⟩ => ?_)
    refine wpAny_passesOwn hp (thn (hb _ s6 σ6 H6 _ I6 q6) fun f s7 q7 => ?_)
    have again : ∀ {σ7 : St} {H7 : Hp}, Inv X (pins ++ pinsAt fp s5.heap) σ7 H7 s7 → N σ7 H7 → ∃ m, m < n ∧ ∃ i σ' H', Inv X pins σ' H' s7 ∧ tn i s7.heap ∧ (∀ b ∈ fp, H' b = none) ∧ W i m σ' H' := fun {σ7 H7} I7 n7 => by
      obtain ⟨m', hm, w7⟩ := hN σ7 H7 n7
      refine ⟨m', hm, i + 1, σ7, H7, I7.unpinned, T.keep _ _ _ st5 fun b hb o e => (I7.pin (b, o) (List.mem_append_right _ (List.mem_append_right _ (mem_pinsAt hb e)))).1, fun b hb => ?_, w7⟩
      obtain ⟨o, e, d⟩ := T.obj _ _ st5 b hb
      exact (I7.pin (b, o) (List.mem_append_right _ (List.mem_append_right _ (mem_pinsAt hb e)))).2.1
    cases f with
    | next => obtain ⟨σ7, H7, I7, n7⟩ := q7; exact again I7 n7
    | cont => obtain ⟨σ7, H7, I7, n7⟩ := q7; exact again I7 n7
    | brk => obtain ⟨σ7, H7, I7, q7⟩ := q7; exact ⟨σ7, H7, I7.unpinned, q7⟩
    | ret v => obtain ⟨x7, σ7, H7, I7, r7, q7⟩ := q7; exact ⟨x7, σ7, H7, I7.unpinned, r7, q7⟩
end

/-! ### the forms one uses -/
/-- over a list that the body leaves as it is -/
theorem for_list {K : PySem.W.Frag} {a : Addr} {xs : List V} {g : TG} {tb : TS} {D : Ends} {σ : St} {H : Hp} (Pv : Nat → St → Hp → Prop) (h0 : Pv 0 σ H) (hl : ∀ i σ H, i ≤ xs.length → Pv i σ H → SqL K H a xs)
    (hs : ∀ i x σ H, xs[i]? = some x → Pv i σ H → g x σ H fun σ2 H2 => tb { D with nx := Pv (i + 1), ct := Pv (i + 1), bk := D.nx } σ2 H2) (hd : ∀ σ H, Pv xs.length σ H → D.nx σ H) :
    ∃ W : Nat → Nat → St → Hp → Prop, (∃ m, W 0 m σ H) ∧ ∀ i m σ H, W i m σ H →
      ((Itl K a).stop i H ∧ D.nx σ H) ∨ ((Itl K a).go i H ∧ ∃ N : St → Hp → Prop, (∀ σ' H', N σ' H' → ∃ m', m' < m ∧ W (i + 1) m' σ' H') ∧ ∀ x H', (Itl K a).yld i H x H' → g x σ H' fun σ2 H2 => tb { D with nx := N, ct := N, bk := D.nx } σ2 H2) := by
  refine ⟨fun i m σ H => m = xs.length - i ∧ i ≤ xs.length ∧ Pv i σ H, ⟨xs.length, by simp, Nat.zero_le _, h0⟩, ?_⟩
  rintro i m σ H ⟨rfl, hi, p⟩
  have q := hl i σ H hi p
  by_cases hlt : i < xs.length
  · refine .inr ⟨⟨xs, xs[i], q, by simp [hlt]⟩, Pv (i + 1), fun σ' H' p' => ⟨xs.length - (i + 1), by omega, rfl, hlt, p'⟩, fun x H' y => ?_⟩
    obtain ⟨e, y⟩ := y
    subst e
    exact hs i x σ _ (y xs q) p
  · have e : i = xs.length := by omega
    subst e
    exact .inl ⟨⟨xs, q, Nat.le_refl _⟩, hd σ H p⟩
theorem for_range {lo : Int} {n : Nat} {g : TG} {tb : TS} {D : Ends} {σ : St} {H : Hp} (Pv : Nat → St → Hp → Prop) (h0 : Pv 0 σ H)
    (hs : ∀ i σ H, i < n → Pv i σ H → g (.int (lo + i)) σ H fun σ2 H2 => tb { D with nx := Pv (i + 1), ct := Pv (i + 1), bk := D.nx } σ2 H2) (hd : ∀ σ H, Pv n σ H → D.nx σ H) :
    ∃ W : Nat → Nat → St → Hp → Prop, (∃ m, W 0 m σ H) ∧ ∀ i m σ H, W i m σ H →
      ((Itr lo n).stop i H ∧ D.nx σ H) ∨ ((Itr lo n).go i H ∧ ∃ N : St → Hp → Prop, (∀ σ' H', N σ' H' → ∃ m', m' < m ∧ W (i + 1) m' σ' H') ∧ ∀ x H', (Itr lo n).yld i H x H' → g x σ H' fun σ2 H2 => tb { D with nx := N, ct := N, bk := D.nx } σ2 H2) := by
  refine ⟨fun i m σ H => m = n - i ∧ i ≤ n ∧ Pv i σ H, ⟨n, by simp, Nat.zero_le _, h0⟩, ?_⟩
  rintro i m σ H ⟨rfl, hi, p⟩
  by_cases hlt : i < n
  · refine .inr ⟨hlt, Pv (i + 1), fun σ' H' p' => ⟨n - (i + 1), by omega, rfl, hlt, p'⟩, fun x H' y => ?_⟩
    obtain ⟨e, y⟩ := y
    subst e y
    exact hs i σ _ hlt p
  · have e : i = n := by omega
    subst e
    exact .inl ⟨Nat.le_refl _, hd σ H p⟩
end L2

namespace L2
open PySem PySem.Spec PyProof.Rows

abbrev R2 := V → V → Hp → VK → Prop
/-- a two-place operation on values: f is binaryOp op, inplaceOp op or compareOp op -/
def OpR (X : Cx) (f : Value → Value → Sem Value) (r : R2) : Prop :=
  ∀ (pins : List (Addr × Obj)) (s : Shared) (σ : St) (H : Hp) (x y : V) (v u : Value) (Q : VK), Inv X pins σ H s → RelV x v → RelV y u → r x y H Q →
    wpAny (model X.prog X.w) X.A (f v u) (EP X pins σ Q) X.xe s
/-- a one-place operation -/
def UnR (X : Cx) (f : Value → Sem Value) (r : V → Hp → VK → Prop) : Prop :=
  ∀ (pins : List (Addr × Obj)) (s : Shared) (σ : St) (H : Hp) (x : V) (v : Value) (Q : VK), Inv X pins σ H s → RelV x v → r x H Q →
    wpAny (model X.prog X.w) X.A (f v) (EP X pins σ Q) X.xe s
/-- a call of a value that is known (a builtin, a type) with values -/
def CallR (X : Cx) (f : Value) (r : List V → Hp → VK → Prop) : Prop :=
  ∀ (pins : List (Addr × Obj)) (s : Shared) (σ : St) (H : Hp) (xs : List V) (us : List Value) (Q : VK), Inv X pins σ H s → Vals xs us → r xs H Q →
    wpAny (model X.prog X.w) X.A (call f us) (EP X pins σ Q) X.xe s
/-- a value's truth -/
def TruR (X : Cx) (r : V → Hp → (Bool → Hp → Prop) → Prop) : Prop :=
  ∀ (pins : List (Addr × Obj)) (s : Shared) (σ : St) (H : Hp) (x : V) (v : Value) (Q : Bool → Hp → Prop), Inv X pins σ H s → RelV x v → r x H Q →
    wpAny (model X.prog X.w) X.A (truthy v) (TP X pins σ Q) X.xe s

def tOp (r : R2) (ta tb : TE) : TE := fun σ H Q => ta σ H fun x H1 => tb σ H1 fun y H2 => r x y H2 Q
def tUn (r : V → Hp → VK → Prop) (ta : TE) : TE := fun σ H Q => ta σ H fun x H1 => r x H1 Q
/-- ints in, under C, and a value out -/
def rI (C : Int → Int → Prop) (g : Int → Int → V) : R2 := fun x y H Q => ∃ i j, x = .int i ∧ y = .int j ∧ C i j ∧ Q (g i j) H
def rI0 (g : Int → Int → V) : R2 := fun x y H Q => ∃ i j, x = .int i ∧ y = .int j ∧ Q (g i j) H
def rU (g : Int → V) : V → Hp → VK → Prop := fun x H Q => ∃ i, x = .int i ∧ Q (g i) H

section
variable {X : Cx} {a b c : Expr} {ta tb tc : TE} {pos : Pos}

theorem binT (ha : PE X a ta) (hb : PE X b tb) {pins : List (Addr × Obj)} {s : Shared} {σ : St} {H : Hp} {R : V → V → Hp → Prop} (I : Inv X pins σ H s)
    (h : ta σ H fun x H1 => tb σ H1 fun y H2 => R x y H2) {Q : Value → Shared → Prop} {f : Value → Value → Sem Value}
    (hf : ∀ v u s2 x y H2, Inv X pins σ H2 s2 → RelV x v → RelV y u → R x y H2 → wpAny (model X.prog X.w) X.A (f v u) Q X.xe s2) :
    wpAny (model X.prog X.w) X.A (eval a X.env) (fun v s₁ => wpAny (model X.prog X.w) X.A (eval b X.env) (fun u s₂ => wpAny (model X.prog X.w) X.A (f v u) Q X.xe s₂) X.xe s₁) X.xe s := by
  refine thn (ha pins s σ H _ I h) fun v s1 ⟨x, H1, I1, r1, q1⟩ => ?_
  refine thn (hb pins s1 σ H1 _ I1 q1) fun u s2 ⟨y, H2, I2, r2, q2⟩ => ?_
  exact hf v u s2 x y H2 I2 r1 r2 q2

theorem pe_op {op : Operator} {r : R2} (ho : OpR X (binaryOp op) r) (ha : PE X a ta) (hb : PE X b tb) : PE X (.BinOp a op b pos) (tOp r ta tb) := by
  intro pins s σ H Q I h
  exact wpAny_BinOp (binT ha hb I h fun v u s2 x y H2 I2 rx ry q => ho pins s2 σ H2 x y v u Q I2 rx ry q)
theorem pe_un {op : UnaryOp} {r : V → Hp → VK → Prop} (ho : UnR X (unaryOp op) r) (ha : PE X a ta) : PE X (.UnaryOp op a pos) (tUn r ta) := by
  intro pins s σ H Q I h
  exact UnaryOp_ (thn (ha pins s σ H _ I h) fun v s1 ⟨x, H1, I1, r1, q1⟩ => ho pins s1 σ H1 x v Q I1 r1 q1)
/-! ### ints -/
theorem opI {f : Value → Value → Sem Value} {C : Int → Int → Prop} {g : Int → Int → Int}
    (rule : ∀ (i j : Int) (t u : Tok) (s : Shared) (Q : Value → Shared → Prop) (E : Value → Shared → Prop), C i j → Q (.int (g i j) s.toks) { s with toks := s.toks + 1 } → wpAny (model X.prog X.w) X.A (f (.int i t) (.int j u)) Q E s) :
    OpR X f (rI C fun i j => .int (g i j)) := by
  intro pins s σ H x y v u Q I rx ry h
  obtain ⟨i, j, rfl, rfl, hc, q⟩ := h
  obtain ⟨t, rfl⟩ := rx
  obtain ⟨t', rfl⟩ := ry
  exact rule i j t t' s _ _ hc ⟨.int (g i j), H, I.tok _, ⟨_, rfl⟩, q⟩
theorem opI0 {f : Value → Value → Sem Value} {g : Int → Int → Int}
    (rule : ∀ (i j : Int) (t u : Tok) (s : Shared) (Q : Value → Shared → Prop) (E : Value → Shared → Prop), Q (.int (g i j) s.toks) { s with toks := s.toks + 1 } → wpAny (model X.prog X.w) X.A (f (.int i t) (.int j u)) Q E s) :
    OpR X f (rI0 fun i j => .int (g i j)) := by
  intro pins s σ H x y v u Q I rx ry h
  obtain ⟨i, j, rfl, rfl, q⟩ := h
  obtain ⟨t, rfl⟩ := rx
  obtain ⟨t', rfl⟩ := ry
  exact rule i j t t' s _ _ ⟨.int (g i j), H, I.tok _, ⟨_, rfl⟩, q⟩
theorem opB0 {f : Value → Value → Sem Value} {g : Int → Int → Bool}
    (rule : ∀ (i j : Int) (t u : Tok) (s : Shared) (Q : Value → Shared → Prop) (E : Value → Shared → Prop), Q (.bool (g i j)) s → wpAny (model X.prog X.w) X.A (f (.int i t) (.int j u)) Q E s) :
    OpR X f (rI0 fun i j => .bl (g i j)) := by
  intro pins s σ H x y v u Q I rx ry h
  obtain ⟨i, j, rfl, rfl, q⟩ := h
  obtain ⟨t, rfl⟩ := rx
  obtain ⟨t', rfl⟩ := ry
  exact rule i j t t' s _ _ ⟨.bl (g i j), H, I, rfl, q⟩

def CDiv (i j : Int) : Prop := 0 < j ∧ j < 1073741824
def CMul (i j : Int) : Prop := (-(2 ^ 64) < i ∧ i < 2 ^ 64) ∨ (-(2 ^ 64) < j ∧ j < 2 ^ 64)
theorem CMul.ok {i j : Int} (h : CMul i j) : IntMulOk i j := by
  rcases h with ⟨h1, h2⟩ | ⟨h1, h2⟩
  · exact .of_left (intBits_le_64 h1 h2)
  · exact .of_right (intBits_le_64 h1 h2)
theorem op_add : OpR X (binaryOp .Add) (rI0 fun i j => .int (i + j)) := opI0 fun _ _ _ _ _ _ _ q => add_int q
theorem op_sub : OpR X (binaryOp .Sub) (rI0 fun i j => .int (i - j)) := opI0 fun _ _ _ _ _ _ _ q => sub_int q
theorem op_mul : OpR X (binaryOp .Mult) (rI CMul fun i j => .int (i * j)) := opI fun _ _ _ _ _ _ _ hc q => mul_int q hc.ok
/-- // by a positive divisor -/
theorem op_fdiv : OpR X (binaryOp .FloorDiv) (rI CDiv fun i j => .int (i / j)) := opI fun i j _ _ _ _ _ hc q => by
  have h1 : (0 : Int) < j := hc.1
  have h2 : j < 1073741824 := hc.2
  exact floordiv_int (by omega) (by rw [Int.fdiv_eq_ediv_of_nonneg i (by omega)]; exact q) (.inl (PyProof.noPylong_small (by omega)))
/-- % by a positive divisor of any size -/
theorem op_mod : OpR X (binaryOp .Mod) (rI (fun _ j => 0 < j) fun i j => .int (i % j)) := opI fun i j _ _ _ _ _ hc q => by
  have h1 : (0 : Int) < j := hc
  exact mod_int' (by omega) (by rw [Int.fmod_eq_emod_of_nonneg i (by omega)]; exact q)
theorem unI {f : Value → Sem Value} {g : Int → Int}
    (rule : ∀ (i : Int) (t : Tok) (s : Shared) (Q : Value → Shared → Prop) (E : Value → Shared → Prop), Q (.int (g i) s.toks) { s with toks := s.toks + 1 } → wpAny (model X.prog X.w) X.A (f (.int i t)) Q E s) :
    UnR X f (rU fun i => .int (g i)) := by
  intro pins s σ H x v Q I rx h
  obtain ⟨i, rfl, q⟩ := h
  obtain ⟨t, rfl⟩ := rx
  exact rule i t s _ _ ⟨.int (g i), H, I.tok _, ⟨_, rfl⟩, q⟩
theorem un_neg : UnR X (unaryOp .USub) (rU fun i => .int (-i)) := unI fun _ _ _ _ _ q => neg_int q
/-! ### bools among ints: n += (a < b) -/
end

/-! ### comparisons -/
/-- the scalars that == tells apart as data does -/
def scal : V → V → Bool
  | .non, .non => true | .non, .int _ => true | .int _, .non => true | .non, .bl _ => true | .bl _, .non => true | .non, .str _ => true | .str _, .non => true
  | .int _, .int _ => true | .bl _, .bl _ => true | .str _, .str _ => true | .byt _, .byt _ => true
  | .int _, .str _ => true | .str _, .int _ => true | .bl _, .str _ => true | .str _, .bl _ => true
  | _, _ => false
def rEq : R2 := fun x y H Q => scal x y = true ∧ Q (.bl (decide (x = y))) H
def rNe : R2 := fun x y H Q => scal x y = true ∧ Q (.bl (!decide (x = y))) H

theorem dec_int {i j : Int} : decide (V.int i = V.int j) = (i == j) := by
  rw [Bool.eq_iff_iff]
  simp
theorem dec_bl {i j : Bool} : decide (V.bl i = V.bl j) = (i == j) := by
  rw [Bool.eq_iff_iff]
  simp
theorem dec_str {i j : Str} : decide (V.str i = V.str j) = (i == j) := by
  rw [Bool.eq_iff_iff]
  simp
theorem dec_byt {i j : Array UInt8} : decide (V.byt i = V.byt j) = (i.toList == j.toList) := by
  rw [Bool.eq_iff_iff]
  cases i
  cases j
  simp

section
variable {X : Cx} {a b c : Expr} {ta tb tc : TE} {pos : Pos}
theorem fin_bl {pins : List (Addr × Obj)} {σ : St} {H : Hp} {s : Shared} {Q : VK} {k k' : Bool} (I : Inv X pins σ H s) (q : Q (.bl k) H) (e : k = k') : EP X pins σ Q (.bool k') s := by
  subst e
  exact ⟨.bl k, H, I, rfl, q⟩
theorem op_eq : OpR X (compareOp .Eq) rEq := by
  intro pins s σ H x y v u Q I rx ry h
  obtain ⟨hs, q⟩ := h
  cases x with
  | non =>
    cases rx
    cases y with
    | non => cases ry; exact PySem.EqNone.eq_none_none (fin_bl I q (by simp))
    | bl j => cases ry; exact PySem.EqNone.eq_none_bool (fin_bl I q (by simp))
    | int j => obtain ⟨t', rfl⟩ := ry; exact PySem.EqNone.eq_none_int (fin_bl I q (by simp))
    | str j => obtain ⟨t', rfl⟩ := ry; exact PySem.EqNone.eq_none_str (fin_bl I q (by simp))
    | _ => exact absurd (show false = true from hs) Bool.false_ne_true
  | bl i =>
    cases rx
    cases y with
    | non => cases ry; exact PySem.EqNone.eq_bool_none (fin_bl I q (by simp))
    | bl j => cases ry; exact eq_bool (fin_bl I q dec_bl)
    | str j => obtain ⟨t', rfl⟩ := ry; exact PySem.EqMixed.eq_bool_str (fin_bl I q (by simp))
    | _ => exact absurd (show false = true from hs) Bool.false_ne_true
  | int i =>
    obtain ⟨t, rfl⟩ := rx
    cases y with
    | non => cases ry; exact PySem.EqNone.eq_int_none (fin_bl I q (by simp))
    | int j => obtain ⟨t', rfl⟩ := ry; exact eq_int (fin_bl I q dec_int)
    | str j => obtain ⟨t', rfl⟩ := ry; exact PySem.EqMixed.eq_int_str (fin_bl I q (by simp))
    | _ => exact absurd (show false = true from hs) Bool.false_ne_true
  | str i =>
    obtain ⟨t, rfl⟩ := rx
    cases y with
    | non => cases ry; exact PySem.EqNone.eq_str_none (fin_bl I q (by simp))
    | bl j => cases ry; exact PySem.EqMixed.eq_str_bool (fin_bl I q (by simp))
    | int j => obtain ⟨t', rfl⟩ := ry; exact PySem.EqMixed.eq_str_int (fin_bl I q (by simp))
    | str j => obtain ⟨t', rfl⟩ := ry; exact eq_str (fin_bl I q dec_str)
    | _ => exact absurd (show false = true from hs) Bool.false_ne_true
  | byt i =>
    obtain ⟨t, rfl⟩ := rx
    cases y with
    | byt j => obtain ⟨t', rfl⟩ := ry; exact PySem.W.eq_bytes (fin_bl I q dec_byt)
    | _ => exact absurd (show false = true from hs) Bool.false_ne_true
  | _ => cases y <;> exact absurd (show false = true from hs) Bool.false_ne_true
theorem op_ne : OpR X (compareOp .NotEq) rNe := by
  intro pins s σ H x y v u Q I rx ry h
  obtain ⟨hs, q⟩ := h
  cases x with
  | non =>
    cases rx
    cases y with
    | non => cases ry; exact PySem.EqNone.ne_none_none (fin_bl I q (by simp))
    | bl j => cases ry; exact PySem.EqNone.ne_none_bool (fin_bl I q (by simp))
    | int j => obtain ⟨t', rfl⟩ := ry; exact PySem.EqNone.ne_none_int (fin_bl I q (by simp))
    | str j => obtain ⟨t', rfl⟩ := ry; exact PySem.EqNone.ne_none_str (fin_bl I q (by simp))
    | _ => exact absurd (show false = true from hs) Bool.false_ne_true
  | bl i =>
    cases rx
    cases y with
    | non => cases ry; exact PySem.EqNone.ne_bool_none (fin_bl I q (by simp))
    | bl j => cases ry; exact ne_bool (fin_bl I q (congrArg not dec_bl))
    | str j => obtain ⟨t', rfl⟩ := ry; exact PySem.EqMixed.ne_bool_str (fin_bl I q (by simp))
    | _ => exact absurd (show false = true from hs) Bool.false_ne_true
  | int i =>
    obtain ⟨t, rfl⟩ := rx
    cases y with
    | non => cases ry; exact PySem.EqNone.ne_int_none (fin_bl I q (by simp))
    | int j => obtain ⟨t', rfl⟩ := ry; exact ne_int (fin_bl I q (congrArg not dec_int))
    | str j => obtain ⟨t', rfl⟩ := ry; exact PySem.EqMixed.ne_int_str (fin_bl I q (by simp))
    | _ => exact absurd (show false = true from hs) Bool.false_ne_true
  | str i =>
    obtain ⟨t, rfl⟩ := rx
    cases y with
    | non => cases ry; exact PySem.EqNone.ne_str_none (fin_bl I q (by simp))
    | bl j => cases ry; exact PySem.EqMixed.ne_str_bool (fin_bl I q (by simp))
    | int j => obtain ⟨t', rfl⟩ := ry; exact PySem.EqMixed.ne_str_int (fin_bl I q (by simp))
    | str j => obtain ⟨t', rfl⟩ := ry; exact ne_str (fin_bl I q (congrArg not dec_str))
    | _ => exact absurd (show false = true from hs) Bool.false_ne_true
  | byt i =>
    obtain ⟨t, rfl⟩ := rx
    cases y with
    | byt j => obtain ⟨t', rfl⟩ := ry; exact PySem.W.ne_bytes (fin_bl I q (congrArg not dec_byt))
    | _ => exact absurd (show false = true from hs) Bool.false_ne_true
  | _ => cases y <;> exact absurd (show false = true from hs) Bool.false_ne_true

theorem op_lt : OpR X (compareOp .Lt) (rI0 fun i j => .bl (decide (i < j))) := opB0 fun _ _ _ _ _ _ _ q => lt_int q
theorem op_le : OpR X (compareOp .LtE) (rI0 fun i j => .bl (decide (i ≤ j))) := opB0 fun _ _ _ _ _ _ _ q => le_int q
theorem op_gt : OpR X (compareOp .Gt) (rI0 fun i j => .bl (decide (j < i))) := opB0 fun _ _ _ _ _ _ _ q => gt_int q
theorem op_ge : OpR X (compareOp .GtE) (rI0 fun i j => .bl (decide (j ≤ i))) := opB0 fun _ _ _ _ _ _ _ q => ge_int q
/-- the one string within the other -/
theorem op_in_str : OpR X (compareOp .In) (fun x y H Q => ∃ i j, x = .str i ∧ y = .str j ∧ Q (.bl (!(Builtin.Str.occurrences j i 0 j.length 1).isEmpty)) H) := by
  intro pins s σ H x y v u Q I rx ry h
  obtain ⟨i, j, rfl, rfl, q⟩ := h
  obtain ⟨t, rfl⟩ := rx
  obtain ⟨t', rfl⟩ := ry
  exact in_str (fin_bl I q rfl)

/-- is None, is not None: the right side a value none -/
theorem op_isN : OpR X (compareOp .Is) (fun x y H Q => y = .non ∧ Q (.bl (decide (x = .non))) H) := by
  intro pins s σ H x y v u Q I rx ry h
  obtain ⟨rfl, q⟩ := h
  cases ry
  refine is_none_gen (fin_bl I q ?_)
  cases x <;> first
    | (cases rx; rfl)
    | (obtain ⟨t, rfl⟩ := rx; rfl)
/-- two rules for one operation: by cases -/
theorem OpR.or {f : Value → Value → Sem Value} {r r' : R2} (h : OpR X f r) (h' : OpR X f r') : OpR X f (fun x y H Q => r x y H Q ∨ r' x y H Q) := by
  intro pins s σ H x y v u Q I rx ry q
  rcases q with q | q
  · exact h pins s σ H x y v u Q I rx ry q
  · exact h' pins s σ H x y v u Q I rx ry q

theorem nomark (b : Expr) {op : CmpOp} (h : op ≠ .In := by decide) (h2 : op ≠ .NotIn := by decide) : behindInMarks op b = false := by
  have e1 : (op == CmpOp.In) = false := by cases op <;> first | rfl | exact absurd rfl h
  have e2 : (op == CmpOp.NotIn) = false := by cases op <;> first | rfl | exact absurd rfl h2
  cases b <;> simp [behindInMarks, e1, e2]
/-- a comparison as a value; hm: nomark b, or (for in, not in) by with_unfolding_all rfl -/
theorem pe_cmpR {op : CmpOp} {r : R2} (ho : OpR X (compareOp op) r) (ha : PE X a ta) (hb : PE X b tb) (hm : behindInMarks op b = false) : PE X (.Compare a [op] [b] pos) (tOp r ta tb) := by
  intro pins s σ H Q I h
  exact wpAny_Compare1 (binT ha hb I h fun v u s2 x y H2 I2 rx ry q => ho pins s2 σ H2 x y v u Q I2 rx ry q) hm
/-- a reading of a value as a test -/
def tTest (t : TE) : TT := fun σ H Q => t σ H fun x H' => ∃ k, x = .bl k ∧ Q k H'
theorem pt_cmpR {op : CmpOp} {r : R2} (ho : OpR X (compareOp op) r) (ha : PE X a ta) (hb : PE X b tb) (hm : behindInMarks op b = false) : PT X (.Compare a [op] [b] pos) (tTest (tOp r ta tb)) := by
  intro pins s σ H Q I h
  refine wpAny_isTrue_Compare1 (thn (ha pins s σ H _ I h) fun v s1 ⟨x, H1, I1, r1, q1⟩ => thn (hb pins s1 σ H1 _ I1 q1) fun u s2 ⟨y, H2, I2, r2, q2⟩ =>
    thn (ho pins s2 σ H2 x y v u _ I2 r1 r2 q2) fun c s3 ⟨z, H3, I3, r3, k, e, q3⟩ => ?_) hm
  subst e
  cases r3
  exact wpAny_truthy_bool ⟨H3, I3, q3⟩
/-- a op1 b op2 c -/
def tChain (r r' : R2) (ta tb tc : TE) : TE := fun σ H Q => ta σ H fun x H1 => tb σ H1 fun y H2 => r x y H2 fun z H3 => ∃ k, z = .bl k ∧
  (if k = true then tc σ H3 fun w' H4 => r' y w' H4 Q else Q (.bl false) H3)
theorem pe_chain {op op' : CmpOp} {r r' : R2} (ho : OpR X (compareOp op) r) (ho' : OpR X (compareOp op') r') (ha : PE X a ta) (hb : PE X b tb) (hc : PE X c tc)
    (hm : lastMarks [op, op'] [b, c] = false := by with_unfolding_all rfl) : PE X (.Compare a [op, op'] [b, c] pos) (tChain r r' ta tb tc) := by
  intro pins s σ H Q I h
  refine Compare_chain (thn (ha pins s σ H _ I h) fun v s1 ⟨x, H1, I1, r1, q1⟩ => chain_link (thn (hb pins s1 σ H1 _ I1 q1) fun u s2 ⟨y, H2, I2, r2, q2⟩ =>
    thn (ho pins s2 σ H2 x y v u _ I2 r1 r2 q2) fun d s3 ⟨z, H3, I3, r3, k, e, q3⟩ => ?_)) hm
  subst e
  cases r3
  refine wpAny_truthy_bool ?_
  cases k with
  | false => exact ite_ff ⟨.bl false, H3, I3, rfl, q3⟩
  | true => exact ite_tt (chain_last (thn (hc pins s3 σ H3 _ I3 q3) fun w' s4 ⟨z', H4, I4, r4, q4⟩ => ho' pins s4 σ H4 y z' u w' Q I4 r2 r4 q4))
theorem pt_chain {op op' : CmpOp} {r r' : R2} (ho : OpR X (compareOp op) r) (ho' : OpR X (compareOp op') r') (ha : PE X a ta) (hb : PE X b tb) (hc : PE X c tc)
    (hm : lastMarks [op, op'] [b, c] = false := by with_unfolding_all rfl) : PT X (.Compare a [op, op'] [b, c] pos) (tTest (tChain r r' ta tb tc)) := by
  intro pins s σ H Q I h
  refine isTrue_chain (thn (ha pins s σ H _ I h) fun v s1 ⟨x, H1, I1, r1, q1⟩ => test_link (thn (hb pins s1 σ H1 _ I1 q1) fun u s2 ⟨y, H2, I2, r2, q2⟩ =>
    thn (ho pins s2 σ H2 x y v u _ I2 r1 r2 q2) fun d s3 ⟨z, H3, I3, r3, k, e, q3⟩ => ?_)) hm
  subst e
  cases r3
  refine wpAny_truthy_bool ?_
  cases k with
  | false =>
    obtain ⟨k', e', q'⟩ := q3
    cases e'
    exact ite_ff ⟨H3, I3, q'⟩
  | true =>
    refine ite_tt (test_last (thn (hc pins s3 σ H3 _ I3 q3) fun w' s4 ⟨z', H4, I4, r4, q4⟩ => thn (ho' pins s4 σ H4 y z' u w' _ I4 r2 r4 q4) fun d' s5 ⟨z2, H5, I5, r5, k2, e2, q5⟩ => ?_))
    subst e2
    cases r5
    exact wpAny_truthy_bool ⟨H5, I5, q5⟩

/-! ### truth -/
/-- a value's truth by the abstract heap -/
def TruV (K : PySem.W.Frag) (x : V) (H : Hp) (k : Bool) : Prop :=
  match x with
  | .non => k = false
  | .bl b => k = b
  | .int i => k = (i != 0)
  | .str y => y.length ≤ sizeLine ∧ k = ((y.length : Int) != 0)
  | .byt y => y.size ≤ sizeLine ∧ k = ((y.size : Int) != 0)
  | .ref p => (∃ xs, SqL K H p xs ∧ k = !xs.isEmpty) ∨ (∃ xs, SqT K H p xs ∧ k = !xs.isEmpty) ∨ ∃ kvs, H p = some (.dK kvs) ∧ k = !kvs.isEmpty
  | _ => False
theorem isEmpty_kv {κ : Type} {kvs : List (κ × V)} {vs : List (κ × Value)} (r : KV kvs vs) : (!vs.isEmpty) = !kvs.isEmpty := by
  cases r <;> rfl
theorem isEmpty_of {xs : List V} {its : List Value} (r : Vals xs its) : (!its.toArray.isEmpty) = !xs.isEmpty := by
  cases r <;> simp
theorem line63 : (sizeLine : Nat) < 2 ^ 63 := by rw [sizeLine_eq]; decide
theorem tru_ok : TruR X (fun x H Q => ∃ k, TruV X.K x H k ∧ Q k H) := by
  intro pins s σ H x v Q I rx h
  obtain ⟨k, e, q⟩ := h
  have hl := line63
  have hs : sizeLine = 16777216 := sizeLine_eq
  cases x with
  | non =>
    cases rx
    have e' : k = false := e
    subst e'
    exact truthy_none ⟨H, I, q⟩
  | bl b =>
    cases rx
    have e' : k = b := e
    subst e'
    exact wpAny_truthy_bool ⟨H, I, q⟩
  | int i =>
    obtain ⟨t, rfl⟩ := rx
    have e' : k = (i != 0) := e
    subst e'
    exact PySem.P.truthy_int ⟨H, I, q⟩
  | str y =>
    obtain ⟨t, rfl⟩ := rx
    obtain ⟨hy, e'⟩ : y.length ≤ sizeLine ∧ k = ((y.length : Int) != 0) := e
    subst e'
    exact PySem.P.truthy_str (by omega) ⟨H, I.tok _, q⟩
  | byt y =>
    obtain ⟨t, rfl⟩ := rx
    obtain ⟨hy, e'⟩ : y.size ≤ sizeLine ∧ k = ((y.size : Int) != 0) := e
    subst e'
    exact PySem.W.truthy_bytes (by omega) ⟨H, I.tok _, q⟩
  | ref p =>
    cases rx
    have e' : (∃ xs, SqL X.K H p xs ∧ k = !xs.isEmpty) ∨ (∃ xs, SqT X.K H p xs ∧ k = !xs.isEmpty) ∨ ∃ kvs, H p = some (.dK kvs) ∧ k = !kvs.isEmpty := e
    rcases e' with ⟨xs, hx, e'⟩ | ⟨xs, hx, e'⟩ | ⟨kvs, hx, e'⟩
    · subst e'
      obtain ⟨its, r, pl, hz⟩ := I.list hx
      have hlen := r.length
      exact wpAny_truthy_list pl.isList (by simp only [List.size_toArray]; omega) ⟨H, I.tok _, by rw [isEmpty_of r]; exact q⟩
    · subst e'
      obtain ⟨its, r, pl, hz⟩ := I.tuple hx
      have hlen := r.length
      exact truthy_tuple pl (by simp only [List.size_toArray]; omega) ⟨H, I.tok _, by rw [isEmpty_of r]; exact q⟩
    · subst e'
      obtain ⟨hz, hS, vs, r, m⟩ : kvs.length ≤ sizeLine ∧ (p == sysModules) = false ∧ ∃ vs, KV kvs vs ∧ s.heap.DictOf (mixKind X.prog X.w) p vs := I.hok p _ hx
      have hlen : kvs.length = vs.length := Paired.length r
      exact wpAny_truthy_dict hS m (by omega) ⟨H, I.tok _, by rw [isEmpty_kv r]; exact q⟩
  | _ => exact (show False from e).elim
/-- any expression whose test is its value's truth (a name, a call, a subscript, a field ..: he by fun _ => rfl) -/
theorem pt_truth (ha : PE X a ta) (he : ∀ whole, isTrue a X.env whole = (do let v ← whole; standAt a.pos; holding [v] (truthy v))) :
    PT X a (fun σ H Q => ta σ H fun x H' => ∃ k, TruV X.K x H' k ∧ Q k H') := by
  intro pins s σ H Q I h
  exact isTrue_plain (thn (ha pins s σ H _ I h) fun v s1 ⟨x, H1, I1, r1, q1⟩ => tru_ok pins s1 σ H1 x v Q I1 r1 q1) (he _)

/-! ### strs and bytes -/
theorem op_add_str : OpR X (binaryOp .Add) (fun x y H Q => ∃ i j, x = .str i ∧ y = .str j ∧ i.length + j.length ≤ sizeLine ∧ Q (.str (i ++ j)) H) := by
  intro pins s σ H x y v u Q I rx ry h
  obtain ⟨i, j, rfl, rfl, hz, q⟩ := h
  obtain ⟨t, rfl⟩ := rx
  obtain ⟨t', rfl⟩ := ry
  exact add_str (fun t' tk => ⟨.str (i ++ j), H, I.tok _, ⟨_, rfl⟩, q⟩) hz
/-! ### scalar builtins, by CallR -/
theorem vals1 {x : V} {us : List Value} (r : Vals [x] us) : ∃ u, us = [u] ∧ RelV x u := by
  cases r with
  | cons r1 r2 => cases r2; exact ⟨_, rfl, r1⟩
theorem vals2 {x y : V} {us : List Value} (r : Vals [x, y] us) : ∃ u w', us = [u, w'] ∧ RelV x u ∧ RelV y w' := by
  cases r with
  | cons r1 r2 =>
    cases r2 with
    | cons r3 r4 => cases r4; exact ⟨_, _, rfl, r1, r3⟩
end
end L2

namespace L2
open PySem PySem.Spec PyProof.Rows

/-! ### an instance, its attributes a map -/
structure ObjM (h : Heap) (x dx C : Addr) (mA : Str → Option Value) : Prop where
  obj : h.get? x = some (PySem.W.instObj C dx)
  ns : h.Ns1 dx mA
  ne : dx ≠ x

theorem lookIn_ns {h : Heap} {dx : Addr} {mA : Str → Option Value} (n : h.Ns1 dx mA) : ∃ od, h.get? dx = some od ∧ ∀ name, PySem.W.lookIn name od = some (mA name) := by
  obtain ⟨o, es, ep, ho, hd, hk, _, hm⟩ := n
  refine ⟨o, ho, fun name => ?_⟩
  have e := hm name
  unfold nsFind findBy at e
  rw [← Array.find?_toList] at e
  unfold PySem.W.lookIn
  rw [hd]
  dsimp only
  split
  · rename_i y q
    rw [q] at e
    exact congrArg some e
  · rename_i q
    rw [q] at e
    have a : es.toList.any (·.refKey) = false := by
      rw [List.any_eq_false]
      intro y hy
      obtain ⟨z, t, hkey⟩ := hk y (Array.mem_toList_iff.mp hy)
      simp [DictEntry.refKey, hkey]
    have a' : ¬ es.toList.any (·.refKey) = true := by rw [a]; exact Bool.false_ne_true
    rw [if_neg a']
    exact congrArg some e

theorem ObjM.look {h : Heap} {x dx C : Addr} {mA : Str → Option Value} (I : ObjM h x dx C mA) : ∃ od, PySem.W.InstAt h x (PySem.W.instObj C dx) C (some od) ∧ ∀ name, PySem.W.lookIn name od = some (mA name) :=
  let ⟨od, ho, hl⟩ := lookIn_ns I.ns
  ⟨od, ⟨I.obj, rfl, rfl, ho⟩, hl⟩

section
variable {prog : Program} {w : World} {A : Around} {E : Value → Shared → Prop} {s : Shared} {K : PySem.W.Frag} {x dx C f : Addr} {mA : Str → Option Value} {name : Str} {v : Value}

theorem get_map {expr : Bool} {Q : Value → Shared → Prop} (X : K.In s.heap) (I : ObjM s.heap x dx C mA) (hg : PySem.W.plainGet K C name = true) (hh : PySem.W.hasDictIn K C = true)
    (ha : PySem.W.findIn K (.ref C) name = some none) (hv : mA name = some v) (hv' : PySem.W.handedIn v = true) (h : Q v { s with toks := s.toks + 1 }) :
    wpAny (model prog w) A (getAttr (.ref x) name expr) Q E s := by
  obtain ⟨od, J, hl⟩ := I.look
  exact PySem.W.get_value X J (PySem.W.plainGet_of hg).1 (PySem.W.findObj_own hh ha rfl (by rw [hl, hv])) hv' h

theorem set_map {ns : List Str} {Q : Unit → Shared → Prop} (X : K.In s.heap) (I : ObjM s.heap x dx C mA)
    (hs : PySem.W.findIn K (.ref C) "__setattr__" = some (some (.builtin "object.__setattr__"))) (hp : PySem.W.plainOver K C = true) (ht : PySem.W.takerIn K C name = some none) (hh : PySem.W.hasDictIn K C = true)
    (hw : PySem.Within mA ns) (hsz : ns.length ≤ sizeLine)
    (h : ∀ h', ObjM h' x dx C (fun y => if y = name then some v else mA y) → Heap.SameBut dx s.heap h' → Q () { s with heap := h', toks := s.toks + 2 }) :
    wpAny (model prog w) A (setAttr (.ref x) name v) Q E s := by
  obtain ⟨od, J, hl⟩ := I.look
  refine PySem.W.set_plain X J hs (PySem.W.osa_open (s := { s with toks := s.toks + 1 }) (r := none) X J hp ht fun b => ?_)
  obtain ⟨cd, hc, hd'⟩ := PySem.W.any_some hh
  have hx : s.heap.get? x = some ⟨.ref C, some dx, .plain, #[]⟩ := I.obj
  refine wpAny_bind (wpAny_pure (wpAny_bind (wpAny_bind (wpAny_loadPart hx (wpAny_bind (PySem.W.Looks.here (s := { s with toks := s.toks + 1 }) (PySem.W.looks_clsIn X hc) ?_))))))
  rw [hd']
  refine wpAny_pure (a := some dx) (wpAny_bind (wpAny_pure (wpAny_bind ?_)))
  refine wpAny_nsSet1 (s := { s with toks := s.toks + 1 }) I.ns fun h' hn2 hs2 => ?_
  obtain ⟨oD, esD, epD, hoD, hdD, hcD⟩ := hn2.count (PySem.Within.cons name v hw)
  refine wpAny_bind (wpAny_lookBehind hoD (by rw [hdD]; exact pastItsLine_dict (Nat.le_trans hcD (by rw [List.length_cons]; omega))) ?_)
  exact wpAny_pure (h _ ⟨(hs2.2 _ (Ne.symm I.ne)).trans I.obj, hn2, I.ne⟩ hs2)

/-- C(..): the dict at the heap's end, the instance behind it; then its __init__ -/
theorem make_map {R : Result → Shared → Prop} {vs : List Value} {kw : List (Str × Value)} (X : K.In s.heap) (hm : PySem.W.makesIn K C = true)
    (hi : PySem.W.findIn K (.ref C) "__init__" = some (some (.ref f))) (hf : PySem.W.typeIn K (.ref f) = some (.type "function"))
    (h : codeAny (model prog w) (A.under (.builtin "type.__call__" ⟨.ref C :: vs, kw⟩)) (.call (.ref f) ⟨.ref (s.heap.objs.size + 1) :: vs, kw⟩) (PySem.W.InitBack (s.heap.objs.size + 1) R)
      { s with heap := (s.heap.push PySem.W.emptyDict).push (PySem.W.instObj C s.heap.objs.size) }) :
    codeAny (model prog w) A (.call (.ref C) ⟨vs, kw⟩) R s := by
  obtain ⟨hh, g, d, t, os⟩ := s
  exact PySem.W.make_core (PySem.W.makes_of X hm) (PySem.W.looks_findIn X hi) (fun self => PySem.W.bind_fn X self hf) (.inl rfl) h
end

/-! ### the attributes as a list of pairs -/
def putF (f : Str) (v : V) : List (Str × V) → List (Str × V)
  | [] => [(f, v)]
  | (g, x) :: r => if g = f then (g, v) :: r else (g, x) :: putF f v r
theorem lookup_putF (f g : Str) (v : V) : ∀ fs : List (Str × V), (putF f v fs).lookup g = if g = f then some v else fs.lookup g
  | [] => by
    show List.lookup g [(f, v)] = _
    by_cases h : g = f
    · have hb : (g == f) = true := beq_iff_eq.mpr h
      simp only [List.lookup, hb, if_pos h]
    · have hb : (g == f) = false := beq_eq_false_iff_ne.mpr h
      simp only [List.lookup, hb, if_neg h]
  | (k, x) :: r => by
    have ih := lookup_putF f g v r
    rw [show putF f v ((k, x) :: r) = (if k = f then (k, v) :: r else (k, x) :: putF f v r) from rfl]
    by_cases hk : k = f
    · rw [if_pos hk]
      by_cases h : g = k
      · have hb : (g == k) = true := beq_iff_eq.mpr h
        simp only [List.lookup, hb, if_pos (h.trans hk)]
      · have hb : (g == k) = false := beq_eq_false_iff_ne.mpr h
        simp only [List.lookup, hb, if_neg (fun e : g = f => h (e.trans hk.symm))]
    · rw [if_neg hk]
      by_cases h : g = k
      · have hb : (g == k) = true := beq_iff_eq.mpr h
        simp only [List.lookup, hb, if_neg (fun e : g = f => hk (h.symm.trans e))]
      · have hb : (g == k) = false := beq_eq_false_iff_ne.mpr h
        simp only [List.lookup, hb]
        exact ih
theorem keys_putF (f : Str) (v : V) : ∀ fs : List (Str × V), f ∈ (putF f v fs).map (·.1) ∧ ∀ g, g ∈ fs.map (·.1) → g ∈ (putF f v fs).map (·.1)
  | [] => ⟨by simp [putF], fun g h => by simp at h⟩
  | (k, x) :: r => by
    obtain ⟨i1, i2⟩ := keys_putF f v r
    rw [show putF f v ((k, x) :: r) = (if k = f then (k, v) :: r else (k, x) :: putF f v r) from rfl]
    by_cases hk : k = f
    · rw [if_pos hk]
      subst hk
      exact ⟨by simp, fun g h => by simpa using h⟩
    · rw [if_neg hk]
      refine ⟨?_, fun g h => ?_⟩
      · rw [List.map_cons]
        exact List.mem_cons_of_mem _ i1
      · rw [List.map_cons] at h ⊢
        rcases List.mem_cons.mp h with e | e
        · exact List.mem_cons.mpr (.inl e)
        · exact List.mem_cons_of_mem _ (i2 g e)
theorem length_putF (f : Str) (v : V) : ∀ fs : List (Str × V), (putF f v fs).length ≤ fs.length + 1
  | [] => by simp [putF]
  | (k, x) :: r => by
    have ih := length_putF f v r
    rw [show putF f v ((k, x) :: r) = (if k = f then (k, v) :: r else (k, x) :: putF f v r) from rfl]
    by_cases hk : k = f
    · rw [if_pos hk, List.length_cons, List.length_cons]; omega
    · rw [if_neg hk, List.length_cons, List.length_cons]; omega

theorem RelO.some_of {v : V} {o : Option Value} (r : RelO (some v) o) : ∃ u, o = some u ∧ RelV v u := by
  cases o with
  | none => exact (show False from r).elim
  | some u => exact ⟨u, rfl, r⟩
theorem handed_of {v : V} {u : Value} (r : RelV v u) : PySem.W.handedIn u = true := by
  cases v with
  | non => cases (show u = Value.none from r); rfl
  | bl b => cases (show u = Value.bool b from r); rfl
  | int i => obtain ⟨t, e⟩ := (show ∃ t, u = Value.int i t from r); cases e; rfl
  | str x => obtain ⟨t, e⟩ := (show ∃ t, u = Value.str x t from r); cases e; rfl
  | byt b => obtain ⟨t, e⟩ := (show ∃ t, u = Value.bytes b t from r); cases e; rfl
  | flt b => obtain ⟨t, e⟩ := (show ∃ t, u = Value.float b t from r); cases e; rfl
  | ref a => cases (show u = Value.ref a from r); rfl
  | ty n => cases (show u = Value.type n from r); rfl

section
variable {P : Program} {w : World} {H H' : Hp} {h h' : Heap} {a C dx : Addr} {fs fs' : List (Str × V)}
theorem ins_get (hok : HOk P w H h) (e : H a = some (.ins C dx fs)) : ∃ mA, ObjM h a dx C mA ∧ (∀ f, RelO (fs.lookup f) (mA f)) ∧ PySem.Within mA (fs.map (·.1)) ∧ fs.length ≤ 1000 ∧ H dx = some (.own a) := by
  obtain ⟨d, z, ne, ob, mA, n, r, q⟩ := (show ObjOk P w H h a (.ins C dx fs) from hok a _ e)
  exact ⟨mA, ⟨ob, n, ne⟩, r, q, z, d⟩
end

/-! ### what of the text a class must have -/
structure Cls (K : PySem.W.Frag) (C : Addr) : Prop where
  pg : PySem.W.plainGet K C Str.empty = true
  hd : PySem.W.hasDictIn K C = true
  po : PySem.W.plainOver K C = true
  sa : PySem.W.findIn K (.ref C) "__setattr__" = some (some (.builtin "object.__setattr__"))
theorem Cls.get {K : PySem.W.Frag} {C : Addr} (c : Cls K C) (f : Str) : PySem.W.plainGet K C f = true := c.pg
/-- no class of it has the name -/
def NoAttr (K : PySem.W.Frag) (C : Addr) (f : Str) : Prop := PySem.W.findIn K (.ref C) f = some none
theorem NoAttr.taker {K : PySem.W.Frag} {C : Addr} {f : Str} (n : NoAttr K C f) : PySem.W.takerIn K C f = some none := by
  unfold PySem.W.takerIn
  rw [show PySem.W.findIn K (.ref C) f = some none from n]
  rfl
/-- a constant of the class -/
structure Con (K : PySem.W.Frag) (C : Addr) (f : Str) (v : V) (u : Value) : Prop where
  at_ : PySem.W.findIn K (.ref C) f = some (some u)
  rel : RelV v u
  get : PySem.W.specialIn K u "__get__" = some none
  cp : PySem.W.copiedNames.contains f = false
/-- a method: a plain def of the class or of one above it -/
structure Meth (K : PySem.W.Frag) (C : Addr) (m : Str) (f : Addr) : Prop where
  at_ : PySem.W.findIn K (.ref C) m = some (some (.ref f))
  fn : PySem.W.isFn K (.ref f) = true
  kp : PySem.W.keepIn K (.ref f) = true

section
variable {X : Cx} {pins : List (Addr × Obj)} {σ : St} {H : Hp} {s : Shared} {a C dx : Addr} {fs : List (Str × V)} {f : Str} {v : V} {A : Around} {E : Value → Shared → Prop}

theorem getattr_ok {b : Bool} {Q : Value → Shared → Prop} (I : Inv X pins σ H s) (e : H a = some (.ins C dx fs)) (c : Cls X.K C) (n : NoAttr X.K C f) (l : fs.lookup f = some v)
    (h : ∀ u s', Inv X pins σ H s' → RelV v u → Q u s') : wpAny (model X.prog X.w) A (getAttr (.ref a) f b) Q E s := by
  obtain ⟨mA, O, r, _, _, _⟩ := ins_get I.hok e
  obtain ⟨u, hu, ru⟩ := RelO.some_of (v := v) (o := mA f) (by rw [← l]; exact r f)
  exact get_map I.kIn O (c.get f) c.hd n hu (handed_of ru) (h u _ (I.tok _) ru)

theorem setattr_ok {y : V} {u : Value} {Q : Unit → Shared → Prop} (I : Inv X pins σ H s) (e : H a = some (.ins C dx fs)) (c : Cls X.K C) (n : NoAttr X.K C f) (hl : fs.length < 1000) (ry : RelV y u)
    (h : ∀ s', Inv X pins σ (upd H a (.ins C dx (putF f y fs))) s' → Q () s') : wpAny (model X.prog X.w) A (setAttr (.ref a) f u) Q E s := by
  obtain ⟨mA, O, r, wi, _, ho⟩ := ins_get I.hok e
  have hz : (fs.map (·.1)).length ≤ sizeLine := by rw [List.length_map, sizeLine_eq]; omega
  refine set_map I.kIn O c.sa c.po n.taker c.hd wi hz fun h' O' sb => h _ ?_
  have hd : ∃ o, h'.get? dx = some o := let ⟨o, _, _, e', _⟩ := O'.ns; ⟨o, e'⟩
  refine I.write (x := a) (e := dx) (by rw [e]; exact True.intro) (.inr ho) (fun b q hb z => (sb.2 b hb).trans z) hd ?_
  refine ⟨by rw [upd_ne O.ne]; exact ho, ?_, O.ne, O'.obj, _, O'.ns, fun g => ?_, fun g hg => ?_⟩
  · have := length_putF f y fs; omega
  · show RelO ((putF f y fs).lookup g) (if g = f then some u else mA g)
    rw [lookup_putF]
    by_cases q : g = f
    · rw [if_pos q, if_pos q]; exact ry
    · rw [if_neg q, if_neg q]; exact r g
  · by_cases q : g = f
    · rw [q]; exact (keys_putF f y fs).1
    · refine (keys_putF f y fs).2 g (wi g fun z => hg ?_)
      show (if g = f then some u else mA g) = none
      rw [if_neg q]; exact z

/-- a new instance, tracked, without attributes -/
theorem Inv.made (I : Inv X pins σ H s) : Inv X pins σ (upd (upd H s.heap.objs.size (.own (s.heap.objs.size + 1))) (s.heap.objs.size + 1) (.ins C s.heap.objs.size []))
    { s with heap := (s.heap.push PySem.W.emptyDict).push (PySem.W.instObj C s.heap.objs.size) } := by
  have e1 : (s.heap.push PySem.W.emptyDict).get? s.heap.objs.size = some PySem.W.emptyDict := Heap.get?_push_size s.heap rfl
  have e2 : ((s.heap.push PySem.W.emptyDict).push (PySem.W.instObj C s.heap.objs.size)).get? (s.heap.objs.size + 1) = some (PySem.W.instObj C s.heap.objs.size) := by
    have := Heap.get?_push_size (s.heap.push PySem.W.emptyDict) (o := PySem.W.instObj C s.heap.objs.size) rfl
    rwa [Heap.size_push] at this
  have e3 : (s.heap.push PySem.W.emptyDict).Ns s.heap.objs.size (fun _ => none) := ⟨PySem.W.emptyDict, #[], _, e1, rfl, (fun e he => absurd he (by simp)), fun _ => rfl⟩
  have I1 := I.laid (a := s.heap.objs.size) (o := .own (s.heap.objs.size + 1)) (h' := s.heap.push PySem.W.emptyDict) (t' := s.toks) (fun b u q => Heap.get?_push_of_some _ q) (Nat.le_refl _) ⟨_, e1⟩
  refine I1.laid (a := s.heap.objs.size + 1) (o := .ins C s.heap.objs.size []) (t' := s.toks) (fun b u q => Heap.get?_push_of_some _ q) (Nat.le_of_eq (Heap.size_push _ _)) ?_
  have ne : s.heap.objs.size ≠ s.heap.objs.size + 1 := Nat.ne_of_lt (Nat.lt_succ_self _)
  refine ⟨by rw [upd_ne ne, upd_same], Nat.zero_le _, ne, e2, fun _ => none, (Heap.Ns1.of_empty e3).at fun o q => Heap.get?_push_of_some _ q, fun _ => True.intro, fun y hy => absurd rfl hy⟩

/-- e.f where nothing but the object is asked: through attributeBase (super) and the last hold -/
theorem attr_of {prog : Program} {w : World} {env : Env} {e : Expr} {f : Str} {pos : Pos} {s : Shared} {Q : Value → Shared → Prop} (hb : attributeBase e f env (eval e env) = eval e env)
    (h : wpAny (model prog w) A (eval e env) (fun o s₁ => wpAny (model prog w) A (getAttr o f true) Q E s₁) E s) : wpAny (model prog w) A (eval (.Attribute e f pos) env) Q E s :=
  Attribute_any_ h (by rw [arm_eval_Attribute, hb])
end

/-! ### readings and rules -/
/-- e.f, an attribute of the instance -/
def tFld (K : PySem.W.Frag) (ta : TE) (f : Str) : TE := fun σ H Q => ta σ H fun x H1 => ∃ a C dx fs v, x = .ref a ∧ H1 a = some (.ins C dx fs) ∧ Cls K C ∧ NoAttr K C f ∧ fs.lookup f = some v ∧ Q v H1
/-- e.f = value -/
def sFld (K : PySem.W.Frag) (ta tv : TE) (f : Str) : TS := fun D σ H => tv σ H fun y H1 => ta σ H1 fun x H2 => ∃ a C dx fs, x = .ref a ∧ H2 a = some (.ins C dx fs) ∧ Cls K C ∧ NoAttr K C f ∧ fs.length < 1000 ∧
  D.nx σ (upd H2 a (.ins C dx (putF f y fs)))
section
variable {X : Cx} {o e value : Expr} {f : Str} {pos pos' tpos : Pos} {ta tv : TE}
theorem pe_fld (he : PE X e ta) (hb : attributeBase e f X.env (eval e X.env) = eval e X.env) : PE X (.Attribute e f pos) (tFld X.K ta f) := by
  intro pins s σ H Q I h
  refine attr_of hb (thn (he pins s σ H _ I h) fun u s1 ⟨x, H1, I1, rx, a, C, dx, fs, v, ex, ea, c, n, l, q⟩ => ?_)
  subst ex
  obtain rfl : u = Value.ref a := rx
  exact getattr_ok I1 ea c n l fun u' s2 I2 ru => ⟨v, H1, I2, ru, q⟩
theorem ps_fld (ha : PE X o ta) (hv : PE X value tv) (hs : swapsWith value (some (.Attribute o f pos')) pos.line X.env = pure false) : PS X (.Assign [.Attribute o f pos'] value pos) (sFld X.K ta tv f) := by
  intro pins s σ H D I h
  refine plainObj_wpAny_Assign_Attribute (thn (hv pins s σ H _ I h) fun u s1 ⟨y, H1, I1, ry, q⟩ => thn (ha pins s1 σ H1 _ I1 q) fun ov s2 ⟨x, H2, I2, rx, a, C, dx, fs, ex, ea, c, n, l, q2⟩ => ?_) hs
  subst ex
  obtain rfl : ov = Value.ref a := rx
  exact setattr_ok I2 ea c n l ry fun s3 I3 => ⟨σ, _, I3, q2⟩
end

/-! ### isinstance -/
section
variable {X : Cx} {pins : List (Addr × Obj)} {σ : St} {H : Hp} {s : Shared} {A : Around} {E : Value → Shared → Prop} {Q : Value → Shared → Prop} {c : Value} {b : Bool}
/-- the type of a value, as the fragment's deciders take it; for an instance its class -/
inductive TyOf (K : PySem.W.Frag) (H : Hp) : V → Value → Prop where
  | non : TyOf K H .non (.type "NoneType")
  | bl (x : Bool) : TyOf K H (.bl x) (.type "bool")
  | int (i : Int) : TyOf K H (.int i) (.type "int")
  | str (x : Str) : TyOf K H (.str x) (.type "str")
  | flt (x : UInt64) : TyOf K H (.flt x) (.type "float")
  | lst {a : Addr} {xs : List V} (e : H a = some (.lst xs)) : TyOf K H (.ref a) (.type "list")
  | frz {a : Addr} {o : Obj} {xs : List V} (e : H a = some (.frz o (.lst xs))) : TyOf K H (.ref a) (.type "list")
  | tup {a : Addr} {xs : List V} (e : H a = some (.tup xs)) : TyOf K H (.ref a) (.type "tuple")
  | dK {a : Addr} {kvs : List (Key × V)} (e : H a = some (.dK kvs)) : TyOf K H (.ref a) (.type "dict")
  | dT {a : Addr} {kvs : List (List Key × V)} (e : H a = some (.dT kvs)) : TyOf K H (.ref a) (.type "dict")
  | ins {a C dx : Addr} {fs : List (Str × V)} (e : H a = some (.ins C dx fs)) (cl : Cls K C) (ha : PySem.W.findIn K (.ref C) "__class__" = some (some (.builtin "object.__class__")))
      (hn : PySem.W.specialIn K (.builtin "object.__class__") "__get__" = some (some (.builtin "getset_descriptor.__get__"))) (htk : PySem.W.takesIn K (.builtin "object.__class__") = some true)
      (hm : PySem.W.mroIn K C (.type "object") = some true) : TyOf K H (.ref a) (.ref C)
/-- isinstance(x, c) for one class c, a built-in or an own one: kitOne's answer -/
theorem isinst_ok {x : V} {u t : Value} (I : Inv X pins σ H s) (rx : RelV x u) (ty : TyOf X.K H x t) (e : PySem.W.kitOne X.K t c = some b) (h : ∀ tk, Q (.bool b) { s with toks := tk }) :
    wpAny (model X.prog X.w) A (call (.builtin "isinstance") [u, c]) Q E s := by
  cases ty with
  | non => cases (show u = Value.none from rx); exact PySem.W.kia_one PySem.W.kitx_none I.kIn True.intro e (fun z => nomatch z) h
  | bl y => cases (show u = Value.bool y from rx); exact PySem.W.kia_one PySem.W.kitx_bool I.kIn True.intro e (fun z => nomatch z) h
  | int i => obtain ⟨t, q⟩ := (show ∃ t, u = Value.int i t from rx); cases q; exact PySem.W.kia_one PySem.W.kitx_int I.kIn True.intro e (fun z => nomatch z) h
  | str y => obtain ⟨t, q⟩ := (show ∃ t, u = Value.str y t from rx); cases q; exact PySem.W.kia_one PySem.W.kitx_str I.kIn True.intro e (fun z => nomatch z) h
  | flt y => obtain ⟨t, q⟩ := (show ∃ t, u = Value.float y t from rx); cases q; exact PySem.W.kia_one PySem.W.kitx_float I.kIn True.intro e (fun z => nomatch z) h
  | @lst a xs ea =>
    cases (show u = Value.ref a from rx)
    obtain ⟨_, _, n, _, h1⟩ := (show ObjOk X.prog X.w H s.heap a (.lst xs) from I.hok a _ ea)
    exact PySem.W.kia_one PySem.W.kitx_list I.kIn ⟨_, h1, rfl⟩ e (fun z => nomatch z) h
  | @frz a ob xs ea =>
    cases (show u = Value.ref a from rx)
    obtain ⟨_, _, _, n, _, h1⟩ := (show ObjOk X.prog X.w H s.heap a (.frz ob (.lst xs)) from I.hok a _ ea)
    exact PySem.W.kia_one PySem.W.kitx_list I.kIn ⟨_, h1, rfl⟩ e (fun z => nomatch z) h
  | @tup a xs ea =>
    cases (show u = Value.ref a from rx)
    obtain ⟨_, _, _, p⟩ := (show ObjOk X.prog X.w H s.heap a (.tup xs) from I.hok a _ ea)
    obtain ⟨o, h1, h2, _⟩ := p
    exact PySem.W.kia_one PySem.W.kitx_tuple I.kIn ⟨o, h1, h2⟩ e (fun z => nomatch z) h
  | @dK a kvs ea =>
    cases (show u = Value.ref a from rx)
    obtain ⟨_, _, vs, _, p⟩ := (show ObjOk X.prog X.w H s.heap a (.dK kvs) from I.hok a _ ea)
    obtain ⟨o, es, ep, h1, h2, _⟩ := p
    exact PySem.W.kia_one PySem.W.kitx_dict I.kIn ⟨o, h1, h2.1⟩ e (fun z => nomatch z) h
  | @dT a kvs ea =>
    cases (show u = Value.ref a from rx)
    obtain ⟨_, _, xs, _, o, es, ep, h1, h2, _⟩ := (show ObjOk X.prog X.w H s.heap a (.dT kvs) from I.hok a _ ea)
    exact PySem.W.kia_one PySem.W.kitx_dict I.kIn ⟨o, h1, h2.1⟩ e (fun z => nomatch z) h
  | @ins a C dx fs ea cl ha hn htk hm =>
    cases (show u = Value.ref a from rx)
    obtain ⟨mA, O, _⟩ := ins_get I.hok ea
    obtain ⟨od, J, _⟩ := O.look
    exact PySem.W.kia_one (PySem.W.kitx_own (cl.get _) cl.hd ha hn htk hm) I.kIn J e (fun z => nomatch z) h
end
end L2

namespace L2
open PySem PySem.Spec PyProof.Rows

/-! ### room -/
structure Room (k : Nat) (A : Around) : Prop where
  hd : A.handled = none
  dp : A.depth + 3 * k + 5 < recursionLimit
  un : A.units + 16 * k + 200 < cLine
theorem Room.mono {j k : Nat} {A : Around} (r : Room k A) (h : j ≤ k) : Room j A := ⟨r.hd, by have := r.dp; omega, by have := r.un; omega⟩
theorem Room.deeper {k : Nat} {A : Around} (r : Room (k + 1) A) (env : Env) : Room k (A.deeper env) :=
  ⟨r.hd, by have := r.dp; show A.depth + 1 + 3 * k + 5 < _; omega, by have := r.un; show A.units + 3 + 16 * k + 200 < _; omega⟩
theorem Room.in1 {k : Nat} {A : Around} (r : Room (k + 1) A) : Room k A.in1 :=
  ⟨r.hd, by have := r.dp; show A.depth + 3 * k + 5 < _; omega, by have := r.un; show A.units + 1 + 16 * k + 200 < _; omega⟩
theorem make_depth {A : Around} {C : Addr} {us : List Value} {kw : List (Str × Value)} : (A.under (.builtin "type.__call__" ⟨.ref C :: us, kw⟩)).depth = A.depth + 1 := by
  first | rfl | simp [Around.under, Code.weight, Code.isCreation, Code.isGuard, Code.isCaller, Code.frames, Code.isFrame, guardIds]
theorem make_units {A : Around} {C : Addr} {us : List Value} {kw : List (Str × Value)} : (A.under (.builtin "type.__call__" ⟨.ref C :: us, kw⟩)).units = A.units + 1 := by
  first | rfl | simp [Around.under, Code.cUnits, Code.frames, Code.isFrame]
theorem Room.make {k : Nat} {A : Around} (r : Room (k + 1) A) (C : Addr) (us : List Value) (kw : List (Str × Value)) : Room k (A.under (.builtin "type.__call__" ⟨.ref C :: us, kw⟩)) :=
  ⟨r.hd, by have := r.dp; rw [make_depth]; omega, by have := r.un; rw [make_units]; omega⟩
theorem Room.depth {k : Nat} {A : Around} (r : Room k A) : A.depth < recursionLimit := by have := r.dp; omega
theorem Room.units {k : Nat} {A : Around} (r : Room k A) : A.units + 64 < cLine := by have := r.un; omega
/-! ### argument lists and displays -/
def tNil : TA := fun _ H Q => Q [] H
def tCons (ta : TE) (tr : TA) : TA := fun σ H Q => ta σ H fun x H1 => tr σ H1 fun xs H2 => Q (x :: xs) H2
section
variable {X : Cx} {e : Expr} {es : List Expr} {te : TE} {t : TA} {pos : Pos}
theorem pa_nil : PA X [] tNil := fun _ _ _ _ H Q I h => Calls.spliced_nil ⟨[], H, I, .nil, h⟩
theorem pa_cons (ha : PE X e te) (hr : PA X es t) (hs : starEach (e :: es) X.env = (false, eval e X.env) :: starEach es X.env := by rfl) : PA X (e :: es) (tCons te t) := by
  intro pos pins s σ H Q I h
  rw [hs]
  show wpAny _ _ (spliced ((false, eval e X.env) :: backTo pos (starEach es X.env))) _ _ s
  refine Calls.spliced_cons (thn (ha pins s σ H _ I h) fun u s1 ⟨x, H1, I1, r1, q1⟩ => ?_)
  exact thn (hr pos pins s1 σ H1 _ I1 q1) fun us s2 ⟨xs, H2, I2, r2, q2⟩ => ⟨x :: xs, H2, I2, .cons r1 r2, q2⟩

/-- a tuple, a list of written items -/
def tTup (t : TA) : TE := fun σ H Q => t σ H fun xs H1 => xs.length ≤ sizeLine ∧ ∀ p, H1 p = none → Q (.ref p) (upd H1 p (.tup xs))
def tLst (t : TA) : TE := fun σ H Q => t σ H fun xs H1 => xs.length ≤ sizeLine ∧ ∀ p, H1 p = none → Q (.ref p) (upd H1 p (.lst xs))
theorem pe_tup {x1} (h : PA X es t) : PE X (.Tuple es x1 pos) (tTup t) := by
  intro pins s σ H Q I hq
  refine wpAny_Tuple_spliced (thn (h pos pins s σ H _ I hq) fun us s1 ⟨xs, H1, I1, r, z, q⟩ => ⟨by rw [← r.length]; exact z, ?_⟩)
  have hf : H1 s1.heap.objs.size = none := I1.hok.fresh (Nat.le_refl _)
  refine ⟨.ref s1.heap.objs.size, upd H1 s1.heap.objs.size (.tup xs), I1.laid (t' := s1.toks) (fun b u e => Heap.get?_push_of_some _ e) (Nat.le_refl _) ?_, rfl, q _ hf⟩
  exact ⟨z, us, r, ⟨_, Heap.get?_push_size _ rfl, rfl, _, rfl⟩⟩
theorem pe_lst (h : PA X es t) : PE X (.List es pos) (tLst t) := by
  intro pins s σ H Q I hq
  refine wpAny_List_spliced (thn (h pos pins s σ H _ I hq) fun us s1 ⟨xs, H1, I1, r, z, q⟩ => ⟨by rw [← r.length]; exact z, ?_⟩)
  have hf : H1 s1.heap.objs.size = none := I1.hok.fresh (Nat.le_refl _)
  refine ⟨.ref s1.heap.objs.size, upd H1 s1.heap.objs.size (.lst xs), I1.laid (t' := s1.toks) (fun b u e => Heap.get?_push_of_some _ e) (Nat.le_refl _) ?_, rfl, q _ hf⟩
  exact ⟨z, us, 0, r, Heap.get?_push_size _ rfl⟩
end

/-! ### what a def promises -/
/-- a def's promise: the bound arguments in the parameters' order, the heap, the wanted end, the wanted exception -/
abbrev Sp := List V → Hp → VK → XK → Prop
/-- how an exception lies behind a call (file 08 gives it): the callers' frames, abstract heap and state ahead of the call, the wish, the exception, the state -/
abbrev CXT := List Env → Hp → Shared → XK → Value → Shared → Prop

/-- the state at a call -/
structure Env0 (P : Program) (w : World) (K : PySem.W.Frag) (mg : Str → Option Value) (base : Heap) (A : Around) (outer : List Env) (s : Shared) (H : Hp) : Prop where
  frames : A.frames = some outer
  mod : Mod K mg base
  bs : ∀ b o, base.get? b = some o → s.heap.get? b = some o ∧ H b = none
  bsz : base.objs.size ≤ s.heap.objs.size
  funs : s.heap.FunFrames base outer
  frf : ∀ b ∈ frs outer, H b = none
  hok : HOk P w H s.heap
  bare : AllBare s.gens
/-- a call's end -/
def CE (outer : List Env) (P : Program) (w : World) (H : Hp) (s : Shared) (Q : VK) (u : Value) (s' : Shared) : Prop :=
  ∃ v H', s'.os = s.os ∧ AllBare s'.gens ∧ Un (frs outer) [] H H' s.heap s'.heap ∧ HOk P w H' s'.heap ∧ RelV v u ∧ Q v H'
def CR (CX : CXT) (outer : List Env) (P : Program) (w : World) (H : Hp) (s : Shared) (Q : VK) (E : XK) (r : Result) (s' : Shared) : Prop :=
  match r with
  | .ok (.ret u) => CE outer P w H s Q u s'
  | .ok _ => False
  | .error e => CX outer H s E e s'
structure FnOk (P : Program) (w : World) (K : PySem.W.Frag) (mg : Str → Option Value) (base : Heap) (CX : CXT) (k : Nat) (f : Addr) (fd : FuncData) (ps : List Str) (sp : Sp) : Prop where
  len : ∀ vs H Q E, sp vs H Q E → vs.length = ps.length
  run : ∀ (A : Around) (outer : List Env) (s : Shared) (H : Hp) (args : Args) (us : List Value) (vs : List V) (Q : VK) (E : XK), Room k A → Env0 P w K mg base A outer s H → BindsTo s fd args (ps.zip us) → Vals vs us → sp vs H Q E →
    codeAny (model P w) A (.call (.ref f) args) (CR CX outer P w H s Q E) s
theorem FnOk.mono {P : Program} {w : World} {K : PySem.W.Frag} {mg : Str → Option Value} {base : Heap} {CX : CXT} {j k : Nat} {f : Addr} {fd : FuncData} {ps : List Str} {sp : Sp} (F : FnOk P w K mg base CX j f fd ps sp) (h : j ≤ k) :
    FnOk P w K mg base CX k f fd ps sp := ⟨F.len, fun A outer s H args us vs Q E hr => F.run A outer s H args us vs Q E (hr.mono h)⟩
theorem Env0.make {P : Program} {w : World} {K : PySem.W.Frag} {mg : Str → Option Value} {base : Heap} {A : Around} {outer : List Env} {s : Shared} {H : Hp} (e : Env0 P w K mg base A outer s H) (C : Addr) (us : List Value) (kw : List (Str × Value)) :
    Env0 P w K mg base (A.under (.builtin "type.__call__" ⟨.ref C :: us, kw⟩)) outer s H := ⟨by first | exact e.frames | (simpa [Around.under, Code.envs, Code.isFrame, pushEnvs] using e.frames), e.mod, e.bs, e.bsz, e.funs, e.frf, e.hok, e.bare⟩
theorem Env0.in1 {P : Program} {w : World} {K : PySem.W.Frag} {mg : Str → Option Value} {base : Heap} {A : Around} {outer : List Env} {s : Shared} {H : Hp} (e : Env0 P w K mg base A outer s H) :
    Env0 P w K mg base A.in1 outer s H := ⟨e.frames, e.mod, e.bs, e.bsz, e.funs, e.frf, e.hok, e.bare⟩

section
variable {X : Cx} {pins : List (Addr × Obj)} {σ : St} {H : Hp} {s s' : Shared}
/-- from a body: what a callee wants -/
theorem Inv.env0 (I : Inv X pins σ H s) : Env0 X.prog X.w X.K X.mg X.base X.A X.stack s H :=
  ⟨I.ok.frames, I.ok.mod, I.bs, Nat.le_trans I.ok.bsz I.sz, I.stack, I.stkFree, I.hok, I.bare⟩
/-- behind a call -/
theorem Inv.after {Q : VK} {u : Value} (I : Inv X pins σ H s) (h : CE X.stack X.prog X.w H s Q u s') : EP X pins σ Q u s' := by
  obtain ⟨v, H', os, bare, un, hok, r, q⟩ := h
  obtain ⟨hh, g, d, t, os'⟩ := s'
  obtain rfl : os' = s.os := os
  exact ⟨v, H', I.call (h' := hh) (g' := g) (d' := d) (t' := t) (ch := []) un hok bare (fun b z => absurd z (by simp)), r, q⟩
end

/-! ### calls -/
/-- f(..): the written arguments, then the defaults dvs; E: what is wanted of an exception -/
def tCall (sp : Sp) (dvs : List V) (E : XK) (t : TA) : TE := fun σ H Q => t σ H fun vs H1 => sp (vs ++ dvs) H1 Q E
/-- C(..): a new instance and its dict, then __init__ -/
def tMake (C : Addr) (sp : Sp) (dvs : List V) (E : XK) (t : TA) : TE := fun σ H Q => t σ H fun vs H1 => ∀ x dx, H1 x = none → H1 dx = none → dx ≠ x →
  sp (.ref x :: (vs ++ dvs)) (upd (upd H1 dx (.own x)) x (.ins C dx [])) (fun v H2 => v = .non ∧ Q (.ref x) H2) E

/-- how the parameters are bound: us the positional arguments, kw the keywords' values by name, ds the defaults that fill up -/
def Binds (K : PySem.W.Frag) (fd : FuncData) (ps : List Str) (ds : List Value) : Prop :=
  ∀ (s : Shared) (us : List Value), K.In s.heap → (us ++ ds).length = ps.length → BindsTo s fd ⟨us, []⟩ (ps.zip (us ++ ds))
/-- every parameter is given -/
theorem Binds.all {K : PySem.W.Frag} {fd : FuncData} {ps : List Str} (h : ∀ us : List Value, us.length = ps.length → bindArgs fd ⟨us, []⟩ = pure (ps.zip us)) : Binds K fd ps [] := fun s us _ hl => by
  rw [List.append_nil] at hl ⊢
  exact .of_eq (h us hl)

/-- an exception of a callee reaches what this body wants of exceptions -/
def Passes (CX : CXT) (X : Cx) (E : XK) : Prop := ∀ (pins : List (Addr × Obj)) (σ : St) (H : Hp) (s : Shared) (e : Value) (s' : Shared), Inv X pins σ H s → CX X.stack H s E e s' → X.xe e s'

section
variable {X : Cx} {CX : CXT} {k : Nat} {f C : Addr} {fd : FuncData} {ps : List Str} {sp : Sp} {dvs : List V} {ds : List Value} {E : XK} {x m : Str} {p pos apos : Pos} {e o : Expr} {es : List Expr} {ta : TE} {t : TA}

/-- the callee runs -/
theorem run_fn {pins : List (Addr × Obj)} {σ : St} {H : Hp} {s : Shared} {Q : VK} {us : List Value} {vs : List V} (F : FnOk X.prog X.w X.K X.mg X.base CX k f fd ps sp) (hr : Room k X.A) (hb : Binds X.K fd ps ds) (hd : Vals dvs ds) (hx : Passes CX X E)
    (I : Inv X pins σ H s) (r : Vals vs us) (h : sp (vs ++ dvs) H Q E) : wpAny (model X.prog X.w) X.A (call (.ref f) us) (EP X pins σ Q) X.xe s := by
  have r2 : Vals (vs ++ dvs) (us ++ ds) := r.append hd
  have hl : (us ++ ds).length = ps.length := by rw [← r2.length]; exact F.len _ _ _ _ h
  refine wpAny_call (codeAny_mono (F.run X.A X.stack s H ⟨us, []⟩ (us ++ ds) (vs ++ dvs) Q E hr I.env0 (hb s us I.kIn hl) r2 h) fun r s' hq => ?_)
  cases r with
  | error e => exact hx pins σ H s e s' I hq
  | ok fl =>
    cases fl with
    | ret u => exact I.after hq
    | next => exact False.elim hq
    | brk => exact False.elim hq
    | cont => exact False.elim hq

theorem pe_call (F : FnOk X.prog X.w X.K X.mg X.base CX k f fd ps sp) (hr : Room k X.A) (hg : Gl X x) (hm : X.mg x = some (.ref f)) (hk : PySem.W.keepIn X.K (.ref f) = true) (hb : Binds X.K fd ps ds) (hd : Vals dvs ds) (hx : Passes CX X E)
    (ha : PA X (e :: es) t) (hdb : (x == ("__debug__" : Str)) = false := by decide) (he : starEach (e :: es) X.env = (false, eval e X.env) :: starEach es X.env := by rfl) (hpl : (backTo pos (starEach es X.env)).any (·.1) = false := by rfl) :
    PE X (.Call (.Name x p) (e :: es) [] pos) (tCall sp dvs E t) := by
  intro pins s σ H Q I h
  refine wpAny_Call_Name_kw (ld_glob I hg hm ?_ hdb)
  refine PySem.W.callWith_K (h₀ := X.base) I.ok.mod.kin hk (thn (ha pos pins s σ H _ I h) fun us s1 ⟨vs, H1, I1, r, q⟩ => ⟨I1.kIn, ?_⟩) he hpl
  exact run_fn F hr hb hd hx I1 r q
/-- what a class must have to be made -/
structure Mk (K : PySem.W.Frag) (C f : Addr) : Prop where
  makes : PySem.W.makesIn K C = true
  init : PySem.W.findIn K (.ref C) "__init__" = some (some (.ref f))
  fn : PySem.W.isFn K (.ref f) = true
  kp : PySem.W.keepIn K (.ref C) = true

theorem run_make {pins : List (Addr × Obj)} {σ : St} {H : Hp} {s : Shared} {Q : VK} {us : List Value} {vs : List V} (M : Mk X.K C f) (F : FnOk X.prog X.w X.K X.mg X.base CX k f fd ps sp) (hr : Room (k + 1) X.A) (hb : Binds X.K fd ps ds) (hd : Vals dvs ds)
    (hx : Passes CX X E) (I : Inv X pins σ H s) (r : Vals vs us)
    (h : ∀ x dx, H x = none → H dx = none → dx ≠ x → sp (.ref x :: (vs ++ dvs)) (upd (upd H dx (.own x)) x (.ins C dx [])) (fun v H2 => v = .non ∧ Q (.ref x) H2) E) :
    wpAny (model X.prog X.w) X.A (call (.ref C) us) (EP X pins σ Q) X.xe s := by
  have hq := h (s.heap.objs.size + 1) s.heap.objs.size (I.hok.fresh (Nat.le_succ _)) (I.hok.fresh (Nat.le_refl _)) (Nat.ne_of_lt (Nat.lt_succ_self _))
  have I2 := Inv.made (C := C) I
  have r2 : Vals (V.ref (s.heap.objs.size + 1) :: (vs ++ dvs)) (Value.ref (s.heap.objs.size + 1) :: (us ++ ds)) := .cons rfl (r.append hd)
  have hl : (Value.ref (s.heap.objs.size + 1) :: us ++ ds).length = ps.length := by
    have e := r2.length
    rw [F.len _ _ _ _ hq] at e
    exact e.symm
  refine wpAny_call (make_map (f := f) I.kIn M.makes M.init (beq_iff_eq.mp M.fn) (codeAny_mono (F.run _ X.stack _ _ ⟨Value.ref (s.heap.objs.size + 1) :: us, []⟩ (Value.ref (s.heap.objs.size + 1) :: (us ++ ds)) _ _ E (hr.make C us [])
    (I2.env0.make C us []) (hb _ (Value.ref (s.heap.objs.size + 1) :: us) I2.kIn hl) r2 hq) fun r s' hq' => ?_))
  cases r with
  | error e => exact hx pins σ _ _ e s' I2 hq'
  | ok fl =>
    cases fl with
    | ret u =>
      obtain ⟨v, H', I3, rv, ev, q3⟩ := I2.after hq'
      subst ev
      exact ⟨rv, ⟨V.ref (s.heap.objs.size + 1), H', I3, rfl, q3⟩⟩
    | next => exact False.elim hq'
    | brk => exact False.elim hq'
    | cont => exact False.elim hq'
theorem pe_make (M : Mk X.K C f) (F : FnOk X.prog X.w X.K X.mg X.base CX k f fd ps sp) (hr : Room (k + 1) X.A) (hg : Gl X x) (hm : X.mg x = some (.ref C)) (hb : Binds X.K fd ps ds) (hd : Vals dvs ds) (hx : Passes CX X E)
    (ha : PA X (e :: es) t) (hdb : (x == ("__debug__" : Str)) = false := by decide) (he : starEach (e :: es) X.env = (false, eval e X.env) :: starEach es X.env := by rfl) (hpl : (backTo pos (starEach es X.env)).any (·.1) = false := by rfl) :
    PE X (.Call (.Name x p) (e :: es) [] pos) (tMake C sp dvs E t) := by
  intro pins s σ H Q I h
  refine wpAny_Call_Name_kw (ld_glob I hg hm ?_ hdb)
  refine PySem.W.callWith_K (h₀ := X.base) I.ok.mod.kin M.kp (thn (ha pos pins s σ H _ I h) fun us s1 ⟨vs, H1, I1, r, q⟩ => ⟨I1.kIn, ?_⟩) he hpl
  exact run_make M F hr hb hd hx I1 r q
end

/-! ### keywords -/
section
variable {X : Cx} {CX : CXT} {k : Nat} {f C : Addr} {fd : FuncData} {ps ks : List Str} {sp : Sp} {E : XK} {x m : Str} {p pos apos kpos : Pos} {e o : Expr} {es : List Expr} {kws : List Keyword} {te ta : TE} {t tk : TA} {nm : Option Str}
/-- how a call with keywords binds: g puts the positional values us and the keywords' values ws (names ks) in the parameters' order, defaults among them -/
structure KBinds (K : PySem.W.Frag) (fd : FuncData) (ps ks : List Str) (g : List Value → List Value → List Value) (gV : List V → List V → List V) : Prop where
  to : ∀ (s : Shared) (us ws : List Value), K.In s.heap → (g us ws).length = ps.length → BindsTo s fd ⟨us, ks.zip ws⟩ (ps.zip (g us ws))
  rel : ∀ {vs : List V} {us : List Value} {zs : List V} {ws : List Value}, Vals vs us → Vals zs ws → Vals (gV vs zs) (g us ws)
variable {g : List Value → List Value → List Value} {gV : List V → List V → List V}
end

/-! ### a def's body keeps its promise -/
/-- names: the parameters first -/
structure FnScope (N P : List Str) (sc : Scope) : Prop where
  kind : sc.kind = .function
  co : sc.isCoroutine = false
  gen : sc.isGenerator = false
  nd : N.Nodup
  pre : N.take P.length = P
  par : ∀ x ∈ P, sc.names.lookup x = some .local ∨ sc.names.lookup x = some .cell
  nofree : ∀ y ∈ sc.names, y.2 ≠ .free

theorem bindL_out {kindOf : Str → Option NameKind} {x : Str} : ∀ {binds : List (Str × Value)} {m : Str → Option Value}, (∀ v, (x, v) ∉ binds) → bindL kindOf binds m x = m x
  | [], _, _ => rfl
  | (n, v) :: r, m, h => by
    unfold bindL
    rw [bindL_out fun w hw => h w (List.mem_cons_of_mem _ hw)]
    split
    · have : x ≠ n := by rintro rfl; exact h v List.mem_cons_self
      simp [this]
    · rfl
theorem bindC_out {kindOf : Str → Option NameKind} {x : Str} : ∀ {binds : List (Str × Value)} {m : Str → Option Value}, (∀ v, (x, v) ∉ binds) → bindC kindOf binds m x = m x
  | [], _, _ => rfl
  | (n, v) :: r, m, h => by
    unfold bindC
    rw [bindC_out fun w hw => h w (List.mem_cons_of_mem _ hw)]
    split
    · rfl
    · have : x ≠ n := by rintro rfl; exact h v List.mem_cons_self
      simp [this]
theorem bindL_get {kindOf : Str → Option NameKind} {x : Str} {v : Value} : ∀ {P : List Str} {vs : List Value} {i : Nat} {m : Str → Option Value}, P.Nodup → P[i]? = some x → vs[i]? = some v → kindOf x = some .local →
    bindL kindOf (P.zip vs) m x = some v
  | [], _, _, _, _, h, _, _ => by simp at h
  | _ :: _, [], _, _, _, _, h, _ => by simp at h
  | p :: P, w :: vs, 0, m, nd, h1, h2, hk => by
    simp at h1 h2; subst h1; subst h2
    show bindL kindOf ((p, w) :: P.zip vs) m p = _
    unfold bindL
    rw [bindL_out fun v hv => (List.nodup_cons.mp nd).1 (List.of_mem_zip hv).1, if_pos hk]
    simp
  | p :: P, w :: vs, i + 1, m, nd, h1, h2, hk => by
    show bindL kindOf ((p, w) :: P.zip vs) m x = _
    unfold bindL
    exact bindL_get (i := i) (List.nodup_cons.mp nd).2 (by simpa using h1) (by simpa using h2) hk
theorem bindC_get {kindOf : Str → Option NameKind} {x : Str} {v : Value} : ∀ {P : List Str} {vs : List Value} {i : Nat} {m : Str → Option Value}, P.Nodup → P[i]? = some x → vs[i]? = some v → kindOf x ≠ some .local →
    bindC kindOf (P.zip vs) m x = some v
  | [], _, _, _, _, h, _, _ => by simp at h
  | _ :: _, [], _, _, _, _, h, _ => by simp at h
  | p :: P, w :: vs, 0, m, nd, h1, h2, hk => by
    simp at h1 h2; subst h1; subst h2
    show bindC kindOf ((p, w) :: P.zip vs) m p = _
    unfold bindC
    rw [bindC_out fun v hv => (List.nodup_cons.mp nd).1 (List.of_mem_zip hv).1, if_neg hk]
    simp
  | p :: P, w :: vs, i + 1, m, nd, h1, h2, hk => by
    show bindC kindOf ((p, w) :: P.zip vs) m x = _
    unfold bindC
    exact bindC_get (i := i) (List.nodup_cons.mp nd).2 (by simpa using h1) (by simpa using h2) hk

/-- the names' values at the entry -/
def start (N : List Str) (vs : List V) : St := vs.map some ++ List.replicate (N.length - vs.length) none

/-- the context of a def's body, at its entry; an exception leaves the frame, then lies as CX says -/
def cxOf (CX : CXT) (P : Program) (w : World) (K : PySem.W.Frag) (mg : Str → Option Value) (base : Heap) (N : List Str) (qual : Str) (scope : Scope) (f : Addr) (cd : Value) (A : Around) (outer : List Env) (s : Shared) (H : Hp) (E : XK) : Cx where
  prog := P
  w := w
  K := K
  mg := mg
  base := base
  A := A.deeper (envOfC qual scope s.heap.objs.size f cd)
  N := N
  s₀ := s
  H₀ := H
  env := envOfC qual scope s.heap.objs.size f cd
  outer := outer
  stack := envOfC qual scope s.heap.objs.size f cd :: outer
  ex := []
  calm := true
  fn := fun _ => true
  pn := []
  xe := fun e s' => wpAny (model P w) (A.deeper (envOfC qual scope s.heap.objs.size f cd)) (leaving (envOfC qual scope s.heap.objs.size f cd) e) (fun _ s'' => CX outer H s E e s'') (fun e' s'' => CX outer H s E e' s'') s'

theorem cell_has {sc : Scope} {n : Nat} {x : Str} (h : sc.names.lookup x = some .cell) : ∃ c, (cellsFrom n sc.names []).lookup x = some c := by
  have q := PySem.W.cellsFrom_some sc.names n [] (.inl h)
  exact Option.isSome_iff_exists.mp q

theorem inv_start {CX : CXT} {P : Program} {w : World} {K : PySem.W.Frag} {mg : Str → Option Value} {base : Heap} {N ps : List Str} {qual : Str} {scope : Scope} {f : Addr} {cd : Value} {A : Around} {outer : List Env} {s s1 : Shared} {H : Hp} {E : XK} {us : List Value} {vs : List V}
    (S : FnScope N ps scope) (hd : A.handled = none) (e0 : Env0 P w K mg base A outer s H) (hl : vs.length = ps.length) (r : Vals vs us)
    (x : InCallC s s.heap.objs.size (bindL (envOfC qual scope s.heap.objs.size f cd).kindOf (ps.zip us) fun _ => none) (cellsFrom (s.heap.objs.size + 1) scope.names []) (bindC (envOfC qual scope s.heap.objs.size f cd).kindOf (ps.zip us) fun _ => none) s1) :
    Inv (cxOf CX P w K mg base N qual scope f cd A outer s H E) [] (start N vs) H s1 := by
  have hpl : ps.length ≤ N.length := by have := congrArg List.length S.pre; rw [List.length_take] at this; omega
  obtain ⟨h1, tk, rfl, hk⟩ := x.done
  have noA : ∀ b : Addr, b ∉ (cxOf CX P w K mg base N qual scope f cd A outer s H E).ex := fun b z => absurd (show b ∈ ([] : List Addr) from z) (by simp)
  refine ⟨⟨e0.mod, S.kind, rfl, rfl, Nat.le_refl _, fun y z c h1 h2 => ?_, fun y hy => ?_, fun y c _ h => ?_, fun _ => hd, Around.frames_deeper e0.frames, .inr ⟨rfl, rfl⟩, fun b z => absurd z (noA b), e0.bs, e0.bsz, fun b _ _ => noA b, fun b z => absurd z (noA b), e0.funs, e0.frf⟩,
    rfl, e0.bare, Un.kept hk, ⟨_, x.toInCall.ns, fun i y v h1 h2 h3 => ?_⟩, fun y c h => ⟨_, x.cell y c h⟩, e0.hok.fresh (Nat.le_refl _), fun y c h => ?_, fun p hp => absurd (show p ∈ ([] : List (Addr × Obj)) from hp) (by simp), e0.hok.kept hk, ?_⟩
  · exact name_of_addr x.apart (PySem.mem_of_lookup h1) (PySem.mem_of_lookup h2)
  · have hy : scope.names.lookup y = some .cell ∨ scope.names.lookup y = some .free := hy
    rcases hy with hy | hy
    · exact cell_has hy
    · exact absurd rfl (S.nofree _ (PySem.mem_of_lookup hy))
  · exact Nat.le_of_lt (x.above y c (PySem.mem_of_lookup h))
  · have hi : i < vs.length := by
      unfold start at h2
      by_cases hi : i < vs.length
      · exact hi
      · rw [List.getElem?_append_right (by simpa using hi)] at h2
        rw [List.getElem?_replicate] at h2
        split at h2 <;> cases h2
    have ha : vs[i]? = some v := by
      unfold start at h2
      rw [List.getElem?_append_left (by simpa using hi), List.getElem?_map] at h2
      cases e : vs[i]? with
      | none => rw [e] at h2; cases h2
      | some a => rw [e] at h2; cases h2; rfl
    obtain ⟨u, hu, rv⟩ := r.get ha
    have hp : ps[i]? = some y := by
      rw [← S.pre, List.getElem?_take_of_lt (by omega)]; exact h1
    have ndP : ps.Nodup := by rw [← S.pre]; exact S.nd.sublist (List.take_sublist _ _)
    refine ⟨u, rv, ?_⟩
    rcases S.par y (List.mem_of_getElem? hp) with k | k
    · exact .inl ⟨k, bindL_get ndP hp hu k⟩
    · obtain ⟨c, e⟩ := cell_has (n := s.heap.objs.size + 1) k
      refine .inr ⟨.inl k, c, e, ?_⟩
      have q := x.cell y c e
      rw [bindC_get ndP hp hu (by show scope.names.lookup y ≠ _; rw [k]; decide)] at q
      exact q
  · exact e0.hok.fresh (Nat.le_of_lt (x.above y c (PySem.mem_of_lookup h)))
  · unfold start
    show _ = N.length
    rw [List.length_append, List.length_map, List.length_replicate]
    omega

/-- THE RULE: a def (or a method) of the text, by its body. The body's reading t is chosen for each entry; it is run at the parameters' values -/
theorem fn_of {CX : CXT} {P : Program} {w : World} {K : PySem.W.Frag} {mg : Str → Option Value} {base : Heap} {k : Nat} {f : Addr} {name qual : Str} {params : Arguments} {body : List Stmt} {scope : Scope} {dV kV doc pm cdv ct oc : Value} {an od : Option Addr}
    {osl : Array (Option Value)} {N ps : List Str} {sp : Sp} (lk : K.lookup f = some ⟨oc, od, .func (PySem.W.fnOf name qual params body scope dV kV doc pm an cdv ct), osl⟩) (hcd : PySem.W.codeIn K cdv qual = true) (S : FnScope N ps scope)
    (len : ∀ vs H Q E, sp vs H Q E → vs.length = ps.length)
    (hbody : ∀ (A : Around) (outer : List Env) (s : Shared) (H : Hp) (vs : List V) (Q : VK) (E : XK), Room k (A.deeper (envOfC qual scope s.heap.objs.size f cdv)) → sp vs H Q E →
      ∃ t, PSs (cxOf CX P w K mg base N qual scope f cdv A outer s H E) body t ∧ t { nx := fun _ H' => Q .non H', rt := Q } (start N vs) H) :
    FnOk P w K mg base CX (k + 1) f (PySem.W.fnOf name qual params body scope dV kV doc pm an cdv ct) ps sp := by
  refine ⟨len, fun A outer s H args us vs Q E hr e0 hb r hsp => ?_⟩
  have hl := len _ _ _ _ hsp
  have KX : K.In s.heap := e0.mod.kin.keeps fun b o e => (e0.bs b o e).1
  have lim : s.heap.NoLimit := e0.mod.nolimit.keeps fun b o e => (e0.bs b o e).1
  have hkind : ∀ y ∈ ps.zip us, scope.names.lookup y.1 = some .local ∨ (scope.names.lookup y.1 = some .cell ∧ ((cellsFrom (s.heap.objs.size + 1) scope.names []).lookup y.1).isSome = true) := fun ⟨n, v⟩ hy => by
    rcases S.par n (List.of_mem_zip hy).1 with q | q
    · exact .inl q
    · exact .inr ⟨q, PySem.W.cellsFrom_some _ _ _ (.inl q)⟩
  refine codeAny_call_function hr.depth (KX _ _ lk) rfl S.co S.gen rfl (PySem.W.codeRec_of KX hcd) (hb _ _ _ _ ?_)
  refine wpAny_newFunctionEnv_cells S.kind hkind fun env he s1 x => ?_
  subst he
  refine ⟨lim.keeps x.toInCall.keep, codeAny_func ?_⟩
  obtain ⟨t, ht, hq⟩ := hbody A outer s H vs Q E (hr.deeper _) hsp
  have I : Inv (cxOf CX P w K mg base N qual scope f cdv A outer s H E) [] (start N vs) H s1 := inv_start S hr.hd e0 hl r x
  refine wpAny_mono (ht [] s1 (start N vs) H _ I hq) (fun fl s' hs => ?_) fun e s' hs => hs
  have fin : ∀ {σ' : St} {H' : Hp} {v : V} {u : Value}, Inv (cxOf CX P w K mg base N qual scope f cdv A outer s H E) [] σ' H' s' → RelV v u → Q v H' → CE outer P w H s Q u s' :=
    fun {σ' H' v u} J rv q => ⟨v, H', J.os, J.bare, J.base, J.hok, rv, q⟩
  cases fl with
  | ret u =>
    obtain ⟨v, σ', H', J, rv, q⟩ := hs
    exact fin J rv q
  | next =>
    obtain ⟨σ', H', J, q⟩ := hs
    exact fin (v := V.non) (u := Value.none) J rfl q
  | brk =>
    obtain ⟨_, _, _, q⟩ := hs
    exact False.elim q
  | cont =>
    obtain ⟨_, _, _, q⟩ := hs
    exact False.elim q
end L2

namespace L2
open PySem PySem.Spec PyProof.Rows
section
variable {X : Cx} {x : Str} {p pos : Pos} {e : Expr} {es : List Expr} {t : TA} {id T : String} {r : List V → Hp → VK → Prop}

def tCB (r : List V → Hp → VK → Prop) (t : TA) : TE := fun σ H Q => t σ H fun vs H1 => r vs H1 Q
/-- f(e, ..), f a built-in function -/
theorem pe_callB (hc : CallR X (.builtin id) r) (hg : Gl X x) (hm : X.mg x = none) (hv : bootBuiltins x = some (.builtin id)) (ha : PA X (e :: es) t) (hn : x ≠ "__name__" := by decide) (hdb : (x == ("__debug__" : Str)) = false := by decide)
    (he : starEach (e :: es) X.env = (false, eval e X.env) :: starEach es X.env := by rfl) (hpl : (backTo pos (starEach es X.env)).any (·.1) = false := by rfl) : PE X (.Call (.Name x p) (e :: es) [] pos) (tCB r t) := by
  intro pins s σ H Q I h
  refine wpAny_Call_Name_kw (ld_blt I hg hm hv ?_ hn hdb)
  exact PyProof.Rows.callWith_builtin1 (thn (ha pos pins s σ H _ I h) fun us s1 ⟨vs, H1, I1, r1, q1⟩ => hc pins s1 σ H1 vs us Q I1 r1 q1) he hpl
/-- T(e, ..), T a built-in type -/
theorem pe_callTy (hc : CallR X (.type T) r) (hg : Gl X x) (hm : X.mg x = none) (hv : bootBuiltins x = some (.type T)) (ha : PA X (e :: es) t) (hn : x ≠ "__name__" := by decide) (hdb : (x == ("__debug__" : Str)) = false := by decide)
    (he : starEach (e :: es) X.env = (false, eval e X.env) :: starEach es X.env := by rfl) (hpl : (backTo pos (starEach es X.env)).any (·.1) = false := by rfl) : PE X (.Call (.Name x p) (e :: es) [] pos) (tCB r t) := by
  intro pins s σ H Q I h
  refine wpAny_Call_Name_kw (ld_blt I hg hm hv ?_ hn hdb)
  exact PyProof.Rows.callWith_type1 (thn (ha pos pins s σ H _ I h) fun us s1 ⟨vs, H1, I1, r1, q1⟩ => hc pins s1 σ H1 vs us Q I1 r1 q1) he hpl
end
end L2

namespace HT
open PySem PyProof.Rows

section
open PySem.SeqAt
open PySem.AutoSeq1 (wpAny_loadPart')
open PySem.MeetsSeq PySem.MeetsSeq2 PySem.MeetsSeq3

end

section
variable {prog : Program} {w : World} {A : Around} {E : Value → Shared → Prop} {s : Shared}

/-! ### t[a:b], not the whole -/
/-- a slice's bound as a place among n (d where it is left out) -/
def sIx (n d : Nat) : Option Int → Nat
  | none => d
  | some v => if v < 0 then (v + (n : Int)).toNat else min v.toNat n
theorem sIx_none (n d : Nat) : sIx n d none = d := rfl
theorem sIx_nat (n d k : Nat) : sIx n d (some (k : Int)) = min k n := by
  show (if (k : Int) < 0 then ((k : Int) + (n : Int)).toNat else min (k : Int).toNat n) = min k n
  rw [if_neg (by omega), Int.toNat_natCast]
end
end HT

namespace L2
open PySem PySem.Spec PyProof.Rows

/-! ### the parts of a slice -/
abbrev TO := St → Hp → (Option Int → Hp → Prop) → Prop
/-- a slice's part (left out, or an int) -/
def PO (X : Cx) (e : Option Expr) (t : TO) : Prop :=
  ∀ (pins : List (Addr × Obj)) (s : Shared) (σ : St) (H : Hp) (Q : Option Int → Hp → Prop), Inv X pins σ H s → t σ H Q →
    wpAny (model X.prog X.w) X.A (evalPart e X.env) (fun u s' => ∃ o H', Inv X pins σ H' s' ∧ IsPart u o ∧ Q o H') X.xe s
def tNoPart : TO := fun _ H Q => Q none H
def tPart (t : TE) : TO := fun σ H Q => t σ H fun x H1 => ∃ i, x = .int i ∧ Q (some i) H1

section
variable {X : Cx} {e : Expr} {te : TE} {lo hi : Option Expr} {tl th : TO} {pos p2 : Pos}

theorem po_none : PO X none tNoPart := by
  intro pins s σ H Q I h
  rw [evalPart_none]
  exact wpAny_pure ⟨none, H, I, .none, h⟩
theorem po_some (h : PE X e te) : PO X (some e) (tPart te) := by
  intro pins s σ H Q I hw
  rw [evalPart_some]
  refine thn (h pins s σ H _ I hw) fun u s1 ⟨x, H1, I1, r1, q1⟩ => ?_
  obtain ⟨i, rfl, q⟩ := q1
  obtain ⟨t, rfl⟩ := r1
  exact ⟨some i, H1, I1, .int i t, q⟩

/-- what a slice of a value is, by values: the slice object stands at sl -/
def SlR (X : Cx) (r : V → Option Int → Option Int → Hp → VK → Prop) : Prop :=
  ∀ (pins : List (Addr × Obj)) (s : Shared) (σ : St) (H : Hp) (x : V) (v vl vu : Value) (lo hi : Option Int) (sl : Addr) (Q : VK), Inv X pins σ H s → RelV x v → s.heap.IsSliceOf sl vl vu .none → IsPart vl lo → IsPart vu hi → r x lo hi H Q →
    ∃ T id, typeLookup (.type T) "__getitem__" = pure (some (.builtin id)) ∧ s.TypeIs v T ∧ wpAny (model X.prog X.w) X.A (getItem v (.ref sl)) (EP X pins σ Q) X.xe s
theorem SlR.or {r r' : V → Option Int → Option Int → Hp → VK → Prop} (h : SlR X r) (h' : SlR X r') : SlR X (fun x lo hi H Q => r x lo hi H Q ∨ r' x lo hi H Q) := by
  intro pins s σ H x v vl vu lo hi sl Q I rx hs pl pu q
  rcases q with q | q
  · exact h pins s σ H x v vl vu lo hi sl Q I rx hs pl pu q
  · exact h' pins s σ H x v vl vu lo hi sl Q I rx hs pl pu q
def tSl (r : V → Option Int → Option Int → Hp → VK → Prop) (te : TE) (tl th : TO) : TE := fun σ H Q => te σ H fun x H1 => tl σ H1 fun l H2 => th σ H2 fun u H3 => r x l u H3 Q
/-- a[lo:hi], any a -/
theorem pe_slice {r : V → Option Int → Option Int → Hp → VK → Prop} (hr : SlR X r) (he : PE X e te) (hl : PO X lo tl) (hu : PO X hi th) : PE X (.Subscript e (.Slice lo hi none p2) pos) (tSl r te tl th) := by
  intro pins s σ H Q I h
  refine Subscript_ (thn (he pins s σ H _ I h) fun v s1 ⟨x, H1, I1, r1, q1⟩ => ?_)
  refine wpAny_Slice (thn (hl pins s1 σ H1 _ I1 q1) fun vl s2 ⟨l, H2, I2, pl, q2⟩ => thn (hu pins s2 σ H2 _ I2 q2) fun vu s3 ⟨u, H3, I3, pu, q3⟩ => ?_)
  rw [evalPart_none]
  refine wpAny_pure ?_
  have I4 : Inv X pins σ H3 { s3 with heap := s3.heap.push { cls := .type "slice", data := .fields #[vl, vu, .none] } } := I3.kept (t' := s3.toks) fun b ob q => Heap.get?_push_of_some _ q
  obtain ⟨T, id, hT, ht, hg⟩ := hr pins { s3 with heap := s3.heap.push { cls := .type "slice", data := .fields #[vl, vu, .none] } } σ H3 x v vl vu l u s3.heap.objs.size Q I4 r1 (Heap.IsSliceOf.new ..) pl pu q3
  show wpAny (model X.prog X.w) X.A (subscriptTail e (.Slice lo hi none p2) v (.ref s3.heap.objs.size)) (EP X pins σ Q) X.xe { s3 with heap := s3.heap.push { cls := .type "slice", data := .fields #[vl, vu, .none] } }
  exact tail_any (ops := [.ref s3.heap.objs.size, v]) ht hT hg (by with_unfolding_all rfl)

/-- the items of xs[lo:hi] -/
def cutV (xs : List V) (lo hi : Option Int) : List V := (xs.drop (HT.sIx xs.length 0 lo)).take (HT.sIx xs.length xs.length hi - HT.sIx xs.length 0 lo)
theorem cutV_length (xs : List V) (lo hi : Option Int) : (cutV xs lo hi).length ≤ xs.length := by
  unfold cutV
  rw [List.length_take, List.length_drop]
  omega
/-! ### t < u, t + u -/
end
end L2

namespace L2
open PySem PySem.Spec PyProof.Rows

/-! ### places -/
/-- the place that an index of any sign means -/
def ixN (n : Nat) (i : Int) : Option Nat := if 0 ≤ i then (if i < n then some i.toNat else none) else if -(n : Int) ≤ i then some (i + n).toNat else none
def atI {α : Type} (xs : List α) (i : Int) : Option α := (ixN xs.length i).bind fun j => xs[j]?
theorem ixN_seq {n : Nat} {i : Int} {j : Nat} (h : ixN n i = some j) : seqIndex? i n = some j ∧ j < n ∧ -(n : Int) ≤ i ∧ i < n := by
  unfold ixN at h
  by_cases h0 : 0 ≤ i
  · rw [if_pos h0] at h
    by_cases h1 : i < n
    · rw [if_pos h1] at h
      have e : i.toNat = j := Option.some.inj h
      exact ⟨by rw [seqIndex_of h0 h1, e], by omega, by omega, h1⟩
    · rw [if_neg h1] at h; cases h
  · rw [if_neg h0] at h
    by_cases h1 : -(n : Int) ≤ i
    · rw [if_pos h1] at h
      have e : (i + n).toNat = j := Option.some.inj h
      exact ⟨by rw [seqIndex_neg (by omega) h1, e], by omega, h1, by omega⟩
    · rw [if_neg h1] at h; cases h
theorem atI_get {α : Type} {xs : List α} {i : Int} {v : α} (h : atI xs i = some v) : ∃ j, seqIndex? i xs.length = some j ∧ xs[j]? = some v ∧ j < xs.length ∧ -(xs.length : Int) ≤ i ∧ i < xs.length := by
  unfold atI at h
  cases e : ixN xs.length i with
  | none => rw [e] at h; cases h
  | some j =>
    rw [e] at h
    obtain ⟨h1, h2, h3, h4⟩ := ixN_seq e
    exact ⟨j, h1, h, h2, h3, h4⟩
theorem atI_nat {α : Type} {xs : List α} {j : Nat} {v : α} (h : xs[j]? = some v) : atI xs (j : Int) = some v := by
  have hj : j < xs.length := (List.getElem?_eq_some_iff.mp h).1
  have e : ixN xs.length (j : Int) = some j := by
    unfold ixN
    rw [if_pos (by omega), if_pos (by omega)]; simp
  unfold atI; rw [e]; exact h
theorem atI_last {α : Type} (xs : List α) (v : α) : atI (xs ++ [v]) (-1) = some v := by
  have hl : (xs ++ [v]).length = xs.length + 1 := by simp
  have e : ixN (xs ++ [v]).length (-1) = some xs.length := by
    unfold ixN
    rw [hl, if_neg (by decide), if_pos (by omega)]
    congr 1
    omega
  unfold atI
  rw [e]
  show (xs ++ [v])[xs.length]? = some v
  simp

/-! ### what may be subscripted -/
/-- what stands as an index of a plain subscript -/
def PlainIx (b : Expr) : Prop := ∀ o i, subscripted b false o i = operate [o, i] (getItem o i)
/-- a subscript by values -/
def IxR (X : Cx) (r : R2) : Prop :=
  ∀ (value slice : Expr) (pins : List (Addr × Obj)) (s : Shared) (σ : St) (H : Hp) (x y : V) (v u : Value) (Q : VK), Inv X pins σ H s → RelV x v → RelV y u → r x y H Q →
    subscripted slice false v u = operate [v, u] (getItem v u) → wpAny (model X.prog X.w) X.A (subscriptTail value slice v u) (EP X pins σ Q) X.xe s
/-- a call of a builtin's method by values: the receiver, the arguments -/
def MtR (X : Cx) (id : String) (r : V → List V → Hp → VK → Prop) : Prop :=
  ∀ (pins : List (Addr × Obj)) (s : Shared) (σ : St) (H : Hp) (x : V) (xs : List V) (v : Value) (us : List Value) (Q : VK), Inv X pins σ H s → RelV x v → Vals xs us → r x xs H Q →
    wpAny (model X.prog X.w) X.A (call (.builtin id) (v :: us)) (EP X pins σ Q) X.xe s
section
variable {X : Cx} {a b : Expr} {ta tb : TE} {pos : Pos}
theorem IxR.or {r r' : R2} (h : IxR X r) (h' : IxR X r') : IxR X (fun x y H Q => r x y H Q ∨ r' x y H Q) := by
  intro value slice pins s σ H x y v u Q I rx ry q hs
  rcases q with q | q
  · exact h value slice pins s σ H x y v u Q I rx ry q hs
  · exact h' value slice pins s σ H x y v u Q I rx ry q hs
theorem MtR.or {id : String} {r r' : V → List V → Hp → VK → Prop} (h : MtR X id r) (h' : MtR X id r') : MtR X id (fun x xs H Q => r x xs H Q ∨ r' x xs H Q) := by
  intro pins s σ H x xs v us Q I rx rs q
  rcases q with q | q
  · exact h pins s σ H x xs v us Q I rx rs q
  · exact h' pins s σ H x xs v us Q I rx rs q
/-- a[b] -/
theorem pe_ix {r : R2} (hr : IxR X r) (ha : PE X a ta) (hb : PE X b tb) (hs : PlainIx b) : PE X (.Subscript a b pos) (tOp r ta tb) := by
  intro pins s σ H Q I h
  exact Subscript_ (binT ha hb I h fun v u s2 x y H2 I2 rx ry q => hr a b pins s2 σ H2 x y v u Q I2 rx ry q (hs _ _))

def rIxL (K : PySem.W.Frag) : R2 := fun x y H Q => ∃ p xs i v, x = .ref p ∧ y = .int i ∧ SqL K H p xs ∧ atI xs i = some v ∧ Q v H
def rIxT (K : PySem.W.Frag) : R2 := fun x y H Q => ∃ p xs i v, x = .ref p ∧ y = .int i ∧ SqT K H p xs ∧ atI xs i = some v ∧ Q v H
def rIxS : R2 := fun x y H Q => ∃ z i c, x = .str z ∧ y = .int i ∧ z.length ≤ sizeLine ∧ atI z.cps.toList i = some c ∧ Q (.str ⟨#[c]⟩) H
theorem ix_list : IxR X (rIxL X.K) := by
  intro value slice pins s σ H x y v u Q I rx ry h hs
  obtain ⟨p, xs, i, z, rfl, rfl, hq, he, q⟩ := h
  cases rx
  obtain ⟨t, rfl⟩ := ry
  obtain ⟨its, r, pl, hz⟩ := I.list hq
  obtain ⟨j, h1, h2, h3, h4, h5⟩ := atI_get he
  obtain ⟨w, ew, rw'⟩ := r.get h2
  have hl := r.length
  have hn := line63
  have fin : EP X pins σ Q w s := ⟨z, H, I, rw', q⟩
  by_cases h0 : 0 ≤ i
  · have hj : i.toNat = j := by
      rw [seqIndex_of h0 h5] at h1
      exact Option.some.inj h1
    exact item_listR pl.isList h0 (by omega) (by rw [hj]; simpa using ew) fin hs
  · have hj : (i + (its.toArray.size : Int)).toNat = j := by
      rw [seqIndex_neg (by omega) h4] at h1
      rw [List.size_toArray, ← hl]
      exact Option.some.inj h1
    exact subscriptTail_builtinR (x := w) pl.isList.typeIs slot_list_getitem.lookup
      (wpAny_getItem_list_neg (Q := fun r s' => r = w ∧ EP X pins σ Q r s') pl.isList (by omega) (by rw [List.size_toArray] <;> omega) (by omega) (by rw [hj]; simpa using ew) ⟨rfl, fin⟩) hs
theorem ix_tup : IxR X (rIxT X.K) := by
  intro value slice pins s σ H x y v u Q I rx ry h hs
  obtain ⟨p, xs, i, z, rfl, rfl, hq, he, q⟩ := h
  cases rx
  obtain ⟨t, rfl⟩ := ry
  obtain ⟨its, r, pl, hz⟩ := I.tuple hq
  obtain ⟨j, h1, h2, h3, h4, h5⟩ := atI_get he
  obtain ⟨w, ew, rw'⟩ := r.get h2
  have hl := r.length
  have hn := line63
  have fin : EP X pins σ Q w s := ⟨z, H, I, rw', q⟩
  exact subscriptTail_builtinR (x := w) pl.typeIs slot_tuple_getitem.lookup
    (getItem_tuple (j := j) (Q := fun r s' => r = w ∧ EP X pins σ Q r s') pl (by omega) (by omega) (by rw [List.size_toArray, ← hl]; exact h1) (by simpa using ew) ⟨rfl, fin⟩) hs
theorem ix_str : IxR X rIxS := by
  intro value slice pins s σ H x y v u Q I rx ry h hs
  obtain ⟨z, i, c, rfl, rfl, hz, he, q⟩ := h
  obtain ⟨t, rfl⟩ := rx
  obtain ⟨t', rfl⟩ := ry
  obtain ⟨j, h1, h2, h3, h4, h5⟩ := atI_get he
  have hl : z.cps.toList.length = z.length := by simp [Str.length]
  rw [hl] at h1 h4 h5
  have hn := line63
  exact tail_any (typeIs_str s z t) slot_str_getitem.lookup (getItem_str (c := c) (by
    have e1 : decide (i < -(2 ^ 63 : Int)) = false := decide_eq_false (by omega)
    have e2 : decide (i ≥ 2 ^ 63) = false := decide_eq_false (by omega)
    rw [e1, e2, Bool.or_false]) (by rw [h1]; simpa using h2) ⟨.str ⟨#[c]⟩, H, I.tok _, ⟨_, rfl⟩, q⟩) hs
/-! ### xs[i] = v, any sign -/
/-- the list's object behind a store -/
theorem mapSeq_set (its : List Value) (n j : Nat) (u : Value) : Obj.mapSeq (·.setIfInBounds j u) { cls := .type "list", data := .seq its.toArray n } = { cls := .type "list", data := .seq (its.set j u).toArray n } := by
  simp [Obj.mapSeq]
theorem Inv.lst {pins : List (Addr × Obj)} {σ : St} {H : Hp} {s : Shared} {p : Addr} {xs : List V} (I : Inv X pins σ H s) (h : H p = some (.lst xs)) :
    ∃ (its : List Value) (n : Nat), Vals xs its ∧ s.heap.get? p = some { cls := .type "list", data := .seq its.toArray n } ∧ xs.length ≤ sizeLine := by
  obtain ⟨z, its, n, r, e⟩ := I.hok p _ h
  exact ⟨its, n, r, e, z⟩
/-- the list at p is written by an update of its object -/
theorem Inv.lstUpd {pins : List (Addr × Obj)} {σ : St} {H : Hp} {s : Shared} {p : Addr} {xs ys : List V} {its its' : List Value} {n n' : Nat} {f : Obj → Obj} (I : Inv X pins σ H s) (h : H p = some (.lst xs))
    (ho : s.heap.get? p = some { cls := .type "list", data := .seq its.toArray n }) (hf : f { cls := .type "list", data := .seq its.toArray n } = { cls := .type "list", data := .seq its'.toArray n' }) (r : Vals ys its') (hz : ys.length ≤ sizeLine) (t : Nat) :
    Inv X pins σ (upd H p (.lst ys)) { s with heap := s.heap.update p f, toks := t } := by
  have e : (s.heap.update p f).get? p = some { cls := .type "list", data := .seq its'.toArray n' } := by
    rw [Heap.get?_update_self f ho (by rw [hf] <;> rfl), hf]
  refine I.write (x := p) (e := p) (by rw [h]; trivial) (.inl rfl) (fun b u hb q => (Heap.get?_update_other _ _ (Ne.symm hb)).trans q) ⟨_, e⟩ ?_
  exact ⟨hz, its', n', r, e⟩
def rSetL : V → V → V → Hp → (Hp → Prop) → Prop := fun o i v H Q => ∃ p xs k j, o = .ref p ∧ i = .int k ∧ H p = some (.lst xs) ∧ ixN xs.length k = some j ∧ Q (upd H p (.lst (xs.set j v)))
theorem set_list : PSet X rSetL := by
  intro pins s σ H o i v ov iv u Q I ro ri rv h
  obtain ⟨p, xs, k, j, rfl, rfl, hp, hj, q⟩ := h
  cases ro
  obtain ⟨t, rfl⟩ := ri
  obtain ⟨its, n, r, ho, hz⟩ := I.lst hp
  obtain ⟨h1, h2, h3, h4⟩ := ixN_seq hj
  have hl := r.length
  have hn := line63
  have I' : Inv X pins σ (upd H p (.lst (xs.set j v))) { s with heap := s.heap.update p (Obj.mapSeq (·.setIfInBounds j u)) } :=
    I.lstUpd hp ho (mapSeq_set its n j u) (r.set rv j) (by rw [List.length_set]; exact hz) s.toks
  by_cases h0 : 0 ≤ k
  · have hk : k.toNat = j := by
      rw [seqIndex_of h0 h4] at h1
      exact Option.some.inj h1
    exact PySem.W.ki_setAt ho h0 (by omega) (by rw [List.size_toArray, ← hl]; exact h4) (by rw [hk]; exact ⟨_, I', q⟩)
  · have hk : (k + (its.toArray.size : Int)).toNat = j := by
      rw [seqIndex_neg (by omega) h3] at h1
      rw [List.size_toArray, ← hl]
      exact Option.some.inj h1
    exact PySem.W.ki_setBack ho (by omega) (by rw [List.size_toArray, ← hl]; exact h3) (by omega) (by rw [hk]; exact ⟨_, I', q⟩)

/-! ### slices -/
theorem slice_bounds (lo hi : Option Int) (n : Nat) : (sliceBounds lo hi none n).1 = ((HT.sIx n 0 lo : Nat) : Int) ∧ (sliceBounds lo hi none n).2.1 = ((HT.sIx n n hi : Nat) : Int) ∧ (sliceBounds lo hi none n).2.2 = 1 := by
  refine ⟨?_, ?_, rfl⟩
  · cases lo with
    | none => simp [sliceBounds, HT.sIx]
    | some i =>
      simp only [sliceBounds, HT.sIx, Option.getD_none, show (1 : Int) > 0 by decide, if_true]
      by_cases h : i < 0
      · simp only [h, if_true] <;> omega
      · simp only [h, if_false] <;> omega
  · cases hi with
    | none => simp [sliceBounds, HT.sIx]
    | some i =>
      simp only [sliceBounds, HT.sIx, Option.getD_none, show (1 : Int) > 0 by decide, if_true]
      by_cases h : i < 0
      · simp only [h, if_true] <;> omega
      · simp only [h, if_false] <;> omega
theorem slicePick_cut (its : List Value) (lo hi : Option Int) : slicePick its.toArray lo hi none = ((its.drop (HT.sIx its.length 0 lo)).take (HT.sIx its.length its.length hi - HT.sIx its.length 0 lo)).toArray := by
  obtain ⟨h1, h2, h3⟩ := slice_bounds lo hi its.toArray.size
  unfold slicePick
  rw [h1, h2, h3]
  simp only [sliceRange_one, pick_run, List.size_toArray] <;> rfl
/-- xs[lo:hi] of a list: a new list -/
def rSlL (K : PySem.W.Frag) : V → Option Int → Option Int → Hp → VK → Prop := fun x lo hi H Q => ∃ a xs, x = .ref a ∧ SqL K H a xs ∧ ∀ p, H p = none → Q (.ref p) (upd H p (.lst (cutV xs lo hi)))
theorem sl_list : SlR X (rSlL X.K) := by
  intro pins s σ H x v vl vu lo hi sl Q I rx hs pl pu h
  obtain ⟨a, xs, rfl, hx, q⟩ := h
  cases rx
  obtain ⟨its, r, ht, hz⟩ := I.list hx
  have hlen := r.length
  refine ⟨"list", _, slot_list_getitem.lookup, ht.isList.typeIs, ?_⟩
  refine wpAny_getItem_list_slice ht.isList hs pl pu .none (by simp) ?_ (by rw [List.size_toArray] <;> omega)
  rw [slicePick_cut, ← hlen]
  refine ⟨.ref s.heap.objs.size, _, I.laid (t' := s.toks) (o := .lst (cutV xs lo hi)) (fun b ob q => Heap.get?_push_of_some _ q) (Nat.le_refl _) ?_, rfl, q _ (I.hok.fresh (Nat.le_refl _))⟩
  exact ⟨Nat.le_trans (cutV_length xs lo hi) hz, _, 0, (r.drop (HT.sIx xs.length 0 lo)).take (HT.sIx xs.length xs.length hi - HT.sIx xs.length 0 lo), Heap.get?_push_size _ rfl⟩

/-! ### in, not in: flat items -/
def flatV : V → Bool
  | .non => true
  | .bl _ => true
  | .int _ => true
  | .str _ => true
  | _ => false
/-- == of flat values -/
def eqV : V → V → Bool
  | .non, .non => true
  | .bl a, .bl b => a == b
  | .bl a, .int b => (if a then 1 else 0) == b
  | .int a, .bl b => a == (if b then 1 else 0)
  | .int a, .int b => a == b
  | .str a, .str b => a == b
  | _, _ => false
theorem eqAt_V {A : Around} {s : Shared} {y x : V} {u v : Value} (ry : RelV y u) (rx : RelV x v) (fy : flatV y = true) (fx : flatV x = true) : SeqAt.EqAt A s u v (eqV y x) := by
  cases y with
  | non =>
    cases ry
    cases x with
    | non => cases rx; exact SeqAt.EqAt.same _
    | bl b => cases rx; exact SeqAt.EqAt.none_bool b
    | int b => obtain ⟨t, rfl⟩ := rx; exact SeqAt.EqAt.none_int b t
    | str b => obtain ⟨t, rfl⟩ := rx; exact SeqAt.EqAt.none_str b t
    | _ => exact absurd (show false = true from fx) Bool.false_ne_true
  | bl a =>
    cases ry
    cases x with
    | non => cases rx; exact SeqAt.EqAt.bool_none a
    | bl b => cases rx; exact SeqAt.EqAt.bool_bool a b
    | int b => obtain ⟨t, rfl⟩ := rx; exact SeqAt.EqAt.bool_int a b t
    | str b => obtain ⟨t, rfl⟩ := rx; exact SeqAt.EqAt.bool_str a b t
    | _ => exact absurd (show false = true from fx) Bool.false_ne_true
  | int a =>
    obtain ⟨t', rfl⟩ := ry
    cases x with
    | non => cases rx; exact SeqAt.EqAt.int_none a t'
    | bl b => cases rx; exact SeqAt.EqAt.int_bool a t' b
    | int b => obtain ⟨t, rfl⟩ := rx; exact SeqAt.EqAt.int_int a t' b t
    | str b => obtain ⟨t, rfl⟩ := rx; exact SeqAt.EqAt.int_str a t' b t
    | _ => exact absurd (show false = true from fx) Bool.false_ne_true
  | str a =>
    obtain ⟨t', rfl⟩ := ry
    cases x with
    | non => cases rx; exact SeqAt.EqAt.str_none a t'
    | bl b => cases rx; exact SeqAt.EqAt.str_bool a t' b
    | int b => obtain ⟨t, rfl⟩ := rx; exact SeqAt.EqAt.str_int a t' b t
    | str b => obtain ⟨t, rfl⟩ := rx; exact SeqAt.EqAt.str_str a t' b t
    | _ => exact absurd (show false = true from fx) Bool.false_ne_true
  | _ => exact absurd (show false = true from fy) Bool.false_ne_true
/-- the items' answers, read off the values (a value's own answer does not lean on its token) -/
def eqU (x : V) (u : Value) : Bool := match u with
  | .none => eqV .non x
  | .bool b => eqV (.bl b) x
  | .int i _ => eqV (.int i) x
  | .str z _ => eqV (.str z) x
  | _ => false
theorem eqU_of {x y : V} {u : Value} (r : RelV y u) (f : flatV y = true) : eqU x u = eqV y x := by
  cases y with
  | non => cases r; rfl
  | bl b => cases r; rfl
  | int i => obtain ⟨t, rfl⟩ := r; rfl
  | str z => obtain ⟨t, rfl⟩ := r; rfl
  | _ => exact absurd (show false = true from f) Bool.false_ne_true
theorem any_eqU {x : V} : ∀ {xs : List V} {us : List Value}, Vals xs us → xs.all flatV = true → us.any (eqU x) = xs.any fun y => eqV y x
  | _, _, .nil, _ => rfl
  | y :: xs, u :: us, .cons r t, f => by
    rw [List.all_cons, Bool.and_eq_true] at f
    rw [List.any_cons, List.any_cons, eqU_of r f.1, any_eqU t f.2]
theorem mem_eqAt {A : Around} {s : Shared} {x : V} {v : Value} (rx : RelV x v) (fx : flatV x = true) : ∀ {xs : List V} {us : List Value}, Vals xs us → xs.all flatV = true → ∀ u ∈ us, SeqAt.EqAt A s u v (eqU x u)
  | _, _, .nil, _ => fun u hu => by cases hu
  | y :: xs, u :: us, .cons r t, f => fun u' hu => by
    rw [List.all_cons, Bool.and_eq_true] at f
    rcases List.mem_cons.mp hu with rfl | hu
    · rw [eqU_of r f.1]; exact eqAt_V r rx f.1 fx
    · exact mem_eqAt rx fx t f.2 u' hu
def inV (x : V) (xs : List V) : Bool := xs.any fun y => eqV y x
/-- x in a list or tuple of flat items -/
def rIn (K : PySem.W.Frag) (neg : Bool) : R2 := fun x y H Q => ∃ p xs, y = .ref p ∧ (SqL K H p xs ∨ SqT K H p xs) ∧ flatV x = true ∧ xs.all flatV = true ∧ Q (.bl (if neg then !inV x xs else inV x xs)) H
theorem op_in_seq : OpR X (compareOp .In) (rIn X.K false) := by
  intro pins s σ H x y v u Q I rx ry h
  obtain ⟨p, xs, rfl, hq, fx, fs, q⟩ := h
  cases ry
  rcases hq with hq | hq
  · obtain ⟨its, r, pl, hz⟩ := I.list hq
    refine SeqAt.in_listAt (eqU x) pl.isList (fun w hw => mem_eqAt rx fx r fs w (by simpa using hw)) ⟨.bl _, H, I, rfl, ?_⟩
    rw [show its.toArray.any (eqU x) = its.any (eqU x) by simp, any_eqU r fs]
    exact q
  · obtain ⟨its, r, pl, hz⟩ := I.tuple hq
    refine SeqAt.in_tupleAt (eqU x) pl (fun w hw => mem_eqAt rx fx r fs w (by simpa using hw)) ⟨.bl _, H, I, rfl, ?_⟩
    rw [show its.toArray.any (eqU x) = its.any (eqU x) by simp, any_eqU r fs]
    exact q
theorem op_notIn_seq : OpR X (compareOp .NotIn) (rIn X.K true) := by
  intro pins s σ H x y v u Q I rx ry h
  obtain ⟨p, xs, rfl, hq, fx, fs, q⟩ := h
  cases ry
  rcases hq with hq | hq
  · obtain ⟨its, r, pl, hz⟩ := I.list hq
    refine SeqAt.notIn_listAt (eqU x) pl.isList (fun w hw => mem_eqAt rx fx r fs w (by simpa using hw)) ⟨.bl _, H, I, rfl, ?_⟩
    rw [show its.toArray.any (eqU x) = its.any (eqU x) by simp, any_eqU r fs]
    exact q
  · obtain ⟨its, r, pl, hz⟩ := I.tuple hq
    refine SeqAt.notIn_tupleAt (eqU x) pl (fun w hw => mem_eqAt rx fx r fs w (by simpa using hw)) ⟨.bl _, H, I, rfl, ?_⟩
    rw [show its.toArray.any (eqU x) = its.any (eqU x) by simp, any_eqU r fs]
    exact q
/-! ### len, list(x), tuple(x) of any list or tuple that is read -/
theorem call_len_seq : CallR X (.builtin "len") (fun xs H Q => ∃ p ys, xs = [.ref p] ∧ (SqL X.K H p ys ∨ SqT X.K H p ys) ∧ Q (.int ys.length) H) := by
  intro pins s σ H xs us Q I r h
  obtain ⟨p, ys, rfl, hq, q⟩ := h
  obtain ⟨u, rfl, rx⟩ := vals1 r
  cases rx
  have hn := line63
  rcases hq with hq | hq
  · obtain ⟨its, r', pl, hz⟩ := I.list hq
    have hlen := r'.length
    exact Calls.call_len_list pl.isList (by simp only [List.size_toArray] <;> omega) ⟨.int ys.length, H, I.tok _, ⟨s.toks + 1, by rw [List.size_toArray, hlen]⟩, q⟩
  · obtain ⟨its, r', pl, hz⟩ := I.tuple hq
    have hlen := r'.length
    exact len_tuple pl (by simp only [List.size_toArray] <;> omega) ⟨.int ys.length, H, I.tok _, ⟨s.toks + 1, by rw [List.size_toArray, hlen]⟩, q⟩
theorem call_len_str : CallR X (.builtin "len") (fun xs H Q => ∃ z, xs = [.str z] ∧ z.length ≤ sizeLine ∧ Q (.int z.length) H) := by
  intro pins s σ H xs us Q I r h
  obtain ⟨z, rfl, hz, q⟩ := h
  obtain ⟨u, rfl, t, rfl⟩ := vals1 r
  have hn := line63
  exact len_str (by omega) ⟨.int z.length, H, I.tok _, ⟨_, rfl⟩, q⟩
theorem CallR.or {f : Value} {r r' : List V → Hp → VK → Prop} (h : CallR X f r) (h' : CallR X f r') : CallR X f (fun xs H Q => r xs H Q ∨ r' xs H Q) := by
  intro pins s σ H xs us Q I rs q
  rcases q with q | q
  · exact h pins s σ H xs us Q I rs q
  · exact h' pins s σ H xs us Q I rs q
theorem call_list_of : CallR X (.type "list") (fun xs H Q => ∃ p ys, xs = [.ref p] ∧ (SqL X.K H p ys ∨ SqT X.K H p ys) ∧ ∀ l, H l = none → Q (.ref l) (upd H l (.lst ys))) := by
  intro pins s σ H xs us Q I r h
  obtain ⟨p, ys, rfl, hq, q⟩ := h
  obtain ⟨u, rfl, rx⟩ := vals1 r
  cases rx
  have fin : ∀ (its : List Value), Vals ys its → ys.length ≤ sizeLine → ∀ (h' : Heap) (c' : Nat), (∀ b o', s.heap.get? b = some o' → h'.get? b = some o') →
      h'.get? s.heap.objs.size = some { cls := .type "list", dict := none, data := .seq its.toArray c', slots := #[] } → EP X pins σ Q (.ref s.heap.objs.size) { s with heap := h' } := fun its r' hz h' c' kp e =>
    ⟨.ref s.heap.objs.size, _, I.laid (t' := s.toks) kp (Nat.le_refl _) (show ObjOk X.prog X.w _ h' _ (.lst ys) from ⟨hz, its, c', r', e⟩), rfl, q _ (I.hok.fresh (Nat.le_refl _))⟩
  rcases hq with hq | hq
  · obtain ⟨its, r', pl, hz⟩ := I.list hq
    have hlen := r'.length
    obtain ⟨o, ho, hc, n, hd⟩ := pl.isList
    exact call_list_seq p (.inl rfl) ho hc hd (fun h' c' kp e => fin its r' hz h' c' kp e) (by simp only [List.size_toArray] <;> omega)
  · obtain ⟨its, r', pl, hz⟩ := I.tuple hq
    have hlen := r'.length
    obtain ⟨o, ho, hc, n, hd⟩ := pl
    exact call_list_seq p (.inr rfl) ho hc hd (fun h' c' kp e => fin its r' hz h' c' kp e) (by simp only [List.size_toArray] <;> omega)
/-! ### the call of a builtin's method: o.m(..) -/
/-- the value is of that builtin type -/
def tyV (K : PySem.W.Frag) (T : String) (x : V) (H : Hp) : Prop := match x with
  | .str _ => T = "str"
  | .int _ => T = "int"
  | .ref p => (T = "list" ∧ ∃ xs, SqL K H p xs) ∨ (T = "tuple" ∧ ∃ o, K.lookup p = some o ∧ o.cls = .type "tuple" ∧ o.dict = none) ∨
      (T = "dict" ∧ ((∃ kvs, H p = some (.dK kvs)) ∨ ∃ kvs, H p = some (.dT kvs))) ∨ (T = "set" ∧ ∃ S n, H p = some (.set S n))
  | _ => False
theorem tyV_is {pins : List (Addr × Obj)} {σ : St} {H : Hp} {s : Shared} {T : String} {x : V} {v : Value} (I : Inv X pins σ H s) (r : RelV x v) (ty : tyV X.K T x H) :
    s.TypeIs v T ∧ ∀ a, v = .ref a → ∃ ob, s.heap.get? a = some ob ∧ ob.dict = none := by
  cases x with
  | str z =>
    obtain ⟨t, rfl⟩ := r
    cases (show T = "str" from ty)
    exact ⟨typeIs_str s z t, fun _ e => nomatch e⟩
  | int i =>
    obtain ⟨t, rfl⟩ := r
    cases (show T = "int" from ty)
    exact ⟨typeIs_int s i t, fun _ e => nomatch e⟩
  | ref p =>
    cases r
    rcases ty with ⟨rfl, xs, hq⟩ | ⟨rfl, o, hk, hc, hd⟩ | ⟨rfl, hk⟩ | ⟨rfl, S, n, hk⟩
    · obtain ⟨its, _, pl, _⟩ := I.list hq
      refine ⟨pl.isList.typeIs, fun a e => ?_⟩
      cases e
      obtain ⟨o, n, e, c, hd, _⟩ := pl
      exact ⟨o, e, hd⟩
    · refine ⟨⟨o, I.kIn p o hk, hc⟩, fun a e => ?_⟩
      cases e
      exact ⟨o, I.kIn _ o hk, hd⟩
    · have z : ∃ o, s.heap.get? p = some o ∧ o.ExactDict := by
        rcases hk with ⟨kvs, hk⟩ | ⟨kvs, hk⟩
        · obtain ⟨_, _, _, _, o, _, _, e, ex, _⟩ := I.hok p _ hk
          exact ⟨o, e, ex⟩
        · obtain ⟨_, _, _, _, o, _, _, e, ex, _⟩ := I.hok p _ hk
          exact ⟨o, e, ex⟩
      obtain ⟨o, e, ex⟩ := z
      refine ⟨⟨o, e, ex.1⟩, fun a e2 => ?_⟩
      cases e2
      exact ⟨o, e, ex.2.1⟩
    · obtain ⟨o, _, _, _, e, ex, _⟩ := I.hok p _ hk
      refine ⟨⟨o, e, ex.1⟩, fun a e2 => ?_⟩
      cases e2
      exact ⟨o, e, ex.2.1⟩
  | _ => exact False.elim ty
def tBM0 (K : PySem.W.Frag) (T : String) (r : V → List V → Hp → VK → Prop) (to : TE) : TE := fun σ H Q => to σ H fun x H1 => tyV K T x H1 ∧ r x [] H1 Q
def tBM (K : PySem.W.Frag) (T : String) (r : V → List V → Hp → VK → Prop) (to : TE) (t : TA) : TE := fun σ H Q => to σ H fun x H1 => tyV K T x H1 ∧ t σ H1 fun xs H2 => r x xs H2 Q
variable {o e : Expr} {es : List Expr} {to : TE} {t : TA} {name : Str} {apos cpos : Pos} {T id : String} {r : V → List V → Hp → VK → Prop}
theorem pe_bm (pa : PlainAttrs T) (slot : Slot T name id) (hty : typeOf (.builtin id) = pure (.type "method_descriptor")) (hm : MtR X id r) (ho : PE X o to) (ha : PA X (e :: es) t)
    (hbase : attributeBase o name X.env (eval o X.env) = eval o X.env := by rfl)
    (hfew : ((backTo cpos (starEach (e :: es) X.env)).all (fun x => !x.1) && (backToKw cpos (keywordEach [] X.env)).all (fun x => x.1.isSome)
      && decide ((e :: es).length + ([] : List Keyword).length + (if ([] : List Keyword).isEmpty then 0 else 1) < 30)) = true := by rfl)
    (hline : (apos.endLine == cpos.line) = true := by rfl) (hs : starEach (e :: es) X.env = (false, eval e X.env) :: starEach es X.env := by rfl) (hplain : (backTo cpos (starEach es X.env)).any (·.1) = false := by rfl) :
    PE X (.Call (.Attribute o name apos) (e :: es) [] cpos) (tBM X.K T r to t) := by
  intro pins s σ H Q I h
  refine wpAny_Call_method_late hbase hfew hline rfl (thn (ho pins s σ H _ I h) fun v s1 ⟨x, H1, I1, r1, ty, q1⟩ => ?_)
  obtain ⟨h1, h2⟩ := tyV_is I1 r1 ty
  refine ⟨T, id, pa, slot, hty, h1, h2, ?_⟩
  have hA := ha cpos pins s1 σ H1 _ I1 q1
  rw [hs] at hA ⊢
  refine Calls.callWith_builtin (by show (false || (backTo cpos (starEach es X.env)).any (·.1)) = false; rw [hplain] <;> rfl) (Calls.evalArgs_plain ?_)
  exact thn hA fun us s2 ⟨vs, H2, I2, r2, q2⟩ => hm pins s2 σ H2 x vs v us Q I2 r1 r2 q2
/- xs.append(e), list.index on a module's tuple .. are MtR facts of 06m -/
end
end L2

namespace L2
open PySem PySem.Spec PyProof.Rows

def MtM (X : Cx) (id : String) (r : V → List V → Hp → VK → Prop) : Prop :=
  ∀ (pins : List (Addr × Obj)) (s : Shared) (σ : St) (H : Hp) (x : V) (xs : List V) (v : Value) (us : List Value) (Q : VK), Inv X pins σ H s → RelV x v → Vals xs us → r x xs H Q →
    wpAny (model X.prog X.w) X.A (call (.builtin id) (v :: us)) (EP X pins σ Q) X.xe s

/-! ### lists of values -/
theorem Vals.one : ∀ {x : V} {us : List Value}, Vals [x] us → ∃ u, us = [u] ∧ RelV x u
  | _, _, .cons r .nil => ⟨_, rfl, r⟩
theorem Vals.two : ∀ {x y : V} {us : List Value}, Vals [x, y] us → ∃ u v, us = [u, v] ∧ RelV x u ∧ RelV y v
  | _, _, _, .cons r (.cons q .nil) => ⟨_, _, rfl, r, q⟩
theorem Vals.zero : ∀ {us : List Value}, Vals [] us → us = []
  | _, .nil => rfl
theorem Vals.dropLast {xs : List V} {us : List Value} (h : Vals xs us) : Vals xs.dropLast us.dropLast := by
  induction h with
  | nil => exact .nil
  | cons r t ih =>
    cases t with
    | nil => exact .nil
    | cons q t' => exact .cons r ih
section
variable {X : Cx} {pins : List (Addr × Obj)} {σ : St} {H : Hp} {s : Shared} {l b : Addr} {xs ys zs : List V}

/-! ### the two steps: a tracked list is rewritten, a new list is laid -/
theorem Inv.lset {its its' : List Value} {n : Nat} {f : Array Value → Array Value} {t' : Nat} (I : Inv X pins σ H s) (hH : H l = some (.lst xs))
    (e : s.heap.get? l = some { cls := .type "list", data := .seq its.toArray n }) (hf : f its.toArray = its'.toArray) (hv : Vals ys its') (hz : ys.length ≤ sizeLine) :
    Inv X pins σ (upd H l (.lst ys)) { s with heap := s.heap.update l (Obj.mapSeq f), toks := t' } := by
  have q := PySem.IsL.update e f
  rw [hf] at q
  refine I.write (x := l) (e := l) (by rw [hH]; exact trivial) (.inl rfl) (fun b' u hb hu => (Heap.get?_update_other s.heap (Obj.mapSeq f) (Ne.symm hb)).trans hu) ⟨_, q⟩ ?_
  exact ⟨hz, its', _, hv, q⟩
theorem Inv.lnew {its : List Value} {t' : Nat} (I : Inv X pins σ H s) (hv : Vals ys its) (hz : ys.length ≤ sizeLine) :
    Inv X pins σ (upd H s.heap.objs.size (.lst ys)) { s with heap := s.heap.push { cls := .type "list", data := .seq its.toArray }, toks := t' } :=
  I.laid (fun _ _ q => Heap.get?_push_of_some _ q) (Nat.le_refl _) ⟨hz, its, 0, hv, Heap.get?_push_size _ rfl⟩
theorem Inv.fresh (I : Inv X pins σ H s) : H s.heap.objs.size = none := I.hok.fresh (Nat.le_refl _)
theorem Inv.lstM (I : Inv X pins σ H s) (hH : H l = some (.lst xs)) : xs.length ≤ sizeLine ∧ ∃ (its : List Value) (n : Nat), Vals xs its ∧ xs.length = its.length ∧ s.heap.get? l = some { cls := .type "list", data := .seq its.toArray n } := by
  obtain ⟨z, its, n, r, e⟩ := I.hok l _ hH
  exact ⟨z, its, n, r, r.length, e⟩

theorem notLongL {n : Nat} (h : n ≤ sizeLine) : Builtin.List.listTooLong n = false := by
  unfold Builtin.List.listTooLong
  exact decide_eq_false (by omega)
end

section
variable {X : Cx}

/-! ### methods -/
def rAppend : V → List V → Hp → VK → Prop := fun x vs H Q => ∃ l xs y, x = .ref l ∧ vs = [y] ∧ H l = some (.lst xs) ∧ xs.length < sizeLine ∧ Q .non (upd H l (.lst (xs ++ [y])))
theorem mt_append : MtM X "list.append" rAppend := by
  intro pins s σ H x vs v us Q I rx rv h
  obtain ⟨l, xs, y, rfl, rfl, hH, hz, q⟩ := h
  cases rx
  obtain ⟨u, rfl, ru⟩ := rv.one
  obtain ⟨z, its, n, r, hl, e⟩ := I.lstM hH
  refine call_meets F.slot_list_append ⟨_, e, rfl⟩ F.entry_list_append (F.args_list_append_2 _ _) (PySem.list_append l its.toArray n u (by rw [List.size_toArray]; omega)) ⟨e, ?_⟩
  refine ⟨.non, _, I.lset (its' := its ++ [u]) hH e (by simp) (r.append (.cons ru .nil)) ?_, rfl, q⟩
  rw [List.length_append, List.length_singleton]
  omega

def rExtend : V → List V → Hp → VK → Prop := fun x vs H Q => ∃ l b xs zs, x = .ref l ∧ vs = [.ref b] ∧ H l = some (.lst xs) ∧ H b = some (.lst zs) ∧ xs.length + zs.length ≤ sizeLine ∧ Q .non (upd H l (.lst (xs ++ zs)))
theorem mt_extend : MtM X "list.extend" rExtend := by
  intro pins s σ H x vs v us Q I rx rv h
  obtain ⟨l, b, xs, zs, rfl, rfl, hH, hB, hz, q⟩ := h
  cases rx
  obtain ⟨u, rfl, ru⟩ := rv.one
  cases ru
  obtain ⟨z, its, n, r, hl, e⟩ := I.lstM hH
  obtain ⟨z2, its2, n2, r2, hl2, e2⟩ := I.lstM hB
  have hsz : its.toArray.size + its2.toArray.size ≤ sizeLine := by rw [List.size_toArray, List.size_toArray]; omega
  have hlong : ¬ (!its.toArray.isEmpty && Builtin.List.listTooLong (its.toArray.size + its2.toArray.size)) = true := by
    rw [notLongL hsz, Bool.and_false]
    exact Bool.false_ne_true
  refine call_meets F.slot_list_extend ⟨_, e, rfl⟩ F.entry_list_extend (F.args_list_extend_2 _ _)
    (AutoSeq1.list_extend_list_list_0 l its.toArray n b its2.toArray n2 hlong (by rw [List.size_toArray]; omega) (by omega)) ⟨e, e2, ?_⟩
  refine ⟨.non, _, I.lset (its' := its ++ its2) hH e (by simp) (r.append r2) ?_, rfl, q⟩
  rw [List.length_append]
  omega

/-! ### list + list, list += list, list * int -/
def rCat : R2 := fun x y H Q => ∃ l b xs zs, x = .ref l ∧ y = .ref b ∧ H l = some (.lst xs) ∧ H b = some (.lst zs) ∧ xs.length + zs.length ≤ sizeLine ∧ ∀ p, H p = none → Q (.ref p) (upd H p (.lst (xs ++ zs)))
theorem op_cat : OpR X (binaryOp .Add) rCat := by
  intro pins s σ H x y v u Q I rx ry h
  obtain ⟨l, b, xs, zs, rfl, rfl, hH, hB, hz, q⟩ := h
  cases rx
  cases ry
  obtain ⟨z, its, n, r, hl, e⟩ := I.lstM hH
  obtain ⟨z2, its2, n2, r2, hl2, e2⟩ := I.lstM hB
  refine PySem.P.add_list e e2 ?_ (by rw [List.size_toArray, List.size_toArray]; omega)
  have ea : its.toArray ++ its2.toArray = (its ++ its2).toArray := by simp
  rw [ea]
  exact ⟨.ref _, _, I.lnew (t' := s.toks) (r.append r2) (by rw [List.length_append]; omega), rfl, q _ I.fresh⟩
/-! ### del xs[i] -/
end

/-! ### xs[a:b] = ys -/
section
variable {prog : Program} {w : World} {A : Around} {E : Value → Shared → Prop} {s : Shared}
end

section
variable {X : Cx}
end
end L2

namespace Att
open PySem PySem.W PySem.Calls PyProof.Rows

/-! ### the script -/
theorem ints_of_wellAll {P : Params} {h : Heap} : ∀ (ns : List Int) (vs : List Value), WellAll P h vs (ns.map WData.int) → IntsAre vs ns := by
  intro ns
  induction ns with
  | nil =>
    intro vs w
    rw [List.map_nil] at w
    cases w
    exact .nil
  | cons n ns ih =>
    intro vs w
    rw [List.map_cons] at w
    cases w with
    | cons a b =>
      cases a
      exact .cons _ _ (ih _ b)

theorem script_of {l : OpenLaw} {n : Nat} (hn : l.most = some n) {P : Params} {h : Heap} {args : List WData} {vals : List Value}
    (hpre : l.row.toRowW.claim.pre args = true) (hwl : WellAll P h vals args) :
    ∃ a vs ns, vals = [Value.ref a] ∧ args = [WData.list (ns.map WData.int)] ∧ h.get? a = some { cls := .type "list", data := .seq vs.toArray } ∧ IntsAre vs ns ∧ ns.length ≤ n := by
  have hsh : WShape.hasAll [] args [.list .int] = true := (pre_splitW hpre).1
  have hc : l.pre.holds [] { args := args } = true := (pre_splitW hpre).2
  obtain ⟨d, r, rfl, h1, h2⟩ := hasAllW_cons hsh
  obtain rfl := hasAllW_nil h2
  obtain ⟨xs, rfl, h3⟩ := hasW_list h1
  obtain ⟨ns, rfl⟩ := items_int h3
  have hlen : ns.length ≤ n := by
    unfold OpenLaw.pre at hc
    have h4 : (WTm.not (.lt (.lit (.int (n : Int))) (.len (.arg 0)))).holds [] { args := [.list (ns.map .int)] } = true := by
      have h4 := (holds_andW hc).1
      rw [hn] at h4
      exact h4
    have h5 := condW_of h4 (w_not (w_lt w_lit (w_len_list (w_arg rfl))))
    rw [List.length_map] at h5
    refine Nat.le_of_not_lt fun q => ?_
    have q' : (n : Int) < ((ns.length : Nat) : Int) := by omega
    first
      | (rw [decide_eq_true q'] at h5; exact absurd h5 (by decide))
      | (simp at h5; omega)
  cases hwl with
  | cons w1 w2 =>
    cases w2
    cases w1 with
    | list ho hall => exact ⟨_, _, ns, rfl, rfl, ho, ints_of_wellAll ns _ hall, hlen⟩

theorem post_true (l : OpenLaw) (args : List WData) : l.row.toRowW.claim.post args (.bool true) args = true :=
  postW_of (r := l.row.toRowW) (X := (true == true))
    (show WShape.has [] (.bool true) .bool = true by first | rfl | decide | simp [WShape.has, WShape.arms, WShape.armsAll])
    (show (WTm.eq .res (.lit (.bool true))).value [] { args := args, res := some (.bool true), after := args } = some (.bool (true == true)) from w_eq_bool (w_res rfl) w_lit) rfl

/-! ### the attachment: holds_open's last premise (the goal 'hc' behind k_head) from a wpAny of the law's body -/
/-- the same from a codeAny of the CALL (for a layer whose function contracts speak of calls) -/
theorem attach_call {l : OpenLaw} {n : Nat} {q : Program} {loose : List Str} {XP : (Str → Option Value) → Heap → Prop} {YP : World → Heap → Prop} {d : DefRec}
    (hn : l.most = some n) (hdf : d.params.defaults = [])
    (call : ∀ (w : World) (s₀ s₁ : Shared) (mg mb : Str → Option Value) (fa : Addr) (o : Obj) (pm cd doc : Value) (a : Addr) (vs : List Value) (ns : List Int),
      Ground q loose [] XP w s₀ mg mb s₁.heap → YP w s₁.heap →
      s₁.heap.get? fa = some o → o.data = .func (docDef d.name d.params d.body d.scope pm cd doc) → s₁.heap.CodeRec cd d.name → mg d.name = some (.ref fa) →
      s₁.heap.get? a = some { cls := .type "list", data := .seq vs.toArray } → IntsAre vs ns → ns.length ≤ n → s₁.gens = #[] →
      codeAny (model l.prog w) callerA (.call (.ref fa) ⟨[.ref a], []⟩) (fun r s' => r = .ok (.ret (.bool true)) ∧ OldK s₁.heap s'.heap ∧ s'.os = s₁.os ∧ AllBare s'.gens) s₁) :
    WalkO q loose XP YP l.row.toRowW d [] (fun f vs => PySem.call f vs) := by
  intro w s₀ s₁ mg mb G Y fa o pm cd doc dV kV ho hd hcd hD hmg hg args vals as hpre hlay hrd hwl hlo
  obtain rfl : dV = .none := Dflts.none hD hdf
  obtain rfl : kV = .none := Dflts.noKw hD
  obtain ⟨a, vs, ns, rfl, rfl, hobj, hints, hlen⟩ := script_of hn hpre hwl
  refine enter_call (codeAny_mono (call w s₀ s₁ mg mb fa o pm cd doc a vs ns G Y ho (fd_plain hd) hcd hmg hobj hints hlen hg) fun r s' hq => ?_)
  obtain ⟨rfl, h2, h3, h4⟩ := hq
  exact ⟨.inl ⟨.bool true, .bool true, [], rfl, fun _ => rfl, .bool true, post_true l _, fun _ => ⟨List.Pairwise.nil, fun _ hm => (nomatch hm)⟩⟩, h2, h3, h4⟩

/-! ### rules over ANY heap (no ledger) from facts about the written part K: the library's own take a ledger (News) for what they write -/
section
variable {prog : Program} {w : World} {A : Around} {E : Value → Shared → Prop} {s : Shared} {K : Frag}

/-! the whole heap as the ledger: makes every rule that writes through a ledger a rule over any heap -/
end
end Att

namespace L2
open PySem PySem.Spec PyProof.Rows

theorem vals_ints : ∀ {vs : List Value} {ns : List Int}, IntsAre vs ns → Vals (ns.map V.int) vs
  | _, _, .nil => .nil
  | _, _, .cons n t h => .cons ⟨t, rfl⟩ (vals_ints h)

/-- nothing is tracked but the script, known to the object (or it is an object of the module) -/
def Only (H : Hp) : Prop := ∀ b, H b = none ∨ ∃ o xs, H b = some (.frz o (.lst xs))

/-- THE HEAD: the law's promise, at the heap behind the top. F, the promise of the law's def, may use that base is part of the heap (so K.In base, base.Ns mainGlobals mg stand in Mod) -/
theorem law_call {P : Program} {w : World} {K : PySem.W.Frag} {mg mb : Str → Option Value} {CX : CXT} {k : Nat} {fa a : Addr} {fd : FuncData} {x : Str} {sp : Sp} {s₁ : Shared} {vs : List Value} {ns : List Int}
    (KX : K.In s₁.heap) (hns : s₁.heap.Ns mainGlobals mg) (hb : s₁.heap.Ns builtinsNs mb) (hbb : ∀ x : Str, x ≠ "__name__" → mb x = bootBuiltins x) (hlim : s₁.heap.NoLimit) (hg : s₁.gens = #[])
    (ha : s₁.heap.get? a = some { cls := .type "list", data := .seq vs.toArray }) (hi : IntsAre vs ns) (hl : ns.length ≤ sizeLine) (hr : Room k callerA)
    (F : ∀ base : Heap, K.In base → base.Ns mainGlobals mg → FnOk P w K mg base CX k fa fd [x] sp) (hbind : ∀ (s : Shared) (u : Value), BindsTo s fd ⟨[u], []⟩ [(x, u)])
    (hsp : ∀ H : Hp, Only H → SqL K H a (ns.map V.int) → sp [.ref a] H (fun v _ => v = .bl true) fun _ _ _ => False)
    (hCX : ∀ H e s', CX [] H s₁ (fun _ _ _ => False) e s' → False) :
    codeAny (model P w) callerA (.call (.ref fa) ⟨[.ref a], []⟩) (fun r s' => r = .ok (.ret (.bool true)) ∧ OldK s₁.heap s'.heap ∧ s'.os = s₁.os ∧ AllBare s'.gens) s₁ := by
  have rv := vals_ints hi
  have lenV := hi.length
  -- from an abstract heap in which nothing but the script may be tracked
  have core : ∀ H : Hp, Only H → SqL K H a (ns.map V.int) → HOk P w H s₁.heap → (∀ b, H b ≠ none → b = a) → (H a ≠ none → K.lookup a = none) →
      codeAny (model P w) callerA (.call (.ref fa) ⟨[.ref a], []⟩) (fun r s' => r = .ok (.ret (.bool true)) ∧ OldK s₁.heap s'.heap ∧ s'.os = s₁.os ∧ AllBare s'.gens) s₁ := by
    intro H hO hS hok hA hK
    have base_of : ∀ {b : Addr} {o : Obj}, s₁.heap.get? b = some o → H b = none → (hidT s₁.heap H).get? b = some o := fun e n => hidT_get e n
    have noA : ∀ {b : Addr} {o : Obj} {es : Array DictEntry} {ep : Nat}, s₁.heap.get? b = some o → o.data = .dict es ep → H b = none := fun {b o es ep} e d => by
      cases q : H b with
      | none => rfl
      | some u =>
        have e' : b = a := hA b (by rw [q]; simp)
        subst e'
        rw [ha] at e; cases e
        have d' : Data.seq vs.toArray _ = Data.dict es ep := d
        cases d'
    have nsK : ∀ {b : Addr} {m : Str → Option Value}, s₁.heap.Ns b m → (hidT s₁.heap H).Ns b m := fun {b m} ⟨o, es, ep, e, d, r⟩ => ⟨o, es, ep, base_of e (noA e d), d, r⟩
    have hKb : K.In (hidT s₁.heap H) := fun b o e => base_of (KX b o e) (by
      cases q : H b with
      | none => rfl
      | some u =>
        have e' : b = a := hA b (by rw [q]; simp)
        subst e'
        rw [hK (by rw [q]; simp)] at e; cases e)
    have hM : Mod K mg (hidT s₁.heap H) := ⟨hKb, nsK hns, ⟨mb, nsK hb, hbb⟩, let ⟨mc, h1, h2⟩ := hlim; ⟨mc, nsK h1, h2⟩⟩
    have e0 : Env0 P w K mg (hidT s₁.heap H) callerA [] s₁ H := ⟨rfl, hM, fun b o e => of_hidT e, Nat.le_of_eq (hidT_size _ _), trivial, fun b hb => absurd (show b ∈ ([] : List Addr) from hb) (by simp), hok, .of_eq hg⟩
    refine codeAny_mono ((F _ hKb (nsK hns)).run callerA [] s₁ H ⟨[.ref a], []⟩ [.ref a] [.ref a] _ _ hr e0 (hbind s₁ (.ref a)) (.cons rfl .nil) (hsp H hO hS)) fun r s' h => ?_
    cases r with
    | error e => exact (hCX H e s' h).elim
    | ok fl =>
      cases fl with
      | next => exact False.elim h
      | brk => exact False.elim h
      | cont => exact False.elim h
      | ret u =>
        obtain ⟨v, H', os, bare, un, hok', r', q⟩ := h
        have q' : v = .bl true := q
        subst q'
        obtain rfl : u = Value.bool true := r'
        refine ⟨rfl, OldK.of_keep fun b o e => ?_, os, bare⟩
        cases q : H b with
        | none => exact un.keep b o e q (by intro z; exact absurd (show b ∈ ([] : List Addr) from z) (by simp)) (by simp)
        | some u =>
          rcases hO b with z | ⟨ob, xs, z⟩
          · rw [q] at z; cases z
          · have z2 := un.frzs b ob _ z
            obtain ⟨e1, _⟩ := hok b _ z
            obtain ⟨e2, _⟩ := hok' b _ z2
            rw [e] at e1; cases e1
            exact e2
  cases hk : K.lookup a with
  | some o =>
    -- the script is one of the module's own objects
    have e := KX a o hk
    rw [ha] at e
    cases e
    refine core (fun _ => none) (fun _ => .inl rfl) (.inr ⟨_, vs.toArray, _, hk, rfl, rfl, rfl, by rw [List.size_toArray, lenV]; exact hl, by simpa using rv⟩) (fun b u z => by have z' : (none : Option HO) = some u := z; cases z') (fun b z => absurd rfl z) fun z => absurd rfl z
  | none =>
    refine core (fun b => if b = a then some (.frz { cls := .type "list", data := .seq vs.toArray } (.lst (ns.map V.int))) else none) (fun b => ?_) (.inl (.inr ⟨{ cls := .type "list", data := .seq vs.toArray }, if_pos rfl⟩)) (fun b u z => ?_) (fun b z => ?_) fun _ => hk
    · by_cases hb : b = a
      · exact .inr ⟨_, _, if_pos hb⟩
      · exact .inl (if_neg hb)
    · by_cases hb : b = a
      · have z' := (if_pos hb).symm.trans z
        cases z'
        subst hb
        exact ⟨ha, by rw [List.length_map]; exact hl, vs, _, rv, ha⟩
      · have z' := (if_neg hb).symm.trans z
        cases z'
    · by_cases hb : b = a
      · exact hb
      · exact absurd (if_neg hb) z
end L2

namespace L2
open PySem PySem.Spec PyProof.Rows

abbrev KOf {K : PySem.W.Frag} {h : Heap} (_ : K.In h) : PySem.W.Frag := K

/-- the goal that k_head leaves (case hc), from the law's promise. F gives the function object fd (K's own) once, then the promise over every base -/
theorem walk_of {l : PySem.W.OpenLaw} {n k : Nat} {q : Program} {loose : List Str} {XP : (Str → Option Value) → Heap → Prop} {YP : World → Heap → Prop} {d : DefRec} {K : Params → PySem.W.Frag} {CX : World → CXT} {sp : World → Sp} {x : Str}
    (hn : l.most = some n) (hn2 : n ≤ sizeLine) (hdf : d.params.defaults = []) (hr : Room k callerA)
    (hY : ∀ (w : World) (h : Heap), YP w h → (K w.params).In h)
    (F : ∀ (w : World) (mg : Str → Option Value) (fa : Addr) (h : Heap), (K w.params).In h → h.Ns mainGlobals mg → mg d.name = some (.ref fa) →
      ∃ fd : FuncData, (∀ (s : Shared) (u : Value), BindsTo s fd ⟨[u], []⟩ [(x, u)]) ∧
        ∀ base : Heap, (K w.params).In base → base.Ns mainGlobals mg → FnOk l.prog w (K w.params) mg base (CX w) k fa fd [x] (sp w))
    (hsp : ∀ (w : World) (H : Hp) (a : Addr) (ns : List Int), ns.length ≤ n → Only H → SqL (K w.params) H a (ns.map V.int) → sp w [.ref a] H (fun v _ => v = .bl true) fun _ _ _ => False)
    (hCX : ∀ (w : World) (H : Hp) (s : Shared) (e : Value) (s' : Shared), CX w [] H s (fun _ _ _ => False) e s' → False) :
    PySem.W.WalkO q loose XP YP l.row.toRowW d [] (fun f vs => PySem.call f vs) := by
  refine Att.attach_call hn hdf fun w s₀ s₁ mg mb fa o pm cd doc a vs ns G Y ho hd hcd hmg hobj hints hlen hg => ?_
  have KX := hY w _ Y
  obtain ⟨fd, hb, hF⟩ := F w mg fa _ KX G.T.g hmg
  exact law_call KX G.T.g G.T.b G.T.builtins G.T.nolimit hg hobj hints (Nat.le_trans hlen hn2) hr hF hb (fun H hO hS => hsp w H a ns hlen hO hS) fun H e s' => hCX w H s₁ e s'
end L2

/- THE LAST THEOREM (shape; LID, My.* are yours):
   My.Adr: a structure of the addresses that your layer names (classes, functions); My.Txt K t: a structure (Prop) of the equations over K;
   My.txt_mk : {K} {implicit addresses ..} (e1 : nsIn K mainGlobals "law" = some (some (.ref f))) (e2 : K.lookup f = some ⟨oc, od, .func (fnOf "law" "law" params body scope dV kV doc pm an cdv ct), sl⟩) (e3 : codeIn K cdv "law" = true) .. : ∃ t, My.Txt K t

set_option maxRecDepth 100000 in
set_option maxHeartbeats 0 in
theorem PySem.Challenge.cw_LID_holds : PySem.Challenge.rw_LID.Holds := by
  w_on; o_law; k_head; (case hw => w_witness2)
  k_fill
  refine L2.walk_of (l := PySem.Challenge.rw_LID) (n := 63) (k := 40) (x := "script") (CX := fun w => ..) (sp := fun _ => My.sp_law) rfl (by decide) rfl ⟨rfl, by decide, by decide⟩ (fun w h Y => PySem.W.kIn_of Y) ?F ?S ?C
  case F =>
    intro w mg fa h KX G hmg
    have T : ∃ t, My.Txt (L2.KOf KX) t := by
      dsimp only [L2.KOf]                          -- K must stand as «<heap const> w.params» for k_is
      refine' My.txt_mk ?e1 ?e2 ?e3 ..
      (case e1 => PySem.W.k_is)                    -- in the order: a name -> its address -> its object -> its parts
      (case e2 => PySem.W.k_is)
      ..
    obtain ⟨t, T⟩ := T
    have e0 := hmg.symm.trans (PySem.W.mg_of KX G T.law)
    cases e0                                       -- fa is the law's own address
    exact ⟨_, fun s u => .of_eq rfl, fun base kb nb => My.law_fn T kb nb⟩     -- if «.of_eq rfl» comes too early: refine' ⟨_, ?b, fun base kb nb => My.law_fn T kb nb⟩; exact fun s u => .of_eq rfl
  case S => exact fun w H a ns hl hO hS => ..
  case C => exact ..
(the tactic k_is has no namespace: write k_is) -/

/-! SHORT WORDS over the layer: a def of the text, its body, what a loop and a test want. -/
namespace L2
open PySem PySem.Spec PyProof.Rows

/-! ### the text by places -/
/-- the j-th statement of a class's body -/
def inClass (s : Stmt) (j : Nat) : Stmt := match s with
  | .ClassDef _ _ _ body _ _ _ _ _ _ _ => body.getD j (.Pass ⟨0, 0, 0, 0⟩)
  | _ => .Pass ⟨0, 0, 0, 0⟩
def defArgs (s : Stmt) : Arguments := match s with
  | .FunctionDef _ a _ _ _ _ _ _ _ _ => a
  | _ => { posonlyargs := [], args := [], vararg := none, kwonlyargs := [], kw_defaults := [], kwarg := none, defaults := [] }
def defBody (s : Stmt) : List Stmt := match s with
  | .FunctionDef _ _ b _ _ _ _ _ _ _ => b
  | _ => []
def defScope (s : Stmt) : Scope := match s with
  | .FunctionDef _ _ _ _ _ _ sc _ _ _ => sc
  | _ => { kind := .function, names := [], isGenerator := false, isCoroutine := false }

/-! ### no exception leaves a def -/
abbrev CX0 : CXT := fun _ _ _ _ _ _ => False
abbrev E0 : XK := fun _ _ _ => False
theorem pass0 {X : Cx} : Passes CX0 X E0 := fun _ _ _ _ _ _ _ h => h.elim

/-! ### a def (or method) of the text as it stands behind the top -/
structure Fun (K : PySem.W.Frag) (x qual : Str) (st : Stmt) (f : Addr) (fd : FuncData) : Prop where
  ex : ∃ (oc : Value) (od : Option Addr) (kV doc pm : Value) (an : Option Addr) (cdv ct : Value) (osl : Array (Option Value)),
    fd = PySem.W.fnOf x qual (defArgs st) (defBody st) (defScope st) .none kV doc pm an cdv ct ∧ K.lookup f = some ⟨oc, od, .func fd, osl⟩ ∧ PySem.W.codeIn K cdv qual = true
  kp : PySem.W.keepIn K (.ref f) = true
section
variable {P : Program} {w : World} {K : PySem.W.Frag} {mg : Str → Option Value} {base : Heap}
/-- THE RULE for a def: its body as a term of rules, and the reading of that term -/
theorem Fun.ok {x qual : Str} {st : Stmt} {f : Addr} {fd : FuncData} {N ps : List Str} {k : Nat} {sp : Sp} (F : Fun K x qual st f fd) (S : FnScope N ps (defScope st)) (len : ∀ vs H Q E, sp vs H Q E → vs.length = ps.length)
    (hbody : ∀ (cdv : Value) (A : Around) (outer : List Env) (s : Shared) (H : Hp) (vs : List V) (Q : VK) (E : XK), Room k (A.deeper (envOfC qual (defScope st) s.heap.objs.size f cdv)) → sp vs H Q E →
      ∃ t, PSs (cxOf CX0 P w K mg base N qual (defScope st) f cdv A outer s H E).nox (defBody st) t ∧ t { nx := fun _ H' => Q .non H', rt := Q } (start N vs) H) : FnOk P w K mg base CX0 (k + 1) f fd ps sp := by
  obtain ⟨oc, od, kV, doc, pm, an, cdv, ct, osl, rfl, lk, hcd⟩ := F.ex
  refine fn_of lk hcd S len fun A outer s H vs Q E hr hsp => ?_
  obtain ⟨t, h, q⟩ := hbody cdv A outer s H vs Q E hr hsp
  exact ⟨t, h.nox, q⟩
/-- how its arguments bind (no defaults): h is «fun _ _ _ _ _ _ us hl => match us, hl with | [_, _], _ => rfl», one _ a parameter -/
theorem Fun.binds {x qual : Str} {st : Stmt} {f : Addr} {fd : FuncData} {ps : List Str} (F : Fun K x qual st f fd)
    (h : ∀ (kV doc pm : Value) (an : Option Addr) (cdv ct : Value) (us : List Value), us.length = ps.length → bindArgs (PySem.W.fnOf x qual (defArgs st) (defBody st) (defScope st) .none kV doc pm an cdv ct) ⟨us, []⟩ = pure (ps.zip us)) : Binds K fd ps [] := by
  obtain ⟨oc, od, kV, doc, pm, an, cdv, ct, osl, rfl, lk, hcd⟩ := F.ex
  exact .all (h kV doc pm an cdv ct)
end
theorem hu_of {A : Around} {k : Nat} (hr : Room k A) : A.units + 1 < cLine := Nat.lt_of_le_of_lt (Nat.add_le_add_left (by decide : 1 ≤ 64) _) hr.units
/-! ### expressions in short: the name that stands in the i-th slot -/
section
variable {X : Cx}
theorem pv (i : Nat) {x : Str} {pos : Pos} (hN : X.N[i]? = some x := by rfl) (hv : Vis X.env.scope x := by first | exact Or.inl rfl | exact Or.inr (Or.inl rfl) | exact Or.inr (Or.inr rfl)) (hd : (x == ("__debug__" : Str)) = false := by decide)
    (hcd : (x == ("__classdict__" : Str)) = false := by decide) : PE X (.Name x pos) (tVar i) := pe_var hN hv hd hcd
end

/-! ### tests -/
theorem iteF {A B : Prop} (h : B) : if false = true then A else B := by
  rw [if_neg Bool.false_ne_true]
  exact h
theorem iteT {A B : Prop} (h : A) : if true = true then A else B := by
  rw [if_pos rfl]
  exact h
/-! ### heaps -/
/-- all that was tracked is as it was -/
def Same (H H' : Hp) : Prop := ∀ b o, H b = some o → H' b = some o
theorem Same.refl (H : Hp) : Same H H := fun _ _ h => h
theorem Same.trans {H H1 H2 : Hp} (a : Same H H1) (b : Same H1 H2) : Same H H2 := fun c o h => b c o (a c o h)
theorem Same.free {H H' : Hp} (e : Same H H') {l : Addr} (h : H' l = Option.none) : H l = Option.none := by
  cases q : H l with
  | none => rfl
  | some o =>
    rw [e l o q] at h
    cases h
theorem Same.seq {K : PySem.W.Frag} {H H' : Hp} {a : Addr} {xs : List V} (e : Same H H') (h : SqL K H a xs) : SqL K H' a xs := by
  rcases h with (h | ⟨o, h⟩) | h
  · exact .inl (.inl (e _ _ h))
  · exact .inl (.inr ⟨o, e _ _ h⟩)
  · exact .inr h

end L2

set_option maxHeartbeats 4000000
/-! GENERATORS: what all(.. for ..) and any(.. for ..) come to. -/
namespace L2
open PySem PySem.Spec PyProof.Rows

/-! ### no run loses a generator -/
theorem gRuns {M : Model} {Γ : PySem.Ctx} {p : Pos} {t : Sem PySem.Fin} {fs : List PySem.Frame} {s s' : Shared} {e : End} (h : Runs M Γ p t fs s e s') :
    s.gens.size ≤ s'.gens.size := by
  induction h <;> (try simp only [Shared.setGen, Array.size_setIfInBounds, Array.size_push] at *) <;> omega

theorem gWakes {M : Model} {Γ : PySem.Ctx} {p : Pos} {g : Nat} {r : Resume} {s s' : Shared} {res : GenResult} (h : Wakes M Γ p g r s res s') :
    s.gens.size ≤ s'.gens.size := by
  have sz : ∀ (u : Shared) (x : GenState), (u.setGen g x).gens.size = u.gens.size := fun u x => by simp [Shared.setGen]
  have go : ∀ {Γ' : PySem.Ctx} {p' : Pos} {t : Sem PySem.Fin} {fs : List PySem.Frame} {e₁ : End} {s₁ : Shared},
      Runs M Γ' p' t fs (s.setGen g .running) e₁ s₁ → s.gens.size ≤ (s₁.setGen g e₁.genState).gens.size := fun hr => by
    have q := gRuns hr
    rw [sz] at q ⊢
    exact q
  unfold Wakes at h
  split at h
  · exact h.elim
  · split at h
    · obtain ⟨_, _, hr, _, _, rfl⟩ := h
      exact go hr
    · rw [h.2]
      exact Nat.le_refl _
    · rw [h.2, sz]
      exact Nat.le_refl _
  · obtain ⟨_, _, hr, _, _, rfl⟩ := h
    exact go hr
  · rw [h.2]
    exact Nat.le_refl _
  · rw [h.2]
    exact Nat.le_refl _

theorem gWp {α : Type} (M : Model) (Γ : PySem.Ctx) (n : Nat) (t : Sem α) :
    ∀ (Q : α → Pos → Shared → Prop) (E : Value → Pos → Shared → Prop) (p : Pos) (s : Shared), n ≤ s.gens.size → Sem.wp M Γ t Q E p s →
      Sem.wp M Γ t (fun a p' s' => n ≤ s'.gens.size ∧ Q a p' s') (fun e p' s' => n ≤ s'.gens.size ∧ E e p' s') p s := by
  induction t with
  | pure a => exact fun Q E p s l h => ⟨l, h⟩
  | raise e => exact fun Q E p s l h => ⟨l, h⟩
  | unsupported _ => exact fun Q E p s _ h => h
  | finish _ => exact fun Q E p s _ h => h
  | rule _ k ih => exact fun Q E p s l h => ih () Q E p s l h
  | «at» p' k ih => exact fun Q E p s l h => ih () Q E p' s l h
  | load a _ k ih => exact fun Q E p s l ⟨o, ho, h⟩ => ⟨o, ho, ih o Q E p s l h⟩
  | update a _ f k ih => exact fun Q E p s l h => ⟨h.1, ih () Q E p _ l h.2⟩
  | loadIfAlive a k ih => exact fun Q E p s l h => ih _ Q E p s l h
  | point _ k ih => exact fun Q E p s l h => ih () Q E p s l h
  | register _ _ => exact fun Q E p s _ h => h
  | alloc o k ih => exact fun Q E p s l h => ih _ Q E p _ l h
  | fresh k ih => exact fun Q E p s l h => ih _ Q E p _ l h
  | ask k ih => exact fun Q E p s l h => ih _ Q E p s l h
  | choose src m k ih => exact fun Q E p s l h => ⟨h.1, ih _ Q E p _ l h.2⟩
  | os q _ k ih => exact fun Q E p s l h => ih _ Q E p _ l h
  | call c hd _ _ k ih => exact fun Q E p s l ⟨r, s', hr, h⟩ => ⟨r, s', hr, ih r Q E p s' (Nat.le_trans l (gRuns hr)) h⟩
  | handled own k ih => exact fun Q E p s l h => ih _ Q E p s l h
  | genState g k ih => exact fun Q E p s l ⟨st, hs, h⟩ => ⟨st, hs, ih _ Q E p s l h⟩
  | newGen c k ih => exact fun Q E p s l h => ih _ Q E p _ (Nat.le_trans l (by simp)) h
  | resume g r _ k ih => exact fun Q E p s l ⟨res, s', hw, h⟩ => ⟨res, s', hw, ih res Q E p s' (Nat.le_trans l (gWakes hw)) h⟩
  | yield _ _ _ _ => exact fun Q E p s _ h => h
  | stack k ih => exact fun Q E p s l h => ih _ Q E p s l h
  | fork _ _ => exact fun Q E p s _ h => h
  | thread k ih => exact fun Q E p s l h => ih _ Q E p s l h
  | await _ _ _ _ _ => exact fun Q E p s _ h => h

/-- the generators that are there stay there -/
theorem thnG {α : Type} {M : Model} {A : Around} {t : Sem α} {Q Q' : α → Shared → Prop} {E E' : Value → Shared → Prop} {s : Shared} (h : wpAny M A t Q E s)
    (hQ : ∀ a s', s.gens.size ≤ s'.gens.size → Q a s' → Q' a s') (hE : ∀ e s', s.gens.size ≤ s'.gens.size → E e s' → E' e s') : wpAny M A t Q' E' s := by
  have h2 : wpAny M A t (fun a s' => s.gens.size ≤ s'.gens.size ∧ Q a s') (fun e s' => s.gens.size ≤ s'.gens.size ∧ E e s') s :=
    fun Γ p hΓ => gWp M Γ s.gens.size t _ _ p s (Nat.le_refl _) (h Γ p hΓ)
  exact wpAny_mono h2 (fun a s' z => hQ a s' z.1 z.2) fun e s' z => hE e s' z.1 z.2

/-! ### a code object's table, however grown -/
def tabφ (P : Addr) (h : Heap) : Prop := ∃ ps, h.get? P = some (PySem.W.tabObj ps) ∧ TriplesOk ps.toList
abbrev Tb (P : Addr) : HO := .ext (tabφ P)
theorem tabφ_stay {P : Addr} (h1 h2 : Heap) (x : tabφ P h1) (k : ∀ o, h1.get? P = some o → h2.get? P = some o) : tabφ P h2 :=
  let ⟨ps, e, t⟩ := x; ⟨ps, k _ e, t⟩
/-- the code object of the def that runs, its table at P -/
def CodeK (K : PySem.W.Frag) (cdv : Value) (P : Addr) : Prop := ∃ c, cdv = .ref c ∧ ∀ h, K.In h → PySem.W.CodeHd h c P

section
variable {X : Cx} {pins : List (Addr × Obj)} {σ : St} {H : Hp} {s : Shared}
theorem Inv.like {s' : Shared} (I : Inv X pins σ H s) (hh : s'.heap = s.heap) (ho : s'.os = s.os) (hg : AllBare s'.gens) : Inv X pins σ H s' := by
  obtain ⟨h', g', d', t', o'⟩ := s'
  obtain rfl : h' = s.heap := hh
  obtain rfl : o' = s.os := ho
  exact ⟨I.ok, I.os, hg, I.base, I.loc, I.cell, I.free, I.freeC, I.pin, I.hok, I.len⟩

theorem gen_code {M : Model} {A : Around} {E : Value → Shared → Prop} {P : Addr} {pos : Pos} {q : Str} {scope : Scope} {Q : Value → Shared → Prop} (I : Inv X pins σ H s) (hc : CodeK X.K X.env.code P) (hT : H P = some (Tb P))
    (hQ : ∀ code h' tk, Inv X pins σ H { s with heap := h', toks := tk } → (∀ b o, b ≠ P → s.heap.get? b = some o → h'.get? b = some o) → Q code { s with heap := h', toks := tk }) :
    wpAny M A (genexprCode X.env pos q scope) Q E s := by
  obtain ⟨c, hcd, hd⟩ := hc
  obtain ⟨⟨ps, hP, tr⟩, _, _⟩ := I.hok P _ hT
  have hd := hd _ I.kIn
  have hok := hd.code hP tr
  have htab := hd.tab hP
  cases hf : codeAmong pos ps.toList with
  | some cv => exact wpAny_genexprCode_hit hcd hok hf (hQ cv s.heap s.toks (I.tok _) fun _ _ _ e => e)
  | none =>
    refine wpAny_genexprCodeX hcd hok htab hf fun c' h' tk hx _ _ hok' _ htab' _ => hQ _ h' tk (I.un ⟨?_, ?_, ?_, ?_, ?_, ?_, ?_⟩ ?_) fun b o hb e => hx b o hb e
    · exact fun b o e n _ _ => hx b o (fun z => by rw [z, hT] at n; cases n) e
    · exact fun b o e n _ _ => ⟨o.slots, hx b o (fun z => by rw [z, hT] at n; cases n) e⟩
    · exact fun b o _ n _ => n
    · intro b o e _
      by_cases z : b = P
      · exact ⟨_, z ▸ htab'.2⟩
      · exact ⟨o, hx b o z e⟩
    · exact fun _ _ e => e
    · exact fun _ _ _ e => e
    · exact fun b ps e => ⟨#[], by rw [e]; simp⟩
    · intro b u e
      by_cases z : b = P
      · subst z
        rw [hT] at e
        cases e
        have tr' : TriplesOk (ps ++ #[rawInt pos.line, rawInt pos.col, Value.ref c']).toList := by
          obtain ⟨_, _, _, _, _, _, _, _, _, op, _, _, _, _, _, _, _, e1, e2, e3, _⟩ := hok'
          exact e3
        exact ⟨⟨_, htab'.2, tr'⟩, ⟨_, htab'.2⟩, tabφ_stay⟩
      · refine (I.hok b u e).stay (fun a o ha e' => hx a o ?_ e') (fun _ e => e) fun _ _ e => e
        rintro rfl
        rcases ha with ha | ha
        · exact z ha.symm
        · rw [hT] at ha
          cases ha
end

/-! ### the free names of a block -/
def clOf (names : List (Str × NameKind)) (cells : List (Str × Addr)) (acc : List (Str × Addr)) : List (Str × Addr) := match names with
  | [] => acc
  | (n, k) :: r => if k == .free then (match cells.lookup n with | some a => clOf r cells ((n, a) :: acc) | none => acc) else clOf r cells acc
theorem clOf_eq {env : Env} : ∀ (names : List (Str × NameKind)) (acc : List (Str × Addr)), (∀ y ∈ names, y.2 = .free → ∃ c, env.cells.lookup y.1 = some c) →
    (forIn names acc fun (x : Str × NameKind) r => if x.2 == .free then do let a ← cellOf env x.1; pure (ForInStep.yield ((x.1, a) :: r)) else pure (ForInStep.yield r) : Sem (List (Str × Addr))) = pure (clOf names env.cells acc)
  | [], acc, _ => rfl
  | (n, k) :: r, acc, h => by
    rw [List.forIn_cons]
    unfold clOf
    by_cases hk : (k == NameKind.free) = true
    · obtain ⟨c, hc⟩ := h (n, k) List.mem_cons_self (by simpa using hk)
      have hc' : env.cells.lookup n = some c := hc
      rw [if_pos hk, if_pos hk]
      unfold cellOf
      rw [hc']
      exact clOf_eq r _ fun y hy => h y (List.mem_cons_of_mem _ hy)
    · rw [if_neg hk, if_neg hk]
      exact clOf_eq r _ fun y hy => h y (List.mem_cons_of_mem _ hy)
theorem closure_eq {env : Env} {scope : Scope} (h : ∀ y ∈ scope.names, y.2 = .free → ∃ c, env.cells.lookup y.1 = some c) : closureFor scope env = pure (clOf scope.names env.cells []) := by
  unfold closureFor
  have := clOf_eq (env := env) scope.names [] h
  exact (bind_congr fun _ => rfl).trans ((congrArg (· >>= pure) this).trans rfl)
end L2

namespace L2
open PySem PySem.Spec PyProof.Rows

/-- a generator's block: its own frame above all that run -/
def cxGen (X : Cx) (scope : Scope) (cl : List (Str × Addr)) (C : Addr) (code : Value) (N : List Str) (A : Around) (s₀ : Shared) (H : Hp) (fp : List Addr) : Cx where
  prog := X.prog
  w := X.w
  K := X.K
  mg := X.mg
  base := X.base
  A := A
  N := N
  s₀ := s₀
  H₀ := H
  env := genEnv scope cl C code builtinsNs X.env
  outer := X.stack
  stack := genEnv scope cl C code builtinsNs X.env :: X.stack
  ex := fp
  fn := fun _ => false
  calm := true
  pn := []
  xe := fun _ _ => False

/-- the block's names that are free there: (its place in the block, its place outside) -/
def Frees (X : Cx) (sc : Scope) (N : List Str) : List (Nat × Nat) → Prop
  | [] => True
  | (i, j) :: r => (∃ x, N[i]? = some x ∧ X.N[j]? = some x ∧ sc.names.lookup x = some .free ∧ (X.env.kindOf x = some .cell ∨ X.env.kindOf x = some .free)) ∧ Frees X sc N r
theorem Frees.mem {X : Cx} {sc : Scope} {N : List Str} : ∀ {fs : List (Nat × Nat)}, Frees X sc N fs → ∀ {i j : Nat}, (i, j) ∈ fs →
    ∃ x, N[i]? = some x ∧ X.N[j]? = some x ∧ sc.names.lookup x = some .free ∧ (X.env.kindOf x = some .cell ∨ X.env.kindOf x = some .free)
  | [], _, _, _, h => by cases h
  | (a, b) :: r, F, i, j, h => by
    rcases List.mem_cons.mp h with e | h
    · cases e
      exact F.1
    · exact Frees.mem F.2 h
/-- what a block knows of its names when it begins -/
def tau (n : Nat) (fs : List (Nat × Nat)) (σ : St) : St := (List.range n).map fun i => match fs.lookup i with
  | some j => (match σ[j]? with | some v => v | none => none)
  | none => none
theorem tau_len (n : Nat) (fs : List (Nat × Nat)) (σ : St) : (tau n fs σ).length = n := by simp [tau]
theorem mem_lookupN : ∀ {fs : List (Nat × Nat)} {k j : Nat}, fs.lookup k = some j → (k, j) ∈ fs
  | [], _, _, h => by cases h
  | (a, b) :: r, k, j, h => by
    rw [List.lookup_cons] at h
    split at h
    · rename_i e
      cases h
      rw [eq_of_beq e]
      exact List.mem_cons_self
    · exact List.mem_cons_of_mem _ (mem_lookupN h)
theorem tau_get {n : Nat} {fs : List (Nat × Nat)} {σ : St} {i : Nat} {v : V} (h : (tau n fs σ)[i]? = some (some v)) : ∃ j, (i, j) ∈ fs ∧ σ[j]? = some (some v) := by
  unfold tau at h
  rw [List.getElem?_map] at h
  cases e : (List.range n)[i]? with
  | none => rw [e] at h; cases h
  | some k =>
    rw [e] at h
    have ek : k = i := by
      obtain ⟨h1, h2⟩ := List.getElem?_eq_some_iff.mp e
      simpa using h2.symm
    subst ek
    have h := Option.some.inj h
    dsimp only at h
    cases e1 : fs.lookup k with
    | none => rw [e1] at h; cases h
    | some j =>
      rw [e1] at h
      dsimp only at h
      cases e2 : σ[j]? with
      | none => rw [e2] at h; cases h
      | some w =>
        rw [e2] at h
        have h : w = some v := h
        subst h
        exact ⟨j, mem_lookupN e1, e2⟩
theorem clOf_back {cells : List (Str × Addr)} {y : Str} {c : Addr} : ∀ {names : List (Str × NameKind)} {acc : List (Str × Addr)}, (acc.lookup y = some c → cells.lookup y = some c) → (clOf names cells acc).lookup y = some c → cells.lookup y = some c
  | [], _, h, e => h e
  | (n, k) :: r, acc, h, e => by
    unfold clOf at e
    split at e
    · split at e
      · rename_i a ha
        refine clOf_back (names := r) (fun q => ?_) e
        rw [List.lookup_cons] at q
        split at q
        · rename_i hy
          cases q
          rw [eq_of_beq hy]
          exact ha
        · exact h q
      · exact h e
    · exact clOf_back (names := r) h e
theorem clOf_keeps {cells : List (Str × Addr)} {y : Str} : ∀ {names : List (Str × NameKind)} {acc : List (Str × Addr)}, (acc.lookup y).isSome = true → ((clOf names cells acc).lookup y).isSome = true
  | [], _, h => h
  | (n, k) :: r, acc, h => by
    unfold clOf
    split
    · split
      · refine clOf_keeps (names := r) ?_
        rw [List.lookup_cons]
        split
        · rfl
        · exact h
      · exact h
    · exact clOf_keeps (names := r) h
theorem clOf_has {cells : List (Str × Addr)} {y : Str} : ∀ {names : List (Str × NameKind)} {acc : List (Str × Addr)}, (∀ z ∈ names, z.2 = .free → ∃ c, cells.lookup z.1 = some c) → (y, NameKind.free) ∈ names → ((clOf names cells acc).lookup y).isSome = true
  | [], _, _, m => by cases m
  | (n, k) :: r, acc, h, m => by
    unfold clOf
    rcases List.mem_cons.mp m with e | m
    · cases e
      obtain ⟨c, hc⟩ := h (y, .free) List.mem_cons_self rfl
      have hc : cells.lookup y = some c := hc
      rw [if_pos (by rfl), hc]
      refine clOf_keeps ?_
      rw [List.lookup_cons, beq_self_eq_true]
      rfl
    · split
      · split
        · exact clOf_has (fun z hz => h z (List.mem_cons_of_mem _ hz)) m
        · rename_i hk _ hn
          obtain ⟨c, hc⟩ := h (n, k) List.mem_cons_self (by simpa using hk)
          have hc : cells.lookup n = some c := hc
          rw [hn] at hc
          cases hc
      · exact clOf_has (fun z hz => h z (List.mem_cons_of_mem _ hz)) m

section
variable {X : Cx} {scope : Scope} {cl : List (Str × Addr)} {C : Addr} {code : Value} {N : List Str} {s₀ : Shared} {H : Hp} {fp : List Addr} {A0 : Around} {it : Addr} {tn : Nat → Heap → Prop} {J : It}
  {tg elt iter : Expr} {pos : Pos} {pins : List (Addr × Obj)} {τ : St} {n : Nat} {p : Nat → Bool} {G : Hp → Prop} {g : TG} {te : TE}
/-- where a generator has come to its end -/
def gEnd (Y : Cx) (pins : List (Addr × Obj)) (τ : St) (G : Hp → Prop) : Nat → Shared → Shared → Prop := fun m _ s => m = 0 ∧ ∃ H', G H' ∧ Inv Y pins τ H' s
/-- what it hands out, and how it goes on -/
def gProto (Y : Cx) (pins : List (Addr × Obj)) (τ : St) (G : Hp → Prop) (n : Nat) (p : Nat → Bool) : Protocol := fun m u v s kap =>
  (∃ H', G H' ∧ Inv Y pins τ H' s) ∧ v = .bool (p (n - 1 - m)) ∧ u.gens.size ≤ s.gens.size ∧ ∀ s2, s2.heap = s.heap → s2.os = s.os → AllBare s2.gens → kap (.send .none) s2
abbrev gCode (elt tg iter : Expr) (scope : Scope) (pos : Pos) (it : Addr) (cenv : Env) : Code := .compLoop (.GeneratorExp elt [⟨tg, iter, [], 0⟩] scope pos) 0 (.ref it) .none cenv
/-- what one turn of the block wants -/
def gTurn (J : It) (g : TG) (te : TE) (τ : St) (G : Hp → Prop) (n : Nat) (p : Nat → Bool) : Prop := ∀ H2, G H2 → J.stop n H2 ∧ ∀ i, i < n → J.go i H2 ∧
  ∀ x H3, J.yld i H2 x H3 → g x τ H3 fun τ4 H4 => (∀ (j : Nat) v, τ[j]? = some (some v) → τ4[j]? = some (some v)) ∧ te τ4 H4 fun v H5 => G H5 ∧ v = .bl (p i)

theorem seg_gen (T : Turn X.prog X.w X.K tg J fp it tn) (hco : scope.isCoroutine = false)
    (hg : PG (cxGen X scope cl C code N (A0.over (gCode elt tg iter scope pos it (genEnv scope cl C code builtinsNs X.env)) []) s₀ H fp) tg g)
    (he : PE (cxGen X scope cl C code N (A0.over (gCode elt tg iter scope pos it (genEnv scope cl C code builtinsNs X.env)) []) s₀ H fp) elt te)
    (hf : ∀ b ∈ fp, b ≠ C ∧ b ∉ frs X.stack ∧ (∀ x c, cl.lookup x = some c → c ≠ b) ∧ ∀ q ∈ pins, q.1 ≠ b) (ht : gTurn J g te τ G n p) :
    ∀ (k i : Nat) (u s : Shared) (H2 : Hp), n - i = k → i ≤ n → G H2 → (∀ b ∈ fp, H2 b = none) → Inv (cxGen X scope cl C code N (A0.over (gCode elt tg iter scope pos it (genEnv scope cl C code builtinsNs X.env)) []) s₀ H fp) pins τ H2 s → tn i s.heap →
      u.gens.size ≤ s.gens.size →
      Seg (model X.prog X.w) A0 (fun m u r s1 => r = .ok .next ∧ gEnd (cxGen X scope cl C code N (A0.over (gCode elt tg iter scope pos it (genEnv scope cl C code builtinsNs X.env)) []) s₀ H fp) pins τ G m u s1)
        (gProto (cxGen X scope cl C code N (A0.over (gCode elt tg iter scope pos it (genEnv scope cl C code builtinsNs X.env)) []) s₀ H fp) pins τ G n p) (n - i) u
        (gCode elt tg iter scope pos it (genEnv scope cl C code builtinsNs X.env)) ((model X.prog X.w).den (gCode elt tg iter scope pos it (genEnv scope cl C code builtinsNs X.env))) [] s := by
  generalize hY : cxGen X scope cl C code N (A0.over (gCode elt tg iter scope pos it (genEnv scope cl C code builtinsNs X.env)) []) s₀ H fp = Y at hg he ⊢
  generalize hce : genEnv scope cl C code builtinsNs X.env = cenv at hY ⊢
  have eP : Y.prog = X.prog := by rw [← hY]; rfl
  have ew : Y.w = X.w := by rw [← hY]; rfl
  have eK : Y.K = X.K := by rw [← hY]; rfl
  have ec : Y.calm = true := by rw [← hY]; rfl
  have eA : Y.A = A0.over (gCode elt tg iter scope pos it cenv) [] := by rw [← hY]; rfl
  have ex : Y.xe = fun _ _ => False := by rw [← hY]; rfl
  have ee : Y.env = cenv := by rw [← hY, ← hce]; rfl
  have fpk' : ∀ {H2 : Hp}, (∀ b ∈ fp, H2 b = none) → ∀ b ∈ fp, FpOk Y pins H2 b := fun {H2} h b hb => by
    obtain ⟨a1, a2, a3, a4⟩ := hf b hb
    refine ⟨h b hb, ?_, ?_, ?_, ?_, ?_⟩
    · rw [ee, ← hce]; exact a1
    · rw [← hY]; exact a2
    · rw [← hY]; exact .inl hb
    · rw [ee, ← hce]; exact a3
    · rw [← hY]; exact a4
  clear hY
  intro k
  induction k with
  | zero =>
    intro i u s H2 hk hi hG fr I st hu
    have hin : i = n := by omega
    subst hin
    show Seg _ A0 _ _ _ u _ ((compTurn (.GeneratorExp elt [⟨tg, iter, [], 0⟩] scope pos) 0 (.ref it) .none cenv).onRaise (leaving cenv)) [] s
    rw [Sem.onRaise_eq_wrap, compTurn_gen]
    refine seg_bind_wrap (wpAny_standAt (seg_bind_wrap ?_))
    have h1 := T.done Y eP ew eK ec i pins s τ H2 (fun _ _ => False) I (fpk' fr) st (ht H2 hG).1
    rw [eA] at h1
    refine wpAny_mono h1 (fun r s1 h => ?_) fun _ _ f => f.elim
    obtain ⟨hr, I1⟩ := h
    subst hr
    exact seg_end (.ok .next) ⟨rfl, by omega, H2, hG, I1⟩
  | succ k ih =>
    intro i u s H2 hk hi hG fr I st hu
    have hlt : i < n := by omega
    obtain ⟨m, hm⟩ : ∃ m, n - i = m + 1 := ⟨n - i - 1, by omega⟩
    obtain ⟨go, turn⟩ := (ht H2 hG).2 i hlt
    show Seg _ A0 _ _ _ u _ ((compTurn (.GeneratorExp elt [⟨tg, iter, [], 0⟩] scope pos) 0 (.ref it) .none cenv).onRaise (leaving cenv)) [] s
    rw [Sem.onRaise_eq_wrap, compTurn_gen, hm]
    refine seg_bind_wrap (wpAny_standAt (seg_bind_wrap ?_))
    have h1 := T.item Y eP ew eK ec i pins s τ H2 (fun _ _ => False) I (fpk' fr) st go
    rw [eA] at h1
    refine thnG h1 (fun r s1 g1 h => ?_) fun _ _ _ f => f.elim
    obtain ⟨v, hr, h2⟩ := h
    subst hr
    refine seg_bind_wrap (thnG h2 (fun _ s2 g2 h => ?_) fun _ _ _ f => f.elim)
    obtain ⟨x, H3, I3, rx, y3, st3, fr3⟩ := h
    have I3' := I3.pinned (fpk' fr3) (T.obj _ _ st3)
    have h3 := hg _ s2 τ H3 x v _ I3' rx (turn x H3 y3)
    rw [eP, ew, eA, ee, ex] at h3
    refine seg_bind_wrap (thnG h3 (fun _ s3 g3 h => ?_) fun _ _ _ f => f.elim)
    obtain ⟨τ4, H4, I4, w4, q4⟩ := h
    refine seg_bind_wrap (wpAny_pure ?_)
    simp only [if_true]
    have hy : ∀ v, yieldOut cenv v = yieldValue v := fun v => by
      rw [← hce]
      simp only [yieldOut, genEnv, hco, Bool.false_eq_true, if_false]
    have h4 := he _ s3 τ4 H4 _ I4 q4
    rw [eP, ew, eA, ee, ex] at h4
    simp only [hy]
    rw [Sem.bind_eq_wrap', Sem.bind_eq_wrap', Sem.wrap_wrap, Sem.wrap_wrap]
    refine seg_wrap (thnG h4 (fun y s4 g4 h => ?_) fun _ _ _ f => f.elim)
    obtain ⟨y', H5, I5, ry, hG5, ey⟩ := h
    subst ey
    obtain rfl : y = Value.bool (p i) := ry
    have st5 : tn (i + 1) s4.heap := T.keep _ _ _ st3 fun b hb o e => (I5.pin (b, o) (List.mem_append_right _ (List.mem_append_right _ (mem_pinsAt hb e)))).1
    have fr5 : ∀ b ∈ fp, H5 b = none := fun b hb => by
      obtain ⟨o, e, _⟩ := T.obj _ _ st3 b hb
      exact (I5.pin (b, o) (List.mem_append_right _ (List.mem_append_right _ (mem_pinsAt hb e)))).2.1
    have I5' : Inv Y pins τ H5 s4 := I5.unpinned.weak (I.len.trans I5.len.symm) w4
    refine seg_at (seg_yield rfl rfl rfl ⟨⟨H5, hG5, I5'⟩, ?_, by omega, fun s5 e1 e2 e3 => ?_⟩)
    · rw [show n - 1 - m = i by omega]
    · have q := ih (i + 1) s5 s5 H5 (by omega) hlt hG5 fr5 (I5'.like e1 e2 e3) (by rw [e1]; exact st5) (Nat.le_refl _)
      rw [show n - (i + 1) = m by omega] at q
      exact seg_again rfl q
end
end L2

namespace L2
open PySem PySem.Spec PyProof.Rows

section
variable {prog : Program} {w : World} {A : Around} {E : Value → Shared → Prop} {Y : Cx} {pins : List (Addr × Obj)} {τ : St} {G : Hp → Prop} {n : Nat} {p : Nat → Bool} {a : Addr} {g : Nat}
/-- the generator g, its object at a, stands ahead of its i-th item -/
def gAt (prog : Program) (w : World) (A : Around) (Y : Cx) (pins : List (Addr × Obj)) (τ : St) (G : Hp → Prop) (n : Nat) (p : Nat → Bool) (g i : Nat) (s : Shared) : Prop :=
  (∃ H', G H' ∧ Inv Y pins τ H' s) ∧ ∃ gs, s.gens[g]? = some gs ∧ ∀ s2, s2.heap = s.heap → s2.os = s.os → AllBare s2.gens →
    gs.Goes (model prog w) A.in1 (fun m u r s1 => r = .ok .next ∧ gEnd Y pins τ G m u s1) (gProto Y pins τ G n p) (n - i) (.send .none) s2
theorem bare_set {gens : Array GenState} {g : Nat} {x : GenState} (h : AllBare gens) (hx : x.bare = true) : AllBare (gens.setIfInBounds g x) := fun y hy => by
  rcases Array.mem_or_eq_of_mem_setIfInBounds hy with z | z
  · exact h y z
  · rw [z]; exact hx
theorem get_set {s : Shared} {g : Nat} {x : GenState} (h : g < s.gens.size) : (s.setGen g x).gens[g]? = some x := by simp [Shared.setGen, h]
theorem lt_of_get {gens : Array GenState} {g : Nat} {x : GenState} (h : gens[g]? = some x) : g < gens.size := by
  rcases Nat.lt_or_ge g gens.size with q | q
  · exact q
  · rw [Array.getElem?_eq_none q] at h
    cases h
theorem next_gen {Q : Option Value → Shared → Prop} (hh : A.handled = none) (hr : A.depth < recursionLimit) (hpin : ∃ o, (a, o) ∈ pins ∧ o.cls = .type "generator" ∧ (∃ nm qn, o.data = .fields #[.int g 0, nm, qn]) ∧ o.slots = #[])
    {i : Nat} {s : Shared} (hi : i ≤ n) (h : gAt prog w A Y pins τ G n p g i s) (hQ : ∀ s', (i < n → gAt prog w A Y pins τ G n p g (i + 1) s' → Q (some (.bool (p i))) s') ∧ (i = n → (∃ H', G H' ∧ Inv Y pins τ H' s') → Q none s')) :
    wpAny (model prog w) A (pyNext (.ref a)) Q E s := by
  obtain ⟨⟨H0, hG0, I0⟩, gs, hgs, hgo⟩ := h
  obtain ⟨o, ho, hc, ⟨nm, qn, hd⟩, hs⟩ := hpin
  have hg : s.heap.IsGen a g := ⟨o, nm, qn, (I0.pin (a, o) (List.mem_append_right _ ho)).1, hc, hd, hs⟩
  have hlt := lt_of_get hgs
  refine wpAny_pyNext_genexpQ (P := gEnd Y pins τ G) (Y := gProto Y pins τ G n p) (n := n - i) hh I0.nolimit hr hg hgs (hgo _ rfl rfl (bare_set I0.bare rfl)) (fun v s1 gs' hb hv => ?_) (fun s1 hp h' hk => ?_)
  · obtain ⟨⟨H1, hG1, I1⟩, ev, hsz, hkap⟩ := hv
    have hsz : s.gens.size ≤ s1.gens.size := by
      have : (s.setGen g .running).gens.size = s.gens.size := by simp [Shared.setGen]
      rw [this] at hsz
      exact hsz
    have hin : i < n := by
      rcases Nat.lt_or_ge i n with q | q
      · exact q
      · have z : n - i = 0 := by omega
        rw [z] at hkap
        exact (hkap s1 rfl rfl I1.bare).elim
    obtain ⟨m, hm⟩ : ∃ m, n - i = m + 1 := ⟨n - i - 1, by omega⟩
    rw [show n - 1 - (n - i - 1) = i by omega] at ev
    subst ev
    rw [hm] at hkap
    have hb' : AllBare (s1.setGen g gs').gens := bare_set I1.bare hb
    refine (hQ _).1 hin ⟨⟨H1, hG1, I1.like rfl rfl hb'⟩, gs', get_set (Nat.lt_of_lt_of_le hlt hsz), fun s2 e1 e2 e3 => ?_⟩
    rw [show n - (i + 1) = m by omega]
    exact hkap s2 e1 e2 e3
  · obtain ⟨hn, H1, hG1, I1⟩ := hp
    have I2 : Inv Y pins τ H1 { s1 with heap := h', toks := s1.toks } := I1.kept hk
    exact (hQ _).2 (by omega) ⟨H1, hG1, I2.like rfl rfl (bare_set I1.bare rfl)⟩

theorem all_loop {R : Result → Shared → Prop} (hh : A.handled = none) (hr : A.in1.depth < recursionLimit) (hpin : ∃ o, (a, o) ∈ pins ∧ o.cls = .type "generator" ∧ (∃ nm qn, o.data = .fields #[.int g 0, nm, qn]) ∧ o.slots = #[]) :
    ∀ (k i : Nat) (s : Shared), n - i = k → i ≤ n → gAt prog w A.in1 Y pins τ G n p g i s → (∀ s', (∃ H', G H' ∧ Inv Y pins τ H' s') → R (.ok (.ret (.bool (((List.range n).drop i).all p)))) s') →
      codeAny (model prog w) A (.builtin "all.loop" ⟨[.ref a], []⟩) R s := by
  intro k
  induction k with
  | zero =>
    intro i s hk hi h hR
    have e : i = n := by omega
    subst e
    refine codeAny_builtin F.entry_all_loop ?_
    rw [Around.under_plainId F.plain_all_loop _]
    show wpAny _ A.in1 (pyNext (.ref a) >>= _) _ _ s
    refine wpAny_bind (next_gen (A := A.in1) hh hr hpin hi h fun s' => ⟨fun z => absurd z (Nat.lt_irrefl _), fun _ q => ?_⟩)
    refine wpAny_bind (wpAny_rule (wpAny_pure ?_))
    have z := hR s' q
    rw [List.drop_of_length_le (by simp)] at z
    exact z
  | succ k ih =>
    intro i s hk hi h hR
    have hlt : i < n := by omega
    have hd : (List.range n).drop i = i :: (List.range n).drop (i + 1) := range_drop hlt
    refine codeAny_builtin F.entry_all_loop ?_
    rw [Around.under_plainId F.plain_all_loop _]
    show wpAny _ A.in1 (pyNext (.ref a) >>= _) _ _ s
    refine wpAny_bind (next_gen (A := A.in1) hh hr hpin hi h fun s' => ⟨fun _ q => ?_, fun z => absurd z (by omega)⟩)
    refine wpAny_bind (wpAny_holding (wpAny_truthy_bool (wpAny_bind (wpAny_letGo ?_))))
    cases hb : p i with
    | true =>
      simp only [if_true]
      refine wpAny_pure ⟨plainId_quiet F.plain_all_loop _, ih (i + 1) s' (by omega) hlt q fun s2 z => ?_⟩
      have y := hR s2 z
      rw [hd, List.all_cons, hb, Bool.true_and] at y
      exact y
    | false =>
      simp only [Bool.false_eq_true, if_false]
      refine wpAny_bind (wpAny_rule (wpAny_pure ?_))
      have y := hR s' q.1
      rw [hd, List.all_cons, hb, Bool.false_and] at y
      exact y
theorem any_loop {R : Result → Shared → Prop} (hh : A.handled = none) (hr : A.in1.depth < recursionLimit) (hpin : ∃ o, (a, o) ∈ pins ∧ o.cls = .type "generator" ∧ (∃ nm qn, o.data = .fields #[.int g 0, nm, qn]) ∧ o.slots = #[]) :
    ∀ (k i : Nat) (s : Shared), n - i = k → i ≤ n → gAt prog w A.in1 Y pins τ G n p g i s → (∀ s', (∃ H', G H' ∧ Inv Y pins τ H' s') → R (.ok (.ret (.bool (((List.range n).drop i).any p)))) s') →
      codeAny (model prog w) A (.builtin "any.loop" ⟨[.ref a], []⟩) R s := by
  intro k
  induction k with
  | zero =>
    intro i s hk hi h hR
    have e : i = n := by omega
    subst e
    refine codeAny_builtin F.entry_any_loop ?_
    rw [Around.under_plainId F.plain_any_loop _]
    show wpAny _ A.in1 (pyNext (.ref a) >>= _) _ _ s
    refine wpAny_bind (next_gen (A := A.in1) hh hr hpin hi h fun s' => ⟨fun z => absurd z (Nat.lt_irrefl _), fun _ q => ?_⟩)
    refine wpAny_bind (wpAny_rule (wpAny_pure ?_))
    have z := hR s' q
    rw [List.drop_of_length_le (by simp)] at z
    exact z
  | succ k ih =>
    intro i s hk hi h hR
    have hlt : i < n := by omega
    have hd : (List.range n).drop i = i :: (List.range n).drop (i + 1) := range_drop hlt
    refine codeAny_builtin F.entry_any_loop ?_
    rw [Around.under_plainId F.plain_any_loop _]
    show wpAny _ A.in1 (pyNext (.ref a) >>= _) _ _ s
    refine wpAny_bind (next_gen (A := A.in1) hh hr hpin hi h fun s' => ⟨fun _ q => ?_, fun z => absurd z (by omega)⟩)
    refine wpAny_bind (wpAny_holding (wpAny_truthy_bool (wpAny_bind (wpAny_letGo ?_))))
    cases hb : p i with
    | false =>
      simp only [Bool.false_eq_true, if_false]
      refine wpAny_pure ⟨plainId_quiet F.plain_any_loop _, ih (i + 1) s' (by omega) hlt q fun s2 z => ?_⟩
      have y := hR s2 z
      rw [hd, List.any_cons, hb, Bool.false_or] at y
      exact y
    | true =>
      simp only [if_true]
      refine wpAny_bind (wpAny_rule (wpAny_pure ?_))
      have y := hR s' q.1
      rw [hd, List.any_cons, hb, Bool.true_or] at y
      exact y
end
end L2

namespace L2
open PySem PySem.Spec PyProof.Rows
/-- the module's name of the built-ins -/
def BltK (base : Heap) : Prop := ∀ (M : Model) (A : Around) (E : Value → Shared → Prop) (s : Shared) (Q : Addr → Shared → Prop), (∀ b o, base.get? b = some o → s.heap.get? b = some o) → Q builtinsNs s → wpAny M A (builtinsFor mainGlobals builtinsNs) Q E s
theorem bltK_of {base : Heap} {mg : Str → Option Value} {bm : Addr} {ob : Obj} (g : base.Ns mainGlobals mg) (e : mg "__builtins__" = some (.ref bm)) (ne : bm ≠ builtinsNs) (ho : base.get? bm = some ob) (hc : ob.cls = .type "module") (hd : ob.dict = some builtinsNs) (hp : ob.data = .plain) : BltK base :=
  fun _ _ _ _ _ k q => wpAny_builtinsFor (g.keeps k) e ne (k _ _ ho) hc hd hp q

/-- a generator's block as the text has it -/
structure GenSc (X : Cx) (scope : Scope) (N : List Str) (fs : List (Nat × Nat)) : Prop where
  co : scope.isCoroutine = false
  kind : scope.kind = .function
  zero : scope.names.lookup (".0" : Str) = some NameKind.local
  cell : (scope.names.all fun y => y.2 != .cell) = true
  free : (scope.names.all fun y => y.2 != .free || (X.env.kindOf y.1 == some .cell || X.env.kindOf y.1 == some .free)) = true
  fs : Frees X scope N fs

def tG (K : PySem.W.Frag) (fold : Nat → (Nat → Bool) → Bool) (P : Addr) (nN : Nat) (fs : List (Nat × Nat)) (wi : TI) (g : TG) (te : TE) : TE := fun σ H Q =>
  wi σ H fun J H1 => H1 P = some (Tb P) ∧ ∃ n p G, G H1 ∧ gTurn J g te (tau nN fs σ) G n p ∧ ∀ H2, G H2 → Q (.bl (fold n p)) H2

section
variable {X : Cx} {scope : Scope} {N : List Str} {fs : List (Nat × Nat)} {tg elt iter : Expr} {gpos cpos np : Pos} {k : Nat} {P : Addr} {wi : TI} {g : TG} {te : TE}
theorem room_gen {A : Around} {c : Code} (hr : Room (k + 1) A) (hw : c.weight ≤ 1) (hu : c.cUnits ≤ 3) : Room k (A.in1.in1.over c []) := by
  have h1 := hr.dp
  have h2 := hr.un
  refine ⟨hr.hd, ?_, ?_⟩
  · show A.depth + 0 + c.weight + 3 * k + 5 < _
    omega
  · show A.units + 1 + 1 + 0 + c.cUnits + 16 * k + 200 < _
    omega

theorem gen_rule {id : String} {fold : Nat → (Nat → Bool) → Bool} (S : GenSc X scope N fs) (hB : BltK X.base) (hc : CodeK X.K X.env.code P) (hr : Room (k + 1) X.A)
    (hi : PI X tg iter wi) (hg : ∀ A cl C code s₀ H fp, PG (cxGen X scope cl C code N A s₀ H fp) tg g) (he : ∀ A cl C code s₀ H fp, Room k A → PE (cxGen X scope cl C code N A s₀ H fp) elt te)
    (hs : ∀ x, genFold iter X.env x = pure x)
    (hcall : ∀ (Y : Cx) (pins : List (Addr × Obj)) (τ : St) (G : Hp → Prop) (n : Nat) (p : Nat → Bool) (a : Addr) (g : Nat) (s : Shared) (Q : Value → Shared → Prop),
      (∃ o, (a, o) ∈ pins ∧ o.cls = .type "generator" ∧ (∃ nm qn, o.data = .fields #[.int g 0, nm, qn]) ∧ o.slots = #[]) → gAt X.prog X.w X.A.in1 Y pins τ G n p g 0 s → (∀ s', (∃ H', G H' ∧ Inv Y pins τ H' s') → Q (.bool (fold n p)) s') →
      wpAny (model X.prog X.w) X.A (call (.builtin id) [.ref a]) Q X.xe s)
    {x : Str} (hgl : Gl X x) (hm : X.mg x = none) (hv : bootBuiltins x = some (.builtin id)) (hn : x ≠ "__name__") (hdb : (x == ("__debug__" : Str)) = false) :
    PE X (.Call (.Name x np) [.GeneratorExp elt [⟨tg, iter, [], 0⟩] scope gpos] [] cpos) (tG X.K fold P N.length fs wi g te) := by
  intro pins s σ H Q I h
  refine wpAny_Call_Name_kw (ld_blt I hgl hm hv ?_ hn hdb)
  refine PyProof.Rows.callWith_builtin1 (Calls.spliced_cons ?_) rfl rfl
  have hfree : ∀ y ∈ scope.names, y.2 = .free → ∃ c, X.env.cells.lookup y.1 = some c := fun y hy hf => by
    have q := List.all_eq_true.mp S.free y hy
    rw [hf] at q
    refine I.ok.has y.1 ?_
    simpa using q
  have hcell : ∀ y ∈ scope.names, y.2 ≠ .cell := fun y hy => by simpa using List.all_eq_true.mp S.cell y hy
  have hclo := closure_eq hfree
  generalize hcl : clOf scope.names X.env.cells [] = cl at hclo
  have back : ∀ {y c}, cl.lookup y = some c → X.env.cells.lookup y = some c := fun {y c} e => clOf_back (names := scope.names) (acc := []) (fun z => by cases z) (by rw [hcl]; exact e)
  have hasc : ∀ {y}, scope.names.lookup y = some .free → ∃ c, cl.lookup y = some c := fun {y} e => by
    have := clOf_has (cells := X.env.cells) (acc := []) hfree (PySem.mem_of_lookup e)
    rw [hcl] at this
    exact Option.isSome_iff_exists.mp this
  refine wpAny_GeneratorExp_make S.co hclo hcell S.zero S.kind hr.depth (thn (hi pins s σ H _ I h) fun v s1 h1 => thn h1 fun itv s2 h2 => ?_) hs
  obtain ⟨it, fp, tn, J, H1, e, I2, T, st2, f2, hT, n, p, G, hG, ht, hq⟩ := h2
  subst e
  refine ⟨I2.nolimit, gen_code I2 hc hT fun code h3 tk3 I3 k3 => ?_⟩
  have fpP : ∀ b ∈ fp, b ≠ P := fun b hb z => by
    have := (f2 b hb).1
    rw [z, hT] at this
    cases this
  have st3 : tn 0 h3 := T.keep _ _ _ st2 fun b hb o e => k3 b o (fpP b hb) e
  rw [I.ok.glob, I.ok.blt]
  refine hB _ _ _ _ _ I3.bk fun h4 hns hsb => ?_
  have k4 : ∀ b o, h3.get? b = some o → h4.get? b = some o := fun b o e => hsb.extBut b o (Nat.ne_of_lt (Heap.lt_size e)) (Heap.get?_push_of_some _ e)
  have k5 : ∀ (og : Obj) b o, h3.get? b = some o → (h4.push og).get? b = some o := fun og b o e => Heap.get?_push_of_some _ (k4 b o e)
  refine Calls.spliced_nil ?_
  generalize hog : ({ cls := .type "generator", data := .fields #[.int s2.gens.size 0, .str "<genexpr>" (tk3 + 1), .str (X.env.qual ++ "<genexpr>") (tk3 + 1 + 1)] } : Obj) = og
  have fpl : ∀ b ∈ fp, b < h3.objs.size := fun b hb => let ⟨_, e, _⟩ := T.obj _ _ st3 b hb; Heap.lt_size e
  have fps : ∀ b ∈ fp, b ∉ frs X.stack := fun b hb z => by
    rcases List.mem_cons.mp (I2.stkSub b z) with q | q
    · exact (f2 b hb).2.1 q
    · exact (f2 b hb).2.2.1 q
  have s45 : h3.objs.size < h4.objs.size := by rw [hsb.1, Heap.size_push]; exact Nat.lt_succ_self _
  have ga : (h4.push og).get? h4.objs.size = some og := by rw [← hog]; exact Heap.get?_push_size _ rfl
  have hf : ∀ b ∈ fp, b ≠ h3.objs.size ∧ b ∉ frs X.stack ∧ (∀ x c, cl.lookup x = some c → c ≠ b) ∧ ∀ q ∈ [(h4.objs.size, og)], q.1 ≠ b := fun b hb =>
    ⟨Nat.ne_of_lt (fpl b hb), fps b hb, fun x c e => (f2 b hb).2.2.2.2.1 x c (back e), fun q hq => by
      rw [List.mem_singleton.mp hq]
      exact Nat.ne_of_gt (Nat.lt_trans (fpl b hb) s45)⟩
  have fr1 : ∀ b ∈ fp, H1 b = none := fun b hb => (f2 b hb).1
  let cenv := genEnv scope cl h3.objs.size code builtinsNs X.env
  let Y : Cx := cxGen X scope cl h3.objs.size code N (X.A.in1.in1.over (gCode elt tg iter scope gpos it cenv) []) { heap := h3, gens := s2.gens, drawn := s2.drawn, toks := tk3, os := s2.os } H1 fp
  have hYok : Y.Ok := by
    refine ⟨I3.ok.mod, S.kind, I.ok.glob, rfl, Nat.le_refl _, fun x y c e1 e2 => I3.ok.inj x y c (back e1) (back e2), fun x hx => ?_, fun x c z => (by cases z), fun _ => hr.hd, ?_, .inr ⟨rfl, rfl⟩, fun b hb => ⟨(hf b hb).1, (hf b hb).2.2.1⟩, I3.bs, Nat.le_trans I3.ok.bsz I3.sz,
      fun b o e hb => ?_, fps, I3.stack, I3.stkFree⟩
    · have hx : scope.names.lookup x = some .cell ∨ scope.names.lookup x = some .free := hx
      rcases hx with z | z
      · exact absurd rfl (hcell _ (PySem.mem_of_lookup z))
      · exact hasc z
    · show pushEnvs (Code.envs (gCode elt tg iter scope gpos it cenv)) (pushEnvs [] X.A.frames) = _
      rw [I.ok.frames]
      rfl
    · rcases (f2 b hb).2.2.2.1 with z | z
      · exact I3.ok.noex b o e z
      · exact absurd (Nat.lt_of_lt_of_le (Heap.lt_size e) (Nat.le_trans I3.ok.bsz z)) (Nat.lt_irrefl _)
  have IY : ∀ (gs : GenState) (tk : Nat), gs.bare = true → Inv Y [(h4.objs.size, og)] (tau N.length fs σ) H1 { heap := h4.push og, gens := s2.gens.push gs, drawn := s2.drawn, toks := tk, os := s2.os } := fun gs tk hb => by
    refine ⟨hYok, rfl, ?_, Un.kept (k5 og), ⟨_, hns.push _, fun i x v e1 e2 e3 => ?_⟩, fun x c e => ?_, I3.hok.fresh (Nat.le_refl _), fun x c e => I3.freeC x c (back e), fun q hq => ?_, I3.hok.kept (k5 og), tau_len _ _ _⟩
    · intro y hy
      rcases Array.mem_push.mp hy with z | z
      · exact I3.bare y z
      · rw [z]; exact hb
    · obtain ⟨j, hj, hv⟩ := tau_get e2
      obtain ⟨x', q1, q2, q3, q4⟩ := S.fs.mem hj
      have e1 : N[i]? = some x := e1
      rw [e1] at q1
      cases q1
      obtain ⟨m, _, hl⟩ := I3.loc
      obtain ⟨u, ru, lk⟩ := hl j x v q2 hv (by rcases q4 with z | z; exact .inr (.inl z); exact .inr (.inr z))
      refine ⟨u, ru, .inr ⟨.inr q3, ?_⟩⟩
      rcases lk with ⟨z, _⟩ | ⟨_, c, e, hcc⟩
      · rcases q4 with y | y <;> (rw [y] at z; cases z)
      · obtain ⟨c', e'⟩ := hasc q3
        have z := back e'
        rw [e] at z
        cases z
        obtain ⟨o, ho, hd⟩ := hcc
        exact ⟨c, e', o, k5 og _ _ ho, hd⟩
    · obtain ⟨v, o, ho, hd⟩ := I3.cell x c (back e)
      exact ⟨v, o, k5 og _ _ ho, hd⟩
    · have hq : q ∈ [(h4.objs.size, og)] := hq
      rw [List.mem_singleton.mp hq]
      refine ⟨ga, I3.hok.fresh (Nat.le_of_lt s45), Nat.ne_of_gt s45, fun z => ?_, fun v z => ?_⟩
      · obtain ⟨_, o, ho, _⟩ := I3.stack.mem z
        exact absurd (Nat.lt_trans (Heap.lt_size ho) s45) (Nat.lt_irrefl _)
      · rw [← hog] at z
        have z' : Data.fields _ = Data.cell v := z
        cases z'
  refine hcall Y [(h4.objs.size, og)] (tau N.length fs σ) G n p _ s2.gens.size _ _ ⟨og, List.mem_singleton.mpr rfl, by rw [← hog], by rw [← hog]; exact ⟨_, _, rfl⟩, by rw [← hog]⟩
    ⟨⟨H1, hG, IY _ _ rfl⟩, _, Array.getElem?_push_size .., fun s6 e1 e2 e3 => ⟨rfl, ?_⟩⟩ fun s' ⟨H', hG', I'⟩ => ?_
  · have st6 : tn 0 s6.heap := by
      rw [e1]
      exact T.keep _ _ _ st3 fun b _ o e => k5 og b o e
    have loop := seg_gen (A0 := X.A.in1.in1) T S.co (hg _ cl _ code _ H1 fp) (he _ cl _ code { heap := h3, gens := s2.gens, drawn := s2.drawn, toks := tk3, os := s2.os } H1 fp (room_gen hr (Nat.le_of_eq rfl) (Nat.le_of_eq rfl))) hf ht n 0 s6 s6 H1 rfl (Nat.zero_le _) hG fr1
      ((IY .running 0 rfl).like e1 e2 e3) st6 (Nat.le_refl _)
    show Seg _ X.A.in1.in1 _ _ _ s6 _ ((compStart (.GeneratorExp elt [⟨tg, iter, [], 0⟩] scope gpos) 0 (.ref it) .none cenv).onRaise (leaving cenv)) [] s6
    rw [Sem.onRaise_eq_wrap]; unfold compStart
    show Seg _ X.A.in1.in1 _ _ _ s6 _ ((ask >>= _).wrap _ _ _ _) [] s6
    refine seg_bind_wrap (wpAny_askSetting ?_)
    split
    · exact seg_again rfl loop
    · refine seg_bind_wrap (wpAny_rule (seg_bind_wrap (wpAny_standAt (seg_bind_wrap ?_))))
      exact T.self _ 0 s6 _ _ st6 (seg_again rfl loop)
  · refine ⟨.bl (fold n p), H', I3.call' I'.os I'.base I'.hok I'.bare fun b hb => ?_, rfl, hq H' hG'⟩
    obtain ⟨_, z1, z2, z3, z4, z5⟩ := f2 b hb
    exact ⟨z3, z1, z4, z5⟩
end
end L2

namespace L2
open PySem PySem.Spec PyProof.Rows
section
variable {X : Cx} {scope : Scope} {N : List Str} {fs : List (Nat × Nat)} {tg elt iter : Expr} {gpos cpos np : Pos} {k : Nat} {P : Addr} {wi : TI} {g : TG} {te : TE}
def allN (n : Nat) (p : Nat → Bool) : Bool := (List.range n).all p
def anyN (n : Nat) (p : Nat → Bool) : Bool := (List.range n).any p
/-- all(elt for tg in iter) -/
theorem pe_allG (S : GenSc X scope N fs) (hB : BltK X.base) (hc : CodeK X.K X.env.code P) (hr : Room (k + 1) X.A) (hgl : Gl X "all") (hm : X.mg "all" = none)
    (hi : PI X tg iter wi) (hg : ∀ A cl C code s₀ H fp, PG (cxGen X scope cl C code N A s₀ H fp) tg g) (he : ∀ A cl C code s₀ H fp, Room k A → PE (cxGen X scope cl C code N A s₀ H fp) elt te)
    (hs : ∀ x, genFold iter X.env x = pure x := by intro _; rfl) :
    PE X (.Call (.Name "all" np) [.GeneratorExp elt [⟨tg, iter, [], 0⟩] scope gpos] [] cpos) (tG X.K allN P N.length fs wi g te) := by
  refine gen_rule (id := "all") S hB hc hr hi hg he hs (fun Y pins τ G n p a g s Q hpin h hQ => ?_) hgl hm PyProof.Rows.boot_all (by decide) (by decide)
  refine call_function_tree PySem.F.kind_all PySem.F.plain_all PySem.F.entry_all (PySem.F.args_all1 _) ?_
  unfold Builtin.«all»
  obtain ⟨o, ho, hc, ⟨nm, qn, hd⟩, hs⟩ := id hpin
  obtain ⟨⟨H0, _, I0⟩, _⟩ := id h
  refine wpAny_bind (m := oneArg "all" _) (wpAny_pure (wpAny_bind (wpAny_pyIter_gen (g := g) ⟨o, nm, qn, (I0.pin (a, o) (List.mem_append_right _ ho)).1, hc, hd, hs⟩ ?_)))
  refine wpAny_pure ⟨plainId_quiet PySem.F.plain_all_loop _, all_loop hr.hd hr.depth hpin n 0 s rfl (Nat.zero_le _) h fun s' z => ?_⟩
  exact hQ s' z
/-- any(elt for tg in iter) -/
theorem pe_anyG (S : GenSc X scope N fs) (hB : BltK X.base) (hc : CodeK X.K X.env.code P) (hr : Room (k + 1) X.A) (hgl : Gl X "any") (hm : X.mg "any" = none)
    (hi : PI X tg iter wi) (hg : ∀ A cl C code s₀ H fp, PG (cxGen X scope cl C code N A s₀ H fp) tg g) (he : ∀ A cl C code s₀ H fp, Room k A → PE (cxGen X scope cl C code N A s₀ H fp) elt te)
    (hs : ∀ x, genFold iter X.env x = pure x := by intro _; rfl) :
    PE X (.Call (.Name "any" np) [.GeneratorExp elt [⟨tg, iter, [], 0⟩] scope gpos] [] cpos) (tG X.K anyN P N.length fs wi g te) := by
  refine gen_rule (id := "any") S hB hc hr hi hg he hs (fun Y pins τ G n p a g s Q hpin h hQ => ?_) hgl hm PyProof.Rows.boot_any (by decide) (by decide)
  refine call_function_tree PySem.F.kind_any PySem.F.plain_any PySem.F.entry_any (PySem.F.args_any1 _) ?_
  unfold Builtin.«any»
  obtain ⟨o, ho, hc, ⟨nm, qn, hd⟩, hs⟩ := id hpin
  obtain ⟨⟨H0, _, I0⟩, _⟩ := id h
  refine wpAny_bind (m := oneArg "any" _) (wpAny_pure (wpAny_bind (wpAny_pyIter_gen (g := g) ⟨o, nm, qn, (I0.pin (a, o) (List.mem_append_right _ ho)).1, hc, hd, hs⟩ ?_)))
  refine wpAny_pure ⟨plainId_quiet PySem.F.plain_any_loop _, any_loop hr.hd hr.depth hpin n 0 s rfl (Nat.zero_le _) h fun s' z => ?_⟩
  exact hQ s' z

/-! ### what the turns want, where the abstract heap stays as it is -/
/-- over a list of items xs, the element's answer by q -/
theorem turn_l {K : PySem.W.Frag} {a : Addr} {xs : List V} {H : Hp} {τ : St} {q : V → Bool} (hl : SqL K H a xs) (hτ : τ[0]? = some none) (h : ∀ x ∈ xs, te (τ.set 0 (some x)) H fun v H5 => H5 = H ∧ v = .bl (q x)) :
    gTurn (Itl K a) (gName 0) te τ (· = H) xs.length fun i => match xs[i]? with | some x => q x | none => false := by
  rintro _ rfl
  refine ⟨⟨xs, hl, Nat.le_refl _⟩, fun i hi => ⟨⟨xs, xs[i], hl, List.getElem?_eq_getElem hi⟩, ?_⟩⟩
  rintro x _ ⟨rfl, hx⟩
  have e := hx xs hl
  refine ⟨fun j v hj => ?_, ?_⟩
  · by_cases z : j = 0
    · subst z; rw [hτ] at hj; cases hj
    · rw [List.getElem?_set_ne (Ne.symm z)]; exact hj
  · dsimp only; rw [e]
    exact h x (List.mem_of_getElem? e)
theorem all_range {α : Type} (xs : List α) (q : α → Bool) : (List.range xs.length).all (fun i => match xs[i]? with | some x => q x | none => false) = xs.all q := by
  induction xs with
  | nil => rfl
  | cons x r ih =>
    rw [List.length_cons, List.range_succ_eq_map, List.all_cons, List.all_map, List.all_cons]
    exact congrArg (q x && ·) ih
end
end L2

/-! LIST COMPREHENSIONS of one clause. -/
namespace L2
open PySem PySem.Spec PyProof.Rows

/-- a comprehension's block: names of its own, the frames that run are those outside -/
def cxComp (X : Cx) (scope : Scope) (cl : List (Str × Addr)) (C : Addr) (N : List Str) (s₀ : Shared) (H : Hp) (fp : List Addr) : Cx where
  prog := X.prog
  w := X.w
  K := X.K
  mg := X.mg
  base := X.base
  A := X.A
  N := N
  s₀ := s₀
  H₀ := H
  env := compEnvC scope cl C X.env
  outer := X.stack
  stack := X.stack
  ex := fp
  fn := fun _ => false
  calm := true
  pn := []
  xe := fun _ _ => False

theorem map_lookup {f : Str × NameKind → Str × NameKind} (hf : ∀ y, (f y).1 = y.1) (x : Str) : ∀ names : List (Str × NameKind), (names.map f).lookup x = (names.lookup x).map fun k => (f (x, k)).2
  | [] => rfl
  | (n, k) :: r => by
    have e := hf (n, k)
    rw [List.map_cons]
    generalize hq : f (n, k) = q at e
    obtain ⟨n', k'⟩ := q
    have e : n' = n := e
    subst e
    rw [List.lookup_cons, List.lookup_cons]
    by_cases z : (x == n') = true
    · have y := eq_of_beq z
      subst y
      simp only [z, Option.map_some, hq]
    · have z : (x == n') = false := by simpa using z
      simp only [z]
      exact map_lookup hf x r
theorem relabel_look (scope : Scope) (env : Env) (x : Str) : (relabel scope env).names.lookup x = (scope.names.lookup x).map fun k => if (k == .free && env.scope.kind == .function && env.kindOf x == some .cell) then NameKind.cell else k := by
  unfold relabel
  refine (map_lookup (fun y => ?_) x scope.names).trans ?_
  · obtain ⟨n, k⟩ := y
    dsimp only
    split <;> rfl
  · cases scope.names.lookup x with
    | none => rfl
    | some k =>
      simp only [Option.map_some]
      split <;> rfl
theorem relabel_free {scope : Scope} {env : Env} {x : Str} (h : scope.names.lookup x = some .free) : (relabel scope env).names.lookup x = some .cell ∨ (relabel scope env).names.lookup x = some .free := by
  rw [relabel_look, h, Option.map_some]
  split
  · exact .inl rfl
  · exact .inr rfl
theorem relabel_back {scope : Scope} {env : Env} {x : Str} {κ : NameKind} (h : (relabel scope env).names.lookup x = some κ) : scope.names.lookup x = some κ ∨ scope.names.lookup x = some .free := by
  rw [relabel_look] at h
  cases e : scope.names.lookup x with
  | none => rw [e] at h; cases h
  | some k =>
    rw [e, Option.map_some] at h
    split at h
    · rename_i q
      simp only [Bool.and_eq_true, beq_iff_eq] at q
      right
      rw [q.1.1]
    · left
      exact h

structure CompSc (X : Cx) (scope : Scope) (N : List Str) (fs : List (Nat × Nat)) : Prop where
  kind : scope.kind = .function
  cell : (scope.names.all fun y => y.2 != .cell) = true
  free : (scope.names.all fun y => y.2 != .free || (X.env.kindOf y.1 == some .cell || X.env.kindOf y.1 == some .free)) = true
  own : (scope.names.all fun y => y.2 != .local || scope.names.lookup y.1 == some .local) = true
  fs : Frees X scope N fs

/-- the tests of a clause -/
def PTs (X : Cx) (ifs : List Expr) (t : TT) : Prop :=
  ∀ (pins : List (Addr × Obj)) (s : Shared) (σ : St) (H : Hp) (Q : Bool → Hp → Prop), Inv X pins σ H s → t σ H Q →
    wpAny (model X.prog X.w) X.A (forIn ifs true fun c r => if r = true then do let ok ← isTrue c X.env (eval c X.env); pure (ForInStep.yield ok) else pure (ForInStep.yield r)) (TP X pins σ Q) X.xe s
def tYes : TT := fun _ H Q => Q true H
theorem pts_nil {X : Cx} : PTs X [] tYes := fun _ _ _ H _ I h => wpAny_pure ⟨H, I, h⟩
/-- D: where the new list stands; W: what holds when i items were walked and ys were made -/
def tLC (nN : Nat) (fs : List (Nat × Nat)) (wi : TI) (g : TG) (tc : TT) (te : TE) : TE := fun σ H Q => wi σ H fun J H1 => ∀ D, H1 D = none → ∃ (n : Nat) (W : Nat → List V → Hp → Prop), n ≤ sizeLine ∧ W 0 [] (upd H1 D (.lst [])) ∧
  ∀ i ys H2, i ≤ n → W i ys H2 → H2 D = some (.lst ys) → (J.stop i H2 ∧ Q (.ref D) H2) ∨ (i < n ∧ J.go i H2 ∧ ∀ x H3, J.yld i H2 x H3 → g x (tau nN fs σ) H3 fun τ4 H4 =>
    (∀ (j : Nat) v, (tau nN fs σ)[j]? = some (some v) → τ4[j]? = some (some v)) ∧ tc τ4 H4 fun b H5 =>
      if b = true then te τ4 H5 fun v H6 => H6 D = some (.lst ys) ∧ W (i + 1) (ys ++ [v]) (upd H6 D (.lst (ys ++ [v]))) else H5 D = some (.lst ys) ∧ W (i + 1) ys H5)

section
variable {X : Cx} {scope : Scope} {N : List Str} {fs : List (Nat × Nat)} {tg elt iter : Expr} {ifs : List Expr} {pos cpos : Pos} {wi : TI} {g : TG} {tc : TT} {te : TE}
theorem comp_core {use : Option (Value → Sem Unit)} {R' : Value → Shared → Prop} (S : CompSc X scope N fs) (hcalm : X.calm = true)
    (hi : PI X tg iter wi) (hg : ∀ cl C s₀ H fp, PG (cxComp X scope cl C N s₀ H fp) tg g) (hc : ∀ cl C s₀ H fp, PTs (cxComp X scope cl C N s₀ H fp) ifs tc) (he : ∀ cl C s₀ H fp, PE (cxComp X scope cl C N s₀ H fp) elt te)
    (hs : ∀ x, foldedSetIterable iter X.env x = pure x) {pins : List (Addr × Obj)} {s : Shared} {σ : St} {H : Hp} {Q : VK} (I : Inv X pins σ H s) (h : tLC N.length fs wi g tc te σ H Q)
    (hfin : ∀ (D C : Addr) (H2 : Hp) (s' : Shared), Inv X pins σ H2 s' → Q (.ref D) H2 → (∃ m, s'.heap.Ns C m) → FpOk X pins H2 C → compPost (model X.prog X.w) X.A X.xe use R' (.ref D) C (.ok .next) s') :
    wpAny (model X.prog X.w) X.A (comprehension (.ListComp elt [⟨tg, iter, ifs, 0⟩] scope pos) scope X.env cpos (newList []) false (eval iter X.env) use) R' X.xe s := by
  have hfree : ∀ y ∈ scope.names, y.2 = .free → ∃ c, X.env.cells.lookup y.1 = some c := fun y hy hf => by
    have q := List.all_eq_true.mp S.free y hy
    rw [hf] at q
    refine I.ok.has y.1 ?_
    simpa using q
  have hcell : ∀ y ∈ scope.names, y.2 ≠ .cell := fun y hy => by simpa using List.all_eq_true.mp S.cell y hy
  have hnames : ∀ y ∈ scope.names, y.2 = .local → scope.names.lookup y.1 = some .local := fun y hy hl => by
    have q := List.all_eq_true.mp S.own y hy
    rw [hl] at q
    simpa using q
  have hclo := closure_eq hfree
  generalize hcl : clOf scope.names X.env.cells [] = cl at hclo
  have back : ∀ {y c}, cl.lookup y = some c → X.env.cells.lookup y = some c := fun {y c} e => clOf_back (names := scope.names) (acc := []) (fun z => by cases z) (by rw [hcl]; exact e)
  have hasc : ∀ {y}, scope.names.lookup y = some .free → ∃ c, cl.lookup y = some c := fun {y} e => by
    have := clOf_has (cells := X.env.cells) (acc := []) hfree (PySem.mem_of_lookup e)
    rw [hcl] at this
    exact Option.isSome_iff_exists.mp this
  refine wpAny_comprehension_free (use := use) rfl hs hclo S.kind hnames (thn (hi pins s σ H _ I h) fun v s1 h1 => thn h1 fun itv s2 h2 => ?_)
  obtain ⟨it, fp, tn, J, H1, e, I2, T, st2, f2, hq⟩ := h2
  subst e
  have hD : H1 s2.heap.objs.size = none := I2.fresh
  obtain ⟨n, W, hn, w0, turn⟩ := hq _ hD
  refine wpAny_newObj_type ?_
  have I3 : Inv X pins σ (upd H1 s2.heap.objs.size (.lst [])) { s2 with heap := s2.heap.push { cls := .type "list", data := .seq ([] : List Value).toArray }, toks := s2.toks } := I2.lnew .nil (Nat.zero_le _)
  have st3 : tn 0 (s2.heap.push { cls := .type "list", data := .seq ([] : List Value).toArray }) := T.keep _ _ _ st2 fun b hb o e => Heap.get?_push_of_some _ e
  have fpD : ∀ b ∈ fp, b ≠ s2.heap.objs.size := fun b hb => let ⟨_, e, _⟩ := T.obj _ _ st2 b hb; Nat.ne_of_lt (Heap.lt_size e)
  generalize hH3 : upd H1 s2.heap.objs.size (.lst []) = H3 at I3 w0
  have fr3 : ∀ b ∈ fp, H3 b = none := fun b hb => by rw [← hH3, upd_ne (fpD b hb)]; exact (f2 b hb).1
  have hD3 : H3 s2.heap.objs.size = some (.lst []) := by rw [← hH3]; exact upd_same
  clear hH3
  generalize hhp : s2.heap.push { cls := .type "list", data := .seq ([] : List Value).toArray } = h3 at I3 st3 ⊢
  have hc3 : ∀ (E : Value → Shared → Prop) (Q' : Env → Shared → Prop), (∀ h4, h4.Ns h3.objs.size (fun _ => none) → (∀ b o, h3.get? b = some o → h4.get? b = some o) → h3.objs.size < h4.objs.size → Q' (newEnv scope h3.objs.size X.env.globals cl X.env.qual none .none (some X.env) X.env.builtins) { s2 with heap := h4, toks := s2.toks }) →
      wpAny (model X.prog X.w) X.A (newFunctionEnv scope X.env.globals cl [] X.env.qual none .none (some X.env)) Q' E { s2 with heap := h3 } := fun E Q' k => by
    refine wpAny_newFunctionEnv hcell (by intro y hy; cases hy) (fun h4 a b => ?_) S.kind
    exact k h4 a (fun b' o e => b.extBut b' o (Nat.ne_of_lt (Heap.lt_size e)) (Heap.get?_push_of_some _ e)) (by rw [b.1, Heap.size_push]; exact Nat.lt_succ_self _)
  refine hc3 _ _ fun h4 hns k4 s34 => ?_
  have fpl : ∀ b ∈ fp, b < h3.objs.size := fun b hb => let ⟨_, e, _⟩ := T.obj _ _ st3 b hb; Heap.lt_size e
  have fps : ∀ b ∈ fp, b ∉ frs X.stack := fun b hb z => by
    rcases List.mem_cons.mp (I2.stkSub b z) with q | q
    · exact (f2 b hb).2.1 q
    · exact (f2 b hb).2.2.1 q
  have fst : ∀ {H' : Hp}, (∀ b ∈ fp, H' b = none) → ∀ b ∈ fp, FpOk (cxComp X scope cl h3.objs.size N { s2 with heap := h3, toks := s2.toks } H3 fp) [] H' b := fun hn b hb =>
    ⟨hn b hb, Nat.ne_of_lt (fpl b hb), fps b hb, .inl hb, fun x c e => (f2 b hb).2.2.2.2.1 x c (back e), fun q hq => by cases hq⟩
  have hYok : (cxComp X scope cl h3.objs.size N { s2 with heap := h3, toks := s2.toks } H3 fp).Ok := by
    refine ⟨I3.ok.mod, S.kind, I.ok.glob, I.ok.blt, Nat.le_refl _, fun x y c e1 e2 => I3.ok.inj x y c (back e1) (back e2), fun x hx => ?_, fun x c z => (by cases z), fun _ => I.ok.hd hcalm, I.ok.frames, .inl rfl,
      fun b hb => ⟨Nat.ne_of_lt (fpl b hb), fun x c e => (f2 b hb).2.2.2.2.1 x c (back e)⟩, I3.bs, Nat.le_trans I3.ok.bsz I3.sz, fun b o e hb => ?_, fps, I3.stack, I3.stkFree⟩
    · have hx : (relabel scope X.env).names.lookup x = some .cell ∨ (relabel scope X.env).names.lookup x = some .free := hx
      have hx2 : scope.names.lookup x = some .cell ∨ scope.names.lookup x = some .free := by
        rcases hx with z | z
        · exact relabel_back z
        · exact (relabel_back z).elim .inr .inr
      rcases hx2 with z | z
      · exact absurd rfl (hcell _ (PySem.mem_of_lookup z))
      · exact hasc z
    · rcases (f2 b hb).2.2.2.1 with z | z
      · exact I3.ok.noex b o e z
      · exact absurd (Nat.lt_of_lt_of_le (Heap.lt_size e) (Nat.le_trans I3.ok.bsz z)) (Nat.lt_irrefl _)
  have IY : Inv (cxComp X scope cl h3.objs.size N { s2 with heap := h3, toks := s2.toks } H3 fp) [] (tau N.length fs σ) H3 { s2 with heap := h4, toks := s2.toks } := by
    refine ⟨hYok, rfl, I3.bare, Un.kept k4, ⟨_, hns, fun i x v e1 e2 e3 => ?_⟩, fun x c e => ?_, I3.hok.fresh (Nat.le_refl _), fun x c e => I3.freeC x c (back e), fun q hq => (by cases hq), I3.hok.kept k4, tau_len _ _ _⟩
    · obtain ⟨j, hj, hv⟩ := tau_get e2
      obtain ⟨x', q1, q2, q3, q4⟩ := S.fs.mem hj
      have e1 : N[i]? = some x := e1
      rw [e1] at q1
      cases q1
      obtain ⟨m, _, hl⟩ := I3.loc
      obtain ⟨u, ru, lk⟩ := hl j x v q2 hv (by rcases q4 with z | z; exact .inr (.inl z); exact .inr (.inr z))
      refine ⟨u, ru, .inr ⟨relabel_free q3, ?_⟩⟩
      rcases lk with ⟨z, _⟩ | ⟨_, c, e, hcc⟩
      · rcases q4 with y | y <;> (rw [y] at z; cases z)
      · obtain ⟨c', e'⟩ := hasc q3
        have z := back e'
        rw [e] at z
        cases z
        obtain ⟨o, ho, hd⟩ := hcc
        exact ⟨c, e', o, k4 _ _ ho, hd⟩
    · obtain ⟨v, o, ho, hd⟩ := I3.cell x c (back e)
      exact ⟨v, o, k4 _ _ ho, hd⟩
  have hg := hg cl h3.objs.size { s2 with heap := h3, toks := s2.toks } H3 fp
  have hc := hc cl h3.objs.size { s2 with heap := h3, toks := s2.toks } H3 fp
  have he := he cl h3.objs.size { s2 with heap := h3, toks := s2.toks } H3 fp
  generalize hYd : cxComp X scope cl h3.objs.size N { s2 with heap := h3, toks := s2.toks } H3 fp = Y at hg hc he IY fst
  have eP : Y.prog = X.prog := by rw [← hYd]; rfl
  have ew : Y.w = X.w := by rw [← hYd]; rfl
  have eK : Y.K = X.K := by rw [← hYd]; rfl
  have ec : Y.calm = true := by rw [← hYd]; rfl
  have eA : Y.A = X.A := by rw [← hYd]; rfl
  have ex : Y.xe = fun _ _ => False := by rw [← hYd]; rfl
  have ee : Y.env = compEnvC scope cl h3.objs.size X.env := by rw [← hYd]; rfl
  have outX : ∀ {H' : Hp} {τ' : St} {s' : Shared}, Inv Y [] τ' H' s' → Inv X pins σ H' s' := fun {H' τ' s'} J => by
    have J' := J
    rw [← hYd] at J'
    refine I3.call' J'.os J'.base J'.hok J'.bare fun b hb => ?_
    obtain ⟨_, z1, z2, z3, z4, z5⟩ := f2 b hb
    exact ⟨z3, z1, z4, z5⟩
  have loop : codeAny (model X.prog X.w) X.A (.compLoop (.ListComp elt [⟨tg, iter, ifs, 0⟩] scope pos) 0 (.ref it) (.ref s2.heap.objs.size) (compEnvC scope cl h3.objs.size X.env))
      (compPost (model X.prog X.w) X.A X.xe use R' (.ref s2.heap.objs.size) h3.objs.size) { s2 with heap := h4, toks := s2.toks } := by
    refine codeAny_loop rfl (fun m s' => ∃ i ys H2, m = n - i ∧ i ≤ n ∧ ys.length ≤ i ∧ W i ys H2 ∧ H2 s2.heap.objs.size = some (.lst ys) ∧ (∀ b ∈ fp, H2 b = none) ∧ Inv Y [] (tau N.length fs σ) H2 s' ∧ tn i s'.heap) ?_ n
      ⟨0, [], H3, rfl, Nat.zero_le _, Nat.le_refl _, w0, hD3, fr3, IY, T.keep _ _ _ st3 fun b _ o e => k4 b o e⟩
    rintro m s5 ⟨i, ys, H2, rfl, hi, hy, w5, hD5, fr5, I5, st5⟩
    show wpAny _ X.A ((compTurn (.ListComp elt [⟨tg, iter, ifs, 0⟩] scope pos) 0 (.ref it) (.ref s2.heap.objs.size) (compEnvC scope cl h3.objs.size X.env)).onRaise (fun x => do noteFrame x (compEnvC scope cl h3.objs.size X.env); theTreesLotGoes x)) _ _ s5
    rw [compTurn_list]; refine wpAny_noted (wpAny_bind (wpAny_standAt (wpAny_bind ?_)))
    rcases turn i ys H2 hi w5 hD5 with ⟨stop, q⟩ | ⟨hlt, go, step⟩
    · have h6 := T.done Y eP ew eK ec i [] s5 _ H2 (fun _ _ => False) I5 (fst fr5) st5 stop
      rw [eA] at h6
      refine wpAny_mono h6 (fun r s6 z => ?_) fun _ _ f => f.elim
      obtain ⟨hr, I6⟩ := z
      subst hr
      refine wpAny_pure (hfin _ _ H2 s6 (outX I6) q ?_ ?_)
      · obtain ⟨m, hm, _⟩ := I6.loc
        rw [ee] at hm
        exact ⟨m, hm⟩
      · have z := I6.free
        rw [ee] at z
        exact I3.fpOk (Nat.le_refl _) z
    · have h6 := T.item Y eP ew eK ec i [] s5 _ H2 (fun _ _ => False) I5 (fst fr5) st5 go
      rw [eA] at h6
      refine wpAny_mono h6 (fun r s6 z => ?_) fun _ _ f => f.elim
      obtain ⟨v, hr, h7⟩ := z
      subst hr
      refine wpAny_bind (wpAny_mono h7 (fun _ s7 z => ?_) fun _ _ f => f.elim)
      obtain ⟨x, H7, I7, rx, y7, st7, fr7⟩ := z
      have I7' := I7.pinned (fst fr7) (T.obj _ _ st7)
      have h8 := hg _ s7 _ H7 x v _ I7' rx (step x H7 y7)
      rw [eP, ew, eA, ee, ex] at h8
      refine wpAny_bind (wpAny_mono h8 (fun _ s8 z => ?_) fun _ _ f => f.elim)
      obtain ⟨τ8, H8, I8, w8, q8⟩ := z
      have h9 := hc _ s8 τ8 H8 _ I8 q8
      rw [eP, ew, eA, ee, ex] at h9
      refine wpAny_bind (wpAny_mono h9 (fun ok s9 z => ?_) fun _ _ f => f.elim)
      obtain ⟨H9, I9, q9⟩ := z
      have stay : ∀ {H' : Hp} {s' : Shared}, Inv Y ([] ++ pinsAt fp s7.heap) τ8 H' s' → tn (i + 1) s'.heap ∧ (∀ b ∈ fp, H' b = none) ∧ Inv Y [] (tau N.length fs σ) H' s' := fun {H' s'} J => by
        refine ⟨T.keep _ _ _ st7 fun b hb o e => (J.pin (b, o) (List.mem_append_right _ (List.mem_append_right _ (mem_pinsAt hb e)))).1, fun b hb => ?_, J.unpinned.weak (I5.len.trans J.len.symm) w8⟩
        obtain ⟨o, e, _⟩ := T.obj _ _ st7 b hb
        exact (J.pin (b, o) (List.mem_append_right _ (List.mem_append_right _ (mem_pinsAt hb e)))).2.1
      cases ok with
      | false =>
        obtain ⟨hD9, w9⟩ := (if_neg Bool.false_ne_true ▸ q9 : _)
        obtain ⟨z1, z2, z3⟩ := stay I9
        exact wpAny_pure ⟨rfl, n - (i + 1), by omega, i + 1, ys, H9, rfl, hlt, by omega, w9, hD9, z2, z3, z1⟩
      | true =>
        have q9 := (if_pos rfl ▸ q9 : _)
        have h10 := he _ s9 τ8 H9 _ I9 q9
        rw [eP, ew, eA, ee, ex] at h10
        refine wpAny_bind (wpAny_bind (wpAny_mono h10 (fun y s10 z => ?_) fun _ _ f => f.elim))
        obtain ⟨y', H10, I10, ry, hD10, w10⟩ := z
        have h11 := mt_append (X := Y) _ s10 τ8 H10 (.ref s2.heap.objs.size) [y'] _ [y] (fun _ H' => H' = upd H10 s2.heap.objs.size (.lst (ys ++ [y']))) I10 rfl (.cons ry .nil) ⟨_, ys, y', rfl, rfl, hD10, by omega, rfl⟩
        rw [eP, ew, eA, ex] at h11
        refine wpAny_bind (wpAny_mono h11 (fun _ s11 z => ?_) fun _ _ f => f.elim)
        obtain ⟨_, H11, I11, _, e11⟩ := z
        subst e11
        obtain ⟨z1, z2, z3⟩ := stay I11
        exact wpAny_pure (wpAny_pure ⟨rfl, n - (i + 1), by omega, i + 1, ys ++ [y'], _, rfl, hlt, by rw [List.length_append, List.length_singleton]; omega, w10, upd_same, z2, z3, z1⟩)
  exact codeAny_compStart_list loop (T.self _ 0 _ _ _ (T.keep _ _ _ st3 fun b _ o e => k4 b o e) loop)
end
end L2

namespace L2
open PySem PySem.Spec PyProof.Rows
section
variable {X : Cx} {scope : Scope} {N : List Str} {fs : List (Nat × Nat)} {tg elt iter : Expr} {ifs : List Expr} {pos cpos px : Pos} {wi : TI} {g : TG} {tc : TT} {te : TE}
theorem Inv.off {pins : List (Addr × Obj)} {σ : St} {H : Hp} {s : Shared} {C : Addr} {h' : Heap} (I : Inv X pins σ H s) (f : FpOk X pins H C) (hs : Heap.SameBut C s.heap h') : Inv X pins σ H { s with heap := h' } := by
  obtain ⟨f0, f1, f2, f3, f4, f5⟩ := f
  exact I.turned (t' := s.toks) (fun b o hb e => (hs.2 b hb).trans e) f0 f1 f3 f4 f5
/-- [elt for tg in iter if ..] -/
theorem pe_lc (S : CompSc X scope N fs) (hcalm : X.calm = true) (hi : PI X tg iter wi) (hg : ∀ cl C s₀ H fp, PG (cxComp X scope cl C N s₀ H fp) tg g) (hc : ∀ cl C s₀ H fp, PTs (cxComp X scope cl C N s₀ H fp) ifs tc)
    (he : ∀ cl C s₀ H fp, PE (cxComp X scope cl C N s₀ H fp) elt te) (hs : ∀ x, foldedSetIterable iter X.env x = pure x := by intro _; rfl) : PE X (.ListComp elt [⟨tg, iter, ifs, 0⟩] scope pos) (tLC N.length fs wi g tc te) := by
  intro pins s σ H Q I h
  rw [eval_ListComp]
  refine comp_core (use := none) S hcalm hi hg hc he hs I h fun D C H2 s' I' q ⟨m, hm⟩ f => ⟨m, hm, fun h' hs' => ?_⟩
  exact ⟨.ref D, H2, I'.off f hs', rfl, q⟩
/-- name = [elt for tg in iter if ..] -/
def sLC (i : Nat) (t : TE) : TS := fun D σ H => t σ H fun x H1 => D.nx (σ.set i (some x)) H1
theorem ps_setLC {i : Nat} {x : Str} (hN : X.N.Nodup) (hi' : X.N[i]? = some x) (hx : Loc X.env.scope x) (S : CompSc X scope N fs) (hcalm : X.calm = true) (hi : PI X tg iter wi) (hg : ∀ cl C s₀ H fp, PG (cxComp X scope cl C N s₀ H fp) tg g)
    (hc : ∀ cl C s₀ H fp, PTs (cxComp X scope cl C N s₀ H fp) ifs tc) (he : ∀ cl C s₀ H fp, PE (cxComp X scope cl C N s₀ H fp) elt te) (hs : ∀ x, foldedSetIterable iter X.env x = pure x := by intro _; rfl)
    (hsw : swapsWith (.ListComp elt [⟨tg, iter, ifs, 0⟩] scope pos) (some (.Name x px)) cpos.line X.env = pure true := by rfl)
    (hf : X.fn x = true ∨ X.env.scope.names.lookup x = some .local := by first | exact .inl rfl | exact .inr rfl | assumption) :
    PS X (.Assign [.Name x px] (.ListComp elt [⟨tg, iter, ifs, 0⟩] scope pos) cpos) (sLC i (tLC N.length fs wi g tc te)) := by
  intro pins s σ H D I h
  rw [exec_Assign_Name_used _ _ _ _ hsw]
  refine wpAny_bind (wpAny_standAt (wpAny_bind ?_))
  show wpAny _ X.A (do let _ ← comprehension (.ListComp elt [⟨tg, iter, ifs, 0⟩] scope pos) scope X.env _ (newList []) false (eval iter X.env) (some (assign (.Name x px) X.env))) _ _ s
  refine wpAny_bind (thn (comp_core (use := some (assign (.Name x px) X.env)) (R' := fun _ s' => SP X pins D .next s') S hcalm hi hg hc he hs I h fun D' C H2 s' I' q ⟨m, hm⟩ f => ?_) fun _ s' z => wpAny_pure (wpAny_pure z))
  show wpAny _ X.A (assign (.Name x px) X.env (.ref D')) _ _ s'
  refine wpAny_assign_Name (store_ok2 I' hN hi' hx (show RelV (.ref D') (.ref D') from rfl) (fun s2 I2 ⟨a, sb, ha⟩ => ⟨m, ?_, fun h' hs' => ⟨_, H2, I2.off f hs', q⟩⟩) hf)
  refine hm.sameBut sb ?_
  obtain ⟨_, f1, _, _, f4, _⟩ := f
  rcases ha with z | z
  · rw [z]; exact f1
  · exact Ne.symm (f4 _ _ z)
end

/-! ### pure blocks: the abstract heap stays but for the new list -/
section
variable {K : PySem.W.Frag} {nN : Nat} {fs : List (Nat × Nat)} {g : TG} {tc : TT} {te : TE} {σ : St} {H : Hp} {Q : VK}
theorem sqL_upd {a D : Addr} {xs : List V} {o : HO} (h : SqL K H a xs) (hD : H D = none) : SqL K (upd H D o) a xs := by
  have ne : ∀ {u : HO}, H a = some u → a ≠ D := fun e => ne_of_none e hD
  rcases h with (h | ⟨o', h⟩) | h
  · exact .inl (.inl (by rw [upd_ne (ne h)]; exact h))
  · exact .inl (.inr ⟨o', by rw [upd_ne (ne h)]; exact h⟩)
  · exact .inr h
end
end L2

/-! EXCEPTIONS of classes of one's own, raised, passed on, caught by a name. -/
namespace L2
open PySem PySem.Spec PyProof.Rows

theorem ObjOk.there {P : Program} {w : World} {H : Hp} {h : Heap} {a : Addr} {o : HO} (x : ObjOk P w H h a o) : ∃ ob, h.get? a = some ob := by
  cases o with
  | lst xs => obtain ⟨_, _, _, _, e⟩ := x; exact ⟨_, e⟩
  | tup xs => obtain ⟨_, _, _, o, e, _⟩ := x; exact ⟨_, e⟩
  | dK kvs => obtain ⟨_, _, _, _, o, _, _, e, _⟩ := x; exact ⟨_, e⟩
  | dT kvs => obtain ⟨_, _, _, _, o, _, _, e, _⟩ := x; exact ⟨_, e⟩
  | set S n => obtain ⟨o, _, _, _, e, _⟩ := x; exact ⟨_, e⟩
  | ins C dx fs => obtain ⟨_, _, _, e, _⟩ := x; exact ⟨_, e⟩
  | own y => obtain ⟨_, e⟩ := x; exact ⟨_, e⟩
  | xd fs => obtain ⟨_, ⟨_, _, _, e, _⟩, _⟩ := x; exact ⟨_, e⟩
  | rng lo hi => obtain ⟨_, _, _, e⟩ := x; exact ⟨_, e⟩
  | frz ob u => obtain ⟨e, _⟩ := x; exact ⟨_, e⟩
  | tbl ps => exact ⟨_, x⟩
  | met f y => exact ⟨_, x⟩
  | ext φ => obtain ⟨_, ⟨o, e⟩, _⟩ := x; exact ⟨o, e⟩

/-- B holds all that the callers know (but the frames) and all that is tracked -/
structure Cov (B : Heap) (l : List Env) (H' : Hp) (h : Heap) : Prop where
  old : ∀ b o, h.get? b = some o → b ∉ frs l → ∃ o', B.get? b = some o'
  trk : ∀ b u, H' b = some u → ∃ o', B.get? b = some o'
/-- an exception flies behind a call -/
def CXE (P : Program) (w : World) : CXT := fun outer H s E e s' => ∃ (a C t : Addr) (B : Heap) (H' : Hp), e = .ref a ∧ Heap.FlyingW B outer a (.ref C) (.ref t) s'.heap ∧ Cov B outer H' s.heap ∧
  Un (frs outer) [] H H' s.heap s'.heap ∧ HOk P w H' s'.heap ∧ H' a = none ∧ s.heap.get? a = none ∧ AllBare s'.gens ∧ s'.os = s.os ∧ E (.ref C) none H'

theorem un_slots {P : Program} {w : World} {l : List Env} {B h h1 h2 base : Heap} {H H' : Hp} (u : Un (frs l) [] H H' h h1) (hok : HOk P w H' h1) (c : Cov B l H' h) (s1 : B.StaysIn h1) (s2 : B.StaysIn h2) (f : h1.FunFrames base l) (sm : h1.UpToSlots h2) :
    Un (frs l) [] H H' h h2 ∧ HOk P w H' h2 := by
  have same : ∀ b o, h1.get? b = some o → (∃ o', B.get? b = some o') → h2.get? b = some o := fun b o e ⟨o', e'⟩ => by
    have z := s1 b o' e'
    rw [e] at z
    cases z
    exact s2 b o e'
  refine ⟨⟨fun b o e n hb hx => same b o (u.keep b o e n hb hx) (c.old b o e hb), fun b o e n hb hx => ?_, u.free, fun b o e hx => ?_, u.tups, u.frzs, u.tbls⟩, fun b o e => ?_⟩
  · obtain ⟨sl, e1⟩ := u.slot b o e n hb hx
    obtain ⟨_, o1, e2, nf⟩ := f.mem hb
    rw [e1] at e2
    cases e2
    obtain ⟨sl', e3⟩ := sm b _ e1 nf
    exact ⟨sl', e3⟩
  · obtain ⟨o1, e1⟩ := u.there b o e hx
    by_cases hb : b ∈ frs l
    · obtain ⟨_, o2, e2, nf⟩ := f.mem hb
      obtain ⟨sl', e3⟩ := sm b _ e2 nf
      exact ⟨_, e3⟩
    · exact ⟨o1, same b o1 e1 (c.old b o e hb)⟩
  · refine (hok b o e).stay (fun a v ha q => same a v q ?_) (fun _ q => q) fun _ _ q => q
    rcases ha with z | z
    · rw [z]; exact c.trk b o e
    · exact c.trk a _ z

section
variable {P : Program} {w : World} {K : PySem.W.Frag} {mg : Str → Option Value} {base : Heap} {N : List Str} {qual : Str} {scope : Scope} {f : Addr} {cd : Value} {A : Around} {outer : List Env} {s : Shared} {H : Hp} {E E' : XK}
/-- an exception of a callee leaves this def too -/
theorem passE (h : ∀ C d H', E' C d H' → E C d H') : Passes (CXE P w) (cxOf (CXE P w) P w K mg base N qual scope f cd A outer s H E) E' := by
  intro pins σ H1 s1 e s' I hx
  obtain ⟨a, C, t, B, H', rfl, fl, cov, un, hok, na, nb, bare, os, q⟩ := hx
  have hst : (cxOf (CXE P w) P w K mg base N qual scope f cd A outer s H E).stack = envOfC qual scope s.heap.objs.size f cd :: outer := rfl
  have ib : Un (frs outer) [] H H1 s.heap s1.heap := I.base
  have oldL : ∀ b o, s.heap.get? b = some o → b ∉ frs outer → b ∉ frs (envOfC qual scope s.heap.objs.size f cd :: outer) := fun b o e hb z => by
    rcases List.mem_cons.mp (I.stkSub b z) with y | y
    · have : b = s.heap.objs.size := y
      exact absurd (Heap.lt_size e) (by rw [this]; exact Nat.lt_irrefl _)
    · exact hb y
  show wpAny _ _ (leaving (envOfC qual scope s.heap.objs.size f cd) (.ref a)) _ _ s'
  refine wpAny_leaves_onW I.ok.frames rfl fl fun h2 fl2 sm => ?_
  obtain ⟨un2, hok2⟩ := un_slots un hok cov fl.1 fl2.1 fl.2.2.1 sm
  refine ⟨a, C, t, B, H', rfl, fl2, ⟨fun b o e hb => ?_, cov.trk⟩, ?_, hok2, na, ?_, bare, os.trans I.os, h _ _ _ q⟩
  · obtain ⟨o1, e1⟩ := ib.there b o e (by simp)
    exact cov.old b o1 e1 (oldL b o e hb)
  · refine ⟨fun b o e n hb hx => un2.keep b o (ib.keep b o e n hb hx) (ib.free b o e n hx) (oldL b o e hb) hx, fun b o e n hb hx => ?_, fun b o e n hx => ?_, fun b o e hx => ?_, fun b xs e => un2.tups b xs (ib.tups b xs e), fun b o u e => un2.frzs b o u (ib.frzs b o u e), fun b ps e => ?_⟩
    · obtain ⟨sl, e1⟩ := ib.slot b o e n hb hx
      have hb' : b ∈ frs (envOfC qual scope s.heap.objs.size f cd :: outer) := by
        unfold frs
        rw [List.filterMap_cons]
        exact List.mem_cons_of_mem _ hb
      obtain ⟨sl', e2⟩ := un2.slot b _ e1 (ib.free b o e n hx) hb' hx
      exact ⟨sl', e2⟩
    · obtain ⟨o1, e1⟩ := ib.there b o e hx
      exact un2.free b o1 e1 (ib.free b o e n hx) hx
    · obtain ⟨o1, e1⟩ := ib.there b o e hx
      exact un2.there b o1 e1 hx
    · obtain ⟨m1, e1⟩ := ib.tbls b ps e
      obtain ⟨m2, e2⟩ := un2.tbls b _ e1
      exact ⟨m1 ++ m2, by rw [e2, Array.append_assoc]⟩
  · cases z : s.heap.get? a with
    | none => rfl
    | some o =>
      obtain ⟨o1, e1⟩ := ib.there a o z (by simp)
      rw [nb] at e1
      cases e1
end

/-! ### a class of exceptions, as the written part has it -/
theorem exc_in {K : PySem.W.Frag} {h : Heap} {C : Addr} {bmB : List Value} {newId : String} (X : K.In h) (q : PySem.W.excIn K C bmB newId = true) :
    ∃ bm N nm q bs hdct sn sub ab col dd k0 k1 k2 k3 k5 mN, h.get? C = some (excClassObj nm q C N bs bm hdct sn sub ab col dd k0 k1 k2 k3 k5 newId) ∧ h.Ns N mN ∧ mN "__init__" = none ∧ OwnTail h bmB bm := by
  unfold PySem.W.excIn at q
  split at q
  · rename_i dd cd sl ho
    split at q
    · rename_i C' bm k0 k1 k2 k3 n k5 hm hs
      simp only [Bool.and_eq_true, beq_iff_eq, Bool.not_eq_true'] at q
      obtain ⟨⟨⟨⟨⟨rfl, rfl⟩, hdel⟩, ht⟩, hok⟩, hni⟩ := q
      obtain ⟨nm, bs, mro, ns, qn, hd, sn, sub, ab, col, del⟩ := cd
      dsimp only at hm hdel hok hni
      subst hm hdel
      obtain ⟨l⟩ := sl
      simp only at hs
      subst hs
      exact ⟨bm, ns, nm, qn, bs, hd, sn, sub, ab, col, dd, k0, k1, k2, k3, k5, _, X _ _ ho, .of_isNs (PySem.W.isNs_of_in X hok), PySem.W.nsMap_none_of_in X hok hni, PySem.W.tail_of_in X ht⟩
    · cases q
  · cases q
/-- raise C(text) -/
def sRaise (C : Addr) (E : XK) (ta : TA) : TS := fun _ σ H => ta σ H fun _ H1 => E (.ref C) none H1
section
variable {P : Program} {w : World} {K : PySem.W.Frag} {mg : Str → Option Value} {base : Heap} {N : List Str} {qual : Str} {scope : Scope} {f : Addr} {cd : Value} {A : Around} {outer : List Env} {s : Shared} {H : Hp} {E : XK}
theorem ps_raise {x : Str} {C : Addr} {np cpos pos : Pos} {e : Expr} {ta : TA} {B newId initId : String} {bmB : List Value} (FB : ExcBaseFacts B newId initId bmB) (hC : PySem.W.excIn K C bmB newId = true) (hm : mg x = some (.ref C)) (hh : A.handled = none)
    (hg : Gl (cxOf (CXE P w) P w K mg base N qual scope f cd A outer s H E) x) (ha : PA (cxOf (CXE P w) P w K mg base N qual scope f cd A outer s H E) [e] ta) (hd : (x == ("__debug__" : Str)) = false := by decide)
    (he : starEach [e] (envOfC qual scope s.heap.objs.size f cd) = (false, eval e (envOfC qual scope s.heap.objs.size f cd)) :: starEach [] (envOfC qual scope s.heap.objs.size f cd) := by rfl)
    (hl : ∀ σ H Q, ta σ H Q → ta σ H fun xs H1 => xs.length ≤ sizeLine ∧ Q xs H1) :
    PS (cxOf (CXE P w) P w K mg base N qual scope f cd A outer s H E) (.Raise (some (.Call (.Name x np) [e] [] cpos)) none pos) (sRaise C E ta) := by
  intro pins s1 σ H1 D I h
  obtain ⟨bm, Nn, nm, q, bs, hdct, sn, sub, ab, col, dd, k0, k1, k2, k3, k5, mN, hCo, hN, hni, T⟩ := exc_in I.ok.mod.kin hC
  have kb : ∀ {s2 : Shared} {H2 : Hp}, Inv (cxOf (CXE P w) P w K mg base N qual scope f cd A outer s H E) pins σ H2 s2 → ∀ b o, base.get? b = some o → s2.heap.get? b = some o := fun J => J.bk
  refine wpAny_Raise_call_subT (C := C) (nm := nm) (q := q) (N := Nn) (bs := bs) (bm := bm) (hdct := hdct) (sn := sn) (sub := sub) (ab := ab) (col := col) (dd := dd) (k0 := k0) (k1 := k1) (k2 := k2) (k3 := k3) (k5 := k5) FB (mN := mN) (T.hasType FB.hasBase)
    (show (A.deeper _).handled = none from hh) (by
      show (backTo cpos (starEach [e] (envOfC qual scope s.heap.objs.size f cd))).any (·.1) = false
      rw [he]; rfl) hni (ld_glob I hg hm ⟨rfl, ?_⟩ hd)
  have ha' := thn (ha cpos pins s1 σ H1 _ I (hl _ _ _ h)) fun us s2 (z : AP _ _ _ _ us s2) => z
  show wpAny _ _ (evalArgs (.ref C) true (backTo cpos (starEach [e] (envOfC qual scope s.heap.objs.size f cd))) []) _ _ s1
  have ha'' : wpAny (model P w) (A.deeper (envOfC qual scope s.heap.objs.size f cd)) (spliced (backTo cpos (starEach [e] (envOfC qual scope s.heap.objs.size f cd)))) _ _ s1 := ha'
  rw [he] at ha'' ⊢
  refine Calls.evalArgs_plain (thn ha'' fun us s2 z => ?_)
  obtain ⟨vs, H2, I2, rv, hz, hE⟩ := z
  refine ⟨rfl, by rw [← rv.length]; exact hz, kb I2 _ _ hCo, hN.keeps (kb I2), T.keeps (kb I2), fun h' a hx => ?_⟩
  show wpAny _ _ (leaving (envOfC qual scope s.heap.objs.size f cd) (.ref a)) _ _ _
  have hin : ∀ env ∈ (envOfC qual scope s.heap.objs.size f cd :: outer), ∀ b, env.frame = some b → b ∈ frs (envOfC qual scope s.heap.objs.size f cd :: outer) := fun env he b hb => List.mem_filterMap.mpr ⟨env, he, hb⟩
  have FF : s2.heap.FunFrames (PySem.W.hideAll s2.heap (frs (envOfC qual scope s.heap.objs.size f cd :: outer))) (envOfC qual scope s.heap.objs.size f cd :: outer) := PySem.W.funFrames_hide I2.stack hin
  refine wpAny_leaves_madeW I.ok.frames rfl (fun b o q => PySem.W.of_hideAll _ q) FF hx fun h2 t fl tup nt sm => ?_
  have ib : Un (frs outer) [] H H2 s.heap s2.heap := I2.base
  have oldL : ∀ b o, s.heap.get? b = some o → b ∉ frs outer → b ∉ frs (envOfC qual scope s.heap.objs.size f cd :: outer) := fun b o e hb z => by
    rcases List.mem_cons.mp (I2.stkSub b z) with y | y
    · have : b = s.heap.objs.size := y
      exact absurd (Heap.lt_size e) (by rw [this]; exact Nat.lt_irrefl _)
    · exact hb y
  have cov : Cov (PySem.W.hideAll s2.heap (frs (envOfC qual scope s.heap.objs.size f cd :: outer))) outer H2 s.heap := by
    refine ⟨fun b o e hb => ?_, fun b u e => ?_⟩
    · obtain ⟨o1, e1⟩ := ib.there b o e (by simp)
      exact ⟨o1, PySem.W.hideAll_get _ e1 (oldL b o e hb)⟩
    · obtain ⟨o1, e1⟩ := (I2.hok b u e).there
      refine ⟨o1, PySem.W.hideAll_get _ e1 fun z => ?_⟩
      rw [I2.stkFree b z] at e
      cases e
  have f2 : h'.FunFrames (PySem.W.hideAll s2.heap (frs (envOfC qual scope s.heap.objs.size f cd :: outer))) outer := by
    have z : h'.FunFrames (PySem.W.hideAll s2.heap (frs (envOfC qual scope s.heap.objs.size f cd :: outer))) (envOfC qual scope s.heap.objs.size f cd :: outer) := FF.of_keeps fun b o hb _ => ⟨o, hx.keeps b o hb, rfl⟩
    obtain ⟨_, _, z⟩ := z
    exact z
  have u1 : Un (frs outer) [] H H2 s.heap h' := ⟨fun b o e n hb hx' => hx.keeps _ _ (ib.keep b o e n hb hx'), fun b o e n hb hx' => let ⟨sl, z⟩ := ib.slot b o e n hb hx'; ⟨sl, hx.keeps _ _ z⟩, ib.free, fun b o e hx' => let ⟨o1, z⟩ := ib.there b o e hx'; ⟨o1, hx.keeps _ _ z⟩, ib.tups, ib.frzs, ib.tbls⟩
  have na2 : ∀ {b : Addr}, s2.heap.get? b = none → H2 b = none := fun {b} e => by
    cases z : H2 b with
    | none => rfl
    | some u =>
      obtain ⟨o1, e1⟩ := (I2.hok b u z).there
      rw [e] at e1
      cases e1
  obtain ⟨un2, hok2⟩ := un_slots u1 (I2.hok.kept hx.keeps) cov (fun b o z => hx.keeps _ _ (PySem.W.of_hideAll _ z)) fl.1 f2 sm
  refine ⟨a, C, t, _, H2, rfl, fl, cov, un2, hok2, na2 hx.new, ?_, I2.bare, I2.os, hE⟩
  cases z : s.heap.get? a with
  | none => rfl
  | some o =>
    obtain ⟨o1, e1⟩ := ib.there a o z (by simp)
    rw [hx.new] at e1
    cases e1
end
end L2

namespace L2
open PySem PySem.Spec PyProof.Rows
/-- an exception that was caught -/
def excφ (a C : Addr) (h : Heap) : Prop := ∃ o vs, h.get? a = some o ∧ o.cls = .ref C ∧ o.data = .fields vs
abbrev Ex (a C : Addr) : HO := .ext (excφ a C)
theorem excφ_stay {a C : Addr} (h1 h2 : Heap) (x : excφ a C h1) (k : ∀ o, h1.get? a = some o → h2.get? a = some o) : excφ a C h2 := let ⟨o, vs, e, r⟩ := x; ⟨o, vs, k o e, r⟩

section
variable {X : Cx} {pins : List (Addr × Obj)} {σ : St} {H : Hp} {s : Shared}
/-- an object of this body's own time is tracked from now on -/
theorem Inv.track {a : Addr} {o : HO} (I : Inv X pins σ H s) (hn : H a = none) (h0 : X.s₀.heap.get? a = none) (hL : a ≠ X.env.locals) (hc : ∀ x c, X.env.cells.lookup x = some c → c ≠ a) (hp : ∀ p ∈ X.pn ++ pins, p.1 ≠ a)
    (new : ObjOk X.prog X.w (upd H a o) s.heap a o) : Inv X pins σ (upd H a o) s := by
  have ne : ∀ b u, H b = some u → b ≠ a := fun b u e z => by rw [z, hn] at e; cases e
  refine ⟨I.ok, I.os, I.bare, ⟨I.base.keep, I.base.slot, fun b ob e n hx => ?_, I.base.there, fun b xs e => ?_, fun b ob u e => ?_, fun b ps e => ?_⟩, I.loc, I.cell, ?_, fun x c e => ?_, fun p q => ?_, fun b u e => ?_, I.len⟩
  · rw [upd_ne (fun z => by rw [z, h0] at e; cases e)]
    exact I.base.free b ob e n hx
  · have z := I.base.tups b xs e
    rw [upd_ne (ne _ _ z)]
    exact z
  · have z := I.base.frzs b ob u e
    rw [upd_ne (ne _ _ z)]
    exact z
  · obtain ⟨m, z⟩ := I.base.tbls b ps e
    exact ⟨m, by rw [upd_ne (ne _ _ z)]; exact z⟩
  · rw [upd_ne (Ne.symm hL)]
    exact I.free
  · rw [upd_ne (hc x c e)]
    exact I.freeC x c e
  · obtain ⟨z1, z2, z3⟩ := I.pin p q
    exact ⟨z1, by rw [upd_ne (hp p q)]; exact z2, z3⟩
  · by_cases z : b = a
    · subst z
      rw [upd_same] at e
      cases e
      exact new
    · rw [upd_ne z] at e
      exact (I.hok b u e).stay (fun _ _ _ q => q) (fun c q => by rw [upd_ne (ne _ _ q)]; exact q) fun c xs q => by rw [upd_ne (ne _ _ q)]; exact q

/-- the same body while an exception is handled -/
def Cx.marked (X : Cx) (e : Value) : Cx := { X with A := X.A.mark (some e), calm := false, xe := fun _ _ => False }
theorem Inv.mark (I : Inv X pins σ H s) (e : Value) : Inv (X.marked e) pins σ H s :=
  ⟨⟨I.ok.mod, I.ok.kind, I.ok.glob, I.ok.blt, I.ok.above, I.ok.inj, I.ok.has, I.ok.cab, fun z => (by cases z), I.ok.frames, I.ok.stk, I.ok.exf, I.ok.bs, I.ok.bsz, I.ok.noex, I.ok.exfs, I.ok.funs, I.ok.frf⟩, I.os, I.bare, I.base, I.loc, I.cell, I.free, I.freeC, I.pin, I.hok, I.len⟩
theorem Inv.unmark {e : Value} (I : Inv (X.marked e) pins σ H s) (ok : X.Ok) : Inv X pins σ H s := ⟨ok, I.os, I.bare, I.base, I.loc, I.cell, I.free, I.freeC, I.pin, I.hok, I.len⟩
end

/-- C stands in the order of classes of D -/
def SubIn (K : PySem.W.Frag) (C S : Addr) : Bool := match K.lookup C with
  | some ⟨_, _, .cls cd, _⟩ => cd.mro.contains (.ref S)
  | _ => false
section
variable {M : Model} {A : Around} {E : Value → Shared → Prop}
theorem matches_own {K : PySem.W.Frag} {bmC bmS : List Value} {nC nS : String} {C S a : Addr} {s : Shared} {oe : Obj} {Q : Bool → Shared → Prop} (KX : K.In s.heap) (hC : PySem.W.excIn K C bmC nC = true) (hS : PySem.W.excIn K S bmS nS = true) (hbS : bmS.contains (.type "BaseException") = true)
    (hsub : SubIn K C S = true) (he : s.heap.get? a = some oe) (hc : oe.cls = .ref C) (hq : Q true s) : wpAny M A (excMatches (.ref a) (.ref S)) Q E s := by
  obtain ⟨bm, N, nm, q, bs, hdct, sn, sub, ab, col, dd, k0, k1, k2, k3, k5, mN, h1, _, _, _⟩ := exc_in KX hC
  obtain ⟨bm', N', nm', q', bs', hdct', sn', sub', ab', col', dd', k0', k1', k2', k3', k5', mN', h2, _, _, T⟩ := exc_in KX hS
  have c1 : (Value.ref C :: bm).contains (.ref S) = true := by
    unfold SubIn at hsub
    unfold PySem.W.excIn at hC
    split at hC
    · rename_i ho
      rw [ho] at hsub
      have z := KX _ _ ho
      rw [h1] at z
      cases z
      exact hsub
    · cases hC
  have c2 : (Value.ref S :: bm').contains (.type "BaseException") = true := by rw [List.contains_cons, T.hasType hbS, Bool.or_true]
  have f := tc_notTuple
  obtain ⟨hh, g, d, t, os⟩ := s
  unfold excMatches
  repeat (first | (with_reducible refine wpAny_loadPart_at he ?_; rw [hc]) | with_reducible refine wpAny_loadPart_at h2 ?_ | (with_reducible refine wpAny_isSubtype_exc h2 ?_; rw [c2]) | (with_reducible refine wpAny_isSubtype_exc h1 ?_; rw [c1]) | wp_step)
  exact hq
end

section
variable {X : Cx} {k : Nat} {f C : Addr} {fd : FuncData} {ps : List Str} {sp : Sp} {ds : List Value} {dvs : List V} {E : XK} {x : Str} {p pos : Pos} {e : Expr} {es : List Expr} {t : TA}
/-- where an exception of the callee stands -/
def Flew (X : Cx) (pins : List (Addr × Obj)) (σ : St) (E : XK) (e : Value) (s' : Shared) : Prop := ∃ H s, Inv X pins σ H s ∧ CXE X.prog X.w X.stack H s E e s'
/-- f(..) as it is tried -/
theorem try_call (F : FnOk X.prog X.w X.K X.mg X.base (CXE X.prog X.w) k f fd ps sp) (hr : Room k X.A) (hg : Gl X x) (hm : X.mg x = some (.ref f)) (hk : PySem.W.keepIn X.K (.ref f) = true) (hb : Binds X.K fd ps ds) (hd : Vals dvs ds)
    (ha : PA X.nox (e :: es) t) {pins : List (Addr × Obj)} {s : Shared} {σ : St} {H : Hp} {Q : VK} (I : Inv X pins σ H s) (h : tCall sp dvs E t σ H Q) (hdb : (x == ("__debug__" : Str)) = false := by decide)
    (he : starEach (e :: es) X.env = (false, eval e X.env) :: starEach es X.env := by rfl) (hpl : (backTo pos (starEach es X.env)).any (·.1) = false := by rfl) :
    wpAny (model X.prog X.w) X.A (eval (.Call (.Name x p) (e :: es) [] pos) X.env) (EP X pins σ Q) (Flew X pins σ E) s := by
  refine wpAny_Call_Name_kw (ld_glob I hg hm ?_ hdb)
  refine PySem.W.callWith_K (h₀ := X.base) I.ok.mod.kin hk (wpAny_mono (ha pos pins s σ H _ (I.wish _) h) (fun us s1 z => ?_) fun _ _ z => z.elim) he hpl
  obtain ⟨vs, H1, I1, r, q⟩ := z
  have I1 := I1.unwish
  refine ⟨I1.kIn, ?_⟩
  have r2 : Vals (vs ++ dvs) (us ++ ds) := r.append hd
  have hl : (us ++ ds).length = ps.length := by rw [← r2.length]; exact F.len _ _ _ _ q
  refine wpAny_call (codeAny_mono (F.run X.A X.stack s1 H1 ⟨us, []⟩ (us ++ ds) (vs ++ dvs) Q E hr I1.env0 (hb s1 us I1.kIn hl) r2 q) fun r s' hq => ?_)
  cases r with
  | error e => exact ⟨H1, s1, I1, hq⟩
  | ok fl =>
    cases fl with
    | ret u => exact I1.after hq
    | next => exact False.elim hq
    | brk => exact False.elim hq
    | cont => exact False.elim hq
/-- C(..) as it is tried -/
theorem try_make (M : Mk X.K C f) (F : FnOk X.prog X.w X.K X.mg X.base (CXE X.prog X.w) k f fd ps sp) (hr : Room (k + 1) X.A) (hg : Gl X x) (hm : X.mg x = some (.ref C)) (hb : Binds X.K fd ps ds) (hd : Vals dvs ds)
    (ha : PA X.nox (e :: es) t) {pins : List (Addr × Obj)} {s : Shared} {σ : St} {H : Hp} {Q : VK} (I : Inv X pins σ H s) (h : tMake C sp dvs E t σ H Q) (hdb : (x == ("__debug__" : Str)) = false := by decide)
    (he : starEach (e :: es) X.env = (false, eval e X.env) :: starEach es X.env := by rfl) (hpl : (backTo pos (starEach es X.env)).any (·.1) = false := by rfl) :
    wpAny (model X.prog X.w) X.A (eval (.Call (.Name x p) (e :: es) [] pos) X.env) (EP X pins σ Q) (Flew X pins σ E) s := by
  refine wpAny_Call_Name_kw (ld_glob I hg hm ?_ hdb)
  refine PySem.W.callWith_K (h₀ := X.base) I.ok.mod.kin M.kp (wpAny_mono (ha pos pins s σ H _ (I.wish _) h) (fun us s1 z => ?_) fun _ _ z => z.elim) he hpl
  obtain ⟨vs, H1, I1, r, h⟩ := z
  have I1 := I1.unwish
  refine ⟨I1.kIn, ?_⟩
  have hq := h (s1.heap.objs.size + 1) s1.heap.objs.size (I1.hok.fresh (Nat.le_succ _)) (I1.hok.fresh (Nat.le_refl _)) (Nat.ne_of_lt (Nat.lt_succ_self _))
  have I2 := Inv.made (C := C) I1
  have r2 : Vals (V.ref (s1.heap.objs.size + 1) :: (vs ++ dvs)) (Value.ref (s1.heap.objs.size + 1) :: (us ++ ds)) := .cons rfl (r.append hd)
  have hl : (Value.ref (s1.heap.objs.size + 1) :: us ++ ds).length = ps.length := by
    have e := r2.length
    rw [F.len _ _ _ _ hq] at e
    exact e.symm
  refine wpAny_call (make_map (f := f) I1.kIn M.makes M.init (beq_iff_eq.mp M.fn) (codeAny_mono (F.run _ X.stack _ _ ⟨Value.ref (s1.heap.objs.size + 1) :: us, []⟩ (Value.ref (s1.heap.objs.size + 1) :: (us ++ ds)) _ _ E (hr.make C us [])
    (I2.env0.make C us []) (hb _ (Value.ref (s1.heap.objs.size + 1) :: us) I2.kIn hl) r2 hq) fun r s' hq' => ?_))
  cases r with
  | error e => exact ⟨_, _, I2, hq'⟩
  | ok fl =>
    cases fl with
    | ret u =>
      obtain ⟨v, H', I3, rv, ev, q3⟩ := I2.after hq'
      subst ev
      exact ⟨rv, ⟨V.ref (s1.heap.objs.size + 1), H', I3, rfl, q3⟩⟩
    | next => exact False.elim hq'
    | brk => exact False.elim hq'
    | cont => exact False.elim hq'
end

section
variable {X : Cx}
end
end L2

namespace L2
open PySem PySem.Spec PyProof.Rows PySem.W
theorem exc_class_get {prog : Program} {w : World} {A : Around} {h : Heap} {g : Array GenState} {d : Drawn} {t : Nat} {os : OsState} {a C Nn : Addr} {o : Obj} {bm bmB : List Value} {nm q : Str} {bs : List Value} {hdct : Bool} {sn : List Str} {sub : List Value} {ab : Bool} {col : Option Bool} {dd : Option Addr} {k0 k1 k2 k3 k5 : Option Value} {newId : String}
    {R : Result → Shared → Prop} (hCo : h.get? C = some (excClassObj nm q C Nn bs bm hdct sn sub ab col dd k0 k1 k2 k3 k5 newId)) (T : OwnTail h bmB bm) (hob : bmB.contains (.type "object") = true) (hx : h.get? a = some o) (hc : o.cls = .ref C) (hq : R (.ok (.ret (.ref C))) ⟨h, g, d, t, os⟩) :
    codeAny (model prog w) A (.call (.builtin "getset_descriptor.__get__") ⟨[.builtin "object.__class__", .ref a, .ref C], []⟩) R ⟨h, g, d, t, os⟩ := by
  have hT5 : (⟨h, g, d, t, os⟩ : Shared).TypeIs (.builtin "object.__class__") "getset_descriptor" := F.typeOf_object_class
  have ow : ".".intercalate ("object.__class__".cutAt '.').dropLast = "object" := by decide +kernel
  have hcB : (Value.ref C :: bm).contains (.type (".".intercalate ("object.__class__".cutAt '.').dropLast)) = true := by
    rw [ow, List.contains_cons, T.hasType hob]
    rfl
  refine codeAny_call_builtin F.slot_gs_get.plain F.entry_gs_get (F.slot_gs_get.check _ _ _ _ _ _ _ _ hT5 (F.args_gs_get _ _ _) ?_)
  repeat (any_goals (first | assumption | (with_reducible refine wpAny_loadPart_at hx ?_; rw [hc]) | (with_reducible refine wpAny_isSubtype_exc hCo ?_; rw [hcB]) | wp_step))
  refine ⟨Code.quiet_builtin _ (by decide +kernel), codeAny_builtin F.entry_object_class ?_⟩
  repeat (any_goals (first | assumption | (with_reducible refine wpAny_loadPart_at hx ?_; rw [hc]) | wp_step))
theorem exc_cls {prog : Program} {w : World} {A : Around} {E : Value → Shared → Prop} {s : Shared} {K : Frag} {a C : Addr} {o : Obj} {vs : Array Value} {bmB : List Value} {B newId : String} {Q : Option Value → Shared → Prop} (X : K.In s.heap) (FB : ExcAttrBase B bmB) (hC : excIn K C bmB newId = true)
    (hga : findIn K (.ref C) "__getattribute__" = some (some (.builtin "BaseException.__getattribute__"))) (hgt : findIn K (.ref C) "__getattr__" = some none)
    (ha : findIn K (.ref C) "__class__" = some (some (.builtin "object.__class__")))
    (hn : specialIn K (.builtin "object.__class__") "__get__" = some (some (.builtin "getset_descriptor.__get__"))) (htk : takesIn K (.builtin "object.__class__") = some true) (hm : mroIn K C (.type "object") = some true)
    (hob : bmB.contains (.type "object") = true) (hx : s.heap.get? a = some o) (hc : o.cls = .ref C) (hd : o.data = .fields vs) (k : Q (some (.ref C)) { s with toks := s.toks + 1 }) : wpAny (model prog w) A (getAttr? (.ref a) "__class__") Q E s := by
  obtain ⟨h, g, d, t, os⟩ := s
  obtain ⟨bm, Nn, nm, q, bs, hdct, sn, sub, ab, col, dd, k0, k1, k2, k3, k5, mN, hCo, hN, hni, T⟩ := exc_in X hC
  have L0 : Looks (model prog w) h (typeOf (.ref a)) (.ref C) := hc ▸ (Looks.ld hx).andThen .now
  have L1 := looks_findIn (M := model prog w) X hga
  have L2 := looks_findIn (M := model prog w) X hgt
  have L3 := looks_findIn (M := model prog w) X ha
  have f3 := FB.ga.bind (.ref a)
  unfold getAttr? getAttrBy? getAttrBy
  refine wpAny_bind (wpAny_mkText (wpAny_bind (wpAny_attempt (wpAny_holding (wpAny_bind (L0.at (wpAny_bind (L1.at ?_))))))))
  have hx2 : (Value.builtin "BaseException.__getattribute__" == Value.builtin "object.__getattribute__") = false := by decide +kernel
  have hx1 : (onTheHeap (Value.ref C) && Value.builtin "BaseException.__getattribute__" == Value.builtin "object.__getattribute__") = false := by rw [hx2]; rfl
  repeat (any_goals (first | assumption | with_reducible refine wpAny_bind (L2.at ?_) | wp_step))
  refine codeAny_call_builtin FB.ga.plain F.entry_bexc_ga ?_
  have hob : bmB.contains (.type "object") = true := hob
  have hcB : (Value.ref C :: bm).contains (.type "BaseException") = true := by rw [List.contains_cons, T.hasType FB.hasBase]; rfl
  have hkd : builtinKind "BaseException.__getattribute__" = some .slot := by decide +kernel
  have hsp : splitId "BaseException.__getattribute__" = some ("BaseException", "__getattribute__") := by decide +kernel
  have hag := F.args_bexc_ga (.ref a) (.str "__class__" t)
  simp only [checkBuiltinCall, hkd, hsp]
  refine wpAny_bind ?_
  unfold isInstance
  repeat (first | (with_reducible refine wpAny_loadPart_at hx ?_; rw [hc]) | (with_reducible refine wpAny_isSubtype_exc hCo ?_; rw [hcB]) | wp_step)
  have f5 := F.typeOf_object_class
  have f6 := F.slot_gs_get.lookup
  have f7 := F.slot_gs_set.lookup
  repeat (any_goals (first | assumption | (with_reducible refine wpAny_loadPart_at hx ?_; rw [hc]) | with_reducible refine L3.at ?_ | wp_step))
  refine exc_class_get hCo T hob hx hc (wpAny_pure ?_)
  exact handed_on rfl (wpAny_pure k)
end L2

/-! MORE OPERATIONS by values. -/
namespace L2
open PySem PySem.Spec PyProof.Rows
section
variable {X : Cx}
theorem op_le_str : OpR X (compareOp .LtE) (fun x y H Q => ∃ i j, x = .str i ∧ y = .str j ∧ Q (.bl (!decide (j.cps.toList < i.cps.toList))) H) := by
  intro pins s σ H x y v u Q I rx ry h
  obtain ⟨i, j, rfl, rfl, q⟩ := h
  obtain ⟨t, rfl⟩ := rx
  obtain ⟨t', rfl⟩ := ry
  exact PySem.P.le_str (fin_bl I q rfl)
/-! ### == and != of lists and of tuples with flat items -/
def eqL (xs ys : List V) : Bool := xs.length == ys.length && (xs.zip ys).all fun p => eqV p.1 p.2
theorem all_zip {f : Nat → Bool} : ∀ {xs ys : List V}, xs.length = ys.length → (∀ j x y, xs[j]? = some x → ys[j]? = some y → f j = eqV x y) → (List.range xs.length).all f = (xs.zip ys).all fun p => eqV p.1 p.2
  | [], [], _, _ => rfl
  | x :: xs, y :: ys, hl, h => by
    rw [List.length_cons, List.range_succ_eq_map, List.all_cons, List.all_map, List.zip_cons_cons, List.all_cons, h 0 x y rfl rfl]
    refine congrArg (eqV x y && ·) ?_
    exact all_zip (f := f ∘ Nat.succ) (by simpa using hl) fun j a b h1 h2 => h (j + 1) a b (by simpa using h1) (by simpa using h2)
def rEqL (K : PySem.W.Frag) (neg : Bool) : R2 := fun x y H Q => ∃ a b xs ys, x = .ref a ∧ y = .ref b ∧ ((SqL K H a xs ∧ SqL K H b ys) ∨ (SqT K H a xs ∧ SqT K H b ys)) ∧ xs.all flatV = true ∧ ys.all flatV = true ∧ Q (.bl (if neg then !eqL xs ys else eqL xs ys)) H
theorem items_eq {xs ys : List V} {us vs : List Value} {A : Around} {s : Shared} (rx : Vals xs us) (ry : Vals ys vs) (fx : xs.all flatV = true) (fy : ys.all flatV = true) (j : Nat) (h1 : j < us.toArray.size) (h2 : j < vs.toArray.size) :
    SeqAt.EqAt A s us.toArray[j] vs.toArray[j] (match xs[j]?, ys[j]? with | some x, some y => eqV x y | _, _ => false) := by
  have l1 := rx.length
  have l2 := ry.length
  have k1 : j < xs.length := by simpa [l1] using h1
  have k2 : j < ys.length := by simpa [l2] using h2
  obtain ⟨u, eu, ru⟩ := rx.get (List.getElem?_eq_getElem k1)
  obtain ⟨v, ev, rv⟩ := ry.get (List.getElem?_eq_getElem k2)
  have e1 : us.toArray[j] = u := by
    have : us[j]'(by simpa using h1) = u := by
      rw [List.getElem?_eq_getElem (by simpa using h1)] at eu
      exact Option.some.inj eu
    simpa using this
  have e2 : vs.toArray[j] = v := by
    have : vs[j]'(by simpa using h2) = v := by
      rw [List.getElem?_eq_getElem (by simpa using h2)] at ev
      exact Option.some.inj ev
    simpa using this
  rw [e1, e2, List.getElem?_eq_getElem k1, List.getElem?_eq_getElem k2]
  exact eqAt_V ru rv (List.all_eq_true.mp fx _ (List.getElem_mem k1)) (List.all_eq_true.mp fy _ (List.getElem_mem k2))
theorem range_eq {xs ys : List V} (h : xs.length = ys.length) : (List.range xs.length).all (fun j => match xs[j]?, ys[j]? with | some x, some y => eqV x y | _, _ => false) = eqL xs ys := by
  rw [all_zip h fun j x y h1 h2 => by rw [h1, h2]]
  unfold eqL
  rw [h, beq_self_eq_true, Bool.true_and]
theorem op_eqL (hu : X.A.units < cLine) : OpR X (compareOp .Eq) (rEqL X.K false) := by
  intro pins s σ H x y v u Q I rx ry h
  obtain ⟨a, b, xs, ys, rfl, rfl, hs, fx, fy, q⟩ := h
  cases rx
  cases ry
  rcases hs with ⟨h1, h2⟩ | ⟨h1, h2⟩
  · obtain ⟨us, r1, p1, _⟩ := I.list h1
    obtain ⟨vs, r2, p2, _⟩ := I.list h2
    have l1 := r1.length
    have l2 := r2.length
    by_cases e : xs.length = ys.length
    · refine SeqAt.eq_listAt p1.isList p2.isList (by simp; omega) hu (fun j k1 k2 => items_eq r1 r2 fx fy j k1 k2) (fin_bl I q ?_)
      rw [List.size_toArray, ← l1, range_eq e]
      rfl
    · refine SeqAt.eq_list_lengthsAt p1.isList p2.isList (by simp; omega) hu (fin_bl I q ?_)
      show eqL xs ys = false
      unfold eqL
      rw [beq_eq_false_iff_ne.mpr e, Bool.false_and]
  · obtain ⟨us, r1, p1, _⟩ := I.tuple h1
    obtain ⟨vs, r2, p2, _⟩ := I.tuple h2
    have l1 := r1.length
    have l2 := r2.length
    refine SeqAt.eq_tupleAt (show s.heap.IsTuple a us.toArray from p1) (show s.heap.IsTuple b vs.toArray from p2) hu (fun j k1 k2 => items_eq r1 r2 fx fy j k1 k2) (fin_bl I q ?_)
    show eqL xs ys = _
    rw [List.size_toArray, List.size_toArray, ← l1, ← l2]
    by_cases e : xs.length = ys.length
    · rw [e, Nat.min_self, beq_self_eq_true, Bool.and_true, ← e, range_eq e]
    · unfold eqL
      rw [beq_eq_false_iff_ne.mpr e, Bool.false_and, Bool.and_false]
theorem op_neL (hu : X.A.units < cLine) : OpR X (compareOp .NotEq) (rEqL X.K true) := by
  intro pins s σ H x y v u Q I rx ry h
  obtain ⟨a, b, xs, ys, rfl, rfl, hs, fx, fy, q⟩ := h
  cases rx
  cases ry
  rcases hs with ⟨h1, h2⟩ | ⟨h1, h2⟩
  · obtain ⟨us, r1, p1, _⟩ := I.list h1
    obtain ⟨vs, r2, p2, _⟩ := I.list h2
    have l1 := r1.length
    have l2 := r2.length
    by_cases e : xs.length = ys.length
    · refine SeqAt.RcNeAt.lists p1.isList p2.isList (by simp; omega) hu (fun j k1 k2 => items_eq r1 r2 fx fy j k1 k2) _ _ _ _ (fin_bl I q ?_)
      rw [List.size_toArray, ← l1, range_eq e]
      rfl
    · refine SeqAt.RcNeAt.lists_lengths p1.isList p2.isList (by simp; omega) hu _ _ _ _ (fin_bl I q ?_)
      show (!eqL xs ys) = true
      unfold eqL
      rw [beq_eq_false_iff_ne.mpr e, Bool.false_and]
      rfl
  · obtain ⟨us, r1, p1, _⟩ := I.tuple h1
    obtain ⟨vs, r2, p2, _⟩ := I.tuple h2
    have l1 := r1.length
    have l2 := r2.length
    refine SeqAt.RcNeAt.tuples (show s.heap.IsTuple a us.toArray from p1) (show s.heap.IsTuple b vs.toArray from p2) hu (fun j k1 k2 => items_eq r1 r2 fx fy j k1 k2) _ _ _ _ (fin_bl I q ?_)
    show (!eqL xs ys) = _
    refine congrArg (!·) ?_
    rw [List.size_toArray, List.size_toArray, ← l1, ← l2]
    by_cases e : xs.length = ys.length
    · rw [e, Nat.min_self, beq_self_eq_true, Bool.and_true, ← e, range_eq e]
    · unfold eqL
      rw [beq_eq_false_iff_ne.mpr e, Bool.false_and, Bool.and_false]

/-! ### methods -/
end
end L2

namespace L2
open PySem PySem.Spec PyProof.Rows
section
variable {X : Cx} {tg : Expr}
/-! ### a range by steps -/
/-! ### the signs of a text -/
def Its (x : Str) : It := ⟨fun i _ => i < x.cps.size, fun i H v H' => H' = H ∧ ∃ c, x.cps[i]? = some c ∧ v = .str ⟨#[c]⟩, fun i _ => x.cps.size ≤ i⟩
theorem turn_str {P : Program} {w : World} {K : PySem.W.Frag} {tg : Expr} (it : Addr) (x : Str) (t : Tok) (ty : String) (hn : ["enumerate", "zip", "dict_itemiterator", "dict_reverseitemiterator", "odict_iterator", "itertools.zip_longest", "itertools.pairwise"].contains ty = false)
    (W : ∀ A : Around, A.handled = none → Walks P w A it [it] [it] x.cps.size (SignAt x) (fun i h => h.IsStrIter it ty x t i))
    (hself : ∀ (A : Around) (i : Nat) (s : Shared) (Q : Value → Shared → Prop) (E : Value → Shared → Prop), s.heap.IsStrIter it ty x t i → Q (.ref it) s → wpAny (model P w) A (pyIter (.ref it)) Q E s) : Turn P w K tg (Its x) [it] it (fun i h => i ≤ x.cps.size ∧ h.IsStrIter it ty x t i) where
  mem := by simp
  obj := fun i h st b hb => by
    have e : b = it := by simpa using hb
    subst e
    obtain ⟨_, o, e, c, d⟩ := st
    exact ⟨o, e, fun v z => by rw [d] at z; cases z⟩
  keep := fun i h h' st k => ⟨st.1, let ⟨o, e, r⟩ := st.2; ⟨o, k it (by simp) o e, r⟩⟩
  item := by
    intro X hP hw hK hc i pins s σ H E I hf st hg
    subst hP hw hK
    obtain ⟨f0, f1, f2, f3, f4, f5⟩ := hf it (by simp)
    refine (W X.A (I.ok.hd hc)).item i s _ _ hg st.2 fun v h' tk hv st' kk => ?_
    obtain ⟨c, u, hc, rfl⟩ := hv
    have I1 : Inv X pins σ H { s with heap := h', toks := tk } := I.turned (fun b o hb e => kk b o (by simpa using hb) e) f0 f1 f3 f4 f5
    obtain ⟨o, e, c1, d⟩ := id st'
    have hg : i < x.cps.size := hg
    exact ⟨_, rfl, go_of (s := { s with heap := h', toks := tk }) e c1 d hn ⟨.str ⟨#[c]⟩, H, I1, ⟨u, rfl⟩, ⟨rfl, c, hc, rfl⟩, ⟨hg, st'⟩, fun b hb => (hf b hb).1⟩⟩
  done := by
    intro X hP hw hK hc i pins s σ H E I hf st hg
    subst hP hw hK
    obtain ⟨f0, f1, f2, f3, f4, f5⟩ := hf it (by simp)
    have e : i = x.cps.size := by have : x.cps.size ≤ i := hg; have := st.1; omega
    subst e
    exact (W X.A (I.ok.hd hc)).done s _ _ st.2 fun h' tk kk => ⟨rfl, I.turned (fun b o hb e => kk b o (by simpa using hb) e) f0 f1 f3 f4 f5⟩
  self := fun A i s Q E st h => hself A i s Q E st.2 h
def iStr (tl : TE) : TI := fun σ H R => tl σ H fun x H1 => ∃ z, x = .str z ∧ R (Its z) H1
theorem pi_str {l : Expr} {tl : TE} (hl : PE X l tl) : PI X tg l (iStr tl) := by
  intro pins s σ H R I h
  refine thn (hl pins s σ H _ I h) fun v s1 ⟨x, H1, I1, r1, q1⟩ => ?_
  obtain ⟨z, rfl, q⟩ := q1
  obtain ⟨t, rfl⟩ := r1
  have fin : ∀ (ty : String), ["enumerate", "zip", "dict_itemiterator", "dict_reverseitemiterator", "odict_iterator", "itertools.zip_longest", "itertools.pairwise"].contains ty = false →
      (∀ A : Around, A.handled = none → Walks X.prog X.w A s1.heap.objs.size [s1.heap.objs.size] [s1.heap.objs.size] z.cps.size (SignAt z) (fun i h => h.IsStrIter s1.heap.objs.size ty z t i)) →
      (∀ (A : Around) (i : Nat) (s : Shared) (Q : Value → Shared → Prop) (E : Value → Shared → Prop), s.heap.IsStrIter s1.heap.objs.size ty z t i → Q (.ref s1.heap.objs.size) s → wpAny (model X.prog X.w) A (pyIter (.ref s1.heap.objs.size)) Q E s) →
      ∀ o : Obj, (s1.heap.push o).IsStrIter s1.heap.objs.size ty z t 0 → PIE X pins σ tg R (.ref s1.heap.objs.size) { s1 with heap := s1.heap.push o } := fun ty hn W hself o st =>
    ⟨s1.heap.objs.size, [s1.heap.objs.size], _, Its z, H1, rfl, I1.kept (t' := s1.toks) fun b o e => Heap.get?_push_of_some _ e, turn_str _ z t ty hn W hself, ⟨Nat.zero_le _, st⟩, fun b hb => by
      have e : b = s1.heap.objs.size := by simpa using hb
      subst e
      exact I1.fpOk (Nat.le_refl _) (I1.hok.fresh (Nat.le_refl _)), q⟩
  cases ha : z.cps.all (· < 128)
  · exact wpAny_pyIter_wide ha (fin "str_iterator" (by decide) (fun A hA => Walks.strWide hA _ z t) (fun A i s Q E st h => wpAny_pyIter_striter_wide st h) _ ⟨_, Heap.get?_push_size _ rfl, rfl, rfl⟩)
  · exact wpAny_pyIter_ascii ha (fin "str_ascii_iterator" (by decide) (fun A hA => Walks.strAscii hA _ z t) (fun A i s Q E st h => wpAny_pyIter_striter_ascii st h) _ ⟨_, Heap.get?_push_size _ rfl, rfl, rfl⟩)

/-! ### t[lo:hi] of a text -/
def rSlS : V → Option Int → Option Int → Hp → VK → Prop := fun x lo hi H Q => ∃ z, x = .str z ∧ z.length ≤ sizeLine ∧ Q (.str (Txt.slice z lo hi)) H
theorem sl_str : SlR X rSlS := by
  intro pins s σ H x v vl vu lo hi sl Q I rx hs pl pu h
  obtain ⟨z, rfl, hz, q⟩ := h
  obtain ⟨t, rfl⟩ := rx
  refine ⟨"str", _, PySem.F.slot_str_getitem.lookup, typeIs_str _ _ _, ?_⟩
  have fin : ∀ {r : Str}, r = Txt.slice z lo hi → ∀ t' k, EP X pins σ Q (.str r t') { s with toks := k } := fun e t' k => ⟨.str _, H, I.tok _, ⟨t', by rw [e]⟩, q⟩
  cases pl with
  | none =>
    cases pu with
    | none => exact wpAny_getItem_str_slice (l := none) (u := none) (st := none) hs rfl (post_val_or_str ⟨Nat.le_trans (Txt.slice_le z _ _) hz, fun t' k => fin rfl t' k⟩)
    | int j uj => exact wpAny_getItem_str_slice (l := none) (u := some (j, uj)) (st := none) hs rfl (post_val_or_str ⟨Nat.le_trans (Txt.slice_le z _ _) hz, fun t' k => fin rfl t' k⟩)
  | int i ui =>
    cases pu with
    | none => exact wpAny_getItem_str_slice (l := some (i, ui)) (u := none) (st := none) hs rfl (post_val_or_str ⟨Nat.le_trans (Txt.slice_le z _ _) hz, fun t' k => fin rfl t' k⟩)
    | int j uj => exact wpAny_getItem_str_slice (l := some (i, ui)) (u := some (j, uj)) (st := none) hs rfl (post_val_or_str ⟨Nat.le_trans (Txt.slice_le z _ _) hz, fun t' k => fin rfl t' k⟩)

/-! ### all and any of a list of bools -/
theorem truth_bools {prog : Program} {w : World} {A : Around} {bs : List Bool} : TruthOf prog w A (fun i v => (bs.map Value.bool).toArray[i]? = some v) (fun i => bs.getD i false) := by
  intro i v s Q E h q
  have h : (bs.map Value.bool)[i]? = some v := by simpa using h
  rw [List.getElem?_map] at h
  cases e : bs[i]? with
  | none => rw [e] at h; cases h
  | some b =>
    rw [e] at h
    cases h
    have e2 : bs.getD i false = b := by simp [List.getD, e]
    have q : Q (bs.getD i false) s := q
    rw [e2] at q
    exact wpAny_truthy_bool q
theorem range_bools (f : List Nat → (Nat → Bool) → Bool) (bs : List Bool) : (List.range bs.length).map (fun i => bs.getD i false) = bs := by
  refine List.ext_getElem? fun i => ?_
  rw [List.getElem?_map]
  rcases Nat.lt_or_ge i bs.length with h | h
  · simp [h]
  · simp [h]
theorem bools_of : ∀ {bs : List Bool} {us : List Value}, Vals (bs.map V.bl) us → us = bs.map Value.bool
  | [], _, .nil => rfl
  | b :: bs, _, .cons r t => by
    have r : _ = Value.bool b := r
    rw [r, bools_of t]
    rfl
theorem call_allL (hc : X.calm = true) : CallR X (.builtin "all") (fun xs H Q => ∃ (p : Addr) (bs : List Bool), xs = [.ref p] ∧ SqL X.K H p (bs.map V.bl) ∧ Q (.bl (bs.all id)) H) := by
  intro pins s σ H xs us Q I r h
  obtain ⟨p, bs, rfl, hq, q⟩ := h
  obtain ⟨u, rfl, rx⟩ := vals1 r
  cases rx
  obtain ⟨its, rv, pl, hz⟩ := I.list hq
  have e := bools_of rv
  subst e
  have hlt : p < s.heap.objs.size := let ⟨_, z, _⟩ := pl.isList; Heap.lt_size z
  refine call_all_walk (wpAny_pyIter_list pl.isList ⟨s.heap.objs.size, _, _, _, _, _, fun i => bs.getD i false, rfl, Walks.list (A := X.A.in1) (I.ok.hd hc) s.heap.objs.size p (Nat.ne_of_lt hlt) _, ⟨⟨_, Heap.get?_push_size _ rfl, rfl, rfl⟩, pl.isList.push _⟩, truth_bools, fun h' tk kk => ?_⟩)
  have I1 : Inv X pins σ H { s with heap := h', toks := tk } := I.kept fun b o e => kk b o (by
    intro z
    have z : b = s.heap.objs.size := by simpa using z
    exact absurd (Heap.lt_size e) (by rw [z]; exact Nat.lt_irrefl _)) (Heap.get?_push_of_some _ e)
  refine ⟨.bl _, H, I1, ?_, q⟩
  have z : ((bs.map Value.bool).toArray.size) = bs.length := by simp
  rw [z]
  have y : bs.all id = (List.range bs.length).all (fun i => bs.getD i false) := by
    conv => lhs; rw [← range_bools (fun _ _ => true) bs]
    rw [List.all_map]
    rfl
  rw [y]
  rfl
end
end L2

namespace L2
open PySem PySem.Spec PyProof.Rows
section
variable {X : Cx}
/-! ### isinstance -/
/-- what of the written part an exception's class must have -/
structure ExcC (K : PySem.W.Frag) (C : Addr) : Prop where
  ex : PySem.W.excIn K C [.type "ValueError", .type "Exception", .type "BaseException", .type "object"] "ValueError.__new__" = true
  ga : PySem.W.findIn K (.ref C) "__getattribute__" = some (some (.builtin "BaseException.__getattribute__"))
  gt : PySem.W.findIn K (.ref C) "__getattr__" = some none
  cl : PySem.W.findIn K (.ref C) "__class__" = some (some (.builtin "object.__class__"))
  gs : PySem.W.specialIn K (.builtin "object.__class__") "__get__" = some (some (.builtin "getset_descriptor.__get__"))
  tk : PySem.W.takesIn K (.builtin "object.__class__") = some true
  ob : PySem.W.mroIn K C (.type "object") = some true
theorem kitx_exc {K : PySem.W.Frag} {a C : Addr} (e : ExcC K C) : PySem.W.KitX K (.ref a) (.ref C) (excφ a C) where
  ty := fun M h _ p => by
    obtain ⟨o, vs, h1, h2, _⟩ := p
    exact h2 ▸ (PySem.W.Looks.ld h1).andThen .now
  it := fun M h X p => by
    obtain ⟨bm, N, nm, q, bs, hdct, sn, sub, ab, col, dd, k0, k1, k2, k3, k5, mN, hC, _⟩ := exc_in X e.ex
    intro A' Q' E' s' k q
    unfold isType loadHead
    exact wpAny_bind (wpAny_loadPart (k _ _ hC) (wpAny_pure q))
  ne := fun h tp dd' its n sl X htp => by
    obtain ⟨bm, N, nm, q, bs, hdct, sn, sub, ab, col, dd, k0, k1, k2, k3, k5, mN, hC, _⟩ := exc_in X e.ex
    refine Bool.eq_false_iff.mpr fun z => ?_
    have e : C = tp := Value.ref.inj (beq_iff_eq.mp z)
    subst e
    rw [hC] at htp
    have z2 := congrArg Obj.cls (Option.some.inj htp)
    exact absurd z2 (by simp)
  ca := fun {prog w A E Q s} X p k => by
    obtain ⟨o, vs, h1, h2, h3⟩ := p
    exact exc_cls X PySem.F.attrBase_ValueError e.ex e.ga e.gt e.cl e.gs e.tk e.ob rfl h1 h2 h3 k
/-- the type of a value; an exception's too -/
inductive TyX (K : PySem.W.Frag) (H : Hp) : V → Value → Prop where
  | v {x : V} {t : Value} (h : TyOf K H x t) : TyX K H x t
  | ex {a C : Addr} (h : H a = some (Ex a C)) (e : ExcC K C) : TyX K H (.ref a) (.ref C)
def clsV : V → Option Value
  | .ty n => some (.type n)
  | .ref C => some (.ref C)
  | _ => none
theorem clsV_rel {c : V} {cv u : Value} (h : clsV c = some cv) (r : RelV c u) : u = cv := by
  cases c with
  | ty n => cases h; exact r
  | ref C => cases h; exact r
  | _ => cases h
/-- isinstance(x, c) -/
theorem call_isi : CallR X (.builtin "isinstance") (fun xs H Q => ∃ x c t cv b, xs = [x, c] ∧ TyX X.K H x t ∧ clsV c = some cv ∧ PySem.W.kitOne X.K t cv = some b ∧ Q (.bl b) H) := by
  intro pins s σ H xs us Q I r h
  obtain ⟨x, c, t, cv, b, rfl, ty, hc, hk, q⟩ := h
  obtain ⟨u, w, rfl, rx, rc⟩ := vals2 r
  cases clsV_rel hc rc
  cases ty with
  | v ty => exact isinst_ok I rx ty hk fun tk => ⟨.bl b, H, I.tok _, rfl, q⟩
  | @ex a C hH e =>
    cases (show u = Value.ref a from rx)
    exact PySem.W.kia_one (kitx_exc e) I.kIn (I.hok a _ hH).1 hk (fun z => nomatch z) fun tk => ⟨.bl b, H, I.tok _, rfl, q⟩
/-- isinstance(x, (c, ..)), x an exception that was caught -/
theorem call_isiT : CallR X (.builtin "isinstance") (fun xs H Q => ∃ a C p cs cvs b, xs = [.ref a, .ref p] ∧ H a = some (Ex a C) ∧ ExcC X.K C ∧ H p = some (.tup cs) ∧ cs.map clsV = cvs.map some ∧ PySem.W.kitAny X.K (.ref C) cvs = some b ∧ Q (.bl b) H) := by
  intro pins s σ H xs us Q I r h
  obtain ⟨a, C, p, cs, cvs, b, rfl, hH, e, hp, hcs, hk, q⟩ := h
  obtain ⟨u, w, rfl, rx, rc⟩ := vals2 r
  cases (show u = Value.ref a from rx)
  cases (show w = Value.ref p from rc)
  obtain ⟨hlen, its, rv, o, ho, hc, n, hd⟩ := I.hok p _ hp
  have ei : its = cvs := by
    clear hk hp hd hlen
    induction rv generalizing cvs with
    | nil =>
      cases cvs with
      | nil => rfl
      | cons _ _ => cases hcs
    | cons r _ ih =>
      cases cvs with
      | nil => cases hcs
      | cons c2 r2 =>
        rw [List.map_cons, List.map_cons] at hcs
        injection hcs with h1 h2
        rw [clsV_rel h1 r, ih r2 h2]
  subst ei
  obtain ⟨c0, d0, dt, sl⟩ := o
  cases hc
  have hd : dt = .seq its.toArray n := hd
  subst hd
  exact PySem.W.kia_tup (kitx_exc e) I.kIn (I.hok a _ hH).1 ho hk (fun z => nomatch z) fun tk => ⟨.bl b, H, I.tok _, rfl, q⟩

/-! ### zip of two lists, the pair unpacked -/
def Itz (K : PySem.W.Frag) (a b : Addr) : It := ⟨fun i H => ∃ xs ys x y, SqL K H a xs ∧ SqL K H b ys ∧ xs[i]? = some x ∧ ys[i]? = some y,
  fun i H v H' => ∃ p, H p = none ∧ v = .ref p ∧ ∃ x y, H' = upd H p (.tup [x, y]) ∧ (∀ xs, SqL K H a xs → xs[i]? = some x) ∧ ∀ ys, SqL K H b ys → ys[i]? = some y,
  fun i H => ∃ xs ys, SqL K H a xs ∧ SqL K H b ys ∧ (xs[i]? = none ∨ ys[i]? = none)⟩
def zipAt (z TI TO i1 i2 l1 l2 : Addr) (i : Nat) (h : Heap) : Prop := IsZip h z TI TO .none ∧ IsPair h TI (.ref i1) (.ref i2) ∧ (∃ a b, IsPair h TO a b) ∧ h.IsListIter i1 l1 i ∧ h.IsListIter i2 l2 i
theorem turn_zip {P : Program} {w : World} {K : PySem.W.Frag} {es : List Expr} {k1 : Nat} {pos : Pos} (z TI TO i1 i2 l1 l2 : Addr) (D : TI ≠ z ∧ TO ≠ z ∧ i1 ≠ z ∧ i2 ≠ z ∧ TI ≠ TO ∧ TI ≠ i1 ∧ TI ≠ i2 ∧ TO ≠ i1 ∧ TO ≠ i2 ∧ i1 ≠ i2) :
    Turn P w K (.Tuple es k1 pos) (Itz K l1 l2) [z, TI, TO, i1, i2] z (zipAt z TI TO i1 i2 l1 l2) where
  mem := by simp
  obj := fun i h st b hb => by
    obtain ⟨h1, h2, ⟨_, _, h3⟩, h4, h5⟩ := st
    rcases List.mem_cons.mp hb with rfl | hb
    · exact ⟨_, h1, fun v e => nomatch (show Data.fields _ = Data.cell v from e)⟩
    rcases List.mem_cons.mp hb with rfl | hb
    · exact ⟨_, h2, fun v e => nomatch (show Data.seq _ _ = Data.cell v from e)⟩
    rcases List.mem_cons.mp hb with rfl | hb
    · exact ⟨_, h3, fun v e => nomatch (show Data.seq _ _ = Data.cell v from e)⟩
    rcases List.mem_cons.mp hb with rfl | hb
    · obtain ⟨o, e, c, d⟩ := h4
      exact ⟨o, e, fun v z => by rw [d] at z; cases z⟩
    have hb : b = i2 := by simpa using hb
    subst hb
    obtain ⟨o, e, c, d⟩ := h5
    exact ⟨o, e, fun v z => by rw [d] at z; cases z⟩
  keep := fun i h h' st k => by
    obtain ⟨h1, h2, ⟨x, y, h3⟩, h4, h5⟩ := st
    exact ⟨k _ (by simp) _ h1, k _ (by simp) _ h2, ⟨x, y, k _ (by simp) _ h3⟩, h4.at fun o e => k _ (by simp) o e, h5.at fun o e => k _ (by simp) o e⟩
  item := by
    intro X hP hw hK hc i pins s σ H E I hf st hg
    subst hP hw hK
    obtain ⟨xs, ys, x, y, q1, q2, e1, e2⟩ := hg
    obtain ⟨us, rv1, p1, _⟩ := I.list q1
    obtain ⟨vs, rv2, p2, _⟩ := I.list q2
    obtain ⟨u, hu, ru⟩ := rv1.get e1
    obtain ⟨v, hv, rv⟩ := rv2.get e2
    obtain ⟨h1, h2, ⟨oa, ob, h3⟩, h4, h5⟩ := st
    obtain ⟨d1, d2, d3, d4, d5, d6, d7, d8, d9, d10⟩ := D
    have fne : ∀ l : Addr, (∃ its, s.heap.IsList l its) → l ≠ z ∧ l ≠ TO ∧ l ≠ i1 ∧ l ≠ i2 := fun l ⟨its, hl⟩ => by
      obtain ⟨o, ho, hcl, _⟩ := hl
      refine ⟨?_, ?_, ?_, ?_⟩
      · rintro rfl
        rw [h1] at ho; cases ho; exact absurd hcl (by simp)
      · rintro rfl
        rw [h3] at ho; cases ho; exact absurd hcl (by simp)
      · rintro rfl
        obtain ⟨o', e', c', _⟩ := h4
        rw [e'] at ho; cases ho; rw [c'] at hcl; exact absurd hcl (by simp)
      · rintro rfl
        obtain ⟨o', e', c', _⟩ := h5
        rw [e'] at ho; cases ho; rw [c'] at hcl; exact absurd hcl (by simp)
    obtain ⟨a1, a2, a3, a4⟩ := fne l1 ⟨_, p1.isList⟩
    obtain ⟨b1, b2, b3, b4⟩ := fne l2 ⟨_, p2.isList⟩
    refine wpAny_pyNext_zip_item (xs := us.toArray) (ys := vs.toArray) (x := u) (y := v) ⟨d1, d2, d3, d4, d5, d6, d7, d8, d9, d10, a1, a2, a3, a4, b1, b2, b3, b4⟩ h1 h2 h3 h4 h5 p1.isList p2.isList (by simpa using hu) (by simpa using hv)
      fun h' g1 g2 g3 g4 g5 g6 kk => ⟨_, rfl, ?_⟩
    refine wpAny_letOwnedTupleGo_zip g1 fun h2' z1 sb => ?_
    have lt : ∀ b ∈ [z, TI, TO, i1, i2], b < s.heap.objs.size := fun b hb => by
      rcases List.mem_cons.mp hb with rfl | hb
      · exact Heap.lt_size h1
      rcases List.mem_cons.mp hb with rfl | hb
      · exact Heap.lt_size h2
      rcases List.mem_cons.mp hb with rfl | hb
      · exact Heap.lt_size h3
      rcases List.mem_cons.mp hb with rfl | hb
      · obtain ⟨o, e, _⟩ := h4; exact Heap.lt_size e
      have hb : b = i2 := by simpa using hb
      subst hb
      obtain ⟨o, e, _⟩ := h5; exact Heap.lt_size e
    have nz : s.heap.objs.size ≠ z := Nat.ne_of_gt (lt z (by simp))
    have kp : ∀ c o, c ∉ [z, TO, i1, i2] → s.heap.get? c = some o → h2'.get? c = some o := fun c o hcn e => by
      have h' := hcn
      simp only [List.mem_cons, not_or, List.not_mem_nil, not_false_eq_true, and_true] at h'
      exact sb.extBut c o h'.1 (kk c o h'.1 h'.2.1 h'.2.2.1 h'.2.2.2 e)
    have fok : ∀ b ∈ [z, TO, i1, i2], FpOk X pins H b := fun b hb => hf b (by
      simp only [List.mem_cons, List.not_mem_nil, or_false] at hb ⊢
      rcases hb with h | h | h | h <;> simp [h])
    have nit : ∀ b u, H b = some u → b ∉ [z, TO, i1, i2] := fun b u e m => by
      rw [(fok b m).1] at e
      cases e
    have I1 : Inv X pins σ H { s with heap := h2', toks := s.toks } := by
      refine I.step (g' := s.gens) (d' := s.drawn) (ch := [z, TO, i1, i2]) (fun b hb => let ⟨_, y1, y2, y3, y4, y5⟩ := fok b hb; ⟨y3, y1, y4, y5⟩) (fun b o _ _ hcn e _ => kp b o hcn e) (fun b o _ _ hcn e _ => ⟨o.slots, kp b o hcn e⟩) (fun _ _ _ _ n => n)
        (fun b o hcn e => ⟨o, kp b o hcn e⟩) (fun _ _ e => e) (fun _ _ _ e => e) (fun b ps e => ⟨#[], by rw [e]; simp⟩) (fun m hm => ?_) (fun b u e => ?_) I.bare
      · obtain ⟨o, es, ep, ho, r⟩ := hm
        exact ⟨o, es, ep, kp _ o (fun m => (fok _ m).2.1 rfl) ho, r⟩
      · refine (I.hok b u e).stay (fun c v hc' q => kp c v ?_ q) (fun _ q => q) fun _ _ q => q
        rcases hc' with y | y
        · rw [y]; exact nit b u e
        · exact nit c _ y
    have gT : h2'.get? s.heap.objs.size = some { cls := .type "tuple", data := .seq #[u, v] } := sb.extBut _ _ nz g5
    have I2 : Inv X pins σ (upd H s.heap.objs.size (.tup [x, y])) { s with heap := h2', toks := s.toks } := by
      refine I1.track I.fresh ?_ (Nat.ne_of_gt I.lt) (fun y c e => ?_) (fun p hp => ?_) ⟨by show 2 ≤ sizeLine; decide, [u, v], .cons ru (.cons rv .nil), ⟨_, gT, rfl, _, rfl⟩⟩
      · cases q : X.s₀.heap.get? s.heap.objs.size with
        | none => rfl
        | some o => exact absurd (Nat.lt_of_lt_of_le (Heap.lt_size q) I.sz) (Nat.lt_irrefl _)
      · obtain ⟨w, o, ho, _⟩ := I.cell y c e
        exact Nat.ne_of_lt (Heap.lt_size ho)
      · exact Nat.ne_of_lt (Heap.lt_size (I.pin p hp).1)
    refine ⟨.ref s.heap.objs.size, _, I2, rfl, ⟨_, I.fresh, rfl, x, y, rfl, fun xs' h' => by rw [I.list_inj h' q1]; exact e1, fun ys' h' => by rw [I.list_inj h' q2]; exact e2⟩, ⟨z1, ?_, ⟨u, v, ?_⟩, ?_, ?_⟩, fun b hb => ?_⟩
    · exact sb.extBut _ _ d1 (kk _ _ d1 d5 d6 d7 h2)
    · exact sb.extBut _ _ d2 g2
    · exact g3.at fun o e => sb.extBut _ _ d3 e
    · exact g4.at fun o e => sb.extBut _ _ d4 e
    · rw [upd_ne (Nat.ne_of_lt (lt b hb))]
      exact (hf b hb).1
  done := by
    intro X hP hw hK hc i pins s σ H E I hf st hg
    subst hP hw hK
    obtain ⟨xs, ys, q1, q2, e1⟩ := hg
    obtain ⟨us, rv1, p1, _⟩ := I.list q1
    obtain ⟨vs, rv2, p2, _⟩ := I.list q2
    obtain ⟨h1, h2, ⟨oa, ob, h3⟩, h4, h5⟩ := st
    obtain ⟨d1, d2, d3, d4, d5, d6, d7, d8, d9, d10⟩ := D
    have fne : ∀ l : Addr, (∃ its, s.heap.IsList l its) → l ≠ z ∧ l ≠ TO ∧ l ≠ i1 ∧ l ≠ i2 := fun l ⟨its, hl⟩ => by
      obtain ⟨o, ho, hcl, _⟩ := hl
      refine ⟨?_, ?_, ?_, ?_⟩
      · rintro rfl
        rw [h1] at ho; cases ho; exact absurd hcl (by simp)
      · rintro rfl
        rw [h3] at ho; cases ho; exact absurd hcl (by simp)
      · rintro rfl
        obtain ⟨o', e', c', _⟩ := h4
        rw [e'] at ho; cases ho; rw [c'] at hcl; exact absurd hcl (by simp)
      · rintro rfl
        obtain ⟨o', e', c', _⟩ := h5
        rw [e'] at ho; cases ho; rw [c'] at hcl; exact absurd hcl (by simp)
    obtain ⟨a1, a2, a3, a4⟩ := fne l1 ⟨_, p1.isList⟩
    obtain ⟨b1, b2, b3, b4⟩ := fne l2 ⟨_, p2.isList⟩
    have fok : ∀ b ∈ [z, TO, i1, i2], FpOk X pins H b := fun b hb => hf b (by
      simp only [List.mem_cons, List.not_mem_nil, or_false] at hb ⊢
      rcases hb with h | h | h | h <;> simp [h])
    have nit : ∀ b u, H b = some u → b ∉ [z, TO, i1, i2] := fun b u e m => by
      rw [(fok b m).1] at e
      cases e
    refine wpAny_pyNext_zip_end (xs := us.toArray) (ys := vs.toArray) (I.ok.hd hc) ⟨d1, d2, d3, d4, d5, d6, d7, d8, d9, d10, a1, a2, a3, a4, b1, b2, b3, b4⟩ h1 h2 h3 h4 h5 p1.isList p2.isList ?_ fun h' kk => ⟨rfl, ?_⟩
    · have m1 := rv1.length
      have m2 := rv2.length
      rcases e1 with e | e
      · left; rw [List.getElem?_eq_none_iff] at e; simp; omega
      · right; rw [List.getElem?_eq_none_iff] at e; simp; omega
    · have kp : ∀ c o, c ∉ [z, TO, i1, i2] → s.heap.get? c = some o → h'.get? c = some o := fun c o hcn e => by
        simp only [List.mem_cons, not_or, List.not_mem_nil, not_false_eq_true, and_true] at hcn
        exact kk c o hcn.1 hcn.2.1 hcn.2.2.1 hcn.2.2.2 e
      refine I.step (g' := s.gens) (d' := s.drawn) (t' := s.toks) (ch := [z, TO, i1, i2]) (fun b hb => let ⟨_, y1, y2, y3, y4, y5⟩ := fok b hb; ⟨y3, y1, y4, y5⟩) (fun b o _ _ hcn e _ => kp b o hcn e) (fun b o _ _ hcn e _ => ⟨o.slots, kp b o hcn e⟩) (fun _ _ _ _ n => n)
        (fun b o hcn e => ⟨o, kp b o hcn e⟩) (fun _ _ e => e) (fun _ _ _ e => e) (fun b ps e => ⟨#[], by rw [e]; simp⟩) (fun m hm => ?_) (fun b u e => ?_) I.bare
      · obtain ⟨o, es, ep, ho, r⟩ := hm
        exact ⟨o, es, ep, kp _ o (fun m => (fok _ m).2.1 rfl) ho, r⟩
      · refine (I.hok b u e).stay (fun c v hc' q => kp c v ?_ q) (fun _ q => q) fun _ _ q => q
        rcases hc' with y | y
        · rw [y]; exact nit b u e
        · exact nit c _ y
  self := fun _ _ _ _ _ st h => wpAny_pyIter_zip st.1 h
def iZip (K : PySem.W.Frag) (ta : TA) : TI := fun σ H R => ta σ H fun vs H1 => ∃ a b, vs = [.ref a, .ref b] ∧ (∃ xs, SqL K H1 a xs) ∧ (∃ ys, SqL K H1 b ys) ∧ R (Itz K a b) H1
theorem pi_zip {es : List Expr} {k1 : Nat} {tpos : Pos} {a b : Expr} {ta : TA} {p pos : Pos} (hg : Gl X "zip") (hm : X.mg "zip" = none) (hv : bootBuiltins "zip" = some (.type "zip")) (ha : PA X [a, b] ta) (hs : starEach [a, b] X.env = [(false, eval a X.env), (false, eval b X.env)] := by rfl)
    (hs2 : starEach [b] X.env = [(false, eval b X.env)] := by rfl) : PI X (.Tuple es k1 tpos) (.Call (.Name "zip" p) [a, b] [] pos) (iZip X.K ta) := by
  intro pins s σ H R I h
  refine Call_ (ld_blt I hg hm hv (PyProof.Rows.callWith_type1 (thn (ha pos pins s σ H _ I h) fun us s1 ⟨vs, H1, I1, r1, q1⟩ => ?_) (by rw [hs, hs2]) (by rw [hs2]; rfl)))
  obtain ⟨l1, l2, e, ⟨xs, q1⟩, ⟨ys, q2⟩, q⟩ := q1
  subst e
  obtain ⟨u, v, rfl, ru, rv⟩ := vals2 r1
  cases ru
  cases rv
  obtain ⟨us, _, p1, _⟩ := I1.list q1
  obtain ⟨vs, _, p2, _⟩ := I1.list q2
  refine call_zip_2 p1.isList p2.isList fun h' g1 g2 g3 g4 g5 g6 kk => wpAny_pyIter_zip g1 ?_
  have I2 : Inv X pins σ H1 { s1 with heap := h', toks := s1.toks } := I1.kept kk
  refine ⟨_, [s1.heap.objs.size + 4, s1.heap.objs.size + 2, s1.heap.objs.size + 3, s1.heap.objs.size, s1.heap.objs.size + 1], _, _, H1, rfl, I2, turn_zip (s1.heap.objs.size + 4) (s1.heap.objs.size + 2) (s1.heap.objs.size + 3) s1.heap.objs.size (s1.heap.objs.size + 1) l1 l2 ⟨?_, ?_, ?_, ?_, ?_, ?_, ?_, ?_, ?_, ?_⟩, ⟨g1, g2, ⟨_, _, g3⟩, g4, g5⟩, fun b hb => ?_, q⟩
  all_goals first | (show (_ : Nat) ≠ _; omega) | skip
  have hb' : s1.heap.objs.size ≤ b := by
    simp only [List.mem_cons, List.not_mem_nil, or_false] at hb
    rcases hb with h | h | h | h | h <;> (rw [h]; first | exact Nat.le_refl _ | exact Nat.le_add_right _ _)
  exact I1.fpOk hb' (I1.hok.fresh hb')
end
end L2

namespace L2
open PySem PySem.Spec PyProof.Rows
/-! ### one step of a reading at a time -/
section
variable {σ : St} {H : Hp} {Q : VK} {QB : Bool → Hp → Prop} {QA : List V → Hp → Prop} {QS : St → Hp → Prop} {ta tb tc te : TE} {tt uu : TT} {tA : TA} {t u : TS} {nx : St → Hp → Prop} {rt : VK} {bk ct : St → Hp → Prop} {v : V} {i : Nat} {r r' : R2}
theorem w_var (h : σ[i]? = some (some v)) (q : Q v H) : tVar i σ H Q := ⟨v, h, q⟩
theorem w_C (q : Q v H) : tC v σ H Q := q
theorem w_op (q : ta σ H fun x H1 => tb σ H1 fun y H2 => r x y H2 Q) : tOp r ta tb σ H Q := q
theorem w_un {r : V → Hp → VK → Prop} (q : ta σ H fun x H1 => r x H1 Q) : tUn r ta σ H Q := q
theorem w_I0 {g : Int → Int → V} {a b : Int} (q : Q (g a b) H) : rI0 g (.int a) (.int b) H Q := ⟨a, b, rfl, rfl, q⟩
theorem w_U {g : Int → V} {a : Int} (q : Q (g a) H) : rU g (.int a) H Q := ⟨a, rfl, q⟩
theorem w_mod {a b : Int} {g : Int → Int → V} (c : 0 < b) (q : Q (g a b) H) : rI (fun _ j => 0 < j) g (.int a) (.int b) H Q := ⟨a, b, rfl, rfl, c, q⟩
theorem w_I {C : Int → Int → Prop} {a b : Int} {g : Int → Int → V} (c : C a b) (q : Q (g a b) H) : rI C g (.int a) (.int b) H Q := ⟨a, b, rfl, rfl, c, q⟩
theorem w_eqi {a b : Int} (q : Q (.bl (decide (a = b))) H) : rEq (.int a) (.int b) H Q := ⟨rfl, by rw [show decide (V.int a = V.int b) = decide (a = b) from decide_eq_decide.mpr ⟨fun e => V.int.inj e, fun e => by rw [e]⟩]; exact q⟩
theorem w_nei {a b : Int} (q : Q (.bl (!decide (a = b))) H) : rNe (.int a) (.int b) H Q := ⟨rfl, by rw [show decide (V.int a = V.int b) = decide (a = b) from decide_eq_decide.mpr ⟨fun e => V.int.inj e, fun e => by rw [e]⟩]; exact q⟩
theorem w_eqs {a b : Str} (q : Q (.bl (decide (a = b))) H) : rEq (.str a) (.str b) H Q := ⟨rfl, by rw [show decide (V.str a = V.str b) = decide (a = b) from decide_eq_decide.mpr ⟨fun e => V.str.inj e, fun e => by rw [e]⟩]; exact q⟩
theorem w_nes {a b : Str} (q : Q (.bl (!decide (a = b))) H) : rNe (.str a) (.str b) H Q := ⟨rfl, by rw [show decide (V.str a = V.str b) = decide (a = b) from decide_eq_decide.mpr ⟨fun e => V.str.inj e, fun e => by rw [e]⟩]; exact q⟩
theorem w_neb {a b : Bool} (q : Q (.bl (!decide (a = b))) H) : rNe (.bl a) (.bl b) H Q := ⟨rfl, by rw [show decide (V.bl a = V.bl b) = decide (a = b) from decide_eq_decide.mpr ⟨fun e => V.bl.inj e, fun e => by rw [e]⟩]; exact q⟩
theorem w_test (q : te σ H fun x H1 => ∃ k, x = .bl k ∧ QB k H1) : tTest te σ H QB := q
theorem w_tB (q : te σ H fun x H1 => ∃ k, x = .bl k ∧ QB k H1) : tB te σ H QB := q
theorem w_k {P : Bool → Prop} {b : Bool} (q : P b) : ∃ k, V.bl b = .bl k ∧ P k := ⟨b, rfl, q⟩
theorem w_and (q : tt σ H fun c H1 => if c = true then uu σ H1 QB else QB false H1) : tAnd tt uu σ H QB := q
theorem w_or (q : tt σ H fun c H1 => if c = true then QB true H1 else uu σ H1 QB) : tOr tt uu σ H QB := q
theorem w_not (q : tt σ H fun c H1 => QB (!c) H1) : tNot tt σ H QB := q
theorem w_andV (q : ta σ H fun x H1 => ∃ c, x = .bl c ∧ if c = true then tb σ H1 Q else Q (.bl false) H1) : tAndV ta tb σ H Q := q
theorem w_orV (q : ta σ H fun x H1 => ∃ c, x = .bl c ∧ if c = true then Q (.bl true) H1 else tb σ H1 Q) : tOrV ta tb σ H Q := q
theorem w_notV (q : ta σ H fun x H1 => ∃ c, x = .bl c ∧ Q (.bl (!c)) H1) : tNotV ta σ H Q := q
theorem w_chain (q : ta σ H fun x H1 => tb σ H1 fun y H2 => r x y H2 fun z H3 => ∃ k, z = .bl k ∧ if k = true then tc σ H3 fun w' H4 => r' y w' H4 Q else Q (.bl false) H3) : tChain r r' ta tb tc σ H Q := q
theorem w_nil (q : QA [] H) : tNil σ H QA := q
theorem w_cons (q : te σ H fun x H1 => tA σ H1 fun xs H2 => QA (x :: xs) H2) : tCons te tA σ H QA := q
theorem w_call {sp : Sp} {dvs : List V} {E : XK} (q : tA σ H fun vs H1 => sp (vs ++ dvs) H1 Q E) : tCall sp dvs E tA σ H Q := q
theorem w_make {C : Addr} {sp : Sp} {dvs : List V} {E : XK} (q : tA σ H fun vs H1 => ∀ x dx, H1 x = none → H1 dx = none → dx ≠ x → sp (.ref x :: (vs ++ dvs)) (upd (upd H1 dx (.own x)) x (.ins C dx [])) (fun v H2 => v = .non ∧ Q (.ref x) H2) E) : tMake C sp dvs E tA σ H Q := q
theorem w_CB {r : List V → Hp → VK → Prop} (q : tA σ H fun vs H1 => r vs H1 Q) : tCB r tA σ H Q := q
theorem w_tup (q : tA σ H fun xs H1 => xs.length ≤ sizeLine ∧ ∀ p, H1 p = none → Q (.ref p) (upd H1 p (.tup xs))) : tTup tA σ H Q := q
theorem w_lst (q : tA σ H fun xs H1 => xs.length ≤ sizeLine ∧ ∀ p, H1 p = none → Q (.ref p) (upd H1 p (.lst xs))) : tLst tA σ H Q := q
theorem w_sl {r : V → Option Int → Option Int → Hp → VK → Prop} {tl th : TO} (q : te σ H fun x H1 => tl σ H1 fun l H2 => th σ H2 fun u H3 => r x l u H3 Q) : tSl r te tl th σ H Q := q
theorem w_noPart {R : Option Int → Hp → Prop} (q : R none H) : tNoPart σ H R := q
theorem w_part {R : Option Int → Hp → Prop} (q : te σ H fun x H1 => ∃ i, x = .int i ∧ R (some i) H1) : tPart te σ H R := q
theorem w_ki {P : Int → Prop} {b : Int} (q : P b) : ∃ k, V.int b = .int k ∧ P k := ⟨b, rfl, q⟩
theorem w_bm {K : PySem.W.Frag} {T : String} {r : V → List V → Hp → VK → Prop} (q : ta σ H fun x H1 => tyV K T x H1 ∧ tA σ H1 fun xs H2 => r x xs H2 Q) : tBM K T r ta tA σ H Q := q
theorem w_bm0 {K : PySem.W.Frag} {T : String} {r : V → List V → Hp → VK → Prop} (q : ta σ H fun x H1 => tyV K T x H1 ∧ r x [] H1 Q) : tBM0 K T r ta σ H Q := q
theorem w_fld {K : PySem.W.Frag} {f : Str} (q : ta σ H fun x H1 => ∃ a C dx fs v, x = .ref a ∧ H1 a = some (.ins C dx fs) ∧ Cls K C ∧ NoAttr K C f ∧ fs.lookup f = some v ∧ Q v H1) : tFld K ta f σ H Q := q
-- statements
theorem w_seq (q : t ⟨u ⟨nx, rt, bk, ct⟩, rt, bk, ct⟩ σ H) : tSeq t u ⟨nx, rt, bk, ct⟩ σ H := q
theorem w_next (q : nx σ H) : tNext ⟨nx, rt, bk, ct⟩ σ H := q
theorem w_asg (q : te σ H fun x H1 => nx (σ.set i (some x)) H1) : tAsg te (gName i) ⟨nx, rt, bk, ct⟩ σ H := q
theorem w_setLC (q : te σ H fun x H1 => nx (σ.set i (some x)) H1) : sLC i te ⟨nx, rt, bk, ct⟩ σ H := q
theorem w_asgG {g : TG} (q : te σ H fun x H1 => g x σ H1 nx) : tAsg te g ⟨nx, rt, bk, ct⟩ σ H := q
theorem w_ret (q : te σ H rt) : tRet te ⟨nx, rt, bk, ct⟩ σ H := q
theorem w_drop (q : te σ H fun _ H1 => nx σ H1) : tDrop te ⟨nx, rt, bk, ct⟩ σ H := q
theorem w_if (q : tt σ H fun b H1 => if b = true then t ⟨nx, rt, bk, ct⟩ σ H1 else u ⟨nx, rt, bk, ct⟩ σ H1) : tIfS tt t u ⟨nx, rt, bk, ct⟩ σ H := q
theorem w_sfld {K : PySem.W.Frag} {f : Str} (q : tb σ H fun y H1 => ta σ H1 fun x H2 => ∃ a C dx fs, x = .ref a ∧ H2 a = some (.ins C dx fs) ∧ Cls K C ∧ NoAttr K C f ∧ fs.length < 1000 ∧ nx σ (upd H2 a (.ins C dx (putF f y fs)))) : sFld K ta tb f ⟨nx, rt, bk, ct⟩ σ H := q
theorem w_for {wi : TI} {g : TG} (q : wi σ H fun J H1 => ∃ W : Nat → Nat → St → Hp → Prop, (∃ m, W 0 m σ H1) ∧ ∀ i m σ H, W i m σ H →
  (J.stop i H ∧ nx σ H) ∨ (J.go i H ∧ ∃ N : St → Hp → Prop, (∀ σ' H', N σ' H' → ∃ m', m' < m ∧ W (i + 1) m' σ' H') ∧ ∀ x H', J.yld i H x H' → g x σ H' fun σ2 H2 => t ⟨N, rt, nx, N⟩ σ2 H2)) : tFor wi g t ⟨nx, rt, bk, ct⟩ σ H := q
theorem w_iList {K : PySem.W.Frag} {R : It → Hp → Prop} (q : te σ H fun x H1 => ∃ a, x = .ref a ∧ (∃ xs, SqL K H1 a xs) ∧ R (Itl K a) H1) : iList K te σ H R := q
theorem w_gName {x : V} (q : QS (σ.set i (some x)) H) : gName i x σ H QS := q
theorem w_raise {C : Addr} {E : XK} (q : tA σ H fun _ H1 => E (.ref C) none H1) : sRaise C E tA ⟨nx, rt, bk, ct⟩ σ H := q
end
theorem iteNT {A B : Prop} (h : B) : if (!true) = true then A else B := iteF h
theorem iteNF {A B : Prop} (h : A) : if (!false) = true then A else B := iteT h
theorem w_ite {b : Bool} {A B : Prop} (h1 : b = true → A) (h2 : b = false → B) : if b = true then A else B := by
  cases b with
  | true => rw [if_pos rfl]; exact h1 rfl
  | false => rw [if_neg Bool.false_ne_true]; exact h2 rfl
/-! ### generators and comprehensions that leave the heap as it is -/
section
variable {σ : St} {H : Hp} {Q : VK} {te : TE} {τ : St} {K : PySem.W.Frag} {T : Addr}
theorem w_G {fold : Nat → (Nat → Bool) → Bool} {nN : Nat} {fs : List (Nat × Nat)} {wi : TI} {g : TG} (q : wi σ H fun J H1 => H1 T = some (Tb T) ∧ ∃ n p G, G H1 ∧ gTurn J g te (tau nN fs σ) G n p ∧ ∀ H2, G H2 → Q (.bl (fold n p)) H2) : tG K fold T nN fs wi g te σ H Q := q
theorem w_iStr {R : It → Hp → Prop} {tl : TE} (q : tl σ H fun x H1 => ∃ z, x = .str z ∧ R (Its z) H1) : iStr tl σ H R := q
theorem w_iTup {R : It → Hp → Prop} {tl : TE} (q : tl σ H fun x H1 => ∃ a, x = .ref a ∧ (∃ xs, SqT K H1 a xs) ∧ R (Itt K a) H1) : iTup K tl σ H R := q
theorem w_rng1 {ta : TA} {R : It → Hp → Prop} (q : ta σ H fun vs H1 => ∃ j : Int, vs = [.int j] ∧ -(2 ^ 62) ≤ j ∧ j < 2 ^ 62 ∧ R (Itr 0 j.toNat) H1) : iRng1 ta σ H R := q
theorem turn_s {x : Str} {q : Nat → Bool} (hτ : τ[0]? = some none) (h : ∀ c ∈ x.cps.toList, te (τ.set 0 (some (.str ⟨#[c]⟩))) H fun v H5 => H5 = H ∧ v = .bl (q c)) :
    gTurn (Its x) (gName 0) te τ (· = H) x.cps.size fun i => match x.cps.toList[i]? with | some c => q c | none => false := by
  rintro _ rfl
  refine ⟨Nat.le_refl _, fun i hi => ⟨hi, ?_⟩⟩
  rintro v _ ⟨rfl, c, hc, rfl⟩
  have e : x.cps.toList[i]? = some c := by simpa using hc
  refine ⟨fun j v hj => ?_, ?_⟩
  · by_cases z : j = 0
    · subst z; rw [hτ] at hj; cases hj
    · rw [List.getElem?_set_ne (Ne.symm z)]; exact hj
  · dsimp only; rw [e]
    exact h c (List.mem_of_getElem? e)
theorem all_s {x : Str} (q : Nat → Bool) (hP : H T = some (Tb T)) (hτ : τ[0]? = some none) (h : ∀ c ∈ x.cps.toList, te (τ.set 0 (some (.str ⟨#[c]⟩))) H fun v H5 => H5 = H ∧ v = .bl (q c)) (k : Q (.bl (x.cps.toList.all q)) H) :
    H T = some (Tb T) ∧ ∃ n p G, G H ∧ gTurn (Its x) (gName 0) te τ G n p ∧ ∀ H2, G H2 → Q (.bl (allN n p)) H2 := by
  refine ⟨hP, _, _, (· = H), rfl, turn_s hτ h, ?_⟩
  rintro _ rfl
  have z := all_range x.cps.toList q
  rw [Array.length_toList] at z
  refine Eq.mpr (congrArg (fun b => Q (V.bl b) _) (?_ : _ = x.cps.toList.all q)) k
  unfold allN
  rw [← z]
  congr 1
  funext i
  cases x.cps.toList[i]? <;> rfl
theorem all_l {a : Addr} {xs : List V} (q : V → Bool) (hl : SqL K H a xs) (hP : H T = some (Tb T)) (hτ : τ[0]? = some none) (h : ∀ x ∈ xs, te (τ.set 0 (some x)) H fun v H5 => H5 = H ∧ v = .bl (q x)) (k : Q (.bl (xs.all q)) H) :
    H T = some (Tb T) ∧ ∃ n p G, G H ∧ gTurn (Itl K a) (gName 0) te τ G n p ∧ ∀ H2, G H2 → Q (.bl (allN n p)) H2 := by
  refine ⟨hP, _, _, (· = H), rfl, turn_l hl hτ h, ?_⟩
  rintro _ rfl
  refine Eq.mpr (congrArg (fun b => Q (V.bl b) _) (?_ : _ = xs.all q)) k
  unfold allN
  rw [← all_range xs q]
  congr 1
  funext i
  cases xs[i]? <;> rfl
end
theorem Same.upd {H : Hp} {p : Addr} {o : HO} (h : H p = none) : Same H (upd H p o) := fun b u e => by rw [upd_ne (ne_of_none e h)]; exact e
section
variable {H : Hp} {QB : Bool → Hp → Prop} {te : TE} {τ : St} {K : PySem.W.Frag} {T a : Addr} {xs : List V}
theorem all_lB (q : V → Bool) (hl : SqL K H a xs) (hP : H T = some (Tb T)) (hτ : τ[0]? = some none) (h : ∀ x ∈ xs, te (τ.set 0 (some x)) H fun v H5 => H5 = H ∧ v = .bl (q x)) (k : QB (xs.all q) H) :
    H T = some (Tb T) ∧ ∃ n p G, G H ∧ gTurn (Itl K a) (gName 0) te τ G n p ∧ ∀ H2, G H2 → ∃ k, V.bl (allN n p) = .bl k ∧ QB k H2 := all_l (Q := fun v H2 => ∃ k, v = .bl k ∧ QB k H2) q hl hP hτ h ⟨_, rfl, k⟩
end
/-- any of pairs (zip of two lists); the pairs are new objects -/
theorem any_z {K : PySem.W.Frag} {T a b : Addr} {H : Hp} {Q : VK} {te : TE} {xs ys : List V} {n : Nat} (p : Nat → Bool) (h1 : SqL K H a xs) (h2 : SqL K H b ys) (n1 : n ≤ xs.length) (n2 : n ≤ ys.length) (n3 : n = xs.length ∨ n = ys.length) (hP : H T = some (Tb T))
    (h : ∀ i x y H5, i < n → xs[i]? = some x → ys[i]? = some y → Same H H5 → te [some x, some y] H5 fun v H6 => Same H H6 ∧ v = .bl (p i)) (k : ∀ H2, Same H H2 → Q (.bl (anyN n p)) H2) :
    H T = some (Tb T) ∧ ∃ n p G, G H ∧ gTurn (Itz K a b) (gTup K 2 (gCons (gName 0) (gCons (gName 1) gNil))) te [none, none] G n p ∧ ∀ H2, G H2 → Q (.bl (anyN n p)) H2 := by
  refine ⟨hP, n, p, Same H, Same.refl H, fun H2 s2 => ⟨⟨xs, ys, s2.seq h1, s2.seq h2, ?_⟩, fun i hi => ⟨⟨xs, ys, xs[i], ys[i], s2.seq h1, s2.seq h2, List.getElem?_eq_getElem (by omega), List.getElem?_eq_getElem (by omega)⟩, ?_⟩⟩, k⟩
  · rcases n3 with e | e
    · exact .inl (List.getElem?_eq_none_iff.mpr (by omega))
    · exact .inr (List.getElem?_eq_none_iff.mpr (by omega))
  · rintro v H3 ⟨q, hq, rfl, x, y, rfl, e1, e2⟩
    have e1 := e1 xs (s2.seq h1)
    have e2 := e2 ys (s2.seq h2)
    refine ⟨q, [x, y], rfl, SqT.of upd_same, rfl, x, [y], rfl, y, [], rfl, rfl, fun j v hj => ?_, ?_⟩
    · match j, hj with
      | 0, hj => cases hj
      | 1, hj => cases hj
      | (_ + 2), hj => cases hj
    · exact h i x y _ hi e1 e2 (s2.trans (Same.upd hq))
theorem w_iZip {σ : St} {H : Hp} {K : PySem.W.Frag} {ta : TA} {R : It → Hp → Prop} (q : ta σ H fun vs H1 => ∃ a b, vs = [.ref a, .ref b] ∧ (∃ xs, SqL K H1 a xs) ∧ (∃ ys, SqL K H1 b ys) ∧ R (Itz K a b) H1) : iZip K ta σ H R := q
end L2
local macro_rules | `(tactic| array_get_dec) => `(tactic| (first
  | ((with_reducible refine L2.w_var (v := ?v) ?h ?_); (case h => exact rfl)) | ((with_reducible refine L2.w_mod ?h ?_); (case h => decide)) | ((with_reducible refine L2.w_I (C := L2.CDiv) ?h ?_); (case h => exact ⟨by decide, by decide⟩))
  | with_reducible refine L2.iteT ?_ | with_reducible refine L2.iteF ?_ | with_reducible refine L2.iteNT ?_ | with_reducible refine L2.iteNF ?_
  | with_reducible refine L2.w_op ?_ | with_reducible refine L2.w_C ?_ | with_reducible refine L2.w_I0 ?_ | with_reducible refine L2.w_un ?_ | with_reducible refine L2.w_U ?_ | with_reducible refine L2.w_eqi ?_ | with_reducible refine L2.w_nei ?_ | with_reducible refine L2.w_eqs ?_ | with_reducible refine L2.w_nes ?_ | with_reducible refine L2.w_neb ?_ | with_reducible refine L2.w_test ?_ | with_reducible refine L2.w_tB ?_ | with_reducible refine L2.w_k ?_ | with_reducible refine L2.w_and ?_ | with_reducible refine L2.w_or ?_ | with_reducible refine L2.w_not ?_ | with_reducible refine L2.w_andV ?_ | with_reducible refine L2.w_orV ?_ | with_reducible refine L2.w_notV ?_ | with_reducible refine L2.w_chain ?_ | with_reducible refine L2.w_nil ?_ | with_reducible refine L2.w_cons ?_ | with_reducible refine L2.w_call ?_ | with_reducible refine L2.w_CB ?_ | with_reducible refine L2.w_tup ?_ | with_reducible refine L2.w_lst ?_ | with_reducible refine L2.w_sl ?_ | with_reducible refine L2.w_noPart ?_ | with_reducible refine L2.w_part ?_ | with_reducible refine L2.w_ki ?_ | with_reducible refine L2.w_bm ?_ | with_reducible refine L2.w_bm0 ?_ | with_reducible refine L2.w_fld ?_ | with_reducible refine L2.w_seq ?_ | with_reducible refine L2.w_next ?_ | with_reducible refine L2.w_asg ?_ | with_reducible refine L2.w_setLC ?_ | with_reducible refine L2.w_ret ?_ | with_reducible refine L2.w_drop ?_ | with_reducible refine L2.w_if ?_ | with_reducible refine L2.w_sfld ?_ | with_reducible refine L2.w_for ?_ | with_reducible refine L2.w_iList ?_ | with_reducible refine L2.w_gName ?_ | with_reducible refine L2.w_raise ?_ | with_reducible refine L2.w_asgG ?_ | with_reducible refine L2.w_G ?_ | with_reducible refine L2.w_iStr ?_ | with_reducible refine L2.w_iTup ?_ | with_reducible refine L2.w_iZip ?_ | with_reducible refine L2.w_rng1 ?_))
namespace L2
open PySem PySem.Spec PyProof.Rows
/-! ### rules inside a block, the written part told -/
section
variable {X : Cx} (K : PySem.W.Frag)
theorem pg_tupK {es : List Expr} {k : Nat} {t : TGs} {n : Nat} {pos : Pos} (hc : X.calm = true) (h : PGs X es t) (hK : X.K = K := by rfl)
    (hn : (assignEach es X.env).length = n := by rfl) (hst : (assignEach es X.env).findIdx? (·.1) = none := by rfl) : PG X (.Tuple es k pos) (gTup K n t) := by subst hK; exact pg_tup hc h hn hst
end
/-! ### arguments, cheaply -/
def notStar : Expr → Bool
  | .Starred _ _ => false
  | _ => true
theorem starEach_one {e : Expr} (h : notStar e = true) (es : List Expr) (env : Env) : starEach (e :: es) env = (false, eval e env) :: starEach es env := by
  cases e <;> first | rfl | cases h
theorem pa_c {X : Cx} {e : Expr} {es : List Expr} {te : TE} {t : TA} (ha : PE X e te) (hr : PA X es t) (h : notStar e = true := by rfl) : PA X (e :: es) (tCons te t) := pa_cons ha hr (starEach_one h es X.env)
/-- arguments that are written numbers and texts -/
def cV : Expr → Option V
  | .Constant (.int i) _ _ => some (.int i)
  | .Constant (.str x) _ _ => some (.str x)
  | _ => none
def tK (vs : List V) : TA := fun _ H Q => Q vs H
theorem pa_k {X : Cx} : ∀ {es : List Expr} {vs : List V}, es.map cV = vs.map some → PA X es (tK vs)
  | [], [], _ => pa_nil
  | [], _ :: _, h => by cases h
  | _ :: _, [], h => by cases h
  | e :: es, v :: vs, h => by
    rw [List.map_cons, List.map_cons] at h
    injection h with h1 h2
    have hr : PA X es (tK vs) := pa_k h2
    have go : ∀ {te : TE}, PE X e te → notStar e = true → (∀ σ H (Q : VK), Q v H → te σ H Q) → PA X (e :: es) (tK (v :: vs)) := fun {te} hp hs ht pos pins s σ H Q I q => pa_c hp hr hs pos pins s σ H Q I (show te σ H fun x H1 => tK vs σ H1 fun xs H2 => Q (x :: xs) H2 from ht _ _ _ q)
    cases e with
    | Constant c j pos =>
      cases c with
      | int i => cases h1; exact go pe_int rfl fun _ _ _ q => q
      | str x => cases h1; exact go pe_str rfl fun _ _ _ q => q
      | _ => cases h1
    | _ => cases h1
theorem pe_lstK {X : Cx} {es : List Expr} {pos : Pos} (vs : List V) (h : es.map cV = vs.map some := by rfl) : PE X (.List es pos) (tLst (tK vs)) := pe_lst (pa_k h)
theorem w_tK {vs : List V} {σ : St} {H : Hp} {QA : List V → Hp → Prop} (q : QA vs H) : tK vs σ H QA := q
end L2
local macro_rules | `(tactic| array_get_dec) => `(tactic| with_reducible refine L2.w_tK ?_)
namespace L2
open PySem PySem.Spec PyProof.Rows
/-! ### defs, with the code object told -/
structure Df (K : PySem.W.Frag) (mg : Str → Option Value) (x qual : Str) (st : Stmt) (ps : List Str) where
  f : Addr
  fd : FuncData
  cdv : Value
  ex : ∃ (oc : Value) (od : Option Addr) (kV doc pm : Value) (an : Option Addr) (ct : Value) (osl : Array (Option Value)),
    fd = PySem.W.fnOf x qual (defArgs st) (defBody st) (defScope st) .none kV doc pm an cdv ct ∧ K.lookup f = some ⟨oc, od, .func fd, osl⟩ ∧ PySem.W.codeIn K cdv qual = true
  kp : PySem.W.keepIn K (.ref f) = true
  mg : mg x = some (.ref f)
  bd : Binds K fd ps []
/-- a method -/
structure DfM (K : PySem.W.Frag) (x qual : Str) (st : Stmt) (ps : List Str) where
  f : Addr
  fd : FuncData
  cdv : Value
  ex : ∃ (oc : Value) (od : Option Addr) (kV doc pm : Value) (an : Option Addr) (ct : Value) (osl : Array (Option Value)),
    fd = PySem.W.fnOf x qual (defArgs st) (defBody st) (defScope st) .none kV doc pm an cdv ct ∧ K.lookup f = some ⟨oc, od, .func fd, osl⟩ ∧ PySem.W.codeIn K cdv qual = true
  kp : PySem.W.keepIn K (.ref f) = true
  bd : Binds K fd ps []
section
variable {P : Program} {w : World} {K : PySem.W.Frag} {mg : Str → Option Value} {base : Heap} {x qual : Str} {st : Stmt} {N ps : List Str} {k : Nat} {sp : Sp}
/-- a def out of which no exception comes -/
theorem Df.ok {f : Addr} {fd : FuncData} {cdv : Value} (ex : ∃ (oc : Value) (od : Option Addr) (kV doc pm : Value) (an : Option Addr) (ct : Value) (osl : Array (Option Value)),
    fd = PySem.W.fnOf x qual (defArgs st) (defBody st) (defScope st) .none kV doc pm an cdv ct ∧ K.lookup f = some ⟨oc, od, .func fd, osl⟩ ∧ PySem.W.codeIn K cdv qual = true) (S : FnScope N ps (defScope st)) (len : ∀ vs H Q E, sp vs H Q E → vs.length = ps.length)
    (hbody : ∀ (A : Around) (outer : List Env) (s : Shared) (H : Hp) (vs : List V) (Q : VK) (E : XK), Room k (A.deeper (envOfC qual (defScope st) s.heap.objs.size f cdv)) → sp vs H Q E →
      ∃ t, PSs (cxOf CX0 P w K mg base N qual (defScope st) f cdv A outer s H E).nox (defBody st) t ∧ t ⟨fun _ H' => Q .non H', Q, fun _ _ => False, fun _ _ => False⟩ (start N vs) H) : FnOk P w K mg base CX0 (k + 1) f fd ps sp := by
  obtain ⟨oc, od, kV, doc, pm, an, ct, osl, rfl, lk, hcd⟩ := ex
  refine fn_of lk hcd S len fun A outer s H vs Q E hr hsp => ?_
  obtain ⟨t, h, q⟩ := hbody A outer s H vs Q E hr hsp
  exact ⟨t, h.nox, q⟩
/-- a def that may raise -/
theorem Df.okE {f : Addr} {fd : FuncData} {cdv : Value} (ex : ∃ (oc : Value) (od : Option Addr) (kV doc pm : Value) (an : Option Addr) (ct : Value) (osl : Array (Option Value)),
    fd = PySem.W.fnOf x qual (defArgs st) (defBody st) (defScope st) .none kV doc pm an cdv ct ∧ K.lookup f = some ⟨oc, od, .func fd, osl⟩ ∧ PySem.W.codeIn K cdv qual = true) (S : FnScope N ps (defScope st)) (len : ∀ vs H Q E, sp vs H Q E → vs.length = ps.length)
    (hbody : ∀ (A : Around) (outer : List Env) (s : Shared) (H : Hp) (vs : List V) (Q : VK) (E : XK), Room k (A.deeper (envOfC qual (defScope st) s.heap.objs.size f cdv)) → sp vs H Q E →
      ∃ t, PSs (cxOf (CXE P w) P w K mg base N qual (defScope st) f cdv A outer s H E) (defBody st) t ∧ t ⟨fun _ H' => Q .non H', Q, fun _ _ => False, fun _ _ => False⟩ (start N vs) H) : FnOk P w K mg base (CXE P w) (k + 1) f fd ps sp := by
  obtain ⟨oc, od, kV, doc, pm, an, ct, osl, rfl, lk, hcd⟩ := ex
  exact fn_of lk hcd S len fun A outer s H vs Q E hr hsp => hbody A outer s H vs Q E hr hsp
end
end L2

namespace L2
open PySem PySem.Spec PyProof.Rows
/-- an iterator that tells src 0, .., src (n - 1), whatever is made besides -/
def Tells (J : It) (H : Hp) (n : Nat) (src : Nat → V) : Prop := ∀ H2, Same H H2 → J.stop n H2 ∧ ∀ i, i < n → J.go i H2 ∧ ∀ x H3, J.yld i H2 x H3 → H3 = H2 ∧ x = src i
section
variable {K : PySem.W.Frag} {H : Hp} {a : Addr} {xs : List V}
theorem tells_l (h : SqL K H a xs) : Tells (Itl K a) H xs.length fun i => xs.getD i .non := fun H2 s => by
  have hl := s.seq h
  refine ⟨⟨xs, hl, Nat.le_refl _⟩, fun i hi => ⟨⟨xs, xs[i], hl, List.getElem?_eq_getElem hi⟩, ?_⟩⟩
  rintro x H3 ⟨rfl, hx⟩
  exact ⟨rfl, by simp [List.getD, hx xs hl]⟩
theorem tells_r {lo : Int} {n : Nat} : Tells (Itr lo n) H n fun i => .int (lo + i) := fun H2 s => by
  refine ⟨Nat.le_refl _, fun i hi => ⟨hi, ?_⟩⟩
  rintro x H3 ⟨rfl, rfl⟩
  exact ⟨rfl, rfl⟩
theorem tells_s {x : Str} : Tells (Its x) H x.cps.size fun i => .str ⟨#[x.cps.getD i 0]⟩ := fun H2 s => by
  refine ⟨Nat.le_refl _, fun i hi => ⟨hi, ?_⟩⟩
  rintro v H3 ⟨rfl, c, hc, rfl⟩
  refine ⟨rfl, ?_⟩
  show V.str ⟨#[c]⟩ = V.str ⟨#[x.cps.getD i 0]⟩
  rw [Array.getD_eq_getD_getElem?, hc]
  rfl
end
/-- what stands behind one turn -/
theorem lcFin {H H2 H6 : Hp} {D : Addr} {ys zs : List V} {R : Prop} (hD : H D = none) (s : Same H H2) (e : H2 D = some (.lst ys)) (s6 : Same H2 H6) (r : R) : H6 D = some (.lst ys) ∧ Same H (upd H6 D (.lst zs)) ∧ R :=
  ⟨s6 _ _ e, fun b o h => by rw [upd_ne (ne_of_none h hD)]; exact s6 _ _ (s _ _ h), r⟩
/-- a comprehension, what was there kept; R: what is known of the items made -/
theorem lcG {nN : Nat} {fs : List (Nat × Nat)} {g : TG} {tc : TT} {te : TE} {σ : St} {H : Hp} {QD : Addr → Hp → Prop} {J : It} {n : Nat} {src : Nat → V} (R : Nat → List V → Prop) (hJ : Tells J H n src) (hn : n ≤ sizeLine) (h0 : R 0 [])
    (ht : ∀ D i ys H2, i < n → H D = none → Same H H2 → H2 D = some (.lst ys) → R i ys → g (src i) (tau nN fs σ) H2 fun τ4 H4 => (∀ (j : Nat) v, (tau nN fs σ)[j]? = some (some v) → τ4[j]? = some (some v)) ∧ tc τ4 H4 fun b H5 =>
      if b = true then te τ4 H5 fun v H6 => H6 D = some (.lst ys) ∧ Same H (upd H6 D (.lst (ys ++ [v]))) ∧ R (i + 1) (ys ++ [v]) else H5 D = some (.lst ys) ∧ Same H H5 ∧ R (i + 1) ys)
    (hQ : ∀ D H2 ys, H D = none → Same H H2 → H2 D = some (.lst ys) → R n ys → QD D H2) :
    ∀ D, H D = none → ∃ (n : Nat) (W : Nat → List V → Hp → Prop), n ≤ sizeLine ∧ W 0 [] (upd H D (.lst [])) ∧
      ∀ i ys H2, i ≤ n → W i ys H2 → H2 D = some (.lst ys) → (J.stop i H2 ∧ QD D H2) ∨ (i < n ∧ J.go i H2 ∧ ∀ x H3, J.yld i H2 x H3 → g x (tau nN fs σ) H3 fun τ4 H4 =>
        (∀ (j : Nat) v, (tau nN fs σ)[j]? = some (some v) → τ4[j]? = some (some v)) ∧ tc τ4 H4 fun b H5 =>
          if b = true then te τ4 H5 fun v H6 => H6 D = some (.lst ys) ∧ W (i + 1) (ys ++ [v]) (upd H6 D (.lst (ys ++ [v]))) else H5 D = some (.lst ys) ∧ W (i + 1) ys H5) := by
  intro D hD
  refine ⟨n, fun i ys H2 => Same H H2 ∧ R i ys, hn, ⟨Same.upd hD, h0⟩, ?_⟩
  rintro i ys H2 hi ⟨s2, r⟩ e
  obtain ⟨h1, h2⟩ := hJ H2 s2
  rcases Nat.lt_or_ge i n with hlt | hge
  · refine .inr ⟨hlt, (h2 i hlt).1, fun x H3 y => ?_⟩
    obtain ⟨rfl, rfl⟩ := (h2 i hlt).2 x H3 y
    exact ht D i ys H3 hlt hD s2 e r
  · have : i = n := by omega
    subst this
    exact .inl ⟨h1, hQ D H2 ys hD s2 e r⟩
theorem w_LC {nN : Nat} {fs : List (Nat × Nat)} {wi : TI} {g : TG} {tc : TT} {te : TE} {σ : St} {H : Hp} {Q : VK} (q : wi σ H fun J H1 => ∀ D, H1 D = none → ∃ (n : Nat) (W : Nat → List V → Hp → Prop), n ≤ sizeLine ∧ W 0 [] (upd H1 D (.lst [])) ∧
  ∀ i ys H2, i ≤ n → W i ys H2 → H2 D = some (.lst ys) → (J.stop i H2 ∧ Q (.ref D) H2) ∨ (i < n ∧ J.go i H2 ∧ ∀ x H3, J.yld i H2 x H3 → g x (tau nN fs σ) H3 fun τ4 H4 =>
    (∀ (j : Nat) v, (tau nN fs σ)[j]? = some (some v) → τ4[j]? = some (some v)) ∧ tc τ4 H4 fun b H5 =>
      if b = true then te τ4 H5 fun v H6 => H6 D = some (.lst ys) ∧ W (i + 1) (ys ++ [v]) (upd H6 D (.lst (ys ++ [v]))) else H5 D = some (.lst ys) ∧ W (i + 1) ys H5)) : tLC nN fs wi g tc te σ H Q := q
theorem w_yes {σ : St} {H : Hp} {QB : Bool → Hp → Prop} (q : QB true H) : tYes σ H QB := q
end L2
local macro_rules | `(tactic| array_get_dec) => `(tactic| first | with_reducible refine L2.w_LC ?_ | with_reducible refine L2.w_yes ?_)
namespace L2
open PySem PySem.Spec PyProof.Rows
/-- the mono side of a turn whose target is the first name -/
theorem mono0 {τ : St} {x : V} (h : τ[0]? = some none) : ∀ (j : Nat) v, τ[j]? = some (some v) → (τ.set 0 (some x))[j]? = some (some v) := fun j v hj => by
  by_cases z : j = 0
  · subst z; rw [h] at hj; cases hj
  · rw [List.getElem?_set_ne (Ne.symm z)]; exact hj
/-! ### items -/
theorem atI_in {α : Type} {xs : List α} {i : Int} (h0 : 0 ≤ i) (h1 : i < xs.length) : ∃ v, v ∈ xs ∧ atI xs i = some v := by
  have hj : i.toNat < xs.length := by omega
  refine ⟨xs[i.toNat], List.getElem_mem hj, ?_⟩
  have e := atI_nat (xs := xs) (j := i.toNat) (List.getElem?_eq_getElem hj)
  rw [Int.toNat_of_nonneg h0] at e
  exact e
/-! ### loops, the ends told one by one -/
section
variable {g : TG} {tb : TS} {nx : St → Hp → Prop} {rt : VK} {σ : St} {H : Hp}
theorem forL {K : PySem.W.Frag} {a : Addr} {xs : List V} (Pv : Nat → St → Hp → Prop) (h0 : Pv 0 σ H) (hl : ∀ i σ H, i ≤ xs.length → Pv i σ H → SqL K H a xs)
    (hs : ∀ i x σ H, xs[i]? = some x → Pv i σ H → g x σ H fun σ2 H2 => tb ⟨Pv (i + 1), rt, nx, Pv (i + 1)⟩ σ2 H2) (hd : ∀ σ H, Pv xs.length σ H → nx σ H) :
    ∃ W : Nat → Nat → St → Hp → Prop, (∃ m, W 0 m σ H) ∧ ∀ i m σ H, W i m σ H →
      ((Itl K a).stop i H ∧ nx σ H) ∨ ((Itl K a).go i H ∧ ∃ N : St → Hp → Prop, (∀ σ' H', N σ' H' → ∃ m', m' < m ∧ W (i + 1) m' σ' H') ∧ ∀ x H', (Itl K a).yld i H x H' → g x σ H' fun σ2 H2 => tb ⟨N, rt, nx, N⟩ σ2 H2) := for_list (D := ⟨nx, rt, fun _ _ => False, fun _ _ => False⟩) Pv h0 hl hs hd
theorem forR {lo : Int} {n : Nat} (Pv : Nat → St → Hp → Prop) (h0 : Pv 0 σ H)
    (hs : ∀ i σ H, i < n → Pv i σ H → g (.int (lo + i)) σ H fun σ2 H2 => tb ⟨Pv (i + 1), rt, nx, Pv (i + 1)⟩ σ2 H2) (hd : ∀ σ H, Pv n σ H → nx σ H) :
    ∃ W : Nat → Nat → St → Hp → Prop, (∃ m, W 0 m σ H) ∧ ∀ i m σ H, W i m σ H →
      ((Itr lo n).stop i H ∧ nx σ H) ∨ ((Itr lo n).go i H ∧ ∃ N : St → Hp → Prop, (∀ σ' H', N σ' H' → ∃ m', m' < m ∧ W (i + 1) m' σ' H') ∧ ∀ x H', (Itr lo n).yld i H x H' → g x σ H' fun σ2 H2 => tb ⟨N, rt, nx, N⟩ σ2 H2) := for_range (D := ⟨nx, rt, fun _ _ => False, fun _ _ => False⟩) Pv h0 hs hd
end
/-! ### tests and values that leave what was there -/
section
variable {tt uu : TT} {te : TE} {σ : St} {H : Hp} {a b : Bool} {v : V}
end
end L2
local macro_rules | `(tactic| array_mem_dec) => `(tactic| (first
  | ((with_reducible refine L2.w_var (v := ?v) ?h ?_); (case h => exact rfl)) | ((with_reducible refine L2.w_mod ?h ?_); (case h => decide)) | ((with_reducible refine L2.w_I (C := L2.CDiv) ?h ?_); (case h => exact ⟨by decide, by decide⟩))
  | with_reducible refine L2.iteT ?_ | with_reducible refine L2.iteF ?_ | with_reducible refine L2.iteNT ?_ | with_reducible refine L2.iteNF ?_
  | with_reducible refine L2.w_op ?_ | with_reducible refine L2.w_C ?_ | with_reducible refine L2.w_I0 ?_ | with_reducible refine L2.w_un ?_ | with_reducible refine L2.w_U ?_ | with_reducible refine L2.w_eqi ?_ | with_reducible refine L2.w_nei ?_ | with_reducible refine L2.w_eqs ?_ | with_reducible refine L2.w_nes ?_ | with_reducible refine L2.w_neb ?_ | with_reducible refine L2.w_test ?_ | with_reducible refine L2.w_tB ?_ | with_reducible refine L2.w_k ?_ | with_reducible refine L2.w_and ?_ | with_reducible refine L2.w_or ?_ | with_reducible refine L2.w_not ?_ | with_reducible refine L2.w_andV ?_ | with_reducible refine L2.w_orV ?_ | with_reducible refine L2.w_notV ?_ | with_reducible refine L2.w_chain ?_ | with_reducible refine L2.w_nil ?_ | with_reducible refine L2.w_cons ?_ | with_reducible refine L2.w_call ?_ | with_reducible refine L2.w_CB ?_ | with_reducible refine L2.w_tup ?_ | with_reducible refine L2.w_lst ?_ | with_reducible refine L2.w_sl ?_ | with_reducible refine L2.w_noPart ?_ | with_reducible refine L2.w_part ?_ | with_reducible refine L2.w_ki ?_ | with_reducible refine L2.w_bm ?_ | with_reducible refine L2.w_bm0 ?_ | with_reducible refine L2.w_fld ?_ | with_reducible refine L2.w_seq ?_ | with_reducible refine L2.w_next ?_ | with_reducible refine L2.w_asg ?_ | with_reducible refine L2.w_setLC ?_ | with_reducible refine L2.w_ret ?_ | with_reducible refine L2.w_drop ?_ | with_reducible refine L2.w_sfld ?_ | with_reducible refine L2.w_for ?_ | with_reducible refine L2.w_iList ?_ | with_reducible refine L2.w_gName ?_ | with_reducible refine L2.w_raise ?_ | with_reducible refine L2.w_asgG ?_ | with_reducible refine L2.w_LC ?_ | with_reducible refine L2.w_yes ?_ | with_reducible refine L2.w_G ?_ | with_reducible refine L2.w_iStr ?_ | with_reducible refine L2.w_iTup ?_ | with_reducible refine L2.w_iZip ?_ | with_reducible refine L2.w_rng1 ?_))
namespace L2
open PySem PySem.Spec PyProof.Rows
end L2

namespace L2
open PySem PySem.Spec PyProof.Rows
/-! ### weak promises: a list of at most n texts of at most 40 signs -/
def SL (H : Hp) (l : Addr) (ys : List Str) (n : Nat) : Prop := H l = some (.lst (ys.map .str)) ∧ (∀ y ∈ ys, y.length ≤ 40) ∧ ys.length ≤ n
theorem SL.same {H H' : Hp} {l : Addr} {ys : List Str} {n : Nat} (h : SL H l ys n) (s : Same H H') : SL H' l ys n := ⟨s _ _ h.1, h.2⟩
theorem SL.le {H : Hp} {l : Addr} {ys : List Str} {n m : Nat} (h : SL H l ys n) (s : n ≤ m) : SL H l ys m := ⟨h.1, h.2.1, Nat.le_trans h.2.2 s⟩
def RLs (t : TE) (σ : St) (H : Hp) (n : Nat) : Prop := ∀ H', Same H H' → ∀ Q : VK, (∀ H2 l ys, Same H' H2 → SL H2 l ys n → Q (.ref l) H2) → t σ H' Q
section
variable {K : PySem.W.Frag} {σ : St} {H : Hp} {ta tb te : TE} {tA : TA} {n m k : Nat}
theorem RLs.same {H' : Hp} (h : RLs te σ H n) (s : Same H H') : RLs te σ H' n := fun H2 s2 => h H2 (s.trans s2)
/-! lists of such lists -/
def Txs (H : Hp) (v : V) : Prop := ∃ l ys, v = .ref l ∧ SL H l ys 100
theorem Txs.same {H H' : Hp} {v : V} (h : Txs H v) (s : Same H H') : Txs H' v := let ⟨l, ys, e, q⟩ := h; ⟨l, ys, e, q.same s⟩
def LLs (H : Hp) (p : Addr) (k : Nat) : Prop := ∃ xs, H p = some (.lst xs) ∧ xs.length = k ∧ ∀ v ∈ xs, Txs H v
theorem LLs.same {H H' : Hp} {p : Addr} (h : LLs H p k) (s : Same H H') : LLs H' p k := let ⟨xs, a, b, c⟩ := h; ⟨xs, s _ _ a, b, fun v hv => (c v hv).same s⟩
end
end L2

namespace L2
open PySem PySem.Spec PyProof.Rows
/-- what is tracked at the head: the script (or nothing of it), and code tables -/
def hT (a : Addr) (oa : Option HO) (ts : List Addr) : Hp := fun b => if b = a then oa else if b ∈ ts then some (Tb b) else none
theorem law_callT {P : Program} {w : World} {K : PySem.W.Frag} {mg mb : Str → Option Value} {CX : CXT} {k : Nat} {fa a : Addr} {fd : FuncData} {x : Str} {sp : Sp} {s₁ : Shared} {vs : List Value} {ns : List Int} (ts : List Addr)
    (KX : K.In s₁.heap) (hns : s₁.heap.Ns mainGlobals mg) (hb : s₁.heap.Ns builtinsNs mb) (hbb : ∀ x : Str, x ≠ "__name__" → mb x = bootBuiltins x) (hlim : s₁.heap.NoLimit) (hg : s₁.gens = #[])
    (ha : s₁.heap.get? a = some { cls := .type "list", data := .seq vs.toArray }) (hi : IntsAre vs ns) (hl : ns.length ≤ sizeLine) (hr : Room k callerA) (hK : PySem.W.noTabs K = true)
    (hT0 : ∀ t ∈ ts, (∃ c, PySem.W.CodeHd s₁.heap c t) ∧ s₁.heap.get? t = some (PySem.W.tabObj #[]))
    (hbm : ∃ bm ob, mg "__builtins__" = some (.ref bm) ∧ bm ≠ builtinsNs ∧ s₁.heap.get? bm = some ob ∧ ob.cls = .type "module" ∧ ob.dict = some builtinsNs ∧ ob.data = .plain)
    (F : ∀ base : Heap, K.In base → base.Ns mainGlobals mg → BltK base → FnOk P w K mg base CX k fa fd [x] sp) (hbind : ∀ (s : Shared) (u : Value), BindsTo s fd ⟨[u], []⟩ [(x, u)])
    (hsp : ∀ H : Hp, (∀ t ∈ ts, H t = some (Tb t)) → SqL K H a (ns.map V.int) → sp [.ref a] H (fun v H' => v = .bl true ∧ ∀ t ∈ ts, H' t = some (Tb t)) fun _ _ _ => False)
    (hCX : ∀ H e s', CX [] H s₁ (fun _ _ _ => False) e s' → False) :
    codeAny (model P w) callerA (.call (.ref fa) ⟨[.ref a], []⟩) (fun r s' => r = .ok (.ret (.bool true)) ∧ OldK s₁.heap s'.heap ∧ s'.os = s₁.os ∧ AllBare s'.gens) s₁ := by
  have rv := vals_ints hi
  have lenV := hi.length
  have nat : ∀ t ∈ ts, t ≠ a := fun t ht e => by
    have := (hT0 t ht).2
    rw [e, ha] at this
    have := congrArg Obj.cls (Option.some.inj this)
    cases this
  have core : ∀ oa : Option HO, (oa = none ∨ (K.lookup a = none ∧ ∃ xs, oa = some (.frz { cls := .type "list", data := .seq vs.toArray } (.lst xs)))) → SqL K (hT a oa ts) a (ns.map V.int) → (∀ o, oa = some o → ObjOk P w (hT a oa ts) s₁.heap a o) →
      codeAny (model P w) callerA (.call (.ref fa) ⟨[.ref a], []⟩) (fun r s' => r = .ok (.ret (.bool true)) ∧ OldK s₁.heap s'.heap ∧ s'.os = s₁.os ∧ AllBare s'.gens) s₁ := by
    intro oa hO hS hoa
    have hTs : ∀ t ∈ ts, hT a oa ts t = some (Tb t) := fun t ht => by unfold hT; rw [if_neg (nat t ht), if_pos ht]
    have kinds : ∀ b, hT a oa ts b = none ∨ (b = a ∧ ∃ o, oa = some o ∧ hT a oa ts b = some o) ∨ (b ∈ ts ∧ hT a oa ts b = some (Tb b)) := fun b => by
      by_cases e : b = a
      · have hv : hT a oa ts b = oa := by unfold hT; rw [if_pos e]
        cases q : oa with
        | none => left; rw [← q, hv, q]
        | some o => right; left; exact ⟨e, o, rfl, by rw [← q, hv, q]⟩
      · by_cases m : b ∈ ts
        · exact .inr (.inr ⟨m, hTs b m⟩)
        · left; unfold hT; rw [if_neg e, if_neg m]
    have hok : HOk P w (hT a oa ts) s₁.heap := fun b o e => by
      rcases kinds b with z | ⟨rfl, o', e1, z⟩ | ⟨m, z⟩
      · rw [z] at e; cases e
      · rw [z] at e; cases e
        exact hoa _ e1
      · rw [z] at e; cases e
        exact ⟨⟨#[], (hT0 b m).2, trivial⟩, ⟨_, (hT0 b m).2⟩, tabφ_stay⟩
    have free : ∀ {b : Addr} {o : Obj}, s₁.heap.get? b = some o → o.data ≠ .seq vs.toArray 0 → o.data ≠ .fields #[] → hT a oa ts b = none := fun {b o} e n1 n2 => by
      rcases kinds b with z | ⟨rfl, o', e1, z⟩ | ⟨m, z⟩
      · exact z
      · rw [ha] at e; cases e
        exact absurd rfl n1
      · rw [(hT0 b m).2] at e; cases e
        exact absurd rfl n2
    have nsK : ∀ {b : Addr} {m : Str → Option Value}, s₁.heap.Ns b m → (hidT s₁.heap (hT a oa ts)).Ns b m := fun {b m} ⟨o, es, ep, e, d, r⟩ => ⟨o, es, ep, hidT_get e (free e (by rw [d]; simp) (by rw [d]; simp)), d, r⟩
    have hKb : K.In (hidT s₁.heap (hT a oa ts)) := fun b o e => hidT_get (KX b o e) (by
      rcases kinds b with z | ⟨rfl, o', e1, z⟩ | ⟨m, z⟩
      · exact z
      · rcases hO with q | ⟨q, _⟩
        · rw [q] at e1; cases e1
        · rw [q] at e; cases e
      · have e2 := KX b o e
        rw [(hT0 b m).2] at e2
        have h2 := List.all_eq_true.mp hK (b, o) (PySem.W.mem_of_lookupK e)
        cases e2
        exact absurd (show false = true from h2) Bool.false_ne_true)
    have hM : Mod K mg (hidT s₁.heap (hT a oa ts)) := ⟨hKb, nsK hns, ⟨mb, nsK hb, hbb⟩, let ⟨mc, h1, h2⟩ := hlim; ⟨mc, nsK h1, h2⟩⟩
    have hB : BltK (hidT s₁.heap (hT a oa ts)) := by
      obtain ⟨bm, ob, e1, e2, e3, e4, e5, e6⟩ := hbm
      exact bltK_of (nsK hns) e1 e2 (hidT_get e3 (free e3 (by rw [e6]; simp) (by rw [e6]; simp))) e4 e5 e6
    have e0 : Env0 P w K mg (hidT s₁.heap (hT a oa ts)) callerA [] s₁ (hT a oa ts) := ⟨rfl, hM, fun b o e => of_hidT e, Nat.le_of_eq (hidT_size _ _), trivial, fun b hb => absurd (show b ∈ ([] : List Addr) from hb) (by simp), hok, .of_eq hg⟩
    refine codeAny_mono ((F _ hKb (nsK hns) hB).run callerA [] s₁ _ ⟨[.ref a], []⟩ [.ref a] [.ref a] _ _ hr e0 (hbind s₁ (.ref a)) (.cons rfl .nil) (hsp _ hTs hS)) fun r s' h => ?_
    cases r with
    | error e => exact (hCX _ e s' h).elim
    | ok fl =>
      cases fl with
      | next => exact False.elim h
      | brk => exact False.elim h
      | cont => exact False.elim h
      | ret u =>
        obtain ⟨v, H', os, bare, un, hok', r', q⟩ := h
        obtain ⟨q1, q2⟩ := q
        subst q1
        obtain rfl : u = Value.bool true := r'
        have keep : ∀ b o, s₁.heap.get? b = some o → b ∉ ts → s'.heap.get? b = some o := fun b o e m => by
          rcases kinds b with z | ⟨rfl, o', e1, z⟩ | ⟨m', _⟩
          · exact un.keep b o e z (by intro z; exact absurd (show b ∈ ([] : List Addr) from z) (by simp)) (by simp)
          · rcases hO with q | ⟨_, xs, q⟩
            · rw [q] at e1; cases e1
            · rw [q] at e1; cases e1
              have z2 := un.frzs b _ _ z
              obtain ⟨g1, _⟩ := hok b _ z
              obtain ⟨g2, _⟩ := hok' b _ z2
              rw [e] at g1; cases g1
              exact g2
          · exact absurd m' m
        refine ⟨rfl, ⟨fun b o e => ?_, fun b o e => ?_⟩, os, bare⟩
        · by_cases m : b ∈ ts
          · obtain ⟨⟨ps, g, _⟩, _⟩ := hok' b _ (q2 b m)
            obtain ⟨⟨c, hc⟩, hp⟩ := hT0 b m
            rw [hp] at e; cases e
            refine .inr (.inl ⟨?_, rfl, #[], ps, rfl, ?_⟩)
            · obtain ⟨o, vs', _, _, _, _, _, _, _, e1, e2, e3, e4, _⟩ := hc
              exact ⟨c, o, vs', e1, e2, e3, e4⟩
            · rw [g]; simp
          · exact .inl (keep b o e m)
        · by_cases m : b ∈ ts
          · obtain ⟨⟨ps, g, _⟩, _⟩ := hok' b _ (q2 b m)
            exact ⟨_, g⟩
          · exact ⟨o, keep b o e m⟩
  cases hk : K.lookup a with
  | some o =>
    have e := KX a o hk
    rw [ha] at e
    cases e
    refine core none (.inl rfl) (.inr ⟨_, vs.toArray, _, hk, rfl, rfl, rfl, by rw [List.size_toArray, lenV]; exact hl, by simpa using rv⟩) fun o z => by cases z
  | none =>
    have hv : hT a (some (.frz { cls := .type "list", data := .seq vs.toArray } (.lst (ns.map V.int)))) ts a = some (.frz { cls := .type "list", data := .seq vs.toArray } (.lst (ns.map V.int))) := by unfold hT; rw [if_pos rfl]
    refine core (some (.frz { cls := .type "list", data := .seq vs.toArray } (.lst (ns.map V.int)))) (.inr ⟨hk, _, rfl⟩) (.inl (.inr ⟨_, hv⟩)) fun o z => ?_
    cases z
    exact ⟨ha, by rw [List.length_map]; exact hl, vs, _, rv, ha⟩
end L2

namespace L2
open PySem PySem.Spec PyProof.Rows
/-! ### lists of pairs as tables -/
section
variable {κ : Type} [DecidableEq κ]
def valV (kvs : List (κ × V)) (k : κ) : Option V := (kvs.find? fun kv => decide (kv.1 = k)).map (·.2)
/-- in its place, or at the end -/
def putK (kvs : List (κ × V)) (k : κ) (v : V) : List (κ × V) :=
  if (kvs.any fun kv => decide (kv.1 = k)) = true then kvs.map (fun kv => if kv.1 = k then (kv.1, v) else kv) else kvs ++ [(k, v)]
def dropK (kvs : List (κ × V)) (k : κ) : List (κ × V) := kvs.filter fun kv => decide (kv.1 ≠ k)

theorem valV_pos {p : κ × V} {r : List (κ × V)} {k : κ} (e : p.1 = k) : valV (p :: r) k = some p.2 := by simp [valV, List.find?_cons, e]
theorem valV_neg {p : κ × V} {r : List (κ × V)} {k : κ} (e : ¬ p.1 = k) : valV (p :: r) k = valV r k := by simp [valV, List.find?_cons, e]
theorem valV_any (k : κ) : ∀ kvs : List (κ × V), (kvs.any fun kv => decide (kv.1 = k)) = (valV kvs k).isSome
  | [] => rfl
  | p :: r => by
    rw [List.any_cons]
    by_cases e : p.1 = k
    · simp only [valV_pos e, decide_eq_true e, Bool.true_or, Option.isSome_some]
    · rw [valV_neg e, decide_eq_false e, Bool.false_or]; exact valV_any k r
theorem valV_map (k j : κ) (y : V) : ∀ kvs : List (κ × V), valV (kvs.map fun kv => if kv.1 = k then (kv.1, y) else kv) j = (valV kvs j).map fun x => if j = k then y else x
  | [] => rfl
  | p :: r => by
    have ih := valV_map k j y r
    rw [List.map_cons]
    by_cases h : p.1 = k
    · rw [if_pos h]
      by_cases e : p.1 = j
      · rw [valV_pos (p := (p.1, y)) e, valV_pos e, Option.map_some, if_pos (e.symm.trans h)]
      · rw [valV_neg (p := (p.1, y)) e, valV_neg e, ih]
    · rw [if_neg h]
      by_cases e : p.1 = j
      · rw [valV_pos (p := p) e, valV_pos e, Option.map_some, if_neg (fun z => h (e.trans z))]
      · rw [valV_neg (p := p) e, valV_neg e, ih]
theorem valV_snoc (k j : κ) (y : V) : ∀ kvs : List (κ × V), valV kvs k = none → valV (kvs ++ [(k, y)]) j = if j = k then some y else valV kvs j
  | [], _ => by
    by_cases e : k = j
    · rw [if_pos e.symm]; exact valV_pos (p := (k, y)) e
    · rw [if_neg (fun z => e z.symm)]; exact valV_neg (p := (k, y)) e
  | p :: r, hn => by
    rw [List.cons_append]
    have hk : ¬ p.1 = k := fun z => by rw [valV_pos z] at hn; cases hn
    rw [valV_neg hk] at hn
    have ih := valV_snoc k j y r hn
    by_cases e : p.1 = j
    · rw [valV_pos e, valV_pos e, if_neg (fun z => hk (e.trans z))]
    · rw [valV_neg e, valV_neg e, ih]
theorem valV_put (kvs : List (κ × V)) (k j : κ) (y : V) : valV (putK kvs k y) j = if j = k then some y else valV kvs j := by
  unfold putK
  by_cases a : (kvs.any fun kv => decide (kv.1 = k)) = true
  · rw [if_pos a, valV_map]
    rw [valV_any] at a
    by_cases e : j = k
    · obtain ⟨x, hx⟩ := Option.isSome_iff_exists.mp a
      rw [if_pos e, e, hx, Option.map_some, if_pos rfl]
    · rw [if_neg e]
      cases valV kvs j with
      | none => rfl
      | some x => rw [Option.map_some, if_neg e]
  · rw [if_neg a]
    refine valV_snoc k j y kvs ?_
    rw [valV_any] at a
    cases q : valV kvs k with
    | none => rfl
    | some x => rw [q] at a; exact (a rfl).elim
theorem putK_new {kvs : List (κ × V)} {k : κ} (v : V) (h : valV kvs k = none) : putK kvs k v = kvs ++ [(k, v)] := by
  unfold putK
  rw [valV_any, h]
  exact if_neg (by decide)

theorem RelO.isSome_eq {o : Option V} {u : Option Value} (r : RelO o u) : o.isSome = u.isSome := by
  cases o with
  | none => cases u with
    | none => rfl
    | some _ => exact (show False from r).elim
  | some _ => cases u with
    | none => exact (show False from r).elim
    | some _ => rfl
theorem RelO.getD {o : Option V} {u : Option Value} {d : V} {d' : Value} (r : RelO o u) (rd : RelV d d') : RelV (o.getD d) (u.getD d') := by
  cases o with
  | none => cases u with
    | none => exact rd
    | some _ => exact (show False from r).elim
  | some _ => cases u with
    | none => exact (show False from r).elim
    | some _ => exact r

/-- raw tables of the same keys -/
theorem KV.val {kvs : List (κ × V)} {vs : List (κ × Value)} (r : KV kvs vs) (k : κ) : RelO (valV kvs k) (valueAt vs k) := by
  unfold KV at r
  induction r with
  | nil => exact True.intro
  | @cons p q ps qs h t ih =>
    obtain ⟨h1, h2⟩ := h
    by_cases e : p.1 = k
    · have e' : q.1 = k := h1.symm.trans e
      have b : valueAt (q :: qs) k = some q.2 := by simp [valueAt, List.find?_cons, e']
      rw [valV_pos e, b]; exact h2
    · have e' : ¬ q.1 = k := fun z => e (h1.trans z)
      have b : valueAt (q :: qs) k = valueAt qs k := by simp [valueAt, List.find?_cons, e']
      rw [valV_neg e, b]; exact ih
theorem KV.any {kvs : List (κ × V)} {vs : List (κ × Value)} (r : KV kvs vs) (k : κ) : (kvs.any fun kv => decide (kv.1 = k)) = vs.any fun kv => decide (kv.1 = k) := by
  unfold KV at r
  induction r with
  | nil => rfl
  | cons h t ih => rw [List.any_cons, List.any_cons, ih, h.1]
theorem KV.repl {kvs : List (κ × V)} {vs : List (κ × Value)} (r : KV kvs vs) (k : κ) {y : V} {u : Value} (ry : RelV y u) :
    KV (kvs.map fun kv => if kv.1 = k then (kv.1, y) else kv) (vs.map fun kv => if kv.1 = k then (kv.1, u) else kv) := by
  unfold KV at r ⊢
  induction r with
  | nil => exact .nil
  | @cons p q ps qs h t ih =>
    rw [List.map_cons, List.map_cons]
    refine .cons ?_ ih
    obtain ⟨h1, h2⟩ := h
    by_cases e : p.1 = k
    · rw [if_pos e, if_pos (h1.symm.trans e)]; exact ⟨h1, ry⟩
    · rw [if_neg e, if_neg (fun z => e (h1.trans z))]; exact ⟨h1, h2⟩
theorem KV.put {kvs : List (κ × V)} {vs : List (κ × Value)} (r : KV kvs vs) (k : κ) {y : V} {u : Value} (ry : RelV y u) : KV (putK kvs k y) (stored vs k u) := by
  unfold putK stored
  rw [r.any k]
  by_cases e : (vs.any fun kv => decide (kv.1 = k)) = true
  · rw [if_pos e, if_pos e]; exact r.repl k ry
  · rw [if_neg e, if_neg e]; exact Paired.snoc r ⟨rfl, ry⟩
theorem KV.drop {kvs : List (κ × V)} {vs : List (κ × Value)} (r : KV kvs vs) (k : κ) : KV (dropK kvs k) (without vs k) := by
  unfold KV at r ⊢
  unfold dropK without
  induction r with
  | nil => exact .nil
  | @cons p q ps qs h t ih =>
    obtain ⟨h1, h2⟩ := h
    rw [List.filter_cons, List.filter_cons]
    by_cases e : p.1 = k
    · have a : ¬ decide (p.1 ≠ k) = true := by simp [e]
      have b : ¬ decide (q.1 ≠ k) = true := by simp [h1.symm.trans e]
      rw [if_neg a, if_neg b]; exact ih
    · have e' : ¬ q.1 = k := fun z => e (h1.trans z)
      have a : decide (p.1 ≠ k) = true := by simp [e]
      have b : decide (q.1 ≠ k) = true := by simp [e']
      rw [if_pos a, if_pos b]; exact .cons ⟨h1, h2⟩ ih
theorem KV.keys {kvs : List (κ × V)} {vs : List (κ × Value)} (r : KV kvs vs) : kvs.map (·.1) = vs.map (·.1) := by
  unfold KV at r
  induction r with
  | nil => rfl
  | cons h t ih => rw [List.map_cons, List.map_cons, ih, h.1]
theorem KV.length {kvs : List (κ × V)} {vs : List (κ × Value)} (r : KV kvs vs) : kvs.length = vs.length := Paired.length r
end


/-! ### a tracked dict, its keys ints and texts or tuples of these -/
theorem kV_is {P : Program} {w : World} {k : Key} {u : Value} (r : RelV (kV k) u) : (mixKind P w).is k u = true := by
  cases k with
  | inl i => obtain ⟨t, e⟩ := (show ∃ t, u = Value.int i t from r); subst e; exact mixKind_int P w i t
  | inr x => obtain ⟨t, e⟩ := (show ∃ t, u = Value.str x t from r); subst e; exact mixKind_str P w x t
theorem items_are {P : Program} {w : World} : ∀ {ks : List Key} {us : List Value}, Vals (ks.map kV) us → ItemsAre (mixKind P w) ks us
  | [], _, r => by rw [List.map_nil] at r; cases r; exact .nil
  | k :: ks, _, r => by
    rw [List.map_cons] at r
    cases r with
    | cons h t => exact .cons (kV_is h) (items_are t)

/-- raw entries of a dict with tuple keys -/
abbrev KT (H : Hp) : List (List Key × V) → List (List Key × Addr × Value) → Prop := Paired fun p q => p.1 = q.1 ∧ H q.2.1 = some (.tup (p.1.map kV)) ∧ RelV p.2 q.2.2
theorem KT.val {H : Hp} {kvs : List (List Key × V)} {xs : List (List Key × Addr × Value)} (r : KT H kvs xs) (k : List Key) : RelO (valV kvs k) ((atKey xs k).map (·.2)) := by
  induction r with
  | nil => exact True.intro
  | @cons p q ps qs h t ih =>
    obtain ⟨h1, _, h2⟩ := h
    by_cases e : p.1 = k
    · have e' : q.1 = k := h1.symm.trans e
      have b : atKey (q :: qs) k = some q.2 := by simp [atKey, List.find?_cons, e']
      rw [valV_pos e, b]; exact h2
    · have e' : ¬ q.1 = k := fun z => e (h1.trans z)
      have b : atKey (q :: qs) k = atKey qs k := by simp [atKey, List.find?_cons, e']
      rw [valV_neg e, b]; exact ih
theorem KT.repl {H : Hp} {kvs : List (List Key × V)} {xs : List (List Key × Addr × Value)} (r : KT H kvs xs) (k : List Key) {y : V} {u : Value} (ry : RelV y u) :
    KT H (kvs.map fun kv => if kv.1 = k then (kv.1, y) else kv) (xs.map (putAt k u)) := by
  induction r with
  | nil => exact .nil
  | @cons p q ps qs h t ih =>
    rw [List.map_cons, List.map_cons]
    refine .cons ?_ ih
    obtain ⟨h1, h2, h3⟩ := h
    unfold putAt
    by_cases e : p.1 = k
    · rw [if_pos e, if_pos (h1.symm.trans e)]; exact ⟨h1, h2, ry⟩
    · rw [if_neg e, if_neg (fun z => e (h1.trans z))]; exact ⟨h1, h2, h3⟩
theorem KT.put {H : Hp} {kvs : List (List Key × V)} {xs : List (List Key × Addr × Value)} (r : KT H kvs xs) (k : List Key) {b : Addr} {y : V} {u : Value} (hb : H b = some (.tup (k.map kV))) (ry : RelV y u) :
    KT H (putK kvs k y) (storedH xs k b u) := by
  have e : (kvs.any fun kv => decide (kv.1 = k)) = (atKey xs k).isSome := by
    rw [valV_any, (r.val k).isSome_eq, Option.isSome_map]
  unfold putK storedH
  rw [e]
  by_cases q : (atKey xs k).isSome = true
  · rw [if_pos q, if_pos q]; exact r.repl k ry
  · rw [if_neg q, if_neg q]; exact Paired.snoc r ⟨rfl, hb, ry⟩
theorem KT.keeps {H H' : Hp} {kvs : List (List Key × V)} {xs : List (List Key × Addr × Value)} (r : KT H kvs xs) (ht : ∀ b ys, H b = some (.tup ys) → H' b = some (.tup ys)) : KT H' kvs xs :=
  Paired.mapP r fun _ _ z => ⟨z.1, ht _ _ z.2.1, z.2.2⟩

section
variable {P : Program} {w : World} {H : Hp} {h : Heap} {a : Addr}
theorem rd_of {u : HO} (ok : HOk P w H h) (e : Rd H a u) : ObjOk P w H h a u := e.ok ok
theorem dk_rd {kvs : List (Key × V)} (ok : HOk P w H h) (e : Rd H a (.dK kvs)) : kvs.length ≤ sizeLine ∧ (a == sysModules) = false ∧ ∃ vs, KV kvs vs ∧ h.DictOf (mixKind P w) a vs :=
  show ObjOk P w H h a (.dK kvs) from rd_of ok e
/-- a tracked tuple of ints and texts is a key -/
theorem key_of {ks : List Key} (ok : HOk P w H h) (e : H a = some (.tup (ks.map kV))) : (tupleKind (mixKind P w)).is h ks a := by
  obtain ⟨_, its, r, o, h1, h2, n, h3⟩ := (show ObjOk P w H h a (.tup (ks.map kV)) from ok a _ e)
  exact ⟨o, its.toArray, n, h1, h2, h3, by simpa using items_are r⟩
theorem dt_rd {kvs : List (List Key × V)} (ok : HOk P w H h) (e : Rd H a (.dT kvs)) : kvs.length ≤ sizeLine ∧ (a == sysModules) = false ∧
    ∃ xs, KT H kvs xs ∧ h.DictOfH (tupleKind (mixKind P w)) a xs := by
  obtain ⟨z, y, xs, r, o, es, ep, h1, h2, h3, h4, h5⟩ := (show ObjOk P w H h a (.dT kvs) from rd_of ok e)
  refine ⟨z, y, xs, r, o, es, ep, h1, h2, h3, h4, fun x hx => ?_, h5⟩
  have all : ∀ {l : List (List Key × V)} {m : List (List Key × Addr × Value)}, KT H l m → ∀ x ∈ m, (tupleKind (mixKind P w)).is h x.1 x.2.1 := by
    intro l m q
    induction q with
    | nil => intro x hx; exact nomatch hx
    | @cons p q ps qs hq t ih =>
      intro x hx
      rcases List.mem_cons.mp hx with e | hx
      · subst e
        exact key_of ok (by rw [← hq.1]; exact hq.2.1)
      · exact ih x hx
  exact all r x hx
end

/-- what the dict at a holds at the key y -/
def DGet (H : Hp) (a : Addr) (y : V) (r : Option V) : Prop :=
  (∃ kvs k, Rd H a (.dK kvs) ∧ y = kV k ∧ r = valV kvs k) ∨ ∃ kvs k b, Rd H a (.dT kvs) ∧ y = .ref b ∧ H b = some (.tup (k.map kV)) ∧ r = valV kvs k
/-- the heap behind a[y] = v -/
def DPut (H : Hp) (a : Addr) (y v : V) (H' : Hp) : Prop :=
  (∃ kvs k, H a = some (.dK kvs) ∧ y = kV k ∧ kvs.length < sizeLine ∧ H' = upd H a (.dK (putK kvs k v))) ∨
  ∃ kvs k b, H a = some (.dT kvs) ∧ y = .ref b ∧ H b = some (.tup (k.map kV)) ∧ kvs.length < sizeLine ∧ H' = upd H a (.dT (putK kvs k v))
theorem DGet.k {H : Hp} {a : Addr} {kvs : List (Key × V)} {k : Key} (e : H a = some (.dK kvs)) : DGet H a (kV k) (valV kvs k) := .inl ⟨kvs, k, .inl e, rfl, rfl⟩
theorem DGet.t {H : Hp} {a b : Addr} {kvs : List (List Key × V)} {k : List Key} (e : H a = some (.dT kvs)) (eb : H b = some (.tup (k.map kV))) : DGet H a (.ref b) (valV kvs k) := .inr ⟨kvs, k, b, .inl e, rfl, eb, rfl⟩
theorem DPut.k {H : Hp} {a : Addr} {kvs : List (Key × V)} {k : Key} {v : V} (e : H a = some (.dK kvs)) (hl : kvs.length < sizeLine) : DPut H a (kV k) v (upd H a (.dK (putK kvs k v))) := .inl ⟨kvs, k, e, rfl, hl, rfl⟩
theorem DPut.t {H : Hp} {a b : Addr} {kvs : List (List Key × V)} {k : List Key} {v : V} (e : H a = some (.dT kvs)) (eb : H b = some (.tup (k.map kV))) (hl : kvs.length < sizeLine) :
    DPut H a (.ref b) v (upd H a (.dT (putK kvs k v))) := .inr ⟨kvs, k, b, e, rfl, eb, hl, rfl⟩


section
variable {X : Cx} {pins : List (Addr × Obj)} {σ : St} {H : Hp} {s : Shared} {a : Addr} {y v : V} {u r : Value} {o : Option V} {A : Around} {E : Value → Shared → Prop}

theorem Inv.big (I : Inv X pins σ H s) : sysModules < s.heap.objs.size := by
  have h : mainGlobals < s.heap.objs.size := (I.mod.glob.keeps I.bk).lt
  exact Nat.lt_trans (by decide) h

/-- d[y], there -/
theorem d_getItem {Q : Value → Shared → Prop} (hu : A.units + 1 < cLine) (I : Inv X pins σ H s) (g : DGet H a y (some v)) (ry : RelV y u) (h : ∀ w' s', Inv X pins σ H s' → RelV v w' → Q w' s') :
    wpAny (model X.prog X.w) A (getItem (.ref a) u) Q E s := by
  rcases g with ⟨kvs, k, e, ey, l⟩ | ⟨kvs, k, b, e, ey, eb, l⟩
  · subst ey
    obtain ⟨z, hd, vs, rel, dd⟩ := dk_rd I.hok e
    obtain ⟨w', hw, rw'⟩ := RelO.some_of (v := v) (o := valueAt vs k) (by rw [l]; exact rel.val k)
    exact wpAny_getItem_of (kV_is ry) dd.mapOf hw (h w' _ (I.tok _) rw')
  · subst ey
    cases (show u = Value.ref b from ry)
    obtain ⟨z, hd, xs, rel, dd⟩ := dt_rd I.hok e
    obtain ⟨w', hw, rw'⟩ := RelO.some_of (v := v) (o := (atKey xs k).map (·.2)) (by rw [l]; exact rel.val k)
    obtain ⟨p, hp, hp2⟩ := Option.map_eq_some_iff.mp hw
    refine wpAny_getItem_heap (tupleKind_room_in1 hu) (key_of I.hok eb) dd hp ?_
    rw [hp2]
    exact h w' _ (I.tok _) rw'
/-- y in d -/
theorem d_in {Q : Value → Shared → Prop} (hu : A.units + 1 < cLine) (I : Inv X pins σ H s) (g : DGet H a y o) (ry : RelV y u) (h : ∀ s', Inv X pins σ H s' → Q (.bool o.isSome) s') :
    wpAny (model X.prog X.w) A (compareOp .In u (.ref a)) Q E s := by
  rcases g with ⟨kvs, k, e, ey, l⟩ | ⟨kvs, k, b, e, ey, eb, l⟩
  · subst ey
    obtain ⟨z, hd, vs, rel, dd⟩ := dk_rd I.hok e
    refine wpAny_in_of (kV_is ry) hd dd.mapOf ?_
    rw [← (rel.val k).isSome_eq, ← l]
    exact h _ (I.tok _)
  · subst ey
    cases (show u = Value.ref b from ry)
    obtain ⟨z, hd, xs, rel, dd⟩ := dt_rd I.hok e
    refine wpAny_in_heap (tupleKind_room_in1 hu) (key_of I.hok eb) hd dd ?_
    have q := (rel.val k).isSome_eq
    rw [Option.isSome_map] at q
    rw [← q, ← l]
    exact h _ (I.tok _)
theorem dk_new {P : Program} {w : World} {H' : Hp} {h' : Heap} {kvs : List (Key × V)} {vs : List (Key × Value)} (z : kvs.length ≤ sizeLine) (hd : (a == sysModules) = false) (rel : KV kvs vs) (dd : h'.DictOf (mixKind P w) a vs) :
    ObjOk P w H' h' a (.dK kvs) := ⟨z, hd, vs, rel, dd⟩
end

section
variable {X : Cx} {pins : List (Addr × Obj)} {σ : St} {H : Hp} {s : Shared} {a : Addr} {kvs : List (Key × V)} {k : Key} {u : Value} {A : Around} {E : Value → Shared → Prop}
end


/-! ### readings and rules -/
/-- the element of a subscription, not a slice -/
def NoSl (i : Expr) : Prop := ∀ ov iv, subscripted i false ov iv = operate [ov, iv] (getItem ov iv)
theorem subD_of {prog : Program} {w : World} {A : Around} {E : Value → Shared → Prop} {s : Shared} {env : Env} {value slice : Expr} {pos : Pos} {T id : String} {Q : Value → Shared → Prop}
    (hl : typeLookup (.type T) "__getitem__" = pure (some (.builtin id))) (hs : NoSl slice)
    (h : wpAny (model prog w) A (eval value env) (fun o s₁ => wpAny (model prog w) A (eval slice env) (fun i s₂ => s₂.TypeIs o T ∧ wpAny (model prog w) A (getItem o i) Q E s₂) E s₁) E s) :
    wpAny (model prog w) A (eval (.Subscript value slice pos) env) Q E s := by
  refine Subscript_ (wpAny_mono h (fun o s₁ h₁ => wpAny_mono h₁ (fun i s₂ h₂ => ?_) fun _ _ x => x) fun _ _ x => x)
  obtain ⟨hT, h₂⟩ := h₂
  unfold subscriptTail
  refine wpAny_bind ?_
  rw [getitemInPython_of_ne hT.not_modules]
  refine wpAny_bind (wpAny_specialOf hT hl ?_)
  have fin : wpAny (model prog w) A (subscripted slice false o i) (fun r s₃ => wpAny (model prog w) A (letTemporaryGo value o r >>= fun _ => pure r) Q E s₃) E s₂ := by
    rw [hs o i]
    exact wpAny_operating (wpAny_mono h₂ (fun r s₃ h₃ => wpAny_bind (wpAny_letTemporaryGo (wpAny_pure h₃))) fun _ _ x => x)
  first
    | exact wpAny_pure (wpAny_bind fin)
    | exact wpAny_bind (wpAny_pure (wpAny_bind fin))
    | exact wpAny_bind fin

theorem dict_typeIs {X : Cx} {pins : List (Addr × Obj)} {σ : St} {H : Hp} {s : Shared} {a : Addr} {y : V} {o : Option V} (I : Inv X pins σ H s) (g : DGet H a y o) : s.TypeIs (.ref a) "dict" := by
  rcases g with ⟨kvs, k, e, _, _⟩ | ⟨kvs, k, b, e, _, _, _⟩
  · obtain ⟨_, _, vs, _, dd⟩ := dk_rd I.hok e
    exact dd.typeIs
  · obtain ⟨_, _, xs, _, dd⟩ := dt_rd I.hok e
    exact dd.typeIs
/-- d[y] -/
def tDGet (td ty : TE) : TE := fun σ H Q => td σ H fun x H1 => ty σ H1 fun y H2 => ∃ a v, x = .ref a ∧ DGet H2 a y (some v) ∧ Q v H2
/-- y in d, y not in d -/
def tDIn (ty td : TE) : TE := fun σ H Q => ty σ H fun y H1 => td σ H1 fun x H2 => ∃ a o, x = .ref a ∧ DGet H2 a y o ∧ Q (.bl o.isSome) H2
/-- d[y] = v -/
def sDPut (td ty tv : TE) : TS := fun D σ H => tv σ H fun v H1 => td σ H1 fun x H2 => ty σ H2 fun y H3 => ∃ a H4, x = .ref a ∧ DPut H3 a y v H4 ∧ D.nx σ H4
section
variable {X : Cx} {o i e value : Expr} {pos pos' tpos : Pos} {td ty tv : TE}
theorem pe_dget (hu : X.A.units + 1 < cLine) (ho : PE X o td) (hi : PE X i ty) (hs : NoSl i) : PE X (.Subscript o i pos) (tDGet td ty) := by
  intro pins s σ H Q I h
  refine subD_of PySem.F.slot_dict_getitem.lookup hs (thn (ho pins s σ H _ I h) fun u s1 ⟨x, H1, I1, rx, q1⟩ => thn (hi pins s1 σ H1 _ I1 q1) fun iv s2 ⟨y, H2, I2, ry, a, v, ex, g, q2⟩ => ?_)
  subst ex
  obtain rfl : u = Value.ref a := rx
  exact ⟨dict_typeIs I2 g, d_getItem hu I2 g ry fun w' s3 I3 rw' => ⟨v, H2, I3, rw', q2⟩⟩
theorem pc_din (hu : X.A.units + 1 < cLine) (hi : PE X i ty) (ho : PE X o td) : PC X .In i o (tDIn ty td) := by
  intro pins s σ H Q I h
  refine thn (hi pins s σ H _ I h) fun iv s1 ⟨y, H1, I1, ry, q1⟩ => thn (ho pins s1 σ H1 _ I1 q1) fun u s2 ⟨x, H2, I2, rx, a, ov, ex, g, q2⟩ => ?_
  subst ex
  obtain rfl : u = Value.ref a := rx
  exact d_in hu I2 g ry fun s3 I3 => ⟨.bl ov.isSome, H2, I3, rfl, q2⟩
end


/-! ### displays -/
/-- {}, to be a dict of the kind that is wanted -/
def tDNewK : TE := fun _ H Q => ∀ p, H p = none → Q (.ref p) (upd H p (.dK []))
section
variable {X : Cx} {pos : Pos}
end

/-- the pairs of a display, from the left -/
def tPairs : List (TE × TE) → St → Hp → (List (V × V) → Hp → Prop) → Prop
  | [], _, H, Q => Q [] H
  | (tk, tv) :: r, σ, H, Q => tk σ H fun x H1 => tv σ H1 fun y H2 => tPairs r σ H2 fun ps H3 => Q ((x, y) :: ps) H3
def mergeK (kvs more : List (Key × V)) : List (Key × V) := more.foldl (fun acc kv => putK acc kv.1 kv.2) kvs
/-- {k: v, ..} with keys ints and texts; the new dict stands empty while the pairs are made -/
def tDisp (trs : List (TE × TE)) : TE := fun σ H Q => ∀ p, H p = none → tPairs trs σ (upd H p (.dK [])) fun ps H2 => H2 p = some (.dK []) ∧ ∃ kvs : List (Key × V), ps = kvs.map (fun kv => (kV kv.1, kv.2)) ∧ kvs.length ≤ 15 ∧ Q (.ref p) (upd H2 p (.dK (mergeK [] kvs)))
/-! ### methods -/
/-- a method call o.m(e) of a built-in, with one argument: what must be seen of the text -/
structure M1 (X : Cx) (o : Expr) (m : Str) (apos : Pos) (e : Expr) (cpos : Pos) : Prop where
  base : attributeBase o m X.env (eval o X.env) = eval o X.env
  few : ((backTo cpos (starEach [e] X.env)).all (fun x => !x.1) && (backToKw cpos (keywordEach [] X.env)).all (fun x => x.1.isSome)
    && decide (([e] : List Expr).length + ([] : List Keyword).length + (if ([] : List Keyword).isEmpty then 0 else 1) < 30)) = true
  line : (apos.endLine == cpos.line) = true
  trees : backTo cpos (starEach [e] X.env) = [(false, eval e X.env)]
structure M2 (X : Cx) (o : Expr) (m : Str) (apos : Pos) (e f : Expr) (cpos : Pos) : Prop where
  base : attributeBase o m X.env (eval o X.env) = eval o X.env
  few : ((backTo cpos (starEach [e, f] X.env)).all (fun x => !x.1) && (backToKw cpos (keywordEach [] X.env)).all (fun x => x.1.isSome)
    && decide (([e, f] : List Expr).length + ([] : List Keyword).length + (if ([] : List Keyword).isEmpty then 0 else 1) < 30)) = true
  line : (apos.endLine == cpos.line) = true
  trees : backTo cpos (starEach [e, f] X.env) = [(false, eval e X.env), (false, eval f X.env)]

/-- a is a dict, whatever its keys -/
def IsD (H : Hp) (a : Addr) : Prop := (∃ kvs, Rd H a (.dK kvs)) ∨ ∃ kvs, Rd H a (.dT kvs)
section
variable {X : Cx} {pins : List (Addr × Obj)} {σ : St} {H : Hp} {s : Shared} {a : Addr} {y d : V} {u r : Value} {o : Option V} {A : Around} {E : Value → Shared → Prop}
end

/-- d.pop(k): there; d.pop(k, x): there or not -/
def tDPop1 (td ty : TE) : TE := fun σ H Q => td σ H fun x H1 => ∃ a, x = .ref a ∧ IsD H1 a ∧ ty σ H1 fun y H2 => ∃ kvs k v, H2 a = some (.dK kvs) ∧ y = kV k ∧ valV kvs k = some v ∧ Q v (upd H2 a (.dK (dropK kvs k)))
section
variable {X : Cx} {o e f : Expr} {apos cpos : Pos} {td ty tx : TE}
end

/-! ### dict(d): a copy -/
section
variable {X : Cx} {pins : List (Addr × Obj)} {σ : St} {H : Hp} {s : Shared} {a : Addr} {kvs : List (Key × V)} {A : Around} {E : Value → Shared → Prop}
end


section
variable {X : Cx} {pins : List (Addr × Obj)} {σ : St} {H : Hp} {s : Shared} {a : Addr} {y : V} {u : Value} {A : Around} {E : Value → Shared → Prop}
end
end L2

namespace L2
open PySem PySem.Spec PyProof.Rows
section
variable {X : Cx}
end
/-! ### a dict's pairs: keys that differ -/
section
variable {κ : Type} [DecidableEq κ]
theorem valV_not {kvs : List (κ × V)} {k : κ} (h : valV kvs k = none) : ¬ k ∈ kvs.map (·.1) := by
  intro m
  obtain ⟨p, hp, e⟩ := List.mem_map.mp m
  have q : (kvs.any fun kv => decide (kv.1 = k)) = true := List.any_eq_true.mpr ⟨p, hp, decide_eq_true e⟩
  rw [valV_any, h] at q
  exact absurd q (by simp)
theorem valV_in {kvs : List (κ × V)} {k : κ} {v : V} (h : valV kvs k = some v) : k ∈ kvs.map (·.1) := by
  have q : (kvs.any fun kv => decide (kv.1 = k)) = true := by
    rw [valV_any, h]
    all_goals rfl
  obtain ⟨p, hp, e⟩ := List.any_eq_true.mp q
  exact List.mem_map.mpr ⟨p, hp, of_decide_eq_true e⟩
theorem nd_snoc : ∀ {l : List κ} {k : κ}, l.Nodup → ¬ k ∈ l → (l ++ [k]).Nodup
  | [], k, _, _ => by simp
  | a :: r, k, h, hk => by
    obtain ⟨h1, h2⟩ := List.nodup_cons.mp h
    show (a :: (r ++ [k])).Nodup
    refine List.nodup_cons.mpr ⟨fun m => ?_, nd_snoc h2 fun m => hk (List.mem_cons.mpr (Or.inr m))⟩
    rcases List.mem_append.mp m with q | q
    · exact h1 q
    · exact hk (List.mem_cons.mpr (Or.inl (List.mem_singleton.mp q).symm))
theorem nd_putK {kvs : List (κ × V)} {k : κ} (v : V) (hn : (kvs.map (·.1)).Nodup) (h : valV kvs k = none) : ((putK kvs k v).map (·.1)).Nodup := by
  rw [putK_new v h, List.map_append]
  exact nd_snoc hn (valV_not h)
end
end L2

/-! DICT COMPREHENSIONS of one clause. -/
namespace L2
open PySem PySem.Spec PyProof.Rows
/-- D: where the new dict stands; W: what holds when i items were walked and ys were stored -/
def tDC (nN : Nat) (fs : List (Nat × Nat)) (wi : TI) (g : TG) (tc : TT) (tk tv : TE) : TE := fun σ H Q => wi σ H fun J H1 => ∀ D, H1 D = none → ∃ (n : Nat) (W : Nat → List (Key × V) → Hp → Prop), n ≤ sizeLine ∧ W 0 [] (upd H1 D (.dK [])) ∧
  ∀ i ys H2, i ≤ n → W i ys H2 → H2 D = some (.dK ys) → (J.stop i H2 ∧ Q (.ref D) H2) ∨ (i < n ∧ J.go i H2 ∧ ∀ x H3, J.yld i H2 x H3 → g x (tau nN fs σ) H3 fun τ4 H4 =>
    (∀ (j : Nat) v, (tau nN fs σ)[j]? = some (some v) → τ4[j]? = some (some v)) ∧ tc τ4 H4 fun b H5 =>
      if b = true then tk τ4 H5 fun y H6 => tv τ4 H6 fun v H7 => ∃ k : Key, y = kV k ∧ H7 D = some (.dK ys) ∧ W (i + 1) (putK ys k v) (upd H7 D (.dK (putK ys k v))) else H5 D = some (.dK ys) ∧ W (i + 1) ys H5)

section
variable {X : Cx} {scope : Scope} {N : List Str} {fs : List (Nat × Nat)} {tg kx vx iter : Expr} {ifs : List Expr} {pos cpos : Pos} {wi : TI} {g : TG} {tc : TT} {tk tv : TE}
end
theorem w_DC {nN : Nat} {fs : List (Nat × Nat)} {wi : TI} {g : TG} {tc : TT} {tk tv : TE} {σ : St} {H : Hp} {Q : VK} (q : wi σ H fun J H1 => ∀ D, H1 D = none → ∃ (n : Nat) (W : Nat → List (Key × V) → Hp → Prop), n ≤ sizeLine ∧ W 0 [] (upd H1 D (.dK [])) ∧
  ∀ i ys H2, i ≤ n → W i ys H2 → H2 D = some (.dK ys) → (J.stop i H2 ∧ Q (.ref D) H2) ∨ (i < n ∧ J.go i H2 ∧ ∀ x H3, J.yld i H2 x H3 → g x (tau nN fs σ) H3 fun τ4 H4 =>
    (∀ (j : Nat) v, (tau nN fs σ)[j]? = some (some v) → τ4[j]? = some (some v)) ∧ tc τ4 H4 fun b H5 =>
      if b = true then tk τ4 H5 fun y H6 => tv τ4 H6 fun v H7 => ∃ k : Key, y = kV k ∧ H7 D = some (.dK ys) ∧ W (i + 1) (putK ys k v) (upd H7 D (.dK (putK ys k v))) else H5 D = some (.dK ys) ∧ W (i + 1) ys H5)) : tDC nN fs wi g tc tk tv σ H Q := q
end L2

namespace L2
open PySem PySem.Spec PyProof.Rows
/-! ### == and != of dicts with flat values -/
def hitD (kb : List (Key × V)) (p : Key × V) : Bool := match valV kb p.1 with | some y => eqV p.2 y | none => false
def eqD (ka kb : List (Key × V)) : Bool := ka.length == kb.length && ka.all (hitD kb)
section
variable {X : Cx}
/-! ### divmod by a divisor of some thousand bits -/
/-! ### list(d): the keys -/
end
/-! ### * of factors of some thousand bits -/
def CMulB (i j : Int) : Prop := i.natAbs.log2 < 4000 ∧ j.natAbs.log2 < 4000
theorem CMulB.ok {i j : Int} (h : CMulB i j) : IntMulOk i j := by
  have b : ∀ {x : Int}, x.natAbs.log2 < 4000 → Builtin.Int.intBits x ≤ 4000 := fun {x} hx => by
    unfold Builtin.Int.intBits
    split
    · exact Nat.zero_le _
    · exact hx
  have h1 := b h.1
  have h2 := b h.2
  unfold IntMulOk Builtin.Int.intTooBig
  have z : decide (((Builtin.Int.intBits i + Builtin.Int.intBits j : Nat) : Int) > bitsLine) = false := decide_eq_false (by
    have : (8000 : Int) ≤ bitsLine := by decide
    omega)
  intro y
  simp only [Bool.and_eq_true] at y
  have y := y.2
  rw [show ((Builtin.Int.intBits i : Int) + (Builtin.Int.intBits j : Int)) = ((Builtin.Int.intBits i + Builtin.Int.intBits j : Nat) : Int) by omega] at y
  rw [z] at y
  cases y
end L2

namespace L2
open PySem PySem.Spec PyProof.Rows
/-! ### dicts: one step of a reading at a time -/
section
variable {σ : St} {H : Hp} {Q : VK} {td ty tv : TE} {nx : St → Hp → Prop} {rt : VK} {bk ct : St → Hp → Prop}
theorem w_dget (q : td σ H fun x H1 => ty σ H1 fun y H2 => ∃ a v, x = .ref a ∧ DGet H2 a y (some v) ∧ Q v H2) : tDGet td ty σ H Q := q
theorem w_dput (q : tv σ H fun v H1 => td σ H1 fun x H2 => ty σ H2 fun y H3 => ∃ a H4, x = .ref a ∧ DPut H3 a y v H4 ∧ nx σ H4) : sDPut td ty tv ⟨nx, rt, bk, ct⟩ σ H := q
theorem w_dnew (q : ∀ p, H p = none → Q (.ref p) (upd H p (.dK []))) : tDNewK σ H Q := q
theorem w_disp {trs : List (TE × TE)} (q : ∀ p, H p = none → tPairs trs σ (upd H p (.dK [])) fun ps H2 => H2 p = some (.dK []) ∧ ∃ kvs : List (Key × V), ps = kvs.map (fun kv => (kV kv.1, kv.2)) ∧ kvs.length ≤ 15 ∧ Q (.ref p) (upd H2 p (.dK (mergeK [] kvs)))) : tDisp trs σ H Q := q
theorem w_prs {tk : TE} {r : List (TE × TE)} {R : List (V × V) → Hp → Prop} (q : tk σ H fun x H1 => tv σ H1 fun y H2 => tPairs r σ H2 fun ps H3 => R ((x, y) :: ps) H3) : tPairs ((tk, tv) :: r) σ H R := q
theorem w_prn {R : List (V × V) → Hp → Prop} (q : R [] H) : tPairs [] σ H R := q
end
end L2
local macro_rules | `(tactic| array_get_dec) => `(tactic| first | with_reducible refine L2.w_DC ?_ | with_reducible refine L2.w_dget ?_ | with_reducible refine L2.w_dput ?_ | with_reducible refine L2.w_dnew ?_ | with_reducible refine L2.w_disp ?_ | with_reducible refine L2.w_prs ?_ | with_reducible refine L2.w_prn ?_)
namespace L2
open PySem PySem.Spec PyProof.Rows
/-! ### tables of a function -/
/-- the pairs tell just g -/
structure Tab (kvs : List (Key × V)) (g : Key → Option V) : Prop where
  at' : ∀ k, valV kvs k = g k
  nd : (kvs.map (·.1)).Nodup
theorem Tab.nil : Tab [] fun _ => none := ⟨fun _ => rfl, List.nodup_nil⟩
theorem Tab.congr {kvs : List (Key × V)} {g g' : Key → Option V} (t : Tab kvs g) (h : ∀ k, g k = g' k) : Tab kvs g' := ⟨fun k => (t.at' k).trans (h k), t.nd⟩
theorem keys_put (kvs : List (Key × V)) (k : Key) (v : V) : (kvs.map (fun kv => if kv.1 = k then (kv.1, v) else kv)).map (·.1) = kvs.map (·.1) := by
  rw [List.map_map]
  refine List.map_congr_left fun p _ => ?_
  show (if p.1 = k then (p.1, v) else p).1 = p.1
  split <;> rfl
theorem Tab.put {kvs : List (Key × V)} {g : Key → Option V} (t : Tab kvs g) (k : Key) (v : V) : Tab (putK kvs k v) fun j => if j = k then some v else g j := by
  refine ⟨fun j => by rw [valV_put, t.at' j], ?_⟩
  cases e : valV kvs k with
  | none => exact nd_putK v t.nd e
  | some y =>
    unfold putK
    rw [valV_any, e, if_pos (show (some y).isSome = true from rfl), keys_put]
    exact t.nd
theorem valV_mem {kvs : List (Key × V)} {k : Key} {v : V} (nd : (kvs.map (·.1)).Nodup) (h : (k, v) ∈ kvs) : valV kvs k = some v := by
  induction kvs with
  | nil => cases h
  | cons p r ih =>
    have nd : (p.1 :: r.map (·.1)).Nodup := nd
    obtain ⟨n1, n2⟩ := List.nodup_cons.mp nd
    rcases List.mem_cons.mp h with e | h
    · rw [← e]; exact valV_pos rfl
    · rw [valV_neg fun e => n1 (List.mem_map.mpr ⟨_, h, e.symm⟩)]
      exact ih n2 h
theorem Tab.mem {kvs : List (Key × V)} {g : Key → Option V} (t : Tab kvs g) {p : Key × V} (h : p ∈ kvs) : g p.1 = some p.2 := by
  rw [← t.at']
  exact valV_mem t.nd h
theorem nodup_len {α : Type} [DecidableEq α] : ∀ {l m : List α}, l.Nodup → (∀ x ∈ l, x ∈ m) → l.length ≤ m.length
  | [], _, _, _ => Nat.zero_le _
  | a :: l, m, nd, h => by
    obtain ⟨n1, n2⟩ := List.nodup_cons.mp nd
    have ha := h a List.mem_cons_self
    have := nodup_len (m := m.erase a) n2 fun x hx => (List.mem_erase_of_ne (show x ≠ a from fun e => n1 (by rw [← e]; exact hx))).mpr (h x (List.mem_cons_of_mem _ hx))
    rw [List.length_erase_of_mem ha] at this
    have hp := List.length_pos_of_mem ha
    rw [List.length_cons]
    omega
theorem Tab.len {ka kb : List (Key × V)} {g : Key → Option V} (a : Tab ka g) (b : Tab kb g) : ka.length ≤ kb.length := by
  have := nodup_len (l := ka.map (·.1)) (m := kb.map (·.1)) a.nd fun k hk => by
    obtain ⟨p, hp, rfl⟩ := List.mem_map.mp hk
    have e := a.mem hp
    rw [← b.at'] at e
    exact valV_in e
  rwa [List.length_map, List.length_map] at this
theorem eqV_self {v : V} (h : flatV v = true) : eqV v v = true := by
  cases v with
  | non => rfl
  | bl b => exact beq_self_eq_true b
  | int i => exact beq_self_eq_true i
  | str x => exact beq_self_eq_true x
  | _ => cases h
/-- two tables of one function are equal -/
theorem Tab.eq {ka kb : List (Key × V)} {g : Key → Option V} (a : Tab ka g) (b : Tab kb g) (f : ka.all (fun p => flatV p.2) = true) : eqD ka kb = true := by
  unfold eqD
  rw [Bool.and_eq_true]
  refine ⟨beq_iff_eq.mpr (Nat.le_antisymm (a.len b) (b.len a)), List.all_eq_true.mpr fun p hp => ?_⟩
  unfold hitD
  rw [b.at', a.mem hp]
  exact eqV_self (List.all_eq_true.mp f p hp)
end L2

namespace L2
open PySem PySem.Spec PyProof.Rows
/-- try: e / except S as v: n = v -/
def sTryE (K : PySem.W.Frag) (S : Addr) (i j : Nat) (te : XK → TE) : TS := fun D σ H => te (fun C _ H' => ∃ c bm nw, C = .ref c ∧ PySem.W.excIn K c bm nw = true ∧ SubIn K c S = true ∧ ∀ a, H' a = none → D.nx ((σ.set i (some (.ref a))).set j none) (upd H' a (Ex a c))) σ H
  fun _ H1 => D.nx σ H1
section
variable {X : Cx}
theorem ps_tryE {i j : Nat} {n v x : Str} {S : Addr} {bmS : List Value} {nS : String} {e : Expr} {te : XK → TE} {p2 p3 p4 p5 p6 p7 p8 : Pos} (hN : X.N.Nodup) (hi : X.N[i]? = some n) (hj : X.N[j]? = some v) (hn : X.env.scope.names.lookup n = some .local) (hv : X.env.scope.names.lookup v = some .local)
    (hij : i ≠ j) (hst : X.stack = X.env :: X.outer ∧ X.env.frame = some X.env.locals) (hH0 : X.ex = []) (hg : Gl X x) (hm : X.mg x = some (.ref S)) (hS : PySem.W.excIn X.K S bmS nS = true) (hbS : bmS.contains (.type "BaseException") = true)
    (he : ∀ (E : XK) (pins : List (Addr × Obj)) (s : Shared) (σ : St) (H : Hp) (Q : VK), Inv X pins σ H s → te E σ H Q → wpAny (model X.prog X.w) X.A (eval e X.env) (EP X pins σ Q) (Flew X pins σ E) s)
    (hs : swapsWith e none p2.line X.env = pure false := by rfl) (hs2 : swapsWith (.Name v p4) (some (.Name n p3)) p5.line X.env = pure false := by rfl) (hdb : (x == ("__debug__" : Str)) = false := by decide) (hvd : (v == ("__debug__" : Str)) = false := by decide) (hvc : (v == ("__classdict__" : Str)) = false := by decide) :
    PS X (.Try [.Expr e p2] [.ExceptHandler (some (.Name x p6)) (some v) [.Assign [.Name n p3] (.Name v p4) p5] p7] [] [] p8) (sTryE X.K S i j te) := by
  intro pins s σ H D I h
  refine wpAny_Try_except (wpAny_execs_cons (wpAny_mono (Q := fun fl s1 => fl = .next ∧ SP X pins D .next s1) ?_ (fun fl s1 z => ?_) fun _ _ z => z))
  · refine wpAny_Expr_any (wpAny_mono (he _ pins s σ H _ I h) (fun u s1 z => ?_) fun e s1 z => ?_) I.quiet hs
    · obtain ⟨y, H1, I1, r1, q1⟩ := z
      exact ⟨rfl, _, H1, I1, q1⟩
    · obtain ⟨H2, s2, I2, a, c0, t, B, H', rfl, fl, cov, un, hok, na, nb, bare, os, c, bm, nw, ec, hC, hsub, q⟩ := z
      cases ec
      have fr : X.A.frames = some (X.env :: X.outer) := by rw [← hst.1]; exact I.ok.frames
      rw [hst.1] at fl
      refine wpAny_looks_onW fr hst.2 fl fun h4 held sm4 => wpAny_landsW held fun h5 fl5 sm5 => ?_
      rw [hst.1] at cov un
      have u5 := un_slots un hok cov fl.1 fl5.1 fl.2.2.1 (sm4.trans sm5)
      have toX : ∀ {h6 : Heap}, Un (frs (X.env :: X.outer)) [] H2 H' s2.heap h6 ∧ HOk X.prog X.w H' h6 → Inv X pins σ H' { s1 with heap := h6 } := fun {h6} z =>
        I2.call' (s' := { s1 with heap := h6 }) (ch := []) os (by rw [hst.1]; exact z.1) z.2 bare fun b hb => by cases hb
      have I5 := toX u5
      refine wpAny_handleBy_cons (codeAny_handlers_test ?_) (by intro z; cases z)
      have I5m := I5.mark (.ref a)
      refine ld_glob (X := X.marked (.ref a)) I5m hg hm ?_ hdb
      obtain ⟨oe, vs5, e5, hc5, hd5, _⟩ := fl5.first
      refine matches_own (K := X.K) I5.kIn hC hS hbS hsub e5 hc5 (codeAny_handlers_suite_as ?_)
      refine lands_againW fl5 fun h6 fl6 sm6 => ?_
      have I6 := toX (un_slots un hok cov fl.1 fl6.1 fl.2.2.1 ((sm4.trans sm5).trans sm6))
      have n0 : X.s₀.heap.get? a = none := by
        cases z : X.s₀.heap.get? a with
        | none => rfl
        | some o =>
          obtain ⟨o1, e1⟩ := I2.base.there a o z (by rw [hH0]; simp)
          rw [nb] at e1
          cases e1
      obtain ⟨oe6, vs6, e6, hc6, hd6, _⟩ := fl6.first
      have I7 : Inv X pins σ (upd H' a (Ex a c0)) { s1 with heap := h6 } := by
        refine I6.track na n0 (fun z => ?_) (fun y c' ec z => ?_) (fun p hp z => ?_) ⟨⟨oe6, vs6, e6, hc6, hd6⟩, ⟨oe6, e6⟩, excφ_stay⟩
        · obtain ⟨m, ⟨o, _, _, ho, _⟩, _⟩ := I2.loc
          rw [z, ho] at nb
          cases nb
        · obtain ⟨v', o, ho, _⟩ := I2.cell y c' ec
          rw [z, nb] at ho
          cases ho
        · have := (I2.pin p hp).1
          rw [z, nb] at this
          cases this
      have I7m := I7.mark (.ref a)
      refine store_ok (X := X.marked (.ref a)) I7m hN hj (.inl hv) (show RelV (.ref a) (.ref a) from rfl) (fun s8 I8 => ?_) (.inr hv)
      have suite : PSs (X.marked (.ref a)) [.Assign [.Name n p3] (.Name v p4) p5] (tAsg (tVar j) (gName i)) := pss_one (ps_set hN hi (.inl hn) (pe_var hj (.inl hv) hvd hvc) hs2 (.inr hn))
      have hjl : j < σ.length := by rw [I.len]; exact (List.getElem?_eq_some_iff.mp hj).1
      refine wpAny_mono (suite pins s8 _ _ { nx := fun σ9 H9 => σ9 = (σ.set j (some (.ref a))).set i (some (.ref a)) ∧ H9 = upd H' a (Ex a c0), rt := fun _ _ => False } I8 ⟨_, List.getElem?_set_self hjl, rfl, rfl⟩) (fun fl9 s9 z => ?_) fun _ _ f => f.elim
      cases fl9 with
      | next =>
        obtain ⟨σ9, H9, I9, e9, e9'⟩ := z
        subst e9 e9'
        have I9 := I9.unmark I.ok
        obtain ⟨m, hm9, lk⟩ := I9.loc
        refine wpAny_nameGoes_keeps hv hm9 (by rw [I.ok.kind]; rfl) fun h10 w hm10 sb => ⟨(σ.set i (some (.ref a))).set j none, _, ?_, q a na⟩
        obtain ⟨oL, _, _, hoL, _⟩ := hm9
        have neL : ∀ b o, X.s₀.heap.get? b = some o → b ≠ X.env.locals := fun b o e => Nat.ne_of_lt (Nat.lt_of_lt_of_le (Heap.lt_size e) I.ok.above)
        have kb : ∀ b o, b ≠ X.env.locals → s9.heap.get? b = some o → h10.get? b = some o := fun b o hb e => (sb.2 b hb).trans e
        refine ⟨I.ok, I9.os, I9.bare, ⟨fun b o e n' hb hx => kb b o (neL b o e) (I9.base.keep b o e n' hb hx), fun b o e n' hb hx => ?_, I9.base.free, fun b o e hx => ?_, I9.base.tups, I9.base.frzs, I9.base.tbls⟩, ⟨_, hm10, fun k y u e1 e2 e3 => ?_⟩, fun y c' ec => ?_, I9.free, I9.freeC, fun p hp => ?_, fun b u e => ?_, ?_⟩
        · obtain ⟨sl, e1⟩ := I9.base.slot b o e n' hb hx
          exact ⟨sl, kb b _ (neL b o e) e1⟩
        · obtain ⟨o', e1⟩ := I9.base.there b o e hx
          exact ⟨o', kb b _ (neL b o e) e1⟩
        · have hkj : k ≠ j := fun z => by
            subst z
            rw [List.getElem?_set_self (by rw [List.length_set]; exact hjl)] at e2
            cases e2
          rw [List.getElem?_set_ne (Ne.symm hkj)] at e2
          have e2' : ((σ.set j (some (.ref a))).set i (some (.ref a)))[k]? = some (some u) := by
            by_cases hki : k = i
            · subst hki
              have hil : k < σ.length := by rw [I.len]; exact (List.getElem?_eq_some_iff.mp hi).1
              rw [List.getElem?_set_self hil] at e2
              rw [List.getElem?_set_self (by rw [List.length_set]; exact hil)]
              exact e2
            · rw [List.getElem?_set_ne (Ne.symm hki)] at e2 ⊢
              rw [List.getElem?_set_ne (Ne.symm hkj)]
              exact e2
          obtain ⟨u', ru, z⟩ := lk k y u e1 e2' e3
          refine ⟨u', ru, ?_⟩
          have yv : y ≠ v := fun z => hkj (nodup_ix hN e1 (z ▸ hj))
          rcases z with ⟨z1, z2⟩ | ⟨z1, c', z2, z3⟩
          · exact .inl ⟨z1, by simp only [if_neg yv]; exact z2⟩
          · exact .inr ⟨z1, c', z2, z3.sameBut sb (I9.cne y c' z2)⟩
        · obtain ⟨w', z⟩ := I9.cell y c' ec
          exact ⟨w', z.sameBut sb (I9.cne y c' ec)⟩
        · obtain ⟨z1, z2, z3, z4, z5⟩ := I9.pin p hp
          exact ⟨kb _ _ z3 z1, z2, z3, z4, z5⟩
        · refine (I9.hok b u e).stay (fun c' v' hc' q' => kb c' v' ?_ q') (fun _ q' => q') fun _ _ q' => q'
          rintro rfl
          rcases hc' with z | z
          · rw [← z, I9.free] at e
            cases e
          · rw [I9.free] at z
            cases z
        · simp only [List.length_set]
          exact I.len
      | ret v => exact z.elim (fun _ h => by obtain ⟨_, _, _, _, f⟩ := h; exact f.elim)
      | brk => obtain ⟨_, _, _, f⟩ := z; exact f.elim
      | cont => obtain ⟨_, _, _, f⟩ := z; exact f.elim
  · obtain ⟨rfl, z⟩ := z
    exact wpAny_execs_nil (wpAny_execs_nil z)
end
theorem w_tryE {K : PySem.W.Frag} {S : Addr} {i j : Nat} {te : XK → TE} {nx : St → Hp → Prop} {rt : VK} {bk ct : St → Hp → Prop} {σ : St} {H : Hp}
    (q : te (fun C _ H' => ∃ c bm nw, C = .ref c ∧ PySem.W.excIn K c bm nw = true ∧ SubIn K c S = true ∧ ∀ a, H' a = none → nx ((σ.set i (some (.ref a))).set j none) (upd H' a (Ex a c))) σ H fun _ H1 => nx σ H1) : sTryE K S i j te ⟨nx, rt, bk, ct⟩ σ H := q
/-! ### dict(d), int(b), sorted(l) -/
section
variable {X : Cx}
theorem call_intB : CallR X (.type "int") (fun xs H Q => ∃ b, xs = [.bl b] ∧ Q (.int (if b then 1 else 0)) H) := by
  intro pins s σ H xs us Q I r h
  obtain ⟨b, rfl, q⟩ := h
  obtain ⟨u, rfl, rx⟩ := vals1 r
  cases rx
  exact PySem.call_int_bool ⟨.int _, H, I.tok _, ⟨_, rfl⟩, q⟩
end
end L2

namespace L2
open PySem PySem.Spec PyProof.Rows
/-! ### iterators that tell tuples, out of the library's walks -/
/-! ### enumerate(l) -/
def Ite (K : PySem.W.Frag) (a : Addr) : It := ⟨fun i H => ∃ xs x, SqL K H a xs ∧ xs[i]? = some x,
  fun i H v H' => ∃ p, H p = none ∧ v = .ref p ∧ ∃ x, H' = upd H p (.tup [.int i, x]) ∧ ∀ xs, SqL K H a xs → xs[i]? = some x,
  fun i H => ∃ xs, SqL K H a xs ∧ xs.length = i⟩
section
variable {X : Cx}
def iEnum (K : PySem.W.Frag) (ta : TA) : TI := fun σ H R => ta σ H fun vs H1 => ∃ a, vs = [.ref a] ∧ (∃ xs, SqL K H1 a xs) ∧ R (Ite K a) H1
end
end L2

namespace L2
open PySem PySem.Spec PyProof.Rows
/-! ### one tracked object told otherwise -/
def Plain : HO → Prop
  | .tup _ => False
  | .own _ => False
  | .tbl _ => False
  | _ => True
section
variable {X : Cx} {pins : List (Addr × Obj)} {σ : St} {H : Hp} {s : Shared}
theorem Inv.told {d : Addr} {o1 o2 : HO} (I : Inv X pins σ H s) (h1 : H d = some o1) (p1 : Plain o1) (nf : ∀ o u, X.H₀ d ≠ some (.frz o u)) (new : ObjOk X.prog X.w (upd H d o2) s.heap d o2) : Inv X pins σ (upd H d o2) s := by
  have ne : ∀ {b : Addr}, H b = none → b ≠ d := fun {b} hb z => by rw [z, h1] at hb; cases hb
  have nt : ∀ {b : Addr} {xs : List V}, H b = some (.tup xs) → b ≠ d := fun {b xs} hb z => by rw [z, h1] at hb; cases hb; exact p1
  have no : ∀ {b a : Addr}, H b = some (.own a) → b ≠ d := fun {b a} hb z => by rw [z, h1] at hb; cases hb; exact p1
  have nb : ∀ {b : Addr} {ps : Array Value}, H b = some (.tbl ps) → b ≠ d := fun {b ps} hb z => by rw [z, h1] at hb; cases hb; exact p1
  refine ⟨I.ok, I.os, I.bare, ⟨I.base.keep, I.base.slot, fun b o e n hx => ?_, I.base.there, fun b xs e => ?_, fun b o u e => ?_, fun b ps e => ?_⟩, I.loc, I.cell, ?_, fun x c e => ?_, fun p hp => ?_, fun b u e => ?_, I.len⟩
  · have := I.base.free b o e n hx
    rw [upd_ne (ne this)]; exact this
  · have := I.base.tups b xs e
    rw [upd_ne (nt this)]; exact this
  · have := I.base.frzs b o u e
    rw [upd_ne (fun z => nf o u (by rw [← z]; exact e))]; exact this
  · obtain ⟨more, this⟩ := I.base.tbls b ps e
    exact ⟨more, by rw [upd_ne (nb this)]; exact this⟩
  · rw [upd_ne (ne I.free)]; exact I.free
  · rw [upd_ne (ne (I.freeC x c e))]; exact I.freeC x c e
  · obtain ⟨z1, z2, z3⟩ := I.pin p hp
    exact ⟨z1, by rw [upd_ne (ne z2)]; exact z2, z3⟩
  · by_cases hb : b = d
    · subst hb
      rw [upd_same] at e
      cases e
      exact new
    · rw [upd_ne hb] at e
      exact (I.hok b u e).stay (fun _ _ _ q => q) (fun c q => by rw [upd_ne (no q)]; exact q) fun c xs q => by rw [upd_ne (nt q)]; exact q
/-- behind a statement the dict is as it was ahead of it -/
def sThaw (t : TS) : TS := fun D σ H => ∃ d kvs, H d = some (.dK kvs) ∧ t ⟨fun σ' H' => ∃ ob, H' d = some (.frz ob (.dK kvs)) ∧ D.nx σ' (upd H' d (.dK kvs)), fun _ _ => False, fun _ _ => False, fun _ _ => False⟩ σ H
end
/-! ### d.items() in a loop -/
def Iti (d : Addr) (ob : Obj) (kvs : List (Key × V)) : It := ⟨fun i H => H d = some (.frz ob (.dK kvs)) ∧ i < kvs.length,
  fun i H v H' => ∃ p k x, H p = none ∧ v = .ref p ∧ kvs[i]? = some (k, x) ∧ H' = upd H p (.tup [kV k, x]),
  fun i H => H d = some (.frz ob (.dK kvs)) ∧ i = kvs.length⟩
section
variable {X : Cx}
def iItems (td : TE) : TI := fun σ H R => td σ H fun x H1 => ∃ d kvs, x = .ref d ∧ H1 d = some (.dK kvs) ∧ ∀ ob, R (Iti d ob kvs) (upd H1 d (.frz ob (.dK kvs)))
end
end L2

/-! SETS of texts and numbers: set(list), set(dict), == and != of sets -/
namespace L2
open PySem PySem.Spec PyProof.Rows
/-! ### the list of what was met, each once -/
instance memKey (k : Key) : (L : List Key) → Decidable (k ∈ L)
  | [] => .isFalse (by simp)
  | a :: r =>
    if h : k = a then .isTrue (by rw [h]; exact .head _)
    else match memKey k r with
      | .isTrue z => .isTrue (.tail _ z)
      | .isFalse z => .isFalse (by intro q; rcases List.mem_cons.mp q with e | e; exact h e; exact z e)
def met1 (L : List Key) (k : Key) : List Key := if k ∈ L then L else L ++ [k]
def metK (ks : List Key) : List Key := ks.foldl met1 []
theorem metK_snoc (ks : List Key) (k : Key) : metK (ks ++ [k]) = met1 (metK ks) k := by unfold metK; rw [List.foldl_append]; rfl
theorem mem_met1 {L : List Key} {k j : Key} : j ∈ met1 L k ↔ j ∈ L ∨ j = k := by
  unfold met1
  split
  · rename_i h; exact ⟨.inl, fun z => z.elim id fun e => e ▸ h⟩
  · simp
theorem nd_met1 {L : List Key} {k : Key} (h : L.Nodup) : (met1 L k).Nodup := by
  unfold met1
  split
  · exact h
  · rename_i hk; exact nd_snoc h hk
theorem len_met1 {L : List Key} {k : Key} : (met1 L k).length = if decide (k ∈ L) = true then L.length else L.length + 1 := by
  unfold met1
  by_cases h : k ∈ L
  · rw [if_pos h, if_pos (decide_eq_true h)]
  · rw [if_neg h, if_neg (by simpa using h), List.length_append]; rfl
theorem metK_ind {C : List Key → List Key → Prop} (h0 : C [] []) (hs : ∀ ks k L, C ks L → C (ks ++ [k]) (met1 L k)) (ks : List Key) : C ks (metK ks) := by
  have : ∀ n, ∀ ks : List Key, ks.length = n → C ks (metK ks) := by
    intro n
    induction n with
    | zero => intro ks e; cases ks with
      | nil => exact h0
      | cons a b => cases e
    | succ n ih =>
      intro ks e
      have hne : ks ≠ [] := by intro z; rw [z] at e; cases e
      rw [← List.dropLast_concat_getLast hne, metK_snoc]
      exact hs _ _ _ (ih _ (by rw [List.length_dropLast, e]; rfl))
  exact this _ ks rfl
theorem mem_metK {ks : List Key} {j : Key} : j ∈ metK ks ↔ j ∈ ks := metK_ind (C := fun ks L => j ∈ L ↔ j ∈ ks) (by simp) (fun ks k L h => by rw [mem_met1, h]; simp) ks
theorem nd_metK (ks : List Key) : (metK ks).Nodup := metK_ind (C := fun _ L => L.Nodup) List.nodup_nil (fun _ _ _ h => nd_met1 h) ks
theorem len_metK (ks : List Key) : (metK ks).length ≤ ks.length := metK_ind (C := fun ks L => L.length ≤ ks.length) (Nat.le_refl _) (fun ks k L h => by rw [len_met1, List.length_append]; split <;> simp <;> omega) ks
theorem metK_nd {ks : List Key} (h : ks.Nodup) : (metK ks).length = ks.length :=
  Nat.le_antisymm (len_metK ks) (nodup_len h fun x hx => mem_metK.mpr hx)
/-! ### a set in the heap -/
section
variable {P : Program} {w : World}
def SetIn (P : Program) (w : World) (a : Addr) (L : List Key) (h : Heap) : Prop := h.SetOf (mixKind P w) a (fun k => decide (k ∈ L)) L.length
def SetO (P : Program) (w : World) (a : Addr) (L : List Key) : HO := .ext (SetIn P w a L)
theorem SetIn.keeps {a : Addr} {L : List Key} {h h' : Heap} (x : SetIn P w a L h) (k : ∀ o, h.get? a = some o → h'.get? a = some o) : SetIn P w a L h' := by
  obtain ⟨o, es, ep, t, ho, r⟩ := x
  exact ⟨o, es, ep, t, k _ ho, r⟩
theorem SetIn.ok {H : Hp} {a : Addr} {L : List Key} {h : Heap} (x : SetIn P w a L h) : ObjOk P w H h a (SetO P w a L) := by
  refine ⟨x, ?_, fun h1 h2 y k => y.keeps k⟩
  obtain ⟨o, es, ep, t, ho, r⟩ := x
  exact ⟨o, ho⟩
theorem SetIn.add {a : Addr} {L : List Key} {h : Heap} {k : Key} (x : h.SetOf (mixKind P w) a (fun k' => decide (k' ∈ L) || decide (k' = k)) (if decide (k ∈ L) = true then L.length else L.length + 1)) : SetIn P w a (met1 L k) h := by
  unfold SetIn
  rw [len_met1]
  refine Eq.mp (congrArg (fun S => h.SetOf (mixKind P w) a S _) (funext fun j => ?_)) x
  show (decide (j ∈ L) || decide (j = k)) = decide (j ∈ met1 L k)
  rw [← Bool.decide_or]
  exact decide_eq_decide.mpr mem_met1.symm
theorem key_scan {k : Key} {v : Value} (h : keyIs k v = true) : v.scannable = true := by
  rcases keyIs_shape h with ⟨i, t, rfl, rfl⟩ | ⟨i, t, rfl, rfl⟩ <;> rfl
end
/-! ### the loop that puts the items of an iterator into a set -/
section
variable {P : Program} {w : World} {A : Around} {R : Result → Shared → Prop} {I : Addr} {fp wr : List Addr} {G : Array GenState → Array GenState → Prop} {n : Nat} {Pv : Nat → Value → Prop} {St : Nat → Shared → Prop}
theorem set_loopK (W : WalksS P w A.in1 I fp wr G n Pv St) (D : Addr) (hD : D ∉ fp) (ks : List Key) (hn : ks.length = n) (hv : ∀ i v, Pv i v → ∃ k, ks[i]? = some k ∧ keyIs k v = true) (hb : n + 1 < scanBound) :
    ∀ (m i : Nat) (s : Shared), n - i = m → i ≤ n → St i s → SetIn P w D (metK (ks.take i)) s.heap → (∀ s', Moved (D :: wr) G s s' → SetIn P w D (metK ks) s'.heap → R (.ok (.ret .none)) s') →
      codeAny (model P w) A (.builtin "set.update.loop" ⟨[.ref D, .ref I], []⟩) R s := by
  have nw : D ∉ wr := fun z => hD (W.sub _ z)
  have up : ∀ b ∈ wr, b ∈ D :: wr := fun b z => .tail _ z
  intro m
  induction m with
  | zero =>
    intro i s e1 e2 st S k
    obtain rfl : i = n := by omega
    refine codeAny_builtin PyProof.Rows.F.entry_set_update_loop ?_
    rw [Around.under_plainId PyProof.Rows.F.plain_set_update_loop _]
    show wpAny _ A.in1 (pyNext (.ref I) >>= _) _ _ s
    refine wpAny_bind (W.done s _ _ st fun s' mv => ?_)
    show wpAny _ A.in1 (ret Value.none) _ _ s'
    refine wpAny_pure (k s' (mv.mono up) ?_)
    rw [← hn, List.take_length] at S
    exact S.keeps fun o e => mv.heap D _ nw e
  | succ m ih =>
    intro i s e1 e2 st S k
    have lt : i < n := by omega
    refine codeAny_builtin PyProof.Rows.F.entry_set_update_loop ?_
    rw [Around.under_plainId PyProof.Rows.F.plain_set_update_loop _]
    show wpAny _ A.in1 (pyNext (.ref I) >>= _) _ _ s
    refine wpAny_bind (W.item i s _ _ lt st fun v s' pv st' mv => ?_)
    obtain ⟨key, ek, is⟩ := hv i v pv
    have S' : SetIn P w D (metK (ks.take i)) s'.heap := S.keeps fun o e => mv.heap D _ nw e
    show wpAny _ A.in1 (holding [v] (setAdd D v) >>= _) _ _ s'
    refine wpAny_bind (wpAny_holding ?_)
    unfold setAdd
    refine wpAny_holding (wpAny_bind ((mixKind P w).pyHash (k := key) is ?_))
    have room : (metK (ks.take i)).length + 1 < scanBound := by have a1 := len_metK (ks.take i); rw [List.length_take] at a1; omega
    refine wpAny_setAddHashed_of (knd := mixKind P w) (s := { s' with toks := s'.toks + 1 }) is (key_scan is) S' room fun h' sb S2 => ?_
    have S3 : SetIn P w D (metK (ks.take (i + 1))) h' := by
      rw [List.take_succ, ek]
      exact (metK_snoc _ _).symm ▸ SetIn.add S2
    refine wpAny_pure ⟨plainId_quiet PyProof.Rows.F.plain_set_update_loop _, ih (i + 1) _ (by omega) lt (W.frame _ s' _ _ st' (Nat.le_succ _) fun b z o e => ?_) S3 fun s2 mv2 S4 => ?_⟩
    · rw [sb.2 b (fun q : b = D => hD (q ▸ z))]; exact e
    · refine k s2 (Moved.trans W.gtrans ((mv.mono up).then_heap (Nat.le_succ _) fun b o z e => ?_) mv2) S4
      rw [sb.2 b (fun q : b = D => z (q ▸ .head _))]; exact e
end
end L2

namespace L2
open PySem PySem.Spec PyProof.Rows
/-- a new set -/
abbrev set0 (led : Bool) : Obj := { cls := .type "set", dict := none, data := .set #[] 0 (.fresh 0 0 led) }
section
variable {P : Program} {w : World} {A : Around} {E : Value → Shared → Prop} {s : Shared}
theorem set0_in {h : Heap} {a : Addr} {led : Bool} (e : h.get? a = some (set0 led)) : SetIn P w a [] h :=
  ⟨_, #[], 0, _, e, ⟨rfl, rfl, rfl⟩, rfl, fun e he => by simp at he, fun k => by simp, by decide, by rfl, rfl⟩
/-- set(x), what its __init__ does left to the caller -/
theorem set_made {x : Value} {Q : Value → Shared → Prop} (I1 : Shared → Prop)
    (hin : ∀ led : Bool, wpAny (model P w) A.in1.in1 (Builtin.Frozenset.updateFrom "set.__init__" s.heap.objs.size x) (fun _ s2 => I1 s2) E { s with heap := s.heap.push (set0 led) })
    (h : ∀ s2, I1 s2 → Q (.ref s.heap.objs.size) s2) : wpAny (model P w) A (call (.type "set") [x]) Q E s := by
  obtain ⟨c, tl, m1⟩ := F.called_set.mro
  have m2 := F.called_set.made
  have m3 := F.called_set.sub
  refine wpAny_call (codeAny_of_tree ?_)
  show wpAny _ _ (callAny (.type "set") _) _ _ _
  refine wpAny_pure ⟨Code.quiet_builtin _ (by decide +kernel), codeAny_builtin F.entry_type_call ?_⟩
  rw [Around.under_plain (weight_type_call_type "set" [x] []) rfl]
  have m4 := F.called_set.notType
  have m5 := F.called_set.canCreate
  have m6 := F.typeCall_set_1 x
  repeat (any_goals (first | assumption | wp_step))
  refine codeAny_mono (code_set_new_1 x (E := E) (Q₁ := fun ob s1 => ∃ led, ob = .ref s.heap.objs.size ∧ s1 = { s with heap := s.heap.push (set0 led) }) fun led => ⟨led, rfl, rfl⟩) fun r s1 hr => ?_
  cases r with
  | error e => exact hr
  | ok fl =>
    cases fl with
    | ret ob =>
      obtain ⟨led, rfl, rfl⟩ := hr
      have g0 : (s.heap.push (set0 led)).get? s.heap.objs.size = some (set0 led) := Heap.get?_push_size _ rfl
      have ty : Shared.TypeIs { s with heap := s.heap.push (set0 led) } (.ref s.heap.objs.size) "set" := ⟨_, g0, rfl⟩
      have m7 := F.called_set.init.lookup
      have m8 := F.called_set.init.bind (.ref s.heap.objs.size)
      repeat (any_goals (first | assumption | wp_step))
      refine codeAny_mono (codeAny_call_builtin (R := wants (fun r s2 => r = .none ∧ I1 s2) E) F.called_set.init.plain F.entry_set_init (check_set_init_1 ty ?_)) fun r2 s2 hr2 => ?_
      · have hin := hin led
        unfold Builtin.«set.__init__» noKeywords
        generalize Builtin.Frozenset.updateFrom = U at hin ⊢
        wp_walk
        exact wpAny_mono hin (fun _ s2 i => wpAny_pure ⟨rfl, i⟩) fun _ _ z => z
      · cases r2 with
        | error e => exact hr2
        | ok fl2 =>
          cases fl2 with
          | ret r =>
            obtain ⟨rfl, i1⟩ := hr2
            repeat (any_goals (first | assumption | wp_step))
            exact h _ i1
          | _ => exact hr2.elim
    | _ => exact hr.elim
end
end L2

namespace L2
open PySem PySem.Spec PyProof.Rows
section
variable {P : Program} {w : World} {A : Around} {E : Value → Shared → Prop} {s : Shared}
/-- what putting a list's items into a new set comes to -/
theorem upd_list {l : Addr} {its : Array Value} {ks : List Key} {led : Bool} (hh : A.handled = none) (hl : s.heap.IsList l its) (hk : Vals (ks.map kV) its.toList) (hb : ks.length + 1 < scanBound) :
    wpAny (model P w) A (Builtin.Frozenset.updateFrom "set.__init__" s.heap.objs.size (.ref l)) (fun _ s2 => ∃ h' tk, s2 = { s with heap := h', toks := tk } ∧ SetIn P w s.heap.objs.size (metK ks) h' ∧ ∀ b o, s.heap.get? b = some o → h'.get? b = some o) E { s with heap := s.heap.push (set0 led) } := by
  have lt : l < s.heap.objs.size := by obtain ⟨_, e, _⟩ := hl; exact Heap.lt_size e
  have hlen : its.size = ks.length := by rw [← Array.length_toList, ← hk.length, List.length_map]
  have h1 : (s.heap.push (set0 led)).IsList l its := hl.push _
  obtain ⟨⟨oc, od, odt, os⟩, e1, c1, nl, d1⟩ := id h1
  simp only at c1 d1
  subst c1; subst d1
  have n1 := F.sub_list_set
  have n2 := F.sub_list_frozenset
  have n3 : (Value.type "list" == Value.type "dict") = false := by decide
  unfold Builtin.Frozenset.updateFrom
  generalize eP : pyIter = PI
  wp_walk
  subst eP
  refine wpAny_pyIter_list h1 ?_
  refine wpAny_bind (wpAny_runValue ?_)
  have z1 : (s.heap.push (set0 led)).objs.size = s.heap.objs.size + 1 := Heap.size_push ..
  have a1 : l ≠ (s.heap.push (set0 led)).objs.size := by rw [z1]; exact Nat.ne_of_lt (Nat.lt_succ_of_lt lt)
  have a2 : s.heap.objs.size ∉ [(s.heap.push (set0 led)).objs.size, l] := by simp only [List.mem_cons, List.not_mem_nil, or_false, not_or]; exact ⟨by rw [z1]; exact Nat.ne_of_lt (Nat.lt_succ_self _), Nat.ne_of_gt lt⟩
  refine set_loopK ((Walks.list (by simp [hh]) _ l a1 its).toS) s.heap.objs.size a2 ks hlen.symm (fun i v e => ?_) (by omega) its.size 0 _ (by omega) (Nat.zero_le _) ⟨⟨_, Heap.get?_push_size _ rfl, rfl, rfl⟩, h1.push _⟩ ?_ ?_
  · have e2 : its.toList[i]? = some v := by rw [Array.getElem?_toList]; exact e
    have hi : i < ks.length := by rw [← hlen, ← Array.length_toList]; exact (List.getElem?_eq_some_iff.mp e2).1
    refine ⟨ks[i], List.getElem?_eq_getElem hi, ?_⟩
    obtain ⟨u, hu, ru⟩ := Vals.get (x := kV ks[i]) hk (by rw [List.getElem?_map, List.getElem?_eq_getElem hi]; rfl)
    rw [e2] at hu
    obtain rfl := Option.some.inj hu
    exact kV_is (P := P) (w := w) ru
  · refine (set0_in (led := led) (Heap.get?_push_of_some _ (Heap.get?_push_size _ rfl)) : SetIn P w _ [] _)
  · intro s' mv S
    obtain ⟨h', g', d', tk', os'⟩ := s'
    obtain rfl : g' = s.gens := mv.gens
    obtain rfl : d' = s.drawn := mv.drawn
    obtain rfl : os' = s.os := mv.os
    refine wpAny_pure ⟨h', tk', rfl, S, fun b o e => ?_⟩
    have lb : b < s.heap.objs.size := Heap.lt_size e
    refine mv.heap b o ?_ (Heap.get?_push_of_some _ (Heap.get?_push_of_some _ e))
    simp only [List.mem_cons, List.not_mem_nil, or_false, not_or]
    exact ⟨Nat.ne_of_lt lb, by rw [z1]; exact Nat.ne_of_lt (Nat.lt_succ_of_lt lb)⟩
end
end L2

namespace L2
open PySem PySem.Spec PyProof.Rows
section
variable {P : Program} {w : World} {A : Around} {E : Value → Shared → Prop} {s : Shared}
end
end L2

namespace L2
open PySem PySem.Spec PyProof.Rows
section
variable {P : Program} {w : World} {A : Around} {E : Value → Shared → Prop} {s : Shared}
/-! ### the calls -/
variable {X : Cx}
theorem call_setL (hh : X.A.handled = none) : CallR X (.type "set") (fun xs H Q => ∃ p ks, xs = [.ref p] ∧ SqL X.K H p (ks.map kV) ∧ ks.length < 4000 ∧ ∀ q, H q = none → Q (.ref q) (upd H q (SetO X.prog X.w q (metK ks)))) := by
  intro pins s σ H xs us Q I r h
  obtain ⟨p, ks, rfl, hp, hl, q⟩ := h
  obtain ⟨u, rfl, rx⟩ := vals1 r
  cases rx
  obtain ⟨its, rv, pl, hz⟩ := I.list hp
  refine set_made _ (fun led => upd_list (by simp [hh]) pl.isList (by simpa using rv) (show ks.length + 1 < 4096 by omega)) ?_
  rintro s2 ⟨h', tk, rfl, S, kp⟩
  exact ⟨.ref s.heap.objs.size, _, I.laid (t' := tk) kp (Nat.le_refl _) S.ok, rfl, q _ (I.hok.fresh (Nat.le_refl _))⟩
end
end L2

namespace L2
open PySem PySem.Spec PyProof.Rows
section
variable {P : Program} {w : World} {A : Around} {E : Value → Shared → Prop} {s : Shared}
end
end L2

namespace L2
open PySem PySem.Spec PyProof.Rows
section
variable {P : Program} {w : World} {A : Around} {E : Value → Shared → Prop} {s : Shared}
theorem SetIn.ty {a : Addr} {L : List Key} (h : SetIn P w a L s.heap) : s.TypeIs (.ref a) "set" := by
  obtain ⟨o, es, ep, t, e, x, _⟩ := h
  exact ⟨o, e, x.1⟩
end
end L2

namespace L2
open PySem PySem.Spec PyProof.Rows
section
variable {P : Program} {w : World} {A : Around} {E : Value → Shared → Prop} {s : Shared}
/-! ### the rule -/
variable {X : Cx}
theorem call_setLK (P : Program) (w : World) (hh : X.A.handled = none) (hP : X.prog = P := by rfl) (hw : X.w = w := by rfl) : CallR X (.type "set") (fun xs H Q => ∃ p ks, xs = [.ref p] ∧ SqL X.K H p (ks.map kV) ∧ ks.length < 4000 ∧ ∀ q, H q = none → Q (.ref q) (upd H q (SetO P w q (metK ks)))) := by subst hP hw; exact call_setL hh
end
end L2

namespace L2
open PySem PySem.Spec PyProof.Rows
theorem w_din {σ : St} {H : Hp} {Q : VK} {ty td : TE} (q : ty σ H fun y H1 => td σ H1 fun x H2 => ∃ a o, x = .ref a ∧ DGet H2 a y o ∧ Q (.bl o.isSome) H2) : tDIn ty td σ H Q := q
/-- a statement on its own, J behind it -/
theorem w_cut {t : TS} {nx : St → Hp → Prop} {rt : VK} {bk ct : St → Hp → Prop} {σ : St} {H : Hp} (J : St → Hp → Prop) (q : ∀ nx' : St → Hp → Prop, (∀ σ2 H2, J σ2 H2 → nx' σ2 H2) → t ⟨nx', rt, bk, ct⟩ σ H) (hj : ∀ σ2 H2, J σ2 H2 → nx σ2 H2) : t ⟨nx, rt, bk, ct⟩ σ H := q nx hj
theorem w_dpop {td ty : TE} {σ : St} {H : Hp} {Q : VK} (q : td σ H fun x H1 => ∃ a, x = .ref a ∧ IsD H1 a ∧ ty σ H1 fun y H2 => ∃ kvs k v, H2 a = some (.dK kvs) ∧ y = kV k ∧ valV kvs k = some v ∧ Q v (upd H2 a (.dK (dropK kvs k)))) : tDPop1 td ty σ H Q := q
theorem w_iItems {td : TE} {σ : St} {H : Hp} {R : It → Hp → Prop} (q : td σ H fun x H1 => ∃ d kvs, x = .ref d ∧ H1 d = some (.dK kvs) ∧ ∀ ob, R (Iti d ob kvs) (upd H1 d (.frz ob (.dK kvs)))) : iItems td σ H R := q
theorem w_iEnum {K : PySem.W.Frag} {ta : TA} {σ : St} {H : Hp} {R : It → Hp → Prop} (q : ta σ H fun vs H1 => ∃ a, vs = [.ref a] ∧ (∃ xs, SqL K H1 a xs) ∧ R (Ite K a) H1) : iEnum K ta σ H R := q
theorem w_thaw {t : TS} {nx : St → Hp → Prop} {rt : VK} {bk ct : St → Hp → Prop} {σ : St} {H : Hp} (q : ∃ d kvs, H d = some (.dK kvs) ∧ t ⟨fun σ' H' => ∃ ob, H' d = some (.frz ob (.dK kvs)) ∧ nx σ' (upd H' d (.dK kvs)), fun _ _ => False, fun _ _ => False, fun _ _ => False⟩ σ H) : sThaw t ⟨nx, rt, bk, ct⟩ σ H := q
end L2
local macro_rules | `(tactic| array_get_dec) => `(tactic| first | with_reducible refine L2.w_din ?_ | with_reducible refine L2.w_dpop ?_ | with_reducible refine L2.w_iItems ?_ | with_reducible refine L2.w_iEnum ?_ | with_reducible refine L2.w_thaw ?_)
namespace L2
open PySem PySem.Spec PyProof.Rows
theorem w_gTup' {K : PySem.W.Frag} {n : Nat} {t : TGs} {p : Addr} {xs : List V} {σ : St} {H : Hp} {Q : St → Hp → Prop} (h : SqT K H p xs) (hn : xs.length = n) (q : t xs σ H Q) : gTup K n t (.ref p) σ H Q := ⟨p, xs, rfl, h, hn, q⟩
theorem ix_tupK {X : Cx} (K : PySem.W.Frag) (hK : X.K = K := by rfl) : IxR X (rIxT K) := by subst hK; exact ix_tup
/-- a comprehension; R: what is known of the items made and of the heap -/
theorem lcH {nN : Nat} {fs : List (Nat × Nat)} {g : TG} {tc : TT} {te : TE} {σ : St} {H : Hp} {QD : Addr → Hp → Prop} {J : It} {n : Nat} {src : Nat → V} (R : Addr → Nat → List V → Hp → Prop) (hJ : Tells J H n src) (hn : n ≤ sizeLine) (h0 : ∀ D, H D = none → R D 0 [] (upd H D (.lst [])))
    (ht : ∀ D i ys H2, i < n → H D = none → Same H H2 → H2 D = some (.lst ys) → R D i ys H2 → g (src i) (tau nN fs σ) H2 fun τ4 H4 => (∀ (j : Nat) v, (tau nN fs σ)[j]? = some (some v) → τ4[j]? = some (some v)) ∧ tc τ4 H4 fun b H5 =>
      if b = true then te τ4 H5 fun v H6 => H6 D = some (.lst ys) ∧ Same H (upd H6 D (.lst (ys ++ [v]))) ∧ R D (i + 1) (ys ++ [v]) (upd H6 D (.lst (ys ++ [v]))) else H5 D = some (.lst ys) ∧ Same H H5 ∧ R D (i + 1) ys H5)
    (hQ : ∀ D H2 ys, H D = none → Same H H2 → H2 D = some (.lst ys) → R D n ys H2 → QD D H2) :
    ∀ D, H D = none → ∃ (n : Nat) (W : Nat → List V → Hp → Prop), n ≤ sizeLine ∧ W 0 [] (upd H D (.lst [])) ∧
      ∀ i ys H2, i ≤ n → W i ys H2 → H2 D = some (.lst ys) → (J.stop i H2 ∧ QD D H2) ∨ (i < n ∧ J.go i H2 ∧ ∀ x H3, J.yld i H2 x H3 → g x (tau nN fs σ) H3 fun τ4 H4 =>
        (∀ (j : Nat) v, (tau nN fs σ)[j]? = some (some v) → τ4[j]? = some (some v)) ∧ tc τ4 H4 fun b H5 =>
          if b = true then te τ4 H5 fun v H6 => H6 D = some (.lst ys) ∧ W (i + 1) (ys ++ [v]) (upd H6 D (.lst (ys ++ [v]))) else H5 D = some (.lst ys) ∧ W (i + 1) ys H5) := by
  intro D hD
  refine ⟨n, fun i ys H2 => Same H H2 ∧ R D i ys H2, hn, ⟨Same.upd hD, h0 D hD⟩, ?_⟩
  rintro i ys H2 hi ⟨s2, r⟩ e
  obtain ⟨h1, h2⟩ := hJ H2 s2
  rcases Nat.lt_or_ge i n with hlt | hge
  · refine .inr ⟨hlt, (h2 i hlt).1, fun x H3 y => ?_⟩
    obtain ⟨rfl, rfl⟩ := (h2 i hlt).2 x H3 y
    exact ht D i ys H3 hlt hD s2 e r
  · have : i = n := by omega
    subst this
    exact .inl ⟨h1, hQ D H2 ys hD s2 e r⟩
section
variable {g : TG} {tb : TS} {nx : St → Hp → Prop} {rt : VK} {σ : St} {H : Hp}
end
/-! ### a list of one pair of numbers -/
def One (H : Hp) (p : Addr) (x y : Int) : Prop := ∃ tp, H p = some (.lst [.ref tp]) ∧ H tp = some (.tup [.int x, .int y])
theorem One.same {H H' : Hp} {p : Addr} {x y : Int} (h : One H p x y) (s : Same H H') : One H' p x y := by
  obtain ⟨tp, a, b⟩ := h
  exact ⟨tp, s _ _ a, s _ _ b⟩
end L2

namespace L2
open PySem PySem.Spec PyProof.Rows
/-- a look at the heap behind the top, with code tables (of methods) besides -/
def withTabs (H : PySem.W.Hook) (ts : List Addr) : PySem.W.Hook where
  α := H.α × List (Option Obj)
  obs := fun s => (H.obs s, ts.map s.heap.get?)
  val := fun w => (H.val w, ts.map fun _ => some (PySem.W.tabObj #[]))
  says := fun w h => H.says w h ∧ ∀ t ∈ ts, h.get? t = some (PySem.W.tabObj #[])
  of := fun w s x => ⟨H.of w s (Prod.mk.inj x).1, List.map_inj_left.mp (Prod.mk.inj x).2⟩
  keeps := fun w h h' x k => ⟨H.keeps w h h' x.1 k, fun t ht => k _ _ (x.2 t ht)⟩
/-- the goal that the head leaves, code tables told by the names of their defs, and by the look -/
theorem walk_M {l : PySem.W.OpenLaw} {n k : Nat} {q : Program} {loose : List Str} {XP : (Str → Option Value) → Heap → Prop} {YP : World → Heap → Prop} {d : DefRec} {K : Params → PySem.W.Frag} {CX : World → CXT} {sp : World → Sp} {x : Str} (ts : World → List Addr) (us : List Addr)
    (hn : l.most = some n) (hn2 : n ≤ sizeLine) (hdf : d.params.defaults = []) (hr : Room k callerA)
    (hY : ∀ (w : World) (h : Heap), YP w h → (K w.params).In h ∧ ∀ t ∈ us, h.get? t = some (PySem.W.tabObj #[])) (hK : ∀ w : World, PySem.W.noTabs (K w.params) = true)
    (hts : ∀ (w : World), ∀ t ∈ ts w, (∃ y c d', (recsOf q).find? (fun e => e.name == y) = some d' ∧ PySem.W.tabIn (K w.params) y = some (c, t)) ∨ (t ∈ us ∧ ∃ c, PySem.W.codeHdIn (K w.params) c t = true))
    (F : ∀ (w : World) (mg : Str → Option Value) (fa : Addr) (h : Heap), (K w.params).In h → h.Ns mainGlobals mg → mg d.name = some (.ref fa) →
      ∃ fd : FuncData, (∀ (s : Shared) (u : Value), BindsTo s fd ⟨[u], []⟩ [(x, u)]) ∧
        ∀ base : Heap, (K w.params).In base → base.Ns mainGlobals mg → BltK base → FnOk l.prog w (K w.params) mg base (CX w) k fa fd [x] (sp w))
    (hsp : ∀ (w : World) (H : Hp) (a : Addr) (ns : List Int), ns.length ≤ n → (∀ t ∈ ts w, H t = some (Tb t)) → SqL (K w.params) H a (ns.map V.int) → sp w [.ref a] H (fun v H' => v = .bl true ∧ ∀ t ∈ ts w, H' t = some (Tb t)) fun _ _ _ => False)
    (hCX : ∀ (w : World) (H : Hp) (s : Shared) (e : Value) (s' : Shared), CX w [] H s (fun _ _ _ => False) e s' → False) :
    PySem.W.WalkO q loose XP YP l.row.toRowW d [] (fun f vs => PySem.call f vs) := by
  refine Att.attach_call hn hdf fun w s₀ s₁ mg mb fa o pm cd doc a vs ns G Y ho hd hcd hmg hobj hints hlen hg => ?_
  obtain ⟨KX, KT⟩ := hY w _ Y
  obtain ⟨fd, hb, hF⟩ := F w mg fa _ KX G.T.g hmg
  exact law_callT (ts w) KX G.T.g G.T.b G.T.builtins G.T.nolimit hg hobj hints (Nat.le_trans hlen hn2) hr (hK w) (fun t ht => by
    rcases hts w t ht with ⟨y, c, d', e1, e2⟩ | ⟨tu, c, e2⟩
    · obtain ⟨z1, z2⟩ := PySem.W.tab_of G.T KX e1 e2
      exact ⟨⟨c, z1⟩, z2⟩
    · exact ⟨⟨c, PySem.W.codeHd_of_K KX e2⟩, KT t tu⟩) G.T.bmain hF hb (fun H h1 h2 => hsp w H a ns hlen h1 h2) fun H e s' => hCX w H s₁ e s'
end L2

namespace L2
open PySem PySem.Spec PyProof.Rows
theorem mul_mem (z : Str) (n : Int) : ∀ c ∈ (Txt.mul z n).cps.toList, c ∈ z.cps.toList := by
  unfold Txt.mul
  split
  · intro c hc; exact absurd hc (by decide +revert)
  split
  · exact fun _ h => h
  have : ∀ (k : Nat) (acc : Array Nat), (∀ c ∈ acc.toList, c ∈ z.cps.toList) → ∀ c ∈ ((List.replicate k z.cps).foldl (· ++ ·) acc).toList, c ∈ z.cps.toList := by
    intro k
    induction k with
    | zero => exact fun _ h => h
    | succ k ih =>
      intro acc h
      rw [List.replicate_succ, List.foldl_cons]
      refine ih _ fun c hc => ?_
      rw [Array.toList_append] at hc
      rcases List.mem_append.mp hc with y | y
      · exact h c y
      · exact y
  exact this _ _ (by simp)
section
variable {X : Cx}
/-- a text times an int, its letters told -/
theorem op_mul_strC : OpR X (binaryOp .Mult) (fun x y H Q => ∃ z n, x = .str z ∧ y = .int n ∧ 0 ≤ n ∧ n ≤ 65536 ∧ z.length ≤ 256 ∧ ∀ r : Str, (r.length : Int) = z.length * n → (∀ c ∈ r.cps.toList, c ∈ z.cps.toList) → Q (.str r) H) := by
  intro pins s σ H x y v u Q I rx ry h
  obtain ⟨z, n, rfl, rfl, h1, h2, h3, q⟩ := h
  obtain ⟨t, rfl⟩ := rx
  obtain ⟨t', rfl⟩ := ry
  refine PySem.SB.mul (PyProof.Rows.mulOk_of 256 65536 h3 (by omega) (by omega) (by decide) (by decide)) fun t2 k => ⟨.str _, H, I.tok _, ⟨_, rfl⟩, q _ ?_ ?_⟩
  · rw [PyProof.Rows.len_mul]
    simp only [decide_eq_true_eq]
    rw [if_neg (by omega)]
  · exact mul_mem z n
end
/-! ### slices, by the letters -/
theorem sl_len (x : Str) : x.length = x.cps.toList.length := by simp [Str.length]
theorem sl_ix_to (b : Int) (n : Nat) : Builtin.Str.strSliceIndices none (some b) 1 n = Builtin.Str.strSliceIndices (some ((0 : Nat) : Int)) (some b) 1 n := by
  have : max (0 : Int) (min 0 (n : Int)) = 0 := by omega
  simp [Builtin.Str.strSliceIndices, this]
theorem sl_ix_from (a : Int) (n : Nat) : Builtin.Str.strSliceIndices (some a) none 1 n = Builtin.Str.strSliceIndices (some a) (some (n : Int)) 1 n := by
  have : ¬ ((n : Int) < 0) := by omega
  simp [Builtin.Str.strSliceIndices, this]
theorem sl_to0 (x : Str) {b : Nat} (hb : b ≤ x.length) : (Txt.slice x none (some (b : Int))).cps.toList = x.cps.toList.take b := by
  unfold Txt.slice
  have e := StrLaws.sliced_plain x (Nat.zero_le b) hb
  rw [← sl_ix_to] at e
  have el : (Builtin.Str.strSliceIndices none (some (b : Int)) 1 x.length).length = b := by
    rw [sl_ix_to, StrLaws.strSliceIndices_plain (Nat.zero_le b) hb]; simp
  split
  · rename_i z
    rw [el] at z
    have : b = x.length := by simpa using z
    rw [this, List.take_of_length_le (by simp [Str.length])]
  · rw [e]; simp
theorem sl_from0 (x : Str) {a : Nat} (ha : a ≤ x.length) : (Txt.slice x (some (a : Int)) none).cps.toList = x.cps.toList.drop a := by
  unfold Txt.slice
  have e := StrLaws.sliced_plain x ha (Nat.le_refl _)
  rw [← sl_ix_from] at e
  have el : (Builtin.Str.strSliceIndices (some (a : Int)) none 1 x.length).length = x.length - a := by
    rw [sl_ix_from, StrLaws.strSliceIndices_plain ha (Nat.le_refl _)]; simp
  split
  · rename_i z
    rw [el] at z
    have : x.length - a = x.length := by simpa using z
    rcases Nat.eq_zero_or_pos a with h | h
    · subst h; rw [List.drop_zero]
    · have hz : x.length = 0 := by omega
      have : x.cps.toList = [] := List.length_eq_zero_iff.mp (by simpa [Str.length] using hz)
      rw [this]; simp
  · rw [e]
    show (List.take (x.length - a) (List.drop a x.cps.toList)).toArray.toList = _
    rw [List.toList_toArray, List.take_of_length_le (by simp [Str.length])]
/-- a bound of a slice, as a place -/
def cl (n : Nat) (i : Int) : Nat := if i < 0 then (i + n).toNat else min i.toNat n
theorem sl_cl_to (x : Str) (i : Int) : Txt.slice x none (some i) = Txt.slice x none (some ((cl x.length i : Nat) : Int)) := by
  unfold Txt.slice cl
  have : Builtin.Str.strSliceIndices none (some i) 1 x.length = Builtin.Str.strSliceIndices none (some (((if i < 0 then (i + x.length).toNat else min i.toNat x.length : Nat)) : Int)) 1 x.length := by
    simp only [Builtin.Str.strSliceIndices, show ((1 : Int) > 0) = True from eq_true (by decide), if_true]
    congr 1
    rw [if_neg (show ¬ (((if i < 0 then (i + x.length).toNat else min i.toNat x.length : Nat) : Int) < 0) by omega)]
    split <;> omega
  rw [this]
theorem sl_cl_from (x : Str) (i : Int) : Txt.slice x (some i) none = Txt.slice x (some ((cl x.length i : Nat) : Int)) none := by
  unfold Txt.slice cl
  have : Builtin.Str.strSliceIndices (some i) none 1 x.length = Builtin.Str.strSliceIndices (some (((if i < 0 then (i + x.length).toNat else min i.toNat x.length : Nat)) : Int)) none 1 x.length := by
    simp only [Builtin.Str.strSliceIndices, show ((1 : Int) > 0) = True from eq_true (by decide), if_true]
    congr 1
    rw [if_neg (show ¬ (((if i < 0 then (i + x.length).toNat else min i.toNat x.length : Nat) : Int) < 0) by omega)]
    split <;> omega
  rw [this]
theorem cl_le (n : Nat) (i : Int) : cl n i ≤ n := by unfold cl; split <;> omega
/-- x[:i] and x[i:] -/
theorem sl_to (x : Str) (i : Int) : (Txt.slice x none (some i)).cps.toList = x.cps.toList.take (cl x.length i) := by rw [sl_cl_to, sl_to0 x (cl_le _ _)]
theorem sl_from (x : Str) (i : Int) : (Txt.slice x (some i) none).cps.toList = x.cps.toList.drop (cl x.length i) := by rw [sl_cl_from, sl_from0 x (cl_le _ _)]
end L2

namespace L2
open PySem PySem.Spec PyProof.Rows
theorem w_ifExp {tt : TT} {ta tb : TE} {σ : St} {H : Hp} {Q : VK} (q : tt σ H fun c H1 => if c = true then ta σ H1 Q else tb σ H1 Q) : tIf tt ta tb σ H Q := q
end L2
local macro_rules | `(tactic| array_get_dec) => `(tactic| with_reducible refine L2.w_ifExp ?_)
namespace L2
open PySem PySem.Spec PyProof.Rows
section
variable {g : TG} {tb : TS} {nx : St → Hp → Prop} {rt : VK} {σ : St} {H : Hp}
end
theorem st_cps (x y : Str) : (x ++ y).cps.toList = x.cps.toList ++ y.cps.toList := by show (x.cps ++ y.cps).toList = _; simp
theorem st_len (x y : Str) : (x ++ y).length = x.length + y.length := by show (x.cps ++ y.cps).size = _; simp [Str.length]
theorem w_gSub {to ti : TE} {t : TSet} {v : V} {σ : St} {H : Hp} {Q : St → Hp → Prop} (q : to σ H fun o H1 => ti σ H1 fun i H2 => t o i v H2 fun H3 => Q σ H3) : gSub to ti t v σ H Q := q
end L2
local macro_rules | `(tactic| array_get_dec) => `(tactic| with_reducible refine L2.w_gSub ?_)
namespace L2
open PySem PySem.Spec PyProof.Rows
/-! ### the state of the draws: a list of two numbers at `at` -/
def KB (at' : Addr) (H H' : Hp) : Prop := ∀ c o, c ≠ at' → H c = some o → H' c = some o
theorem KB.refl (at' : Addr) (H : Hp) : KB at' H H := fun _ _ _ e => e
theorem KB.trans {at' : Addr} {H H1 H2 : Hp} (a : KB at' H H1) (b : KB at' H1 H2) : KB at' H H2 := fun c o n e => b c o n (a c o n e)
theorem KB.of {at' : Addr} {H H' : Hp} (s : Same H H') : KB at' H H' := fun c o _ e => s c o e
theorem KB.at {at' : Addr} {H : Hp} {o : HO} : KB at' H (upd H at' o) := fun c u n e => by rw [upd_ne n]; exact e
theorem KB.put {at' : Addr} {H : Hp} {q : Addr} {o : HO} (h : H q = none) : KB at' H (upd H q o) := .of (Same.upd h)
structure AtOk (H : Hp) (at' : Addr) (c : Nat) : Prop where
  ob : ∃ i n : Int, H at' = some (.lst [.int i, .int n]) ∧ 0 ≤ i ∧ i ≤ c ∧ 0 ≤ n ∧ n < 2 ^ 31
theorem AtOk.same {H H' : Hp} {at' : Addr} {c : Nat} (h : AtOk H at' c) (s : Same H H') : AtOk H' at' c := let ⟨i, n, a, b⟩ := h.ob; ⟨i, n, s _ _ a, b⟩
theorem AtOk.mono {H : Hp} {at' : Addr} {c d : Nat} (h : AtOk H at' c) (l : c ≤ d) : AtOk H at' d := let ⟨i, n, a, b, e, f⟩ := h.ob; ⟨i, n, a, b, by omega, f⟩
/-- the script, not the state -/
def Scr (K : PySem.W.Frag) (at' : Addr) (H : Hp) (p : Addr) (ns : List Int) : Prop := SqL K H p (ns.map .int) ∧ (p = at' → ∀ H', SqL K H' p (ns.map .int))
theorem Scr.kb {K : PySem.W.Frag} {at' : Addr} {H H' : Hp} {p : Addr} {ns : List Int} (h : Scr K at' H p ns) (k : KB at' H H') : Scr K at' H' p ns := by
  refine ⟨?_, h.2⟩
  by_cases e : p = at'
  · exact h.2 e H'
  · rcases h.1 with (r | ⟨o, r⟩) | r
    · exact .inl (.inl (k _ _ e r))
    · exact .inl (.inr ⟨o, k _ _ e r⟩)
    · exact .inr r
theorem Scr.of {K : PySem.W.Frag} {at' : Addr} {H H' : Hp} {p : Addr} {ns : List Int} (h : SqL K H p (ns.map .int)) (n : H at' = none) (s : Same H H') : Scr K at' H' p ns := by
  refine ⟨s.seq h, fun e H2 => ?_⟩
  subst e
  rcases h with (r | ⟨o, r⟩) | r
  · rw [n] at r; cases r
  · rw [n] at r; cases r
  · exact .inr r
/-! ### a method whose last parameters have defaults -/
structure DfD (K : PySem.W.Frag) (x qual : Str) (st : Stmt) (ps : List Str) where
  f : Addr
  fd : FuncData
  cdv : Value
  ex : ∃ (oc : Value) (od : Option Addr) (dV kV doc pm : Value) (an : Option Addr) (ct : Value) (osl : Array (Option Value)),
    fd = PySem.W.fnOf x qual (defArgs st) (defBody st) (defScope st) dV kV doc pm an cdv ct ∧ K.lookup f = some ⟨oc, od, .func fd, osl⟩ ∧ PySem.W.codeIn K cdv qual = true
  kp : PySem.W.keepIn K (.ref f) = true
theorem DfD.ok {P : Program} {w : World} {K : PySem.W.Frag} {mg : Str → Option Value} {base : Heap} {x qual : Str} {st : Stmt} {N ps : List Str} {k : Nat} {sp : Sp} (D : DfD K x qual st ps) (S : FnScope N ps (defScope st)) (len : ∀ vs H Q E, sp vs H Q E → vs.length = ps.length)
    (hbody : ∀ (A : Around) (outer : List Env) (s : Shared) (H : Hp) (vs : List V) (Q : VK) (E : XK), Room k (A.deeper (envOfC qual (defScope st) s.heap.objs.size D.f D.cdv)) → sp vs H Q E →
      ∃ t, PSs (cxOf CX0 P w K mg base N qual (defScope st) D.f D.cdv A outer s H E).nox (defBody st) t ∧ t ⟨fun _ H' => Q .non H', Q, fun _ _ => False, fun _ _ => False⟩ (start N vs) H) : FnOk P w K mg base CX0 (k + 1) D.f D.fd ps sp := by
  obtain ⟨f, fd, cdv, ⟨oc, od, dV, kV, doc, pm, an, ct, osl, rfl, lk, hcd⟩, kp⟩ := D
  refine fn_of lk hcd S len fun A outer s H vs Q E hr hsp => ?_
  obtain ⟨t, h, q⟩ := hbody A outer s H vs Q E hr hsp
  exact ⟨t, h.nox, q⟩
end L2

namespace L2
open PySem PySem.Spec PyProof.Rows
theorem compTurn_set (elt target iter : Expr) (ifs : List Expr) (scope : Scope) (pos : Pos) (it acc : Value) (env : Env) :
    compTurn (.SetComp elt [⟨target, iter, ifs, 0⟩] scope pos) 0 it acc env = (do
      standAt iter.pos
      match ← pyNext it with
      | none => pure (.done .next)
      | some v =>
        letOwnedTupleGo target it v
        assign target env v
        let mut ok := true
        for c in ifs do
          if ok then ok ← isTrue c env (eval c env)
        if ok then
          (do let v ← eval elt env; standAt elt.pos; let _ ← call (.builtin "set.add") [acc, v])
        again (.compLoop (.SetComp elt [⟨target, iter, ifs, 0⟩] scope pos) 0 it acc env)) := by rfl
theorem eval_SetComp {env : Env} (elt : Expr) (gens : List Comprehension) (scope : Scope) (pos : Pos) : eval (.SetComp elt gens scope pos) env =
    comprehension (.SetComp elt gens scope pos) scope env (firstIterPos gens pos) (newSet (.type "set")) (firstAsync gens) (firstIter gens env) := rfl
section
variable {prog : Program} {w : World} {A : Around} {R : Result → Shared → Prop} {s : Shared}
theorem codeAny_compStart_set {elt target iter : Expr} {ifs : List Expr} {rest : List Comprehension} {scope : Scope} {pos : Pos} {it acc : Value} {env : Env}
    (h0 : codeAny (model prog w) A (.compLoop (.SetComp elt (⟨target, iter, ifs, 0⟩ :: rest) scope pos) 0 it acc env) R s)
    (h : wpAny (model prog w) A (pyIter it) (fun it' s' => codeAny (model prog w) A (.compLoop (.SetComp elt (⟨target, iter, ifs, 0⟩ :: rest) scope pos) 0 it' acc env) R s')
      (notedBy (model prog w) A env fun x s' => R (.error x) s') s) :
    codeAny (model prog w) A (.compStart (.SetComp elt (⟨target, iter, ifs, 0⟩ :: rest) scope pos) 0 it acc env) R s := by
  refine codeAny_of_tree ?_
  show wpAny _ A ((compStart (.SetComp elt (⟨target, iter, ifs, 0⟩ :: rest) scope pos) 0 it acc env).onRaise (fun x => do noteFrame x env; standAt theWindowsPlace)) _ _ s
  refine wpAny_notedAt ?_
  unfold compStart
  show wpAny _ A (ask >>= _) _ _ s
  refine wpAny_bind (wpAny_askSetting (wpAny_ite ?_))
  split
  · first
      | exact wpAny_bind (wpAny_pure (wpAny_pure (And.intro rfl h0)))
      | exact wpAny_pure (And.intro rfl h0)
  · first
      | exact wpAny_bind (wpAny_rule (wpAny_bind (wpAny_standAt (wpAny_bind (wpAny_mono h (fun it' s' h' => wpAny_pure (And.intro rfl h')) fun _ _ x => x)))))
      | (refine wpAny_bind (wpAny_rule ?_); show wpAny _ _ (standAt iter.pos >>= _) _ _ s; exact wpAny_bind (wpAny_standAt (wpAny_bind (wpAny_mono h (fun it' s' h' => wpAny_pure (And.intro rfl h')) fun _ _ x => x))))
end
theorem is_key {k : Key} {v : Value} (r : RelV (kV k) v) : keyIs k v = true := by
  cases k with
  | inl i => obtain ⟨t, rfl⟩ := r; simp [keyIs, Value.isInt]
  | inr x => obtain ⟨t, rfl⟩ := r; simp [keyIs, Value.isStrOf]
/-- D: where the new set stands; W: what holds when i items were walked and the keys L were met -/
def tSC (P : Program) (w : World) (nN : Nat) (fs : List (Nat × Nat)) (wi : TI) (g : TG) (tc : TT) (te : TE) : TE := fun σ H Q => wi σ H fun J H1 => ∀ D, H1 D = none → ∃ (n : Nat) (W : Nat → List Key → Hp → Prop), n + 1 < scanBound ∧ W 0 [] (upd H1 D (SetO P w D [])) ∧
  ∀ i ys H2, i ≤ n → W i ys H2 → H2 D = some (SetO P w D ys) → (J.stop i H2 ∧ Q (.ref D) H2) ∨ (i < n ∧ J.go i H2 ∧ ∀ x H3, J.yld i H2 x H3 → g x (tau nN fs σ) H3 fun τ4 H4 =>
    (∀ (j : Nat) v, (tau nN fs σ)[j]? = some (some v) → τ4[j]? = some (some v)) ∧ tc τ4 H4 fun b H5 =>
      if b = true then te τ4 H5 fun v H6 => ∃ k : Key, v = kV k ∧ H6 D = some (SetO P w D ys) ∧ W (i + 1) (met1 ys k) (upd H6 D (SetO P w D (met1 ys k))) else H5 D = some (SetO P w D ys) ∧ W (i + 1) ys H5)
section
variable {X : Cx} {scope : Scope} {N : List Str} {fs : List (Nat × Nat)} {tg elt iter : Expr} {ifs : List Expr} {pos cpos : Pos} {wi : TI} {g : TG} {tc : TT} {te : TE}
theorem comp_coreS {use : Option (Value → Sem Unit)} {R' : Value → Shared → Prop} (S : CompSc X scope N fs) (hcalm : X.calm = true)
    (hi : PI X tg iter wi) (hg : ∀ cl C s₀ H fp, PG (cxComp X scope cl C N s₀ H fp) tg g) (hc : ∀ cl C s₀ H fp, PTs (cxComp X scope cl C N s₀ H fp) ifs tc) (he : ∀ cl C s₀ H fp, PE (cxComp X scope cl C N s₀ H fp) elt te)
    (hs : ∀ x, foldedSetIterable iter X.env x = pure x) {pins : List (Addr × Obj)} {s : Shared} {σ : St} {H : Hp} {Q : VK} (I : Inv X pins σ H s) (h : tSC X.prog X.w N.length fs wi g tc te σ H Q)
    (hfin : ∀ (D C : Addr) (H2 : Hp) (s' : Shared), Inv X pins σ H2 s' → Q (.ref D) H2 → (∃ m, s'.heap.Ns C m) → FpOk X pins H2 C → compPost (model X.prog X.w) X.A X.xe use R' (.ref D) C (.ok .next) s') :
    wpAny (model X.prog X.w) X.A (comprehension (.SetComp elt [⟨tg, iter, ifs, 0⟩] scope pos) scope X.env cpos (newSet (.type "set")) false (eval iter X.env) use) R' X.xe s := by
  have hfree : ∀ y ∈ scope.names, y.2 = .free → ∃ c, X.env.cells.lookup y.1 = some c := fun y hy hf => by
    have q := List.all_eq_true.mp S.free y hy
    rw [hf] at q
    refine I.ok.has y.1 ?_
    simpa using q
  have hcell : ∀ y ∈ scope.names, y.2 ≠ .cell := fun y hy => by simpa using List.all_eq_true.mp S.cell y hy
  have hnames : ∀ y ∈ scope.names, y.2 = .local → scope.names.lookup y.1 = some .local := fun y hy hl => by
    have q := List.all_eq_true.mp S.own y hy
    rw [hl] at q
    simpa using q
  have hclo := closure_eq hfree
  generalize hcl : clOf scope.names X.env.cells [] = cl at hclo
  have back : ∀ {y c}, cl.lookup y = some c → X.env.cells.lookup y = some c := fun {y c} e => clOf_back (names := scope.names) (acc := []) (fun z => by cases z) (by rw [hcl]; exact e)
  have hasc : ∀ {y}, scope.names.lookup y = some .free → ∃ c, cl.lookup y = some c := fun {y} e => by
    have := clOf_has (cells := X.env.cells) (acc := []) hfree (PySem.mem_of_lookup e)
    rw [hcl] at this
    exact Option.isSome_iff_exists.mp this
  refine wpAny_comprehension_free (use := use) rfl hs hclo S.kind hnames (thn (hi pins s σ H _ I h) fun v s1 h1 => thn h1 fun itv s2 h2 => ?_)
  obtain ⟨it, fp, tn, J, H1, e, I2, T, st2, f2, hq⟩ := h2
  subst e
  have hD : H1 s2.heap.objs.size = none := I2.fresh
  obtain ⟨n, W, hn, w0, turn⟩ := hq _ hD
  refine wpAny_newSet_of (knd := mixKind X.prog X.w) fun led S0 => ?_
  have I3 : Inv X pins σ (upd H1 s2.heap.objs.size (SetO X.prog X.w s2.heap.objs.size [])) { s2 with heap := s2.heap.push (set0 led), toks := s2.toks } := I2.laid (fun b u e => Heap.get?_push_of_some _ e) (Nat.le_refl _) (set0_in (Heap.get?_push_size _ rfl)).ok
  have st3 : tn 0 (s2.heap.push (set0 led)) := T.keep _ _ _ st2 fun b hb o e => Heap.get?_push_of_some _ e
  have fpD : ∀ b ∈ fp, b ≠ s2.heap.objs.size := fun b hb => let ⟨_, e, _⟩ := T.obj _ _ st2 b hb; Nat.ne_of_lt (Heap.lt_size e)
  generalize hH3 : upd H1 s2.heap.objs.size (SetO X.prog X.w s2.heap.objs.size []) = H3 at I3 w0
  have fr3 : ∀ b ∈ fp, H3 b = none := fun b hb => by rw [← hH3, upd_ne (fpD b hb)]; exact (f2 b hb).1
  have hD3 : H3 s2.heap.objs.size = some (SetO X.prog X.w s2.heap.objs.size []) := by rw [← hH3]; exact upd_same
  clear hH3
  generalize hhp : s2.heap.push (set0 led) = h3 at I3 st3 ⊢
  have hc3 : ∀ (E : Value → Shared → Prop) (Q' : Env → Shared → Prop), (∀ h4, h4.Ns h3.objs.size (fun _ => none) → (∀ b o, h3.get? b = some o → h4.get? b = some o) → h3.objs.size < h4.objs.size → Q' (newEnv scope h3.objs.size X.env.globals cl X.env.qual none .none (some X.env) X.env.builtins) { s2 with heap := h4, toks := s2.toks }) →
      wpAny (model X.prog X.w) X.A (newFunctionEnv scope X.env.globals cl [] X.env.qual none .none (some X.env)) Q' E { s2 with heap := h3 } := fun E Q' k => by
    refine wpAny_newFunctionEnv hcell (by intro y hy; cases hy) (fun h4 a b => ?_) S.kind
    exact k h4 a (fun b' o e => b.extBut b' o (Nat.ne_of_lt (Heap.lt_size e)) (Heap.get?_push_of_some _ e)) (by rw [b.1, Heap.size_push]; exact Nat.lt_succ_self _)
  refine hc3 _ _ fun h4 hns k4 s34 => ?_
  have fpl : ∀ b ∈ fp, b < h3.objs.size := fun b hb => let ⟨_, e, _⟩ := T.obj _ _ st3 b hb; Heap.lt_size e
  have fps : ∀ b ∈ fp, b ∉ frs X.stack := fun b hb z => by
    rcases List.mem_cons.mp (I2.stkSub b z) with q | q
    · exact (f2 b hb).2.1 q
    · exact (f2 b hb).2.2.1 q
  have fst : ∀ {H' : Hp}, (∀ b ∈ fp, H' b = none) → ∀ b ∈ fp, FpOk (cxComp X scope cl h3.objs.size N { s2 with heap := h3, toks := s2.toks } H3 fp) [] H' b := fun hn b hb =>
    ⟨hn b hb, Nat.ne_of_lt (fpl b hb), fps b hb, .inl hb, fun x c e => (f2 b hb).2.2.2.2.1 x c (back e), fun q hq => by cases hq⟩
  have hYok : (cxComp X scope cl h3.objs.size N { s2 with heap := h3, toks := s2.toks } H3 fp).Ok := by
    refine ⟨I3.ok.mod, S.kind, I.ok.glob, I.ok.blt, Nat.le_refl _, fun x y c e1 e2 => I3.ok.inj x y c (back e1) (back e2), fun x hx => ?_, fun x c z => (by cases z), fun _ => I.ok.hd hcalm, I.ok.frames, .inl rfl,
      fun b hb => ⟨Nat.ne_of_lt (fpl b hb), fun x c e => (f2 b hb).2.2.2.2.1 x c (back e)⟩, I3.bs, Nat.le_trans I3.ok.bsz I3.sz, fun b o e hb => ?_, fps, I3.stack, I3.stkFree⟩
    · have hx : (relabel scope X.env).names.lookup x = some .cell ∨ (relabel scope X.env).names.lookup x = some .free := hx
      have hx2 : scope.names.lookup x = some .cell ∨ scope.names.lookup x = some .free := by
        rcases hx with z | z
        · exact relabel_back z
        · exact (relabel_back z).elim .inr .inr
      rcases hx2 with z | z
      · exact absurd rfl (hcell _ (PySem.mem_of_lookup z))
      · exact hasc z
    · rcases (f2 b hb).2.2.2.1 with z | z
      · exact I3.ok.noex b o e z
      · exact absurd (Nat.lt_of_lt_of_le (Heap.lt_size e) (Nat.le_trans I3.ok.bsz z)) (Nat.lt_irrefl _)
  have IY : Inv (cxComp X scope cl h3.objs.size N { s2 with heap := h3, toks := s2.toks } H3 fp) [] (tau N.length fs σ) H3 { s2 with heap := h4, toks := s2.toks } := by
    refine ⟨hYok, rfl, I3.bare, Un.kept k4, ⟨_, hns, fun i x v e1 e2 e3 => ?_⟩, fun x c e => ?_, I3.hok.fresh (Nat.le_refl _), fun x c e => I3.freeC x c (back e), fun q hq => (by cases hq), I3.hok.kept k4, tau_len _ _ _⟩
    · obtain ⟨j, hj, hv⟩ := tau_get e2
      obtain ⟨x', q1, q2, q3, q4⟩ := S.fs.mem hj
      have e1 : N[i]? = some x := e1
      rw [e1] at q1
      cases q1
      obtain ⟨m, _, hl⟩ := I3.loc
      obtain ⟨u, ru, lk⟩ := hl j x v q2 hv (by rcases q4 with z | z; exact .inr (.inl z); exact .inr (.inr z))
      refine ⟨u, ru, .inr ⟨relabel_free q3, ?_⟩⟩
      rcases lk with ⟨z, _⟩ | ⟨_, c, e, hcc⟩
      · rcases q4 with y | y <;> (rw [y] at z; cases z)
      · obtain ⟨c', e'⟩ := hasc q3
        have z := back e'
        rw [e] at z
        cases z
        obtain ⟨o, ho, hd⟩ := hcc
        exact ⟨c, e', o, k4 _ _ ho, hd⟩
    · obtain ⟨v, o, ho, hd⟩ := I3.cell x c (back e)
      exact ⟨v, o, k4 _ _ ho, hd⟩
  have hg := hg cl h3.objs.size { s2 with heap := h3, toks := s2.toks } H3 fp
  have hc := hc cl h3.objs.size { s2 with heap := h3, toks := s2.toks } H3 fp
  have he := he cl h3.objs.size { s2 with heap := h3, toks := s2.toks } H3 fp
  generalize hYd : cxComp X scope cl h3.objs.size N { s2 with heap := h3, toks := s2.toks } H3 fp = Y at hg hc he IY fst
  have eP : Y.prog = X.prog := by rw [← hYd]; rfl
  have ew : Y.w = X.w := by rw [← hYd]; rfl
  have eK : Y.K = X.K := by rw [← hYd]; rfl
  have ec : Y.calm = true := by rw [← hYd]; rfl
  have eA : Y.A = X.A := by rw [← hYd]; rfl
  have ex : Y.xe = fun _ _ => False := by rw [← hYd]; rfl
  have ee : Y.env = compEnvC scope cl h3.objs.size X.env := by rw [← hYd]; rfl
  have outX : ∀ {H' : Hp} {τ' : St} {s' : Shared}, Inv Y [] τ' H' s' → Inv X pins σ H' s' := fun {H' τ' s'} J => by
    have J' := J
    rw [← hYd] at J'
    refine I3.call' J'.os J'.base J'.hok J'.bare fun b hb => ?_
    obtain ⟨_, z1, z2, z3, z4, z5⟩ := f2 b hb
    exact ⟨z3, z1, z4, z5⟩
  have loop : codeAny (model X.prog X.w) X.A (.compLoop (.SetComp elt [⟨tg, iter, ifs, 0⟩] scope pos) 0 (.ref it) (.ref s2.heap.objs.size) (compEnvC scope cl h3.objs.size X.env))
      (compPost (model X.prog X.w) X.A X.xe use R' (.ref s2.heap.objs.size) h3.objs.size) { s2 with heap := h4, toks := s2.toks } := by
    refine codeAny_loop rfl (fun m s' => ∃ i ys H2, m = n - i ∧ i ≤ n ∧ ys.length ≤ i ∧ W i ys H2 ∧ H2 s2.heap.objs.size = some (SetO X.prog X.w s2.heap.objs.size ys) ∧ (∀ b ∈ fp, H2 b = none) ∧ Inv Y [] (tau N.length fs σ) H2 s' ∧ tn i s'.heap) ?_ n
      ⟨0, [], H3, rfl, Nat.zero_le _, Nat.le_refl _, w0, hD3, fr3, IY, T.keep _ _ _ st3 fun b _ o e => k4 b o e⟩
    rintro m s5 ⟨i, ys, H2, rfl, hi, hy, w5, hD5, fr5, I5, st5⟩
    show wpAny _ X.A ((compTurn (.SetComp elt [⟨tg, iter, ifs, 0⟩] scope pos) 0 (.ref it) (.ref s2.heap.objs.size) (compEnvC scope cl h3.objs.size X.env)).onRaise (fun x => do noteFrame x (compEnvC scope cl h3.objs.size X.env); theTreesLotGoes x)) _ _ s5
    rw [compTurn_set]; refine wpAny_noted (wpAny_bind (wpAny_standAt (wpAny_bind ?_)))
    rcases turn i ys H2 hi w5 hD5 with ⟨stop, q⟩ | ⟨hlt, go, step⟩
    · have h6 := T.done Y eP ew eK ec i [] s5 _ H2 (fun _ _ => False) I5 (fst fr5) st5 stop
      rw [eA] at h6
      refine wpAny_mono h6 (fun r s6 z => ?_) fun _ _ f => f.elim
      obtain ⟨hr, I6⟩ := z
      subst hr
      refine wpAny_pure (hfin _ _ H2 s6 (outX I6) q ?_ ?_)
      · obtain ⟨m, hm, _⟩ := I6.loc
        rw [ee] at hm
        exact ⟨m, hm⟩
      · have z := I6.free
        rw [ee] at z
        exact I3.fpOk (Nat.le_refl _) z
    · have h6 := T.item Y eP ew eK ec i [] s5 _ H2 (fun _ _ => False) I5 (fst fr5) st5 go
      rw [eA] at h6
      refine wpAny_mono h6 (fun r s6 z => ?_) fun _ _ f => f.elim
      obtain ⟨v, hr, h7⟩ := z
      subst hr
      refine wpAny_bind (wpAny_mono h7 (fun _ s7 z => ?_) fun _ _ f => f.elim)
      obtain ⟨x, H7, I7, rx, y7, st7, fr7⟩ := z
      have I7' := I7.pinned (fst fr7) (T.obj _ _ st7)
      have h8 := hg _ s7 _ H7 x v _ I7' rx (step x H7 y7)
      rw [eP, ew, eA, ee, ex] at h8
      refine wpAny_bind (wpAny_mono h8 (fun _ s8 z => ?_) fun _ _ f => f.elim)
      obtain ⟨τ8, H8, I8, w8, q8⟩ := z
      have h9 := hc _ s8 τ8 H8 _ I8 q8
      rw [eP, ew, eA, ee, ex] at h9
      refine wpAny_bind (wpAny_mono h9 (fun ok s9 z => ?_) fun _ _ f => f.elim)
      obtain ⟨H9, I9, q9⟩ := z
      have stay : ∀ {H' : Hp} {s' : Shared}, Inv Y ([] ++ pinsAt fp s7.heap) τ8 H' s' → tn (i + 1) s'.heap ∧ (∀ b ∈ fp, H' b = none) ∧ Inv Y [] (tau N.length fs σ) H' s' := fun {H' s'} J => by
        refine ⟨T.keep _ _ _ st7 fun b hb o e => (J.pin (b, o) (List.mem_append_right _ (List.mem_append_right _ (mem_pinsAt hb e)))).1, fun b hb => ?_, J.unpinned.weak (I5.len.trans J.len.symm) w8⟩
        obtain ⟨o, e, _⟩ := T.obj _ _ st7 b hb
        exact (J.pin (b, o) (List.mem_append_right _ (List.mem_append_right _ (mem_pinsAt hb e)))).2.1
      cases ok with
      | false =>
        obtain ⟨hD9, w9⟩ := (if_neg Bool.false_ne_true ▸ q9 : _)
        obtain ⟨z1, z2, z3⟩ := stay I9
        exact wpAny_pure ⟨rfl, n - (i + 1), by omega, i + 1, ys, H9, rfl, hlt, by omega, w9, hD9, z2, z3, z1⟩
      | true =>
        have q9 := (if_pos rfl ▸ q9 : _)
        have h10 := he _ s9 τ8 H9 _ I9 q9
        rw [eP, ew, eA, ee, ex] at h10
        refine wpAny_bind (wpAny_bind (wpAny_mono h10 (fun y s10 z => ?_) fun _ _ f => f.elim))
        obtain ⟨y', H10, I10, ry, ky, ek, hD10, w10⟩ := z
        subst ek
        have S10 : SetIn X.prog X.w s2.heap.objs.size ys s10.heap := (I10.hok _ _ hD10).1
        refine wpAny_bind (wpAny_standAt (wpAny_bind ?_))
        refine call_set_add (knd := mixKind X.prog X.w) (k := ky) (is_key ry) (key_scan (is_key ry)) S10 (by omega) fun h' sb S2 => ?_
        have S3 := SetIn.add S2
        have I11 : Inv Y _ τ8 (upd H10 s2.heap.objs.size (SetO X.prog X.w s2.heap.objs.size (met1 ys ky))) { s10 with heap := h', toks := s10.toks + 1 } :=
          I10.write (by rw [hD10]; trivial) (.inl rfl) (fun b u hb e => (sb.2 b hb).trans e) (let ⟨o, _, _, _, ho, _⟩ := S3; ⟨o, ho⟩) (by rw [eP, ew]; exact S3.ok)
        obtain ⟨z1, z2, z3⟩ := stay I11
        exact wpAny_pure (wpAny_pure ⟨rfl, n - (i + 1), by omega, i + 1, met1 ys ky, _, rfl, hlt, by rw [len_met1]; split <;> omega, w10, upd_same, z2, z3, z1⟩)
  exact codeAny_compStart_set loop (T.self _ 0 _ _ _ (T.keep _ _ _ st3 fun b _ o e => k4 b o e) loop)

/-- {elt for tg in iter if ..} -/
theorem pe_sc (S : CompSc X scope N fs) (hcalm : X.calm = true) (hi : PI X tg iter wi) (hg : ∀ cl C s₀ H fp, PG (cxComp X scope cl C N s₀ H fp) tg g) (hc : ∀ cl C s₀ H fp, PTs (cxComp X scope cl C N s₀ H fp) ifs tc)
    (he : ∀ cl C s₀ H fp, PE (cxComp X scope cl C N s₀ H fp) elt te) (P : Program) (w : World) (hs : ∀ x, foldedSetIterable iter X.env x = pure x := by intro _; rfl) (hP : X.prog = P := by rfl) (hw : X.w = w := by rfl) :
    PE X (.SetComp elt [⟨tg, iter, ifs, 0⟩] scope pos) (tSC P w N.length fs wi g tc te) := by
  subst hP hw
  intro pins s σ H Q I h
  rw [eval_SetComp]
  refine comp_coreS (use := none) S hcalm hi hg hc he hs I h fun D C H2 s' I' q ⟨m, hm⟩ f => ⟨m, hm, fun h' hs' => ?_⟩
  exact ⟨.ref D, H2, I'.off f hs', rfl, q⟩
end
end L2

namespace L2
open PySem PySem.Spec PyProof.Rows
section
variable {X : Cx}
/-- len of a set -/
theorem call_len_setK (P : Program) (w : World) (hP : X.prog = P := by rfl) (hw : X.w = w := by rfl) : CallR X (.builtin "len") (fun xs H Q => ∃ a L, xs = [.ref a] ∧ H a = some (SetO P w a L) ∧ L.length < 2 ^ 62 ∧ Q (.int L.length) H) := by
  subst hP hw
  intro pins s σ H xs us Q I r h
  obtain ⟨a, L, rfl, hH, hl, q⟩ := h
  obtain ⟨u, rfl, rx⟩ := vals1 r
  cases rx
  obtain ⟨o, es, ep, t, ho, hex, hd, h1, h2, h3, h4, h5⟩ : SetIn X.prog X.w a L s.heap := (I.hok _ _ hH).1
  exact call_len_set ho hex hd h4 (by omega) ⟨.int L.length, H, I.tok _, ⟨s.toks + 1, by rw [h5]⟩, q⟩
theorem vals_refs : ∀ {ts : List Addr} {us : List Value}, Vals (ts.map V.ref) us → us = ts.map Value.ref
  | [], _, h => by cases h; rfl
  | t :: ts, _, h => by
    cases h with
    | cons a b => rw [show _ = Value.ref t from a, vals_refs b]; rfl
/-- lists of the same objects -/
theorem op_neI (K : PySem.W.Frag) (hu : X.A.units < cLine) (hK : X.K = K := by rfl) : OpR X (compareOp .NotEq) (fun x y H Q => ∃ (a b : Addr) (ts : List Addr), x = .ref a ∧ y = .ref b ∧ SqL K H a (ts.map V.ref) ∧ SqL K H b (ts.map V.ref) ∧ Q (.bl false) H) := by
  subst hK
  intro pins s σ H x y v u Q I rx ry h
  obtain ⟨a, b, ts, rfl, rfl, h1, h2, q⟩ := h
  cases rx
  cases ry
  obtain ⟨us, r1, p1, _⟩ := I.list h1
  obtain ⟨vs, r2, p2, _⟩ := I.list h2
  obtain rfl := vals_refs r1
  obtain rfl := vals_refs r2
  refine SeqAt.RcNeAt.lists (e := fun _ => true) p1.isList p2.isList rfl hu (fun j _ _ => SeqAt.EqAt.same _) _ _ _ _ (fin_bl I q ?_)
  simp
end
theorem w_sc {P : Program} {w : World} {nN : Nat} {fs : List (Nat × Nat)} {wi : TI} {g : TG} {tc : TT} {te : TE} {σ : St} {H : Hp} {Q : VK} (q : wi σ H fun J H1 => ∀ D, H1 D = none → ∃ (n : Nat) (W : Nat → List Key → Hp → Prop), n + 1 < scanBound ∧ W 0 [] (upd H1 D (SetO P w D [])) ∧
  ∀ i ys H2, i ≤ n → W i ys H2 → H2 D = some (SetO P w D ys) → (J.stop i H2 ∧ Q (.ref D) H2) ∨ (i < n ∧ J.go i H2 ∧ ∀ x H3, J.yld i H2 x H3 → g x (tau nN fs σ) H3 fun τ4 H4 =>
    (∀ (j : Nat) v, (tau nN fs σ)[j]? = some (some v) → τ4[j]? = some (some v)) ∧ tc τ4 H4 fun b H5 =>
      if b = true then te τ4 H5 fun v H6 => ∃ k : Key, v = kV k ∧ H6 D = some (SetO P w D ys) ∧ W (i + 1) (met1 ys k) (upd H6 D (SetO P w D (met1 ys k))) else H5 D = some (SetO P w D ys) ∧ W (i + 1) ys H5)) : tSC P w nN fs wi g tc te σ H Q := q
end L2
local macro_rules | `(tactic| array_get_dec) => `(tactic| with_reducible refine L2.w_sc ?_)
namespace L2
open PySem PySem.Spec PyProof.Rows
/-- a set out of a list, by the keys that the items give -/
theorem scL {P : Program} {w : World} {K : PySem.W.Frag} {nN : Nat} {fs : List (Nat × Nat)} {te : TE} {σ : St} {H : Hp} {QD : Addr → Hp → Prop} {a : Addr} {xs : List V} (f : Nat → Key) (hl : SqL K H a xs) (hz : xs.length + 1 < scanBound) (h1 : (tau nN fs σ)[0]? = some none)
    (ht : ∀ D L i (Qc : VK), H D = none → i < xs.length → Qc (kV (f i)) (upd H D (SetO P w D L)) → te ((tau nN fs σ).set 0 (some (xs.getD i .non))) (upd H D (SetO P w D L)) Qc)
    (hQ : ∀ D, H D = none → QD D (upd H D (SetO P w D (metK ((List.range xs.length).map f))))) :
    ∀ D, H D = none → ∃ (n : Nat) (W : Nat → List Key → Hp → Prop), n + 1 < scanBound ∧ W 0 [] (upd H D (SetO P w D [])) ∧
      ∀ i ys H2, i ≤ n → W i ys H2 → H2 D = some (SetO P w D ys) → ((Itl K a).stop i H2 ∧ QD D H2) ∨ (i < n ∧ (Itl K a).go i H2 ∧ ∀ x H3, (Itl K a).yld i H2 x H3 → gName 0 x (tau nN fs σ) H3 fun τ4 H4 =>
        (∀ (j : Nat) v, (tau nN fs σ)[j]? = some (some v) → τ4[j]? = some (some v)) ∧ tYes τ4 H4 fun b H5 =>
          if b = true then te τ4 H5 fun v H6 => ∃ k : Key, v = kV k ∧ H6 D = some (SetO P w D ys) ∧ W (i + 1) (met1 ys k) (upd H6 D (SetO P w D (met1 ys k))) else H5 D = some (SetO P w D ys) ∧ W (i + 1) ys H5) := by
  intro D hD
  refine ⟨xs.length, fun i L H2 => H2 = upd H D (SetO P w D L) ∧ L = metK ((List.range i).map f), hz, ⟨rfl, rfl⟩, ?_⟩
  rintro i L _ hi ⟨rfl, e⟩ _
  have hl' := sqL_upd (o := SetO P w D L) hl hD
  rcases Nat.lt_or_ge i xs.length with hlt | hge
  · refine .inr ⟨hlt, ⟨xs, xs[i], hl', List.getElem?_eq_getElem hlt⟩, ?_⟩
    rintro x H3 ⟨rfl, hx⟩
    have ex : x = xs.getD i .non := by
      have := hx xs hl'
      simp [List.getD, this]
    subst ex
    refine w_gName ⟨mono0 h1, ?_⟩
    refine w_yes ?_
    refine iteT ?_
    refine ht D L i _ hD hlt ⟨f i, rfl, upd_same, by rw [upd_upd], ?_⟩
    rw [List.range_succ, List.map_append, List.map_cons, List.map_nil, metK_snoc, e]
  · have : i = xs.length := by omega
    subst this
    refine .inl ⟨⟨xs, hl', Nat.le_refl _⟩, ?_⟩
    rw [e]
    exact hQ D hD
end L2

namespace L2
open PySem PySem.Spec PyProof.Rows
/-- try: m = e / except S as v: n = v -/
def sTry2 (K : PySem.W.Frag) (S : Addr) (i1 i j : Nat) (te : XK → TE) : TS := fun D σ H => te (fun C _ H' => ∃ c bm nw, C = .ref c ∧ PySem.W.excIn K c bm nw = true ∧ SubIn K c S = true ∧ ∀ a, H' a = none → D.nx ((σ.set i (some (.ref a))).set j none) (upd H' a (Ex a c))) σ H
  fun x H1 => D.nx (σ.set i1 (some x)) H1
section
variable {X : Cx}
theorem ps_try2 {i1 i j : Nat} {n1 n v x : Str} {S : Addr} {bmS : List Value} {nS : String} {e : Expr} {te : XK → TE} {p1 p2 p3 p4 p5 p6 p7 p8 : Pos} (hN : X.N.Nodup) (hi1 : X.N[i1]? = some n1) (hi : X.N[i]? = some n) (hj : X.N[j]? = some v) (hn1 : X.env.scope.names.lookup n1 = some .local) (hn : X.env.scope.names.lookup n = some .local) (hv : X.env.scope.names.lookup v = some .local)
    (hij : i ≠ j) (hst : X.stack = X.env :: X.outer ∧ X.env.frame = some X.env.locals) (hH0 : X.ex = []) (hg : Gl X x) (hm : X.mg x = some (.ref S)) (hS : PySem.W.excIn X.K S bmS nS = true) (hbS : bmS.contains (.type "BaseException") = true)
    (he : ∀ (E : XK) (pins : List (Addr × Obj)) (s : Shared) (σ : St) (H : Hp) (Q : VK), Inv X pins σ H s → te E σ H Q → wpAny (model X.prog X.w) X.A (eval e X.env) (EP X pins σ Q) (Flew X pins σ E) s)
    (hs : swapsWith e (some (.Name n1 p1)) p2.line X.env = pure false := by rfl) (hs2 : swapsWith (.Name v p4) (some (.Name n p3)) p5.line X.env = pure false := by rfl) (hdb : (x == ("__debug__" : Str)) = false := by decide) (hvd : (v == ("__debug__" : Str)) = false := by decide) (hvc : (v == ("__classdict__" : Str)) = false := by decide) :
    PS X (.Try [.Assign [.Name n1 p1] e p2] [.ExceptHandler (some (.Name x p6)) (some v) [.Assign [.Name n p3] (.Name v p4) p5] p7] [] [] p8) (sTry2 X.K S i1 i j te) := by
  intro pins s σ H D I h
  refine wpAny_Try_except (wpAny_execs_cons (wpAny_mono (Q := fun fl s1 => fl = .next ∧ SP X pins D .next s1) ?_ (fun fl s1 z => ?_) fun _ _ z => z))
  · refine wpAny_Assign_Name (wpAny_mono (he _ pins s σ H _ I h) (fun u s1 z => ?_) fun e s1 z => ?_) hs
    · obtain ⟨y, H1, I1, r1, q1⟩ := z
      exact store_ok I1 hN hi1 (.inl hn1) r1 (fun s2 I2 => ⟨rfl, _, H1, I2, q1⟩) (.inr hn1)
    · obtain ⟨H2, s2, I2, a, c0, t, B, H', rfl, fl, cov, un, hok, na, nb, bare, os, c, bm, nw, ec, hC, hsub, q⟩ := z
      cases ec
      have fr : X.A.frames = some (X.env :: X.outer) := by rw [← hst.1]; exact I.ok.frames
      rw [hst.1] at fl
      refine wpAny_looks_onW fr hst.2 fl fun h4 held sm4 => wpAny_landsW held fun h5 fl5 sm5 => ?_
      rw [hst.1] at cov un
      have u5 := un_slots un hok cov fl.1 fl5.1 fl.2.2.1 (sm4.trans sm5)
      have toX : ∀ {h6 : Heap}, Un (frs (X.env :: X.outer)) [] H2 H' s2.heap h6 ∧ HOk X.prog X.w H' h6 → Inv X pins σ H' { s1 with heap := h6 } := fun {h6} z =>
        I2.call' (s' := { s1 with heap := h6 }) (ch := []) os (by rw [hst.1]; exact z.1) z.2 bare fun b hb => by cases hb
      have I5 := toX u5
      refine wpAny_handleBy_cons (codeAny_handlers_test ?_) (by intro z; cases z)
      have I5m := I5.mark (.ref a)
      refine ld_glob (X := X.marked (.ref a)) I5m hg hm ?_ hdb
      obtain ⟨oe, vs5, e5, hc5, hd5, _⟩ := fl5.first
      refine matches_own (K := X.K) I5.kIn hC hS hbS hsub e5 hc5 (codeAny_handlers_suite_as ?_)
      refine lands_againW fl5 fun h6 fl6 sm6 => ?_
      have I6 := toX (un_slots un hok cov fl.1 fl6.1 fl.2.2.1 ((sm4.trans sm5).trans sm6))
      have n0 : X.s₀.heap.get? a = none := by
        cases z : X.s₀.heap.get? a with
        | none => rfl
        | some o =>
          obtain ⟨o1, e1⟩ := I2.base.there a o z (by rw [hH0]; simp)
          rw [nb] at e1
          cases e1
      obtain ⟨oe6, vs6, e6, hc6, hd6, _⟩ := fl6.first
      have I7 : Inv X pins σ (upd H' a (Ex a c0)) { s1 with heap := h6 } := by
        refine I6.track na n0 (fun z => ?_) (fun y c' ec z => ?_) (fun p hp z => ?_) ⟨⟨oe6, vs6, e6, hc6, hd6⟩, ⟨oe6, e6⟩, excφ_stay⟩
        · obtain ⟨m, ⟨o, _, _, ho, _⟩, _⟩ := I2.loc
          rw [z, ho] at nb
          cases nb
        · obtain ⟨v', o, ho, _⟩ := I2.cell y c' ec
          rw [z, nb] at ho
          cases ho
        · have := (I2.pin p hp).1
          rw [z, nb] at this
          cases this
      have I7m := I7.mark (.ref a)
      refine store_ok (X := X.marked (.ref a)) I7m hN hj (.inl hv) (show RelV (.ref a) (.ref a) from rfl) (fun s8 I8 => ?_) (.inr hv)
      have suite : PSs (X.marked (.ref a)) [.Assign [.Name n p3] (.Name v p4) p5] (tAsg (tVar j) (gName i)) := pss_one (ps_set hN hi (.inl hn) (pe_var hj (.inl hv) hvd hvc) hs2 (.inr hn))
      have hjl : j < σ.length := by rw [I.len]; exact (List.getElem?_eq_some_iff.mp hj).1
      refine wpAny_mono (suite pins s8 _ _ { nx := fun σ9 H9 => σ9 = (σ.set j (some (.ref a))).set i (some (.ref a)) ∧ H9 = upd H' a (Ex a c0), rt := fun _ _ => False } I8 ⟨_, List.getElem?_set_self hjl, rfl, rfl⟩) (fun fl9 s9 z => ?_) fun _ _ f => f.elim
      cases fl9 with
      | next =>
        obtain ⟨σ9, H9, I9, e9, e9'⟩ := z
        subst e9 e9'
        have I9 := I9.unmark I.ok
        obtain ⟨m, hm9, lk⟩ := I9.loc
        refine wpAny_nameGoes_keeps hv hm9 (by rw [I.ok.kind]; rfl) fun h10 w hm10 sb => ⟨(σ.set i (some (.ref a))).set j none, _, ?_, q a na⟩
        obtain ⟨oL, _, _, hoL, _⟩ := hm9
        have neL : ∀ b o, X.s₀.heap.get? b = some o → b ≠ X.env.locals := fun b o e => Nat.ne_of_lt (Nat.lt_of_lt_of_le (Heap.lt_size e) I.ok.above)
        have kb : ∀ b o, b ≠ X.env.locals → s9.heap.get? b = some o → h10.get? b = some o := fun b o hb e => (sb.2 b hb).trans e
        refine ⟨I.ok, I9.os, I9.bare, ⟨fun b o e n' hb hx => kb b o (neL b o e) (I9.base.keep b o e n' hb hx), fun b o e n' hb hx => ?_, I9.base.free, fun b o e hx => ?_, I9.base.tups, I9.base.frzs, I9.base.tbls⟩, ⟨_, hm10, fun k y u e1 e2 e3 => ?_⟩, fun y c' ec => ?_, I9.free, I9.freeC, fun p hp => ?_, fun b u e => ?_, ?_⟩
        · obtain ⟨sl, e1⟩ := I9.base.slot b o e n' hb hx
          exact ⟨sl, kb b _ (neL b o e) e1⟩
        · obtain ⟨o', e1⟩ := I9.base.there b o e hx
          exact ⟨o', kb b _ (neL b o e) e1⟩
        · have hkj : k ≠ j := fun z => by
            subst z
            rw [List.getElem?_set_self (by rw [List.length_set]; exact hjl)] at e2
            cases e2
          rw [List.getElem?_set_ne (Ne.symm hkj)] at e2
          have e2' : ((σ.set j (some (.ref a))).set i (some (.ref a)))[k]? = some (some u) := by
            by_cases hki : k = i
            · subst hki
              have hil : k < σ.length := by rw [I.len]; exact (List.getElem?_eq_some_iff.mp hi).1
              rw [List.getElem?_set_self hil] at e2
              rw [List.getElem?_set_self (by rw [List.length_set]; exact hil)]
              exact e2
            · rw [List.getElem?_set_ne (Ne.symm hki)] at e2 ⊢
              rw [List.getElem?_set_ne (Ne.symm hkj)]
              exact e2
          obtain ⟨u', ru, z⟩ := lk k y u e1 e2' e3
          refine ⟨u', ru, ?_⟩
          have yv : y ≠ v := fun z => hkj (nodup_ix hN e1 (z ▸ hj))
          rcases z with ⟨z1, z2⟩ | ⟨z1, c', z2, z3⟩
          · exact .inl ⟨z1, by simp only [if_neg yv]; exact z2⟩
          · exact .inr ⟨z1, c', z2, z3.sameBut sb (I9.cne y c' z2)⟩
        · obtain ⟨w', z⟩ := I9.cell y c' ec
          exact ⟨w', z.sameBut sb (I9.cne y c' ec)⟩
        · obtain ⟨z1, z2, z3, z4, z5⟩ := I9.pin p hp
          exact ⟨kb _ _ z3 z1, z2, z3, z4, z5⟩
        · refine (I9.hok b u e).stay (fun c' v' hc' q' => kb c' v' ?_ q') (fun _ q' => q') fun _ _ q' => q'
          rintro rfl
          rcases hc' with z | z
          · rw [← z, I9.free] at e
            cases e
          · rw [I9.free] at z
            cases z
        · simp only [List.length_set]
          exact I.len
      | ret v => exact z.elim (fun _ h => by obtain ⟨_, _, _, _, f⟩ := h; exact f.elim)
      | brk => obtain ⟨_, _, _, f⟩ := z; exact f.elim
      | cont => obtain ⟨_, _, _, f⟩ := z; exact f.elim
  · obtain ⟨rfl, z⟩ := z
    exact wpAny_execs_nil (wpAny_execs_nil z)
end
theorem w_try2 {K : PySem.W.Frag} {S : Addr} {i1 i j : Nat} {te : XK → TE} {nx : St → Hp → Prop} {rt : VK} {bk ct : St → Hp → Prop} {σ : St} {H : Hp}
    (q : te (fun C _ H' => ∃ c bm nw, C = .ref c ∧ PySem.W.excIn K c bm nw = true ∧ SubIn K c S = true ∧ ∀ a, H' a = none → nx ((σ.set i (some (.ref a))).set j none) (upd H' a (Ex a c))) σ H fun x H1 => nx (σ.set i1 (some x)) H1) : sTry2 K S i1 i j te ⟨nx, rt, bk, ct⟩ σ H := q
end L2

namespace L2
open PySem PySem.Spec PyProof.Rows
theorem list_no_keys : typeLookup (.type "list") "keys" = pure none := by rw [typeLookup_type, builtinLookup_eq_fast]; kernel_rfl
theorem list_no_hook : typeLookup (.type "list") "__getattr__" = pure none := by rw [typeLookup_type, builtinLookup_eq_fast]; kernel_rfl
section
variable {prog : Program} {w : World} {A : Around} {E : Value → Shared → Prop} {s : Shared}
/-- a list has no keys: an error is made and dropped -/
theorem keys_entry {a : Addr} {its : Array Value} {n : Nat} {tk : Tok} {Q : Fin → Shared → Prop} (hA : A.handled = none) (hx : s.heap.get? a = some { cls := .type "list", data := .seq its n })
    (h : ∀ h' t' e, Heap.NewAttrErr s.heap h' e (.ref a) "keys" → E (.ref e) { s with heap := h', toks := t' }) : wpAny (model prog w) A (Builtin.«object.__getattribute__» ⟨[.ref a, .str "keys" tk], []⟩) Q E s := by
  have hT : s.TypeIs (.ref a) "list" := ⟨_, hx, rfl⟩
  have f4 := list_no_keys
  obtain ⟨hp, g, d, tk', os⟩ := s
  unfold Builtin.«object.__getattribute__»
  repeat (any_goals (first | assumption | wp_step))
  exact wpAny_raiseAttrError hA h (attrMsg_fits (by decide +kernel) (by decide +kernel))
theorem keys_call {a : Addr} {its : Array Value} {n : Nat} {tk : Tok} {R : Result → Shared → Prop} (hA : A.handled = none) (hx : s.heap.get? a = some { cls := .type "list", data := .seq its n })
    (h : ∀ h' t' e, Heap.NewAttrErr s.heap h' e (.ref a) "keys" → R (.error (.ref e)) { s with heap := h', toks := t' }) : codeAny (model prog w) A (.call (.builtin "list.__getattribute__") ⟨[.ref a, .str "keys" tk], []⟩) R s :=
  codeAny_call_builtin F.slot_list_getattribute.plain F.entry_list_ga (F.slot_list_getattribute.check _ _ _ _ _ _ _ _ (show s.TypeIs (.ref a) "list" from ⟨_, hx, rfl⟩) (F.args_list_getattribute_2 _ _) (keys_entry (by simpa using hA) hx h))
theorem keys_miss {a : Addr} {its : Array Value} {n : Nat} {Q : Option Value → Shared → Prop} (hA : A.handled = none) (hx : s.heap.get? a = some { cls := .type "list", data := .seq its n })
    (hq : ∀ h' t', (∀ b ob, s.heap.get? b = some ob → h'.get? b = some ob) → Q none { s with heap := h', toks := t' }) : wpAny (model prog w) A (getAttr? (.ref a) "keys") Q E s := by
  have hT : ∀ s' : Shared, (∀ b ob, s.heap.get? b = some ob → s'.heap.get? b = some ob) → s'.TypeIs (.ref a) "list" := fun s' k => ⟨_, k _ _ hx, rfl⟩
  have hT0 : s.TypeIs (.ref a) "list" := ⟨_, hx, rfl⟩
  have f1 := sub_AttributeError
  have f2 := F.slot_list_getattribute.lookup
  have f3 := F.slot_list_getattribute.bind (.ref a)
  have f5 := list_no_hook
  obtain ⟨hp, g, d, tk', os⟩ := s
  unfold getAttr? getAttrBy? getAttrBy
  repeat (any_goals (first | assumption | wp_step))
  refine keys_call hA hx fun h' t' e hx' => ?_
  obtain ⟨t1, u1, he⟩ := hx'.there
  show wpAny _ _ (getattributeRaised _ _ _ _ _ _ _) _ _ _
  unfold getattributeRaised
  repeat (any_goals (first | assumption | wp_step))
  exact hq h' t' hx'.keeps
end
end L2

namespace L2
open PySem PySem.Spec PyProof.Rows
theorem entry_dict_loop : entryFor table "dict.update.loop" = some Builtin.«dict.update.loop» := entryFor_of_tree (by kernel_rfl)
theorem plain_dict_loop : plainId "dict.update.loop" = true := by decide +kernel
theorem stored_new' {kvs : List (Key × Value)} {k : Key} {v : Value} (h : k ∉ kvs.map (·.1)) : stored kvs k v = kvs ++ [(k, v)] := by
  unfold stored
  rw [if_neg]
  intro z
  obtain ⟨p, hp, e⟩ := List.any_eq_true.mp z
  exact h (List.mem_map.mpr ⟨p, hp, of_decide_eq_true e⟩)
section
variable {P : Program} {w : World} {A : Around} {R : Result → Shared → Prop} {I : Addr} {fp wr : List Addr} {G : Array GenState → Array GenState → Prop} {n : Nat} {Pv : Nat → Value → Prop} {St : Nat → Shared → Prop}
/-- the tuples of two that the iterator gives stand in the heap -/
def PairsIn (wr : List Addr) (D : Addr) (ps : List (Key × Value)) (Pv : Nat → Value → Prop) (h : Heap) : Prop := ∀ i v, Pv i v → ∃ t k u x, v = .ref t ∧ t ≠ D ∧ t ∉ wr ∧ ps[i]? = some (k, x) ∧ keyIs k u = true ∧ h.IsTuple t #[u, x]
theorem PairsIn.keeps {wr : List Addr} {D : Addr} {ps : List (Key × Value)} {Pv : Nat → Value → Prop} {h h' : Heap} (x : PairsIn wr D ps Pv h) (k : ∀ b o, b ≠ D → b ∉ wr → h.get? b = some o → h'.get? b = some o) : PairsIn wr D ps Pv h' := fun i v hv => by
  obtain ⟨t, key, u, y, e1, e2, e3, e4, e5, o, ho, r⟩ := x i v hv
  exact ⟨t, key, u, y, e1, e2, e3, e4, e5, o, k _ _ e2 e3 ho, r⟩
theorem dict_loopP (W : WalksS P w A.in1 I fp wr G n Pv St) (D : Addr) (hD : D ∉ fp) (ps : List (Key × Value)) (hn : ps.length = n) (hnd : (ps.map (·.1)).Nodup) (hz : n ≤ 1000) :
    ∀ (m i : Nat) (tk : Tok) (s : Shared), n - i = m → i ≤ n → St i s → PairsIn wr D ps Pv s.heap → s.heap.DictOf (mixKind P w) D (ps.take i) → (∀ s', Moved (D :: wr) G s s' → s'.heap.DictOf (mixKind P w) D ps → R (.ok (.ret .none)) s') →
      codeAny (model P w) A (.builtin "dict.update.loop" ⟨[.ref D, .ref I, .int i tk, .none], []⟩) R s := by
  have nw : D ∉ wr := fun z => hD (W.sub _ z)
  have up : ∀ b ∈ wr, b ∈ D :: wr := fun b z => .tail _ z
  have line : 1000 < sizeLine := by decide
  intro m
  induction m with
  | zero =>
    intro i tk s e1 e2 st T S k
    obtain rfl : i = n := by omega
    refine codeAny_builtin entry_dict_loop ?_
    rw [Around.under_plainId plain_dict_loop _]
    show wpAny _ A.in1 (pyNext (.ref I) >>= _) _ _ s
    refine wpAny_bind (W.done s _ _ st fun s' mv => ?_)
    show wpAny _ A.in1 (Builtin.Dict.addKeywords D [] >>= fun _ => ret Value.none) _ _ s'
    refine wpAny_bind (wpAny_pure (wpAny_pure (k s' (mv.mono up) ?_)))
    rw [← hn, List.take_length] at S
    obtain ⟨o, es, ep, ho, r⟩ := S
    exact ⟨o, es, ep, mv.heap D _ nw ho, r⟩
  | succ m ih =>
    intro i tk s e1 e2 st T S k
    have lt : i < n := by omega
    refine codeAny_builtin entry_dict_loop ?_
    rw [Around.under_plainId plain_dict_loop _]
    show wpAny _ A.in1 (pyNext (.ref I) >>= _) _ _ s
    refine wpAny_bind (W.item i s _ _ lt st fun v s' pv st' mv => ?_)
    have T' : PairsIn wr D ps Pv s'.heap := T.keeps fun b o _ hb e => mv.heap b o hb e
    obtain ⟨t, key, u, x, rfl, nt, ntw, ek, is, tu⟩ := T' i _ pv
    have S' : s'.heap.DictOf (mixKind P w) D (ps.take i) := by
      obtain ⟨o, es, ep, ho, r⟩ := S
      exact ⟨o, es, ep, mv.heap D _ nw ho, r⟩
    have ty : s'.TypeIs (.ref t) "tuple" := tu.typeIs
    refine wpAny_bind (wpAny_holding ?_)
    refine wpAny_bind (wpAny_tryCatch ?_)
    obtain ⟨ot, hot, hct, nt', hdt⟩ := id tu
    unfold Builtin.Dict.pairItems
    refine wpAny_bind (wpAny_typeOf ty ?_)
    rw [if_pos (by decide)]
    refine wpAny_bind (wpAny_seqItems hot hdt (wpAny_pure ?_))
    show wpAny _ _ (holding [u, x] (dictSet D u x)) _ _ _
    have nk : key ∉ (ps.take i).map (·.1) := fun z => by
      obtain ⟨p, hp, e⟩ := List.mem_map.mp z
      obtain ⟨j, hj, e2⟩ := List.mem_iff_getElem.mp hp
      have hj1 : j < i := by rw [List.length_take] at hj; omega
      rw [List.getElem_take] at e2
      have hi : i < ps.length := by omega
      have e3 : ps[i] = (key, x) := by rw [List.getElem?_eq_getElem hi] at ek; exact Option.some.inj ek
      have := (List.getElem_inj (i := j) (j := i) (h₀ := by rw [List.length_map]; omega) (h₁ := by rw [List.length_map]; omega) hnd).mp (by rw [List.getElem_map, List.getElem_map, e2, e3, e])
      omega
    refine wpAny_holding (wpAny_dictSet_pairs (knd := mixKind P w) is S' (fun h' hd' sb => ?_) (by rw [List.length_take]; omega))
    rw [stored_new' nk] at hd'
    have S3 : h'.DictOf (mixKind P w) D (ps.take (i + 1)) := by rw [List.take_succ, ek]; exact hd'
    refine wpAny_pure ⟨plainId_quiet plain_dict_loop _, ih (i + 1) _ _ (by omega) lt (W.frame _ s' _ _ st' (Nat.le_succ _) fun b z o e => ?_) (T'.keeps fun b o hb _ e => (sb.2 b hb).trans e) S3 fun s2 mv2 S4 => ?_⟩
    · rw [sb.2 b (fun q : b = D => hD (q ▸ z))]; exact e
    · refine k s2 (Moved.trans W.gtrans ((mv.mono up).then_heap (Nat.le_succ _) fun b o z e => ?_) mv2) S4
      rw [sb.2 b (fun q : b = D => z (q ▸ .head _))]; exact e
end
end L2

namespace L2
open PySem PySem.Spec PyProof.Rows
section
variable {X : Cx} {pins : List (Addr × Obj)} {σ : St} {H : Hp} {s : Shared}
theorem pairs_of (I : Inv X pins σ H s) : ∀ {ts : List Addr} {kvs : List (Key × V)}, Paired (fun t (p : Key × V) => H t = some (.tup [kV p.1, p.2])) ts kvs →
    ∃ ps : List (Key × Value), KV kvs ps ∧ ∀ (i : Nat) t, ts[i]? = some t → ∃ k u x, ps[i]? = some (k, x) ∧ keyIs k u = true ∧ s.heap.IsTuple t #[u, x]
  | _, _, .nil => ⟨[], .nil, fun i t h => by cases h⟩
  | _, _, .cons (a := t) (b := p) h r => by
    obtain ⟨ps, kv, hp⟩ := pairs_of I r
    obtain ⟨_, its, vi, tu⟩ := I.hok _ _ h
    cases vi with
    | cons r1 vi =>
      cases vi with
      | cons r2 vi =>
        cases vi
        rename_i u x
        refine ⟨(p.1, x) :: ps, .cons ⟨rfl, r2⟩ kv, fun i t' ht => ?_⟩
        cases i with
        | zero => cases ht; exact ⟨p.1, u, x, rfl, is_key r1, tu⟩
        | succ i => exact hp i t' ht
theorem Paired.of_ix {α β : Type} {F : α → β → Prop} : ∀ {l : List α} {m : List β}, l.length = m.length → (∀ (i : Nat) x y, l[i]? = some x → m[i]? = some y → F x y) → Paired F l m
  | [], [], _, _ => .nil
  | x :: l, y :: m, h, k => .cons (k 0 x y rfl rfl) (Paired.of_ix (by simpa using h) fun i a b h1 h2 => k (i + 1) a b h1 h2)
theorem kv_keys : ∀ {kvs : List (Key × V)} {ps : List (Key × Value)}, KV kvs ps → ps.map (·.1) = kvs.map (·.1)
  | _, _, .nil => rfl
  | _, _, .cons h r => by rw [List.map_cons, List.map_cons, kv_keys r, h.1]
/-- dict(list of pairs), the first ones distinct -/
theorem call_dictL (hh : X.A.handled = none) : CallR X (.type "dict") (fun xs H Q => ∃ (p : Addr) (ts : List Addr) (kvs : List (Key × V)), xs = [.ref p] ∧ H p = some (.lst (ts.map .ref)) ∧ Paired (fun t (q : Key × V) => H t = some (.tup [kV q.1, q.2])) ts kvs ∧ (kvs.map (·.1)).Nodup ∧ kvs.length ≤ 1000 ∧ ∀ d, H d = none → Q (.ref d) (upd H d (.dK kvs))) := by
  intro pins s σ H xs us Q I r h
  obtain ⟨p, ts, kvs, rfl, hp, pr, hnd, hlen, q⟩ := h
  obtain ⟨u, rfl, rx⟩ := vals1 r
  cases rx
  obtain ⟨ps, kv, hps⟩ := pairs_of I pr
  obtain ⟨_, its, nl, rv, _, hx⟩ := I.lstM hp
  obtain rfl := vals_refs rv
  have line : 1000 < sizeLine := by decide
  have ltk : ts.length = kvs.length := pr.length
  have lpk : kvs.length = ps.length := kv.length
  have hnd' : (ps.map (·.1)).Nodup := by rw [kv_keys kv]; exact hnd
  have lp : p < s.heap.objs.size := Heap.lt_size hx
  refine callType_codes (Q₁ := fun obj s₁ => obj = .ref s.heap.objs.size ∧ s₁ = { s with heap := s.heap.push { cls := .type "dict", data := .dict #[] } }) F.kt_called_dict (F.kt_typeCall_dict_1 _) F.entry_dict_init (kt_code_dict_new _ ⟨rfl, rfl⟩) ?_
  rintro obj s₁ ⟨rfl, rfl⟩
  have hnew : (s.heap.push { cls := .type "dict", data := .dict #[] }).DictOf (mixKind X.prog X.w) s.heap.objs.size [] := Heap.DictOf.new s.heap
  have hx1 : (s.heap.push { cls := .type "dict", data := .dict #[] }).get? p = some { cls := .type "list", data := .seq (ts.map Value.ref).toArray nl } := Heap.get?_push_of_some _ hx
  have z1 : (s.heap.push { cls := .type "dict", data := .dict #[] }).objs.size = s.heap.objs.size + 1 := Heap.size_push ..
  refine ⟨hnew.typeIs, F.args_dict_init_2 _ _, ?_⟩
  unfold Builtin.«dict.__init__»
  refine wpAny_bind ?_
  unfold Builtin.Dict.selfAndRest
  refine wpAny_bind (wpAny_notOrdered_dict hnew.typeIs ?_)
  show wpAny _ _ (pure (s.heap.objs.size, [Value.ref p])) _ _ _
  refine wpAny_pure ?_
  show wpAny _ _ (Builtin.Dict.updateFrom "dict.__init__" s.heap.objs.size (.ref p) [] .none) _ _ _
  unfold Builtin.Dict.updateFrom
  refine wpAny_bind (wpAny_typeOf ⟨_, hx1, rfl⟩ ?_)
  rw [if_pos (by decide)]
  refine wpAny_bind (keys_miss (by simpa using hh) hx1 fun h2 t2 kp2 => ?_)
  rw [if_pos (show (none : Option Value).isNone = true from rfl)]
  refine wpAny_bind (wpAny_rule ?_)
  have hx2 := kp2 _ _ hx1
  have D2 : h2.DictOf (mixKind X.prog X.w) s.heap.objs.size [] := by
    obtain ⟨o, es, ep, ho, r⟩ := hnew
    exact ⟨o, es, ep, kp2 _ _ ho, r⟩
  have le2 : s.heap.objs.size < h2.objs.size := by
    obtain ⟨o, es, ep, ho, r⟩ := D2
    exact Heap.lt_size ho
  refine wpAny_bind (wpAny_pyIter_list ⟨_, hx2, rfl, _, rfl⟩ ?_)
  refine wpAny_pure ⟨plainId_quiet plain_dict_loop _, ?_⟩
  have a1 : p ≠ h2.objs.size := Nat.ne_of_lt (Heap.lt_size hx2)
  have a2 : s.heap.objs.size ∉ [h2.objs.size, p] := by simp only [List.mem_cons, List.not_mem_nil, or_false, not_or]; exact ⟨Nat.ne_of_lt le2, Nat.ne_of_gt lp⟩
  refine dict_loopP ((Walks.list (by simp [hh]) _ p a1 (ts.map Value.ref).toArray).toS) s.heap.objs.size a2 ps (by simp; omega) hnd' (by simp; omega) (ts.map Value.ref).toArray.size 0 _ _ (by omega) (Nat.zero_le _) ⟨⟨_, Heap.get?_push_size _ rfl, rfl, rfl⟩, ?_⟩ ?_ ?_ ?_
  · exact Heap.IsList.push (show h2.IsList p (ts.map Value.ref).toArray from ⟨_, hx2, rfl, _, rfl⟩) _
  · intro i v e
    have e : (ts.map Value.ref).toArray[i]? = some v := e
    rw [List.getElem?_toArray, List.getElem?_map] at e
    obtain ⟨t, ht, rfl⟩ := Option.map_eq_some_iff.mp e
    obtain ⟨k, u, x, e1, e2, o, ho, r⟩ := hps i t ht
    have l1 : t < s.heap.objs.size := Heap.lt_size ho
    refine ⟨t, k, u, x, rfl, Nat.ne_of_lt l1, ?_, e1, e2, o, Heap.get?_push_of_some _ (kp2 _ _ (Heap.get?_push_of_some _ ho)), r⟩
    simp only [List.mem_cons, List.not_mem_nil, or_false, not_or]
    exact Nat.ne_of_lt (Nat.lt_trans l1 le2)
  · exact D2.push _
  · intro s' mv S
    obtain ⟨h', g', d', tk', os'⟩ := s'
    obtain rfl : g' = s.gens := mv.gens
    obtain rfl : d' = s.drawn := mv.drawn
    obtain rfl : os' = s.os := mv.os
    refine ⟨rfl, .ref s.heap.objs.size, _, I.laid (a := s.heap.objs.size) (o := .dK kvs) (t' := tk') (fun b o e => ?_) (Nat.le_refl _) (dk_new (by omega) (beq_eq_false_iff_ne.mpr (Ne.symm (Nat.ne_of_lt I.big))) kv S), rfl, q _ (I.hok.fresh (Nat.le_refl _))⟩
    have lb : b < s.heap.objs.size := Heap.lt_size e
    refine mv.heap b o ?_ (Heap.get?_push_of_some _ (kp2 _ _ (Heap.get?_push_of_some _ e)))
    simp only [List.mem_cons, List.not_mem_nil, or_false, not_or]
    exact ⟨Nat.ne_of_lt lb, Nat.ne_of_lt (Nat.lt_trans lb le2)⟩
end
end L2

namespace K19
open PySem PySem.Spec PyProof.Rows L2
def top (i : Nat) : Stmt := PySem.Challenge.pw_numbersay_k19_kinds.main.body.getD i (.Pass ⟨0, 0, 0, 0⟩)
structure Ad where
  Tongue : Addr
  Kind : Addr
  SayError : Addr
  BadRule : Addr
  NotCovered : Addr
  BadParts : Addr
  BadBound : Addr
  BadMelt : Addr
  Twice : Addr
  BadRow : Addr
  BadKind : Addr
  NoKind : Addr
  NoName : Addr
  Unclear : Addr
  BadPairs : Addr
  BadText : Addr
  tSL : Addr
  tTF : Addr
  tIR : Addr
  tTI : Addr
  tWP : Addr
/-- an error's class, and how the law calls it -/
structure ExD (K : PySem.W.Frag) (a : Ad) (C : Addr) (d : Str) : Prop where
  x : ExcC K C
  sub : SubIn K C a.SayError = true
  say : PySem.W.kitOne K (.ref C) (.ref a.SayError) = some true
  val : PySem.W.kitOne K (.ref C) (.type "ValueError") = some true
  b1 : PySem.W.kitOne K (.ref C) (.ref a.BadRow) = some (decide (d = ("row" : Str)))
  b2 : PySem.W.kitOne K (.ref C) (.ref a.NoKind) = some (decide (d = ("nokind" : Str)))
  b3 : PySem.W.kitOne K (.ref C) (.ref a.BadKind) = some (decide (d = ("kind" : Str)))
  t1 : PySem.W.kitAny K (.ref C) [.ref a.BadBound, .ref a.BadMelt, .ref a.BadPairs, .ref a.BadParts, .ref a.BadRule, .ref a.BadText] = some false
  t2 : PySem.W.kitAny K (.ref C) [.ref a.NoName, .ref a.NotCovered, .ref a.Twice, .ref a.Unclear] = some false
structure Txt (K : PySem.W.Frag) (mg : Str → Option Value) (a : Ad) : Prop where
  b_len : mg "len" = none
  b_isinstance : mg "isinstance" = none
  b_str : mg "str" = none
  b_int : mg "int" = none
  b_list : mg "list" = none
  b_tuple : mg "tuple" = none
  b_all : mg "all" = none
  b_any : mg "any" = none
  b_range : mg "range" = none
  b_zip : mg "zip" = none
  b_max : mg "max" = none
  b_min : mg "min" = none
  b_set : mg "set" = none
  b_dict : mg "dict" = none
  b_ValueError : mg "ValueError" = none
  c_TIE' : ∃ t, mg "TIE" = some (.str "+" t)
  c_Tongue : mg "Tongue" = some (.ref a.Tongue)
  c_Kind : mg "Kind" = some (.ref a.Kind)
  c_SayError : mg "SayError" = some (.ref a.SayError)
  c_BadRule : mg "BadRule" = some (.ref a.BadRule)
  c_NotCovered : mg "NotCovered" = some (.ref a.NotCovered)
  c_BadParts : mg "BadParts" = some (.ref a.BadParts)
  c_BadBound : mg "BadBound" = some (.ref a.BadBound)
  c_BadMelt : mg "BadMelt" = some (.ref a.BadMelt)
  c_Twice : mg "Twice" = some (.ref a.Twice)
  c_BadRow : mg "BadRow" = some (.ref a.BadRow)
  c_BadKind : mg "BadKind" = some (.ref a.BadKind)
  c_NoKind : mg "NoKind" = some (.ref a.NoKind)
  c_NoName : mg "NoName" = some (.ref a.NoName)
  c_Unclear : mg "Unclear" = some (.ref a.Unclear)
  c_BadPairs : mg "BadPairs" = some (.ref a.BadPairs)
  c_BadText : mg "BadText" = some (.ref a.BadText)
  e_BadRow : ExD K a a.BadRow "row"
  e_NoKind : ExD K a a.NoKind "nokind"
  e_BadKind : ExD K a a.BadKind "kind"
  x_SayError : PySem.W.excIn K a.SayError [.type "ValueError", .type "Exception", .type "BaseException", .type "object"] "ValueError.__new__" = true
  k_str : PySem.W.kitOne K (.type "str") (.type "str") = some true
  k_tup : PySem.W.kitOne K (.type "tuple") (.type "tuple") = some true
  k_list : PySem.W.kitOne K (.type "list") (.type "list") = some true
  k_kind : PySem.W.kitOne K (.ref a.Kind) (.ref a.Kind) = some true
  cl : Cls K a.Tongue
  n_bound : NoAttr K a.Tongue "bound"
  n_rules : NoAttr K a.Tongue "rules"
  n_melts : NoAttr K a.Tongue "melts"
  n_kinds : NoAttr K a.Tongue "kinds"
  cl2 : Cls K a.Kind
  clc : PySem.W.findIn K (.ref a.Kind) "__class__" = some (some (.builtin "object.__class__"))
  clm : PySem.W.mroIn K a.Kind (.type "object") = some true
  n_title : NoAttr K a.Kind "title"
  n_ending : NoAttr K a.Kind "ending"
  n_turns : NoAttr K a.Kind "turns"
theorem Txt.x_BadRow {K : PySem.W.Frag} {mg : Str → Option Value} {a : Ad} (T : Txt K mg a) : ExcC K a.BadRow := T.e_BadRow.x
theorem Txt.x_NoKind {K : PySem.W.Frag} {mg : Str → Option Value} {a : Ad} (T : Txt K mg a) : ExcC K a.NoKind := T.e_NoKind.x
theorem Txt.x_BadKind {K : PySem.W.Frag} {mg : Str → Option Value} {a : Ad} (T : Txt K mg a) : ExcC K a.BadKind := T.e_BadKind.x
/-! ### words and rules as the document has them -/
def lowC (c : Nat) : Bool := decide (97 ≤ c) && decide (c ≤ 122)
def lowS (x : Str) : Bool := x.cps.toList.all lowC
def wordS (x : Str) : Bool := decide (2 ≤ x.length) && decide (x.length ≤ 10) && lowS x
/-- behind a def that changes nothing that was there -/
def Pure (v : V) (H : Hp) (Q : VK) : Prop := ∀ H', Same H H' → Q v H'
section
variable {P : Program} {w : World} {K : PySem.W.Frag} {mg : Str → Option Value} {base : Heap} {a : Ad}
abbrev DSmall (K : PySem.W.Frag) (mg : Str → Option Value) := Df K mg "small_letters" "small_letters" (top 17) ["text", "least", "most"]
/-! ### small_letters -/
def spSmall (T : Addr) : Sp := fun vs H Q _ => ∃ (x : Str) (i j : Int), vs = [.str x, .int i, .int j] ∧ x.length ≤ sizeLine ∧ H T = some (Tb T) ∧ Q (.bl (decide (i ≤ x.length) && decide ((x.length : Int) ≤ j) && lowS x)) H
theorem scSmall : FnScope ["text", "least", "most"] ["text", "least", "most"] (defScope (top 17)) := ⟨rfl, rfl, rfl, by decide +kernel, rfl, by decide +kernel, by decide +kernel⟩
theorem le1 (c d : Nat) : (!decide ([c] < [d])) = decide (d ≤ c) := by
  rw [← decide_not]
  exact decide_eq_decide.mpr (by rw [List.cons_lt_cons_iff]; simp)
theorem ok_small (D : DSmall K mg) {t : Addr} (cP : CodeK K D.cdv t) (hB : BltK base) (T : Txt K mg a) : FnOk P w K mg base CX0 2 D.f D.fd ["text", "least", "most"] (spSmall t) := by
  refine Df.ok (k := 1) D.ex scSmall (fun vs H Q E h => ?_) (fun A outer s H vs Q E hr h => ?_)
  · obtain ⟨x, i, j, rfl, _⟩ := h; rfl
  · obtain ⟨x, i, j, rfl, hx, ht, k⟩ := h
    refine ⟨_, (pss_cons (ps_if (pw_or (pt_not (pt_val (pe_callB call_isi (by rfl) T.b_isinstance boot_isinstance (pa_c (pv 0) (pa_c (pe_bltn (v := .ty "str") (by rfl) T.b_str (by rfl) rfl) pa_nil))))) (pw_or1 (pt_not (pt_chain op_le op_le (pv 1) (pe_callB call_len_str (by rfl) T.b_len boot_len (pa_c (pv 0) pa_nil)) (pv 2))))).pt
 (pss_one (ps_ret pe_bl))
 pss_nil)
 (pss_one (ps_ret (pe_allG (N := ["letter"]) (fs := []) (⟨rfl, rfl, rfl, by rfl, by rfl, trivial⟩) hB cP (hr.mono (by decide) : Room (0 + 1) _) (by rfl) T.b_all (pi_str (pv 0)) (fun _ _ _ _ _ _ _ => (pg_name (i := 0) (show List.Nodup (["letter"] : List Str) from by decide +kernel) rfl (Or.inl rfl))) (fun _ _ _ _ _ _ _ hr => (pe_chain op_le_str op_le_str pe_str (pv 0) pe_str)))))), ?_⟩
    (repeat array_get_dec)
    refine ⟨_, _, _, _, _, rfl, .v (.str x), rfl, T.k_str, ?_⟩
    (repeat array_get_dec)
    refine ⟨_, rfl, hx, ?_⟩
    (repeat array_get_dec)
    refine w_ite (fun e1 => ?_) (fun e1 => ?_)
    · (repeat array_get_dec)
      rw [e1] at k
      refine w_ite (fun e2 => ?_) (fun e2 => ?_)
      · rw [Bool.not_eq_true'] at e2
        rw [e2] at k
        (repeat array_get_dec)
        exact k
      · have e2 : decide ((x.length : Int) ≤ j) = true := by simpa using e2
        rw [e2] at k
        (repeat array_get_dec)
        refine ⟨x, rfl, all_s lowC ht rfl (fun c hc => ?_) k⟩
        (repeat array_get_dec)
        refine ⟨_, _, rfl, rfl, ?_⟩
        (repeat array_get_dec)
        show if (!decide ([c] < [97])) = true then _ else _
        rw [le1]
        refine w_ite (fun e3 => ?_) (fun e3 => ?_)
        · (repeat array_get_dec)
          refine ⟨_, _, rfl, rfl, rfl, ?_⟩
          show V.bl (!decide ([122] < [c])) = .bl (decide (97 ≤ c) && decide (c ≤ 122))
          rw [le1, e3]; rfl
        · refine ⟨rfl, ?_⟩
          show V.bl false = .bl (decide (97 ≤ c) && decide (c ≤ 122))
          rw [e3]; rfl
    · (repeat array_get_dec)
      rw [e1] at k
      exact k
/-! ### is_word, is_piece -/
abbrev DWord (K : PySem.W.Frag) (mg : Str → Option Value) := Df K mg "is_word" "is_word" (top 18) ["text"]
def spWord (t : Addr) : Sp := fun vs H Q _ => ∃ (x : Str), vs = [.str x] ∧ x.length ≤ sizeLine ∧ H t = some (Tb t) ∧ Q (.bl (wordS x)) H
theorem scWord : FnScope ["text"] ["text"] (defScope (top 18)) := ⟨rfl, rfl, rfl, by decide +kernel, rfl, by decide +kernel, by decide +kernel⟩
theorem ok_word (D : DWord K mg) (D_small_letters : DSmall K mg) {t : Addr} (G_small_letters : FnOk P w K mg base CX0 2 D_small_letters.f D_small_letters.fd ["text", "least", "most"] (spSmall t)) : FnOk P w K mg base CX0 3 D.f D.fd ["text"] (spWord t) := by
  refine Df.ok (k := 2) D.ex scWord (fun vs H Q E h => ?_) (fun A outer s H vs Q E hr h => ?_)
  · obtain ⟨x, rfl, _⟩ := h; rfl
  · obtain ⟨x, rfl, hx, ht, k⟩ := h
    refine ⟨_, (pss_one (ps_ret (pe_call G_small_letters (hr.mono (by decide)) (by rfl) D_small_letters.mg D_small_letters.kp D_small_letters.bd .nil pass0 (pa_c (pv 0) (pa_c pe_int (pa_c pe_int pa_nil)))))), ?_⟩
    (repeat array_get_dec)
    refine ⟨x, 2, 10, rfl, hx, ht, ?_⟩
    have e : (decide ((2 : Int) ≤ x.length) && decide ((x.length : Int) ≤ 10) && lowS x) = wordS x := by
      unfold wordS
      congr 1; congr 1
      · exact decide_eq_decide.mpr (by omega)
      · exact decide_eq_decide.mpr (by omega)
    rw [e]
    exact k
end
end K19

namespace K19
open PySem PySem.Spec PyProof.Rows L2
section
variable {P : Program} {w : World} {K : PySem.W.Frag} {mg : Str → Option Value} {base : Heap} {a : Ad}
/-! ### ties_fit -/
def isTie (o : Option Str) : Bool := match o with | some x => decide (x = "+") | none => false
def adjS (ys : List Str) : Bool := (List.range (ys.length - 1)).any fun i => isTie ys[i]? && isTie ys[i + 1]?
def tiesOk (ys : List Str) : Bool := !(isTie ys.head? || isTie ys.getLast?) && !adjS ys
theorem cut1 (xs : List V) : cutV xs (some 1) none = xs.drop 1 := by
  unfold cutV
  rw [HT.sIx_none, show HT.sIx xs.length 0 (some 1) = min 1 xs.length from HT.sIx_nat _ _ 1]
  cases xs with
  | nil => rfl
  | cons x r => simp
abbrev DTies (K : PySem.W.Frag) (mg : Str → Option Value) := Df K mg "ties_fit" "ties_fit" (top 19) ["pieces"]
def spTies (a : Ad) : Sp := fun vs H Q _ => ∃ (l : Addr) (ys : List Str), vs = [.ref l] ∧ H l = some (.lst (ys.map .str)) ∧ ys ≠ [] ∧ H a.tTF = some (Tb a.tTF) ∧ Pure (.bl (tiesOk ys)) H Q
theorem scTies : FnScope ["pieces"] ["pieces"] (defScope (top 19)) := ⟨rfl, rfl, rfl, by decide +kernel, rfl, by decide +kernel, by decide +kernel⟩
theorem atI_lastS {ys : List Str} (h : ys ≠ []) : atI (ys.map V.str) (-1) = some (.str (ys.getLast h)) := by
  have e : ys.map V.str = (ys.dropLast).map V.str ++ [.str (ys.getLast h)] := by
    conv => lhs; rw [← List.dropLast_concat_getLast h]
    rw [List.map_append]; rfl
  rw [e]
  exact atI_last _ _
theorem ok_ties (D : DTies K mg) (cP : CodeK K D.cdv a.tTF) (hB : BltK base) (T : Txt K mg a) : FnOk P w K mg base CX0 2 D.f D.fd ["pieces"] (spTies a) := by
  refine Df.ok (k := 1) D.ex scTies (fun vs H Q E h => ?_) (fun A outer s H vs Q E hr h => ?_)
  · obtain ⟨l, ys, rfl, _⟩ := h; rfl
  · obtain ⟨l, ys, rfl, hl, hne, ht, k⟩ := h
    obtain ⟨tt, hT⟩ := T.c_TIE'
    obtain ⟨y0, r, rfl⟩ : ∃ y0 r, ys = y0 :: r := by
      cases ys with
      | nil => exact absurd rfl hne
      | cons y r => exact ⟨y, r, rfl⟩
    refine ⟨_, (pss_cons (ps_if (pw_or (pt_cmpR op_eq (pe_ix ix_list (pv 0) pe_int (fun _ _ => rfl)) (pe_glob (v := .str "+") (by rfl) hT ⟨_, rfl⟩) (nomark _)) (pw_or1 (pt_cmpR op_eq (pe_ix ix_list (pv 0) (pe_un un_neg pe_int) (fun _ _ => rfl)) (pe_glob (v := .str "+") (by rfl) hT ⟨_, rfl⟩) (nomark _)))).pt
 (pss_one (ps_ret pe_bl))
 pss_nil)
 (pss_one (ps_ret (pe_not (pe_anyG (N := ["ahead", "behind"]) (fs := []) (⟨rfl, rfl, rfl, by rfl, by rfl, trivial⟩) hB cP (hr.mono (by decide) : Room (0 + 1) _) (by rfl) T.b_any (pi_zip (by rfl) T.b_zip boot_zip (pa_c (pv 0) (pa_c (pe_slice sl_list (pv 0) (po_some pe_int) po_none) pa_nil))) (fun _ _ _ _ _ _ _ => (pg_tupK K (n := 2) rfl (pgs_cons (pg_name (i := 0) (show List.Nodup (["ahead", "behind"] : List Str) from by decide +kernel) rfl (Or.inl rfl)) (pgs_cons (pg_name (i := 1) (show List.Nodup (["ahead", "behind"] : List Str) from by decide +kernel) rfl (Or.inl rfl)) pgs_nil)))) (fun _ _ _ _ _ _ _ hr => (pe_and (pe_cmpR op_eq (pv 0) (pe_glob (v := .str "+") (by rfl) hT ⟨_, rfl⟩) (nomark _)) (pe_one (pe_cmpR op_eq (pv 1) (pe_glob (v := .str "+") (by rfl) hT ⟨_, rfl⟩) (nomark _)))))))))), ?_⟩
    (repeat array_get_dec)
    refine ⟨l, _, 0, .str y0, rfl, rfl, SqL.of hl, atI_nat (j := 0) rfl, ?_⟩
    (repeat array_get_dec)
    have kF : decide (y0 = "+") = true ∨ decide ((y0 :: r).getLast hne = "+") = true → Q (.bl false) H := fun z => by
      have e : tiesOk (y0 :: r) = false := by
        unfold tiesOk
        rw [List.getLast?_eq_some_getLast hne]
        rcases z with z | z
        · simp [isTie, z, of_decide_eq_true z]
        · simp [isTie, of_decide_eq_true z]
      have := k H (Same.refl H)
      rw [e] at this
      exact this
    refine w_ite (fun z1 => ?_) (fun z1 => ?_)
    · (repeat array_get_dec)
      exact kF (.inl z1)
    (repeat array_get_dec)
    refine ⟨l, _, -1, _, rfl, rfl, SqL.of hl, atI_lastS hne, ?_⟩
    (repeat array_get_dec)
    refine w_ite (fun z2 => ?_) (fun z2 => ?_)
    · (repeat array_get_dec)
      exact kF (.inr z2)
    (repeat array_get_dec)
    refine ⟨l, _, rfl, SqL.of hl, fun p hp => ?_⟩
    (repeat array_get_dec)
    have s1 : Same H (upd H p (.lst (cutV ((y0 :: r).map V.str) (some 1) none))) := Same.upd hp
    refine ⟨l, p, rfl, ⟨_, SqL.of (s1 _ _ hl)⟩, ⟨_, SqL.of upd_same⟩, any_z (K := K) (Q := fun v H2 => ∃ c, v = .bl c ∧ Q (.bl !c) H2) (n := r.length) (fun i => isTie (y0 :: r)[i]? && isTie (y0 :: r)[i + 1]?) (SqL.of (s1 _ _ hl)) (SqL.of upd_same) (by simp) (by rw [cut1]; simp) (.inr (by rw [cut1]; simp)) (s1 _ _ ht) (fun i x y H5 hi e1 e2 s5 => ?_) (fun H2 s2 => ?_)⟩
    · rw [cut1, List.getElem?_drop, List.getElem?_map] at e2
      rw [List.getElem?_map] at e1
      obtain ⟨u, hu, rfl⟩ := Option.map_eq_some_iff.mp e1
      obtain ⟨v, hv, rfl⟩ := Option.map_eq_some_iff.mp e2
      have hv : (y0 :: r)[i + 1]? = some v := by rw [Nat.add_comm]; exact hv
      show tAndV _ _ _ _ _
      rw [hu, hv]
      (repeat array_get_dec)
      refine w_ite (fun z3 => ?_) (fun z3 => ?_)
      · (repeat array_get_dec)
        exact ⟨s5, by show V.bl _ = V.bl (decide (u = "+") && decide (v = "+")); rw [z3]; rfl⟩
      · exact ⟨s5, by show V.bl _ = V.bl (decide (u = "+") && decide (v = "+")); rw [z3]; rfl⟩
    · (repeat array_get_dec)
      have e : tiesOk (y0 :: r) = !anyN r.length (fun i => isTie (y0 :: r)[i]? && isTie (y0 :: r)[i + 1]?) := by
        have y1 : isTie (y0 :: r).head? = false := z1
        have y2 : isTie (y0 :: r).getLast? = false := by rw [List.getLast?_eq_some_getLast hne]; exact z2
        unfold tiesOk
        rw [y1, y2]
        rfl
      rw [← e]
      exact k H2 (s1.trans s2)
end
end K19

namespace K19
open PySem PySem.Spec PyProof.Rows L2
section
variable {P : Program} {w : World} {K : PySem.W.Frag} {mg : Str → Option Value} {base : Heap} {a : Ad}
/-! ### is_row -/
def rowP (x : Str) : Bool := decide (x = "+") || wordS x
def rowOk (ys : List Str) : Bool := !ys.isEmpty && ys.all rowP && tiesOk ys
abbrev DRow (K : PySem.W.Frag) (mg : Str → Option Value) := Df K mg "is_row" "is_row" (top 29) ["row"]
def spRow (a : Ad) : Sp := fun vs H Q _ => ∃ (l : Addr) (ys : List Str), vs = [.ref l] ∧ H l = some (.lst (ys.map .str)) ∧ (∀ y ∈ ys, y.length ≤ sizeLine) ∧ H a.tSL = some (Tb a.tSL) ∧ H a.tTF = some (Tb a.tTF) ∧ H a.tIR = some (Tb a.tIR) ∧ Pure (.bl (rowOk ys)) H Q
theorem scRow : FnScope ["row"] ["row"] (defScope (top 29)) := ⟨rfl, rfl, rfl, by decide +kernel, rfl, by decide +kernel, by decide +kernel⟩
def qR (v : V) : Bool := match v with | .str x => rowP x | _ => false
theorem ok_row (D : DRow K mg) (cP : CodeK K D.cdv a.tIR) (hB : BltK base) (D_is_word : DWord K mg) (G_is_word : FnOk P w K mg base CX0 3 D_is_word.f D_is_word.fd ["text"] (spWord a.tSL)) (D_ties_fit : DTies K mg) (G_ties_fit : FnOk P w K mg base CX0 2 D_ties_fit.f D_ties_fit.fd ["pieces"] (spTies a)) (T : Txt K mg a) : FnOk P w K mg base CX0 6 D.f D.fd ["row"] (spRow a) := by
  refine Df.ok (k := 5) D.ex scRow (fun vs H Q E h => ?_) (fun A outer s H vs Q E hr h => ?_)
  · obtain ⟨l, ys, rfl, _⟩ := h; rfl
  · obtain ⟨l, ys, rfl, hl, hz, tSL, tTF, tIR, k⟩ := h
    obtain ⟨tt, hT⟩ := T.c_TIE'
    unfold rowOk at k
    refine ⟨_, (pss_cons (ps_if (pw_or (pt_not (pt_truth (pv 0) (by intro _; rfl))) (pw_or1 (pt_not (pt_val (pe_allG (N := ["text"]) (fs := []) (⟨rfl, rfl, rfl, by rfl, by rfl, trivial⟩) hB cP (hr.mono (by decide) : Room (4 + 1) _) (by rfl) T.b_all (pi_list (pv 0)) (fun _ _ _ _ _ _ _ => by exact (pg_name (i := 0) (show List.Nodup (["text"] : List Str) from by decide +kernel) rfl (Or.inl rfl))) (fun _ _ _ _ _ _ _ hr => by exact (pe_or (pe_cmpR op_eq (pv 0) (pe_glob (v := .str "+") (by rfl) hT ⟨_, rfl⟩) (nomark _)) (pe_one (pe_call G_is_word (hr.mono (by decide)) (by rfl) D_is_word.mg D_is_word.kp D_is_word.bd .nil pass0 (pa_c (pv 0) pa_nil)))))))))).pt
 (pss_one (ps_ret pe_bl))
 pss_nil)
 (pss_one (ps_ret (pe_call G_ties_fit (hr.mono (by decide)) (by rfl) D_ties_fit.mg D_ties_fit.kp D_ties_fit.bd .nil pass0 (pa_c (pv 0) pa_nil))))), ?_⟩
    (repeat array_get_dec)
    refine ⟨_, .inl ⟨_, SqL.of hl, rfl⟩, ?_⟩
    rw [List.isEmpty_map]
    cases he : ys.isEmpty with
    | true =>
      rw [he] at k
      simp only [Bool.not_false, Bool.not_true]
      (repeat array_get_dec)
      exact k H (Same.refl _)
    | false =>
      rw [he] at k
      have hne : ys ≠ [] := by intro z; rw [z] at he; cases he
      simp only [Bool.not_false, Bool.not_true]
      (repeat array_get_dec)
      refine ⟨l, rfl, ⟨_, SqL.of hl⟩, all_lB qR (SqL.of hl) tIR rfl (fun v hv => ?_) ?_⟩
      · obtain ⟨x, hx, rfl⟩ := List.mem_map.mp hv
        (repeat array_get_dec)
        refine w_ite (fun z => ?_) (fun z => ?_)
        · exact ⟨rfl, by show V.bl true = V.bl (decide (x = "+") || wordS x); rw [z]; rfl⟩
        · (repeat array_get_dec)
          refine ⟨x, rfl, hz x hx, tSL, rfl, ?_⟩
          show V.bl (wordS x) = V.bl (decide (x = "+") || wordS x)
          rw [z]; rfl
      · have ea : (ys.map V.str).all qR = ys.all rowP := by rw [List.all_map]; rfl
        rw [ea]
        (repeat array_get_dec)
        refine w_ite (fun z => ?_) (fun z => ?_)
        · rw [Bool.not_eq_true'] at z
          rw [z] at k
          (repeat array_get_dec)
          exact k H (Same.refl _)
        · have z : ys.all rowP = true := by simpa using z
          rw [z] at k
          (repeat array_get_dec)
          exact ⟨l, ys, rfl, hl, hne, tTF, k⟩
/-! ### own_list -/
abbrev DOwn (K : PySem.W.Frag) (mg : Str → Option Value) := Df K mg "own_list" "own_list" (top 25) ["given"]
def spOwn (K : PySem.W.Frag) : Sp := fun vs H Q _ => ∃ (v : V) (xs : List V), vs = [v] ∧ ((v = .non ∧ xs = []) ∨ ∃ p, v = .ref p ∧ SqL K H p xs) ∧ ∀ l, H l = none → Q (.ref l) (upd H l (.lst xs))
theorem scOwn : FnScope ["given"] ["given"] (defScope (top 25)) := ⟨rfl, rfl, rfl, by decide +kernel, rfl, by decide +kernel, by decide +kernel⟩
theorem ok_own (D : DOwn K mg) (T : Txt K mg a) : FnOk P w K mg base CX0 1 D.f D.fd ["given"] (spOwn K) := by
  refine Df.ok (k := 0) D.ex scOwn (fun vs H Q E h => ?_) (fun A outer s H vs Q E hr h => ?_)
  · obtain ⟨v, xs, rfl, _⟩ := h; rfl
  · obtain ⟨v, xs, rfl, hv, k⟩ := h
    refine ⟨_, (pss_one (ps_ret (pe_ifExp (pt_cmpR op_isN (pv 0) pe_non (nomark _)) (pe_lst pa_nil) (pe_callTy call_list_of (by rfl) T.b_list boot_list (pa_c (pv 0) pa_nil))))), ?_⟩
    (repeat array_get_dec)
    refine ⟨rfl, ?_⟩
    rcases hv with ⟨rfl, rfl⟩ | ⟨p, rfl, hp⟩
    · rw [decide_eq_true rfl]
      (repeat array_get_dec)
      exact ⟨by show 0 ≤ sizeLine; decide, k⟩
    · rw [decide_eq_false (by intro z; cases z)]
      (repeat array_get_dec)
      exact ⟨p, xs, rfl, .inl hp, k⟩
/-! ### is_melt -/
def low (i j : Nat) (x : Str) : Bool := decide (i ≤ x.length) && decide (x.length ≤ j) && lowS x
def meltOk (m : Str × Str × Str) : Bool := low 1 3 m.1 && low 1 3 m.2.1 && low 1 6 m.2.2 && decide (m.1.length + m.2.1.length ≤ m.2.2.length + 1)
def tupM (m : Str × Str × Str) : HO := .tup [.str m.1, .str m.2.1, .str m.2.2]
abbrev DMelt (K : PySem.W.Frag) (mg : Str → Option Value) := Df K mg "is_melt" "is_melt" (top 26) ["melt"]
def spMelt (a : Ad) : Sp := fun vs H Q _ => ∃ (t : Addr) (m : Str × Str × Str), vs = [.ref t] ∧ H t = some (tupM m) ∧ meltOk m = true ∧ H a.tSL = some (Tb a.tSL) ∧ Q (.bl true) H
theorem scMelt : FnScope ["melt", "ahead", "behind", "made"] ["melt"] (defScope (top 26)) := ⟨rfl, rfl, rfl, by decide +kernel, rfl, by decide +kernel, by decide +kernel⟩
theorem low_small {i j : Nat} {x : Str} (h : low i j x = true) : (decide ((i : Int) ≤ x.length) && decide ((x.length : Int) ≤ j) && lowS x) = true := by
  unfold low at h
  simp only [Bool.and_eq_true, decide_eq_true_eq] at h ⊢
  exact ⟨⟨by omega, by omega⟩, h.2⟩
theorem low_len {i j : Nat} {x : Str} (h : low i j x = true) : i ≤ x.length ∧ x.length ≤ j := by
  unfold low at h
  simp only [Bool.and_eq_true, decide_eq_true_eq] at h
  exact h.1
theorem meltOk_ok {m : Str × Str × Str} (h : meltOk m = true) : low 1 3 m.1 = true ∧ low 1 3 m.2.1 = true ∧ low 1 6 m.2.2 = true ∧ m.1.length + m.2.1.length ≤ m.2.2.length + 1 := by
  unfold meltOk at h
  simp only [Bool.and_eq_true, decide_eq_true_eq] at h
  exact ⟨h.1.1.1, h.1.1.2, h.1.2, h.2⟩
theorem le_line {n : Nat} (h : n ≤ 10000) : n ≤ sizeLine := Nat.le_trans h (by decide)
theorem ok_melt (D : DMelt K mg) (D_small_letters : DSmall K mg) (G_small_letters : FnOk P w K mg base CX0 2 D_small_letters.f D_small_letters.fd ["text", "least", "most"] (spSmall a.tSL)) (T : Txt K mg a) : FnOk P w K mg base CX0 3 D.f D.fd ["melt"] (spMelt a) := by
  refine Df.ok (k := 2) D.ex scMelt (fun vs H Q E h => ?_) (fun A outer s H vs Q E hr h => ?_)
  · obtain ⟨t, m, rfl, _⟩ := h; rfl
  · obtain ⟨t, ⟨x, y, z⟩, rfl, ht, hm, tSL, k⟩ := h
    obtain ⟨m1, m2, m3, m4⟩ := meltOk_ok hm
    dsimp only at m1 m2 m3 m4
    have l1 := low_len m1
    have l2 := low_len m2
    have l3 := low_len m3
    have ht : H t = some (.tup [.str x, .str y, .str z]) := ht
    refine ⟨_, (pss_cons (ps_if (pw_or (pt_not (pt_val (pe_callB call_isi (by rfl) T.b_isinstance boot_isinstance (pa_c (pv 0) (pa_c (pe_bltn (v := .ty "tuple") (by rfl) T.b_tuple (by rfl) rfl) pa_nil))))) (pw_or1 (pt_cmpR op_ne (pe_callB call_len_seq (by rfl) T.b_len boot_len (pa_c (pv 0) pa_nil)) pe_int (nomark _)))).pt
 (pss_one (ps_ret pe_bl))
 pss_nil)
 (pss_cons (ps_asg (pv 0) (pg_tup (n := 3) rfl (pgs_cons (pg_name (i := 1) (show List.Nodup (["melt", "ahead", "behind", "made"] : List Str) from by decide +kernel) rfl (Or.inl rfl)) (pgs_cons (pg_name (i := 2) (show List.Nodup (["melt", "ahead", "behind", "made"] : List Str) from by decide +kernel) rfl (Or.inl rfl)) (pgs_cons (pg_name (i := 3) (show List.Nodup (["melt", "ahead", "behind", "made"] : List Str) from by decide +kernel) rfl (Or.inl rfl)) pgs_nil)))))
 (pss_cons (ps_if (pt_not (pw_and (pt_val (pe_call G_small_letters (hr.mono (by decide)) (by rfl) D_small_letters.mg D_small_letters.kp D_small_letters.bd .nil pass0 (pa_c (pv 1) (pa_c pe_int (pa_c pe_int pa_nil))))) (pw_and (pt_val (pe_call G_small_letters (hr.mono (by decide)) (by rfl) D_small_letters.mg D_small_letters.kp D_small_letters.bd .nil pass0 (pa_c (pv 2) (pa_c pe_int (pa_c pe_int pa_nil))))) (pw_and1 (pt_val (pe_call G_small_letters (hr.mono (by decide)) (by rfl) D_small_letters.mg D_small_letters.kp D_small_letters.bd .nil pass0 (pa_c (pv 3) (pa_c pe_int (pa_c pe_int pa_nil)))))))).pt)
 (pss_one (ps_ret pe_bl))
 pss_nil)
 (pss_one (ps_ret (pe_cmpR op_ge (pe_callB call_len_str (by rfl) T.b_len boot_len (pa_c (pv 3) pa_nil)) (pe_op op_sub (pe_op op_add (pe_callB call_len_str (by rfl) T.b_len boot_len (pa_c (pv 1) pa_nil)) (pe_callB call_len_str (by rfl) T.b_len boot_len (pa_c (pv 2) pa_nil))) pe_int) (nomark _))))))), ?_⟩
    (repeat array_get_dec)
    refine ⟨_, _, _, _, _, rfl, .v (.tup ht), rfl, T.k_tup, ?_⟩
    (repeat array_get_dec)
    refine ⟨t, _, rfl, .inr (SqT.of ht), ?_⟩
    (repeat array_get_dec)
    refine w_ite (fun e => absurd e (by simp)) (fun _ => ?_)
    (repeat array_get_dec)
    refine w_gTup' (SqT.of ht) rfl ?_
    refine ⟨_, _, rfl, _, _, rfl, _, _, rfl, rfl, ?_⟩
    show tSeq _ _ _ [some (V.ref t), some (V.str x), some (V.str y), some (V.str z)] H
    (repeat array_get_dec)
    refine ⟨x, 1, 3, rfl, le_line (by omega), tSL, ?_⟩
    rw [show (decide ((1 : Int) ≤ x.length) && decide ((x.length : Int) ≤ 3) && lowS x) = true from low_small m1]
    (repeat array_get_dec)
    refine ⟨y, 1, 3, rfl, le_line (by omega), tSL, ?_⟩
    rw [show (decide ((1 : Int) ≤ y.length) && decide ((y.length : Int) ≤ 3) && lowS y) = true from low_small m2]
    (repeat array_get_dec)
    refine ⟨z, 1, 6, rfl, le_line (by omega), tSL, ?_⟩
    rw [show (decide ((1 : Int) ≤ z.length) && decide ((z.length : Int) ≤ 6) && lowS z) = true from low_small m3]
    (repeat array_get_dec)
    refine ⟨z, rfl, le_line (by omega), ?_⟩
    (repeat array_get_dec)
    refine ⟨x, rfl, le_line (by omega), ?_⟩
    (repeat array_get_dec)
    refine ⟨y, rfl, le_line (by omega), ?_⟩
    (repeat array_get_dec)
    rw [decide_eq_true (show (x.length : Int) + y.length - 1 ≤ z.length by omega)]
    exact k
end
end K19

namespace K19
open PySem PySem.Spec PyProof.Rows L2
section
variable {P : Program} {w : World} {K : PySem.W.Frag} {mg : Str → Option Value} {base : Heap} {a : Ad}
theorem mod_ge (i : Int) {j : Int} (h : 0 < j) : 0 ≤ i % j := Int.emod_nonneg _ (by omega)
theorem mod_lt (i : Int) {j : Int} (h : 0 < j) : i % j < j := Int.emod_lt_of_pos _ h
/-! ### _law_begin -/
abbrev DBegin (K : PySem.W.Frag) (mg : Str → Option Value) := Df K mg "_law_begin" "_law_begin" (top 36) ["_law_script"]
def spBegin (K : PySem.W.Frag) : Sp := fun vs H Q _ => ∃ (p : Addr) (ns : List Int), vs = [.ref p] ∧ SqL K H p (ns.map .int) ∧ ∀ q, H q = none → ∀ n : Int, 0 ≤ n → n < 2 ^ 31 → Q (.ref q) (upd H q (.lst [.int 0, .int n]))
theorem scBegin : FnScope ["_law_script", "_law_number", "_law_cell"] ["_law_script"] (defScope (top 36)) := ⟨rfl, rfl, rfl, by decide +kernel, rfl, by decide +kernel, by decide +kernel⟩
theorem ok_begin (D : DBegin K mg) : FnOk P w K mg base CX0 1 D.f D.fd ["_law_script"] (spBegin K) := by
  refine Df.ok (k := 0) D.ex scBegin (fun vs H Q E h => ?_) (fun A outer s H vs Q E hr h => ?_)
  · obtain ⟨p, ns, rfl, _⟩ := h; rfl
  · obtain ⟨p, ns, rfl, hp, k⟩ := h
    have nd := scBegin.nd
    refine ⟨_, (pss_cons (ps_set (i := 1) nd rfl (Or.inl rfl) pe_int)
 (pss_cons (ps_for PassesOwn.never rfl (pi_list (pv 0)) (pg_name (i := 2) (show List.Nodup (["_law_script", "_law_number", "_law_cell"] : List Str) from by decide +kernel) rfl (Or.inl rfl))
 (pss_one (ps_set (i := 1) nd rfl (Or.inl rfl) (pe_op op_mod (pe_op op_add (pe_op op_add (pe_op op_mul (pv 1) pe_int) (pe_op op_mod (pv 2) pe_int)) pe_int) pe_int))))
 (pss_one (ps_ret (pe_lst (pa_c pe_int (pa_c (pv 1) pa_nil))))))), ?_⟩
    (repeat array_get_dec)
    refine ⟨p, rfl, ⟨_, hp⟩, forL (K := K) (a := p) (xs := ns.map V.int) (fun i σ H2 => ∃ (n : Int) (v2 : Option V), σ = [some (V.ref p), some (V.int n), v2] ∧ H = H2 ∧ 0 ≤ n ∧ n < 2 ^ 31) ⟨7, none, rfl, rfl, by decide, by decide⟩ (fun i σ H2 _ ⟨_, _, _, e, _⟩ => by rw [← e]; exact hp) ?_ ?_⟩
    · rintro i v σ _ hv ⟨n, v2, rfl, rfl, n0, n1⟩
      rw [List.getElem?_map] at hv
      obtain ⟨c, _, rfl⟩ := Option.map_eq_some_iff.mp hv
      (repeat array_get_dec)
      refine w_I (.inr ⟨by decide, by decide⟩) ?_
      (repeat array_get_dec)
      have m0 := mod_ge (n * 69621 + c % 2147483647 + 11) (show (0 : Int) < 2147483647 by decide)
      have m1 := mod_lt (n * 69621 + c % 2147483647 + 11) (show (0 : Int) < 2147483647 by decide)
      exact ⟨_, _, rfl, rfl, m0, by omega⟩
    · rintro σ _ ⟨n, v2, rfl, rfl, n0, n1⟩
      (repeat array_get_dec)
      exact ⟨by show 2 ≤ sizeLine; decide, fun q hq => k q hq n n0 n1⟩
/-! ### _law_next -/
abbrev DNext (K : PySem.W.Frag) (mg : Str → Option Value) := Df K mg "_law_next" "_law_next" (top 37) ["_law_script", "_law_at"]
def spNext (K : PySem.W.Frag) : Sp := fun vs H Q _ => ∃ (p q : Addr) (ns : List Int) (c : Nat), vs = [.ref p, .ref q] ∧ Scr K q H p ns ∧ ns.length ≤ 63 ∧ AtOk H q c ∧ c ≤ 1000000 ∧ ∀ H' (r : Int), 0 ≤ r → r < 2 ^ 30 → KB q H H' → AtOk H' q (c + 1) → Q (.int r) H'
theorem scNext : FnScope ["_law_script", "_law_at", "_law_cell"] ["_law_script", "_law_at"] (defScope (top 37)) := ⟨rfl, rfl, rfl, by decide +kernel, rfl, by decide +kernel, by decide +kernel⟩
theorem ok_next (D : DNext K mg) (T : Txt K mg a) : FnOk P w K mg base CX0 1 D.f D.fd ["_law_script", "_law_at"] (spNext K) := by
  refine Df.ok (k := 0) D.ex scNext (fun vs H Q E h => ?_) (fun A outer s H vs Q E hr h => ?_)
  · obtain ⟨p, q, ns, c, rfl, _⟩ := h; rfl
  · obtain ⟨p, q, ns, c, rfl, sc, hlen, ao, hc, k⟩ := h
    obtain ⟨i, n, hq, i0, i1, n0, n1⟩ := ao.ob
    have nd := scNext.nd
    refine ⟨_, (pss_cons (ps_asg (pe_op op_add (pe_ix ix_list (pv 1) pe_int (fun _ _ => rfl)) pe_int) (pg_sub (pv 1) pe_int set_list))
 (pss_cons (ps_set (i := 2) nd rfl (Or.inl rfl) pe_int)
 (pss_cons (ps_if (pt_cmpR op_gt (pe_callB call_len_seq (by rfl) T.b_len boot_len (pa_c (pv 0) pa_nil)) pe_int (nomark _))
 (pss_one (ps_set (i := 2) nd rfl (Or.inl rfl) (pe_ix ix_list (pv 0) (pe_op op_mod (pe_ix ix_list (pv 1) pe_int (fun _ _ => rfl)) (pe_callB call_len_seq (by rfl) T.b_len boot_len (pa_c (pv 0) pa_nil))) (fun _ _ => rfl))))
 pss_nil)
 (pss_cons (ps_asg (pe_op op_mod (pe_op op_mul (pe_op op_add (pe_op op_add (pe_ix ix_list (pv 1) pe_int (fun _ _ => rfl)) (pe_op op_mod (pv 2) pe_int)) (pe_op op_mul (pe_ix ix_list (pv 1) pe_int (fun _ _ => rfl)) (pe_ix ix_list (pv 1) pe_int (fun _ _ => rfl)))) pe_int) pe_int) (pg_sub (pv 1) pe_int set_list))
 (pss_one (ps_ret (pe_op op_fdiv (pe_ix ix_list (pv 1) pe_int (fun _ _ => rfl)) pe_int))))))), ?_⟩
    (repeat array_get_dec)
    refine ⟨q, _, 0, _, rfl, rfl, SqL.of hq, atI_nat (j := 0) rfl, ?_⟩
    (repeat array_get_dec)
    refine ⟨q, _, 0, 0, rfl, rfl, hq, rfl, ?_⟩
    have sc1 := sc.kb (KB.at (o := .lst [.int (i + 1), .int n]))
    have hq1 : (upd H q (.lst [.int (i + 1), .int n])) q = some (.lst [.int (i + 1), .int n]) := upd_same
    have kb1 : KB q H (upd H q (.lst [.int (i + 1), .int n])) := KB.at
    show tSeq _ _ _ _ (upd H q (.lst [.int (i + 1), .int n]))
    generalize upd H q (.lst [.int (i + 1), .int n]) = H1 at sc1 hq1 kb1 ⊢
    (repeat array_mem_dec)
    refine w_cut (fun σ2 H2 => ∃ ce : Int, σ2 = [some (V.ref p), some (V.ref q), some (V.int ce)] ∧ H1 = H2) (fun nx' hj => ?_) ?_
    · (repeat array_get_dec)
      refine ⟨p, _, rfl, .inl sc1.1, ?_⟩
      (repeat array_get_dec)
      refine w_ite (fun z => ?_) (fun z => ?_)
      · have z : (0 : Int) < ((ns.map V.int).length : Nat) := of_decide_eq_true z
        (repeat array_get_dec)
        refine ⟨q, _, 0, _, rfl, rfl, SqL.of hq1, atI_nat (j := 0) rfl, ?_⟩
        (repeat array_get_dec)
        refine ⟨p, _, rfl, .inl sc1.1, ?_⟩
        refine w_mod z ?_
        obtain ⟨v, hv, ev⟩ := atI_in (xs := ns.map V.int) (mod_ge (i + 1) z) (mod_lt (i + 1) z)
        obtain ⟨ce, _, rfl⟩ := List.mem_map.mp hv
        refine ⟨p, _, _, _, rfl, rfl, sc1.1, ev, ?_⟩
        (repeat array_get_dec)
        exact hj _ _ ⟨ce, rfl, rfl⟩
      · (repeat array_get_dec)
        exact hj _ _ ⟨0, rfl, rfl⟩
    · rintro σ2 _ ⟨ce, rfl, rfl⟩
      (repeat array_get_dec)
      refine ⟨q, _, 1, _, rfl, rfl, SqL.of hq1, atI_nat (j := 1) rfl, ?_⟩
      (repeat array_get_dec)
      refine ⟨q, _, 0, _, rfl, rfl, SqL.of hq1, atI_nat (j := 0) rfl, ?_⟩
      (repeat array_get_dec)
      refine ⟨q, _, 0, _, rfl, rfl, SqL.of hq1, atI_nat (j := 0) rfl, ?_⟩
      refine w_I (.inl ⟨by omega, by omega⟩) ?_
      (repeat array_get_dec)
      refine w_I (.inr ⟨by decide, by decide⟩) ?_
      (repeat array_get_dec)
      have m0 := mod_ge ((n + ce % 2147483647 + (i + 1) * (i + 1)) * 48271) (show (0 : Int) < 2147483629 by decide)
      have m1 := mod_lt ((n + ce % 2147483647 + (i + 1) * (i + 1)) * 48271) (show (0 : Int) < 2147483629 by decide)
      generalize (n + ce % 2147483647 + (i + 1) * (i + 1)) * 48271 % 2147483629 = m at m0 m1 ⊢
      refine ⟨q, _, 1, 1, rfl, rfl, hq1, rfl, ?_⟩
      have e2 : [V.int (i + 1), V.int n].set 1 (V.int m) = [V.int (i + 1), V.int m] := rfl
      rw [e2]
      (repeat array_get_dec)
      refine ⟨q, _, 1, _, rfl, rfl, SqL.of upd_same, atI_nat (j := 1) rfl, ?_⟩
      (repeat array_get_dec)
      have d0 : 0 ≤ m / 3 := Int.ediv_nonneg m0 (by decide)
      have d1 : m / 3 < 2 ^ 30 := by omega
      exact k _ _ d0 d1 (kb1.trans KB.at) ⟨i + 1, m, upd_same, by omega, by omega, m0, by omega⟩
end
end K19

namespace K19
open PySem PySem.Spec PyProof.Rows L2
section
variable {P : Program} {w : World} {K : PySem.W.Frag} {mg : Str → Option Value} {base : Heap} {a : Ad}
theorem cut_to (x : Str) (i : Int) : (Txt.slice x none (some i)).length ≤ x.length := by rw [sl_len, sl_to, List.length_take, ← sl_len]; omega
theorem cut_from (x : Str) (i : Int) : (Txt.slice x (some i) none).length ≤ x.length := by rw [sl_len, sl_from, List.length_drop, ← sl_len]; omega
theorem low_letters : (("abcdefghijklmnopqrstuvwxyz" : Str).cps.toList.all lowC) = true := by decide +kernel
theorem word_of {x : Str} (h2 : 2 ≤ x.cps.toList.length) (h10 : x.cps.toList.length ≤ 10) (hl : ∀ c ∈ x.cps.toList, lowC c = true) : wordS x = true := by
  rw [← sl_len] at h2 h10
  unfold wordS lowS
  rw [decide_eq_true h2, decide_eq_true h10, List.all_eq_true.mpr hl]; rfl
theorem letter (i : Int) : ∃ c, lowC c = true ∧ L2.atI ("abcdefghijklmnopqrstuvwxyz" : Str).cps.toList (i % 26) = some c := by
  obtain ⟨c, hc, e⟩ := atI_in (xs := ("abcdefghijklmnopqrstuvwxyz" : Str).cps.toList) (mod_ge i (show (0 : Int) < 26 by decide)) (mod_lt i (show (0 : Int) < 26 by decide))
  exact ⟨c, List.all_eq_true.mp low_letters c hc, e⟩
theorem word_len {x : Str} (h : wordS x = true) : 2 ≤ x.length ∧ x.length ≤ 10 := by
  unfold wordS at h
  simp only [Bool.and_eq_true, decide_eq_true_eq] at h
  exact h.1
/-- a list of words -/
def Words (H : Hp) (q : Addr) (ys : List Str) : Prop := H q = some (.lst (ys.map .str)) ∧ 0 < ys.length ∧ ys.length ≤ 20 ∧ ∀ y ∈ ys, wordS y = true
/-! ### _law_words -/
abbrev DWords (K : PySem.W.Frag) (mg : Str → Option Value) := Df K mg "_law_words" "_law_words" (top 38) ["_law_script", "_law_at", "_law_many"]
def spWords (K : PySem.W.Frag) : Sp := fun vs H Q _ => ∃ (p q : Addr) (ns : List Int) (c : Nat) (m : Nat), vs = [.ref p, .ref q, .int m] ∧ Scr K q H p ns ∧ ns.length ≤ 63 ∧ AtOk H q c ∧ c ≤ 1000000 ∧ 0 < m ∧ m ≤ 20 ∧ ∀ H' l ys, H l = none → KB q H H' → AtOk H' q (c + 1) → Words H' l ys → Q (.ref l) H'
abbrev nWords : List Str := ["_law_script", "_law_at", "_law_many", "_law_letters_here", "_law_n", "_law_size", "_law_spot", "_law_stem", "_law_shift"]
theorem scWords : FnScope nWords ["_law_script", "_law_at", "_law_many"] (defScope (top 38)) := ⟨rfl, rfl, rfl, by decide +kernel, rfl, by decide +kernel, by decide +kernel⟩
theorem KB.free {q l : Addr} {H H' : Hp} {c : Nat} (k : KB q H H') (ao : AtOk H' q c) (h : H' l = none) : H l = none := by
  cases e : H l with
  | none => rfl
  | some o =>
    obtain ⟨i, n, a1, _⟩ := ao.ob
    have := k l o (ne_of_none a1 h).symm e
    rw [h] at this; cases this
theorem ok_words (D : DWords K mg) (D__law_next : DNext K mg) (G__law_next : FnOk P w K mg base CX0 1 D__law_next.f D__law_next.fd ["_law_script", "_law_at"] (spNext K)) (T : Txt K mg a) : FnOk P w K mg base CX0 2 D.f D.fd ["_law_script", "_law_at", "_law_many"] (spWords K) := by
  refine Df.ok (k := 1) D.ex scWords (fun vs H Q E h => ?_) (fun A outer s H vs Q E hr h => ?_)
  · obtain ⟨p, q, ns, c, m, rfl, _⟩ := h; rfl
  · obtain ⟨p, q, ns, c, m, rfl, sc, hlen, ao, hc, m0, m1, k⟩ := h
    have nd := scWords.nd
    refine ⟨_, (pss_cons (ps_set (i := 3) nd rfl (Or.inr rfl) pe_str)
 (pss_cons (ps_set (i := 4) nd rfl (Or.inl rfl) (pe_call G__law_next (hr.mono (by decide)) (by rfl) D__law_next.mg D__law_next.kp D__law_next.bd .nil pass0 (pa_c (pv 0) (pa_c (pv 1) pa_nil))))
 (pss_cons (ps_set (i := 5) nd rfl (Or.inl rfl) (pe_op op_add pe_int (pe_op op_mod (pv 4) pe_int)))
 (pss_cons (ps_set (i := 6) nd rfl (Or.inr rfl) (pe_op op_mod (pe_op op_fdiv (pv 4) pe_int) (pv 5)))
 (pss_cons (ps_set (i := 7) nd rfl (Or.inr rfl) (pe_slice sl_str (pe_op op_mul_strC (pe_op op_add_str (pe_ix ix_str (pv 3) (pe_op op_mod (pe_op op_fdiv (pv 4) pe_int) pe_int) (fun _ _ => rfl)) (pe_ix ix_str (pv 3) (pe_op op_mod (pe_op op_fdiv (pv 4) pe_int) pe_int) (fun _ _ => rfl))) pe_int) po_none (po_some (pv 5))))
 (pss_cons (ps_set (i := 8) nd rfl (Or.inr rfl) (pe_op op_mod (pe_op op_fdiv (pv 4) pe_int) pe_int))
 (pss_one (ps_ret (pe_lc (N := ["_law_k", "_law_stem", "_law_letters_here", "_law_spot", "_law_shift"]) (fs := [(1, 7), (2, 3), (3, 6), (4, 8)]) (⟨rfl, by rfl, by rfl, by rfl, ⟨⟨_, rfl, rfl, rfl, Or.inl rfl⟩, ⟨⟨_, rfl, rfl, rfl, Or.inl rfl⟩, ⟨⟨_, rfl, rfl, rfl, Or.inl rfl⟩, ⟨⟨_, rfl, rfl, rfl, Or.inl rfl⟩, trivial⟩⟩⟩⟩⟩) rfl (pi_range1 (by rfl) T.b_range (pa_c (pv 2) pa_nil)) (fun _ _ _ _ _ => (pg_name (i := 0) (show List.Nodup (["_law_k", "_law_stem", "_law_letters_here", "_law_spot", "_law_shift"] : List Str) from by decide +kernel) rfl (Or.inl rfl))) (fun _ _ _ _ _ => by exact pts_nil) (fun _ _ _ _ _ => by exact (pe_op op_add_str (pe_op op_add_str (pe_slice sl_str (pv 1) po_none (po_some (pv 3))) (pe_ix ix_str (pv 2) (pe_op op_mod (pe_op op_add (pv 4) (pv 0)) pe_int) (fun _ _ => rfl))) (pe_slice sl_str (pv 1) (po_some (pe_op op_add (pv 3) pe_int)) po_none)))))))))))), ?_⟩
    (repeat array_get_dec)
    refine ⟨p, q, ns, c, rfl, sc, hlen, ao, hc, fun H1 n n0 n1 kb1 ao1 => ?_⟩
    (repeat array_get_dec)
    have s0 := mod_ge n (show (0 : Int) < 9 by decide)
    have s1 := mod_lt n (show (0 : Int) < 9 by decide)
    generalize hsz : 2 + n % 9 = sz
    have hs2 : 2 ≤ sz := by omega
    have hs10 : sz ≤ 10 := by omega
    refine w_mod (by omega) ?_
    (repeat array_get_dec)
    have p0 := mod_ge (n / 9) (show (0 : Int) < sz by omega)
    have p1 := mod_lt (n / 9) (show (0 : Int) < sz by omega)
    generalize n / 9 % sz = sp at p0 p1 ⊢
    obtain ⟨c1, lc1, e1⟩ := letter (n / 81)
    obtain ⟨c2, lc2, e2⟩ := letter (n / 2106)
    refine ⟨_, _, c1, rfl, rfl, by decide, e1, ?_⟩
    (repeat array_get_dec)
    refine ⟨_, _, c2, rfl, rfl, by decide, e2, ?_⟩
    refine ⟨_, _, rfl, rfl, by show 1 + 1 ≤ sizeLine; decide, ?_⟩
    (repeat array_get_dec)
    refine ⟨_, 5, rfl, rfl, by decide, by decide, by rw [st_len]; show 1 + 1 ≤ 256; decide, fun r hr1 hr2 => ?_⟩
    rw [st_len] at hr1
    have hr1 : (r.length : Int) = (1 + 1 : Nat) * 5 := hr1
    have rl : r.length = 10 := by omega
    have rlow : ∀ c ∈ r.cps.toList, lowC c = true := fun c hc => by
      have := hr2 c hc
      rw [st_cps] at this
      rcases List.mem_append.mp this with h | h
      · have : c = c1 := by simpa using h
        rw [this]; exact lc1
      · have : c = c2 := by simpa using h
        rw [this]; exact lc2
    clear hr1 hr2
    (repeat array_get_dec)
    refine ⟨r, rfl, le_line (by omega), ?_⟩
    generalize hst : Txt.slice r none (some sz) = st
    have stc : st.cps.toList = r.cps.toList.take sz.toNat := by
      rw [← hst, sl_to]
      unfold cl
      rw [if_neg (by omega), rl, Nat.min_eq_left (by omega)]
    have stl : st.cps.toList.length = sz.toNat := by rw [stc, List.length_take, ← sl_len, rl]; omega
    have stw : ∀ c ∈ st.cps.toList, lowC c = true := fun c hc => by rw [stc] at hc; exact rlow c (List.mem_of_mem_take hc)
    clear hst stc rlow rl
    (repeat array_get_dec)
    generalize n / 54756 % 26 = sh
    refine ⟨_, rfl, by omega, by omega, lcG (fun i zs => ∃ ys : List Str, zs = ys.map V.str ∧ ys.length = i ∧ ∀ y ∈ ys, wordS y = true) (tells_r (lo := 0) (n := ((m : Nat) : Int).toNat)) (by rw [Int.toNat_natCast]; exact le_line (by omega)) ⟨[], rfl, rfl, fun _ h => (nomatch h)⟩ (fun D i zs H2 hi hD s2 e2 r2 => ?_) (fun D H2 zs hD s2 e2 r2 => ?_)⟩
    · obtain ⟨ys, rfl, hl, hw⟩ := r2
      (repeat array_get_dec)
      refine ⟨mono0 rfl, ?_⟩
      (repeat array_get_dec)
      refine ⟨st, rfl, le_line (by rw [sl_len, stl]; omega), ?_⟩
      obtain ⟨c3, lc3, e3⟩ := letter (sh + (0 + i))
      (repeat array_get_dec)
      refine ⟨_, _, c3, rfl, rfl, by decide, e3, ?_⟩
      have k1 := cut_to st sp
      have k2 := cut_from st (sp + 1)
      have stl' : st.length = sz.toNat := by rw [sl_len]; exact stl
      refine ⟨_, _, rfl, rfl, by show _ + 1 ≤ _; exact le_line (by omega), ?_⟩
      (repeat array_get_dec)
      refine ⟨st, rfl, le_line (by omega), ?_⟩
      refine ⟨_, _, rfl, rfl, by rw [st_len]; show _ + 1 + _ ≤ _; exact le_line (by omega), ?_⟩
      refine lcFin hD s2 e2 (Same.refl _) ⟨ys ++ [_], by rw [List.map_append]; rfl, by rw [List.length_append, hl]; rfl, fun y hy => ?_⟩
      rcases List.mem_append.mp hy with hy | hy
      · exact hw y hy
      · rw [List.mem_singleton] at hy
        have ec : y.cps.toList = st.cps.toList.take sp.toNat ++ [c3] ++ st.cps.toList.drop (sp.toNat + 1) := by
          rw [hy, st_cps, st_cps, sl_to, sl_from]
          have c1 : cl st.length sp = sp.toNat := by unfold cl; rw [if_neg (by omega), Nat.min_eq_left (by omega)]
          have c2 : cl st.length (sp + 1) = sp.toNat + 1 := by unfold cl; rw [if_neg (by omega), Nat.min_eq_left (by omega)]; omega
          rw [c1, c2]
        refine word_of ?_ ?_ fun c hc => ?_
        · rw [ec]; simp only [List.length_append, List.length_take, List.length_drop, List.length_singleton, stl]; omega
        · rw [ec]; simp only [List.length_append, List.length_take, List.length_drop, List.length_singleton, stl]; omega
        · rw [ec] at hc
          rcases List.mem_append.mp hc with hc | hc
          · rcases List.mem_append.mp hc with hc | hc
            · exact stw c (List.mem_of_mem_take hc)
            · rw [List.mem_singleton] at hc; rw [hc]; exact lc3
          · exact stw c (List.mem_of_mem_drop hc)
    · obtain ⟨ys, rfl, hl, hw⟩ := r2
      rw [Int.toNat_natCast] at hl
      exact k H2 D ys (KB.free kb1 ao1 hD) (kb1.trans (.of s2)) (ao1.same s2) ⟨e2, by omega, by omega, hw⟩
end
end K19

namespace L2
open PySem PySem.Spec PyProof.Rows
end L2
namespace K19
open PySem PySem.Spec PyProof.Rows L2
section
variable {P : Program} {w : World} {K : PySem.W.Frag} {mg : Str → Option Value} {base : Heap} {a : Ad}
theorem Words.ne {H : Hp} {l q : Addr} {ys : List Str} {c : Nat} (h : Words H l ys) (ao : AtOk H q c) : l ≠ q := fun e => by
  obtain ⟨i, n, hq, _⟩ := ao.ob
  obtain ⟨h1, h2, _⟩ := h
  rw [e, hq] at h1
  cases ys with
  | nil => exact absurd h2 (by decide)
  | cons y r => injection h1 with h1; injection h1 with h1; injection h1 with h1 _; cases h1
theorem Words.kb {H H' : Hp} {l q : Addr} {ys : List Str} {c : Nat} (h : Words H l ys) (ao : AtOk H q c) (k : KB q H H') : Words H' l ys := ⟨k _ _ (h.ne ao) h.1, h.2⟩
theorem Words.pick {H : Hp} {l : Addr} {ys : List Str} (h : Words H l ys) (i : Int) : ∃ y ∈ ys, atI (ys.map V.str) (i % ((ys.map V.str).length : Nat)) = some (.str y) := by
  have hp : (0 : Int) < ((ys.map V.str).length : Nat) := by rw [List.length_map]; have := h.2.1; omega
  obtain ⟨v, hv, e⟩ := atI_in (xs := ys.map V.str) (mod_ge i hp) (mod_lt i hp)
  obtain ⟨y, hy, rfl⟩ := List.mem_map.mp hv
  exact ⟨y, hy, e⟩
theorem Words.pos {H : Hp} {l : Addr} {ys : List Str} (h : Words H l ys) : (0 : Int) < ((ys.map V.str).length : Nat) := by rw [List.length_map]; have := h.2.1; omega
end
end K19

namespace K19
open PySem PySem.Spec PyProof.Rows L2
section
variable {P : Program} {w : World} {K : PySem.W.Frag} {mg : Str → Option Value} {base : Heap} {a : Ad}
/-! ### what a row has no ties at -/
end
end K19

namespace K19
open PySem PySem.Spec PyProof.Rows L2
section
variable {P : Program} {w : World} {K : PySem.W.Frag} {mg : Str → Option Value} {base : Heap} {a : Ad}
/-! ### rows, by their places -/
theorem isTie_iff {o : Option Str} : isTie o = true ↔ o = some ("+" : Str) := by
  cases o with
  | none => exact ⟨fun h => (by cases h), fun h => (by cases h)⟩
  | some x => exact ⟨fun h => (by rw [of_decide_eq_true h]), fun h => decide_eq_true (Option.some.inj h)⟩
theorem row_iff {ys : List Str} : rowOk ys = true ↔ ys ≠ [] ∧ (∀ y ∈ ys, rowP y = true) ∧ ys[0]? ≠ some ("+" : Str) ∧ ys[ys.length - 1]? ≠ some ("+" : Str) ∧ ∀ i, ¬ (ys[i]? = some ("+" : Str) ∧ ys[i + 1]? = some ("+" : Str)) := by
  unfold rowOk tiesOk adjS
  rw [Bool.and_eq_true, Bool.and_eq_true, Bool.and_eq_true, Bool.not_eq_true', Bool.not_eq_true', Bool.not_eq_true', Bool.or_eq_false_iff, List.head?_eq_getElem?, List.getLast?_eq_getElem?, List.all_eq_true, List.any_eq_false]
  have f : ∀ o : Option Str, isTie o = false ↔ o ≠ some ("+" : Str) := fun o => by rw [Ne, ← isTie_iff, Bool.not_eq_true]
  rw [f, f]
  constructor
  · rintro ⟨⟨h1, h2⟩, ⟨h3, h4⟩, h5⟩
    refine ⟨fun e => (by rw [e] at h1; cases h1), h2, h3, h4, fun i ⟨e1, e2⟩ => ?_⟩
    have hl : i + 1 < ys.length := (List.getElem?_eq_some_iff.mp e2).1
    have := h5 i (List.mem_range.mpr (by omega))
    rw [isTie_iff.mpr e1, isTie_iff.mpr e2] at this
    exact this rfl
  · rintro ⟨h1, h2, h3, h4, h5⟩
    refine ⟨⟨by cases ys with | nil => exact absurd rfl h1 | cons _ _ => rfl, h2⟩, ⟨h3, h4⟩, fun i hi => ?_⟩
    intro z
    rw [Bool.and_eq_true, isTie_iff, isTie_iff] at z
    exact h5 i z
theorem word_row {x : Str} (h : wordS x = true) : rowP x = true ∧ x ≠ "+" := by
  refine ⟨by unfold rowP; rw [h, Bool.or_true], fun e => ?_⟩
  have := (word_len h).1
  rw [e, show (("+" : Str)).length = 1 by decide] at this
  omega
theorem row_one {x : Str} (h : wordS x = true) : rowOk [x] = true := by
  obtain ⟨h1, h2⟩ := word_row h
  refine row_iff.mpr ⟨by simp, fun y hy => by rw [List.mem_singleton] at hy; rw [hy]; exact h1, fun e => h2 (Option.some.inj e), fun e => h2 (Option.some.inj e), fun i e => ?_⟩
  have := (List.getElem?_eq_some_iff.mp e.2).1
  simp at this
theorem row_add {ys : List Str} {x : Str} (h : rowOk ys = true) (hx : wordS x = true) (b : Bool) : rowOk (if b then (ys ++ [("+" : Str)]) ++ [x] else ys ++ [x]) = true := by
  obtain ⟨h1, h2, h3, h4, h5⟩ := row_iff.mp h
  obtain ⟨x1, x2⟩ := word_row hx
  have hp : 0 < ys.length := List.length_pos_iff.mpr h1
  have pt : rowP ("+" : Str) = true := by decide
  cases b with
  | false =>
    refine row_iff.mpr ⟨by simp, fun y hy => ?_, ?_, ?_, fun i ⟨e1, e2⟩ => ?_⟩
    · rcases List.mem_append.mp hy with y1 | y1
      · exact h2 y y1
      · rw [List.mem_singleton] at y1; rw [y1]; exact x1
    · show (ys ++ [x])[0]? ≠ _
      rw [List.getElem?_append_left hp]; exact h3
    · show (ys ++ [x])[(ys ++ [x]).length - 1]? ≠ _
      rw [List.length_append, List.length_singleton, Nat.add_sub_cancel, List.getElem?_append_right (Nat.le_refl _), Nat.sub_self]
      exact fun e => x2 (Option.some.inj e)
    · have e1 : (ys ++ [x])[i]? = some ("+" : Str) := e1
      have e2 : (ys ++ [x])[i + 1]? = some ("+" : Str) := e2
      have hl := (List.getElem?_eq_some_iff.mp e2).1
      rw [List.length_append, List.length_singleton] at hl
      rcases Nat.lt_or_ge (i + 1) ys.length with z | z
      · rw [List.getElem?_append_left z] at e2
        rw [List.getElem?_append_left (by omega)] at e1
        exact h5 i ⟨e1, e2⟩
      · have : i + 1 = ys.length := by omega
        rw [this, List.getElem?_append_right (Nat.le_refl _), Nat.sub_self] at e2
        exact x2 (Option.some.inj e2)
  | true =>
    have l2 : ((ys ++ [("+" : Str)]) ++ [x]).length = ys.length + 2 := by simp
    have at0 : ∀ i, i < ys.length → ((ys ++ [("+" : Str)]) ++ [x])[i]? = ys[i]? := fun i hi => by rw [List.getElem?_append_left (by simp; omega), List.getElem?_append_left hi]
    have at2 : ((ys ++ [("+" : Str)]) ++ [x])[ys.length + 1]? = some x := by
      rw [List.getElem?_append_right (by simp)]
      simp
    refine row_iff.mpr ⟨by simp, fun y hy => ?_, ?_, ?_, fun i ⟨e1, e2⟩ => ?_⟩
    · rcases List.mem_append.mp (show y ∈ (ys ++ [("+" : Str)]) ++ [x] from hy) with y1 | y1
      · rcases List.mem_append.mp y1 with y2 | y2
        · exact h2 y y2
        · rw [List.mem_singleton] at y2; rw [y2]; exact pt
      · rw [List.mem_singleton] at y1; rw [y1]; exact x1
    · show ((ys ++ [("+" : Str)]) ++ [x])[0]? ≠ _
      rw [at0 0 hp]; exact h3
    · show ((ys ++ [("+" : Str)]) ++ [x])[((ys ++ [("+" : Str)]) ++ [x]).length - 1]? ≠ _
      rw [l2, show ys.length + 2 - 1 = ys.length + 1 by omega, at2]
      exact fun e => x2 (Option.some.inj e)
    · have e1 : ((ys ++ [("+" : Str)]) ++ [x])[i]? = some ("+" : Str) := e1
      have e2 : ((ys ++ [("+" : Str)]) ++ [x])[i + 1]? = some ("+" : Str) := e2
      have hl := (List.getElem?_eq_some_iff.mp e2).1
      rw [l2] at hl
      rcases Nat.lt_or_ge (i + 1) ys.length with z | z
      · rw [at0 _ z] at e2
        rw [at0 _ (by omega)] at e1
        exact h5 i ⟨e1, e2⟩
      · rcases Nat.eq_or_lt_of_le z with z | z
        · rw [at0 i (by omega)] at e1
          rw [show i = ys.length - 1 by omega] at e1
          exact h4 e1
        · rw [show i + 1 = ys.length + 1 by omega, at2] at e2
          exact x2 (Option.some.inj e2)
/-! ### _law_row -/
abbrev DLR (K : PySem.W.Frag) (mg : Str → Option Value) := Df K mg "_law_row" "_law_row" (top 39) ["_law_script", "_law_at", "_law_words_here", "_law_many"]
def spLR (K : PySem.W.Frag) : Sp := fun vs H Q _ => ∃ (p q l : Addr) (ns : List Int) (c : Nat) (ws : List Str) (m : Int), vs = [.ref p, .ref q, .ref l, .int m] ∧ Scr K q H p ns ∧ ns.length ≤ 63 ∧ AtOk H q c ∧ c ≤ 800000 ∧ Words H l ws ∧ 1 ≤ m ∧ m ≤ 41 ∧ ∀ H' r ys, H r = none → KB q H H' → AtOk H' q (c + 100) → H' r = some (.lst (ys.map .str)) → rowOk ys = true → ys.length ≤ 90 → (∀ y ∈ ys, y.length ≤ 20) → Q (.ref r) H'
abbrev nLR : List Str := ["_law_script", "_law_at", "_law_words_here", "_law_many", "_law_row_here", "_law_k"]
theorem scLR : FnScope nLR ["_law_script", "_law_at", "_law_words_here", "_law_many"] (defScope (top 39)) := ⟨rfl, rfl, rfl, by decide +kernel, rfl, by decide +kernel, by decide +kernel⟩
theorem ok_lr (D : DLR K mg) (D__law_next : DNext K mg) (G__law_next : FnOk P w K mg base CX0 1 D__law_next.f D__law_next.fd ["_law_script", "_law_at"] (spNext K)) (T : Txt K mg a) : FnOk P w K mg base CX0 2 D.f D.fd ["_law_script", "_law_at", "_law_words_here", "_law_many"] (spLR K) := by
  refine Df.ok (k := 1) D.ex scLR (fun vs H Q E h => ?_) (fun A outer s H vs Q E hr h => ?_)
  · obtain ⟨p, q, l, ns, c, ws, m, rfl, _⟩ := h; rfl
  · obtain ⟨p, q, l, ns, c, ws, m, rfl, sc, hlen, ao, hc, wd, m0, m1, k⟩ := h
    have nd := scLR.nd
    have line : 1000 < sizeLine := by decide
    refine ⟨_, (pss_cons (ps_set (i := 4) nd rfl (Or.inl rfl) (pe_lst (pa_c (pe_ix ix_list (pv 2) (pe_op op_mod (pe_call G__law_next (hr.mono (by decide)) (by rfl) D__law_next.mg D__law_next.kp D__law_next.bd .nil pass0 (pa_c (pv 0) (pa_c (pv 1) pa_nil))) (pe_callB call_len_seq (by rfl) T.b_len boot_len (pa_c (pv 2) pa_nil))) (fun _ _ => rfl)) pa_nil)))
 (pss_cons (ps_for PassesOwn.never rfl (pi_range1 (by rfl) T.b_range (pa_c (pe_op op_sub (pv 3) pe_int) pa_nil)) (pg_name (i := 5) (show List.Nodup (["_law_script", "_law_at", "_law_words_here", "_law_many", "_law_row_here", "_law_k"] : List Str) from by decide +kernel) rfl (Or.inl rfl))
 (pss_cons (ps_if (pt_cmpR op_gt (pe_op op_mod (pe_call G__law_next (hr.mono (by decide)) (by rfl) D__law_next.mg D__law_next.kp D__law_next.bd .nil pass0 (pa_c (pv 0) (pa_c (pv 1) pa_nil))) pe_int) pe_int (nomark _))
 (pss_one (ps_expr (pe_bm PySem.F.plainAttrs_list PySem.F.slot_list_append PySem.F.type_list_append mt_append (pv 4) (pa_c pe_str pa_nil))))
 pss_nil)
 (pss_one (ps_expr (pe_bm PySem.F.plainAttrs_list PySem.F.slot_list_append PySem.F.type_list_append mt_append (pv 4) (pa_c (pe_ix ix_list (pv 2) (pe_op op_mod (pe_call G__law_next (hr.mono (by decide)) (by rfl) D__law_next.mg D__law_next.kp D__law_next.bd .nil pass0 (pa_c (pv 0) (pa_c (pv 1) pa_nil))) (pe_callB call_len_seq (by rfl) T.b_len boot_len (pa_c (pv 2) pa_nil))) (fun _ _ => rfl)) pa_nil))))))
 (pss_one (ps_ret (pv 4))))), ?_⟩
    (repeat array_get_dec)
    refine ⟨p, q, ns, c, rfl, sc, hlen, ao, by omega, fun H1 n n0 n1 kb1 ao1 => ?_⟩
    have wd1 := wd.kb ao kb1
    have sc1 := sc.kb kb1
    (repeat array_get_dec)
    refine ⟨l, _, rfl, .inl (SqL.of wd1.1), ?_⟩
    refine w_mod wd1.pos ?_
    obtain ⟨y1, hy1, e1⟩ := wd1.pick n
    have array_get_dec := wd.2.2.2 y1 hy1
    refine ⟨l, _, _, _, rfl, rfl, SqL.of wd1.1, e1, ?_⟩
    (repeat array_get_dec)
    refine ⟨by show 1 ≤ sizeLine; decide, fun r hr0 => ?_⟩
    have kb2 := kb1.trans (KB.put (at' := q) (o := .lst [.str y1]) hr0)
    have ao2 := ao1.same (Same.upd (o := .lst [.str y1]) hr0)
    have g2 : (upd H1 r (.lst [.str y1])) r = some (.lst ([y1].map .str)) := upd_same
    have sc2 := sc1.kb (KB.put (o := .lst [.str y1]) hr0)
    have fr : H r = none := KB.free kb1 ao1 hr0
    have nrq : r ≠ q := fun e => by obtain ⟨i, m', hq, _⟩ := ao1.ob; rw [e, hq] at hr0; cases hr0
    have nrl : l ≠ r := ne_of_none wd1.1 hr0
    have wd2 : Words (upd H1 r (.lst [.str y1])) l ws := ⟨by rw [upd_ne nrl]; exact wd1.1, wd1.2⟩
    generalize upd H1 r _ = H2 at kb2 ao2 g2 sc2 wd2 ⊢
    (repeat array_get_dec)
    refine ⟨_, rfl, by omega, by omega, ?_⟩
    refine forR (fun i σ H3 => ∃ v5 ys, σ = [some (V.ref p), some (V.ref q), some (V.ref l), some (V.int m), some (V.ref r), v5] ∧ (∀ c' o, c' ≠ q → c' ≠ r → H2 c' = some o → H3 c' = some o) ∧ AtOk H3 q (c + 1 + 2 * i) ∧ H3 r = some (.lst (ys.map .str)) ∧ rowOk ys = true ∧ ys.length ≤ 1 + 2 * i ∧ ∀ y ∈ ys, y.length ≤ 20)
      ⟨none, [y1], rfl, fun _ _ _ _ e => e, ao2, g2, row_one array_get_dec, by simp, fun y hy => by rw [List.mem_singleton] at hy; rw [hy]; have := (word_len array_get_dec).2; omega⟩ ?_ ?_
    · rintro i σ H3 hi ⟨v5, ys, rfl, k3, ao3, g3, ro, ly, hy⟩
      have sc3 : Scr K q H3 p ns := by
        refine ⟨?_, sc2.2⟩
        by_cases e : p = q
        · exact sc2.2 e H3
        · by_cases e' : p = r
          · rcases sc.1 with (z | ⟨o, z⟩) | z
            · rw [e', fr] at z; cases z
            · rw [e', fr] at z; cases z
            · exact .inr z
          · rcases sc2.1 with (z | ⟨o, z⟩) | z
            · exact .inl (.inl (k3 _ _ e e' z))
            · exact .inl (.inr ⟨o, k3 _ _ e e' z⟩)
            · exact .inr z
      have wd3 : Words H3 l ws := ⟨k3 _ _ (wd2.ne ao2) nrl wd2.1, wd2.2⟩
      (repeat array_mem_dec)
      refine w_cut (fun σ2 H4 => ∃ b : Bool, σ2 = [some (V.ref p), some (V.ref q), some (V.ref l), some (V.int m), some (V.ref r), some (V.int (0 + i))] ∧ (∀ c' o, c' ≠ q → c' ≠ r → H2 c' = some o → H4 c' = some o) ∧ Scr K q H4 p ns ∧ AtOk H4 q (c + 1 + 2 * i + 1) ∧ H4 r = some (.lst ((if b then ys ++ [("+" : Str)] else ys).map .str))) (fun nx' hj => ?_) ?_
      · (repeat array_get_dec)
        refine ⟨p, q, ns, _, rfl, sc3, hlen, ao3, by omega, fun H4 n4 _ _ kb4 ao4 => ?_⟩
        have g4 := kb4 _ _ nrq g3
        have k4 : ∀ c' o, c' ≠ q → c' ≠ r → H2 c' = some o → H4 c' = some o := fun c' o x y z => kb4 _ _ x (k3 _ _ x y z)
        (repeat array_get_dec)
        refine w_ite (fun z => ?_) (fun z => ?_)
        · (repeat array_get_dec)
          refine ⟨.inl ⟨rfl, _, SqL.of g4⟩, ?_⟩
          (repeat array_get_dec)
          refine ⟨r, _, _, rfl, rfl, g4, by rw [List.length_map]; omega, ?_⟩
          refine hj _ _ ⟨true, rfl, fun c' o x y z => by rw [upd_ne y]; exact k4 c' o x y z, ?_, ?_, by rw [upd_same]; simp⟩
          · refine ⟨?_, sc3.2⟩
            by_cases e : p = q
            · exact sc2.2 e _
            · by_cases e' : p = r
              · rcases sc.1 with (z | ⟨o, z⟩) | z
                · rw [e', fr] at z; cases z
                · rw [e', fr] at z; cases z
                · exact .inr z
              · rcases (sc3.kb kb4).1 with (z | ⟨o, z⟩) | z
                · exact .inl (.inl (by rw [upd_ne e']; exact z))
                · exact .inl (.inr ⟨o, by rw [upd_ne e']; exact z⟩)
                · exact .inr z
          · obtain ⟨i', n', hq, x⟩ := ao4.ob
            exact ⟨i', n', by rw [upd_ne (Ne.symm nrq)]; exact hq, x⟩
        · (repeat array_get_dec)
          exact hj _ _ ⟨false, rfl, k4, sc3.kb kb4, ao4, g4⟩
      · rintro σ2 H4 ⟨b, rfl, k4, sc4, ao4, g4⟩
        have wd4 : Words H4 l ws := ⟨k4 _ _ (wd2.ne ao2) nrl wd2.1, wd2.2⟩
        (repeat array_get_dec)
        refine ⟨.inl ⟨rfl, _, SqL.of g4⟩, ?_⟩
        (repeat array_get_dec)
        refine ⟨p, q, ns, _, rfl, sc4, hlen, ao4, by omega, fun H5 n5 _ _ kb5 ao5 => ?_⟩
        have g5 := kb5 _ _ nrq g4
        have wd5 := wd4.kb ao4 kb5
        (repeat array_get_dec)
        refine ⟨l, _, rfl, .inl (SqL.of wd5.1), ?_⟩
        refine w_mod wd5.pos ?_
        obtain ⟨y5, hy5, e5⟩ := wd5.pick n5
        have w5 := wd.2.2.2 y5 hy5
        refine ⟨l, _, _, _, rfl, rfl, SqL.of wd5.1, e5, ?_⟩
        have lb : (if b then ys ++ [("+" : Str)] else ys : List Str).length ≤ ys.length + 1 := by cases b <;> simp
        refine ⟨r, _, _, rfl, rfl, g5, by rw [List.length_map]; omega, ?_⟩
        have ra := row_add ro w5 b
        refine ⟨_, (if b then (ys ++ [("+" : Str)]) ++ [y5] else ys ++ [y5]), rfl, fun c' o x y z => by rw [upd_ne y]; exact kb5 _ _ x (k4 _ _ x y z), ?_, ?_, ra, ?_, fun y hyy => ?_⟩
        · obtain ⟨i', n', hq, x⟩ := ao5.ob
          exact ⟨i', n', by rw [upd_ne (Ne.symm nrq)]; exact hq, by omega⟩
        · rw [upd_same]
          cases b <;> simp
        · cases b <;> simp <;> omega
        · have l5 := (word_len w5).2
          have lt : (("+" : Str)).length = 1 := by decide
          cases b with
          | false =>
            rcases List.mem_append.mp (show y ∈ ys ++ [y5] from hyy) with z | z
            · exact hy y z
            · rw [List.mem_singleton] at z; rw [z]; omega
          | true =>
            rcases List.mem_append.mp (show y ∈ (ys ++ [("+" : Str)]) ++ [y5] from hyy) with z | z
            · rcases List.mem_append.mp z with z | z
              · exact hy y z
              · rw [List.mem_singleton] at z; rw [z, lt]; omega
            · rw [List.mem_singleton] at z; rw [z]; omega
    · rintro σ H3 ⟨v5, ys, rfl, k3, ao3, g3, ro, ly, hy⟩
      (repeat array_get_dec)
      refine k H3 r ys fr (fun c' o n' hc' => ?_) (ao3.mono (by omega)) g3 ro (by omega) hy
      exact k3 _ _ n' (ne_of_none hc' fr) (kb2 _ _ n' hc')
end
end K19

namespace K19
open PySem PySem.Spec PyProof.Rows L2
section
variable {P : Program} {w : World} {K : PySem.W.Frag} {mg : Str → Option Value} {base : Heap} {a : Ad}
theorem w_pick {H : Hp} {p : Addr} {xs : List V} {i : Int} {Q : VK} (R : V → Prop) (h : H p = some (.lst xs)) (h0 : 0 ≤ i) (h1 : i < xs.length) (hR : ∀ v ∈ xs, R v) (q : ∀ v, R v → Q v H) : rIxL K (.ref p) (.int i) H Q := by
  obtain ⟨v, hv, e⟩ := atI_in h0 h1
  exact ⟨p, xs, i, v, rfl, rfl, SqL.of h, e, q v (hR v hv)⟩
theorem cut_take (xs : List V) (n : Nat) : cutV xs none (some (n : Int)) = xs.take n := by
  unfold cutV
  rw [HT.sIx_none, HT.sIx_nat, List.drop_zero, Nat.sub_zero]
  rcases Nat.le_total n xs.length with h | h
  · rw [Nat.min_eq_left h]
  · rw [Nat.min_eq_right h, List.take_of_length_le (Nat.le_refl _), List.take_of_length_le h]
theorem cut_drop (xs : List V) (n : Nat) : cutV xs (some (n : Int)) none = xs.drop n := by
  unfold cutV
  rw [HT.sIx_none, HT.sIx_nat]
  rcases Nat.le_total n xs.length with h | h
  · rw [Nat.min_eq_left h, List.take_of_length_le (by rw [List.length_drop]; exact Nat.le_refl _)]
  · rw [Nat.min_eq_right h, List.drop_of_length_le h, List.drop_of_length_le (Nat.le_refl _)]; simp
/-! ### lists that are no row -/
def Bad (H : Hp) (z : Addr) : Prop := ∃ zs : List Str, H z = some (.lst (zs.map .str)) ∧ rowOk zs = false ∧ zs.length ≤ 190 ∧ ∀ y ∈ zs, y.length ≤ 20
theorem Bad.same {H H' : Hp} {z : Addr} (b : Bad H z) (s : Same H H') : Bad H' z := by
  obtain ⟨zs, h, r⟩ := b
  exact ⟨zs, s _ _ h, r⟩
theorem no_row {zs : List Str} (h : ¬ (zs ≠ [] ∧ (∀ y ∈ zs, rowP y = true) ∧ zs[0]? ≠ some ("+" : Str) ∧ zs[zs.length - 1]? ≠ some ("+" : Str) ∧ ∀ i, ¬ (zs[i]? = some ("+" : Str) ∧ zs[i + 1]? = some ("+" : Str)))) : rowOk zs = false := by
  rw [← Bool.not_eq_true, row_iff]; exact h
theorem no_row_mem {zs : List Str} {x : Str} (hx : x ∈ zs) (h : rowP x = false) : rowOk zs = false := no_row fun z => by
  rw [z.2.1 x hx] at h; cases h
def strs10 : List Str := ["Q", "a", "abcdefghijk", "aA", "", "a b", "++", "a1", "ab-", "N"]
theorem strs10_ok : (strs10.all fun x => !rowP x && decide (x.length ≤ 20)) = true := by decide +kernel
theorem strs_ne {H : Hp} {l q : Addr} {ys : List Str} {c : Nat} (h : H l = some (.lst (ys.map .str))) (hn : ys ≠ []) (ao : AtOk H q c) : l ≠ q := fun e => by
  obtain ⟨i, n, hq, _⟩ := ao.ob
  rw [e, hq] at h
  cases ys with
  | nil => exact hn rfl
  | cons y r => injection h with h; injection h with h; injection h with h _; cases h
/-! ### _law_bad_row -/
abbrev DLB (K : PySem.W.Frag) (mg : Str → Option Value) := Df K mg "_law_bad_row" "_law_bad_row" (top 40) ["_law_script", "_law_at", "_law_row_here"]
def spLB (K : PySem.W.Frag) : Sp := fun vs H Q _ => ∃ (p q l : Addr) (ns : List Int) (c : Nat) (ys : List Str), vs = [.ref p, .ref q, .ref l] ∧ Scr K q H p ns ∧ ns.length ≤ 63 ∧ AtOk H q c ∧ c ≤ 800000 ∧ H l = some (.lst (ys.map .str)) ∧ rowOk ys = true ∧ ys.length ≤ 90 ∧ (∀ y ∈ ys, y.length ≤ 20) ∧ ∀ H' z, KB q H H' → AtOk H' q (c + 1) → Bad H' z → Q (.ref z) H'
abbrev nLB : List Str := ["_law_script", "_law_at", "_law_row_here", "_law_n", "_law_spot", "_law_strange", "_law_some"]
theorem scLB : FnScope nLB ["_law_script", "_law_at", "_law_row_here"] (defScope (top 40)) := ⟨rfl, rfl, rfl, by decide +kernel, rfl, by decide +kernel, by decide +kernel⟩
theorem ok_lb (D : DLB K mg) (D__law_next : DNext K mg) (G__law_next : FnOk P w K mg base CX0 1 D__law_next.f D__law_next.fd ["_law_script", "_law_at"] (spNext K)) (T : Txt K mg a) : FnOk P w K mg base CX0 2 D.f D.fd ["_law_script", "_law_at", "_law_row_here"] (spLB K) := by
  refine Df.ok (k := 1) D.ex scLB (fun vs H Q E h => ?_) (fun A outer s H vs Q E hr h => ?_)
  · obtain ⟨p, q, l, ns, c, ys, rfl, _⟩ := h; rfl
  · obtain ⟨p, q, l, ns, c, ys, rfl, sc, hlen, ao, hc, hl, ro, ly, hy, k⟩ := h
    have nd := scLB.nd
    obtain ⟨r1, r2, r3, r4, r5⟩ := row_iff.mp ro
    have hp : 0 < ys.length := List.length_pos_iff.mpr r1
    have line : 1000 < sizeLine := by decide
    have lt : (("+" : Str)).length = 1 := by decide
    obtain ⟨y0, hy0⟩ : ∃ y0, ys[0]? = some y0 := ⟨ys[0], List.getElem?_eq_getElem hp⟩
    have ht1 : ys.take 1 = [y0] := by
      cases ys with
      | nil => exact absurd rfl r1
      | cons y r => cases hy0; rfl
    have y020 := hy y0 (List.mem_of_getElem? hy0)
    refine ⟨_, (pss_cons (ps_set (i := 3) nd rfl (Or.inl rfl) (pe_call G__law_next (hr.mono (by decide)) (by rfl) D__law_next.mg D__law_next.kp D__law_next.bd .nil pass0 (pa_c (pv 0) (pa_c (pv 1) pa_nil))))
 (pss_cons (ps_set (i := 4) nd rfl (Or.inl rfl) (pe_op op_mod (pe_op op_fdiv (pv 3) pe_int) (pe_op op_add (pe_callB call_len_seq (by rfl) T.b_len boot_len (pa_c (pv 2) pa_nil)) pe_int)))
 (pss_cons (ps_set (i := 5) nd rfl (Or.inl rfl) (pe_ix ix_list (pe_lstK [.str "Q", .str "a", .str "abcdefghijk", .str "aA", .str "", .str "a b", .str "++", .str "a1", .str "ab-", .str "N"]) (pe_op op_mod (pe_op op_fdiv (pv 3) pe_int) pe_int) (fun _ _ => rfl)))
 (pss_cons (ps_set (i := 6) nd rfl (Or.inl rfl) (pe_lst (pa_c (pe_lst pa_nil) (pa_c (pe_op op_cat (pe_lst (pa_c pe_str pa_nil)) (pv 2)) (pa_c (pe_op op_cat (pv 2) (pe_lst (pa_c pe_str pa_nil))) (pa_c (pe_op op_cat (pe_op op_cat (pe_slice sl_list (pv 2) po_none (po_some pe_int)) (pe_lst (pa_c pe_str (pa_c pe_str pa_nil)))) (pe_slice sl_list (pv 2) po_none (po_some pe_int))) (pa_c (pe_lst (pa_c pe_str pa_nil)) (pa_c (pe_lst (pa_c (pv 5) pa_nil)) pa_nil))))))))
 (pss_cons (ps_expr (pe_bm PySem.F.plainAttrs_list PySem.F.slot_list_extend PySem.F.type_list_extend mt_extend (pv 6) (pa_c (pe_lst (pa_c (pe_op op_cat (pe_op op_cat (pe_slice sl_list (pv 2) po_none (po_some (pv 4))) (pe_lst (pa_c (pv 5) pa_nil))) (pe_slice sl_list (pv 2) (po_some (pv 4)) po_none)) (pa_c (pe_op op_cat (pe_op op_cat (pe_slice sl_list (pv 2) po_none (po_some pe_int)) (pe_lst (pa_c pe_str pa_nil))) (pe_lst (pa_c (pv 5) pa_nil))) pa_nil))) pa_nil)))
 (pss_one (ps_ret (pe_ix ix_list (pv 6) (pe_op op_mod (pv 3) pe_int) (fun _ _ => rfl))))))))), ?_⟩
    (repeat array_get_dec)
    refine ⟨p, q, ns, c, rfl, sc, hlen, ao, by omega, fun H1 n n0 n1 kb1 ao1 => ?_⟩
    have hl1 := kb1 _ _ (strs_ne hl r1 ao) hl
    (repeat array_get_dec)
    refine ⟨l, _, rfl, .inl (SqL.of hl1), ?_⟩
    (repeat array_get_dec)
    rw [List.length_map]
    refine w_mod (by omega) ?_
    (repeat array_get_dec)
    have sp0 := mod_ge (n / 8) (show (0 : Int) < ys.length + 1 by omega)
    have sp1 := mod_lt (n / 8) (show (0 : Int) < ys.length + 1 by omega)
    generalize n / 8 % ((ys.length : Int) + 1) = sp at sp0 sp1 ⊢
    obtain ⟨k', rfl⟩ : ∃ k' : Nat, sp = (k' : Int) := ⟨sp.toNat, by omega⟩
    refine ⟨(show 10 ≤ sizeLine by decide), fun l2 h2 => ?_⟩
    (repeat array_get_dec)
    refine w_pick (fun v => ∃ x : Str, v = .str x ∧ rowP x = false ∧ x.length ≤ 20) upd_same (mod_ge _ (by decide)) (by exact mod_lt _ (by decide)) (fun v hv => ?_) fun v hv => ?_
    · obtain ⟨x, hx, rfl⟩ := List.mem_map.mp (show v ∈ strs10.map V.str from hv)
      have := List.all_eq_true.mp strs10_ok x hx
      simp only [Bool.and_eq_true, Bool.not_eq_true', decide_eq_true_eq] at this
      exact ⟨x, rfl, this⟩
    obtain ⟨x, rfl, xb, x20⟩ := hv
    have s2 : Same H1 _ := Same.upd (o := .lst [.str "Q", .str "a", .str "abcdefghijk", .str "aA", .str "", .str "a b", .str "++", .str "a1", .str "ab-", .str "N"]) h2
    generalize upd H1 l2 _ = H2 at s2 ⊢
    clear h2
    (repeat array_get_dec)
    -- []
    refine ⟨by show 0 ≤ sizeLine; decide, fun z0 hz0 => ?_⟩
    have s3 := s2.trans (Same.upd (o := .lst []) hz0)
    have b0 : Bad (upd H2 z0 (.lst [])) z0 := ⟨[], upd_same, no_row fun z => z.1 rfl, by decide, fun _ h => (nomatch h)⟩
    generalize upd H2 z0 _ = H3 at s3 b0 ⊢
    clear hz0
    (repeat array_get_dec)
    -- ['+'] + row
    refine ⟨by show 1 ≤ sizeLine; decide, fun p1 hp1 => ?_⟩
    (repeat array_get_dec)
    have s4 : Same H3 _ := Same.upd (o := .lst [.str "+"]) hp1
    refine ⟨p1, l, _, _, rfl, rfl, upd_same, s4 _ _ (s3 _ _ hl1), by rw [List.length_map]; show 1 + _ ≤ _; omega, fun z1 hz1 => ?_⟩
    have s5 := s4.trans (Same.upd (o := .lst ([.str "+"] ++ ys.map .str)) hz1)
    have b1 : Bad (upd (upd H3 p1 (.lst [.str "+"])) z1 (.lst ([.str "+"] ++ ys.map .str))) z1 := ⟨"+" :: ys, upd_same, no_row fun z => z.2.2.1 rfl, by simp; omega, fun y h => by
      rcases List.mem_cons.mp h with h | h
      · rw [h, lt]; omega
      · exact hy y h⟩
    generalize upd (upd H3 p1 _) z1 _ = H5 at s5 b1 ⊢
    clear hp1 hz1 s4
    have s15 := s3.trans s5
    (repeat array_get_dec)
    -- row + ['+']
    refine ⟨by show 1 ≤ sizeLine; decide, fun p2 hp2 => ?_⟩
    have s6 : Same H5 _ := Same.upd (o := .lst [.str "+"]) hp2
    refine ⟨l, p2, _, _, rfl, rfl, s6 _ _ (s15 _ _ hl1), upd_same, by rw [List.length_map]; show _ + 1 ≤ _; omega, fun z2 hz2 => ?_⟩
    have s7 := s6.trans (Same.upd (o := .lst (ys.map .str ++ [.str "+"])) hz2)
    have b2 : Bad (upd (upd H5 p2 (.lst [.str "+"])) z2 (.lst (ys.map .str ++ [.str "+"]))) z2 := ⟨ys ++ [("+" : Str)], by rw [upd_same, List.map_append]; rfl, no_row fun z => z.2.2.2.1 (by simp), by simp; omega, fun y h => by
      rcases List.mem_append.mp h with h | h
      · exact hy y h
      · rw [List.mem_singleton] at h; rw [h, lt]; omega⟩
    generalize upd (upd H5 p2 _) z2 _ = H7 at s7 b2 ⊢
    clear hp2 hz2 s6
    have s17 := s15.trans s7
    (repeat array_get_dec)
    -- row[:1] + ['+', '+'] + row[:1]
    refine ⟨l, _, rfl, SqL.of (s17 _ _ hl1), fun p3 hp3 => ?_⟩
    rw [show cutV (ys.map V.str) none (some 1) = [.str y0] by rw [show (some (1 : Int)) = some ((1 : Nat) : Int) from rfl, cut_take, ← List.map_take, ht1]; rfl]
    have s8 : Same H7 _ := Same.upd (o := .lst [.str y0]) hp3
    have g8 : (upd H7 p3 (.lst [.str y0])) p3 = some (.lst [.str y0]) := upd_same
    generalize upd H7 p3 _ = H8 at s8 g8 ⊢
    clear hp3
    (repeat array_get_dec)
    refine ⟨by show 2 ≤ sizeLine; decide, fun p4 hp4 => ?_⟩
    have s9 : Same H8 _ := Same.upd (o := .lst [.str "+", .str "+"]) hp4
    refine ⟨p3, p4, _, _, rfl, rfl, s9 _ _ g8, upd_same, by show 1 + 2 ≤ _; omega, fun p5 hp5 => ?_⟩
    have s10 := s9.trans (Same.upd (o := .lst [.str y0, .str "+", .str "+"]) hp5)
    have g10 : (upd (upd H8 p4 (.lst [.str "+", .str "+"])) p5 (.lst [.str y0, .str "+", .str "+"])) p5 = some (.lst [.str y0, .str "+", .str "+"]) := upd_same
    show tSl _ _ _ _ _ (upd (upd H8 p4 (.lst [.str "+", .str "+"])) p5 (.lst [.str y0, .str "+", .str "+"])) _
    generalize upd (upd H8 p4 _) p5 _ = H10 at s10 g10 ⊢
    clear hp4 hp5 s9 g8
    have s110 := s17.trans (s8.trans s10)
    (repeat array_get_dec)
    refine ⟨l, _, rfl, SqL.of (s110 _ _ hl1), fun p6 hp6 => ?_⟩
    rw [show cutV (ys.map V.str) none (some 1) = [.str y0] by rw [show (some (1 : Int)) = some ((1 : Nat) : Int) from rfl, cut_take, ← List.map_take, ht1]; rfl]
    have s11 : Same H10 _ := Same.upd (o := .lst [.str y0]) hp6
    refine ⟨p5, p6, _, _, rfl, rfl, s11 _ _ g10, upd_same, by show 3 + 1 ≤ _; omega, fun z3 hz3 => ?_⟩
    have s12 := s11.trans (Same.upd (o := .lst [.str y0, .str "+", .str "+", .str y0]) hz3)
    have b3 : Bad (upd (upd H10 p6 (.lst [.str y0])) z3 (.lst [.str y0, .str "+", .str "+", .str y0])) z3 := ⟨[y0, "+", "+", y0], upd_same, no_row fun z => z.2.2.2.2 1 ⟨rfl, rfl⟩, by simp, fun y h => by
      simp only [List.mem_cons, List.not_mem_nil, or_false] at h
      rcases h with h | h | h | h
      · rw [h]; exact y020
      · rw [h, lt]; omega
      · rw [h, lt]; omega
      · rw [h]; exact y020⟩
    have b12 : ∀ v, Q v (upd (upd H10 p6 (.lst [.str y0])) z3 (.lst [.str y0, .str "+", .str "+", .str y0])) → Q v (upd (upd H10 p6 (.lst [.str y0])) z3 (.lst ([.str y0, .str "+", .str "+"] ++ [.str y0]))) := fun _ h => h
    show tCons _ _ _ (upd (upd H10 p6 (.lst [.str y0])) z3 (.lst [.str y0, .str "+", .str "+", .str y0])) _
    generalize upd (upd H10 p6 _) z3 _ = H12 at s12 b3 ⊢
    clear hp6 hz3 s11 g10 b12
    have s112 := s110.trans s12
    (repeat array_get_dec)
    -- ['+']
    refine ⟨by show 1 ≤ sizeLine; decide, fun z4 hz4 => ?_⟩
    have s13 : Same H12 _ := Same.upd (o := .lst [.str "+"]) hz4
    have b4 : Bad (upd H12 z4 (.lst [.str "+"])) z4 := ⟨["+"], upd_same, no_row fun z => z.2.2.1 rfl, by simp, fun y h => by rw [List.mem_singleton] at h; rw [h, lt]; omega⟩
    generalize upd H12 z4 _ = H13 at s13 b4 ⊢
    clear hz4
    (repeat array_get_dec)
    -- [strange]
    refine ⟨by show 1 ≤ sizeLine; decide, fun z5 hz5 => ?_⟩
    have s14 : Same H13 _ := Same.upd (o := .lst [.str x]) hz5
    have b5 : Bad (upd H13 z5 (.lst [.str x])) z5 := ⟨[x], upd_same, no_row_mem (.head _) xb, by simp, fun y h => by rw [List.mem_singleton] at h; rw [h]; exact x20⟩
    generalize upd H13 z5 _ = H14 at s14 b5 ⊢
    clear hz5
    (repeat array_get_dec)
    refine ⟨by show 6 ≤ sizeLine; decide, fun so hso => ?_⟩
    have s16 : Same H14 _ := Same.upd (o := .lst [.ref z0, .ref z1, .ref z2, .ref z3, .ref z4, .ref z5]) hso
    have gso : (upd H14 so (.lst [.ref z0, .ref z1, .ref z2, .ref z3, .ref z4, .ref z5])) so = some (.lst [.ref z0, .ref z1, .ref z2, .ref z3, .ref z4, .ref z5]) := upd_same
    have fso : H1 so = none := (s112.trans (s13.trans s14)).free hso
    generalize upd H14 so _ = H16 at s16 gso ⊢
    clear hso
    have s116 := s112.trans (s13.trans (s14.trans s16))
    (repeat array_get_dec)
    refine ⟨.inl ⟨rfl, _, SqL.of gso⟩, ?_⟩
    (repeat array_get_dec)
    -- row[:spot] + [strange] + row[spot:]
    refine ⟨l, _, rfl, SqL.of (s116 _ _ hl1), fun q1 hq1 => ?_⟩
    rw [cut_take, ← List.map_take]
    have t1 : Same H16 _ := Same.upd (o := .lst ((ys.take k').map V.str)) hq1
    have gq1 : (upd H16 q1 (.lst ((ys.take k').map V.str))) q1 = some (.lst ((ys.take k').map V.str)) := upd_same
    generalize upd H16 q1 _ = J1 at t1 gq1 ⊢
    clear hq1
    (repeat array_get_dec)
    refine ⟨by show 1 ≤ sizeLine; decide, fun q2 hq2 => ?_⟩
    have t2 : Same J1 _ := Same.upd (o := .lst [.str x]) hq2
    have lt1 : (ys.take k').length ≤ ys.length := by rw [List.length_take]; omega
    have ld1 : (ys.drop k').length ≤ ys.length := by rw [List.length_drop]; omega
    refine ⟨q1, q2, _, _, rfl, rfl, t2 _ _ gq1, upd_same, by rw [List.length_map]; show _ + 1 ≤ _; omega, fun q3 hq3 => ?_⟩
    have t3 := t2.trans (Same.upd (o := .lst ((ys.take k').map V.str ++ [.str x])) hq3)
    have gq3 : (upd (upd J1 q2 (.lst [.str x])) q3 (.lst ((ys.take k').map V.str ++ [.str x]))) q3 = some (.lst ((ys.take k').map V.str ++ [.str x])) := upd_same
    generalize upd (upd J1 q2 _) q3 _ = J3 at t3 gq3 ⊢
    clear hq2 hq3 t2 gq1
    have t13 := s116.trans (t1.trans t3)
    (repeat array_get_dec)
    refine ⟨l, _, rfl, SqL.of (t13 _ _ hl1), fun q4 hq4 => ?_⟩
    rw [cut_drop, ← List.map_drop]
    have t4 : Same J3 _ := Same.upd (o := .lst ((ys.drop k').map V.str)) hq4
    refine ⟨q3, q4, _, _, rfl, rfl, t4 _ _ gq3, upd_same, by rw [List.length_append, List.length_map, List.length_map]; show _ + 1 + _ ≤ _; omega, fun z6 hz6 => ?_⟩
    have t5 := t4.trans (Same.upd (o := .lst ((ys.take k').map V.str ++ [.str x] ++ (ys.drop k').map V.str)) hz6)
    have b6 : Bad (upd (upd J3 q4 (.lst ((ys.drop k').map V.str))) z6 (.lst ((ys.take k').map V.str ++ [.str x] ++ (ys.drop k').map V.str))) z6 := ⟨ys.take k' ++ [x] ++ ys.drop k', by rw [upd_same, List.map_append, List.map_append]; rfl, no_row_mem (x := x) (by simp) xb, by rw [List.length_append, List.length_append]; show _ + 1 + _ ≤ _; omega, fun y h => by
      rcases List.mem_append.mp h with h | h
      · rcases List.mem_append.mp h with h | h
        · exact hy y (List.mem_of_mem_take h)
        · rw [List.mem_singleton] at h; rw [h]; exact x20
      · exact hy y (List.mem_of_mem_drop h)⟩
    generalize upd (upd J3 q4 _) z6 _ = J5 at t5 b6 ⊢
    clear hq4 hz6 t4 gq3
    have t15 := t13.trans t5
    (repeat array_get_dec)
    -- row[:1] + ['+'] + [strange]
    refine ⟨l, _, rfl, SqL.of (t15 _ _ hl1), fun q5 hq5 => ?_⟩
    rw [show cutV (ys.map V.str) none (some 1) = [.str y0] by rw [show (some (1 : Int)) = some ((1 : Nat) : Int) from rfl, cut_take, ← List.map_take, ht1]; rfl]
    have t6 : Same J5 _ := Same.upd (o := .lst [.str y0]) hq5
    have gq5 : (upd J5 q5 (.lst [.str y0])) q5 = some (.lst [.str y0]) := upd_same
    generalize upd J5 q5 _ = J6 at t6 gq5 ⊢
    clear hq5
    (repeat array_get_dec)
    refine ⟨by show 1 ≤ sizeLine; decide, fun q6 hq6 => ?_⟩
    have t7 : Same J6 _ := Same.upd (o := .lst [.str "+"]) hq6
    refine ⟨q5, q6, _, _, rfl, rfl, t7 _ _ gq5, upd_same, by show 1 + 1 ≤ _; omega, fun q7 hq7 => ?_⟩
    have t8 := t7.trans (Same.upd (o := .lst ([.str y0] ++ [.str "+"])) hq7)
    have gq7 : (upd (upd J6 q6 (.lst [.str "+"])) q7 (.lst ([.str y0] ++ [.str "+"]))) q7 = some (.lst ([.str y0] ++ [.str "+"])) := upd_same
    generalize upd (upd J6 q6 _) q7 _ = J8 at t8 gq7 ⊢
    clear hq6 hq7 t7 gq5
    (repeat array_get_dec)
    refine ⟨by show 1 ≤ sizeLine; decide, fun q8 hq8 => ?_⟩
    have t9 : Same J8 _ := Same.upd (o := .lst [.str x]) hq8
    refine ⟨q7, q8, _, _, rfl, rfl, t9 _ _ gq7, upd_same, by show 2 + 1 ≤ _; omega, fun z7 hz7 => ?_⟩
    have t10 := t9.trans (Same.upd (o := .lst ([.str y0] ++ [.str "+"] ++ [.str x])) hz7)
    have b7 : Bad (upd (upd J8 q8 (.lst [.str x])) z7 (.lst ([.str y0] ++ [.str "+"] ++ [.str x]))) z7 := ⟨[y0, "+", x], upd_same, no_row_mem (x := x) (by simp) xb, by simp, fun y h => by
      simp only [List.mem_cons, List.not_mem_nil, or_false] at h
      rcases h with h | h | h
      · rw [h]; exact y020
      · rw [h, lt]; omega
      · rw [h]; exact x20⟩
    generalize upd (upd J8 q8 _) z7 _ = J10 at t10 b7 ⊢
    clear hq8 hz7 t9 gq7
    have u5 := t6.trans (t8.trans t10)
    (repeat array_get_dec)
    refine ⟨by show 2 ≤ sizeLine; decide, fun q9 hq9 => ?_⟩
    have t11 : Same J10 _ := Same.upd (o := .lst [.ref z6, .ref z7]) hq9
    have us := t1.trans (t3.trans (t5.trans (u5.trans t11)))
    have gso2 := us _ _ gso
    refine ⟨so, q9, _, _, rfl, rfl, gso2, upd_same, by show 6 + 2 ≤ _; omega, ?_⟩
    have nso : ∀ z, Bad (upd J10 q9 (.lst [.ref z6, .ref z7])) z → z ≠ so := fun z b e => by
      obtain ⟨zs, hz, _⟩ := b
      rw [e, gso2] at hz
      cases zs with
      | nil => cases hz
      | cons u r => injection hz with hz; injection hz with hz; injection hz with hz _; cases hz
    have bad : ∀ z, Bad (upd J10 q9 (.lst [.ref z6, .ref z7])) z → Bad (upd (upd J10 q9 (.lst [.ref z6, .ref z7])) so (.lst ([.ref z0, .ref z1, .ref z2, .ref z3, .ref z4, .ref z5] ++ [.ref z6, .ref z7]))) z := fun z b => by
      have n := nso z b
      obtain ⟨zs, hz, r⟩ := b
      exact ⟨zs, by rw [upd_ne n]; exact hz, r⟩
    (repeat array_get_dec)
    have f14 := s14.trans s16
    have f13 := s13.trans f14
    have f12 := s12.trans f13
    have f8 := s8.trans (s10.trans f12)
    have f5 := s7.trans f8
    have f3 := s5.trans f5
    refine w_pick (fun v => ∃ z, v = .ref z ∧ Bad (upd J10 q9 (.lst [.ref z6, .ref z7])) z) upd_same (mod_ge _ (by decide)) (by exact mod_lt _ (by decide)) (fun v hv => ?_) fun v hv => ?_
    · simp only [List.cons_append, List.nil_append, List.mem_cons, List.not_mem_nil, or_false] at hv
      rcases hv with rfl | rfl | rfl | rfl | rfl | rfl | rfl | rfl
      · exact ⟨_, rfl, (b0.same f3).same us⟩
      · exact ⟨_, rfl, (b1.same f5).same us⟩
      · exact ⟨_, rfl, (b2.same f8).same us⟩
      · exact ⟨_, rfl, (b3.same f13).same us⟩
      · exact ⟨_, rfl, (b4.same f14).same us⟩
      · exact ⟨_, rfl, (b5.same s16).same us⟩
      · exact ⟨_, rfl, b6.same (u5.trans t11)⟩
      · exact ⟨_, rfl, b7.same t11⟩
    obtain ⟨z, rfl, bz⟩ := hv
    refine k _ z (fun c' o n' hc' => ?_) ?_ (bad z bz)
    · have h1c := kb1 _ _ n' hc'
      have nso' : c' ≠ so := ne_of_none h1c fso
      rw [upd_ne nso']
      exact us _ _ (s116 _ _ h1c)
    · obtain ⟨i', n', hq, r⟩ := ao1.ob
      exact ⟨i', n', by rw [upd_ne (ne_of_none hq fso)]; exact us _ _ (s116 _ _ hq), r⟩
end
end K19

namespace K19
open PySem PySem.Spec PyProof.Rows L2
theorem flat_strs (ys : List Str) : (ys.map V.str).all flatV = true := by
  rw [List.all_map]
  exact List.all_eq_true.mpr fun _ _ => rfl
theorem eqL_refl {xs : List V} (h : xs.all flatV = true) : eqL xs xs = true := by
  unfold eqL
  rw [beq_self_eq_true, Bool.true_and, List.all_eq_true]
  intro p hp
  have e : p.1 = p.2 := by
    induction xs with
    | nil => cases hp
    | cons y r ih =>
      rw [List.zip_cons_cons] at hp
      rcases List.mem_cons.mp hp with e | hp
      · rw [e]
      · exact ih (by rw [List.all_cons, Bool.and_eq_true] at h; exact h.2) hp
  rw [← e]
  exact eqV_self (List.all_eq_true.mp h _ (List.of_mem_zip hp).1)
section
variable {P : Program} {w : World} {K : PySem.W.Frag} {mg : Str → Option Value} {base : Heap} {a : Ad}
/-! ### _law_refused -/
abbrev DRef (K : PySem.W.Frag) (mg : Str → Option Value) := Df K mg "_law_refused" "_law_refused" (top 41) ["_law_caught", "_law_due"]
def spRef (K : PySem.W.Frag) (a : Ad) : Sp := fun vs H Q _ => ∃ (x C : Addr) (d : Str), vs = [.ref x, .str d] ∧ H x = some (Ex x C) ∧ ExD K a C d ∧ Pure (.bl true) H Q
theorem scRef : FnScope ["_law_caught", "_law_due", "_law_some"] ["_law_caught", "_law_due"] (defScope (top 41)) := ⟨rfl, rfl, rfl, by decide +kernel, rfl, by decide +kernel, by decide +kernel⟩
def three : List Str := ["row", "nokind", "kind"]
theorem ok_ref (D : DRef K mg) (T : Txt K mg a) : FnOk P w K mg base CX0 1 D.f D.fd ["_law_caught", "_law_due"] (spRef K a) := by
  refine Df.ok (k := 0) D.ex scRef (fun vs H Q E h => ?_) (fun A outer s H vs Q E hr h => ?_)
  · obtain ⟨x, C, d, rfl, _⟩ := h; rfl
  · obtain ⟨x, C, d, rfl, hx, ed, q⟩ := h
    have nd := scRef.nd
    have hu := Nat.lt_of_succ_lt (hu_of hr)
    refine ⟨_, (pss_cons (ps_set (i := 2) nd rfl (Or.inl rfl) (pe_lst (pa_c (pe_callB call_isi (by rfl) T.b_isinstance boot_isinstance (pa_c (pv 0) (pa_c (pe_glob (v := .ref a.BadRow) (by rfl) T.c_BadRow rfl) pa_nil))) (pa_c (pe_callB call_isi (by rfl) T.b_isinstance boot_isinstance (pa_c (pv 0) (pa_c (pe_glob (v := .ref a.NoKind) (by rfl) T.c_NoKind rfl) pa_nil))) (pa_c (pe_callB call_isi (by rfl) T.b_isinstance boot_isinstance (pa_c (pv 0) (pa_c (pe_glob (v := .ref a.BadKind) (by rfl) T.c_BadKind rfl) pa_nil))) pa_nil)))))
 (pss_cons (ps_if (pw_or (pt_not (pt_val (pe_callB call_isi (by rfl) T.b_isinstance boot_isinstance (pa_c (pv 0) (pa_c (pe_glob (v := .ref a.SayError) (by rfl) T.c_SayError rfl) pa_nil))))) (pw_or1 (pt_not (pt_val (pe_callB call_isi (by rfl) T.b_isinstance boot_isinstance (pa_c (pv 0) (pa_c (pe_bltn (v := .ty "ValueError") (by rfl) T.b_ValueError (by rfl) rfl) pa_nil))))))).pt
 (pss_one (ps_ret pe_bl))
 pss_nil)
 (pss_cons (ps_if (pt_val (pe_callB call_isiT (by rfl) T.b_isinstance boot_isinstance (pa_c (pv 0) (pa_c (pe_tup (pa_c (pe_glob (v := .ref a.BadBound) (by rfl) T.c_BadBound rfl) (pa_c (pe_glob (v := .ref a.BadMelt) (by rfl) T.c_BadMelt rfl) (pa_c (pe_glob (v := .ref a.BadPairs) (by rfl) T.c_BadPairs rfl) (pa_c (pe_glob (v := .ref a.BadParts) (by rfl) T.c_BadParts rfl) (pa_c (pe_glob (v := .ref a.BadRule) (by rfl) T.c_BadRule rfl) (pa_c (pe_glob (v := .ref a.BadText) (by rfl) T.c_BadText rfl) pa_nil))))))) pa_nil))))
 (pss_one (ps_ret pe_bl))
 pss_nil)
 (pss_cons (ps_if (pt_val (pe_callB call_isiT (by rfl) T.b_isinstance boot_isinstance (pa_c (pv 0) (pa_c (pe_tup (pa_c (pe_glob (v := .ref a.NoName) (by rfl) T.c_NoName rfl) (pa_c (pe_glob (v := .ref a.NotCovered) (by rfl) T.c_NotCovered rfl) (pa_c (pe_glob (v := .ref a.Twice) (by rfl) T.c_Twice rfl) (pa_c (pe_glob (v := .ref a.Unclear) (by rfl) T.c_Unclear rfl) pa_nil))))) pa_nil))))
 (pss_one (ps_ret pe_bl))
 pss_nil)
 (pss_one (ps_ret (pe_cmpR (op_eqL hu) (pv 2) (pe_lc (N := ["_law_one", "_law_due"]) (fs := [(1, 1)]) (⟨rfl, by rfl, by rfl, by rfl, ⟨⟨_, rfl, rfl, rfl, Or.inl rfl⟩, trivial⟩⟩) rfl (pi_list (pe_lst (pa_c pe_str (pa_c pe_str (pa_c pe_str pa_nil))))) (fun _ _ _ _ _ => (pg_name (i := 0) (show List.Nodup (["_law_one", "_law_due"] : List Str) from by decide +kernel) rfl (Or.inl rfl))) (fun _ _ _ _ _ => by exact pts_nil) (fun _ _ _ _ _ => by exact (pe_cmpR op_eq (pv 0) (pv 1) (nomark _)))) (nomark _)))))))), ?_⟩
    (repeat array_get_dec)
    refine ⟨_, _, _, _, _, rfl, .ex hx ed.x, rfl, ed.b1, ?_⟩
    (repeat array_get_dec)
    refine ⟨_, _, _, _, _, rfl, .ex hx ed.x, rfl, ed.b2, ?_⟩
    (repeat array_get_dec)
    refine ⟨_, _, _, _, _, rfl, .ex hx ed.x, rfl, ed.b3, ?_⟩
    (repeat array_get_dec)
    refine ⟨by show 3 ≤ sizeLine; decide, fun l1 h1 => ?_⟩
    have s1 : Same H _ := Same.upd (o := .lst [.bl (decide (d = ("row" : Str))), .bl (decide (d = ("nokind" : Str))), .bl (decide (d = ("kind" : Str)))]) h1
    have g1 : (upd H l1 (.lst [.bl (decide (d = ("row" : Str))), .bl (decide (d = ("nokind" : Str))), .bl (decide (d = ("kind" : Str)))])) l1 = some (.lst [.bl (decide (d = ("row" : Str))), .bl (decide (d = ("nokind" : Str))), .bl (decide (d = ("kind" : Str)))]) := upd_same
    generalize upd H l1 _ = H1 at s1 g1 ⊢
    have hx1 := s1 _ _ hx
    (repeat array_get_dec)
    refine ⟨_, _, _, _, _, rfl, .ex hx1 ed.x, rfl, ed.say, ?_⟩
    (repeat array_get_dec)
    refine ⟨_, _, _, _, _, rfl, .ex hx1 ed.x, rfl, ed.val, ?_⟩
    (repeat array_get_dec)
    refine ⟨by show 6 ≤ sizeLine; decide, fun p hp => ?_⟩
    (repeat array_get_dec)
    have s2 : Same H1 _ := Same.upd (o := .tup [.ref a.BadBound, .ref a.BadMelt, .ref a.BadPairs, .ref a.BadParts, .ref a.BadRule, .ref a.BadText]) hp
    refine ⟨x, C, p, _, _, _, rfl, s2 _ _ hx1, ed.x, upd_same, rfl, ed.t1, ?_⟩
    (repeat array_get_dec)
    refine ⟨by show 4 ≤ sizeLine; decide, fun p2 hp2 => ?_⟩
    (repeat array_get_dec)
    have s3 : Same H1 _ := s2.trans (Same.upd (o := .tup [.ref a.NoName, .ref a.NotCovered, .ref a.Twice, .ref a.Unclear]) hp2)
    refine ⟨x, C, p2, _, _, _, rfl, s3 _ _ hx1, ed.x, upd_same, rfl, ed.t2, ?_⟩
    generalize upd (upd H1 p _) p2 _ = H3 at s3 ⊢
    (repeat array_get_dec)
    refine ⟨by show 3 ≤ sizeLine; decide, fun l4 h4 => ?_⟩
    have s4 : Same H3 _ := Same.upd (o := .lst (three.map V.str)) h4
    have g4 : (upd H3 l4 (.lst (three.map V.str))) l4 = some (.lst (three.map V.str)) := upd_same
    have s14 := s3.trans s4
    refine ⟨l4, rfl, ⟨_, SqL.of g4⟩, lcG (fun i zs => zs = (three.take i).map fun y : Str => V.bl (decide (y = d))) (tells_l (SqL.of g4)) (by show 3 ≤ sizeLine; decide) rfl (fun D i zs H5 hi hD s5 e5 r5 => ?_) (fun D H5 zs hD s5 e5 r5 => ?_)⟩
    · rw [List.length_map] at hi
      have ex : (three.map V.str).getD i .non = V.str three[i] := by simp [List.getD_eq_getElem?_getD, hi]
      rw [ex]
      (repeat array_get_dec)
      refine ⟨mono0 rfl, ?_⟩
      (repeat array_get_dec)
      exact lcFin hD s5 e5 (Same.refl _) (by rw [r5, List.take_succ, List.getElem?_eq_getElem hi, List.map_append]; rfl)
    · have e : ∀ y : Str, decide (y = d) = decide (d = y) := fun y => decide_eq_decide.mpr ⟨Eq.symm, Eq.symm⟩
      have r5 : zs = [.bl (decide (d = ("row" : Str))), .bl (decide (d = ("nokind" : Str))), .bl (decide (d = ("kind" : Str)))] := by
        rw [r5]
        show [V.bl (decide (("row" : Str) = d)), V.bl (decide (("nokind" : Str) = d)), V.bl (decide (("kind" : Str) = d))] = _
        rw [e, e, e]
      subst r5
      refine ⟨l1, D, _, _, rfl, rfl, .inl ⟨SqL.of (s5 _ _ (s14 _ _ g1)), SqL.of e5⟩, rfl, rfl, ?_⟩
      rw [if_neg Bool.false_ne_true, eqL_refl rfl]
      exact q _ (s1.trans (s14.trans s5))
/-! ### is_word_pair -/
def pairV (m : Str × Str) : HO := .tup [.str m.1, .str m.2]
def pairOk (m : Str × Str) : Bool := wordS m.1 && wordS m.2
abbrev DWPr (K : PySem.W.Frag) (mg : Str → Option Value) := Df K mg "is_word_pair" "is_word_pair" (top 22) ["pair"]
def spWPr (a : Ad) : Sp := fun vs H Q _ => ∃ (t : Addr) (m : Str × Str), vs = [.ref t] ∧ H t = some (pairV m) ∧ m.1.length ≤ 1000 ∧ m.2.length ≤ 1000 ∧ H a.tSL = some (Tb a.tSL) ∧ Q (.bl (pairOk m)) H
theorem scWPr : FnScope ["pair"] ["pair"] (defScope (top 22)) := ⟨rfl, rfl, rfl, by decide +kernel, rfl, by decide +kernel, by decide +kernel⟩
theorem ok_wpr (D : DWPr K mg) (D_is_word : DWord K mg) (G_is_word : FnOk P w K mg base CX0 3 D_is_word.f D_is_word.fd ["text"] (spWord a.tSL)) (T : Txt K mg a) : FnOk P w K mg base CX0 4 D.f D.fd ["pair"] (spWPr a) := by
  refine Df.ok (k := 3) D.ex scWPr (fun vs H Q E h => ?_) (fun A outer s H vs Q E hr h => ?_)
  · obtain ⟨t, m, rfl, _⟩ := h; rfl
  · obtain ⟨t, m, rfl, ht, l1, l2, tSL, q⟩ := h
    have nd := scWPr.nd
    obtain ⟨x, y⟩ := m
    have ht : H t = some (.tup [.str x, .str y]) := ht
    have l1 : x.length ≤ 1000 := l1
    have l2 : y.length ≤ 1000 := l2
    have line : 1000 < sizeLine := by decide
    refine ⟨_, (pss_one (ps_ret (pe_and (pe_callB call_isi (by rfl) T.b_isinstance boot_isinstance (pa_c (pv 0) (pa_c (pe_bltn (v := .ty "tuple") (by rfl) T.b_tuple (by rfl) rfl) pa_nil))) (pe_and (pe_cmpR op_eq (pe_callB call_len_seq (by rfl) T.b_len boot_len (pa_c (pv 0) pa_nil)) pe_int (nomark _)) (pe_and (pe_call G_is_word (hr.mono (by decide)) (by rfl) D_is_word.mg D_is_word.kp D_is_word.bd .nil pass0 (pa_c (pe_ix ix_tup (pv 0) pe_int (fun _ _ => rfl)) pa_nil)) (pe_one (pe_call G_is_word (hr.mono (by decide)) (by rfl) D_is_word.mg D_is_word.kp D_is_word.bd .nil pass0 (pa_c (pe_ix ix_tup (pv 0) pe_int (fun _ _ => rfl)) pa_nil)))))))), ?_⟩
    (repeat array_get_dec)
    refine ⟨_, _, _, _, _, rfl, .v (.tup ht), rfl, T.k_tup, ?_⟩
    (repeat array_get_dec)
    refine ⟨t, _, rfl, .inr (SqT.of ht), ?_⟩
    (repeat array_get_dec)
    refine w_ite (fun _ => ?_) (fun z => absurd z (by simp))
    (repeat array_get_dec)
    refine ⟨t, _, 0, _, rfl, rfl, SqT.of ht, atI_nat (j := 0) rfl, ?_⟩
    (repeat array_get_dec)
    refine ⟨x, rfl, by omega, tSL, ?_⟩
    (repeat array_get_dec)
    have e : pairOk (x, y) = (wordS x && wordS y) := rfl
    rw [e] at q
    refine w_ite (fun z => ?_) (fun z => ?_)
    · (repeat array_get_dec)
      refine ⟨t, _, 1, _, rfl, rfl, SqT.of ht, atI_nat (j := 1) rfl, ?_⟩
      (repeat array_get_dec)
      refine ⟨y, rfl, by omega, tSL, ?_⟩
      (repeat array_get_dec)
      rw [z, Bool.true_and] at q
      exact q
    · skip
      rw [z, Bool.false_and] at q
      exact q
end
end K19

namespace K19
open PySem PySem.Spec PyProof.Rows L2
theorem twice_split {α : Type} [DecidableEq α] : ∀ {l : List α}, ¬ l.Nodup → ∃ l1 k l2, l = l1 ++ k :: l2 ∧ k ∈ l2
  | [], h => absurd List.nodup_nil h
  | y :: r, h => by
    by_cases hy : y ∈ r
    · exact ⟨[], y, r, rfl, hy⟩
    · have : ¬ r.Nodup := fun z => h (List.nodup_cons.mpr ⟨hy, z⟩)
      obtain ⟨l1, k, l2, e, m⟩ := twice_split this
      exact ⟨y :: l1, k, l2, by rw [e]; rfl, m⟩
theorem metK_lt {ks : List Key} (h : ¬ ks.Nodup) : (metK ks).length < ks.length := by
  obtain ⟨l1, k, l2, e, m⟩ := twice_split h
  have : (metK ks).length ≤ (l1 ++ l2).length := nodup_len (nd_metK ks) fun x hx => by
    rw [mem_metK, e, List.mem_append, List.mem_cons] at hx
    rw [List.mem_append]
    rcases hx with z | z | z
    · exact .inl z
    · rw [z]; exact .inr m
    · exact .inr z
  have e2 := congrArg List.length e
  simp only [List.length_append, List.length_cons] at this e2
  omega
theorem metK_len (ks : List Key) : decide (((metK ks).length : Int) = ks.length) = decide ks.Nodup := by
  refine decide_eq_decide.mpr ⟨fun h => ?_, fun h => by rw [metK_nd h]⟩
  by_cases z : ks.Nodup
  · exact z
  · have := metK_lt z; omega
/-! ### pairs of texts -/
def PairsAt (H : Hp) (l : Addr) (ms : List (Str × Str)) : Prop := ∃ ts : List Addr, H l = some (.lst (ts.map .ref)) ∧ ts.length = ms.length ∧ ∀ (i : Nat) t m, ts[i]? = some t → ms[i]? = some m → H t = some (pairV m)
theorem PairsAt.same {H H' : Hp} {l : Addr} {ms : List (Str × Str)} (h : PairsAt H l ms) (s : Same H H') : PairsAt H' l ms := by
  obtain ⟨ts, h1, h2, h3⟩ := h
  exact ⟨ts, s _ _ h1, h2, fun i t m x y => s _ _ (h3 i t m x y)⟩
def fstK (ms : List (Str × Str)) : List Key := ms.map fun m => .inr m.1
def pairsOk (ms : List (Str × Str)) : Bool := ms.all pairOk && decide (fstK ms).Nodup
def qPair (H : Hp) : V → Bool
  | .ref t => match H t with
    | some (.tup [.str x, .str y]) => pairOk (x, y)
    | _ => false
  | _ => false
theorem qPair_at {H : Hp} {t : Addr} {m : Str × Str} (h : H t = some (pairV m)) : qPair H (.ref t) = pairOk m := by
  unfold qPair
  simp only [h, pairV]
theorem all_pairs {H : Hp} {ts : List Addr} {ms : List (Str × Str)} (hl : ts.length = ms.length) (h : ∀ (i : Nat) t m, ts[i]? = some t → ms[i]? = some m → H t = some (pairV m)) : (ts.map V.ref).all (qPair H) = ms.all pairOk := by
  rw [Bool.eq_iff_iff, List.all_eq_true, List.all_eq_true]
  constructor
  · intro z m hm
    obtain ⟨i, hi, e⟩ := List.mem_iff_getElem.mp hm
    have hi' : i < ts.length := by omega
    rw [← qPair_at (h i ts[i] m (List.getElem?_eq_getElem hi') (by rw [List.getElem?_eq_getElem hi, e]))]
    exact z _ (List.mem_map.mpr ⟨ts[i], List.getElem_mem hi', rfl⟩)
  · intro z v hv
    obtain ⟨t, ht, rfl⟩ := List.mem_map.mp hv
    obtain ⟨i, hi, e⟩ := List.mem_iff_getElem.mp ht
    have hi' : i < ms.length := by omega
    rw [qPair_at (h i t ms[i] (by rw [List.getElem?_eq_getElem hi, e]) (List.getElem?_eq_getElem hi'))]
    exact z _ (List.getElem_mem hi')
section
variable {P : Program} {w : World} {K : PySem.W.Frag} {mg : Str → Option Value} {base : Heap} {a : Ad}
/-! ### are_word_pairs -/
abbrev DWPs (K : PySem.W.Frag) (mg : Str → Option Value) := Df K mg "are_word_pairs" "are_word_pairs" (top 21) ["pairs"]
def spWPs (a : Ad) : Sp := fun vs H Q _ => ∃ (l : Addr) (ms : List (Str × Str)), vs = [.ref l] ∧ PairsAt H l ms ∧ ms.length ≤ 1000 ∧ (∀ m ∈ ms, m.1.length ≤ 1000 ∧ m.2.length ≤ 1000) ∧ H a.tSL = some (Tb a.tSL) ∧ H a.tWP = some (Tb a.tWP) ∧ Pure (.bl (pairsOk ms)) H Q
theorem scWPs : FnScope ["pairs"] ["pairs"] (defScope (top 21)) := ⟨rfl, rfl, rfl, by decide +kernel, rfl, by decide +kernel, by decide +kernel⟩
theorem ok_wps (D : DWPs K mg) (cP : CodeK K D.cdv a.tWP) (hB : BltK base) (D_is_word_pair : DWPr K mg) (G_is_word_pair : FnOk P w K mg base CX0 4 D_is_word_pair.f D_is_word_pair.fd ["pair"] (spWPr a)) (T : Txt K mg a) : FnOk P w K mg base CX0 6 D.f D.fd ["pairs"] (spWPs a) := by
  refine Df.ok (k := 5) D.ex scWPs (fun vs H Q E h => ?_) (fun A outer s H vs Q E hr h => ?_)
  · obtain ⟨l, ms, rfl, _⟩ := h; rfl
  · obtain ⟨l, ms, rfl, hp, hn, hm, tSL, tWP, q⟩ := h
    have nd := scWPs.nd
    obtain ⟨ts, h1, h2, h3⟩ := id hp
    have line : 1000 < sizeLine := by decide
    refine ⟨_, (pss_cons (ps_if (pt_not (pt_val (pe_allG (N := ["pair"]) (fs := []) (⟨rfl, rfl, rfl, by rfl, by rfl, trivial⟩) hB cP (hr.mono (by decide) : Room (4 + 1) _) (by rfl) T.b_all (pi_list (pv 0)) (fun _ _ _ _ _ _ _ => by exact (pg_name (i := 0) (show List.Nodup (["pair"] : List Str) from by decide +kernel) rfl (Or.inl rfl))) (fun _ _ _ _ _ _ _ hr => by exact (pe_call G_is_word_pair (hr.mono (by decide)) (by rfl) D_is_word_pair.mg D_is_word_pair.kp D_is_word_pair.bd .nil pass0 (pa_c (pv 0) pa_nil))))))
 (pss_one (ps_ret pe_bl))
 pss_nil)
 (pss_one (ps_ret (pe_cmpR op_eq (pe_callB (call_len_setK P w) (by rfl) T.b_len boot_len (pa_c (pe_sc (N := ["pair"]) (fs := []) (⟨rfl, by rfl, by rfl, by rfl, trivial⟩) rfl (pi_list (pv 0)) (fun _ _ _ _ _ => (pg_name (i := 0) (show List.Nodup (["pair"] : List Str) from by decide +kernel) rfl (Or.inl rfl))) (fun _ _ _ _ _ => by exact pts_nil) (fun _ _ _ _ _ => by exact (pe_ix (ix_tupK K) (pv 0) pe_int (fun _ _ => rfl))) P w) pa_nil)) (pe_callB call_len_seq (by rfl) T.b_len boot_len (pa_c (pv 0) pa_nil)) (nomark _))))), ?_⟩
    (repeat array_get_dec)
    refine ⟨l, rfl, ⟨_, SqL.of h1⟩, all_lB (qPair H) (SqL.of h1) tWP rfl (fun v hv => ?_) ?_⟩
    · obtain ⟨t, ht, rfl⟩ := List.mem_map.mp hv
      obtain ⟨i, hi, e⟩ := List.mem_iff_getElem.mp ht
      have hi' : i < ms.length := by omega
      have hp := h3 i t ms[i] (by rw [List.getElem?_eq_getElem hi, e]) (List.getElem?_eq_getElem hi')
      have hl := hm _ (List.getElem_mem hi')
      (repeat array_get_dec)
      exact ⟨t, ms[i], rfl, hp, hl.1, hl.2, tSL, rfl, by rw [qPair_at hp]⟩
    · rw [all_pairs h2 h3]
      (repeat array_get_dec)
      refine w_ite (fun z => ?_) (fun z => ?_)
      · rw [Bool.not_eq_true'] at z
        (repeat array_get_dec)
        unfold pairsOk at q
        rw [z, Bool.false_and] at q
        exact q H (Same.refl _)
      · have z : ms.all pairOk = true := by simpa using z
        (repeat array_get_dec)
        refine ⟨l, rfl, ⟨_, SqL.of h1⟩, scL (fun i => .inr (ms.getD i ("", "")).1) (SqL.of h1) (by rw [List.length_map]; show _ < 4096; omega) rfl (fun D' L i Qc hD hi hq => ?_) (fun D' hD => ?_)⟩
        · rw [List.length_map] at hi
          have hi' : i < ms.length := by omega
          have e1 : (ts.map V.ref).getD i .non = V.ref ts[i] := by simp [List.getD_eq_getElem?_getD, hi]
          have e2 : ms.getD i ("", "") = ms[i] := by simp [List.getD_eq_getElem?_getD, hi']
          have ht := h3 i ts[i] ms[i] (List.getElem?_eq_getElem hi) (List.getElem?_eq_getElem hi')
          rw [e1]
          rw [e2] at hq
          (repeat array_get_dec)
          refine ⟨ts[i], _, 0, _, rfl, rfl, SqT.of (show upd H D' _ ts[i] = _ by rw [upd_ne (ne_of_none ht hD)]; exact ht), atI_nat (j := 0) rfl, hq⟩
        · have ek : (List.range (ts.map V.ref).length).map (fun i => (Sum.inr (ms.getD i ("", "")).1 : Key)) = fstK ms := by
            rw [List.length_map, h2]
            refine List.ext_getElem (by simp [fstK]) fun i u1 u2 => ?_
            have : i < ms.length := by simpa using u1
            simp [fstK, List.getD_eq_getElem?_getD, this]
          rw [ek]
          have s1 : Same H (upd H D' (SetO P w D' (metK (fstK ms)))) := Same.upd hD
          (repeat array_get_dec)
          refine ⟨D', _, rfl, upd_same, ?_, ?_⟩
          · have := len_metK (fstK ms); have : (fstK ms).length = ms.length := by unfold fstK; rw [List.length_map]
            omega
          (repeat array_get_dec)
          refine ⟨l, _, rfl, .inl (SqL.of (s1 _ _ h1)), ?_⟩
          (repeat array_get_dec)
          unfold pairsOk at q
          rw [z, Bool.true_and, ← metK_len] at q
          have e : ((ts.map V.ref).length : Int) = (fstK ms).length := by unfold fstK; rw [List.length_map, List.length_map, h2]
          rw [e]
          exact q _ s1
end
end K19

namespace K19
open PySem PySem.Spec PyProof.Rows L2
section
variable {P : Program} {w : World} {K : PySem.W.Frag} {mg : Str → Option Value} {base : Heap} {a : Ad}
/-! ### a kind -/
structure FldK (fs : List (Str × V)) (t e : Str) (n : Addr) : Prop where
  title : fs.lookup ("title" : Str) = some (.str t)
  ending : fs.lookup ("ending" : Str) = some (.str e)
  turns : fs.lookup ("turns" : Str) = some (.ref n)
structure KindAt (a : Ad) (H : Hp) (p : Addr) (t e : Str) (n : Addr) : Prop where
  ob : ∃ dx fs, H p = some (.ins a.Kind dx fs) ∧ FldK fs t e n
theorem KindAt.same {H H' : Hp} {p : Addr} {t e : Str} {n : Addr} (R : KindAt a H p t e n) (s : Same H H') : KindAt a H' p t e n := by
  obtain ⟨dx, fs, h1, h2⟩ := R.ob
  exact ⟨dx, fs, s _ _ h1, h2⟩
def titleOk (t : Str) : Bool := decide ((1 : Int) ≤ t.length) && decide ((t.length : Int) ≤ 8) && lowS t
def kindOk (t e : Str) (ms : List (Str × Str)) : Bool := titleOk t && (wordS e && pairsOk ms)
abbrev sKI : Stmt := inClass (top 31) 0
abbrev pKI : List Str := ["self", "title", "ending", "turns"]
abbrev DKI (K : PySem.W.Frag) := DfM K "__init__" "Kind.__init__" sKI pKI
def Tabs2 (a : Ad) (H : Hp) : Prop := H a.tSL = some (Tb a.tSL) ∧ H a.tWP = some (Tb a.tWP)
theorem Tabs2.same {H H' : Hp} (t : Tabs2 a H) (s : Same H H') : Tabs2 a H' := ⟨s _ _ t.1, s _ _ t.2⟩
def Short (ms : List (Str × Str)) : Prop := ms.length ≤ 1000 ∧ ∀ m ∈ ms, m.1.length ≤ 1000 ∧ m.2.length ≤ 1000
def spKI (a : Ad) : Sp := fun vs H Q E => ∃ (p dx : Addr) (t e : Str) (q : Addr) (ts : List Addr) (ms : List (Str × Str)), vs = [.ref p, .str t, .str e, .ref q] ∧ H p = some (.ins a.Kind dx []) ∧ H q = some (.lst (ts.map .ref)) ∧ ts.length = ms.length ∧ (∀ (i : Nat) u m, ts[i]? = some u → ms[i]? = some m → H u = some (pairV m)) ∧
  t.length ≤ 1000 ∧ e.length ≤ 1000 ∧ Short ms ∧ Tabs2 a H ∧
  ∀ H' n, H n = none → (∀ c o, H c = some o → c ≠ p → H' c = some o) → KindAt a H' p t e n → H' n = some (.lst (ts.map .ref)) → if kindOk t e ms = true then Q .non H' else E (.ref a.BadKind) none H'
theorem scKI : FnScope pKI pKI (defScope sKI) := ⟨rfl, rfl, rfl, by decide +kernel, rfl, by decide +kernel, by decide +kernel⟩
theorem ok_ki (D : DKI K) (D_small_letters : DSmall K mg) (G_small_letters : FnOk P w K mg base CX0 2 D_small_letters.f D_small_letters.fd ["text", "least", "most"] (spSmall a.tSL)) (D_is_word : DWord K mg) (G_is_word : FnOk P w K mg base CX0 3 D_is_word.f D_is_word.fd ["text"] (spWord a.tSL))
    (D_are_word_pairs : DWPs K mg) (G_are_word_pairs : FnOk P w K mg base CX0 6 D_are_word_pairs.f D_are_word_pairs.fd ["pairs"] (spWPs a)) (T : Txt K mg a) : FnOk P w K mg base (CXE P w) 7 D.f D.fd pKI (spKI a) := by
  refine Df.okE (k := 6) D.ex scKI (fun vs H Q E h => ?_) (fun A outer s H vs Q E hr h => ?_)
  · obtain ⟨p, dx, t, e, q, ts, ms, rfl, _⟩ := h; rfl
  · obtain ⟨p, dx, t, e, q, ts, ms, rfl, hp, hq, hl, hm, lt, le, sh, tb, k⟩ := h
    have nd := scKI.nd
    have hh : A.handled = none := hr.hd
    have line : 1000 < sizeLine := by decide
    have npq : q ≠ p := ne_of hq hp (by intro z; cases z)
    refine ⟨_, (pss_cons (ps_fld (pv 0) (pv 1) (by rfl))
 (pss_cons (ps_fld (pv 0) (pv 2) (by rfl))
 (pss_cons (ps_fld (pv 0) (pe_callTy call_list_of (by rfl) T.b_list boot_list (pa_c (pv 3) pa_nil)) (by rfl))
 (pss_cons (ps_if (pt_not (pt_val (pe_call G_small_letters (hr.mono (by decide)) (by rfl) D_small_letters.mg D_small_letters.kp D_small_letters.bd .nil pass0 (pa_c (pv 1) (pa_c pe_int (pa_c pe_int pa_nil))))))
 (pss_one (ps_raise PySem.F.excBase_ValueError T.x_BadKind.ex T.c_BadKind hh (by rfl) (pa_c pe_str pa_nil) (hl := fun _ _ _ z => ⟨by decide, z⟩)))
 pss_nil)
 (pss_cons (ps_if (pt_not (pt_val (pe_call G_is_word (hr.mono (by decide)) (by rfl) D_is_word.mg D_is_word.kp D_is_word.bd .nil pass0 (pa_c (pv 2) pa_nil))))
 (pss_one (ps_raise PySem.F.excBase_ValueError T.x_BadKind.ex T.c_BadKind hh (by rfl) (pa_c pe_str pa_nil) (hl := fun _ _ _ z => ⟨by decide, z⟩)))
 pss_nil)
 (pss_one (ps_if (pt_not (pt_val (pe_call G_are_word_pairs (hr.mono (by decide)) (by rfl) D_are_word_pairs.mg D_are_word_pairs.kp D_are_word_pairs.bd .nil pass0 (pa_c (pe_fld (pv 0) (by rfl)) pa_nil))))
 (pss_one (ps_raise PySem.F.excBase_ValueError T.x_BadKind.ex T.c_BadKind hh (by rfl) (pa_c pe_str pa_nil) (hl := fun _ _ _ z => ⟨by decide, z⟩)))
 pss_nil))))))), ?_⟩
    (repeat array_get_dec)
    refine ⟨p, a.Kind, dx, _, rfl, hp, T.cl2, T.n_title, (by show 0 < 1000; decide), ?_⟩
    (repeat array_get_dec)
    refine ⟨p, a.Kind, dx, _, rfl, upd_same, T.cl2, T.n_ending, (by show 1 < 1000; decide), ?_⟩
    (repeat array_get_dec)
    generalize hH5 : upd (upd H p _) p _ = H5
    have k5 : ∀ c, c ≠ p → H5 c = H c := fun c hc => by rw [← hH5, upd_ne hc, upd_ne hc]
    have p5 : H5 p = some (.ins a.Kind dx (putF "ending" (.str e) (putF "title" (.str t) []))) := by rw [← hH5]; exact upd_same
    refine ⟨q, _, rfl, .inl (SqL.of ((k5 q npq).trans hq)), fun n hn => ?_⟩
    have npn : n ≠ p := fun z => by rw [z, p5] at hn; cases hn
    have hn0 : H n = none := (k5 n npn).symm.trans hn
    (repeat array_get_dec)
    refine ⟨p, a.Kind, dx, _, rfl, (by rw [upd_ne (Ne.symm npn)]; exact p5), T.cl2, T.n_turns, (by show 2 < 1000; decide), ?_⟩
    (repeat array_get_dec)
    generalize hH7 : upd (upd H5 n _) p _ = H7
    have k7 : ∀ c o, H c = some o → c ≠ p → H7 c = some o := fun c o hc hcp => by rw [← hH7, upd_ne hcp, upd_ne (ne_of_none hc hn0), k5 c hcp]; exact hc
    have R : KindAt a H7 p t e n := ⟨dx, _, by rw [← hH7]; exact upd_same, ⟨rfl, rfl, rfl⟩⟩
    have n7 : H7 n = some (.lst (ts.map .ref)) := by rw [← hH7, upd_ne npn]; exact upd_same
    have nt : ∀ t, H t = some (Tb t) → t ≠ p := fun t e => ne_of e hp (by intro z; cases z)
    have t7 : Tabs2 a H7 := ⟨k7 _ _ tb.1 (nt _ tb.1), k7 _ _ tb.2 (nt _ tb.2)⟩
    have m7 : PairsAt H7 n ms := ⟨ts, n7, hl, fun i u m x y => k7 _ _ (hm i u m x y) (ne_of (hm i u m x y) hp (by intro z; cases z))⟩
    have kk : ∀ H8, Same H7 H8 → if kindOk t e ms = true then Q .non H8 else E (.ref a.BadKind) none H8 := fun H8 s8 => k H8 n hn0 (fun c o hc hcp => s8 _ _ (k7 c o hc hcp)) (R.same s8) (s8 _ _ n7)
    clear hH7 hH5 k5 p5 hn
    unfold kindOk at kk
    refine ⟨t, 1, 8, rfl, by omega, t7.1, ?_⟩
    show _
    rw [show (decide ((1 : Int) ≤ t.length) && decide ((t.length : Int) ≤ 8) && lowS t) = titleOk t from rfl]
    (repeat array_get_dec)
    refine w_ite (fun z1 => ?_) (fun z1 => ?_)
    · rw [Bool.not_eq_true'] at z1
      (repeat array_get_dec)
      have k7 := kk H7 (Same.refl _)
      rw [z1, Bool.false_and, if_neg Bool.false_ne_true] at k7
      exact k7
    · have z1 : titleOk t = true := by simpa using z1
      rw [z1, Bool.true_and] at kk
      (repeat array_get_dec)
      refine ⟨e, rfl, by omega, t7.1, ?_⟩
      (repeat array_get_dec)
      refine w_ite (fun z2 => ?_) (fun z2 => ?_)
      · rw [Bool.not_eq_true'] at z2
        (repeat array_get_dec)
        have k7 := kk H7 (Same.refl _)
        rw [z2, Bool.false_and, if_neg Bool.false_ne_true] at k7
        exact k7
      · have z2 : wordS e = true := by simpa using z2
        rw [z2, Bool.true_and] at kk
        (repeat array_get_dec)
        obtain ⟨dx', fs, r1, r2⟩ := id R.ob
        refine ⟨p, a.Kind, dx', fs, _, rfl, r1, T.cl2, T.n_turns, r2.turns, ?_⟩
        (repeat array_get_dec)
        refine ⟨n, ms, rfl, m7, sh.1, sh.2, t7.1, t7.2, fun H8 s8 => ?_⟩
        have k8 := kk H8 s8
        (repeat array_get_dec)
        refine w_ite (fun z3 => ?_) (fun z3 => ?_)
        · rw [Bool.not_eq_true'] at z3
          (repeat array_get_dec)
          rw [z3, if_neg Bool.false_ne_true] at k8
          exact k8
        · have z3 : pairsOk ms = true := by simpa using z3
          rw [z3, if_pos rfl] at k8
          (repeat array_get_dec)
          exact k8
end
end K19

namespace K19
open PySem PySem.Spec PyProof.Rows L2
theorem inV_iff {x : Str} {l : List Str} : inV (.str x) (l.map V.str) = true ↔ x ∈ l := by
  unfold inV
  rw [List.any_map, List.any_eq_true]
  constructor
  · rintro ⟨y, hy, e⟩
    have e : (y == x) = true := e
    rw [← beq_iff_eq.mp e]; exact hy
  · intro h
    exact ⟨x, h, beq_self_eq_true x⟩
theorem inV_strs (x : Str) (l : List Str) : inV (.str x) (l.map V.str) = decide (x ∈ l) := by
  rw [Bool.eq_iff_iff, inV_iff, decide_eq_true_eq]
section
variable {P : Program} {w : World} {K : PySem.W.Frag} {mg : Str → Option Value} {base : Heap} {a : Ad}
/-! ### kinds -/
abbrev KD := Str × Str × List (Str × Str)
def KindFull (a : Ad) (H : Hp) (p : Addr) (k : KD) : Prop := ∃ n, KindAt a H p k.1 k.2.1 n ∧ PairsAt H n k.2.2
theorem KindFull.same {H H' : Hp} {p : Addr} {k : KD} (h : KindFull a H p k) (s : Same H H') : KindFull a H' p k := by
  obtain ⟨n, h1, h2⟩ := h
  exact ⟨n, h1.same s, h2.same s⟩
def KindsAt (a : Ad) (H : Hp) (l : Addr) (ks : List KD) : Prop := ∃ ts : List Addr, H l = some (.lst (ts.map .ref)) ∧ ts.length = ks.length ∧ ∀ (i : Nat) p k, ts[i]? = some p → ks[i]? = some k → KindFull a H p k
theorem KindsAt.same {H H' : Hp} {l : Addr} {ks : List KD} (h : KindsAt a H l ks) (s : Same H H') : KindsAt a H' l ks := by
  obtain ⟨ts, h1, h2, h3⟩ := h
  exact ⟨ts, s _ _ h1, h2, fun i t m x y => (h3 i t m x y).same s⟩
abbrev DTit (K : PySem.W.Frag) (mg : Str → Option Value) := Df K mg "check_titles" "check_titles" (top 27) ["kinds"]
def spTit (a : Ad) : Sp := fun vs H Q _ => ∃ (l : Addr) (ks : List KD), vs = [.ref l] ∧ KindsAt a H l ks ∧ (ks.map (·.1)).Nodup ∧ ks.length ≤ 1000 ∧ Pure .non H Q
theorem scTit : FnScope ["kinds", "titles", "kind"] ["kinds"] (defScope (top 27)) := ⟨rfl, rfl, rfl, by decide +kernel, rfl, by decide +kernel, by decide +kernel⟩
theorem ok_tit (D : DTit K mg) (T : Txt K mg a) : FnOk P w K mg base CX0 1 D.f D.fd ["kinds"] (spTit a) := by
  refine Df.ok (k := 0) D.ex scTit (fun vs H Q E h => ?_) (fun A outer s H vs Q E hr h => ?_)
  · obtain ⟨l, ks, rfl, _⟩ := h; rfl
  · obtain ⟨l, ks, rfl, hk, hnd, hlen, k⟩ := h
    have nd := scTit.nd
    have line : 1000 < sizeLine := by decide
    obtain ⟨ts, h1, h2, h3⟩ := id hk
    refine ⟨_, (pss_cons (ps_set (i := 1) nd rfl (Or.inl rfl) (pe_lst pa_nil))
 (pss_one (ps_for PassesOwn.never rfl (pi_list (pv 0)) (pg_name (i := 2) (show List.Nodup (["kinds", "titles", "kind"] : List Str) from by decide +kernel) rfl (Or.inl rfl))
 (pss_cons (ps_if (pt_cmpR op_in_seq (pe_fld (pv 2) (by rfl)) (pv 1) (by with_unfolding_all rfl))
 (pss_one ps_never)
 pss_nil)
 (pss_one (ps_expr (pe_bm PySem.F.plainAttrs_list PySem.F.slot_list_append PySem.F.type_list_append mt_append (pv 1) (pa_c (pe_fld (pv 2) (by rfl)) pa_nil)))))))), ?_⟩
    (repeat array_get_dec)
    refine ⟨by show 0 ≤ sizeLine; decide, fun t ht => ?_⟩
    (repeat array_get_dec)
    have nlt : l ≠ t := ne_of_none h1 ht
    refine ⟨l, rfl, ⟨_, SqL.of (by rw [upd_ne nlt]; exact h1)⟩, forL (K := K) (a := l) (xs := ts.map V.ref) (fun i σ H2 => ∃ v2, σ = [some (V.ref l), some (V.ref t), v2] ∧ (∀ c o, H c = some o → H2 c = some o) ∧ H2 t = some (.lst (((ks.take i).map (·.1)).map .str)))
      ⟨none, rfl, fun c o e => by rw [upd_ne (ne_of_none e ht)]; exact e, upd_same⟩ (fun i σ H2 _ ⟨_, _, e, _⟩ => SqL.of (e _ _ h1)) ?_ ?_⟩
    · rintro i v σ H2 hv ⟨v2, rfl, kp, g2⟩
      rw [List.getElem?_map] at hv
      obtain ⟨p, hp, rfl⟩ := Option.map_eq_some_iff.mp hv
      have hi : i < ts.length := (List.getElem?_eq_some_iff.mp hp).1
      have hi' : i < ks.length := by omega
      have hki : ks[i]? = some ks[i] := List.getElem?_eq_getElem hi'
      obtain ⟨n, kf, _⟩ := h3 i p ks[i] hp hki
      obtain ⟨dx, fs, r1, r2⟩ := (kf.same kp).ob
      (repeat array_get_dec)
      refine ⟨p, a.Kind, dx, fs, _, rfl, r1, T.cl2, T.n_title, r2.title, ?_⟩
      (repeat array_get_dec)
      have nin : ks[i].1 ∉ (ks.take i).map (·.1) := fun z => by
        obtain ⟨x, hx, e⟩ := List.mem_map.mp z
        obtain ⟨j, hj, e2⟩ := List.mem_iff_getElem.mp hx
        have hj1 : j < i := by rw [List.length_take] at hj; omega
        rw [List.getElem_take] at e2
        have := (List.getElem_inj (i := j) (j := i) (h₀ := by rw [List.length_map]; omega) (h₁ := by rw [List.length_map]; omega) hnd).mp (by rw [List.getElem_map, List.getElem_map, e2, e])
        omega
      refine ⟨t, _, rfl, .inl (SqL.of g2), rfl, flat_strs _, ?_⟩
      rw [if_neg Bool.false_ne_true, inV_strs, decide_eq_false nin]
      (repeat array_get_dec)
      refine ⟨.inl ⟨rfl, _, SqL.of g2⟩, ?_⟩
      (repeat array_get_dec)
      refine ⟨p, a.Kind, dx, fs, _, rfl, r1, T.cl2, T.n_title, r2.title, ?_⟩
      (repeat array_get_dec)
      refine ⟨t, _, _, rfl, rfl, g2, by rw [List.length_map, List.length_map, List.length_take]; omega, ?_⟩
      refine ⟨_, rfl, fun c o e => by rw [upd_ne (ne_of_none e ht)]; exact kp c o e, ?_⟩
      rw [upd_same, List.take_succ, hki, List.map_append, List.map_append]
      rfl
    · rintro σ H2 ⟨v2, rfl, kp, g2⟩
      exact k H2 kp
/-! ### a tongue -/
def MeltsAt (H : Hp) (p : Addr) (ms : List (Str × Str × Str)) : Prop := ∃ ts : List Addr, H p = some (.lst (ts.map .ref)) ∧ ts.length = ms.length ∧ ∀ (i : Nat) t m, ts[i]? = some t → ms[i]? = some m → H t = some (tupM m)
theorem MeltsAt.same {H H' : Hp} {p : Addr} {ms : List (Str × Str × Str)} (h : MeltsAt H p ms) (s : Same H H') : MeltsAt H' p ms := by
  obtain ⟨ts, h1, h2, h3⟩ := h
  exact ⟨ts, s _ _ h1, h2, fun i t m a b => s _ _ (h3 i t m a b)⟩
structure FldT (fs : List (Str × V)) (b : Int) (r q k : Addr) : Prop where
  bound : fs.lookup ("bound" : Str) = some (.int b)
  rules : fs.lookup ("rules" : Str) = some (.ref r)
  melts : fs.lookup ("melts" : Str) = some (.ref q)
  kinds : fs.lookup ("kinds" : Str) = some (.ref k)
structure TongAt (a : Ad) (H : Hp) (p : Addr) (b : Int) (rs : List V) (ms : List (Str × Str × Str)) (ks : List KD) : Prop where
  ob : ∃ dx fs r q k, H p = some (.ins a.Tongue dx fs) ∧ FldT fs b r q k ∧ H r = some (.lst rs) ∧ MeltsAt H q ms ∧ KindsAt a H k ks
theorem TongAt.same {H H' : Hp} {p : Addr} {b : Int} {rs : List V} {ms : List (Str × Str × Str)} {ks : List KD} (R : TongAt a H p b rs ms ks) (s : Same H H') : TongAt a H' p b rs ms ks := by
  obtain ⟨dx, fs, r, q, k, h1, h2, h3, h4, h5⟩ := R.ob
  exact ⟨dx, fs, r, q, k, s _ _ h1, h2, s _ _ h3, h4.same s, h5.same s⟩
abbrev sTI : Stmt := inClass (top 24) 0
abbrev pTI : List Str := ["self", "bound", "rules", "melts", "kinds"]
abbrev DTong (K : PySem.W.Frag) := DfD K "__init__" "Tongue.__init__" sTI pTI
def spTong (a : Ad) : Sp := fun vs H Q _ => ∃ (p dx : Addr) (r q z : Addr) (ks : List KD), vs = [.ref p, .int 0, .ref r, .ref q, .ref z] ∧ H p = some (.ins a.Tongue dx []) ∧ H r = some (.lst []) ∧ H q = some (.lst []) ∧ KindsAt a H z ks ∧ (ks.map (·.1)).Nodup ∧ ks.length ≤ 1000 ∧ H a.tTI = some (Tb a.tTI) ∧
  ∀ H', (∀ c o, H c = some o → c ≠ p → H' c = some o) → TongAt a H' p 0 [] [] ks → Q .non H'
theorem scTong : FnScope pTI pTI (defScope sTI) := ⟨rfl, rfl, rfl, by decide +kernel, rfl, by decide +kernel, by decide +kernel⟩
theorem ok_tong (D : DTong K) (cP : CodeK K D.cdv a.tTI) (hB : BltK base) (D_own_list : DOwn K mg) (G_own_list : FnOk P w K mg base CX0 1 D_own_list.f D_own_list.fd ["given"] (spOwn K)) (D_is_melt : DMelt K mg) (G_is_melt : FnOk P w K mg base CX0 3 D_is_melt.f D_is_melt.fd ["melt"] (spMelt a))
    (D_check_titles : DTit K mg) (G_check_titles : FnOk P w K mg base CX0 1 D_check_titles.f D_check_titles.fd ["kinds"] (spTit a)) (T : Txt K mg a) : FnOk P w K mg base CX0 6 D.f D.fd pTI (spTong a) := by
  refine DfD.ok (k := 5) D scTong (fun vs H Q E h => ?_) (fun A outer s H vs Q E hr h => ?_)
  · obtain ⟨p, dx, r, q, z, ks, rfl, _⟩ := h; rfl
  · obtain ⟨p, dx, r, q, z, ks, rfl, hp, hr0, hq1, hz, hnd, hlen, tTI, k⟩ := h
    obtain ⟨ts, hz1, hz2, hz3⟩ := id hz
    have no : ∀ {c : Addr} {o : HO}, H c = some o → (o ≠ .ins a.Tongue dx []) → c ≠ p := fun e n => ne_of e hp n
    refine ⟨_, (pss_cons (ps_fld (pv 0) (pv 1) (by rfl))
 (pss_cons (ps_fld (pv 0) (pe_callTy call_list_of (by rfl) T.b_list boot_list (pa_c (pv 2) pa_nil)) (by rfl))
 (pss_cons (ps_fld (pv 0) (pe_call G_own_list (hr.mono (by decide)) (by rfl) D_own_list.mg D_own_list.kp D_own_list.bd .nil pass0 (pa_c (pv 3) pa_nil)) (by rfl))
 (pss_cons (ps_fld (pv 0) (pe_call G_own_list (hr.mono (by decide)) (by rfl) D_own_list.mg D_own_list.kp D_own_list.bd .nil pass0 (pa_c (pv 4) pa_nil)) (by rfl))
 (pss_cons (ps_if (pt_cmpR op_lt (pv 1) pe_int (nomark _))
 (pss_one ps_never)
 pss_nil)
 (pss_cons (ps_if (pt_not (pt_val (pe_allG (N := ["melt"]) (fs := []) (⟨rfl, rfl, rfl, by rfl, by rfl, trivial⟩) hB cP (hr.mono (by decide) : Room (4 + 1) _) (by rfl) T.b_all (pi_list (pe_fld (pv 0) (by rfl))) (fun _ _ _ _ _ _ _ => by exact (pg_name (i := 0) (show List.Nodup (["melt"] : List Str) from by decide +kernel) rfl (Or.inl rfl))) (fun _ _ _ _ _ _ _ hr => by exact (pe_call G_is_melt (hr.mono (by decide)) (by rfl) D_is_melt.mg D_is_melt.kp D_is_melt.bd .nil pass0 (pa_c (pv 0) pa_nil))))))
 (pss_one ps_never)
 pss_nil)
 (pss_one (ps_expr (pe_call G_check_titles (hr.mono (by decide)) (by rfl) D_check_titles.mg D_check_titles.kp D_check_titles.bd .nil pass0 (pa_c (pe_fld (pv 0) (by rfl)) pa_nil)))))))))), ?_⟩
    (repeat array_get_dec)
    refine ⟨p, a.Tongue, dx, _, rfl, hp, T.cl, T.n_bound, (by show 0 < 1000; decide), ?_⟩
    (repeat array_get_dec)
    generalize hH1 : upd H p _ = H1
    have k1 : ∀ c, c ≠ p → H1 c = H c := fun c hc => by rw [← hH1, upd_ne hc]
    have p1 : H1 p = some (.ins a.Tongue dx (putF "bound" (.int 0) [])) := by rw [← hH1]; exact upd_same
    have r1 : H1 r = some (.lst []) := (k1 r (no hr0 (by intro z; cases z))).trans hr0
    refine ⟨r, [], rfl, .inl (SqL.of r1), fun n2 h2 => ?_⟩
    (repeat array_get_dec)
    have np2 : p ≠ n2 := ne_of_none p1 h2
    refine ⟨p, a.Tongue, dx, _, rfl, (by rw [upd_ne np2]; exact p1), T.cl, T.n_rules, (by show 1 < 1000; decide), ?_⟩
    (repeat array_get_dec)
    generalize hH2 : upd (upd H1 n2 _) p _ = H2
    have k2 : ∀ c o, H c = some o → c ≠ p → H2 c = some o := fun c o hc n => by
      have h1c : H1 c = some o := (k1 c n).trans hc
      rw [← hH2, upd_ne n, upd_ne (ne_of_none h1c h2)]; exact h1c
    have p2 : H2 p = some (.ins a.Tongue dx (putF "rules" (.ref n2) (putF "bound" (.int 0) []))) := by rw [← hH2]; exact upd_same
    have g2 : H2 n2 = some (.lst []) := by rw [← hH2, upd_ne (Ne.symm np2)]; exact upd_same
    clear hH2 hH1 h2
    refine ⟨.ref q, [], rfl, .inr ⟨q, rfl, SqL.of (k2 _ _ hq1 (no hq1 (by intro z; cases z)))⟩, fun n3 h3 => ?_⟩
    (repeat array_get_dec)
    have np3 : p ≠ n3 := ne_of_none p2 h3
    refine ⟨p, a.Tongue, dx, _, rfl, (by rw [upd_ne np3]; exact p2), T.cl, T.n_melts, (by show 2 < 1000; decide), ?_⟩
    (repeat array_get_dec)
    generalize hH3 : upd (upd H2 n3 _) p _ = H3
    have k23 : ∀ c o, H2 c = some o → c ≠ p → H3 c = some o := fun c o hc n => by rw [← hH3, upd_ne n, upd_ne (ne_of_none hc h3)]; exact hc
    have p3 : H3 p = some (.ins a.Tongue dx (putF "melts" (.ref n3) (putF "rules" (.ref n2) (putF "bound" (.int 0) [])))) := by rw [← hH3]; exact upd_same
    have g3 : H3 n3 = some (.lst []) := by rw [← hH3, upd_ne (Ne.symm np3)]; exact upd_same
    clear hH3 h3
    have nzp : z ≠ p := no hz1 (by intro z; cases z)
    refine ⟨.ref z, ts.map .ref, rfl, .inr ⟨z, rfl, SqL.of (k23 _ _ (k2 _ _ hz1 nzp) nzp)⟩, fun n4 h4 => ?_⟩
    (repeat array_get_dec)
    have np4 : p ≠ n4 := ne_of_none p3 h4
    refine ⟨p, a.Tongue, dx, _, rfl, (by rw [upd_ne np4]; exact p3), T.cl, T.n_kinds, (by show 3 < 1000; decide), ?_⟩
    generalize hH4 : upd (upd H3 n4 _) p _ = H4
    have k34 : ∀ c o, H3 c = some o → c ≠ p → H4 c = some o := fun c o hc n => by rw [← hH4, upd_ne n, upd_ne (ne_of_none hc h4)]; exact hc
    have p4 : H4 p = some (.ins a.Tongue dx (putF "kinds" (.ref n4) (putF "melts" (.ref n3) (putF "rules" (.ref n2) (putF "bound" (.int 0) []))))) := by rw [← hH4]; exact upd_same
    have g4 : H4 n4 = some (.lst (ts.map .ref)) := by rw [← hH4, upd_ne (Ne.symm np4)]; exact upd_same
    clear hH4 h4
    have k04 : ∀ c o, H c = some o → c ≠ p → H4 c = some o := fun c o hc n => k34 _ _ (k23 _ _ (k2 _ _ hc n) n) n
    have g34 := k34 _ _ g3 (Ne.symm np3)
    have fl : FldT (putF "kinds" (.ref n4) (putF "melts" (.ref n3) (putF "rules" (.ref n2) (putF "bound" (.int 0) [])))) 0 n2 n3 n4 := ⟨rfl, rfl, rfl, rfl⟩
    generalize putF "kinds" (.ref n4) (putF "melts" (.ref n3) (putF "rules" (.ref n2) (putF "bound" (.int 0) []))) = fs at p4 fl
    have kf : ∀ (i : Nat) u m, ts[i]? = some u → ks[i]? = some m → KindFull a H4 u m := fun i u m x y => by
      obtain ⟨n, kx, us, e1, e2, e3⟩ := hz3 i u m x y
      obtain ⟨dx', fs', r1', r2'⟩ := kx.ob
      exact ⟨n, ⟨dx', fs', k04 _ _ r1' (fun e => by rw [e, hp] at r1'; injection r1' with r1'; injection r1' with _ _ r3; rw [← r3] at r2'; cases r2'.title), r2'⟩, us, k04 _ _ e1 (no e1 (by intro z; cases z)), e2, fun i t m x y => k04 _ _ (e3 i t m x y) (no (e3 i t m x y) (by intro z; cases z))⟩
    have KA : KindsAt a H4 n4 ks := ⟨ts, g4, hz2, kf⟩
    have TA : TongAt a H4 p 0 [] [] ks := ⟨dx, fs, n2, n3, n4, p4, fl, k34 _ _ (k23 _ _ g2 (Ne.symm np2)) (Ne.symm np2), ⟨[], g34, rfl, fun i t m x => by cases x⟩, KA⟩
    have t4 : H4 a.tTI = some (Tb a.tTI) := k04 _ _ tTI (no tTI (by intro z; cases z))
    (repeat array_get_dec)
    rw [decide_eq_false (show ¬ (0 : Int) < 0 by omega)]
    (repeat array_get_dec)
    refine ⟨p, _, dx, fs, _, rfl, p4, T.cl, T.n_melts, fl.melts, ?_⟩
    refine ⟨n3, rfl, ⟨_, SqL.of g34⟩, all_lB (fun _ => true) (SqL.of g34) t4 rfl (fun v hv => (nomatch hv)) ?_⟩
    rw [show (([] : List V).all fun _ => true) = true from rfl]
    (repeat array_get_dec)
    refine ⟨p, _, dx, fs, _, rfl, p4, T.cl, T.n_kinds, fl.kinds, ?_⟩
    (repeat array_get_dec)
    exact ⟨n4, ks, rfl, KA, hnd, hlen, fun H5 s5 => k H5 (fun c o hc n => s5 _ _ (k04 _ _ hc n)) (TA.same s5)⟩
end
end K19

namespace L2
open PySem PySem.Spec PyProof.Rows
theorem PS.nox {X : Cx} {st : Stmt} {t : TS} (h : PS X.nox st t) : PS X st t := by
  intro pins s σ H D I hw
  have z := h pins s σ H D (I.wish _) hw
  exact wpAny_mono z (fun _ _ q => q.unwish) (fun _ _ x => x.elim)
end L2
namespace K19
open PySem PySem.Spec PyProof.Rows L2
section
variable {P : Program} {w : World} {K : PySem.W.Frag} {mg : Str → Option Value} {base : Heap} {a : Ad}
/-! ### kind_of -/
def kindAt (ks : List KD) (t : Str) : Option KD := ks.find? fun k => decide (k.1 = t)
theorem kindAt_drop {ks : List KD} {t : Str} {i : Nat} {k : KD} (h : ks[i]? = some k) : kindAt (ks.drop i) t = if decide (k.1 = t) = true then some k else kindAt (ks.drop (i + 1)) t := by
  obtain ⟨hi, e⟩ := List.getElem?_eq_some_iff.mp h
  rw [List.drop_eq_getElem_cons hi, e]
  unfold kindAt
  rw [List.find?_cons]
  cases decide (k.1 = t) <;> rfl
abbrev DKO (K : PySem.W.Frag) (mg : Str → Option Value) := Df K mg "kind_of" "kind_of" (top 32) ["tongue", "title"]
def spKO (a : Ad) : Sp := fun vs H Q E => ∃ (p : Addr) (t : Str) (ks : List KD), vs = [.ref p, .str t] ∧ TongAt a H p 0 [] [] ks ∧ (∀ k, kindAt ks t = some k → ∀ u, KindFull a H u k → Q (.ref u) H) ∧ (kindAt ks t = none → E (.ref a.NoKind) none H)
theorem scKO : FnScope ["tongue", "title", "kind"] ["tongue", "title"] (defScope (top 32)) := ⟨rfl, rfl, rfl, by decide +kernel, rfl, by decide +kernel, by decide +kernel⟩
theorem ok_ko (D : DKO K mg) (T : Txt K mg a) : FnOk P w K mg base (CXE P w) 1 D.f D.fd ["tongue", "title"] (spKO a) := by
  refine Df.okE (k := 0) D.ex scKO (fun vs H Q E h => ?_) (fun A outer s H vs Q E hr h => ?_)
  · obtain ⟨p, t, ks, rfl, _⟩ := h; rfl
  · obtain ⟨p, t, ks, rfl, R, q1, q2⟩ := h
    have nd := scKO.nd
    have hh : A.handled = none := hr.hd
    obtain ⟨dx, fs, r, m, z, h1, h2, h3, h4, ts, h5, h6, h7⟩ := id R.ob
    refine ⟨_, (pss_cons (PS.nox (ps_for PassesOwn.never rfl (pi_list (pe_fld (pv 0) (by rfl))) (pg_name (i := 2) (show List.Nodup (["tongue", "title", "kind"] : List Str) from by decide +kernel) rfl (Or.inl rfl))
 (pss_one (ps_if (pt_cmpR op_eq (pe_fld (pv 2) (by rfl)) (pv 1) (nomark _))
 (pss_one (ps_ret (pv 2)))
 pss_nil))))
 (pss_one (ps_raise PySem.F.excBase_ValueError T.x_NoKind.ex T.c_NoKind hh (by rfl) (pa_c pe_str pa_nil) (hl := fun _ _ _ z => ⟨by decide, z⟩)))), ?_⟩
    (repeat array_get_dec)
    refine ⟨p, _, dx, fs, _, rfl, h1, T.cl, T.n_kinds, h2.kinds, ?_⟩
    refine ⟨z, rfl, ⟨_, SqL.of h5⟩, forL (K := K) (a := z) (xs := ts.map V.ref) (fun i σ H2 => ∃ v2, σ = [some (V.ref p), some (V.str t), v2] ∧ H = H2 ∧ kindAt ks t = kindAt (ks.drop i) t)
      ⟨none, rfl, rfl, rfl⟩ (fun i σ H2 _ ⟨_, _, e, _⟩ => by rw [← e]; exact SqL.of h5) ?_ ?_⟩
    · rintro i v σ _ hv ⟨v2, rfl, rfl, ek⟩
      rw [List.getElem?_map] at hv
      obtain ⟨u, hu, rfl⟩ := Option.map_eq_some_iff.mp hv
      have hi : i < ks.length := by have := (List.getElem?_eq_some_iff.mp hu).1; omega
      have hki : ks[i]? = some ks[i] := List.getElem?_eq_getElem hi
      have kf := h7 i u ks[i] hu hki
      obtain ⟨n, kx, _⟩ := id kf
      obtain ⟨dx', fs', r1, r2⟩ := kx.ob
      rw [kindAt_drop hki] at ek
      (repeat array_get_dec)
      refine ⟨u, a.Kind, dx', fs', _, rfl, r1, T.cl2, T.n_title, r2.title, ?_⟩
      (repeat array_get_dec)
      refine w_ite (fun z1 => ?_) (fun z1 => ?_)
      · rw [z1, if_pos rfl] at ek
        (repeat array_get_dec)
        exact q1 _ ek u kf
      · rw [z1, if_neg Bool.false_ne_true] at ek
        (repeat array_get_dec)
        exact ⟨_, rfl, rfl, ek⟩
    · rintro σ _ ⟨v2, rfl, rfl, ek⟩
      (repeat array_get_dec)
      refine q2 ?_
      rw [ek, List.length_map, h6, List.drop_of_length_le (Nat.le_refl _)]
      rfl
end
end K19

namespace K19
open PySem PySem.Spec PyProof.Rows L2
theorem cut_last (xs : List V) : cutV xs none (some (-1)) = xs.dropLast := by
  unfold cutV
  rw [HT.sIx_none, List.drop_zero, Nat.sub_zero, List.dropLast_eq_take]
  congr 1
  unfold HT.sIx
  simp only []
  rw [if_pos (by decide)]
  omega
theorem Same.free {H H' : Hp} {p : Addr} (s : Same H H') (h : H' p = none) : H p = none := by
  cases e : H p with
  | none => rfl
  | some o => rw [s _ _ e] at h; cases h
section
variable {P : Program} {w : World} {K : PySem.W.Frag} {mg : Str → Option Value} {base : Heap} {a : Ad}
/-! ### _law_turned -/
def turnedR (ys : List Str) (e : Str) (ms : List (Str × Str)) : List Str := match ms.find? (fun m => decide (m.1 = ys.getLast?.getD "")) with
  | some m => ys.dropLast ++ [m.2]
  | none => ys ++ [("+" : Str), e]
abbrev DLTd (K : PySem.W.Frag) (mg : Str → Option Value) := Df K mg "_law_turned" "_law_turned" (top 42) ["_law_row_here", "_law_ending", "_law_turns"]
abbrev nLTd : List Str := ["_law_row_here", "_law_ending", "_law_turns", "_law_first", "_law_second"]
def spLTd : Sp := fun vs H Q _ => ∃ (r : Addr) (e : Str) (l : Addr) (ys : List Str) (ms : List (Str × Str)), vs = [.ref r, .str e, .ref l] ∧ H r = some (.lst (ys.map .str)) ∧ ys ≠ [] ∧ ys.length ≤ 1000 ∧ PairsAt H l ms ∧ ∀ H' z, Same H H' → H z = none → H' z = some (.lst ((turnedR ys e ms).map .str)) → Q (.ref z) H'
theorem scLTd : FnScope nLTd ["_law_row_here", "_law_ending", "_law_turns"] (defScope (top 42)) := ⟨rfl, rfl, rfl, by decide +kernel, rfl, by decide +kernel, by decide +kernel⟩
theorem last_D {ys : List Str} (h : ys ≠ []) : ys.getLast?.getD "" = ys.getLast h := by rw [List.getLast?_eq_some_getLast h]; rfl
theorem find_drop {α : Type} {f : α → Bool} {l : List α} {i : Nat} {x : α} (h : l[i]? = some x) : (l.drop i).find? f = if f x = true then some x else (l.drop (i + 1)).find? f := by
  obtain ⟨hi, e⟩ := List.getElem?_eq_some_iff.mp h
  rw [List.drop_eq_getElem_cons hi, e, List.find?_cons]
  cases f x <;> rfl
theorem ok_ltd (D : DLTd K mg) (T : Txt K mg a) : FnOk P w K mg base CX0 1 D.f D.fd ["_law_row_here", "_law_ending", "_law_turns"] spLTd := by
  refine Df.ok (k := 0) D.ex scLTd (fun vs H Q E h => ?_) (fun A outer s H vs Q E hr h => ?_)
  · obtain ⟨r, e, l, ys, ms, rfl, _⟩ := h; rfl
  · obtain ⟨r, e, l, ys, ms, rfl, hr0, hne, ly, hp, k⟩ := h
    have nd := scLTd.nd
    have line : 2000 < sizeLine := by decide
    obtain ⟨ts, h1, h2, h3⟩ := id hp
    refine ⟨_, (pss_cons (ps_for PassesOwn.never rfl (pi_list (pv 2)) (pg_tup (n := 2) rfl (pgs_cons (pg_name (i := 3) (show List.Nodup (["_law_row_here", "_law_ending", "_law_turns", "_law_first", "_law_second"] : List Str) from by decide +kernel) rfl (Or.inl rfl)) (pgs_cons (pg_name (i := 4) (show List.Nodup (["_law_row_here", "_law_ending", "_law_turns", "_law_first", "_law_second"] : List Str) from by decide +kernel) rfl (Or.inl rfl)) pgs_nil)))
 (pss_one (ps_if (pt_cmpR op_eq (pv 3) (pe_ix ix_list (pv 0) (pe_un un_neg pe_int) (fun _ _ => rfl)) (nomark _))
 (pss_one (ps_ret (pe_op op_cat (pe_slice sl_list (pv 0) po_none (po_some (pe_un un_neg pe_int))) (pe_lst (pa_c (pv 4) pa_nil)))))
 pss_nil)))
 (pss_one (ps_ret (pe_op op_cat (pv 0) (pe_lst (pa_c pe_str (pa_c (pv 1) pa_nil))))))), ?_⟩
    (repeat array_get_dec)
    refine ⟨l, rfl, ⟨_, SqL.of h1⟩, forL (K := K) (a := l) (xs := ts.map V.ref) (fun i σ H2 => ∃ v3 v4, σ = [some (V.ref r), some (V.str e), some (V.ref l), v3, v4] ∧ H = H2 ∧ ms.find? (fun m => decide (m.1 = ys.getLast?.getD "")) = (ms.drop i).find? (fun m => decide (m.1 = ys.getLast?.getD "")))
      ⟨none, none, rfl, rfl, rfl⟩ (fun i σ H2 _ ⟨_, _, _, e, _⟩ => by rw [← e]; exact SqL.of h1) ?_ ?_⟩
    · rintro i v σ _ hv ⟨v3, v4, rfl, rfl, ek⟩
      rw [List.getElem?_map] at hv
      obtain ⟨u, hu, rfl⟩ := Option.map_eq_some_iff.mp hv
      have hi : i < ms.length := by have := (List.getElem?_eq_some_iff.mp hu).1; omega
      have hki : ms[i]? = some ms[i] := List.getElem?_eq_getElem hi
      have hu2 : H u = some (.tup [.str ms[i].1, .str ms[i].2]) := h3 i u ms[i] hu hki
      rw [find_drop hki] at ek
      refine w_gTup' (SqT.of hu2) rfl ?_
      refine ⟨_, _, rfl, _, _, rfl, rfl, ?_⟩
      show tIfS _ _ _ _ [some (V.ref r), some (V.str e), some (V.ref l), some (V.str ms[i].1), some (V.str ms[i].2)] H
      (repeat array_get_dec)
      refine ⟨r, _, -1, _, rfl, rfl, SqL.of hr0, atI_lastS hne, ?_⟩
      (repeat array_get_dec)
      rw [last_D hne] at ek
      refine w_ite (fun z1 => ?_) (fun z1 => ?_)
      · rw [z1, if_pos rfl] at ek
        have ed : turnedR ys e ms = ys.dropLast ++ [ms[i].2] := by unfold turnedR; rw [last_D hne, ek]
        rw [ed] at k
        (repeat array_get_dec)
        refine ⟨r, _, rfl, SqL.of hr0, fun p1 hp1 => ?_⟩
        have s1 := Same.upd (o := .lst (cutV (ys.map V.str) none (some (-1)))) hp1
        (repeat array_get_dec)
        refine ⟨by show 1 ≤ sizeLine; decide, fun p2 hp2 => ?_⟩
        (repeat array_get_dec)
        have s2 := Same.upd (o := .lst [V.str ms[i].2]) hp2
        have n1 : H p1 = none := hp1
        refine ⟨p1, p2, _, _, rfl, rfl, s2 _ _ upd_same, upd_same, ?_, fun p3 hp3 => ?_⟩
        · rw [cut_last, List.length_dropLast, List.length_map]; show _ + 1 ≤ _; omega
        have s3 := Same.upd (o := .lst (cutV (ys.map V.str) none (some (-1)) ++ [V.str ms[i].2])) hp3
        refine k _ p3 (s1.trans (s2.trans s3)) ?_ ?_
        · exact Same.free (s1.trans s2) hp3
        · rw [upd_same, cut_last, List.map_append, List.map_dropLast]; rfl
      · rw [z1, if_neg Bool.false_ne_true] at ek
        (repeat array_get_dec)
        exact ⟨_, _, rfl, rfl, by rw [last_D hne]; exact ek⟩
    · rintro σ _ ⟨v3, v4, rfl, rfl, ek⟩
      have ed : turnedR ys e ms = ys ++ [("+" : Str), e] := by
        unfold turnedR
        rw [ek, List.length_map, h2, List.drop_of_length_le (Nat.le_refl _)]
        rfl
      rw [ed] at k
      (repeat array_get_dec)
      refine ⟨by show 2 ≤ sizeLine; decide, fun p2 hp2 => ?_⟩
      have s2 := Same.upd (o := .lst [V.str "+", V.str e]) hp2
      refine ⟨r, p2, _, _, rfl, rfl, s2 _ _ hr0, upd_same, by rw [List.length_map]; show _ + 2 ≤ _; omega, fun p3 hp3 => ?_⟩
      have s3 := Same.upd (o := .lst (ys.map V.str ++ [V.str "+", V.str e])) hp3
      refine k _ p3 (s2.trans s3) (Same.free s2 hp3) ?_
      rw [upd_same, List.map_append]; rfl
end
end K19

namespace K19
open PySem PySem.Spec PyProof.Rows L2
theorem alpha_is : (("abcdefghijklmnopqrstuvwxyz" : Str)).cps.toList = List.range' 97 26 := by decide +kernel
theorem in_alpha (c : Nat) : (!(Builtin.Str.occurrences ("abcdefghijklmnopqrstuvwxyz" : Str) ⟨#[c]⟩ 0 ("abcdefghijklmnopqrstuvwxyz" : Str).length 1).isEmpty) = lowC c := by
  rw [StrLaws.found_one, alpha_is, Bool.eq_iff_iff, decide_eq_true_eq, List.mem_range'_1]
  unfold lowC
  rw [Bool.and_eq_true, decide_eq_true_eq, decide_eq_true_eq]
  omega
section
variable {P : Program} {w : World} {K : PySem.W.Frag} {mg : Str → Option Value} {base : Heap} {a : Ad}
/-! ### _law_letters -/
def lettersOk (x : Str) (i j : Int) : Bool := decide (i ≤ x.length) && decide ((x.length : Int) ≤ j) && lowS x
abbrev DLL (K : PySem.W.Frag) (mg : Str → Option Value) := Df K mg "_law_letters" "_law_letters" (top 43) ["_law_text", "_law_least", "_law_most"]
def spLL : Sp := fun vs H Q _ => ∃ (x : Str) (i j : Int), vs = [.str x, .int i, .int j] ∧ x.length ≤ 1000 ∧ Pure (.bl (lettersOk x i j)) H Q
theorem scLL : FnScope ["_law_text", "_law_least", "_law_most"] ["_law_text", "_law_least", "_law_most"] (defScope (top 43)) := ⟨rfl, rfl, rfl, by decide +kernel, rfl, by decide +kernel, by decide +kernel⟩
theorem ok_ll (D : DLL K mg) (T : Txt K mg a) : FnOk P w K mg base CX0 1 D.f D.fd ["_law_text", "_law_least", "_law_most"] spLL := by
  refine Df.ok (k := 0) D.ex scLL (fun vs H Q E h => ?_) (fun A outer s H vs Q E hr h => ?_)
  · obtain ⟨x, i, j, rfl, _⟩ := h; rfl
  · obtain ⟨x, i, j, rfl, hx, k⟩ := h
    have nd := scLL.nd
    have line : 1000 < sizeLine := by decide
    unfold lettersOk at k
    refine ⟨_, (pss_cons (ps_if (pt_not (pt_chain op_le op_le (pv 1) (pe_callB call_len_str (by rfl) T.b_len boot_len (pa_c (pv 0) pa_nil)) (pv 2)))
 (pss_one (ps_ret pe_bl))
 pss_nil)
 (pss_one (ps_ret (pe_callB (call_allL rfl) (by rfl) T.b_all boot_all (pa_c (pe_lc (N := ["_law_sign"]) (fs := []) (⟨rfl, by rfl, by rfl, by rfl, trivial⟩) rfl (pi_str (pv 0)) (fun _ _ _ _ _ => (pg_name (i := 0) (show List.Nodup (["_law_sign"] : List Str) from by decide +kernel) rfl (Or.inl rfl))) (fun _ _ _ _ _ => by exact pts_nil) (fun _ _ _ _ _ => by exact (pe_cmpR op_in_str (pv 0) pe_str (by with_unfolding_all rfl)))) pa_nil))))), ?_⟩
    (repeat array_get_dec)
    refine ⟨_, rfl, by omega, ?_⟩
    (repeat array_get_dec)
    refine w_ite (fun e1 => ?_) (fun e1 => ?_)
    · (repeat array_get_dec)
      rw [e1] at k
      refine w_ite (fun e2 => ?_) (fun e2 => ?_)
      · rw [Bool.not_eq_true'] at e2
        rw [e2] at k
        (repeat array_get_dec)
        exact k H (Same.refl _)
      · have e2 : decide ((x.length : Int) ≤ j) = true := by simpa using e2
        rw [e2] at k
        (repeat array_get_dec)
        refine ⟨x, rfl, lcG (fun n zs => zs = ((x.cps.toList.take n).map lowC).map V.bl) (tells_s (x := x)) (by show x.length ≤ _; omega) rfl (fun D' n zs H2 hn hD s2 e4 r => ?_) (fun D' H2 zs hD s2 e4 r => ?_)⟩
        · (repeat array_get_dec)
          refine ⟨mono0 rfl, ?_⟩
          (repeat array_get_dec)
          refine ⟨_, _, rfl, rfl, ?_⟩
          rw [in_alpha]
          have hn' : n < x.cps.toList.length := by rw [← sl_len]; exact hn
          have ec : x.cps.getD n 0 = x.cps.toList[n] := by
            have : n < x.cps.size := by simpa using hn'
            simp [Array.getD, this]
          rw [ec]
          exact lcFin hD s2 e4 (Same.refl _) (by rw [r, List.take_succ, List.getElem?_eq_getElem hn', List.map_append, List.map_append]; rfl)
        · have r : zs = (x.cps.toList.map lowC).map V.bl := by rw [r, List.take_of_length_le (by rw [← sl_len]; exact Nat.le_refl _)]
          subst r
          (repeat array_get_dec)
          refine ⟨D', _, rfl, SqL.of e4, ?_⟩
          have e5 : (x.cps.toList.map lowC).all id = lowS x := by rw [List.all_map]; rfl
          rw [e5]
          exact k H2 s2
    · (repeat array_get_dec)
      rw [e1] at k
      exact k H (Same.refl _)
end
end K19

namespace K19
open PySem PySem.Spec PyProof.Rows L2
theorem letters_title (t : Str) : lettersOk t 1 8 = titleOk t := rfl
theorem letters_word (e : Str) : lettersOk e 2 10 = wordS e := by
  unfold lettersOk wordS
  congr 2
  · exact decide_eq_decide.mpr (by omega)
  · exact decide_eq_decide.mpr (by omega)
theorem fstK_V (ms : List (Str × Str)) : (fstK ms).map kV = (ms.map (·.1)).map V.str := by unfold fstK; rw [List.map_map, List.map_map]; rfl
theorem metK_lt' (ks : List Key) : decide (((metK ks).length : Int) < ks.length) = !decide ks.Nodup := by
  by_cases z : ks.Nodup
  · rw [decide_eq_true z, metK_nd z]; simp
  · rw [decide_eq_false z]
    have := metK_lt z
    rw [decide_eq_true (by omega)]
    rfl
theorem mono2 {σ : L2.St} {x y : Option V} : ∀ (j : Nat) v, (tau 2 [] σ)[j]? = some (some v) → ([x, y] : L2.St)[j]? = some (some v) := fun j v h => by
  match j, h with
  | 0, h => cases h
  | 1, h => cases h
  | j + 2, h => cases h
section
variable {P : Program} {w : World} {K : PySem.W.Frag} {mg : Str → Option Value} {base : Heap} {a : Ad}
/-! ### _law_is_kind -/
abbrev DIK (K : PySem.W.Frag) (mg : Str → Option Value) := Df K mg "_law_is_kind" "_law_is_kind" (top 46) ["_law_title", "_law_ending", "_law_turns"]
def spIK : Sp := fun vs H Q _ => ∃ (t e : Str) (l : Addr) (ms : List (Str × Str)), vs = [.str t, .str e, .ref l] ∧ t.length ≤ 1000 ∧ e.length ≤ 1000 ∧ PairsAt H l ms ∧ Short ms ∧ Pure (.bl (kindOk t e ms)) H Q
theorem scIK : FnScope ["_law_title", "_law_ending", "_law_turns", "_law_firsts"] ["_law_title", "_law_ending", "_law_turns"] (defScope (top 46)) := ⟨rfl, rfl, rfl, by decide +kernel, rfl, by decide +kernel, by decide +kernel⟩
theorem ok_ik (D : DIK K mg) (D__law_letters : DLL K mg) (G__law_letters : FnOk P w K mg base CX0 1 D__law_letters.f D__law_letters.fd ["_law_text", "_law_least", "_law_most"] spLL) (T : Txt K mg a) : FnOk P w K mg base CX0 2 D.f D.fd ["_law_title", "_law_ending", "_law_turns"] spIK := by
  refine Df.ok (k := 1) D.ex scIK (fun vs H Q E h => ?_) (fun A outer s H vs Q E hr h => ?_)
  · obtain ⟨t, e, l, ms, rfl, _⟩ := h; rfl
  · obtain ⟨t, e, l, ms, rfl, lt, le, hp, sh, k⟩ := h
    have nd := scIK.nd
    have hh : A.handled = none := hr.hd
    have line : 1000 < sizeLine := by decide
    obtain ⟨sl, sm⟩ := sh
    obtain ⟨ts, h1, h2, h3⟩ := id hp
    unfold kindOk at k
    refine ⟨_, (pss_cons (ps_setLC (i := 3) nd rfl (Or.inl rfl) (N := ["_law_pair"]) (fs := []) (⟨rfl, by rfl, by rfl, by rfl, trivial⟩) rfl (pi_list (pv 2)) (fun _ _ _ _ _ => (pg_name (i := 0) (show List.Nodup (["_law_pair"] : List Str) from by decide +kernel) rfl (Or.inl rfl))) (fun _ _ _ _ _ => by exact pts_nil) (fun _ _ _ _ _ => by exact (pe_ix (ix_tupK K) (pv 0) pe_int (fun _ _ => rfl))))
 (pss_cons (ps_if (pw_or (pt_not (pt_val (pe_call G__law_letters (hr.mono (by decide)) (by rfl) D__law_letters.mg D__law_letters.kp D__law_letters.bd .nil pass0 (pa_c (pv 0) (pa_c pe_int (pa_c pe_int pa_nil)))))) (pw_or (pt_not (pt_val (pe_call G__law_letters (hr.mono (by decide)) (by rfl) D__law_letters.mg D__law_letters.kp D__law_letters.bd .nil pass0 (pa_c (pv 1) (pa_c pe_int (pa_c pe_int pa_nil)))))) (pw_or1 (pt_cmpR op_lt (pe_callB (call_len_setK P w) (by rfl) T.b_len boot_len (pa_c (pe_callTy (call_setLK P w hh) (by rfl) T.b_set (by decide +kernel) (pa_c (pv 3) pa_nil)) pa_nil)) (pe_callB call_len_seq (by rfl) T.b_len boot_len (pa_c (pv 3) pa_nil)) (nomark _))))).pt
 (pss_one (ps_ret pe_bl))
 pss_nil)
 (pss_one (ps_ret (pe_callB (call_allL rfl) (by rfl) T.b_all boot_all (pa_c (pe_lc (N := ["_law_first", "_law_second"]) (fs := []) (⟨rfl, by rfl, by rfl, by rfl, trivial⟩) rfl (pi_list (pv 2)) (fun _ _ _ _ _ => (pg_tupK K (n := 2) rfl (pgs_cons (pg_name (i := 0) (show List.Nodup (["_law_first", "_law_second"] : List Str) from by decide +kernel) rfl (Or.inl rfl)) (pgs_cons (pg_name (i := 1) (show List.Nodup (["_law_first", "_law_second"] : List Str) from by decide +kernel) rfl (Or.inl rfl)) pgs_nil)))) (fun _ _ _ _ _ => by exact pts_nil) (fun _ _ _ _ _ => by exact (pe_and (pe_call G__law_letters (hr.mono (by decide)) (by rfl) D__law_letters.mg D__law_letters.kp D__law_letters.bd .nil pass0 (pa_c (pv 0) (pa_c pe_int (pa_c pe_int pa_nil)))) (pe_one (pe_call G__law_letters (hr.mono (by decide)) (by rfl) D__law_letters.mg D__law_letters.kp D__law_letters.bd .nil pass0 (pa_c (pv 1) (pa_c pe_int (pa_c pe_int pa_nil)))))))) pa_nil)))))), ?_⟩
    (repeat array_get_dec)
    refine ⟨l, rfl, ⟨_, SqL.of h1⟩, lcG (fun n zs => zs = ((ms.take n).map (·.1)).map V.str) (tells_l (SqL.of h1)) (by rw [List.length_map]; omega) rfl (fun D' n zs H2 hn hD s2 e4 r => ?_) (fun D' H2 zs hD s2 e4 r => ?_)⟩
    · rw [List.length_map] at hn
      have hn' : n < ms.length := by omega
      have e1 : (ts.map V.ref).getD n .non = V.ref ts[n] := by simp [List.getD_eq_getElem?_getD, hn]
      have ht : H ts[n] = some (.tup [.str ms[n].1, .str ms[n].2]) := h3 n ts[n] ms[n] (List.getElem?_eq_getElem hn) (List.getElem?_eq_getElem hn')
      rw [e1]
      (repeat array_get_dec)
      refine ⟨mono0 rfl, ?_⟩
      (repeat array_get_dec)
      refine ⟨ts[n], _, 0, _, rfl, rfl, SqT.of (s2 _ _ ht), atI_nat (j := 0) rfl, ?_⟩
      exact lcFin hD s2 e4 (Same.refl _) (by rw [r, List.take_succ, List.getElem?_eq_getElem hn', List.map_append, List.map_append]; rfl)
    · have r : zs = (fstK ms).map kV := by rw [r, List.length_map, h2, List.take_of_length_le (Nat.le_refl _), fstK_V]
      subst r
      have fl : (fstK ms).length = ms.length := by unfold fstK; rw [List.length_map]
      (repeat array_get_dec)
      refine ⟨t, 1, 8, rfl, lt, fun H3 s3 => ?_⟩
      rw [letters_title]
      (repeat array_get_dec)
      refine w_ite (fun z1 => ?_) (fun z1 => ?_)
      · rw [Bool.not_eq_true'] at z1
        rw [z1, Bool.false_and] at k
        (repeat array_get_dec)
        exact k _ (s2.trans s3)
      have z1 : titleOk t = true := by simpa using z1
      rw [z1, Bool.true_and] at k
      (repeat array_get_dec)
      refine ⟨e, 2, 10, rfl, le, fun H4 s4 => ?_⟩
      rw [letters_word]
      (repeat array_get_dec)
      refine w_ite (fun z2 => ?_) (fun z2 => ?_)
      · rw [Bool.not_eq_true'] at z2
        rw [z2, Bool.false_and] at k
        (repeat array_get_dec)
        exact k _ (s2.trans (s3.trans s4))
      have z2 : wordS e = true := by simpa using z2
      rw [z2, Bool.true_and] at k
      have s24 := s3.trans s4
      (repeat array_get_dec)
      refine ⟨D', fstK ms, rfl, SqL.of (s24 _ _ e4), by omega, fun q5 h5 => ?_⟩
      have s5 : Same H4 (upd H4 q5 (SetO P w q5 (metK (fstK ms)))) := Same.upd h5
      (repeat array_get_dec)
      refine ⟨q5, _, rfl, upd_same, by have := len_metK (fstK ms); omega, ?_⟩
      (repeat array_get_dec)
      refine ⟨D', _, rfl, .inl (SqL.of (s5 _ _ (s24 _ _ e4))), ?_⟩
      (repeat array_get_dec)
      rw [List.length_map, metK_lt']
      unfold pairsOk at k
      have sA := s2.trans (s24.trans s5)
      generalize upd H4 q5 _ = H5 at sA s5 ⊢
      refine w_ite (fun z3 => ?_) (fun z3 => ?_)
      · rw [Bool.not_eq_true'] at z3
        rw [z3, Bool.and_false] at k
        (repeat array_get_dec)
        exact k _ sA
      have z3 : decide (fstK ms).Nodup = true := by simpa using z3
      rw [z3, Bool.and_true] at k
      (repeat array_get_dec)
      have h15 := sA _ _ h1
      refine ⟨l, rfl, ⟨_, SqL.of h15⟩, lcG (fun n zs => zs = ((ms.take n).map pairOk).map V.bl) (tells_l (SqL.of h15)) (by rw [List.length_map]; omega) rfl (fun D6 n zs H6 hn hD6 s6 e6 r => ?_) (fun D6 H6 zs hD6 s6 e6 r => ?_)⟩
      · rw [List.length_map] at hn
        have hn' : n < ms.length := by omega
        have e1 : (ts.map V.ref).getD n .non = V.ref ts[n] := by simp [List.getD_eq_getElem?_getD, hn]
        have ht : H ts[n] = some (.tup [.str ms[n].1, .str ms[n].2]) := h3 n ts[n] ms[n] (List.getElem?_eq_getElem hn) (List.getElem?_eq_getElem hn')
        have lm := sm ms[n] (List.getElem_mem hn')
        rw [e1]
        refine w_gTup' (SqT.of (s6 _ _ (sA _ _ ht))) rfl ?_
        refine ⟨_, _, rfl, _, _, rfl, rfl, ?_⟩
        refine ⟨mono2, ?_⟩
        (repeat array_get_dec)
        refine ⟨ms[n].1, 2, 10, rfl, lm.1, fun H7 s7 => ?_⟩
        rw [letters_word]
        have ep : pairOk ms[n] = (wordS ms[n].1 && wordS ms[n].2) := rfl
        have fin : ∀ H8 b, Same H6 H8 → b = pairOk ms[n] → H8 D6 = some (.lst zs) ∧ Same H5 (upd H8 D6 (.lst (zs ++ [V.bl b]))) ∧ zs ++ [V.bl b] = ((ms.take (n + 1)).map pairOk).map V.bl := fun H8 b s8 eb =>
          lcFin hD6 s6 e6 s8 (by rw [eb, r, List.take_succ, List.getElem?_eq_getElem hn', List.map_append, List.map_append]; rfl)
        (repeat array_get_dec)
        refine w_ite (fun z4 => ?_) (fun z4 => ?_)
        · (repeat array_get_dec)
          refine ⟨ms[n].2, 2, 10, rfl, lm.2, fun H8 s8 => ?_⟩
          rw [letters_word]
          exact fin H8 _ (s7.trans s8) (by rw [ep, z4, Bool.true_and])
        · exact fin H7 _ s7 (by rw [ep, z4, Bool.false_and])
      · have r : zs = (ms.map pairOk).map V.bl := by rw [r, List.length_map, h2, List.take_of_length_le (Nat.le_refl _)]
        subst r
        (repeat array_get_dec)
        refine ⟨D6, _, rfl, SqL.of e6, ?_⟩
        have e7 : (ms.map pairOk).all id = ms.all pairOk := by rw [List.all_map]; rfl
        rw [e7]
        exact k _ (sA.trans s6)
end
end K19

namespace K19
open PySem PySem.Spec PyProof.Rows L2
section
variable {P : Program} {w : World} {K : PySem.W.Frag} {mg : Str → Option Value} {base : Heap} {a : Ad}
/-! ### _law_made -/
abbrev DMd (K : PySem.W.Frag) (mg : Str → Option Value) := Df K mg "_law_made" "_law_made" (top 47) ["_law_title", "_law_ending", "_law_turns"]
abbrev nMd : List Str := ["_law_title", "_law_ending", "_law_turns", "_law_caught", "_law_made_here", "error"]
def spMd (a : Ad) : Sp := fun vs H Q _ => ∃ (t e : Str) (q : Addr) (ts : List Addr) (ms : List (Str × Str)), vs = [.str t, .str e, .ref q] ∧ H q = some (.lst (ts.map .ref)) ∧ ts.length = ms.length ∧ (∀ (i : Nat) u m, ts[i]? = some u → ms[i]? = some m → H u = some (pairV m)) ∧ t.length ≤ 1000 ∧ e.length ≤ 1000 ∧ Short ms ∧ Tabs2 a H ∧
  if kindOk t e ms = true then ∀ H' z x n, Same H H' → H' z = some (.tup [.ref x, .non]) → KindAt a H' x t e n → H' n = some (.lst (ts.map .ref)) → H n = none → Q (.ref z) H' else ∀ H' z c, Same H H' → H' z = some (.tup [.non, .ref c]) → H' c = some (Ex c a.BadKind) → Q (.ref z) H'
theorem scMd : FnScope nMd ["_law_title", "_law_ending", "_law_turns"] (defScope (top 47)) := ⟨rfl, rfl, rfl, by decide +kernel, rfl, by decide +kernel, by decide +kernel⟩
theorem ok_md (D : DMd K mg) (D_Kind : DKI K) (M_Kind : Mk K a.Kind D_Kind.f) (G_Kind : FnOk P w K mg base (CXE P w) 7 D_Kind.f D_Kind.fd pKI (spKI a)) (T : Txt K mg a) : FnOk P w K mg base CX0 9 D.f D.fd ["_law_title", "_law_ending", "_law_turns"] (spMd a) := by
  refine Df.ok (k := 8) D.ex scMd (fun vs H Q E h => ?_) (fun A outer s H vs Q E hr h => ?_)
  · obtain ⟨t, e, q, ts, ms, rfl, _⟩ := h; rfl
  · obtain ⟨t, e, q, ts, ms, rfl, hq, hl, hm, lt, le, sh, tb, k⟩ := h
    have nd := scMd.nd
    refine ⟨_, (pss_cons (ps_set (i := 3) nd rfl (Or.inl rfl) pe_non)
 (pss_cons (ps_set (i := 4) nd rfl (Or.inl rfl) pe_non)
 (pss_cons (ps_try2 (i1 := 4) (i := 3) (j := 5) nd rfl rfl rfl rfl rfl rfl (by decide) ⟨rfl, rfl⟩ rfl (by rfl) T.c_SayError T.x_SayError (by decide) (fun E pins s σ H Q I h => try_make (E := E) M_Kind G_Kind (hr.mono (by decide)) (by rfl) T.c_Kind D_Kind.bd .nil (pa_c (pv 0) (pa_c (pv 1) (pa_c (pv 2) pa_nil))) I h))
 (pss_one (ps_ret (pe_tup (pa_c (pv 4) (pa_c (pv 3) pa_nil)))))))), ?_⟩
    (repeat array_get_dec)
    refine w_try2 (w_make ?_)
    (repeat array_get_dec)
    intro x dx nx ndx nex
    have s0 : Same H (upd (upd H dx (.own x)) x (.ins a.Kind dx [])) := fun c o hc => by rw [upd_ne (ne_of_none hc nx), upd_ne (ne_of_none hc ndx)]; exact hc
    refine ⟨x, dx, t, e, q, ts, ms, rfl, upd_same, s0 _ _ hq, hl, fun i u m x y => s0 _ _ (hm i u m x y), lt, le, sh, tb.same s0, fun H' n hn kp R hn' => ?_⟩
    have sH : Same H H' := fun c o hc => kp c o (s0 _ _ hc) (ne_of_none hc nx)
    have hnH : H n = none := Same.free s0 hn
    refine w_ite (fun z => ?_) (fun z => ?_)
    · rw [z, if_pos rfl] at k
      refine ⟨rfl, ?_⟩
      (repeat array_get_dec)
      refine ⟨by show 2 ≤ sizeLine; decide, fun p2 hp2 => ?_⟩
      have s2 := Same.upd (o := .tup [.ref x, .non]) hp2
      exact k _ p2 x n (sH.trans s2) upd_same (R.same s2) (s2 _ _ hn') hnH
    · rw [z, if_neg Bool.false_ne_true] at k
      refine ⟨_, _, _, rfl, T.x_BadKind.ex, T.e_BadKind.sub, fun c hc => ?_⟩
      (repeat array_get_dec)
      refine ⟨by show 2 ≤ sizeLine; decide, fun p2 hp2 => ?_⟩
      have s2 := Same.upd (o := .tup [.non, .ref c]) hp2
      exact k _ p2 c (sH.trans ((Same.upd hc).trans s2)) upd_same (s2 _ _ upd_same)
/-! ### _law_made_right -/
abbrev DMR (K : PySem.W.Frag) (mg : Str → Option Value) := Df K mg "_law_made_right" "_law_made_right" (top 48) ["_law_title", "_law_ending", "_law_turns"]
abbrev nMR : List Str := ["_law_title", "_law_ending", "_law_turns", "_law_handed", "_law_made_here", "_law_caught"]
def spMR (a : Ad) : Sp := fun vs H Q _ => ∃ (t e : Str) (l : Addr) (ms : List (Str × Str)), vs = [.str t, .str e, .ref l] ∧ PairsAt H l ms ∧ t.length ≤ 1000 ∧ e.length ≤ 1000 ∧ Short ms ∧ Tabs2 a H ∧ Pure (.bl true) H Q
theorem scMR : FnScope nMR ["_law_title", "_law_ending", "_law_turns"] (defScope (top 48)) := ⟨rfl, rfl, rfl, by decide +kernel, rfl, by decide +kernel, by decide +kernel⟩
theorem ok_mr (D : DMR K mg) (D__law_made : DMd K mg) (G__law_made : FnOk P w K mg base CX0 9 D__law_made.f D__law_made.fd ["_law_title", "_law_ending", "_law_turns"] (spMd a)) (D__law_is_kind : DIK K mg) (G__law_is_kind : FnOk P w K mg base CX0 2 D__law_is_kind.f D__law_is_kind.fd ["_law_title", "_law_ending", "_law_turns"] spIK)
    (D__law_refused : DRef K mg) (G__law_refused : FnOk P w K mg base CX0 1 D__law_refused.f D__law_refused.fd ["_law_caught", "_law_due"] (spRef K a)) (T : Txt K mg a) : FnOk P w K mg base CX0 10 D.f D.fd ["_law_title", "_law_ending", "_law_turns"] (spMR a) := by
  refine Df.ok (k := 9) D.ex scMR (fun vs H Q E h => ?_) (fun A outer s H vs Q E hr h => ?_)
  · obtain ⟨t, e, l, ms, rfl, _⟩ := h; rfl
  · obtain ⟨t, e, l, ms, rfl, hp, lt, le, sh, tb, k⟩ := h
    have nd := scMR.nd
    have hu := Nat.lt_of_succ_lt (hu_of hr)
    have line : 1000 < sizeLine := by decide
    obtain ⟨ts, h1, h2, h3⟩ := id hp
    refine ⟨_, (pss_cons (ps_set (i := 3) nd rfl (Or.inl rfl) (pe_callTy call_list_of (by rfl) T.b_list boot_list (pa_c (pv 2) pa_nil)))
 (pss_cons (ps_asg (pe_call G__law_made (hr.mono (by decide)) (by rfl) D__law_made.mg D__law_made.kp D__law_made.bd .nil pass0 (pa_c (pv 0) (pa_c (pv 1) (pa_c (pv 3) pa_nil)))) (pg_tup (n := 2) rfl (pgs_cons (pg_name (i := 4) (show List.Nodup (["_law_title", "_law_ending", "_law_turns", "_law_handed", "_law_made_here", "_law_caught"] : List Str) from by decide +kernel) rfl (Or.inl rfl)) (pgs_cons (pg_name (i := 5) (show List.Nodup (["_law_title", "_law_ending", "_law_turns", "_law_handed", "_law_made_here", "_law_caught"] : List Str) from by decide +kernel) rfl (Or.inl rfl)) pgs_nil))))
 (pss_cons (ps_if (pt_cmpR (op_neI K hu) (pv 3) (pv 2) (nomark _))
 (pss_one (ps_ret pe_bl))
 pss_nil)
 (pss_cons (ps_if (pt_not (pt_val (pe_call G__law_is_kind (hr.mono (by decide)) (by rfl) D__law_is_kind.mg D__law_is_kind.kp D__law_is_kind.bd .nil pass0 (pa_c (pv 0) (pa_c (pv 1) (pa_c (pv 2) pa_nil))))))
 (pss_one (ps_ret (pe_call G__law_refused (hr.mono (by decide)) (by rfl) D__law_refused.mg D__law_refused.kp D__law_refused.bd .nil pass0 (pa_c (pv 5) (pa_c pe_str pa_nil)))))
 pss_nil)
 (pss_cons (ps_expr (pe_bm PySem.F.plainAttrs_list PySem.F.slot_list_append PySem.F.type_list_append mt_append (pv 3) (pa_c (pe_tup (pa_c pe_str (pa_c pe_str pa_nil))) pa_nil)))
 (pss_cons (ps_if (pw_or (pt_not (pt_val (pe_callB call_isi (by rfl) T.b_isinstance boot_isinstance (pa_c (pv 4) (pa_c (pe_glob (v := .ref a.Kind) (by rfl) T.c_Kind rfl) pa_nil))))) (pw_or (pt_not (pt_val (pe_callB call_isi (by rfl) T.b_isinstance boot_isinstance (pa_c (pe_fld (pv 4) (by rfl)) (pa_c (pe_bltn (v := .ty "list") (by rfl) T.b_list (by rfl) rfl) pa_nil))))) (pw_or1 (pt_cmpR (op_neI K hu) (pe_fld (pv 4) (by rfl)) (pv 2) (nomark _))))).pt
 (pss_one (ps_ret pe_bl))
 pss_nil)
 (pss_one (ps_ret (pe_and (pe_cmpR op_eq (pe_fld (pv 4) (by rfl)) (pv 0) (nomark _)) (pe_one (pe_cmpR op_eq (pe_fld (pv 4) (by rfl)) (pv 1) (nomark _)))))))))))), ?_⟩
    (repeat array_get_dec)
    refine ⟨l, _, rfl, .inl (SqL.of h1), fun l3 hl3 => ?_⟩
    have s1 : Same H _ := Same.upd (o := .lst (ts.map .ref)) hl3
    have g1 : (upd H l3 (.lst (ts.map .ref))) l3 = some (.lst (ts.map .ref)) := upd_same
    generalize upd H l3 _ = H1 at s1 g1 ⊢
    (repeat array_get_dec)
    refine ⟨t, e, l3, ts, ms, rfl, g1, h2, fun i u m x y => s1 _ _ (h3 i u m x y), lt, le, sh, tb.same s1, w_ite (fun z => ?_) (fun z => ?_)⟩
    · intro H2 z2 x n s2 gz R gn fn
      refine w_gTup' (SqT.of gz) rfl ?_
      refine ⟨_, _, rfl, _, _, rfl, rfl, ?_⟩
      show tSeq _ _ _ [some (V.str t), some (V.str e), some (V.ref l), some (V.ref l3), some (V.ref x), some V.non] H2
      have s12 := s1.trans s2
      have g2 := s2 _ _ g1
      (repeat array_get_dec)
      refine ⟨l3, l, ts, rfl, rfl, SqL.of g2, SqL.of (s12 _ _ h1), ?_⟩
      (repeat array_get_dec)
      refine ⟨t, e, l, ms, rfl, lt, le, hp.same s12, sh, fun H3 s3 => ?_⟩
      rw [z]
      have g3 := s3 _ _ g2
      have nl : n ≠ l3 := fun e => by rw [e, g1] at fn; cases fn
      (repeat array_get_dec)
      refine ⟨.inl ⟨rfl, _, SqL.of g3⟩, ?_⟩
      (repeat array_get_dec)
      refine ⟨by show 2 ≤ sizeLine; decide, fun p4 hp4 => ?_⟩
      (repeat array_get_dec)
      have s4 : Same H3 _ := Same.upd (o := .tup [.str "more", .str "more"]) hp4
      refine ⟨l3, _, _, rfl, rfl, s4 _ _ g3, by rw [List.length_map]; have := sh.1; omega, ?_⟩
      generalize hH4 : upd H3 p4 _ = H4 at s4 ⊢
      have s05 : Same H (upd H4 l3 (.lst (ts.map V.ref ++ [.ref p4]))) := fun c o hc => by rw [upd_ne (ne_of_none hc hl3)]; exact s4 _ _ (s3 _ _ (s12 _ _ hc))
      have R3 := R.same (s3.trans s4)
      obtain ⟨dx, fs, r1, r2⟩ := R3.ob
      have nx : x ≠ l3 := ne_of r1 (s4 _ _ g3) (by intro z; cases z)
      have r1' : (upd H4 l3 (.lst (ts.map V.ref ++ [.ref p4]))) x = some (.ins a.Kind dx fs) := by rw [upd_ne nx]; exact r1
      have gn' : (upd H4 l3 (.lst (ts.map V.ref ++ [.ref p4]))) n = some (.lst (ts.map .ref)) := by rw [upd_ne nl]; exact s4 _ _ (s3 _ _ gn)
      generalize upd H4 l3 _ = H5 at s05 r1' gn' ⊢
      (repeat array_get_dec)
      refine ⟨_, _, _, _, _, rfl, .v (.ins r1' T.cl2 T.clc T.x_BadRow.gs T.x_BadRow.tk T.clm), rfl, T.k_kind, ?_⟩
      (repeat array_get_dec)
      refine ⟨x, a.Kind, dx, fs, _, rfl, r1', T.cl2, T.n_turns, r2.turns, ?_⟩
      (repeat array_get_dec)
      refine ⟨_, _, _, _, _, rfl, .v (.lst gn'), rfl, T.k_list, ?_⟩
      (repeat array_get_dec)
      refine ⟨x, a.Kind, dx, fs, _, rfl, r1', T.cl2, T.n_turns, r2.turns, ?_⟩
      (repeat array_get_dec)
      refine ⟨n, l, ts, rfl, rfl, SqL.of gn', SqL.of (s05 _ _ h1), ?_⟩
      (repeat array_get_dec)
      refine ⟨x, a.Kind, dx, fs, _, rfl, r1', T.cl2, T.n_title, r2.title, ?_⟩
      (repeat array_get_dec)
      refine w_ite (fun _ => ?_) (fun z => absurd z (by simp))
      (repeat array_get_dec)
      refine ⟨x, a.Kind, dx, fs, _, rfl, r1', T.cl2, T.n_ending, r2.ending, ?_⟩
      (repeat array_get_dec)
      rw [decide_eq_true rfl]
      exact k _ s05
    · intro H2 z2 c s2 gz gc
      refine w_gTup' (SqT.of gz) rfl ?_
      refine ⟨_, _, rfl, _, _, rfl, rfl, ?_⟩
      show tSeq _ _ _ [some (V.str t), some (V.str e), some (V.ref l), some (V.ref l3), some V.non, some (V.ref c)] H2
      have s12 := s1.trans s2
      (repeat array_get_dec)
      refine ⟨l3, l, ts, rfl, rfl, SqL.of (s2 _ _ g1), SqL.of (s12 _ _ h1), ?_⟩
      (repeat array_get_dec)
      refine ⟨t, e, l, ms, rfl, lt, le, hp.same s12, sh, fun H3 s3 => ?_⟩
      rw [z]
      (repeat array_get_dec)
      exact ⟨c, _, _, rfl, s3 _ _ gc, T.e_BadKind, fun H4 s4 => k _ (s12.trans (s3.trans s4))⟩
end
end K19

namespace K19
open PySem PySem.Spec PyProof.Rows L2
def turnsK (ms : List (Str × Str)) : List (Key × V) := ms.map fun m => (.inr m.1, .str m.2)
theorem turnsK_at (x : Str) : ∀ ms : List (Str × Str), valV (turnsK ms) (.inr x) = (ms.find? fun m => decide (m.1 = x)).map fun m => V.str m.2
  | [] => rfl
  | m :: r => by
    by_cases e : m.1 = x
    · rw [List.find?_cons, decide_eq_true e]
      exact valV_pos (show (Sum.inr m.1 : Key) = .inr x by rw [e])
    · rw [List.find?_cons, decide_eq_false e, ← turnsK_at x r]
      exact valV_neg (fun z : (Sum.inr m.1 : Key) = .inr x => e (Sum.inr.inj z))
section
variable {P : Program} {w : World} {K : PySem.W.Frag} {mg : Str → Option Value} {base : Heap} {a : Ad}
/-! ### turned -/
abbrev DTd (K : PySem.W.Frag) (mg : Str → Option Value) := Df K mg "turned" "turned" (top 33) ["kind", "row"]
def spTd (a : Ad) : Sp := fun vs H Q _ => ∃ (u r : Addr) (k : KD) (ys : List Str), vs = [.ref u, .ref r] ∧ KindFull a H u k ∧ (fstK k.2.2).Nodup ∧ k.2.2.length ≤ 1000 ∧ H r = some (.lst (ys.map .str)) ∧ ys ≠ [] ∧ ys.length ≤ 1000 ∧ ∀ H' z, Same H H' → H z = none → H' z = some (.lst ((turnedR ys k.2.1 k.2.2).map .str)) → Q (.ref z) H'
theorem scTd : FnScope ["kind", "row", "turns"] ["kind", "row"] (defScope (top 33)) := ⟨rfl, rfl, rfl, by decide +kernel, rfl, by decide +kernel, by decide +kernel⟩
theorem ok_td (D : DTd K mg) (T : Txt K mg a) : FnOk P w K mg base CX0 1 D.f D.fd ["kind", "row"] (spTd a) := by
  refine Df.ok (k := 0) D.ex scTd (fun vs H Q E h => ?_) (fun A outer s H vs Q E hr h => ?_)
  · obtain ⟨u, r, k, ys, rfl, _⟩ := h; rfl
  · obtain ⟨u, r, k, ys, rfl, ⟨n, kx, ts, h1, h2, h3⟩, hnd, hlen, hr0, hne, ly, q⟩ := h
    obtain ⟨t, e, ms⟩ := k
    have nd := scTd.nd
    have hu2 := hu_of hr
    have hh : A.handled = none := hr.hd
    obtain ⟨tt, hT⟩ := T.c_TIE'
    obtain ⟨dx, fs, r1, r2⟩ := kx.ob
    have r2 : FldK fs t e n := r2
    have h2 : ts.length = ms.length := h2
    have h3 : ∀ (i : Nat) t m, ts[i]? = some t → ms[i]? = some m → H t = some (pairV m) := h3
    have hnd : (fstK ms).Nodup := hnd
    have hlen : ms.length ≤ 1000 := hlen
    have q : ∀ H' z, Same H H' → H z = none → H' z = some (.lst ((turnedR ys e ms).map .str)) → Q (.ref z) H' := q
    have line : 2000 < sizeLine := by decide
    refine ⟨_, (pss_cons (ps_set (i := 2) nd rfl (Or.inl rfl) (pe_callTy (call_dictL hh) (by rfl) T.b_dict (by decide +kernel) (pa_c (pe_fld (pv 0) (by rfl)) pa_nil)))
 (pss_cons (ps_if (pt_cmp (pc_din hu2 (pe_ix ix_list (pv 1) (pe_un un_neg pe_int) (fun _ _ => rfl)) (pv 2)))
 (pss_one (ps_ret (pe_op op_cat (pe_slice sl_list (pv 1) po_none (po_some (pe_un un_neg pe_int))) (pe_lst (pa_c (pe_dget hu2 (pv 2) (pe_ix ix_list (pv 1) (pe_un un_neg pe_int) (fun _ _ => rfl)) (fun _ _ => rfl)) pa_nil)))))
 pss_nil)
 (pss_one (ps_ret (pe_op op_cat (pv 1) (pe_lst (pa_c (pe_glob (v := .str "+") (by rfl) hT ⟨_, rfl⟩) (pa_c (pe_fld (pv 0) (by rfl)) pa_nil)))))))), ?_⟩
    (repeat array_get_dec)
    refine ⟨u, a.Kind, dx, fs, _, rfl, r1, T.cl2, T.n_turns, r2.turns, ?_⟩
    (repeat array_get_dec)
    refine ⟨n, ts, turnsK ms, rfl, h1, Paired.of_ix (by unfold turnsK; rw [List.length_map]; exact h2) (fun i x y hx hy => ?_), ?_, by unfold turnsK; rw [List.length_map]; exact hlen, fun d hd => ?_⟩
    · unfold turnsK at hy
      rw [List.getElem?_map] at hy
      obtain ⟨m, hm, rfl⟩ := Option.map_eq_some_iff.mp hy
      exact h3 i x m hx hm
    · have : (turnsK ms).map (·.1) = fstK ms := by unfold turnsK fstK; rw [List.map_map]; rfl
      rw [this]; exact hnd
    have s1 : Same H (upd H d (.dK (turnsK ms))) := Same.upd hd
    have g1 : (upd H d (.dK (turnsK ms))) d = some (.dK (turnsK ms)) := upd_same
    generalize upd H d _ = H1 at s1 g1 ⊢
    have dg : DGet H1 d (.str (ys.getLast hne)) ((ms.find? fun m => decide (m.1 = ys.getLast hne)).map fun m => V.str m.2) := .inl ⟨turnsK ms, .inr (ys.getLast hne), .inl g1, rfl, (turnsK_at _ _).symm⟩
    (repeat array_get_dec)
    refine ⟨r, _, -1, _, rfl, rfl, SqL.of (s1 _ _ hr0), atI_lastS hne, ?_⟩
    (repeat array_get_dec)
    refine ⟨d, _, rfl, dg, ?_⟩
    (repeat array_get_dec)
    cases em : ms.find? (fun m => decide (m.1 = ys.getLast hne)) with
    | none =>
      have ed : turnedR ys e ms = ys ++ [("+" : Str), e] := by unfold turnedR; rw [last_D hne, em]
      rw [ed] at q
      refine w_ite (fun z => absurd z (by simp)) (fun _ => ?_)
      (repeat array_get_dec)
      refine ⟨u, a.Kind, dx, fs, _, rfl, s1 _ _ r1, T.cl2, T.n_ending, r2.ending, ?_⟩
      (repeat array_get_dec)
      refine ⟨by show 2 ≤ sizeLine; decide, fun p2 hp2 => ?_⟩
      have s2 := Same.upd (o := .lst [V.str "+", V.str e]) hp2
      refine ⟨r, p2, _, _, rfl, rfl, s2 _ _ (s1 _ _ hr0), upd_same, by rw [List.length_map]; show _ + 2 ≤ _; omega, fun p3 hp3 => ?_⟩
      have s3 := Same.upd (o := .lst (ys.map V.str ++ [V.str "+", V.str e])) hp3
      refine q _ p3 (s1.trans (s2.trans s3)) (Same.free (s1.trans s2) hp3) ?_
      rw [upd_same, List.map_append]; rfl
    | some m =>
      have ed : turnedR ys e ms = ys.dropLast ++ [m.2] := by unfold turnedR; rw [last_D hne, em]
      rw [ed] at q
      rw [em] at dg
      refine w_ite (fun _ => ?_) (fun z => absurd z (by simp))
      (repeat array_get_dec)
      refine ⟨r, _, rfl, SqL.of (s1 _ _ hr0), fun p1 hp1 => ?_⟩
      have s2 := Same.upd (o := .lst (cutV (ys.map V.str) none (some (-1)))) hp1
      have nd1 : d ≠ p1 := ne_of_none g1 hp1
      (repeat array_get_dec)
      refine ⟨r, _, -1, _, rfl, rfl, SqL.of (s2 _ _ (s1 _ _ hr0)), atI_lastS hne, ?_⟩
      (repeat array_get_dec)
      refine ⟨d, V.str m.2, rfl, .inl ⟨turnsK ms, .inr (ys.getLast hne), .inl (s2 _ _ g1), rfl, by rw [turnsK_at, em]; rfl⟩, ?_⟩
      (repeat array_get_dec)
      refine ⟨by show 1 ≤ sizeLine; decide, fun p2 hp2 => ?_⟩
      (repeat array_get_dec)
      have s3 := Same.upd (o := .lst [V.str m.2]) hp2
      refine ⟨p1, p2, _, _, rfl, rfl, s3 _ _ upd_same, upd_same, ?_, fun p3 hp3 => ?_⟩
      · rw [cut_last, List.length_dropLast, List.length_map]; show _ + 1 ≤ _; omega
      have s4 := Same.upd (o := .lst (cutV (ys.map V.str) none (some (-1)) ++ [V.str m.2])) hp3
      refine q _ p3 (s1.trans (s2.trans (s3.trans s4))) ?_ ?_
      · exact Same.free (s1.trans (s2.trans s3)) hp3
      · rw [upd_same, cut_last, List.map_append, List.map_dropLast]; rfl
end
end K19

namespace K19
open PySem PySem.Spec PyProof.Rows L2
section
variable {P : Program} {w : World} {K : PySem.W.Frag} {mg : Str → Option Value} {base : Heap} {a : Ad}
theorem passN {X : Cx} {P : Program} {w : World} : Passes (CXE P w) X E0 := fun _ _ _ _ _ _ _ h => by
  obtain ⟨_, _, _, _, _, _, _, _, _, _, _, _, _, _, q⟩ := h
  exact q.elim
/-! ### kind_row -/
def Tabs3 (a : Ad) (H : Hp) : Prop := H a.tSL = some (Tb a.tSL) ∧ H a.tTF = some (Tb a.tTF) ∧ H a.tIR = some (Tb a.tIR)
theorem Tabs3.same {H H' : Hp} (t : Tabs3 a H) (s : Same H H') : Tabs3 a H' := ⟨s _ _ t.1, s _ _ t.2.1, s _ _ t.2.2⟩
def GoodK (ks : List KD) : Prop := ∀ k ∈ ks, (fstK k.2.2).Nodup ∧ k.2.2.length ≤ 1000
theorem kindAt_mem {ks : List KD} {t : Str} {k : KD} (h : kindAt ks t = some k) : k ∈ ks := List.mem_of_find?_eq_some h
abbrev DKR (K : PySem.W.Frag) (mg : Str → Option Value) := Df K mg "kind_row" "kind_row" (top 34) ["tongue", "title", "row"]
def spKR (a : Ad) : Sp := fun vs H Q E => ∃ (p r : Addr) (t : Str) (ks : List KD) (ys : List Str), vs = [.ref p, .str t, .ref r] ∧ TongAt a H p 0 [] [] ks ∧ GoodK ks ∧ H r = some (.lst (ys.map .str)) ∧ ys.length ≤ 1000 ∧ (∀ y ∈ ys, y.length ≤ 20) ∧ Tabs3 a H ∧
  match kindAt ks t with
  | none => E (.ref a.NoKind) none H
  | some k => if rowOk ys = true then ∀ H' z, Same H H' → H z = none → H' z = some (.lst ((turnedR ys k.2.1 k.2.2).map .str)) → Q (.ref z) H' else ∀ H', Same H H' → E (.ref a.BadRow) none H'
theorem scKR : FnScope ["tongue", "title", "row", "kind"] ["tongue", "title", "row"] (defScope (top 34)) := ⟨rfl, rfl, rfl, by decide +kernel, rfl, by decide +kernel, by decide +kernel⟩
theorem ok_kr (D : DKR K mg) (D_kind_of : DKO K mg) (G_kind_of : FnOk P w K mg base (CXE P w) 1 D_kind_of.f D_kind_of.fd ["tongue", "title"] (spKO a)) (D_is_row : DRow K mg) (G_is_row : FnOk P w K mg base CX0 6 D_is_row.f D_is_row.fd ["row"] (spRow a))
    (D_turned : DTd K mg) (G_turned : FnOk P w K mg base CX0 1 D_turned.f D_turned.fd ["kind", "row"] (spTd a)) (T : Txt K mg a) : FnOk P w K mg base (CXE P w) 7 D.f D.fd ["tongue", "title", "row"] (spKR a) := by
  refine Df.okE (k := 6) D.ex scKR (fun vs H Q E h => ?_) (fun A outer s H vs Q E hr h => ?_)
  · obtain ⟨p, r, t, ks, ys, rfl, _⟩ := h; rfl
  · obtain ⟨p, r, t, ks, ys, rfl, R, gk, hr0, ly, hy, tb, q⟩ := h
    have nd := scKR.nd
    have hh : A.handled = none := hr.hd
    have line : 1000 < sizeLine := by decide
    refine ⟨_, (pss_cons (ps_set (i := 3) nd rfl (Or.inl rfl) (pe_call G_kind_of (hr.mono (by decide)) (by rfl) D_kind_of.mg D_kind_of.kp D_kind_of.bd .nil (passE fun _ _ _ z => z) (pa_c (pv 0) (pa_c (pv 1) pa_nil))))
 (pss_cons (ps_if (pt_not (pt_val (pe_call G_is_row (hr.mono (by decide)) (by rfl) D_is_row.mg D_is_row.kp D_is_row.bd .nil pass0 (pa_c (pv 2) pa_nil))))
 (pss_one (ps_raise PySem.F.excBase_ValueError T.x_BadRow.ex T.c_BadRow hh (by rfl) (pa_c pe_str pa_nil) (hl := fun _ _ _ z => ⟨by decide, z⟩)))
 pss_nil)
 (pss_one (ps_ret (pe_call G_turned (hr.mono (by decide)) (by rfl) D_turned.mg D_turned.kp D_turned.bd .nil pass0 (pa_c (pv 3) (pa_c (pv 2) pa_nil))))))), ?_⟩
    (repeat array_get_dec)
    refine ⟨p, t, ks, rfl, R, fun k ek u kf => ?_, fun ek => ?_⟩
    · rw [ek] at q
      have q : if rowOk ys = true then ∀ H' z, Same H H' → H z = none → H' z = some (.lst ((turnedR ys k.2.1 k.2.2).map .str)) → Q (.ref z) H' else ∀ H', Same H H' → E (.ref a.BadRow) none H' := q
      obtain ⟨g1, g2⟩ := gk k (kindAt_mem ek)
      (repeat array_get_dec)
      refine ⟨r, ys, rfl, hr0, fun y h => Nat.le_trans (hy y h) (by decide), tb.1, tb.2.1, tb.2.2, fun H1 s1 => ?_⟩
      (repeat array_get_dec)
      refine w_ite (fun z => ?_) (fun z => ?_)
      · rw [Bool.not_eq_true'] at z
        rw [z, if_neg Bool.false_ne_true] at q
        (repeat array_get_dec)
        exact q H1 s1
      · have z : rowOk ys = true := by simpa using z
        rw [z, if_pos rfl] at q
        (repeat array_get_dec)
        exact ⟨u, r, k, ys, rfl, kf.same s1, g1, g2, s1 _ _ hr0, (row_iff.mp z).1, ly, fun H2 z2 s2 f2 e2 => q H2 z2 (s1.trans s2) (Same.free s1 f2) e2⟩
    · rw [ek] at q
      exact q
/-! ### _law_row_refused -/
abbrev DRR (K : PySem.W.Frag) (mg : Str → Option Value) := Df K mg "_law_row_refused" "_law_row_refused" (top 50) ["_law_tongue", "_law_title", "_law_row_here", "_law_due"]
abbrev nRR : List Str := ["_law_tongue", "_law_title", "_law_row_here", "_law_due", "_law_caught", "error"]
def spRR (a : Ad) : Sp := fun vs H Q _ => ∃ (p r : Addr) (t d : Str) (ks : List KD), vs = [.ref p, .str t, .ref r, .str d] ∧ TongAt a H p 0 [] [] ks ∧ GoodK ks ∧ Bad H r ∧ Tabs3 a H ∧ (kindAt ks t = none → d = "nokind") ∧ (∀ k, kindAt ks t = some k → d = "row") ∧ Pure (.bl true) H Q
theorem scRR : FnScope nRR ["_law_tongue", "_law_title", "_law_row_here", "_law_due"] (defScope (top 50)) := ⟨rfl, rfl, rfl, by decide +kernel, rfl, by decide +kernel, by decide +kernel⟩
theorem ok_rr (D : DRR K mg) (D_kind_row : DKR K mg) (G_kind_row : FnOk P w K mg base (CXE P w) 7 D_kind_row.f D_kind_row.fd ["tongue", "title", "row"] (spKR a)) (D__law_refused : DRef K mg) (G__law_refused : FnOk P w K mg base CX0 1 D__law_refused.f D__law_refused.fd ["_law_caught", "_law_due"] (spRef K a)) (T : Txt K mg a) :
    FnOk P w K mg base CX0 8 D.f D.fd ["_law_tongue", "_law_title", "_law_row_here", "_law_due"] (spRR a) := by
  refine Df.ok (k := 7) D.ex scRR (fun vs H Q E h => ?_) (fun A outer s H vs Q E hr h => ?_)
  · obtain ⟨p, r, t, d, ks, rfl, _⟩ := h; rfl
  · obtain ⟨p, r, t, d, ks, rfl, R, gk, ⟨zs, hz, rz, lz, hzz⟩, tb, d1, d2, q⟩ := h
    have nd := scRR.nd
    refine ⟨_, (pss_cons (ps_set (i := 4) nd rfl (Or.inl rfl) pe_non)
 (pss_cons (ps_tryE (i := 4) (j := 5) nd rfl rfl rfl rfl (by decide) ⟨rfl, rfl⟩ rfl (by rfl) T.c_SayError T.x_SayError (by decide) (fun E pins s σ H Q I h => try_call (E := E) G_kind_row (hr.mono (by decide)) (by rfl) D_kind_row.mg D_kind_row.kp D_kind_row.bd .nil (pa_c (pv 0) (pa_c (pv 1) (pa_c (pv 2) pa_nil))) I h))
 (pss_one (ps_ret (pe_call G__law_refused (hr.mono (by decide)) (by rfl) D__law_refused.mg D__law_refused.kp D__law_refused.bd .nil pass0 (pa_c (pv 4) (pa_c (pv 3) pa_nil))))))), ?_⟩
    (repeat array_get_dec)
    refine w_tryE (w_call ?_)
    (repeat array_get_dec)
    refine ⟨p, r, t, ks, zs, rfl, R, gk, hz, by omega, hzz, tb, ?_⟩
    cases ek : kindAt ks t with
    | none =>
      have d1 := d1 ek
      subst d1
      refine ⟨_, _, _, rfl, T.x_NoKind.ex, T.e_NoKind.sub, fun x hx => ?_⟩
      (repeat array_get_dec)
      exact ⟨x, _, _, rfl, upd_same, T.e_NoKind, fun H2 s2 => q H2 ((Same.upd hx).trans s2)⟩
    | some k =>
      have d2 := d2 k ek
      subst d2
      show if rowOk zs = true then _ else _
      rw [rz, if_neg Bool.false_ne_true]
      intro H1 s1
      refine ⟨_, _, _, rfl, T.x_BadRow.ex, T.e_BadRow.sub, fun x hx => ?_⟩
      (repeat array_get_dec)
      exact ⟨x, _, _, rfl, upd_same, T.e_BadRow, fun H2 s2 => q H2 (s1.trans ((Same.upd hx).trans s2))⟩
end
end K19

namespace K19
open PySem PySem.Spec PyProof.Rows L2
section
variable {P : Program} {w : World} {K : PySem.W.Frag} {mg : Str → Option Value} {base : Heap} {a : Ad}
/-! ### the law's own list of kinds -/
def KTup (H : Hp) (u : Addr) (k : KD) : Prop := ∃ l, H u = some (.tup [.str k.1, .str k.2.1, .ref l]) ∧ PairsAt H l k.2.2
theorem KTup.same {H H' : Hp} {u : Addr} {k : KD} (h : KTup H u k) (s : Same H H') : KTup H' u k := by
  obtain ⟨l, h1, h2⟩ := h
  exact ⟨l, s _ _ h1, h2.same s⟩
def KTups (H : Hp) (l : Addr) (ks : List KD) : Prop := ∃ us : List Addr, H l = some (.lst (us.map .ref)) ∧ us.length = ks.length ∧ ∀ (i : Nat) u k, us[i]? = some u → ks[i]? = some k → KTup H u k
theorem KTups.same {H H' : Hp} {l : Addr} {ks : List KD} (h : KTups H l ks) (s : Same H H') : KTups H' l ks := by
  obtain ⟨us, h1, h2, h3⟩ := h
  exact ⟨us, s _ _ h1, h2, fun i u k x y => (h3 i u k x y).same s⟩
/-! ### _law_row_told -/
abbrev DRT (K : PySem.W.Frag) (mg : Str → Option Value) := Df K mg "_law_row_told" "_law_row_told" (top 49) ["_law_tongue", "_law_title", "_law_row_here", "_law_kinds"]
abbrev nRT : List Str := ["_law_tongue", "_law_title", "_law_row_here", "_law_kinds", "_law_told", "_law_caught", "_law_handed", "error", "_law_one", "_law_ending", "_law_turns", "_law_due"]
def spRT (a : Ad) : Sp := fun vs H Q _ => ∃ (p r l : Addr) (t : Str) (ks : List KD) (ys : List Str), vs = [.ref p, .str t, .ref r, .ref l] ∧ TongAt a H p 0 [] [] ks ∧ GoodK ks ∧ KTups H l ks ∧ H r = some (.lst (ys.map .str)) ∧ rowOk ys = true ∧ ys.length ≤ 900 ∧ (∀ y ∈ ys, y.length ≤ 20) ∧ Tabs3 a H ∧ Pure (.bl true) H Q
theorem scRT : FnScope nRT ["_law_tongue", "_law_title", "_law_row_here", "_law_kinds"] (defScope (top 49)) := ⟨rfl, rfl, rfl, by decide +kernel, rfl, by decide +kernel, by decide +kernel⟩
theorem turnedR_len (ys : List Str) (e : Str) (ms : List (Str × Str)) : (turnedR ys e ms).length ≤ ys.length + 2 := by
  unfold turnedR
  split
  · rw [List.length_append, List.length_dropLast, List.length_singleton]; omega
  · rw [List.length_append]; exact Nat.le_refl _
theorem ok_rt (D : DRT K mg) (D_kind_row : DKR K mg) (G_kind_row : FnOk P w K mg base (CXE P w) 7 D_kind_row.f D_kind_row.fd ["tongue", "title", "row"] (spKR a)) (D__law_turned : DLTd K mg) (G__law_turned : FnOk P w K mg base CX0 1 D__law_turned.f D__law_turned.fd ["_law_row_here", "_law_ending", "_law_turns"] spLTd)
    (D__law_refused : DRef K mg) (G__law_refused : FnOk P w K mg base CX0 1 D__law_refused.f D__law_refused.fd ["_law_caught", "_law_due"] (spRef K a)) (T : Txt K mg a) :
    FnOk P w K mg base CX0 8 D.f D.fd ["_law_tongue", "_law_title", "_law_row_here", "_law_kinds"] (spRT a) := by
  refine Df.ok (k := 7) D.ex scRT (fun vs H Q E h => ?_) (fun A outer s H vs Q E hr h => ?_)
  · obtain ⟨p, r, l, t, ks, ys, rfl, _⟩ := h; rfl
  · obtain ⟨p, r, l, t, ks, ys, rfl, R, gk, KT, hr0, ro, ly, hy, tb, q⟩ := h
    have nd := scRT.nd
    have hu := Nat.lt_of_succ_lt (hu_of hr)
    have line : 2000 < sizeLine := by decide
    refine ⟨_, (pss_cons (ps_set (i := 4) nd rfl (Or.inl rfl) pe_non)
 (pss_cons (ps_set (i := 5) nd rfl (Or.inl rfl) pe_non)
 (pss_cons (ps_set (i := 6) nd rfl (Or.inl rfl) (pe_callTy call_list_of (by rfl) T.b_list boot_list (pa_c (pv 2) pa_nil)))
 (pss_cons (ps_try2 (i1 := 4) (i := 5) (j := 7) nd rfl rfl rfl rfl rfl rfl (by decide) ⟨rfl, rfl⟩ rfl (by rfl) T.c_SayError T.x_SayError (by decide) (fun E pins s σ H Q I h => try_call (E := E) G_kind_row (hr.mono (by decide)) (by rfl) D_kind_row.mg D_kind_row.kp D_kind_row.bd .nil (pa_c (pv 0) (pa_c (pv 1) (pa_c (pv 6) pa_nil))) I h))
 (pss_cons (ps_if (pt_cmpR (op_neL hu) (pv 6) (pv 2) (nomark _))
 (pss_one (ps_ret pe_bl))
 pss_nil)
 (pss_cons (ps_for PassesOwn.never rfl (pi_list (pv 3)) (pg_tup (n := 3) rfl (pgs_cons (pg_name (i := 8) (show List.Nodup (["_law_tongue", "_law_title", "_law_row_here", "_law_kinds", "_law_told", "_law_caught", "_law_handed", "error", "_law_one", "_law_ending", "_law_turns", "_law_due"] : List Str) from by decide +kernel) rfl (Or.inl rfl)) (pgs_cons (pg_name (i := 9) (show List.Nodup (["_law_tongue", "_law_title", "_law_row_here", "_law_kinds", "_law_told", "_law_caught", "_law_handed", "error", "_law_one", "_law_ending", "_law_turns", "_law_due"] : List Str) from by decide +kernel) rfl (Or.inl rfl)) (pgs_cons (pg_name (i := 10) (show List.Nodup (["_law_tongue", "_law_title", "_law_row_here", "_law_kinds", "_law_told", "_law_caught", "_law_handed", "error", "_law_one", "_law_ending", "_law_turns", "_law_due"] : List Str) from by decide +kernel) rfl (Or.inl rfl)) pgs_nil))))
 (pss_one (ps_if (pt_cmpR op_eq (pv 8) (pv 1) (nomark _))
 (pss_cons (ps_set (i := 11) nd rfl (Or.inl rfl) (pe_call G__law_turned (hr.mono (by decide)) (by rfl) D__law_turned.mg D__law_turned.kp D__law_turned.bd .nil pass0 (pa_c (pv 2) (pa_c (pv 9) (pa_c (pv 10) pa_nil)))))
 (pss_cons (ps_if (pw_or (pt_not (pt_val (pe_callB call_isi (by rfl) T.b_isinstance boot_isinstance (pa_c (pv 4) (pa_c (pe_bltn (v := .ty "list") (by rfl) T.b_list (by rfl) rfl) pa_nil))))) (pw_or1 (pt_cmpR (op_neL hu) (pv 4) (pv 11) (nomark _)))).pt
 (pss_one (ps_ret pe_bl))
 pss_nil)
 (pss_cons (ps_expr (pe_bm PySem.F.plainAttrs_list PySem.F.slot_list_append PySem.F.type_list_append mt_append (pv 4) (pa_c pe_str pa_nil)))
 (pss_one (ps_ret (pe_and (pe_cmpR (op_eqL hu) (pe_call G_kind_row (hr.mono (by decide)) (by rfl) D_kind_row.mg D_kind_row.kp D_kind_row.bd .nil passN (pa_c (pv 0) (pa_c (pv 1) (pa_c (pv 6) pa_nil)))) (pv 11) (nomark _)) (pe_one (pe_cmpR (op_eqL hu) (pv 6) (pv 2) (nomark _)))))))))
 pss_nil)))
 (pss_one (ps_ret (pe_call G__law_refused (hr.mono (by decide)) (by rfl) D__law_refused.mg D__law_refused.kp D__law_refused.bd .nil pass0 (pa_c (pv 5) (pa_c pe_str pa_nil))))))))))), ?_⟩
    (repeat array_get_dec)
    refine ⟨r, _, rfl, .inl (SqL.of hr0), fun l6 h6 => ?_⟩
    have s1 : Same H _ := Same.upd (o := .lst (ys.map .str)) h6
    have g1 : (upd H l6 (.lst (ys.map .str))) l6 = some (.lst (ys.map .str)) := upd_same
    generalize upd H l6 _ = H1 at s1 g1 ⊢
    (repeat array_get_dec)
    refine w_try2 (w_call ?_)
    (repeat array_get_dec)
    refine ⟨p, l6, t, ks, ys, rfl, R.same s1, gk, g1, by omega, hy, tb.same s1, ?_⟩
    cases ek : kindAt ks t with
    | none =>
      refine ⟨_, _, _, rfl, T.x_NoKind.ex, T.e_NoKind.sub, fun x hx => ?_⟩
      have s2 := Same.upd (o := Ex x a.NoKind) hx
      have gx : (upd H1 x (Ex x a.NoKind)) x = some (Ex x a.NoKind) := upd_same
      generalize upd H1 x _ = H2 at s2 gx ⊢
      have s02 := s1.trans s2
      (repeat array_get_dec)
      refine ⟨l6, r, _, _, rfl, rfl, .inl ⟨SqL.of (s2 _ _ g1), SqL.of (s02 _ _ hr0)⟩, flat_strs _, flat_strs _, ?_⟩
      rw [if_pos rfl, eqL_refl (flat_strs _)]
      (repeat array_get_dec)
      obtain ⟨us, u1, u2, u3⟩ := KT.same s02
      refine ⟨l, rfl, ⟨_, SqL.of u1⟩, forL (K := K) (a := l) (xs := us.map V.ref) (fun i σ H3 => ∃ v8 v9 v10 v11, σ = [some (V.ref p), some (V.str t), some (V.ref r), some (V.ref l), some V.non, some (V.ref x), some (V.ref l6), none, v8, v9, v10, v11] ∧ H2 = H3 ∧ kindAt ks t = kindAt (ks.drop i) t)
        ⟨none, none, none, none, rfl, rfl, rfl⟩ (fun i σ H3 _ ⟨_, _, _, _, _, e, _⟩ => by rw [← e]; exact SqL.of u1) ?_ ?_⟩
      · rintro i v σ _ hv ⟨v8, v9, v10, v11, rfl, rfl, ed⟩
        rw [List.getElem?_map] at hv
        obtain ⟨u, hu', rfl⟩ := Option.map_eq_some_iff.mp hv
        have hi : i < ks.length := by have := (List.getElem?_eq_some_iff.mp hu').1; omega
        have hki : ks[i]? = some ks[i] := List.getElem?_eq_getElem hi
        obtain ⟨lt, t1, t2⟩ := u3 i u ks[i] hu' hki
        rw [kindAt_drop hki, ek] at ed
        refine w_gTup' (SqT.of t1) rfl ?_
        refine ⟨_, _, rfl, _, _, rfl, _, _, rfl, rfl, ?_⟩
        show tIfS _ _ _ _ [some (V.ref p), some (V.str t), some (V.ref r), some (V.ref l), some V.non, some (V.ref x), some (V.ref l6), none, some (V.str ks[i].1), some (V.str ks[i].2.1), some (V.ref lt), v11] H2
        (repeat array_get_dec)
        refine w_ite (fun z => ?_) (fun z => ?_)
        · rw [z, if_pos rfl] at ed; cases ed
        · rw [z, if_neg Bool.false_ne_true] at ed
          (repeat array_get_dec)
          exact ⟨_, _, _, _, rfl, rfl, by rw [ek]; exact ed⟩
      · rintro σ _ ⟨v8, v9, v10, v11, rfl, rfl, ed⟩
        (repeat array_get_dec)
        exact ⟨x, _, _, rfl, gx, T.e_NoKind, fun H3 s3 => q H3 (s02.trans s3)⟩
    | some k =>
      show if rowOk ys = true then _ else _
      rw [if_pos ro]
      intro H2 z s2 fz ez
      have s02 := s1.trans s2
      (repeat array_get_dec)
      refine ⟨l6, r, _, _, rfl, rfl, .inl ⟨SqL.of (s2 _ _ g1), SqL.of (s02 _ _ hr0)⟩, flat_strs _, flat_strs _, ?_⟩
      rw [if_pos rfl, eqL_refl (flat_strs _)]
      (repeat array_get_dec)
      obtain ⟨us, u1, u2, u3⟩ := KT.same s02
      refine ⟨l, rfl, ⟨_, SqL.of u1⟩, forL (K := K) (a := l) (xs := us.map V.ref) (fun i σ H3 => ∃ v8 v9 v10 v11, σ = [some (V.ref p), some (V.str t), some (V.ref r), some (V.ref l), some (V.ref z), some V.non, some (V.ref l6), none, v8, v9, v10, v11] ∧ H2 = H3 ∧ kindAt ks t = kindAt (ks.drop i) t)
        ⟨none, none, none, none, rfl, rfl, rfl⟩ (fun i σ H3 _ ⟨_, _, _, _, _, e, _⟩ => by rw [← e]; exact SqL.of u1) ?_ ?_⟩
      · rintro i v σ _ hv ⟨v8, v9, v10, v11, rfl, rfl, ed⟩
        rw [List.getElem?_map] at hv
        obtain ⟨u, hu', rfl⟩ := Option.map_eq_some_iff.mp hv
        have hi : i < ks.length := by have := (List.getElem?_eq_some_iff.mp hu').1; omega
        have hki : ks[i]? = some ks[i] := List.getElem?_eq_getElem hi
        obtain ⟨lt, t1, t2⟩ := u3 i u ks[i] hu' hki
        rw [kindAt_drop hki, ek] at ed
        refine w_gTup' (SqT.of t1) rfl ?_
        refine ⟨_, _, rfl, _, _, rfl, _, _, rfl, rfl, ?_⟩
        show tIfS _ _ _ _ [some (V.ref p), some (V.str t), some (V.ref r), some (V.ref l), some (V.ref z), some V.non, some (V.ref l6), none, some (V.str ks[i].1), some (V.str ks[i].2.1), some (V.ref lt), v11] H2
        (repeat array_get_dec)
        refine w_ite (fun zz => ?_) (fun zz => ?_)
        · rw [zz, if_pos rfl] at ed
          have ed : k = ks[i] := Option.some.inj ed
          rw [← ed] at t1 t2
          rw [← ed]
          (repeat array_get_dec)
          refine ⟨r, k.2.1, lt, ys, k.2.2, rfl, s02 _ _ hr0, (row_iff.mp ro).1, by omega, t2, fun H3 d s3 fd gd => ?_⟩
          have ez3 := s3 _ _ ez
          (repeat array_get_dec)
          refine ⟨_, _, _, _, _, rfl, .v (.lst ez3), rfl, T.k_list, ?_⟩
          (repeat array_get_dec)
          refine ⟨z, d, _, _, rfl, rfl, .inl ⟨SqL.of ez3, SqL.of gd⟩, flat_strs _, flat_strs _, ?_⟩
          rw [if_pos rfl, eqL_refl (flat_strs _)]
          (repeat array_get_dec)
          refine ⟨.inl ⟨rfl, _, SqL.of ez3⟩, ?_⟩
          (repeat array_get_dec)
          refine ⟨z, _, _, rfl, rfl, ez3, by rw [List.length_map]; have := turnedR_len ys k.2.1 k.2.2; omega, ?_⟩
          have nzd : d ≠ z := fun e => by rw [e, ez] at fd; cases fd
          have s14 : Same H1 (upd H3 z (.lst ((turnedR ys k.2.1 k.2.2).map V.str ++ [.str "more"]))) := fun c o hc => by rw [upd_ne (ne_of_none hc fz)]; exact s3 _ _ (s2 _ _ hc)
          have gd4 : (upd H3 z (.lst ((turnedR ys k.2.1 k.2.2).map V.str ++ [.str "more"]))) d = some (.lst ((turnedR ys k.2.1 k.2.2).map V.str)) := by rw [upd_ne nzd]; exact gd
          generalize upd H3 z _ = H4 at s14 gd4 ⊢
          have s04 := s1.trans s14
          (repeat array_get_dec)
          refine ⟨p, l6, t, ks, ys, rfl, R.same s04, gk, s14 _ _ g1, by omega, hy, tb.same s04, ?_⟩
          rw [ek]
          show if rowOk ys = true then _ else _
          rw [if_pos ro]
          intro H5 z5 s5 f5 e5
          have s05 := s04.trans s5
          (repeat array_get_dec)
          refine ⟨z5, d, _, _, rfl, rfl, .inl ⟨SqL.of e5, SqL.of (s5 _ _ gd4)⟩, flat_strs _, flat_strs _, ?_⟩
          rw [if_neg Bool.false_ne_true, eqL_refl (flat_strs _)]
          (repeat array_get_dec)
          refine ⟨l6, r, _, _, rfl, rfl, .inl ⟨SqL.of (s5 _ _ (s14 _ _ g1)), SqL.of (s05 _ _ hr0)⟩, flat_strs _, flat_strs _, ?_⟩
          rw [if_neg Bool.false_ne_true, eqL_refl (flat_strs _)]
          exact q H5 s05
        · rw [zz, if_neg Bool.false_ne_true] at ed
          (repeat array_get_dec)
          exact ⟨_, _, _, _, rfl, rfl, by rw [ek]; exact ed⟩
      · rintro σ _ ⟨v8, v9, v10, v11, rfl, rfl, ed⟩
        rw [ek, List.length_map, u2, List.drop_of_length_le (Nat.le_refl _)] at ed
        cases ed
end
end K19

namespace K19
open PySem PySem.Spec PyProof.Rows L2
theorem sign8 (i : Int) : ∃ c, L2.atI ("A1+ -Qz." : Str).cps.toList (i % 8) = some c := by
  obtain ⟨c, hc, e⟩ := atI_in (xs := ("A1+ -Qz." : Str).cps.toList) (mod_ge i (show (0 : Int) < 8 by decide)) (mod_lt i (show (0 : Int) < 8 by decide))
  exact ⟨c, e⟩
section
variable {P : Program} {w : World} {K : PySem.W.Frag} {mg : Str → Option Value} {base : Heap} {a : Ad}
/-! ### _law_spoilt -/
abbrev DSp (K : PySem.W.Frag) (mg : Str → Option Value) := Df K mg "_law_spoilt" "_law_spoilt" (top 44) ["_law_script", "_law_at", "_law_word"]
abbrev nSp : List Str := ["_law_script", "_law_at", "_law_word", "_law_n", "_law_spot", "_law_sign", "_law_some"]
def spSp (K : PySem.W.Frag) : Sp := fun vs H Q _ => ∃ (p q : Addr) (ns : List Int) (c : Nat) (x : Str), vs = [.ref p, .ref q, .str x] ∧ Scr K q H p ns ∧ ns.length ≤ 63 ∧ AtOk H q c ∧ c ≤ 800000 ∧ x.length ≤ 100 ∧ ∀ H' (y : Str), KB q H H' → AtOk H' q (c + 1) → y.length ≤ 700 → Q (.str y) H'
theorem scSp : FnScope nSp ["_law_script", "_law_at", "_law_word"] (defScope (top 44)) := ⟨rfl, rfl, rfl, by decide +kernel, rfl, by decide +kernel, by decide +kernel⟩
theorem ok_sp (D : DSp K mg) (D__law_next : DNext K mg) (G__law_next : FnOk P w K mg base CX0 1 D__law_next.f D__law_next.fd ["_law_script", "_law_at"] (spNext K)) (T : Txt K mg a) : FnOk P w K mg base CX0 2 D.f D.fd ["_law_script", "_law_at", "_law_word"] (spSp K) := by
  refine Df.ok (k := 1) D.ex scSp (fun vs H Q E h => ?_) (fun A outer s H vs Q E hr h => ?_)
  · obtain ⟨p, q, ns, c, x, rfl, _⟩ := h; rfl
  · obtain ⟨p, q, ns, c, x, rfl, sc, hlen, ao, hc, lx, k⟩ := h
    have nd := scSp.nd
    have line : 1000 < sizeLine := by decide
    refine ⟨_, (pss_cons (ps_set (i := 3) nd rfl (Or.inl rfl) (pe_call G__law_next (hr.mono (by decide)) (by rfl) D__law_next.mg D__law_next.kp D__law_next.bd .nil pass0 (pa_c (pv 0) (pa_c (pv 1) pa_nil))))
 (pss_cons (ps_set (i := 4) nd rfl (Or.inl rfl) (pe_op op_mod (pe_op op_fdiv (pv 3) pe_int) (pe_op op_add (pe_callB call_len_str (by rfl) T.b_len boot_len (pa_c (pv 2) pa_nil)) pe_int)))
 (pss_cons (ps_set (i := 5) nd rfl (Or.inl rfl) (pe_ix ix_str pe_str (pe_op op_mod (pe_op op_fdiv (pv 3) pe_int) pe_int) (fun _ _ => rfl)))
 (pss_cons (ps_set (i := 6) nd rfl (Or.inl rfl) (pe_lst (pa_c (pv 2) (pa_c (pv 2) (pa_c (pe_slice sl_str (pv 2) po_none (po_some pe_int)) (pa_c pe_str (pa_c (pe_slice sl_str (pe_op op_mul_strC (pv 2) pe_int) po_none (po_some pe_int)) (pa_c (pe_slice sl_str (pe_op op_mul_strC (pv 2) pe_int) po_none (po_some pe_int)) (pa_c (pe_op op_add_str (pe_op op_add_str (pe_slice sl_str (pv 2) po_none (po_some (pv 4))) (pv 5)) (pe_slice sl_str (pv 2) (po_some (pv 4)) po_none)) pa_nil)))))))))
 (pss_one (ps_ret (pe_ix ix_list (pv 6) (pe_op op_mod (pv 3) pe_int) (fun _ _ => rfl)))))))), ?_⟩
    (repeat array_get_dec)
    refine ⟨p, q, ns, c, rfl, sc, hlen, ao, by omega, fun H1 n n0 n1 kb1 ao1 => ?_⟩
    (repeat array_get_dec)
    refine ⟨x, rfl, by omega, ?_⟩
    (repeat array_get_dec)
    refine w_mod (by omega) ?_
    (repeat array_get_dec)
    generalize n / 9 % ((x.length : Int) + 1) = sp
    obtain ⟨c8, e8⟩ := sign8 (n / 99)
    refine ⟨_, _, c8, rfl, rfl, by decide, e8, ?_⟩
    (repeat array_get_dec)
    refine ⟨x, rfl, by omega, ?_⟩
    (repeat array_get_dec)
    refine ⟨x, 6, rfl, rfl, by decide, by decide, by omega, fun r6 hr6 _ => ?_⟩
    (repeat array_get_dec)
    refine ⟨r6, rfl, by omega, ?_⟩
    (repeat array_get_dec)
    refine ⟨x, 5, rfl, rfl, by decide, by decide, by omega, fun r5 hr5 _ => ?_⟩
    (repeat array_get_dec)
    refine ⟨r5, rfl, by omega, ?_⟩
    (repeat array_get_dec)
    refine ⟨x, rfl, by omega, ?_⟩
    have k1 := cut_to x sp
    have k2 := cut_from x sp
    have k3 := cut_to x 1
    have k4 := cut_to r6 11
    have k5 := cut_to r5 10
    generalize Txt.slice x none (some sp) = u1 at k1 ⊢
    (repeat array_get_dec)
    refine ⟨_, _, rfl, rfl, by show _ + 1 ≤ sizeLine; omega, ?_⟩
    (repeat array_get_dec)
    refine ⟨x, rfl, by omega, ?_⟩
    generalize Txt.slice x (some sp) none = u2 at k2 ⊢
    refine ⟨_, _, rfl, rfl, by rw [st_len]; show _ + 1 + _ ≤ sizeLine; omega, ?_⟩
    have l7 : (u1 ++ (⟨#[c8]⟩ : Str) ++ u2).length ≤ 700 := by rw [st_len, st_len]; show _ + 1 + _ ≤ _; omega
    generalize u1 ++ (⟨#[c8]⟩ : Str) ++ u2 = u3 at l7 ⊢
    generalize Txt.slice x none (some 1) = u4 at k3 ⊢
    generalize Txt.slice r6 none (some 11) = u5 at k4 ⊢
    generalize Txt.slice r5 none (some 10) = u6 at k5 ⊢
    (repeat array_get_dec)
    refine ⟨by show 7 ≤ sizeLine; decide, fun l2 h2 => ?_⟩
    (repeat array_get_dec)
    refine w_pick (fun v => ∃ y : Str, v = .str y ∧ y.length ≤ 700) upd_same (mod_ge _ (by decide)) (by exact mod_lt _ (by decide)) (fun v hv => ?_) fun v hv => ?_
    · simp only [List.mem_cons, List.not_mem_nil, or_false] at hv
      rcases hv with rfl | rfl | rfl | rfl | rfl | rfl | rfl
      · exact ⟨_, rfl, by omega⟩
      · exact ⟨_, rfl, by omega⟩
      · exact ⟨_, rfl, by omega⟩
      · exact ⟨_, rfl, by decide⟩
      · exact ⟨_, rfl, by omega⟩
      · exact ⟨_, rfl, by omega⟩
      · exact ⟨_, rfl, l7⟩
    obtain ⟨y, rfl, ly⟩ := hv
    exact k _ y (kb1.trans (KB.put h2)) (ao1.same (Same.upd h2)) ly
end
end K19

namespace K19
open PySem PySem.Spec PyProof.Rows L2
theorem at_ne {H : Hp} {q c : Addr} {n : Nat} {o : HO} (ao : AtOk H q n) (h : H c = some o) (ho : ∀ i j : Int, o ≠ .lst [.int i, .int j]) : c ≠ q := fun e => by
  obtain ⟨i, j, hq, _⟩ := ao.ob
  rw [e, hq] at h
  exact ho i j (Option.some.inj h).symm
theorem refs_ne {ts : List Addr} (i j : Int) : HO.lst (ts.map .ref) ≠ .lst [.int i, .int j] := fun e => by
  cases ts with
  | nil => injection e with e; cases e
  | cons t r => injection e with e; injection e with e _; cases e
theorem PairsAt.kb {H H' : Hp} {q l : Addr} {c : Nat} {ms : List (Str × Str)} (h : PairsAt H l ms) (ao : AtOk H q c) (k : KB q H H') : PairsAt H' l ms := by
  obtain ⟨ts, h1, h2, h3⟩ := h
  exact ⟨ts, k _ _ (at_ne ao h1 refs_ne) h1, h2, fun i t m x y => k _ _ (at_ne ao (h3 i t m x y) (fun _ _ z => by cases z)) (h3 i t m x y)⟩
/-- while a kind is drawn: all stays but the draws' state and the list of turns -/
structure St2 (K : PySem.W.Frag) (H0 H : Hp) (p q l tl : Addr) (ns : List Int) (ws : List Str) (c : Nat) (ms : List (Str × Str)) : Prop where
  kp : ∀ c' o, c' ≠ q → c' ≠ tl → H0 c' = some o → H c' = some o
  sc : Scr K q H p ns
  np : p = tl → ∀ H', SqL K H' p (ns.map .int)
  nq : tl ≠ q
  nl : l ≠ tl
  ao : AtOk H q c
  wd : Words H l ws
  pr : PairsAt H tl ms
section
variable {K : PySem.W.Frag} {H0 H H' : Hp} {p q l tl : Addr} {ns : List Int} {ws : List Str} {c : Nat} {ms : List (Str × Str)}
theorem St2.next {d : Nat} (S : St2 K H0 H p q l tl ns ws c ms) (kb : KB q H H') (ao : AtOk H' q d) : St2 K H0 H' p q l tl ns ws d ms :=
  ⟨fun c' o n1 n2 h => kb _ _ n1 (S.kp c' o n1 n2 h), S.sc.kb kb, S.np, S.nq, S.nl, ao, S.wd.kb S.ao kb, S.pr.kb S.ao kb⟩
theorem St2.same (S : St2 K H0 H p q l tl ns ws c ms) (s : Same H H') : St2 K H0 H' p q l tl ns ws c ms := S.next (.of s) (S.ao.same s)
theorem St2.mono {d : Nat} (S : St2 K H0 H p q l tl ns ws c ms) (h : c ≤ d) : St2 K H0 H p q l tl ns ws d ms := { S with ao := S.ao.mono h }
theorem St2.put {ts : List Addr} {ms' : List (Str × Str)} (S : St2 K H0 H p q l tl ns ws c ms) (hl : ts.length = ms'.length) (h : ∀ (i : Nat) t m, ts[i]? = some t → ms'[i]? = some m → H t = some (pairV m)) : St2 K H0 (upd H tl (.lst (ts.map .ref))) p q l tl ns ws c ms' := by
  obtain ⟨us, u1, u2, u3⟩ := S.pr
  refine ⟨fun c' o n1 n2 e => by rw [upd_ne n2]; exact S.kp c' o n1 n2 e, ⟨?_, S.sc.2⟩, S.np, S.nq, S.nl, ?_, ⟨by rw [upd_ne S.nl]; exact S.wd.1, S.wd.2⟩, ts, upd_same, hl, fun i t m x y => ?_⟩
  · by_cases e : p = tl
    · exact S.np e _
    · rcases S.sc.1 with (z | ⟨o, z⟩) | z
      · exact .inl (.inl (by rw [upd_ne e]; exact z))
      · exact .inl (.inr ⟨o, by rw [upd_ne e]; exact z⟩)
      · exact .inr z
  · obtain ⟨i, n, hq, x⟩ := S.ao.ob
    exact ⟨i, n, by rw [upd_ne (Ne.symm S.nq)]; exact hq, x⟩
  · have z := h i t m x y
    rw [upd_ne (ne_of z u1 (by intro z; cases z))]
    exact z
end
def Lens (n : Nat) (ms : List (Str × Str)) : Prop := ∀ m ∈ ms, m.1.length ≤ n ∧ m.2.length ≤ n
theorem Lens.mono {n k : Nat} {ms : List (Str × Str)} (h : Lens n ms) (l : n ≤ k) : Lens k ms := fun m hm => ⟨Nat.le_trans (h m hm).1 l, Nat.le_trans (h m hm).2 l⟩
theorem Lens.snoc {n : Nat} {ms : List (Str × Str)} {x y : Str} (h : Lens n ms) (hx : x.length ≤ n) (hy : y.length ≤ n) : Lens n (ms ++ [(x, y)]) := fun m hm => by
  rcases List.mem_append.mp hm with z | z
  · exact h m z
  · rw [List.mem_singleton] at z; rw [z]; exact ⟨hx, hy⟩
theorem pairs_snoc {H : Hp} {ts : List Addr} {ms : List (Str × Str)} {t : Addr} {m : Str × Str} (hl : ts.length = ms.length) (h : ∀ (i : Nat) t m, ts[i]? = some t → ms[i]? = some m → H t = some (pairV m)) (ht : H t = some (pairV m)) :
    ∀ (i : Nat) t' m', (ts ++ [t])[i]? = some t' → (ms ++ [m])[i]? = some m' → H t' = some (pairV m') := fun i t' m' h1 h2 => by
  rcases Nat.lt_trichotomy i ts.length with z | z | z
  · rw [List.getElem?_append_left z] at h1
    rw [List.getElem?_append_left (by omega)] at h2
    exact h i t' m' h1 h2
  · subst z
    rw [List.getElem?_append_right (Nat.le_refl _), Nat.sub_self] at h1
    rw [hl, List.getElem?_append_right (Nat.le_refl _), Nat.sub_self] at h2
    cases h1; cases h2; exact ht
  · rw [List.getElem?_eq_none (by simp; omega)] at h1; cases h1
section
variable {P : Program} {w : World} {K : PySem.W.Frag} {mg : Str → Option Value} {base : Heap} {a : Ad}
/-! ### _law_drawn_kind -/
abbrev DDK (K : PySem.W.Frag) (mg : Str → Option Value) := Df K mg "_law_drawn_kind" "_law_drawn_kind" (top 45) ["_law_script", "_law_at", "_law_words_here"]
abbrev nDK : List Str := ["_law_script", "_law_at", "_law_words_here", "_law_n", "_law_title", "_law_ending", "_law_turns", "_law_k", "_law_first", "_law_spoil", "_law_spot", "_law_second", "_law_pair"]
def spDK (K : PySem.W.Frag) : Sp := fun vs H Q _ => ∃ (p q l : Addr) (ns : List Int) (c : Nat) (ws : List Str), vs = [.ref p, .ref q, .ref l] ∧ Scr K q H p ns ∧ ns.length ≤ 63 ∧ AtOk H q c ∧ c ≤ 700000 ∧ Words H l ws ∧
  ∀ H' z (t e : Str) tl ms, KB q H H' → AtOk H' q (c + 50) → H tl = none → H' z = some (.tup [.str t, .str e, .ref tl]) → PairsAt H' tl ms → t.length ≤ 1000 → e.length ≤ 1000 → Short ms → Q (.ref z) H'
theorem scDK : FnScope nDK ["_law_script", "_law_at", "_law_words_here"] (defScope (top 45)) := ⟨rfl, rfl, rfl, by decide +kernel, rfl, by decide +kernel, by decide +kernel⟩
theorem ok_dk (D : DDK K mg) (D__law_next : DNext K mg) (G__law_next : FnOk P w K mg base CX0 1 D__law_next.f D__law_next.fd ["_law_script", "_law_at"] (spNext K)) (D__law_spoilt : DSp K mg) (G__law_spoilt : FnOk P w K mg base CX0 2 D__law_spoilt.f D__law_spoilt.fd ["_law_script", "_law_at", "_law_word"] (spSp K)) (T : Txt K mg a) :
    FnOk P w K mg base CX0 3 D.f D.fd ["_law_script", "_law_at", "_law_words_here"] (spDK K) := by
  refine Df.ok (k := 2) D.ex scDK (fun vs H Q E h => ?_) (fun A outer s H vs Q E hr h => ?_)
  · obtain ⟨p, q, l, ns, c, ws, rfl, _⟩ := h; rfl
  · obtain ⟨p, q, l, ns, c, ws, rfl, sc, hlen, ao, hc, wd, k⟩ := h
    have nd := scDK.nd
    have line : 2000 < sizeLine := by decide
    refine ⟨_, (pss_cons (ps_set (i := 3) nd rfl (Or.inl rfl) (pe_call G__law_next (hr.mono (by decide)) (by rfl) D__law_next.mg D__law_next.kp D__law_next.bd .nil pass0 (pa_c (pv 0) (pa_c (pv 1) pa_nil))))
 (pss_cons (ps_set (i := 4) nd rfl (Or.inl rfl) (pe_slice sl_str (pe_op op_add_str (pe_ix ix_list (pv 2) (pe_op op_mod (pv 3) (pe_callB call_len_seq (by rfl) T.b_len boot_len (pa_c (pv 2) pa_nil))) (fun _ _ => rfl)) pe_str) po_none (po_some (pe_ix ix_list (pe_lstK [.int 1, .int 3, .int 8, .int 2, .int 8, .int 5]) (pe_op op_mod (pe_op op_fdiv (pv 3) pe_int) pe_int) (fun _ _ => rfl)))))
 (pss_cons (ps_set (i := 5) nd rfl (Or.inl rfl) (pe_ix ix_list (pv 2) (pe_op op_mod (pe_op op_fdiv (pv 3) pe_int) (pe_callB call_len_seq (by rfl) T.b_len boot_len (pa_c (pv 2) pa_nil))) (fun _ _ => rfl)))
 (pss_cons (ps_set (i := 6) nd rfl (Or.inl rfl) (pe_lst pa_nil))
 (pss_cons (ps_for PassesOwn.never rfl (pi_range1 (by rfl) T.b_range (pa_c (pe_ix ix_list (pe_lstK [.int 0, .int 1, .int 2, .int 12]) (pe_op op_mod (pe_op op_fdiv (pv 3) pe_int) pe_int) (fun _ _ => rfl)) pa_nil)) (pg_name (i := 7) (show List.Nodup (["_law_script", "_law_at", "_law_words_here", "_law_n", "_law_title", "_law_ending", "_law_turns", "_law_k", "_law_first", "_law_spoil", "_law_spot", "_law_second", "_law_pair"] : List Str) from by decide +kernel) rfl (Or.inl rfl))
 (pss_cons (ps_set (i := 8) nd rfl (Or.inl rfl) (pe_ix ix_list (pv 2) (pe_op op_mod (pe_call G__law_next (hr.mono (by decide)) (by rfl) D__law_next.mg D__law_next.kp D__law_next.bd .nil pass0 (pa_c (pv 0) (pa_c (pv 1) pa_nil))) (pe_callB call_len_seq (by rfl) T.b_len boot_len (pa_c (pv 2) pa_nil))) (fun _ _ => rfl)))
 (pss_one (ps_if (pt_cmpR op_notIn_seq (pv 8) (pe_lc (N := ["_law_pair"]) (fs := []) (⟨rfl, by rfl, by rfl, by rfl, trivial⟩) rfl (pi_list (pv 6)) (fun _ _ _ _ _ => (pg_name (i := 0) (show List.Nodup (["_law_pair"] : List Str) from by decide +kernel) rfl (Or.inl rfl))) (fun _ _ _ _ _ => by exact pts_nil) (fun _ _ _ _ _ => by exact (pe_ix (ix_tupK K) (pv 0) pe_int (fun _ _ => rfl)))) (by with_unfolding_all rfl))
 (pss_one (ps_expr (pe_bm PySem.F.plainAttrs_list PySem.F.slot_list_append PySem.F.type_list_append mt_append (pv 6) (pa_c (pe_tup (pa_c (pv 8) (pa_c (pe_ix ix_list (pv 2) (pe_op op_mod (pe_call G__law_next (hr.mono (by decide)) (by rfl) D__law_next.mg D__law_next.kp D__law_next.bd .nil pass0 (pa_c (pv 0) (pa_c (pv 1) pa_nil))) (pe_callB call_len_seq (by rfl) T.b_len boot_len (pa_c (pv 2) pa_nil))) (fun _ _ => rfl)) pa_nil))) pa_nil))))
 pss_nil))))
 (pss_cons (ps_set (i := 9) nd rfl (Or.inl rfl) (pe_op op_mod (pe_op op_fdiv (pv 3) pe_int) pe_int))
 (pss_cons (ps_if (pt_cmpR op_eq (pv 9) pe_int (nomark _))
 (pss_one (ps_set (i := 4) nd rfl (Or.inl rfl) (pe_ix ix_list (pe_lst (pa_c pe_str (pa_c (pe_op op_add_str (pv 4) pe_str) (pa_c (pe_call G__law_spoilt (hr.mono (by decide)) (by rfl) D__law_spoilt.mg D__law_spoilt.kp D__law_spoilt.bd .nil pass0 (pa_c (pv 0) (pa_c (pv 1) (pa_c (pv 4) pa_nil)))) pa_nil)))) (pe_op op_mod (pe_call G__law_next (hr.mono (by decide)) (by rfl) D__law_next.mg D__law_next.kp D__law_next.bd .nil pass0 (pa_c (pv 0) (pa_c (pv 1) pa_nil))) pe_int) (fun _ _ => rfl))))
 pss_nil)
 (pss_cons (ps_if (pt_cmpR op_eq (pv 9) pe_int (nomark _))
 (pss_one (ps_set (i := 5) nd rfl (Or.inl rfl) (pe_call G__law_spoilt (hr.mono (by decide)) (by rfl) D__law_spoilt.mg D__law_spoilt.kp D__law_spoilt.bd .nil pass0 (pa_c (pv 0) (pa_c (pv 1) (pa_c (pv 5) pa_nil))))))
 pss_nil)
 (pss_cons (ps_if (pw_and (pt_cmpR op_eq (pv 9) pe_int (nomark _)) (pw_and1 (pt_cmpR op_gt (pe_callB call_len_seq (by rfl) T.b_len boot_len (pa_c (pv 6) pa_nil)) pe_int (nomark _)))).pt
 (pss_cons (ps_set (i := 10) nd rfl (Or.inl rfl) (pe_op op_mod (pe_call G__law_next (hr.mono (by decide)) (by rfl) D__law_next.mg D__law_next.kp D__law_next.bd .nil pass0 (pa_c (pv 0) (pa_c (pv 1) pa_nil))) (pe_callB call_len_seq (by rfl) T.b_len boot_len (pa_c (pv 6) pa_nil))))
 (pss_cons (ps_asg (pe_ix ix_list (pv 6) (pv 10) (fun _ _ => rfl)) (pg_tup (n := 2) rfl (pgs_cons (pg_name (i := 8) (show List.Nodup (["_law_script", "_law_at", "_law_words_here", "_law_n", "_law_title", "_law_ending", "_law_turns", "_law_k", "_law_first", "_law_spoil", "_law_spot", "_law_second", "_law_pair"] : List Str) from by decide +kernel) rfl (Or.inl rfl)) (pgs_cons (pg_name (i := 11) (show List.Nodup (["_law_script", "_law_at", "_law_words_here", "_law_n", "_law_title", "_law_ending", "_law_turns", "_law_k", "_law_first", "_law_spoil", "_law_spot", "_law_second", "_law_pair"] : List Str) from by decide +kernel) rfl (Or.inl rfl)) pgs_nil))))
 (pss_cons (ps_set (i := 12) nd rfl (Or.inl rfl) (pe_lst (pa_c (pe_tup (pa_c (pe_call G__law_spoilt (hr.mono (by decide)) (by rfl) D__law_spoilt.mg D__law_spoilt.kp D__law_spoilt.bd .nil pass0 (pa_c (pv 0) (pa_c (pv 1) (pa_c (pv 8) pa_nil)))) (pa_c (pv 11) pa_nil))) (pa_c (pe_tup (pa_c (pv 8) (pa_c (pe_call G__law_spoilt (hr.mono (by decide)) (by rfl) D__law_spoilt.mg D__law_spoilt.kp D__law_spoilt.bd .nil pass0 (pa_c (pv 0) (pa_c (pv 1) (pa_c (pv 11) pa_nil)))) pa_nil))) pa_nil))))
 (pss_one (ps_asg (pe_ix ix_list (pv 12) (pe_op op_mod (pe_call G__law_next (hr.mono (by decide)) (by rfl) D__law_next.mg D__law_next.kp D__law_next.bd .nil pass0 (pa_c (pv 0) (pa_c (pv 1) pa_nil))) pe_int) (fun _ _ => rfl)) (pg_sub (pv 6) (pv 10) set_list))))))
 pss_nil)
 (pss_cons (ps_if (pw_and (pt_cmpR op_eq (pv 9) pe_int (nomark _)) (pw_and1 (pt_cmpR op_gt (pe_callB call_len_seq (by rfl) T.b_len boot_len (pa_c (pv 6) pa_nil)) pe_int (nomark _)))).pt
 (pss_one (ps_expr (pe_bm PySem.F.plainAttrs_list PySem.F.slot_list_append PySem.F.type_list_append mt_append (pv 6) (pa_c (pe_tup (pa_c (pe_ix ix_tup (pe_ix ix_list (pv 6) (pe_op op_mod (pe_call G__law_next (hr.mono (by decide)) (by rfl) D__law_next.mg D__law_next.kp D__law_next.bd .nil pass0 (pa_c (pv 0) (pa_c (pv 1) pa_nil))) (pe_callB call_len_seq (by rfl) T.b_len boot_len (pa_c (pv 6) pa_nil))) (fun _ _ => rfl)) pe_int (fun _ _ => rfl)) (pa_c (pv 5) pa_nil))) pa_nil))))
 pss_nil)
 (pss_one (ps_ret (pe_tup (pa_c (pv 4) (pa_c (pv 5) (pa_c (pv 6) pa_nil)))))))))))))))), ?_⟩
    (repeat array_get_dec)
    refine ⟨p, q, ns, c, rfl, sc, hlen, ao, by omega, fun H1 n n0 n1 kb1 ao1 => ?_⟩
    have wd1 := wd.kb ao kb1
    have sc1 := sc.kb kb1
    (repeat array_get_dec)
    refine ⟨l, _, rfl, .inl (SqL.of wd1.1), ?_⟩
    refine w_mod wd1.pos ?_
    obtain ⟨y1, hy1, e1⟩ := wd1.pick n
    have array_get_dec := word_len (wd.2.2.2 y1 hy1)
    refine ⟨l, _, _, _, rfl, rfl, SqL.of wd1.1, e1, ?_⟩
    (repeat array_get_dec)
    refine ⟨_, _, rfl, rfl, by show _ + 8 ≤ sizeLine; omega, ?_⟩
    (repeat array_get_dec)
    refine ⟨(show 6 ≤ sizeLine by decide), fun l2 h2 => ?_⟩
    (repeat array_get_dec)
    refine w_pick (fun v => ∃ m : Int, v = .int m) upd_same (mod_ge _ (by decide)) (by exact mod_lt _ (by decide)) (fun v hv => ?_) fun v hv => ?_
    · simp only [List.mem_cons, List.not_mem_nil, or_false] at hv
      rcases hv with rfl | rfl | rfl | rfl | rfl | rfl
      all_goals exact ⟨_, rfl⟩
    obtain ⟨m2, rfl⟩ := hv
    (repeat array_get_dec)
    have lt1 : (y1 ++ ("abcdefgh" : Str)).length ≤ 18 := by rw [st_len]; show _ + 8 ≤ _; omega
    refine ⟨_, rfl, by omega, ?_⟩
    have lt2 := cut_to (y1 ++ ("abcdefgh" : Str)) m2
    generalize Txt.slice (y1 ++ ("abcdefgh" : Str)) none (some m2) = t0 at lt2 ⊢
    have lt0 : t0.length ≤ 18 := by omega
    have s2 := Same.upd (o := .lst [.int 1, .int 3, .int 8, .int 2, .int 8, .int 5]) h2
    have kb2 := kb1.trans (KB.of (at' := q) s2)
    have ao2 := ao1.same s2
    have wd2 := wd1.kb ao1 (.of s2)
    have sc2 := sc1.kb (.of s2)
    generalize upd H1 l2 _ = H2 at kb2 ao2 wd2 sc2 ⊢
    clear s2 h2 lt1 lt2
    (repeat array_get_dec)
    refine ⟨l, _, rfl, .inl (SqL.of wd2.1), ?_⟩
    refine w_mod wd2.pos ?_
    obtain ⟨e0, he0, e2⟩ := wd2.pick (n / 200)
    have le0 := word_len (wd.2.2.2 e0 he0)
    refine ⟨l, _, _, _, rfl, rfl, SqL.of wd2.1, e2, ?_⟩
    (repeat array_get_dec)
    refine ⟨by show 0 ≤ sizeLine; decide, fun tl htl => ?_⟩
    have ftl : H tl = none := KB.free kb2 ao2 htl
    have S0 : St2 K H (upd H2 tl (.lst [])) p q l tl ns ws (c + 1) [] := by
      have s3 : Same H2 (upd H2 tl (.lst [])) := Same.upd htl
      have nq : tl ≠ q := fun e => by obtain ⟨i, j, hq, _⟩ := ao2.ob; rw [e, hq] at htl; cases htl
      refine ⟨fun c' o a1 a2 h => s3 _ _ (kb2 _ _ a1 h), sc2.kb (.of s3), fun e H' => ?_, nq, ne_of_none wd2.1 htl, ao2.same s3, wd2.kb ao2 (.of s3), [], upd_same, rfl, fun i t m x => by cases x⟩
      rcases sc.1 with (z | ⟨o, z⟩) | z
      · rw [e, ftl] at z; cases z
      · rw [e, ftl] at z; cases z
      · exact .inr z
    generalize upd H2 tl _ = H3 at S0 ⊢
    clear kb2 ao2 wd2 sc2 htl kb1 ao1 wd1 sc1
    (repeat array_get_dec)
    refine ⟨(show 4 ≤ sizeLine by decide), fun l4 h4 => ?_⟩
    (repeat array_get_dec)
    refine w_pick (fun v => ∃ m : Int, v = .int m ∧ 0 ≤ m ∧ m ≤ 12) upd_same (mod_ge _ (by decide)) (by exact mod_lt _ (by decide)) (fun v hv => ?_) fun v hv => ?_
    · simp only [List.mem_cons, List.not_mem_nil, or_false] at hv
      rcases hv with rfl | rfl | rfl | rfl
      all_goals exact ⟨_, rfl, by decide, by decide⟩
    obtain ⟨m4, rfl, m40, m41⟩ := hv
    have S1 := S0.same (Same.upd (o := .lst [.int 0, .int 1, .int 2, .int 12]) h4)
    generalize upd H3 l4 _ = H4 at S1 ⊢
    clear S0 h4
    (repeat array_get_dec)
    refine ⟨_, rfl, by omega, by omega, ?_⟩
    refine forR (fun i σ H5 => ∃ v7 v8 ms, σ = [some (V.ref p), some (V.ref q), some (V.ref l), some (V.int n), some (V.str t0), some (V.str e0), some (V.ref tl), v7, v8, none, none, none, none] ∧ St2 K H H5 p q l tl ns ws (c + 1 + 2 * i) ms ∧ ms.length ≤ i ∧ Lens 10 ms) ⟨none, none, [], rfl, S1, Nat.le_refl _, fun _ h => (nomatch h)⟩ ?_ ?_
    · rintro i σ H5 hi ⟨v7, v8, ms, rfl, S, lm, ls⟩
      have hi : i < 12 := by omega
      (repeat array_get_dec)
      refine ⟨p, q, ns, _, rfl, S.sc, hlen, S.ao, by omega, fun H6 n6 _ _ kb6 ao6 => ?_⟩
      have S6 := S.next kb6 ao6
      (repeat array_get_dec)
      refine ⟨l, _, rfl, .inl (SqL.of S6.wd.1), ?_⟩
      refine w_mod S6.wd.pos ?_
      obtain ⟨y6, hy6, e6⟩ := S6.wd.pick n6
      have w6 := word_len (wd.2.2.2 y6 hy6)
      refine ⟨l, _, _, _, rfl, rfl, SqL.of S6.wd.1, e6, ?_⟩
      (repeat array_get_dec)
      obtain ⟨ts, t1, t2, t3⟩ := id S6.pr
      refine ⟨tl, rfl, ⟨_, SqL.of t1⟩, lcG (fun _ zs => ∃ ys : List Str, zs = ys.map V.str) (tells_l (SqL.of t1)) (by rw [List.length_map]; omega) ⟨[], rfl⟩ (fun D7 j zs H7 hj hD7 s7 e7 r7 => ?_) (fun D7 H7 zs hD7 s7 e7 r7 => ?_)⟩
      · obtain ⟨ys, rfl⟩ := r7
        rw [List.length_map] at hj
        have hj' : j < ms.length := by omega
        have ej : (ts.map V.ref).getD j .non = V.ref ts[j] := by simp [List.getD_eq_getElem?_getD, hj]
        have ht : H6 ts[j] = some (.tup [.str ms[j].1, .str ms[j].2]) := t3 j ts[j] ms[j] (List.getElem?_eq_getElem hj) (List.getElem?_eq_getElem hj')
        rw [ej]
        (repeat array_get_dec)
        refine ⟨mono0 rfl, ?_⟩
        (repeat array_get_dec)
        refine ⟨ts[j], _, 0, _, rfl, rfl, SqT.of (s7 _ _ ht), atI_nat (j := 0) rfl, ?_⟩
        exact lcFin hD7 s7 e7 (Same.refl _) ⟨ys ++ [ms[j].1], by rw [List.map_append]; rfl⟩
      · obtain ⟨ys, rfl⟩ := r7
        have S7 := S6.same s7
        (repeat array_get_dec)
        refine ⟨D7, _, rfl, .inl (SqL.of e7), rfl, flat_strs _, ?_⟩
        (repeat array_get_dec)
        refine w_ite (fun _ => ?_) (fun _ => ?_)
        · (repeat array_get_dec)
          obtain ⟨ts, t1, t2, t3⟩ := id S7.pr
          refine ⟨.inl ⟨rfl, _, SqL.of t1⟩, ?_⟩
          (repeat array_get_dec)
          refine ⟨p, q, ns, _, rfl, S7.sc, hlen, S7.ao, by omega, fun H8 n8 _ _ kb8 ao8 => ?_⟩
          have S8 := S7.next kb8 ao8
          (repeat array_get_dec)
          refine ⟨l, _, rfl, .inl (SqL.of S8.wd.1), ?_⟩
          refine w_mod S8.wd.pos ?_
          obtain ⟨y8, hy8, e8⟩ := S8.wd.pick n8
          have w8 := word_len (wd.2.2.2 y8 hy8)
          refine ⟨l, _, _, _, rfl, rfl, SqL.of S8.wd.1, e8, ?_⟩
          (repeat array_get_dec)
          refine ⟨by show 2 ≤ sizeLine; decide, fun u8 hu8 => ?_⟩
          have S9 := S8.same (Same.upd (o := .tup [.str y6, .str y8]) hu8)
          have gu : (upd H8 u8 (.tup [.str y6, .str y8])) u8 = some (pairV (y6, y8)) := upd_same
          generalize upd H8 u8 _ = H9 at S9 gu ⊢
          obtain ⟨ts, t1, t2, t3⟩ := id S9.pr
          (repeat array_get_dec)
          refine ⟨tl, _, _, rfl, rfl, t1, by rw [List.length_map]; omega, ?_⟩
          have S10 := S9.put (ts := ts ++ [u8]) (ms' := ms ++ [(y6, y8)]) (by rw [List.length_append, List.length_append, t2]; rfl) (pairs_snoc t2 t3 gu)
          rw [List.map_append] at S10
          exact ⟨_, _, ms ++ [(y6, y8)], rfl, S10.mono (by omega), by rw [List.length_append]; show _ + 1 ≤ _; omega, ls.snoc (by omega) (by omega)⟩
        · (repeat array_get_dec)
          exact ⟨_, _, ms, rfl, S7.mono (by omega), by omega, ls⟩
    · rintro σ H5 ⟨v7, v8, ms, rfl, S, lm, ls⟩
      have S : St2 K H H5 p q l tl ns ws (c + 25) ms := S.mono (by omega)
      have lm : ms.length ≤ 12 := by omega
      (repeat array_mem_dec)
      generalize n / 9600 % 9 = sp
      show tIfS _ _ _ _ [some (V.ref p), some (V.ref q), some (V.ref l), some (V.int n), some (V.str t0), some (V.str e0), some (V.ref tl), v7, v8, some (V.int sp), none, none, none] H5
      refine w_cut (fun σ2 H6 => ∃ t1 : Str, σ2 = [some (V.ref p), some (V.ref q), some (V.ref l), some (V.int n), some (V.str t1), some (V.str e0), some (V.ref tl), v7, v8, some (V.int sp), none, none, none] ∧ St2 K H H6 p q l tl ns ws (c + 27) ms ∧ t1.length ≤ 1000) (fun nx' hj => ?_) ?_
      · (repeat array_get_dec)
        refine w_ite (fun _ => ?_) (fun _ => ?_)
        · (repeat array_get_dec)
          refine ⟨t0, _, rfl, rfl, by show _ + 8 ≤ sizeLine; omega, ?_⟩
          (repeat array_get_dec)
          have l8 : (t0 ++ ("abcdefgh" : Str)).length ≤ 26 := by rw [st_len]; show _ + 8 ≤ _; omega
          refine ⟨p, q, ns, _, t0, rfl, S.sc, hlen, S.ao, by omega, by omega, fun H6 y6 kb6 ao6 ly6 => ?_⟩
          have S6 := S.next kb6 ao6
          (repeat array_get_dec)
          refine ⟨by show 3 ≤ sizeLine; decide, fun l6 h6 => ?_⟩
          have S7 := S6.same (Same.upd (o := .lst [.str "", .str (t0 ++ ("abcdefgh" : Str)), .str y6]) h6)
          have g7 : (upd H6 l6 (.lst [.str "", .str (t0 ++ ("abcdefgh" : Str)), .str y6])) l6 = some (.lst [.str "", .str (t0 ++ ("abcdefgh" : Str)), .str y6]) := upd_same
          generalize upd H6 l6 _ = H7 at S7 g7 ⊢
          have n7 : l6 ≠ q := at_ne S7.ao g7 (fun i j z => by injection z with z; injection z with z _; cases z)
          (repeat array_get_dec)
          refine ⟨p, q, ns, _, rfl, S7.sc, hlen, S7.ao, by omega, fun H8 n8 _ _ kb8 ao8 => ?_⟩
          have S8 := S7.next kb8 ao8
          (repeat array_get_dec)
          refine w_pick (fun v => ∃ y : Str, v = .str y ∧ y.length ≤ 1000) (kb8 _ _ n7 g7) (mod_ge _ (by decide)) (by exact mod_lt _ (by decide)) (fun v hv => ?_) fun v hv => ?_
          · simp only [List.mem_cons, List.not_mem_nil, or_false] at hv
            rcases hv with rfl | rfl | rfl
            · exact ⟨_, rfl, by decide⟩
            · exact ⟨_, rfl, by omega⟩
            · exact ⟨_, rfl, by omega⟩
          obtain ⟨y, rfl, ly⟩ := hv
          exact hj _ _ ⟨y, rfl, S8.mono (by omega), ly⟩
        · (repeat array_get_dec)
          exact hj _ _ ⟨t0, rfl, S.mono (by omega), by omega⟩
      clear S
      rintro σ2 H6 ⟨t1, rfl, S, lt1⟩
      refine w_seq ?_
      refine w_cut (fun σ2 H6 => ∃ e1 : Str, σ2 = [some (V.ref p), some (V.ref q), some (V.ref l), some (V.int n), some (V.str t1), some (V.str e1), some (V.ref tl), v7, v8, some (V.int sp), none, none, none] ∧ St2 K H H6 p q l tl ns ws (c + 28) ms ∧ e1.length ≤ 700) (fun nx' hj => ?_) ?_
      · (repeat array_get_dec)
        refine w_ite (fun _ => ?_) (fun _ => ?_)
        · (repeat array_get_dec)
          refine ⟨p, q, ns, _, e0, rfl, S.sc, hlen, S.ao, by omega, by omega, fun H7 y7 kb7 ao7 ly7 => ?_⟩
          exact hj _ _ ⟨y7, rfl, S.next kb7 ao7, ly7⟩
        · (repeat array_get_dec)
          exact hj _ _ ⟨e0, rfl, S.mono (by omega), by omega⟩
      clear S
      rintro σ2 H7 ⟨e1, rfl, S, le1⟩
      refine w_seq ?_
      refine w_cut (fun σ2 H8 => ∃ v8 v10 v11 v12 ms1, σ2 = [some (V.ref p), some (V.ref q), some (V.ref l), some (V.int n), some (V.str t1), some (V.str e1), some (V.ref tl), v7, v8, some (V.int sp), v10, v11, v12] ∧ St2 K H H8 p q l tl ns ws (c + 32) ms1 ∧ ms1.length ≤ 12 ∧ Lens 700 ms1) (fun nx' hj => ?_) ?_
      · (repeat array_get_dec)
        refine w_ite (fun _ => ?_) (fun _ => ?_)
        · (repeat array_get_dec)
          obtain ⟨ts, t1', t2, t3⟩ := id S.pr
          refine ⟨tl, _, rfl, .inl (SqL.of t1'), ?_⟩
          (repeat array_get_dec)
          refine w_ite (fun zl => ?_) (fun _ => ?_)
          · have hpos : 0 < ts.length := by rw [decide_eq_true_eq, List.length_map] at zl; omega
            (repeat array_get_dec)
            refine ⟨p, q, ns, _, rfl, S.sc, hlen, S.ao, by omega, fun H8 n8 _ _ kb8 ao8 => ?_⟩
            have S8 := S.next kb8 ao8
            have hposm : 0 < ms.length := by omega
            clear t1' t2 t3 hpos zl
            obtain ⟨ts, t1', t2, t3⟩ := id S8.pr
            (repeat array_get_dec)
            refine ⟨tl, _, rfl, .inl (SqL.of t1'), ?_⟩
            refine w_mod (by rw [List.length_map]; omega) ?_
            have i0 := mod_ge n8 (show (0 : Int) < ((ts.map V.ref).length : Nat) by rw [List.length_map]; omega)
            have i1 := mod_lt n8 (show (0 : Int) < ((ts.map V.ref).length : Nat) by rw [List.length_map]; omega)
            generalize n8 % ((ts.map V.ref).length : Nat) = ix at i0 i1 ⊢
            obtain ⟨j, rfl⟩ : ∃ j : Nat, ix = (j : Int) := ⟨ix.toNat, by omega⟩
            have hj1 : j < ts.length := by rw [List.length_map] at i1; omega
            have hj2 : j < ms.length := by omega
            have hu : H8 ts[j] = some (.tup [.str ms[j].1, .str ms[j].2]) := t3 j ts[j] ms[j] (List.getElem?_eq_getElem hj1) (List.getElem?_eq_getElem hj2)
            have lj := ls ms[j] (List.getElem_mem hj2)
            (repeat array_get_dec)
            refine ⟨tl, _, _, _, rfl, rfl, SqL.of t1', atI_nat (j := j) (by rw [List.getElem?_map, List.getElem?_eq_getElem hj1]; rfl), ?_⟩
            refine w_gTup' (SqT.of hu) rfl ?_
            refine ⟨_, _, rfl, _, _, rfl, rfl, ?_⟩
            show tSeq _ _ _ [some (V.ref p), some (V.ref q), some (V.ref l), some (V.int n), some (V.str t1), some (V.str e1), some (V.ref tl), v7, some (V.str ms[j].1), some (V.int sp), some (V.int j), some (V.str ms[j].2), none] H8
            (repeat array_get_dec)
            refine ⟨p, q, ns, _, _, rfl, S8.sc, hlen, S8.ao, by omega, by omega, fun H9 y9 kb9 ao9 ly9 => ?_⟩
            have S9 := S8.next kb9 ao9
            (repeat array_get_dec)
            refine ⟨by show 2 ≤ sizeLine; decide, fun u9 hu9 => ?_⟩
            have S10 := S9.same (Same.upd (o := .tup [.str y9, .str ms[j].2]) hu9)
            have g10 : (upd H9 u9 (.tup [.str y9, .str ms[j].2])) u9 = some (pairV (y9, ms[j].2)) := upd_same
            generalize upd H9 u9 _ = H10 at S10 g10 ⊢
            (repeat array_get_dec)
            refine ⟨p, q, ns, _, _, rfl, S10.sc, hlen, S10.ao, by omega, by omega, fun H11 y11 kb11 ao11 ly11 => ?_⟩
            have S11 := S10.next kb11 ao11
            have g11 := kb11 _ _ (at_ne S10.ao g10 (fun _ _ z => by cases z)) g10
            (repeat array_get_dec)
            refine ⟨by show 2 ≤ sizeLine; decide, fun u11 hu11 => ?_⟩
            have s12 : Same H11 _ := Same.upd (o := .tup [.str ms[j].1, .str y11]) hu11
            have S12 := S11.same s12
            have g12 : (upd H11 u11 (.tup [.str ms[j].1, .str y11])) u11 = some (pairV (ms[j].1, y11)) := upd_same
            have g12' := s12 _ _ g11
            generalize upd H11 u11 _ = H12 at S12 g12 g12' ⊢
            (repeat array_get_dec)
            refine ⟨by show 2 ≤ sizeLine; decide, fun l13 h13 => ?_⟩
            have s13 : Same H12 _ := Same.upd (o := .lst [.ref u9, .ref u11]) h13
            have S13 := S12.same s13
            have g13 : (upd H12 l13 (.lst [.ref u9, .ref u11])) l13 = some (.lst [.ref u9, .ref u11]) := upd_same
            have ga := s13 _ _ g12'
            have gb := s13 _ _ g12
            generalize upd H12 l13 _ = H13 at S13 g13 ga gb ⊢
            have n13 : l13 ≠ q := at_ne S13.ao g13 (fun _ _ z => by injection z with z; injection z with z _; cases z)
            (repeat array_get_dec)
            refine ⟨p, q, ns, _, rfl, S13.sc, hlen, S13.ao, by omega, fun H14 n14 _ _ kb14 ao14 => ?_⟩
            have S14 := S13.next kb14 ao14
            have ga := kb14 _ _ (at_ne S13.ao ga (fun _ _ z => by cases z)) ga
            have gb := kb14 _ _ (at_ne S13.ao gb (fun _ _ z => by cases z)) gb
            (repeat array_get_dec)
            refine w_pick (fun v => ∃ (u : Addr) (m : Str × Str), v = .ref u ∧ H14 u = some (pairV m) ∧ m.1.length ≤ 700 ∧ m.2.length ≤ 700) (kb14 _ _ n13 g13) (mod_ge _ (by decide)) (by exact mod_lt _ (by decide)) (fun v hv => ?_) fun v hv => ?_
            · simp only [List.mem_cons, List.not_mem_nil, or_false] at hv
              rcases hv with rfl | rfl
              · exact ⟨_, _, rfl, ga, ly9, by show ms[j].2.length ≤ 700; omega⟩
              · exact ⟨_, _, rfl, gb, by show ms[j].1.length ≤ 700; omega, ly11⟩
            obtain ⟨u, m, rfl, gu, lu1, lu2⟩ := hv
            obtain ⟨ts', array_get_dec', w2', w3'⟩ := id S14.pr
            have hj3 : j < ts'.length := by omega
            (repeat array_get_dec)
            refine ⟨tl, _, j, j, rfl, rfl, array_get_dec', ?_, ?_⟩
            · unfold ixN
              rw [List.length_map]
              simp [hj3]
            have S15 := S14.put (ts := ts'.set j u) (ms' := ms.set j m) (by rw [List.length_set, List.length_set]; exact w2') (fun i t m' x y => by
              by_cases e : j = i
              · subst e
                rw [List.getElem?_set_self hj3] at x
                rw [List.getElem?_set_self hj2] at y
                cases x; cases y; exact gu
              · rw [List.getElem?_set_ne e] at x y
                exact w3' i t m' x y)
            rw [List.map_set] at S15
            refine hj _ _ ⟨_, _, _, _, ms.set j m, rfl, S15.mono (by omega), by rw [List.length_set]; exact lm, fun x hx => ?_⟩
            rcases List.mem_or_eq_of_mem_set hx with z | z
            · exact (ls.mono (show 10 ≤ 700 by decide)) x z
            · rw [z]; exact ⟨lu1, lu2⟩
          · (repeat array_get_dec)
            exact hj _ _ ⟨_, _, _, _, ms, rfl, S.mono (by omega), lm, ls.mono (by decide)⟩
        · (repeat array_get_dec)
          exact hj _ _ ⟨_, _, _, _, ms, rfl, S.mono (by omega), lm, ls.mono (by decide)⟩
      clear S lm ls
      rintro σ2 H8 ⟨v8', v10, v11, v12, ms, rfl, S, lm, ls⟩
      refine w_seq ?_
      refine w_cut (fun σ2 H9 => ∃ ms1, σ2 = [some (V.ref p), some (V.ref q), some (V.ref l), some (V.int n), some (V.str t1), some (V.str e1), some (V.ref tl), v7, v8', some (V.int sp), v10, v11, v12] ∧ St2 K H H9 p q l tl ns ws (c + 33) ms1 ∧ ms1.length ≤ 13 ∧ Lens 700 ms1) (fun nx' hj => ?_) ?_
      · (repeat array_get_dec)
        refine w_ite (fun _ => ?_) (fun _ => ?_)
        · (repeat array_get_dec)
          obtain ⟨ts, t1', t2, t3⟩ := id S.pr
          refine ⟨tl, _, rfl, .inl (SqL.of t1'), ?_⟩
          (repeat array_get_dec)
          refine w_ite (fun zl => ?_) (fun _ => ?_)
          · have hpos : 0 < ts.length := by rw [decide_eq_true_eq, List.length_map] at zl; omega
            (repeat array_get_dec)
            refine ⟨.inl ⟨rfl, _, SqL.of t1'⟩, ?_⟩
            (repeat array_get_dec)
            refine ⟨p, q, ns, _, rfl, S.sc, hlen, S.ao, by omega, fun H9 n9 _ _ kb9 ao9 => ?_⟩
            have S9 := S.next kb9 ao9
            clear t1' t3
            obtain ⟨ts', t1', t2', t3⟩ := id S9.pr
            (repeat array_get_dec)
            refine ⟨tl, _, rfl, .inl (SqL.of t1'), ?_⟩
            refine w_mod (by rw [List.length_map]; omega) ?_
            have i0 := mod_ge n9 (show (0 : Int) < ((ts'.map V.ref).length : Nat) by rw [List.length_map]; omega)
            have i1 := mod_lt n9 (show (0 : Int) < ((ts'.map V.ref).length : Nat) by rw [List.length_map]; omega)
            generalize n9 % ((ts'.map V.ref).length : Nat) = ix at i0 i1 ⊢
            obtain ⟨j, rfl⟩ : ∃ j : Nat, ix = (j : Int) := ⟨ix.toNat, by omega⟩
            have hj1 : j < ts'.length := by rw [List.length_map] at i1; omega
            have hj2 : j < ms.length := by omega
            have hu : H9 ts'[j] = some (.tup [.str ms[j].1, .str ms[j].2]) := t3 j ts'[j] ms[j] (List.getElem?_eq_getElem hj1) (List.getElem?_eq_getElem hj2)
            have lj := ls ms[j] (List.getElem_mem hj2)
            refine ⟨tl, _, _, _, rfl, rfl, SqL.of t1', atI_nat (j := j) (by rw [List.getElem?_map, List.getElem?_eq_getElem hj1]; rfl), ?_⟩
            (repeat array_get_dec)
            refine ⟨ts'[j], _, 0, _, rfl, rfl, SqT.of hu, atI_nat (j := 0) rfl, ?_⟩
            (repeat array_get_dec)
            refine ⟨by show 2 ≤ sizeLine; decide, fun u9 hu9 => ?_⟩
            have S10 := S9.same (Same.upd (o := .tup [.str ms[j].1, .str e1]) hu9)
            have g10 : (upd H9 u9 (.tup [.str ms[j].1, .str e1])) u9 = some (pairV (ms[j].1, e1)) := upd_same
            generalize upd H9 u9 _ = H10 at S10 g10 ⊢
            obtain ⟨ts2, array_get_dec', w2', w3'⟩ := id S10.pr
            (repeat array_get_dec)
            refine ⟨tl, _, _, rfl, rfl, array_get_dec', by rw [List.length_map]; omega, ?_⟩
            have S11 := S10.put (ts := ts2 ++ [u9]) (ms' := ms ++ [(ms[j].1, e1)]) (by rw [List.length_append, List.length_append, w2']; rfl) (pairs_snoc w2' w3' g10)
            rw [List.map_append] at S11
            exact hj _ _ ⟨ms ++ [(ms[j].1, e1)], rfl, S11, by rw [List.length_append]; show _ + 1 ≤ _; omega, ls.snoc lj.1 le1⟩
          · (repeat array_get_dec)
            exact hj _ _ ⟨ms, rfl, S.mono (by omega), by omega, ls⟩
        · (repeat array_get_dec)
          exact hj _ _ ⟨ms, rfl, S.mono (by omega), by omega, ls⟩
      clear S lm ls
      rintro σ2 H9 ⟨ms, rfl, S, lm, ls⟩
      (repeat array_get_dec)
      refine ⟨by show 3 ≤ sizeLine; decide, fun z hz => ?_⟩
      have S1 := S.same (Same.upd (o := .tup [.str t1, .str e1, .ref tl]) hz)
      exact k _ z t1 e1 tl ms (fun c' o n1 h => S1.kp c' o n1 (ne_of_none h ftl) h) (S1.ao.mono (by omega)) ftl upd_same S1.pr lt1 (by omega) ⟨by omega, fun m hm => ⟨Nat.le_trans (ls m hm).1 (by decide), Nat.le_trans (ls m hm).2 (by decide)⟩⟩
end
end K19

namespace K19
open PySem PySem.Spec PyProof.Rows L2
/-! ### the law's list of kinds, while it grows -/
def KTl (H : Hp) (lk : Addr) (ks : List KD) : Prop := ∃ us : List Addr, H lk = some (.lst (us.map .ref)) ∧ us.length = ks.length ∧ ∀ (i : Nat) u k, us[i]? = some u → ks[i]? = some k → ∃ l, l ≠ lk ∧ H u = some (.tup [.str k.1, .str k.2.1, .ref l]) ∧ PairsAt H l k.2.2
theorem KTl.tups {H : Hp} {lk : Addr} {ks : List KD} (h : KTl H lk ks) : KTups H lk ks := by
  obtain ⟨us, h1, h2, h3⟩ := h
  exact ⟨us, h1, h2, fun i u k x y => let ⟨l, _, a, b⟩ := h3 i u k x y; ⟨l, a, b⟩⟩
theorem KTl.kb {H H' : Hp} {q lk : Addr} {c : Nat} {ks : List KD} (h : KTl H lk ks) (ao : AtOk H q c) (k : KB q H H') : KTl H' lk ks := by
  obtain ⟨us, h1, h2, h3⟩ := h
  refine ⟨us, k _ _ (at_ne ao h1 refs_ne) h1, h2, fun i u kd x y => ?_⟩
  obtain ⟨l, n, a, b⟩ := h3 i u kd x y
  exact ⟨l, n, k _ _ (at_ne ao a (fun _ _ z => by cases z)) a, b.kb ao k⟩
theorem KTl.put {H : Hp} {lk : Addr} {ks : List KD} {u l : Addr} {kd : KD} {us : List Addr} (hus : H lk = some (.lst (us.map .ref))) (h2 : us.length = ks.length)
    (h3 : ∀ (i : Nat) u k, us[i]? = some u → ks[i]? = some k → ∃ l, l ≠ lk ∧ H u = some (.tup [.str k.1, .str k.2.1, .ref l]) ∧ PairsAt H l k.2.2) (hl : l ≠ lk) (hu : H u = some (.tup [.str kd.1, .str kd.2.1, .ref l])) (hp : PairsAt H l kd.2.2) :
    KTl (upd H lk (.lst ((us ++ [u]).map .ref))) lk (ks ++ [kd]) := by
  have keep : ∀ (o : HO) {u l : Addr} {k : KD}, l ≠ lk → H u = some (.tup [.str k.1, .str k.2.1, .ref l]) → PairsAt H l k.2.2 → ∃ l, l ≠ lk ∧ (upd H lk o) u = some (.tup [.str k.1, .str k.2.1, .ref l]) ∧ PairsAt (upd H lk o) l k.2.2 := fun o u l k n a b => by
    obtain ⟨ts, t1, t2, t3⟩ := b
    refine ⟨l, n, by rw [upd_ne (ne_of a hus (by intro z; cases z))]; exact a, ts, by rw [upd_ne n]; exact t1, t2, fun i t m x y => ?_⟩
    have z := t3 i t m x y
    rw [upd_ne (ne_of z hus (by intro z; cases z))]
    exact z
  refine ⟨us ++ [u], upd_same, by rw [List.length_append, List.length_append, h2]; rfl, fun i v k x y => ?_⟩
  rcases Nat.lt_trichotomy i us.length with z | z | z
  · rw [List.getElem?_append_left z] at x
    rw [List.getElem?_append_left (by omega)] at y
    obtain ⟨l', n', a', b'⟩ := h3 i v k x y
    exact keep _ n' a' b'
  · subst z
    rw [List.getElem?_append_right (Nat.le_refl _), Nat.sub_self] at x
    rw [h2, List.getElem?_append_right (Nat.le_refl _), Nat.sub_self] at y
    cases x; cases y
    exact keep _ hl hu hp
  · rw [List.getElem?_eq_none (by simp; omega)] at x; cases x
/-- while the kinds are drawn -/
structure St3 (K : PySem.W.Frag) (a : Ad) (H0 H : Hp) (p q l lk : Addr) (ns : List Int) (ws : List Str) (c : Nat) (ks : List KD) : Prop where
  kp : ∀ c' o, c' ≠ q → c' ≠ lk → H0 c' = some o → H c' = some o
  sc : Scr K q H p ns
  np : p = lk → ∀ H', SqL K H' p (ns.map .int)
  nq : lk ≠ q
  nl : l ≠ lk
  ao : AtOk H q c
  wd : Words H l ws
  kt : KTl H lk ks
  t2 : Tabs2 a H
  t3 : Tabs3 a H
  ti : H a.tTI = some (Tb a.tTI)
theorem tab_kb {H H' : Hp} {q t : Addr} {c : Nat} (ao : AtOk H q c) (k : KB q H H') (h : H t = some (Tb t)) : H' t = some (Tb t) := k _ _ (at_ne ao h (fun _ _ z => by cases z)) h
section
variable {K : PySem.W.Frag} {a : Ad} {H0 H H' : Hp} {p q l lk : Addr} {ns : List Int} {ws : List Str} {c : Nat} {ks : List KD}
theorem St3.next {d : Nat} (S : St3 K a H0 H p q l lk ns ws c ks) (kb : KB q H H') (ao : AtOk H' q d) : St3 K a H0 H' p q l lk ns ws d ks :=
  ⟨fun c' o n1 n2 h => kb _ _ n1 (S.kp c' o n1 n2 h), S.sc.kb kb, S.np, S.nq, S.nl, ao, S.wd.kb S.ao kb, S.kt.kb S.ao kb, ⟨tab_kb S.ao kb S.t2.1, tab_kb S.ao kb S.t2.2⟩, ⟨tab_kb S.ao kb S.t3.1, tab_kb S.ao kb S.t3.2.1, tab_kb S.ao kb S.t3.2.2⟩, tab_kb S.ao kb S.ti⟩
theorem St3.same (S : St3 K a H0 H p q l lk ns ws c ks) (s : Same H H') : St3 K a H0 H' p q l lk ns ws c ks := S.next (.of s) (S.ao.same s)
theorem St3.mono {d : Nat} (S : St3 K a H0 H p q l lk ns ws c ks) (h : c ≤ d) : St3 K a H0 H p q l lk ns ws d ks := { S with ao := S.ao.mono h }
end
end K19

namespace L2
open PySem PySem.Spec PyProof.Rows
theorem call_list_ofK {X : Cx} (K : PySem.W.Frag) (hK : X.K = K := by rfl) : CallR X (.type "list") (fun xs H Q => ∃ p ys, xs = [.ref p] ∧ (SqL K H p ys ∨ SqT K H p ys) ∧ ∀ l, H l = none → Q (.ref l) (upd H l (.lst ys))) := by subst hK; exact call_list_of
end L2
namespace K19
open PySem PySem.Spec PyProof.Rows L2
theorem St3.put {K : PySem.W.Frag} {a : Ad} {H0 H : Hp} {p q l lk : Addr} {ns : List Int} {ws : List Str} {c : Nat} {ks : List KD} {us : List Addr} {u tl : Addr} {kd : KD} (S : St3 K a H0 H p q l lk ns ws c ks) (hus : H lk = some (.lst (us.map .ref))) (h2 : us.length = ks.length)
    (h3 : ∀ (i : Nat) u k, us[i]? = some u → ks[i]? = some k → ∃ l, l ≠ lk ∧ H u = some (.tup [.str k.1, .str k.2.1, .ref l]) ∧ PairsAt H l k.2.2) (hl : tl ≠ lk) (hu : H u = some (.tup [.str kd.1, .str kd.2.1, .ref tl])) (hp : PairsAt H tl kd.2.2) :
    St3 K a H0 (upd H lk (.lst ((us ++ [u]).map .ref))) p q l lk ns ws c (ks ++ [kd]) := by
  have tt : ∀ {t : Addr}, H t = some (Tb t) → (upd H lk (.lst ((us ++ [u]).map .ref))) t = some (Tb t) := fun h => by rw [upd_ne (ne_of h hus (by intro z; cases z))]; exact h
  refine ⟨fun c' o n1 n2 e => by rw [upd_ne n2]; exact S.kp c' o n1 n2 e, ⟨?_, S.sc.2⟩, S.np, S.nq, S.nl, ?_, ⟨by rw [upd_ne S.nl]; exact S.wd.1, S.wd.2⟩, KTl.put hus h2 h3 hl hu hp, ⟨tt S.t2.1, tt S.t2.2⟩, ⟨tt S.t3.1, tt S.t3.2.1, tt S.t3.2.2⟩, tt S.ti⟩
  · by_cases e : p = lk
    · exact S.np e _
    · rcases S.sc.1 with (z | ⟨o, z⟩) | z
      · exact .inl (.inl (by rw [upd_ne e]; exact z))
      · exact .inl (.inr ⟨o, by rw [upd_ne e]; exact z⟩)
      · exact .inr z
  · obtain ⟨i, n, hq, x⟩ := S.ao.ob
    exact ⟨i, n, by rw [upd_ne (Ne.symm S.nq)]; exact hq, x⟩
/-- a kind whose list of turns is not D -/
def KindOff (a : Ad) (D : Addr) (H : Hp) (u : Addr) (k : KD) : Prop := ∃ n, n ≠ D ∧ KindAt a H u k.1 k.2.1 n ∧ PairsAt H n k.2.2
theorem KindOff.same {a : Ad} {D u : Addr} {H H' : Hp} {k : KD} (h : KindOff a D H u k) (s : Same H H') : KindOff a D H' u k := by
  obtain ⟨n, h1, h2, h3⟩ := h
  exact ⟨n, h1, h2.same s, h3.same s⟩
theorem KindOff.put {a : Ad} {D u : Addr} {H : Hp} {k : KD} {xs : List V} {o : HO} (h : KindOff a D H u k) (hD : H D = some (.lst xs)) : KindOff a D (upd H D o) u k := by
  obtain ⟨n, h1, h2, ts, t1, t2, t3⟩ := h
  obtain ⟨dx, fs, r1, r2⟩ := h2.ob
  refine ⟨n, h1, ⟨dx, fs, by rw [upd_ne (ne_of r1 hD (by intro z; cases z))]; exact r1, r2⟩, ts, by rw [upd_ne h1]; exact t1, t2, fun i t m x y => ?_⟩
  have z := t3 i t m x y
  rw [upd_ne (ne_of z hD (by intro z; cases z))]
  exact z
theorem mono3 {σ : L2.St} {x y z : Option V} : ∀ (j : Nat) v, (tau 3 [] σ)[j]? = some (some v) → ([x, y, z] : L2.St)[j]? = some (some v) := fun j v h => by
  match j, h with
  | 0, h => cases h
  | 1, h => cases h
  | 2, h => cases h
  | j + 3, h => cases h
theorem KindFull.kb {a : Ad} {H H' : Hp} {q u : Addr} {c : Nat} {k : KD} (h : KindFull a H u k) (ao : AtOk H q c) (kb : KB q H H') : KindFull a H' u k := by
  obtain ⟨n, h1, h2⟩ := h
  obtain ⟨dx, fs, r1, r2⟩ := h1.ob
  exact ⟨n, ⟨dx, fs, kb _ _ (at_ne ao r1 (fun _ _ z => by cases z)) r1, r2⟩, h2.kb ao kb⟩
theorem TongAt.kb {a : Ad} {H H' : Hp} {q x : Addr} {c : Nat} {ks : List KD} (R : TongAt a H x 0 [] [] ks) (ao : AtOk H q c) (kb : KB q H H') : TongAt a H' x 0 [] [] ks := by
  obtain ⟨dx, fs, r, m, n, h1, h2, h3, ⟨ts, t1, t2, t3⟩, us, u1, u2, u3⟩ := R.ob
  exact ⟨dx, fs, r, m, n, kb _ _ (at_ne ao h1 (fun _ _ z => by cases z)) h1, h2, kb _ _ (at_ne ao h3 (fun _ _ z => by cases z)) h3, ⟨ts, kb _ _ (at_ne ao t1 refs_ne) t1, t2, fun i t m' x y => by cases y⟩, us, kb _ _ (at_ne ao u1 refs_ne) u1, u2, fun i u k x y => (u3 i u k x y).kb ao kb⟩
theorem kindAt_none {ks : List KD} {t : Str} : kindAt ks t = none ↔ t ∉ ks.map (·.1) := by
  unfold kindAt
  rw [List.find?_eq_none]
  constructor
  · intro h z
    obtain ⟨k, hk, e⟩ := List.mem_map.mp z
    exact h k hk (decide_eq_true e)
  · intro h k hk z
    exact h (List.mem_map.mpr ⟨k, hk, of_decide_eq_true z⟩)
/-- the kinds that the law keeps -/
structure Kept (ks : List KD) : Prop where
  ok : ∀ k ∈ ks, kindOk k.1 k.2.1 k.2.2 = true ∧ k.1.length ≤ 1000 ∧ k.2.1.length ≤ 1000 ∧ Short k.2.2
  nd : (ks.map (·.1)).Nodup
  len : ks.length ≤ 4
section
variable {P : Program} {w : World} {K : PySem.W.Frag} {mg : Str → Option Value} {base : Heap} {a : Ad}
/-! ### law -/
abbrev DLaw (K : PySem.W.Frag) (mg : Str → Option Value) := Df K mg "law" "law" (top 51) ["_law_script"]
def spLaw (K : PySem.W.Frag) (a : Ad) : Sp := fun vs H Q _ => ∃ (p : Addr) (ns : List Int), vs = [.ref p] ∧ SqL K H p (ns.map .int) ∧ ns.length ≤ 63 ∧ Tabs2 a H ∧ Tabs3 a H ∧ H a.tTI = some (Tb a.tTI) ∧ ∀ H', Same H H' → Q (.bl true) H'
abbrev nLaw : List Str := ["_law_script", "_law_at", "_law_words_here", "_law_kinds", "_law_k", "_law_title", "_law_ending", "_law_turns", "_law_tongue", "_law_titles", "_law_row_here", "_law_due"]
theorem scLaw : FnScope nLaw ["_law_script"] (defScope (top 51)) := ⟨rfl, rfl, rfl, by decide +kernel, rfl, by decide +kernel, by decide +kernel⟩
structure Gs (P : Program) (w : World) (K : PySem.W.Frag) (mg : Str → Option Value) (base : Heap) (a : Ad) where
  D__law_begin : DBegin K mg
  G__law_begin : FnOk P w K mg base CX0 1 D__law_begin.f D__law_begin.fd ["_law_script"] (spBegin K)
  D__law_next : DNext K mg
  G__law_next : FnOk P w K mg base CX0 1 D__law_next.f D__law_next.fd ["_law_script", "_law_at"] (spNext K)
  D__law_words : DWords K mg
  G__law_words : FnOk P w K mg base CX0 2 D__law_words.f D__law_words.fd ["_law_script", "_law_at", "_law_many"] (spWords K)
  D__law_drawn_kind : DDK K mg
  G__law_drawn_kind : FnOk P w K mg base CX0 3 D__law_drawn_kind.f D__law_drawn_kind.fd ["_law_script", "_law_at", "_law_words_here"] (spDK K)
  D__law_made_right : DMR K mg
  G__law_made_right : FnOk P w K mg base CX0 10 D__law_made_right.f D__law_made_right.fd ["_law_title", "_law_ending", "_law_turns"] (spMR a)
  D__law_is_kind : DIK K mg
  G__law_is_kind : FnOk P w K mg base CX0 2 D__law_is_kind.f D__law_is_kind.fd ["_law_title", "_law_ending", "_law_turns"] spIK
  D_Kind : DKI K
  M_Kind : Mk K a.Kind D_Kind.f
  G_Kind : FnOk P w K mg base (CXE P w) 7 D_Kind.f D_Kind.fd pKI (spKI a)
  D_Tongue : DTong K
  M_Tongue : Mk K a.Tongue D_Tongue.f
  bdT : Binds K D_Tongue.fd pTI []
  G_Tongue : FnOk P w K mg base CX0 6 D_Tongue.f D_Tongue.fd pTI (spTong a)
  D__law_row : DLR K mg
  G__law_row : FnOk P w K mg base CX0 2 D__law_row.f D__law_row.fd ["_law_script", "_law_at", "_law_words_here", "_law_many"] (spLR K)
  D__law_row_told : DRT K mg
  G__law_row_told : FnOk P w K mg base CX0 8 D__law_row_told.f D__law_row_told.fd ["_law_tongue", "_law_title", "_law_row_here", "_law_kinds"] (spRT a)
  D__law_bad_row : DLB K mg
  G__law_bad_row : FnOk P w K mg base CX0 2 D__law_bad_row.f D__law_bad_row.fd ["_law_script", "_law_at", "_law_row_here"] (spLB K)
  D__law_row_refused : DRR K mg
  G__law_row_refused : FnOk P w K mg base CX0 8 D__law_row_refused.f D__law_row_refused.fd ["_law_tongue", "_law_title", "_law_row_here", "_law_due"] (spRR a)
theorem ok_law (D : DLaw K mg) (g : Gs P w K mg base a) (T : Txt K mg a) : FnOk P w K mg base CX0 12 D.f D.fd ["_law_script"] (spLaw K a) := by
  obtain ⟨D__law_begin, G__law_begin, D__law_next, G__law_next, D__law_words, G__law_words, D__law_drawn_kind, G__law_drawn_kind, D__law_made_right, G__law_made_right, D__law_is_kind, G__law_is_kind, D_Kind, M_Kind, G_Kind, D_Tongue, M_Tongue, bdT, G_Tongue, D__law_row, G__law_row, D__law_row_told, G__law_row_told, D__law_bad_row, G__law_bad_row, D__law_row_refused, G__law_row_refused⟩ := g
  refine Df.ok (k := 11) D.ex scLaw (fun vs H Q E h => ?_) (fun A outer s H vs Q E hr h => ?_)
  · obtain ⟨p, ns, rfl, _⟩ := h; rfl
  · obtain ⟨p, ns, rfl, hp, hlen, tb2, tb3, tti, k⟩ := h
    have nd := scLaw.nd
    have hh : A.handled = none := hr.hd
    have hu := Nat.lt_of_succ_lt (hu_of hr)
    have line : 2000 < sizeLine := by decide
    refine ⟨_, (pss_cons (ps_set (i := 1) nd rfl (Or.inl rfl) (pe_call G__law_begin (hr.mono (by decide)) (by rfl) D__law_begin.mg D__law_begin.kp D__law_begin.bd .nil pass0 (pa_c (pv 0) pa_nil)))
 (pss_cons (ps_set (i := 2) nd rfl (Or.inl rfl) (pe_call G__law_words (hr.mono (by decide)) (by rfl) D__law_words.mg D__law_words.kp D__law_words.bd .nil pass0 (pa_c (pv 0) (pa_c (pv 1) (pa_c pe_int pa_nil)))))
 (pss_cons (ps_set (i := 3) nd rfl (Or.inl rfl) (pe_lst pa_nil))
 (pss_cons (ps_for PassesOwn.never rfl (pi_range1 (by rfl) T.b_range (pa_c pe_int pa_nil)) (pg_name (i := 4) (show List.Nodup (["_law_script", "_law_at", "_law_words_here", "_law_kinds", "_law_k", "_law_title", "_law_ending", "_law_turns", "_law_tongue", "_law_titles", "_law_row_here", "_law_due"] : List Str) from by decide +kernel) rfl (Or.inl rfl))
 (pss_cons (ps_asg (pe_call G__law_drawn_kind (hr.mono (by decide)) (by rfl) D__law_drawn_kind.mg D__law_drawn_kind.kp D__law_drawn_kind.bd .nil pass0 (pa_c (pv 0) (pa_c (pv 1) (pa_c (pv 2) pa_nil)))) (pg_tup (n := 3) rfl (pgs_cons (pg_name (i := 5) (show List.Nodup (["_law_script", "_law_at", "_law_words_here", "_law_kinds", "_law_k", "_law_title", "_law_ending", "_law_turns", "_law_tongue", "_law_titles", "_law_row_here", "_law_due"] : List Str) from by decide +kernel) rfl (Or.inl rfl)) (pgs_cons (pg_name (i := 6) (show List.Nodup (["_law_script", "_law_at", "_law_words_here", "_law_kinds", "_law_k", "_law_title", "_law_ending", "_law_turns", "_law_tongue", "_law_titles", "_law_row_here", "_law_due"] : List Str) from by decide +kernel) rfl (Or.inl rfl)) (pgs_cons (pg_name (i := 7) (show List.Nodup (["_law_script", "_law_at", "_law_words_here", "_law_kinds", "_law_k", "_law_title", "_law_ending", "_law_turns", "_law_tongue", "_law_titles", "_law_row_here", "_law_due"] : List Str) from by decide +kernel) rfl (Or.inl rfl)) pgs_nil)))))
 (pss_cons (ps_if (pt_not (pt_val (pe_call G__law_made_right (hr.mono (by decide)) (by rfl) D__law_made_right.mg D__law_made_right.kp D__law_made_right.bd .nil pass0 (pa_c (pv 5) (pa_c (pv 6) (pa_c (pv 7) pa_nil))))))
 (pss_one (ps_ret pe_bl))
 pss_nil)
 (pss_one (ps_if (pw_and (pt_val (pe_call G__law_is_kind (hr.mono (by decide)) (by rfl) D__law_is_kind.mg D__law_is_kind.kp D__law_is_kind.bd .nil pass0 (pa_c (pv 5) (pa_c (pv 6) (pa_c (pv 7) pa_nil))))) (pw_and (pt_cmpR op_lt (pe_callB call_len_seq (by rfl) T.b_len boot_len (pa_c (pv 3) pa_nil)) pe_int (nomark _)) (pw_and1 (pt_cmpR op_notIn_seq (pv 5) (pe_lc (N := ["_law_kind"]) (fs := []) (⟨rfl, by rfl, by rfl, by rfl, trivial⟩) rfl (pi_list (pv 3)) (fun _ _ _ _ _ => (pg_name (i := 0) (show List.Nodup (["_law_kind"] : List Str) from by decide +kernel) rfl (Or.inl rfl))) (fun _ _ _ _ _ => by exact pts_nil) (fun _ _ _ _ _ => by exact (pe_ix (ix_tupK K) (pv 0) pe_int (fun _ _ => rfl)))) (by with_unfolding_all rfl))))).pt
 (pss_one (ps_expr (pe_bm PySem.F.plainAttrs_list PySem.F.slot_list_append PySem.F.type_list_append mt_append (pv 3) (pa_c (pe_tup (pa_c (pv 5) (pa_c (pv 6) (pa_c (pv 7) pa_nil)))) pa_nil))))
 pss_nil)))))
 (pss_cons (ps_set (i := 8) nd rfl (Or.inl rfl) (pe_make M_Tongue G_Tongue (hr.mono (by decide)) (by rfl) T.c_Tongue bdT .nil pass0 (pa_c pe_int (pa_c (pe_lst pa_nil) (pa_c (pe_lst pa_nil) (pa_c (pe_lc (N := ["_law_title", "_law_ending", "_law_turns"]) (fs := []) (⟨rfl, by rfl, by rfl, by rfl, trivial⟩) rfl (pi_list (pv 3)) (fun _ _ _ _ _ => (pg_tupK K (n := 3) rfl (pgs_cons (pg_name (i := 0) (show List.Nodup (["_law_title", "_law_ending", "_law_turns"] : List Str) from by decide +kernel) rfl (Or.inl rfl)) (pgs_cons (pg_name (i := 1) (show List.Nodup (["_law_title", "_law_ending", "_law_turns"] : List Str) from by decide +kernel) rfl (Or.inl rfl)) (pgs_cons (pg_name (i := 2) (show List.Nodup (["_law_title", "_law_ending", "_law_turns"] : List Str) from by decide +kernel) rfl (Or.inl rfl)) pgs_nil))))) (fun _ _ _ _ _ => by exact pts_nil) (fun _ _ _ _ _ => by exact (pe_make M_Kind G_Kind (hr.mono (by decide)) (by rfl) T.c_Kind D_Kind.bd .nil passN (pa_c (pv 0) (pa_c (pv 1) (pa_c (pe_callTy (call_list_ofK K) (by rfl) T.b_list boot_list (pa_c (pv 2) pa_nil)) pa_nil)))))) pa_nil))))))
 (pss_cons (ps_set (i := 9) nd rfl (Or.inl rfl) (pe_op op_cat (pe_lc (N := ["_law_kind"]) (fs := []) (⟨rfl, by rfl, by rfl, by rfl, trivial⟩) rfl (pi_list (pv 3)) (fun _ _ _ _ _ => (pg_name (i := 0) (show List.Nodup (["_law_kind"] : List Str) from by decide +kernel) rfl (Or.inl rfl))) (fun _ _ _ _ _ => by exact pts_nil) (fun _ _ _ _ _ => by exact (pe_ix (ix_tupK K) (pv 0) pe_int (fun _ _ => rfl)))) (pe_lst (pa_c pe_str (pa_c pe_str pa_nil)))))
 (pss_cons (ps_for PassesOwn.never rfl (pi_range1 (by rfl) T.b_range (pa_c pe_int pa_nil)) (pg_name (i := 4) (show List.Nodup (["_law_script", "_law_at", "_law_words_here", "_law_kinds", "_law_k", "_law_title", "_law_ending", "_law_turns", "_law_tongue", "_law_titles", "_law_row_here", "_law_due"] : List Str) from by decide +kernel) rfl (Or.inl rfl))
 (pss_cons (ps_set (i := 10) nd rfl (Or.inl rfl) (pe_call G__law_row (hr.mono (by decide)) (by rfl) D__law_row.mg D__law_row.kp D__law_row.bd .nil pass0 (pa_c (pv 0) (pa_c (pv 1) (pa_c (pv 2) (pa_c (pe_ix ix_list (pe_lst (pa_c pe_int (pa_c pe_int (pa_c (pe_op op_add pe_int (pe_op op_mod (pe_call G__law_next (hr.mono (by decide)) (by rfl) D__law_next.mg D__law_next.kp D__law_next.bd .nil pass0 (pa_c (pv 0) (pa_c (pv 1) pa_nil))) pe_int)) (pa_c pe_int pa_nil))))) (pe_op op_mod (pv 4) pe_int) (fun _ _ => rfl)) pa_nil))))))
 (pss_cons (ps_set (i := 5) nd rfl (Or.inl rfl) (pe_ix ix_list (pv 9) (pe_op op_mod (pe_call G__law_next (hr.mono (by decide)) (by rfl) D__law_next.mg D__law_next.kp D__law_next.bd .nil pass0 (pa_c (pv 0) (pa_c (pv 1) pa_nil))) (pe_callB call_len_seq (by rfl) T.b_len boot_len (pa_c (pv 9) pa_nil))) (fun _ _ => rfl)))
 (pss_cons (ps_if (pt_not (pt_val (pe_call G__law_row_told (hr.mono (by decide)) (by rfl) D__law_row_told.mg D__law_row_told.kp D__law_row_told.bd .nil pass0 (pa_c (pv 8) (pa_c (pv 5) (pa_c (pv 10) (pa_c (pv 3) pa_nil)))))))
 (pss_one (ps_ret pe_bl))
 pss_nil)
 (pss_cons (ps_set (i := 11) nd rfl (Or.inl rfl) (pe_ix ix_list (pe_lst (pa_c pe_str (pa_c pe_str pa_nil))) (pe_callTy call_intB (by rfl) T.b_int (by decide +kernel) (pa_c (pe_cmpR op_in_seq (pv 5) (pe_lc (N := ["_law_kind"]) (fs := []) (⟨rfl, by rfl, by rfl, by rfl, trivial⟩) rfl (pi_list (pv 3)) (fun _ _ _ _ _ => (pg_name (i := 0) (show List.Nodup (["_law_kind"] : List Str) from by decide +kernel) rfl (Or.inl rfl))) (fun _ _ _ _ _ => by exact pts_nil) (fun _ _ _ _ _ => by exact (pe_ix (ix_tupK K) (pv 0) pe_int (fun _ _ => rfl)))) (by with_unfolding_all rfl)) pa_nil)) (fun _ _ => rfl)))
 (pss_one (ps_if (pt_not (pt_val (pe_call G__law_row_refused (hr.mono (by decide)) (by rfl) D__law_row_refused.mg D__law_row_refused.kp D__law_row_refused.bd .nil pass0 (pa_c (pv 8) (pa_c (pv 5) (pa_c (pe_call G__law_bad_row (hr.mono (by decide)) (by rfl) D__law_bad_row.mg D__law_bad_row.kp D__law_bad_row.bd .nil pass0 (pa_c (pv 0) (pa_c (pv 1) (pa_c (pv 10) pa_nil)))) (pa_c (pv 11) pa_nil)))))))
 (pss_one (ps_ret pe_bl))
 pss_nil)))))))
 (pss_one (ps_ret pe_bl))))))))), ?_⟩
    (repeat array_get_dec)
    refine ⟨p, ns, rfl, hp, fun q hq n n0 n1 => ?_⟩
    have s1 : Same H (upd H q (.lst [.int 0, .int n])) := Same.upd hq
    have sc1 : Scr K q (upd H q (.lst [.int 0, .int n])) p ns := Scr.of hp hq s1
    have ao1 : AtOk (upd H q (.lst [.int 0, .int n])) q 0 := ⟨0, n, upd_same, by omega, by omega, n0, n1⟩
    have fin : ∀ H', KB q (upd H q (.lst [.int 0, .int n])) H' → Same H H' := fun H' kb c o h => kb c o (ne_of_none h hq) (s1 c o h)
    generalize upd H q _ = H1 at s1 sc1 ao1 fin ⊢
    (repeat array_get_dec)
    refine ⟨p, q, ns, 0, 13, rfl, sc1, hlen, ao1, by decide, by decide, by decide, fun H2 l ws hl kb2 ao2 W2 => ?_⟩
    (repeat array_get_dec)
    refine ⟨by show 0 ≤ sizeLine; decide, fun lk hlk => ?_⟩
    have f1 : H1 lk = none := KB.free kb2 ao2 hlk
    have S0 : St3 K a H1 (upd H2 lk (.lst [])) p q l lk ns ws 1 [] := by
      have s3 : Same H2 (upd H2 lk (.lst [])) := Same.upd hlk
      have nq : lk ≠ q := fun e => by obtain ⟨i, j, hq, _⟩ := ao2.ob; rw [e, hq] at hlk; cases hlk
      have tt : ∀ {t : Addr}, H t = some (Tb t) → (upd H2 lk (.lst [])) t = some (Tb t) := fun h => s3 _ _ (tab_kb ao1 kb2 (s1 _ _ h))
      refine ⟨fun c' o a1 a2 h => s3 _ _ (kb2 _ _ a1 h), (sc1.kb kb2).kb (.of s3), fun e H' => ?_, nq, ne_of_none W2.1 hlk, ao2.same s3, W2.kb ao2 (.of s3), ⟨[], upd_same, rfl, fun i t m x => by cases x⟩, ⟨tt tb2.1, tt tb2.2⟩, ⟨tt tb3.1, tt tb3.2.1, tt tb3.2.2⟩, tt tti⟩
      rcases sc1.1 with (z | ⟨o, z⟩) | z
      · rw [e, f1] at z; cases z
      · rw [e, f1] at z; cases z
      · exact .inr z
    generalize upd H2 lk _ = H3 at S0 ⊢
    have fin' : ∀ {H4 c ks}, St3 K a H1 H4 p q l lk ns ws c ks → Same H H4 := fun S c' o h => S.kp c' o (ne_of_none h hq) (ne_of_none (s1 _ _ h) f1) (s1 _ _ h)
    (repeat array_get_dec)
    refine ⟨_, rfl, by omega, by omega, ?_⟩
    refine forR (fun i σ H4 => ∃ v4 v5 v6 v7 ks, σ = [some (V.ref p), some (V.ref q), some (V.ref l), some (V.ref lk), v4, v5, v6, v7, none, none, none, none] ∧ St3 K a H1 H4 p q l lk ns ws (1 + 50 * i) ks ∧ Kept ks) ⟨none, none, none, none, [], rfl, S0, ⟨fun _ h => (nomatch h), List.nodup_nil, by decide⟩⟩ ?_ ?_
    · rintro i σ H4 hi ⟨v4, v5, v6, v7, ks, rfl, S, kp⟩
      have hi : i < 6 := by omega
      (repeat array_get_dec)
      refine ⟨p, q, l, ns, _, ws, rfl, S.sc, hlen, S.ao, by omega, S.wd, fun H5 z t e tl ms kb5 ao5 ftl gz pr lt le sh => ?_⟩
      have S5 := S.next kb5 ao5
      obtain ⟨us0, k10, _⟩ := id S.kt
      have ntl : tl ≠ lk := fun e => by rw [e, k10] at ftl; cases ftl
      refine w_gTup' (SqT.of gz) rfl ?_
      refine ⟨_, _, rfl, _, _, rfl, _, _, rfl, rfl, ?_⟩
      show tSeq _ _ _ [some (V.ref p), some (V.ref q), some (V.ref l), some (V.ref lk), some (V.int (0 + i)), some (V.str t), some (V.str e), some (V.ref tl), none, none, none, none] H5
      (repeat array_get_dec)
      refine ⟨t, e, tl, ms, rfl, pr, lt, le, sh, S5.t2, fun H6 s6 => ?_⟩
      have S6 := S5.same s6
      (repeat array_get_dec)
      refine ⟨t, e, tl, ms, rfl, lt, le, pr.same s6, sh, fun H7 s7 => ?_⟩
      have S7 := S6.same s7
      have pr7 := (pr.same s6).same s7
      clear S S5 S6 pr k10
      (repeat array_get_dec)
      refine w_ite (fun zk => ?_) (fun _ => ?_)
      · (repeat array_get_dec)
        obtain ⟨us, k1, k2, k3⟩ := id S7.kt
        refine ⟨lk, _, rfl, .inl (SqL.of k1), ?_⟩
        (repeat array_get_dec)
        refine w_ite (fun zl => ?_) (fun _ => ?_)
        · have lk4 : ks.length < 4 := by rw [decide_eq_true_eq, List.length_map] at zl; omega
          (repeat array_get_dec)
          refine ⟨lk, rfl, ⟨_, SqL.of k1⟩, lcG (fun n zs => zs = ((ks.take n).map (·.1)).map V.str) (tells_l (SqL.of k1)) (by rw [List.length_map]; omega) rfl (fun D8 j zs H8 hj hD8 s8 e8 r8 => ?_) (fun D8 H8 zs hD8 s8 e8 r8 => ?_)⟩
          · rw [List.length_map] at hj
            have hj' : j < ks.length := by omega
            have ej : (us.map V.ref).getD j .non = V.ref us[j] := by simp [List.getD_eq_getElem?_getD, hj]
            obtain ⟨lj, _, ht, _⟩ := k3 j us[j] ks[j] (List.getElem?_eq_getElem hj) (List.getElem?_eq_getElem hj')
            rw [ej]
            (repeat array_get_dec)
            refine ⟨mono0 rfl, ?_⟩
            (repeat array_get_dec)
            refine ⟨us[j], _, 0, _, rfl, rfl, SqT.of (s8 _ _ ht), atI_nat (j := 0) rfl, ?_⟩
            exact lcFin hD8 s8 e8 (Same.refl _) (by rw [r8, List.take_succ, List.getElem?_eq_getElem hj', List.map_append, List.map_append]; rfl)
          · have r8 : zs = (ks.map (·.1)).map V.str := by rw [r8, List.length_map, k2, List.take_of_length_le (Nat.le_refl _)]
            subst r8
            have S8 := S7.same s8
            (repeat array_get_dec)
            refine ⟨D8, _, rfl, .inl (SqL.of e8), rfl, flat_strs _, ?_⟩
            rw [if_pos rfl, inV_strs]
            (repeat array_get_dec)
            refine w_ite (fun zn => ?_) (fun _ => ?_)
            · have nin : t ∉ ks.map (·.1) := by simpa using zn
              (repeat array_get_dec)
              obtain ⟨us, k1, k2, k3⟩ := id S8.kt
              refine ⟨.inl ⟨rfl, _, SqL.of k1⟩, ?_⟩
              (repeat array_get_dec)
              refine ⟨by show 3 ≤ sizeLine; decide, fun u9 hu9 => ?_⟩
              have s9 : Same H8 _ := Same.upd (o := .tup [.str t, .str e, .ref tl]) hu9
              have S9 := S8.same s9
              have gu : (upd H8 u9 (.tup [.str t, .str e, .ref tl])) u9 = some (.tup [.str t, .str e, .ref tl]) := upd_same
              have pr9 := (pr7.same s8).same s9
              generalize upd H8 u9 _ = H9 at S9 gu pr9 ⊢
              clear k1 k2 k3 us
              obtain ⟨us, k1, k2, k3⟩ := id S9.kt
              (repeat array_get_dec)
              refine ⟨lk, _, _, rfl, rfl, k1, by rw [List.length_map]; omega, ?_⟩
              have S10 := S9.put (kd := (t, e, ms)) k1 k2 k3 ntl gu pr9
              rw [List.map_append] at S10
              refine ⟨_, _, _, _, ks ++ [(t, e, ms)], rfl, S10.mono (by omega), ⟨fun x hx => ?_, ?_, by rw [List.length_append]; show _ + 1 ≤ _; omega⟩⟩
              · rcases List.mem_append.mp hx with y | y
                · exact kp.ok x y
                · rw [List.mem_singleton] at y; rw [y]; exact ⟨zk, lt, le, sh⟩
              · rw [List.map_append, List.nodup_append]
                refine ⟨kp.nd, by simp, fun x hx y hy => ?_⟩
                have : y = t := by simpa using hy
                rw [this]; intro e; exact nin (e ▸ hx)
            · (repeat array_get_dec)
              exact ⟨_, _, _, _, ks, rfl, S8.mono (by omega), kp⟩
        · (repeat array_get_dec)
          exact ⟨_, _, _, _, ks, rfl, S7.mono (by omega), kp⟩
      · (repeat array_get_dec)
        exact ⟨_, _, _, _, ks, rfl, S7.mono (by omega), kp⟩
    · rintro σ H4 ⟨v4, v5, v6, v7, ks, rfl, S, kp⟩
      have S : St3 K a H1 H4 p q l lk ns ws 301 ks := S.mono (by omega)
      (repeat array_get_dec)
      refine w_make ?_
      (repeat array_get_dec)
      refine ⟨by show 0 ≤ sizeLine; decide, fun r5 h5 => ?_⟩
      have s5 : Same H4 _ := Same.upd (o := .lst []) h5
      have S5 := S.same s5
      have g5 : (upd H4 r5 (.lst [])) r5 = some (.lst []) := upd_same
      generalize upd H4 r5 _ = H5 at s5 S5 g5 ⊢
      (repeat array_get_dec)
      refine ⟨by show 0 ≤ sizeLine; decide, fun m6 h6 => ?_⟩
      have s6 : Same H5 _ := Same.upd (o := .lst []) h6
      have S6 := S5.same s6
      have g6 : (upd H5 m6 (.lst [])) m6 = some (.lst []) := upd_same
      have g56 := s6 _ _ g5
      generalize upd H5 m6 _ = H6 at s6 S6 g6 g56 ⊢
      obtain ⟨us, k1, k2, k3⟩ := id S6.kt
      have lk4 := kp.len
      (repeat array_get_dec)
      refine ⟨lk, rfl, ⟨_, SqL.of k1⟩, lcH (fun D7 n zs H7 => ∃ ts : List Addr, zs = ts.map V.ref ∧ ts.length = n ∧ ∀ (i : Nat) u k, ts[i]? = some u → ks[i]? = some k → KindOff a D7 H7 u k) (tells_l (SqL.of k1)) (by rw [List.length_map]; omega) (fun D7 hD7 => ⟨[], rfl, rfl, fun i u k x => by cases x⟩) (fun D7 j zs H7 hj hD7 s7 e7 r7 => ?_) (fun D7 H7 zs hD7 s7 e7 r7 => ?_)⟩
      · obtain ⟨ts, rfl, tl7, tk⟩ := r7
        rw [List.length_map] at hj
        have hj' : j < ks.length := by omega
        have ej : (us.map V.ref).getD j .non = V.ref us[j] := by simp [List.getD_eq_getElem?_getD, hj]
        obtain ⟨lj, _, ht, hpj⟩ := k3 j us[j] ks[j] (List.getElem?_eq_getElem hj) (List.getElem?_eq_getElem hj')
        obtain ⟨ok1, ok2, ok3, ok4⟩ := kp.ok ks[j] (List.getElem_mem hj')
        rw [ej]
        refine w_gTup' (SqT.of (s7 _ _ ht)) rfl ?_
        refine ⟨_, _, rfl, _, _, rfl, _, _, rfl, rfl, ?_⟩
        refine ⟨mono3, ?_⟩
        (repeat array_get_dec)
        refine w_make ?_
        (repeat array_get_dec)
        obtain ⟨vs7, p1, p2, p3⟩ := hpj.same s7
        refine ⟨lj, _, rfl, .inl (SqL.of p1), fun l8 h8 => ?_⟩
        have s8 : Same H7 _ := Same.upd (o := .lst (vs7.map .ref)) h8
        have g8 : (upd H7 l8 (.lst (vs7.map .ref))) l8 = some (.lst (vs7.map .ref)) := upd_same
        generalize upd H7 l8 _ = H8 at s8 g8 ⊢
        (repeat array_get_dec)
        intro x dx nx ndx nex
        have s0 : Same H8 (upd (upd H8 dx (.own x)) x (.ins a.Kind dx [])) := fun c' o hc' => by rw [upd_ne (ne_of_none hc' nx), upd_ne (ne_of_none hc' ndx)]; exact hc'
        refine ⟨x, dx, ks[j].1, ks[j].2.1, l8, vs7, ks[j].2.2, rfl, upd_same, s0 _ _ g8, p2, fun i u m x y => s0 _ _ (s8 _ _ (p3 i u m x y)), ok2, ok3, ok4, (((S6.t2.same s7).same s8).same s0), fun H9 n hn kp9 R hn9 => ?_⟩
        rw [if_pos ok1]
        have s79 : Same H7 H9 := fun c' o h => kp9 c' o (s0 _ _ (s8 _ _ h)) (ne_of_none (s8 _ _ h) nx)
        have e9 := s79 _ _ e7
        have nn : n ≠ D7 := fun e => by rw [e, s0 _ _ (s8 _ _ e7)] at hn; cases hn
        have kx : KindOff a D7 H9 x ks[j] := ⟨n, nn, R, vs7, hn9, p2, fun i u m x y => s79 _ _ (p3 i u m x y)⟩
        refine ⟨rfl, e9, fun c' o h => by rw [upd_ne (ne_of_none h hD7)]; exact s79 _ _ (s7 _ _ h), ts ++ [x], by simp, by simp [tl7], fun i u k x' y' => ?_⟩
        rcases Nat.lt_trichotomy i ts.length with z | z | z
        · rw [List.getElem?_append_left z] at x'
          exact ((tk i u k x' y').same s79).put e9
        · subst z
          rw [List.getElem?_append_right (Nat.le_refl _), Nat.sub_self] at x'
          cases x'
          rw [tl7, List.getElem?_eq_getElem hj'] at y'
          cases y'
          exact kx.put e9
        · rw [List.getElem?_eq_none (by simp; omega)] at x'; cases x'
      · obtain ⟨ts, rfl, tl7, tk⟩ := r7
        rw [List.length_map, k2] at tl7
        have S7 := S6.same s7
        have KA : KindsAt a H7 D7 ks := ⟨ts, e7, tl7, fun i u k x y => let ⟨n, _, b, c⟩ := tk i u k x y; ⟨n, b, c⟩⟩
        (repeat array_get_dec)
        intro x dx nx ndx nex
        have s0 : Same H7 (upd (upd H7 dx (.own x)) x (.ins a.Tongue dx [])) := fun c' o hc' => by rw [upd_ne (ne_of_none hc' nx), upd_ne (ne_of_none hc' ndx)]; exact hc'
        refine ⟨x, dx, r5, m6, D7, ks, rfl, upd_same, s0 _ _ (s7 _ _ g56), s0 _ _ (s7 _ _ g6), KA.same s0, kp.nd, by omega, s0 _ _ S7.ti, fun H9 kp9 R9 => ⟨rfl, ?_⟩⟩
        have s79 : Same H7 H9 := fun c' o h => kp9 c' o (s0 _ _ h) (ne_of_none h nx)
        have S9 := S7.same s79
        clear S S5 S6 S7 k1 k3 KA tk s0 kp9 nx ndx nex
        (repeat array_get_dec)
        obtain ⟨us, k1, k2, k3⟩ := id S9.kt
        refine ⟨lk, rfl, ⟨_, SqL.of k1⟩, lcG (fun n zs => zs = ((ks.take n).map (·.1)).map V.str) (tells_l (SqL.of k1)) (by rw [List.length_map]; omega) rfl (fun D8 j zs H8 hj hD8 s8 e8 r8 => ?_) (fun D8 H8 zs hD8 s8 e8 r8 => ?_)⟩
        · rw [List.length_map] at hj
          have hj' : j < ks.length := by omega
          have ej : (us.map V.ref).getD j .non = V.ref us[j] := by simp [List.getD_eq_getElem?_getD, hj]
          obtain ⟨lj, _, ht, _⟩ := k3 j us[j] ks[j] (List.getElem?_eq_getElem hj) (List.getElem?_eq_getElem hj')
          rw [ej]
          (repeat array_get_dec)
          refine ⟨mono0 rfl, ?_⟩
          (repeat array_get_dec)
          refine ⟨us[j], _, 0, _, rfl, rfl, SqT.of (s8 _ _ ht), atI_nat (j := 0) rfl, ?_⟩
          exact lcFin hD8 s8 e8 (Same.refl _) (by rw [r8, List.take_succ, List.getElem?_eq_getElem hj', List.map_append, List.map_append]; rfl)
        have r8 : zs = (ks.map (·.1)).map V.str := by rw [r8, List.length_map, k2, List.take_of_length_le (Nat.le_refl _)]
        subst r8
        have S8 := S9.same s8
        have R8 := R9.same s8
        (repeat array_get_dec)
        refine ⟨by show 2 ≤ sizeLine; decide, fun l10 h10 => ?_⟩
        have s10 : Same H8 _ := Same.upd (o := .lst [.str "zzzzzzz", .str "a"]) h10
        have g10 : (upd H8 l10 (.lst [.str "zzzzzzz", .str "a"])) l10 = some (.lst [.str "zzzzzzz", .str "a"]) := upd_same
        have S10 := S8.same s10
        have R10 := R8.same s10
        generalize upd H8 l10 _ = H10 at s10 g10 S10 R10 ⊢
        refine ⟨D8, l10, _, _, rfl, rfl, s10 _ _ e8, g10, by rw [List.length_map, List.length_map]; show _ + 2 ≤ _; omega, fun l11 h11 => ?_⟩
        have s11 : Same H10 _ := Same.upd (o := .lst ((ks.map (·.1)).map V.str ++ [.str "zzzzzzz", .str "a"])) h11
        have S11 := S10.same s11
        have R11 := R10.same s11
        have g11 : (upd H10 l11 (.lst ((ks.map (·.1)).map V.str ++ [.str "zzzzzzz", .str "a"]))) l11 = some (.lst ((ks.map (·.1) ++ [("zzzzzzz" : Str), "a"]).map V.str)) := by rw [upd_same, List.map_append]; rfl
        generalize upd H10 l11 _ = H11 at s11 S11 R11 g11 ⊢
        generalize hts : ks.map (·.1) ++ [("zzzzzzz" : Str), "a"] = tts at g11
        have tpos : tts ≠ [] := by rw [← hts]; simp
        have tlen : tts.length ≤ 100 := by rw [← hts, List.length_append, List.length_map]; show _ + 2 ≤ _; omega
        have gk : GoodK ks := fun k hk => by
          obtain ⟨o1, _, _, o4⟩ := kp.ok k hk
          unfold kindOk pairsOk at o1
          simp only [Bool.and_eq_true, decide_eq_true_eq] at o1
          exact ⟨o1.2.2.2, o4.1⟩
        clear S9 S8 S10 R9 R8 R10 k1 k3 s10 s11 g10 h10 h11 h5 h6 s5 s6 g5 g6 g56 e8 s8 hD8 e7 hD7 s7 s79
        (repeat array_get_dec)
        refine ⟨_, rfl, by omega, by omega, ?_⟩
        refine forR (fun i σ H4 => ∃ v4 v5 v6 v7 v10 v11, σ = [some (V.ref p), some (V.ref q), some (V.ref l), some (V.ref lk), v4, v5, v6, v7, some (V.ref x), some (V.ref l11), v10, v11] ∧ St3 K a H1 H4 p q l lk ns ws (301 + 103 * i) ks ∧ TongAt a H4 x 0 [] [] ks ∧ H4 l11 = some (.lst (tts.map V.str))) ⟨_, _, _, _, _, _, rfl, S11, R11, g11⟩ ?_ ?_
        · rintro i σ H4 hi ⟨v4, v5, v6, v7, v10, v11, rfl, S, R, g⟩
          have hi : i < 6 := by omega
          (repeat array_get_dec)
          refine ⟨p, q, ns, _, rfl, S.sc, hlen, S.ao, by omega, fun Ha na na0 na1 kba aoa => ?_⟩
          have Sa := S.next kba aoa
          have Ra := R.kb S.ao kba
          have ga := kba _ _ (strs_ne g tpos S.ao) g
          have ma := mod_ge na (show (0 : Int) < 12 by decide)
          have ma' := mod_lt na (show (0 : Int) < 12 by decide)
          (repeat array_get_dec)
          refine ⟨(show 4 ≤ sizeLine by decide), fun l2 h2 => ?_⟩
          (repeat array_get_dec)
          refine w_pick (fun v => ∃ m : Int, v = .int m ∧ 1 ≤ m ∧ m ≤ 41) upd_same (mod_ge _ (by decide)) (by exact mod_lt _ (by decide)) (fun v hv => ?_) fun v hv => ?_
          · simp only [List.mem_cons, List.not_mem_nil, or_false] at hv
            rcases hv with rfl | rfl | rfl | rfl
            all_goals exact ⟨_, rfl, by omega, by omega⟩
          obtain ⟨m, rfl, m0, m1⟩ := hv
          have sb := Same.upd (o := .lst [.int 1, .int 2, .int (1 + na % 12), .int 40]) h2
          have Sb := Sa.same sb
          have Rb := Ra.same sb
          have gb := sb _ _ ga
          generalize upd Ha l2 _ = Hb at sb Sb Rb gb ⊢
          clear S R g Sa Ra ga h2 sb
          (repeat array_get_dec)
          refine ⟨p, q, l, ns, _, ws, m, rfl, Sb.sc, hlen, Sb.ao, by omega, Sb.wd, m0, m1, fun Hd r ys hr0 kbd aod gd ro ly hy => ?_⟩
          have Sd := Sb.next kbd aod
          have Rd := Rb.kb Sb.ao kbd
          have gt := kbd _ _ (strs_ne gb tpos Sb.ao) gb
          have yn : ys ≠ [] := (row_iff.mp ro).1
          (repeat array_get_dec)
          refine ⟨p, q, ns, _, rfl, Sd.sc, hlen, Sd.ao, by omega, fun He ne ne0 ne1 kbe aoe => ?_⟩
          have Se := Sd.next kbe aoe
          have Re := Rd.kb Sd.ao kbe
          have ge := kbe _ _ (strs_ne gt tpos Sd.ao) gt
          have re := kbe _ _ (strs_ne gd yn Sd.ao) gd
          clear Sb Rb gb Sd Rd gt gd
          (repeat array_get_dec)
          refine ⟨l11, _, rfl, .inl (SqL.of ge), ?_⟩
          have tp : (0 : Int) < ((tts.map V.str).length : Nat) := by rw [List.length_map]; have := List.length_pos_iff.mpr tpos; omega
          refine w_mod tp ?_
          obtain ⟨vt, hvt, evt⟩ := atI_in (xs := tts.map V.str) (mod_ge ne tp) (mod_lt ne tp)
          obtain ⟨t, ht, rfl⟩ := List.mem_map.mp hvt
          refine ⟨l11, _, _, _, rfl, rfl, SqL.of ge, evt, ?_⟩
          (repeat array_get_dec)
          refine ⟨x, r, lk, t, ks, ys, rfl, Re, gk, Se.kt.tups, re, ro, by omega, hy, Se.t3, fun Hf sf => ?_⟩
          have Sf := Se.same sf
          have Rf := Re.same sf
          have gf := sf _ _ ge
          have rf := sf _ _ re
          (repeat array_get_dec)
          refine ⟨by show 2 ≤ sizeLine; decide, fun l12 h12 => ?_⟩
          have s12 : Same Hf _ := Same.upd (o := .lst [.str "nokind", .str "row"]) h12
          have g12 : (upd Hf l12 (.lst [.str "nokind", .str "row"])) l12 = some (.lst [.str "nokind", .str "row"]) := upd_same
          generalize upd Hf l12 _ = Hg at s12 g12 ⊢
          have Sg := Sf.same s12
          (repeat array_get_dec)
          obtain ⟨us, k1, k2, k3⟩ := id Sg.kt
          refine ⟨lk, rfl, ⟨_, SqL.of k1⟩, lcG (fun n zs => zs = ((ks.take n).map (·.1)).map V.str) (tells_l (SqL.of k1)) (by rw [List.length_map]; omega) rfl (fun D8 j zs H8 hj hD8 s8 e8 r8 => ?_) (fun D8 H8 zs hD8 s8 e8 r8 => ?_)⟩
          · rw [List.length_map] at hj
            have hj' : j < ks.length := by omega
            have ej : (us.map V.ref).getD j .non = V.ref us[j] := by simp [List.getD_eq_getElem?_getD, hj]
            obtain ⟨lj, _, ht, _⟩ := k3 j us[j] ks[j] (List.getElem?_eq_getElem hj) (List.getElem?_eq_getElem hj')
            rw [ej]
            (repeat array_get_dec)
            refine ⟨mono0 rfl, ?_⟩
            (repeat array_get_dec)
            refine ⟨us[j], _, 0, _, rfl, rfl, SqT.of (s8 _ _ ht), atI_nat (j := 0) rfl, ?_⟩
            exact lcFin hD8 s8 e8 (Same.refl _) (by rw [r8, List.take_succ, List.getElem?_eq_getElem hj', List.map_append, List.map_append]; rfl)
          have r8 : zs = (ks.map (·.1)).map V.str := by rw [r8, List.length_map, k2, List.take_of_length_le (Nat.le_refl _)]
          subst r8
          have S8 := Sg.same s8
          have R8 := (Rf.same s12).same s8
          have g8 := s8 _ _ (s12 _ _ gf)
          have r8 := s8 _ _ (s12 _ _ rf)
          have g128 := s8 _ _ g12
          (repeat array_get_dec)
          refine ⟨D8, _, rfl, .inl (SqL.of e8), rfl, flat_strs _, ?_⟩
          rw [if_neg Bool.false_ne_true, inV_strs]
          (repeat array_get_dec)
          refine ⟨_, rfl, ?_⟩
          have pick : ∀ (d : Str), (kindAt ks t = none → d = "nokind") → (∀ k, kindAt ks t = some k → d = "row") → ∃ j : Int, j = (if decide (t ∈ ks.map (·.1)) = true then 1 else 0) := fun _ _ _ => ⟨_, rfl⟩
          obtain ⟨d, ed, d1, d2⟩ : ∃ d : Str, atI [V.str "nokind", V.str "row"] (if decide (t ∈ ks.map (·.1)) = true then (1 : Int) else 0) = some (.str d) ∧ (kindAt ks t = none → d = "nokind") ∧ (∀ k, kindAt ks t = some k → d = "row") := by
            by_cases h : t ∈ ks.map (·.1)
            · rw [decide_eq_true h, if_pos rfl]
              exact ⟨"row", atI_nat (j := 1) rfl, fun z => absurd h (kindAt_none.mp z), fun _ _ => rfl⟩
            · rw [decide_eq_false h, if_neg Bool.false_ne_true]
              exact ⟨"nokind", atI_nat (j := 0) rfl, fun _ => rfl, fun k z => absurd (kindAt_none.mpr h) (by rw [z]; simp)⟩
          refine ⟨l12, _, _, _, rfl, rfl, SqL.of g128, ed, ?_⟩
          (repeat array_get_dec)
          refine ⟨p, q, r, ns, _, ys, rfl, S8.sc, hlen, S8.ao, by omega, r8, ro, ly, hy, fun Hh z kbh aoh bz => ?_⟩
          have Sh := S8.next kbh aoh
          have Rh := R8.kb S8.ao kbh
          have gh := kbh _ _ (strs_ne g8 tpos S8.ao) g8
          (repeat array_get_dec)
          refine ⟨x, z, t, d, ks, rfl, Rh, gk, bz, Sh.t3, d1, d2, fun Hi si => ?_⟩
          (repeat array_get_dec)
          exact ⟨_, _, _, _, _, _, rfl, (Sh.same si).mono (by omega), Rh.same si, si _ _ gh⟩
        · rintro σ H4 ⟨v4, v5, v6, v7, v10, v11, rfl, S, R, g⟩
          (repeat array_get_dec)
          exact k H4 (fin' S)
end
end K19

namespace K19
open PySem PySem.Spec PyProof.Rows L2
def mkDf {K : PySem.W.Frag} {mg : Str → Option Value} {h : Heap} {x qual : Str} {st : Stmt} (ps : List Str) {f : Addr} {oc kV doc pm cdv ct : Value} {od an : Option Addr} {osl : Array (Option Value)} (X : K.In h) (G : h.Ns mainGlobals mg) (a : PySem.W.nsIn K mainGlobals x = some (some (.ref f)))
    (l : K.lookup f = some ⟨oc, od, .func (PySem.W.fnOf x qual (defArgs st) (defBody st) (defScope st) .none kV doc pm an cdv ct), osl⟩) (c : PySem.W.codeIn K cdv qual = true) (k : PySem.W.keepIn K (.ref f) = true)
    (b : ∀ us : List Value, us.length = ps.length → bindArgs (PySem.W.fnOf x qual (defArgs st) (defBody st) (defScope st) .none kV doc pm an cdv ct) ⟨us, []⟩ = pure (ps.zip us)) : Df K mg x qual st ps :=
  ⟨f, _, cdv, ⟨oc, od, kV, doc, pm, an, ct, osl, rfl, l, c⟩, k, PySem.W.mg_of X G a, .all b⟩
theorem codeK_mk {K : PySem.W.Frag} {c t : Addr} (e : PySem.W.codeHdIn K c t = true) : CodeK K (.ref c) t := ⟨c, rfl, fun _ X => PySem.W.codeHd_of_K X e⟩
theorem bd_tong {K : PySem.W.Frag} {dT : Addr} {odT anI : Option Addr} {nT : Nat} {slT : Array (Option Value)} {kV doc pm cdv ct : Value} (lk : K.lookup dT = some ⟨.type "tuple", odT, .seq #[.none, .none] nT, slT⟩) :
    Binds K (PySem.W.fnOf "__init__" "Tongue.__init__" (defArgs sTI) (defBody sTI) (defScope sTI) (.ref dT) kV doc pm anI cdv ct) pTI [] := fun s us X hl => by
  rw [List.append_nil] at hl ⊢
  match us, hl with
  | [u0, u1, u2, u3, u4], _ => exact BindsTo.of_defaults rfl (X _ _ lk) rfl rfl rfl
/-- what the top has written, and the law's promise from it -/
theorem all_mk {P : Program} {w : World} {K : PySem.W.Frag} {h : Heap} {mg : Str → Option Value} {fa : Addr} (X : K.In h) (G : h.Ns mainGlobals mg) (hfa : mg "law" = some (.ref fa))
    {tT : Tok}
    {aTongue : Addr}
    {aKind : Addr}
    {aSayError : Addr}
    {aBadRule : Addr}
    {aNotCovered : Addr}
    {aBadParts : Addr}
    {aBadBound : Addr}
    {aBadMelt : Addr}
    {aTwice : Addr}
    {aBadRow : Addr}
    {aBadKind : Addr}
    {aNoKind : Addr}
    {aNoName : Addr}
    {aUnclear : Addr}
    {aBadPairs : Addr}
    {aBadText : Addr}
    {f17 : Addr} {od17 an17 : Option Addr} {sl17 : Array (Option Value)} {oc17 kV17 dc17 pm17 ct17 : Value}{cc17 : Addr} {t17 : Addr}
    {f18 : Addr} {od18 an18 : Option Addr} {sl18 : Array (Option Value)} {oc18 kV18 dc18 pm18 ct18 : Value}{cd18 : Value}
    {f19 : Addr} {od19 an19 : Option Addr} {sl19 : Array (Option Value)} {oc19 kV19 dc19 pm19 ct19 : Value}{cc19 : Addr} {t19 : Addr}
    {f21 : Addr} {od21 an21 : Option Addr} {sl21 : Array (Option Value)} {oc21 kV21 dc21 pm21 ct21 : Value}{cc21 : Addr} {t21 : Addr}
    {f22 : Addr} {od22 an22 : Option Addr} {sl22 : Array (Option Value)} {oc22 kV22 dc22 pm22 ct22 : Value}{cd22 : Value}
    {f25 : Addr} {od25 an25 : Option Addr} {sl25 : Array (Option Value)} {oc25 kV25 dc25 pm25 ct25 : Value}{cd25 : Value}
    {f26 : Addr} {od26 an26 : Option Addr} {sl26 : Array (Option Value)} {oc26 kV26 dc26 pm26 ct26 : Value}{cd26 : Value}
    {f27 : Addr} {od27 an27 : Option Addr} {sl27 : Array (Option Value)} {oc27 kV27 dc27 pm27 ct27 : Value}{cd27 : Value}
    {f29 : Addr} {od29 an29 : Option Addr} {sl29 : Array (Option Value)} {oc29 kV29 dc29 pm29 ct29 : Value}{cc29 : Addr} {t29 : Addr}
    {f32 : Addr} {od32 an32 : Option Addr} {sl32 : Array (Option Value)} {oc32 kV32 dc32 pm32 ct32 : Value}{cd32 : Value}
    {f33 : Addr} {od33 an33 : Option Addr} {sl33 : Array (Option Value)} {oc33 kV33 dc33 pm33 ct33 : Value}{cd33 : Value}
    {f34 : Addr} {od34 an34 : Option Addr} {sl34 : Array (Option Value)} {oc34 kV34 dc34 pm34 ct34 : Value}{cd34 : Value}
    {f36 : Addr} {od36 an36 : Option Addr} {sl36 : Array (Option Value)} {oc36 kV36 dc36 pm36 ct36 : Value}{cd36 : Value}
    {f37 : Addr} {od37 an37 : Option Addr} {sl37 : Array (Option Value)} {oc37 kV37 dc37 pm37 ct37 : Value}{cd37 : Value}
    {f38 : Addr} {od38 an38 : Option Addr} {sl38 : Array (Option Value)} {oc38 kV38 dc38 pm38 ct38 : Value}{cd38 : Value}
    {f39 : Addr} {od39 an39 : Option Addr} {sl39 : Array (Option Value)} {oc39 kV39 dc39 pm39 ct39 : Value}{cd39 : Value}
    {f40 : Addr} {od40 an40 : Option Addr} {sl40 : Array (Option Value)} {oc40 kV40 dc40 pm40 ct40 : Value}{cd40 : Value}
    {f41 : Addr} {od41 an41 : Option Addr} {sl41 : Array (Option Value)} {oc41 kV41 dc41 pm41 ct41 : Value}{cd41 : Value}
    {f42 : Addr} {od42 an42 : Option Addr} {sl42 : Array (Option Value)} {oc42 kV42 dc42 pm42 ct42 : Value}{cd42 : Value}
    {f43 : Addr} {od43 an43 : Option Addr} {sl43 : Array (Option Value)} {oc43 kV43 dc43 pm43 ct43 : Value}{cd43 : Value}
    {f44 : Addr} {od44 an44 : Option Addr} {sl44 : Array (Option Value)} {oc44 kV44 dc44 pm44 ct44 : Value}{cd44 : Value}
    {f45 : Addr} {od45 an45 : Option Addr} {sl45 : Array (Option Value)} {oc45 kV45 dc45 pm45 ct45 : Value}{cd45 : Value}
    {f46 : Addr} {od46 an46 : Option Addr} {sl46 : Array (Option Value)} {oc46 kV46 dc46 pm46 ct46 : Value}{cd46 : Value}
    {f47 : Addr} {od47 an47 : Option Addr} {sl47 : Array (Option Value)} {oc47 kV47 dc47 pm47 ct47 : Value}{cd47 : Value}
    {f48 : Addr} {od48 an48 : Option Addr} {sl48 : Array (Option Value)} {oc48 kV48 dc48 pm48 ct48 : Value}{cd48 : Value}
    {f49 : Addr} {od49 an49 : Option Addr} {sl49 : Array (Option Value)} {oc49 kV49 dc49 pm49 ct49 : Value}{cd49 : Value}
    {f50 : Addr} {od50 an50 : Option Addr} {sl50 : Array (Option Value)} {oc50 kV50 dc50 pm50 ct50 : Value}{cd50 : Value}
    {f51 : Addr} {od51 an51 : Option Addr} {sl51 : Array (Option Value)} {oc51 kV51 dc51 pm51 ct51 : Value}{cd51 : Value}
    {fJ : Addr} {odJ anJ : Option Addr} {slJ : Array (Option Value)} {ocJ kVJ dcJ pmJ ctJ : Value}{cdJ : Value}
    {dT : Addr} {odT : Option Addr} {rT : Array Value} {nT : Nat} {slT : Array (Option Value)}
    {fI : Addr} {odI anI : Option Addr} {slI : Array (Option Value)} {ocI kVI dcI pmI ctI : Value}{ccI : Addr} {tI : Addr}
    (b_len : PySem.W.nsIn K mainGlobals "len" = some none)
    (b_isinstance : PySem.W.nsIn K mainGlobals "isinstance" = some none)
    (b_str : PySem.W.nsIn K mainGlobals "str" = some none)
    (b_int : PySem.W.nsIn K mainGlobals "int" = some none)
    (b_list : PySem.W.nsIn K mainGlobals "list" = some none)
    (b_tuple : PySem.W.nsIn K mainGlobals "tuple" = some none)
    (b_all : PySem.W.nsIn K mainGlobals "all" = some none)
    (b_any : PySem.W.nsIn K mainGlobals "any" = some none)
    (b_range : PySem.W.nsIn K mainGlobals "range" = some none)
    (b_zip : PySem.W.nsIn K mainGlobals "zip" = some none)
    (b_max : PySem.W.nsIn K mainGlobals "max" = some none)
    (b_min : PySem.W.nsIn K mainGlobals "min" = some none)
    (b_set : PySem.W.nsIn K mainGlobals "set" = some none)
    (b_dict : PySem.W.nsIn K mainGlobals "dict" = some none)
    (b_ValueError : PySem.W.nsIn K mainGlobals "ValueError" = some none)
    (cTIE : PySem.W.nsIn K mainGlobals "TIE" = some (some (.str "+" tT)))
    (c_Tongue : PySem.W.nsIn K mainGlobals "Tongue" = some (some (.ref aTongue)))
    (c_Kind : PySem.W.nsIn K mainGlobals "Kind" = some (some (.ref aKind)))
    (c_SayError : PySem.W.nsIn K mainGlobals "SayError" = some (some (.ref aSayError)))
    (c_BadRule : PySem.W.nsIn K mainGlobals "BadRule" = some (some (.ref aBadRule)))
    (c_NotCovered : PySem.W.nsIn K mainGlobals "NotCovered" = some (some (.ref aNotCovered)))
    (c_BadParts : PySem.W.nsIn K mainGlobals "BadParts" = some (some (.ref aBadParts)))
    (c_BadBound : PySem.W.nsIn K mainGlobals "BadBound" = some (some (.ref aBadBound)))
    (c_BadMelt : PySem.W.nsIn K mainGlobals "BadMelt" = some (some (.ref aBadMelt)))
    (c_Twice : PySem.W.nsIn K mainGlobals "Twice" = some (some (.ref aTwice)))
    (c_BadRow : PySem.W.nsIn K mainGlobals "BadRow" = some (some (.ref aBadRow)))
    (c_BadKind : PySem.W.nsIn K mainGlobals "BadKind" = some (some (.ref aBadKind)))
    (c_NoKind : PySem.W.nsIn K mainGlobals "NoKind" = some (some (.ref aNoKind)))
    (c_NoName : PySem.W.nsIn K mainGlobals "NoName" = some (some (.ref aNoName)))
    (c_Unclear : PySem.W.nsIn K mainGlobals "Unclear" = some (some (.ref aUnclear)))
    (c_BadPairs : PySem.W.nsIn K mainGlobals "BadPairs" = some (some (.ref aBadPairs)))
    (c_BadText : PySem.W.nsIn K mainGlobals "BadText" = some (some (.ref aBadText)))
    (xs : PySem.W.excIn K aSayError [.type "ValueError", .type "Exception", .type "BaseException", .type "object"] "ValueError.__new__" = true)
    (gs : PySem.W.specialIn K (.builtin "object.__class__") "__get__" = some (some (.builtin "getset_descriptor.__get__")))
    (tk : PySem.W.takesIn K (.builtin "object.__class__") = some true)
    (xeBadRow : PySem.W.excIn K aBadRow [.type "ValueError", .type "Exception", .type "BaseException", .type "object"] "ValueError.__new__" = true)
    (gaBadRow : PySem.W.findIn K (.ref aBadRow) "__getattribute__" = some (some (.builtin "BaseException.__getattribute__")))
    (gtBadRow : PySem.W.findIn K (.ref aBadRow) "__getattr__" = some none)
    (gcBadRow : PySem.W.findIn K (.ref aBadRow) "__class__" = some (some (.builtin "object.__class__")))
    (obBadRow : PySem.W.mroIn K aBadRow (.type "object") = some true)
    (subBadRow : SubIn K aBadRow aSayError = true)
    (sayBadRow : PySem.W.kitOne K (.ref aBadRow) (.ref aSayError) = some true)
    (valBadRow : PySem.W.kitOne K (.ref aBadRow) (.type "ValueError") = some true)
    (b1BadRow : PySem.W.kitOne K (.ref aBadRow) (.ref aBadRow) = some true)
    (b2BadRow : PySem.W.kitOne K (.ref aBadRow) (.ref aNoKind) = some false)
    (b3BadRow : PySem.W.kitOne K (.ref aBadRow) (.ref aBadKind) = some false)
    (t1BadRow : PySem.W.kitAny K (.ref aBadRow) [.ref aBadBound, .ref aBadMelt, .ref aBadPairs, .ref aBadParts, .ref aBadRule, .ref aBadText] = some false)
    (t2BadRow : PySem.W.kitAny K (.ref aBadRow) [.ref aNoName, .ref aNotCovered, .ref aTwice, .ref aUnclear] = some false)
    (xeNoKind : PySem.W.excIn K aNoKind [.type "ValueError", .type "Exception", .type "BaseException", .type "object"] "ValueError.__new__" = true)
    (gaNoKind : PySem.W.findIn K (.ref aNoKind) "__getattribute__" = some (some (.builtin "BaseException.__getattribute__")))
    (gtNoKind : PySem.W.findIn K (.ref aNoKind) "__getattr__" = some none)
    (gcNoKind : PySem.W.findIn K (.ref aNoKind) "__class__" = some (some (.builtin "object.__class__")))
    (obNoKind : PySem.W.mroIn K aNoKind (.type "object") = some true)
    (subNoKind : SubIn K aNoKind aSayError = true)
    (sayNoKind : PySem.W.kitOne K (.ref aNoKind) (.ref aSayError) = some true)
    (valNoKind : PySem.W.kitOne K (.ref aNoKind) (.type "ValueError") = some true)
    (b1NoKind : PySem.W.kitOne K (.ref aNoKind) (.ref aBadRow) = some false)
    (b2NoKind : PySem.W.kitOne K (.ref aNoKind) (.ref aNoKind) = some true)
    (b3NoKind : PySem.W.kitOne K (.ref aNoKind) (.ref aBadKind) = some false)
    (t1NoKind : PySem.W.kitAny K (.ref aNoKind) [.ref aBadBound, .ref aBadMelt, .ref aBadPairs, .ref aBadParts, .ref aBadRule, .ref aBadText] = some false)
    (t2NoKind : PySem.W.kitAny K (.ref aNoKind) [.ref aNoName, .ref aNotCovered, .ref aTwice, .ref aUnclear] = some false)
    (xeBadKind : PySem.W.excIn K aBadKind [.type "ValueError", .type "Exception", .type "BaseException", .type "object"] "ValueError.__new__" = true)
    (gaBadKind : PySem.W.findIn K (.ref aBadKind) "__getattribute__" = some (some (.builtin "BaseException.__getattribute__")))
    (gtBadKind : PySem.W.findIn K (.ref aBadKind) "__getattr__" = some none)
    (gcBadKind : PySem.W.findIn K (.ref aBadKind) "__class__" = some (some (.builtin "object.__class__")))
    (obBadKind : PySem.W.mroIn K aBadKind (.type "object") = some true)
    (subBadKind : SubIn K aBadKind aSayError = true)
    (sayBadKind : PySem.W.kitOne K (.ref aBadKind) (.ref aSayError) = some true)
    (valBadKind : PySem.W.kitOne K (.ref aBadKind) (.type "ValueError") = some true)
    (b1BadKind : PySem.W.kitOne K (.ref aBadKind) (.ref aBadRow) = some false)
    (b2BadKind : PySem.W.kitOne K (.ref aBadKind) (.ref aNoKind) = some false)
    (b3BadKind : PySem.W.kitOne K (.ref aBadKind) (.ref aBadKind) = some true)
    (t1BadKind : PySem.W.kitAny K (.ref aBadKind) [.ref aBadBound, .ref aBadMelt, .ref aBadPairs, .ref aBadParts, .ref aBadRule, .ref aBadText] = some false)
    (t2BadKind : PySem.W.kitAny K (.ref aBadKind) [.ref aNoName, .ref aNotCovered, .ref aTwice, .ref aUnclear] = some false)
    (k8 : PySem.W.kitOne K (.type "str") (.type "str") = some true)
    (k9 : PySem.W.kitOne K (.type "tuple") (.type "tuple") = some true)
    (k10 : PySem.W.kitOne K (.type "list") (.type "list") = some true)
    (k11 : PySem.W.kitOne K (.ref aKind) (.ref aKind) = some true)
    (pg2 : PySem.W.plainGet K aKind Str.empty = true)
    (hd2 : PySem.W.hasDictIn K aKind = true)
    (po2 : PySem.W.plainOver K aKind = true)
    (sa2 : PySem.W.findIn K (.ref aKind) "__setattr__" = some (some (.builtin "object.__setattr__")))
    (rc : PySem.W.findIn K (.ref aKind) "__class__" = some (some (.builtin "object.__class__")))
    (rm : PySem.W.mroIn K aKind (.type "object") = some true)
    (n_title : PySem.W.findIn K (.ref aKind) "title" = some none)
    (n_ending : PySem.W.findIn K (.ref aKind) "ending" = some none)
    (n_turns : PySem.W.findIn K (.ref aKind) "turns" = some none)
    (mk2 : PySem.W.makesIn K aKind = true)
    (kc2 : PySem.W.keepIn K (.ref aKind) = true)
    (pg : PySem.W.plainGet K aTongue Str.empty = true)
    (hd : PySem.W.hasDictIn K aTongue = true)
    (po : PySem.W.plainOver K aTongue = true)
    (sa : PySem.W.findIn K (.ref aTongue) "__setattr__" = some (some (.builtin "object.__setattr__")))
    (n_bound : PySem.W.findIn K (.ref aTongue) "bound" = some none)
    (n_rules : PySem.W.findIn K (.ref aTongue) "rules" = some none)
    (n_melts : PySem.W.findIn K (.ref aTongue) "melts" = some none)
    (n_kinds : PySem.W.findIn K (.ref aTongue) "kinds" = some none)
    (mk : PySem.W.makesIn K aTongue = true)
    (kc : PySem.W.keepIn K (.ref aTongue) = true)
    (a17 : PySem.W.nsIn K mainGlobals "small_letters" = some (some (.ref f17)))
    (l17 : K.lookup f17 = some ⟨oc17, od17, .func (PySem.W.fnOf "small_letters" "small_letters" (defArgs (top 17)) (defBody (top 17)) (defScope (top 17)) .none kV17 dc17 pm17 an17 (.ref cc17) ct17), sl17⟩)
    (c17 : PySem.W.codeIn K (.ref cc17) "small_letters" = true)
    (k17_ : PySem.W.keepIn K (.ref f17) = true)
    (t17_ : PySem.W.tabIn K "small_letters" = some (cc17, t17))
    (d17 : PySem.W.codeHdIn K cc17 t17 = true)
    (a18 : PySem.W.nsIn K mainGlobals "is_word" = some (some (.ref f18)))
    (l18 : K.lookup f18 = some ⟨oc18, od18, .func (PySem.W.fnOf "is_word" "is_word" (defArgs (top 18)) (defBody (top 18)) (defScope (top 18)) .none kV18 dc18 pm18 an18 cd18 ct18), sl18⟩)
    (c18 : PySem.W.codeIn K cd18 "is_word" = true)
    (k18_ : PySem.W.keepIn K (.ref f18) = true)
    (a19 : PySem.W.nsIn K mainGlobals "ties_fit" = some (some (.ref f19)))
    (l19 : K.lookup f19 = some ⟨oc19, od19, .func (PySem.W.fnOf "ties_fit" "ties_fit" (defArgs (top 19)) (defBody (top 19)) (defScope (top 19)) .none kV19 dc19 pm19 an19 (.ref cc19) ct19), sl19⟩)
    (c19 : PySem.W.codeIn K (.ref cc19) "ties_fit" = true)
    (k19_ : PySem.W.keepIn K (.ref f19) = true)
    (t19_ : PySem.W.tabIn K "ties_fit" = some (cc19, t19))
    (d19 : PySem.W.codeHdIn K cc19 t19 = true)
    (a21 : PySem.W.nsIn K mainGlobals "are_word_pairs" = some (some (.ref f21)))
    (l21 : K.lookup f21 = some ⟨oc21, od21, .func (PySem.W.fnOf "are_word_pairs" "are_word_pairs" (defArgs (top 21)) (defBody (top 21)) (defScope (top 21)) .none kV21 dc21 pm21 an21 (.ref cc21) ct21), sl21⟩)
    (c21 : PySem.W.codeIn K (.ref cc21) "are_word_pairs" = true)
    (k21_ : PySem.W.keepIn K (.ref f21) = true)
    (t21_ : PySem.W.tabIn K "are_word_pairs" = some (cc21, t21))
    (d21 : PySem.W.codeHdIn K cc21 t21 = true)
    (a22 : PySem.W.nsIn K mainGlobals "is_word_pair" = some (some (.ref f22)))
    (l22 : K.lookup f22 = some ⟨oc22, od22, .func (PySem.W.fnOf "is_word_pair" "is_word_pair" (defArgs (top 22)) (defBody (top 22)) (defScope (top 22)) .none kV22 dc22 pm22 an22 cd22 ct22), sl22⟩)
    (c22 : PySem.W.codeIn K cd22 "is_word_pair" = true)
    (k22_ : PySem.W.keepIn K (.ref f22) = true)
    (a25 : PySem.W.nsIn K mainGlobals "own_list" = some (some (.ref f25)))
    (l25 : K.lookup f25 = some ⟨oc25, od25, .func (PySem.W.fnOf "own_list" "own_list" (defArgs (top 25)) (defBody (top 25)) (defScope (top 25)) .none kV25 dc25 pm25 an25 cd25 ct25), sl25⟩)
    (c25 : PySem.W.codeIn K cd25 "own_list" = true)
    (k25_ : PySem.W.keepIn K (.ref f25) = true)
    (a26 : PySem.W.nsIn K mainGlobals "is_melt" = some (some (.ref f26)))
    (l26 : K.lookup f26 = some ⟨oc26, od26, .func (PySem.W.fnOf "is_melt" "is_melt" (defArgs (top 26)) (defBody (top 26)) (defScope (top 26)) .none kV26 dc26 pm26 an26 cd26 ct26), sl26⟩)
    (c26 : PySem.W.codeIn K cd26 "is_melt" = true)
    (k26_ : PySem.W.keepIn K (.ref f26) = true)
    (a27 : PySem.W.nsIn K mainGlobals "check_titles" = some (some (.ref f27)))
    (l27 : K.lookup f27 = some ⟨oc27, od27, .func (PySem.W.fnOf "check_titles" "check_titles" (defArgs (top 27)) (defBody (top 27)) (defScope (top 27)) .none kV27 dc27 pm27 an27 cd27 ct27), sl27⟩)
    (c27 : PySem.W.codeIn K cd27 "check_titles" = true)
    (k27_ : PySem.W.keepIn K (.ref f27) = true)
    (a29 : PySem.W.nsIn K mainGlobals "is_row" = some (some (.ref f29)))
    (l29 : K.lookup f29 = some ⟨oc29, od29, .func (PySem.W.fnOf "is_row" "is_row" (defArgs (top 29)) (defBody (top 29)) (defScope (top 29)) .none kV29 dc29 pm29 an29 (.ref cc29) ct29), sl29⟩)
    (c29 : PySem.W.codeIn K (.ref cc29) "is_row" = true)
    (k29_ : PySem.W.keepIn K (.ref f29) = true)
    (t29_ : PySem.W.tabIn K "is_row" = some (cc29, t29))
    (d29 : PySem.W.codeHdIn K cc29 t29 = true)
    (a32 : PySem.W.nsIn K mainGlobals "kind_of" = some (some (.ref f32)))
    (l32 : K.lookup f32 = some ⟨oc32, od32, .func (PySem.W.fnOf "kind_of" "kind_of" (defArgs (top 32)) (defBody (top 32)) (defScope (top 32)) .none kV32 dc32 pm32 an32 cd32 ct32), sl32⟩)
    (c32 : PySem.W.codeIn K cd32 "kind_of" = true)
    (k32_ : PySem.W.keepIn K (.ref f32) = true)
    (a33 : PySem.W.nsIn K mainGlobals "turned" = some (some (.ref f33)))
    (l33 : K.lookup f33 = some ⟨oc33, od33, .func (PySem.W.fnOf "turned" "turned" (defArgs (top 33)) (defBody (top 33)) (defScope (top 33)) .none kV33 dc33 pm33 an33 cd33 ct33), sl33⟩)
    (c33 : PySem.W.codeIn K cd33 "turned" = true)
    (k33_ : PySem.W.keepIn K (.ref f33) = true)
    (a34 : PySem.W.nsIn K mainGlobals "kind_row" = some (some (.ref f34)))
    (l34 : K.lookup f34 = some ⟨oc34, od34, .func (PySem.W.fnOf "kind_row" "kind_row" (defArgs (top 34)) (defBody (top 34)) (defScope (top 34)) .none kV34 dc34 pm34 an34 cd34 ct34), sl34⟩)
    (c34 : PySem.W.codeIn K cd34 "kind_row" = true)
    (k34_ : PySem.W.keepIn K (.ref f34) = true)
    (a36 : PySem.W.nsIn K mainGlobals "_law_begin" = some (some (.ref f36)))
    (l36 : K.lookup f36 = some ⟨oc36, od36, .func (PySem.W.fnOf "_law_begin" "_law_begin" (defArgs (top 36)) (defBody (top 36)) (defScope (top 36)) .none kV36 dc36 pm36 an36 cd36 ct36), sl36⟩)
    (c36 : PySem.W.codeIn K cd36 "_law_begin" = true)
    (k36_ : PySem.W.keepIn K (.ref f36) = true)
    (a37 : PySem.W.nsIn K mainGlobals "_law_next" = some (some (.ref f37)))
    (l37 : K.lookup f37 = some ⟨oc37, od37, .func (PySem.W.fnOf "_law_next" "_law_next" (defArgs (top 37)) (defBody (top 37)) (defScope (top 37)) .none kV37 dc37 pm37 an37 cd37 ct37), sl37⟩)
    (c37 : PySem.W.codeIn K cd37 "_law_next" = true)
    (k37_ : PySem.W.keepIn K (.ref f37) = true)
    (a38 : PySem.W.nsIn K mainGlobals "_law_words" = some (some (.ref f38)))
    (l38 : K.lookup f38 = some ⟨oc38, od38, .func (PySem.W.fnOf "_law_words" "_law_words" (defArgs (top 38)) (defBody (top 38)) (defScope (top 38)) .none kV38 dc38 pm38 an38 cd38 ct38), sl38⟩)
    (c38 : PySem.W.codeIn K cd38 "_law_words" = true)
    (k38_ : PySem.W.keepIn K (.ref f38) = true)
    (a39 : PySem.W.nsIn K mainGlobals "_law_row" = some (some (.ref f39)))
    (l39 : K.lookup f39 = some ⟨oc39, od39, .func (PySem.W.fnOf "_law_row" "_law_row" (defArgs (top 39)) (defBody (top 39)) (defScope (top 39)) .none kV39 dc39 pm39 an39 cd39 ct39), sl39⟩)
    (c39 : PySem.W.codeIn K cd39 "_law_row" = true)
    (k39_ : PySem.W.keepIn K (.ref f39) = true)
    (a40 : PySem.W.nsIn K mainGlobals "_law_bad_row" = some (some (.ref f40)))
    (l40 : K.lookup f40 = some ⟨oc40, od40, .func (PySem.W.fnOf "_law_bad_row" "_law_bad_row" (defArgs (top 40)) (defBody (top 40)) (defScope (top 40)) .none kV40 dc40 pm40 an40 cd40 ct40), sl40⟩)
    (c40 : PySem.W.codeIn K cd40 "_law_bad_row" = true)
    (k40_ : PySem.W.keepIn K (.ref f40) = true)
    (a41 : PySem.W.nsIn K mainGlobals "_law_refused" = some (some (.ref f41)))
    (l41 : K.lookup f41 = some ⟨oc41, od41, .func (PySem.W.fnOf "_law_refused" "_law_refused" (defArgs (top 41)) (defBody (top 41)) (defScope (top 41)) .none kV41 dc41 pm41 an41 cd41 ct41), sl41⟩)
    (c41 : PySem.W.codeIn K cd41 "_law_refused" = true)
    (k41_ : PySem.W.keepIn K (.ref f41) = true)
    (a42 : PySem.W.nsIn K mainGlobals "_law_turned" = some (some (.ref f42)))
    (l42 : K.lookup f42 = some ⟨oc42, od42, .func (PySem.W.fnOf "_law_turned" "_law_turned" (defArgs (top 42)) (defBody (top 42)) (defScope (top 42)) .none kV42 dc42 pm42 an42 cd42 ct42), sl42⟩)
    (c42 : PySem.W.codeIn K cd42 "_law_turned" = true)
    (k42_ : PySem.W.keepIn K (.ref f42) = true)
    (a43 : PySem.W.nsIn K mainGlobals "_law_letters" = some (some (.ref f43)))
    (l43 : K.lookup f43 = some ⟨oc43, od43, .func (PySem.W.fnOf "_law_letters" "_law_letters" (defArgs (top 43)) (defBody (top 43)) (defScope (top 43)) .none kV43 dc43 pm43 an43 cd43 ct43), sl43⟩)
    (c43 : PySem.W.codeIn K cd43 "_law_letters" = true)
    (k43_ : PySem.W.keepIn K (.ref f43) = true)
    (a44 : PySem.W.nsIn K mainGlobals "_law_spoilt" = some (some (.ref f44)))
    (l44 : K.lookup f44 = some ⟨oc44, od44, .func (PySem.W.fnOf "_law_spoilt" "_law_spoilt" (defArgs (top 44)) (defBody (top 44)) (defScope (top 44)) .none kV44 dc44 pm44 an44 cd44 ct44), sl44⟩)
    (c44 : PySem.W.codeIn K cd44 "_law_spoilt" = true)
    (k44_ : PySem.W.keepIn K (.ref f44) = true)
    (a45 : PySem.W.nsIn K mainGlobals "_law_drawn_kind" = some (some (.ref f45)))
    (l45 : K.lookup f45 = some ⟨oc45, od45, .func (PySem.W.fnOf "_law_drawn_kind" "_law_drawn_kind" (defArgs (top 45)) (defBody (top 45)) (defScope (top 45)) .none kV45 dc45 pm45 an45 cd45 ct45), sl45⟩)
    (c45 : PySem.W.codeIn K cd45 "_law_drawn_kind" = true)
    (k45_ : PySem.W.keepIn K (.ref f45) = true)
    (a46 : PySem.W.nsIn K mainGlobals "_law_is_kind" = some (some (.ref f46)))
    (l46 : K.lookup f46 = some ⟨oc46, od46, .func (PySem.W.fnOf "_law_is_kind" "_law_is_kind" (defArgs (top 46)) (defBody (top 46)) (defScope (top 46)) .none kV46 dc46 pm46 an46 cd46 ct46), sl46⟩)
    (c46 : PySem.W.codeIn K cd46 "_law_is_kind" = true)
    (k46_ : PySem.W.keepIn K (.ref f46) = true)
    (a47 : PySem.W.nsIn K mainGlobals "_law_made" = some (some (.ref f47)))
    (l47 : K.lookup f47 = some ⟨oc47, od47, .func (PySem.W.fnOf "_law_made" "_law_made" (defArgs (top 47)) (defBody (top 47)) (defScope (top 47)) .none kV47 dc47 pm47 an47 cd47 ct47), sl47⟩)
    (c47 : PySem.W.codeIn K cd47 "_law_made" = true)
    (k47_ : PySem.W.keepIn K (.ref f47) = true)
    (a48 : PySem.W.nsIn K mainGlobals "_law_made_right" = some (some (.ref f48)))
    (l48 : K.lookup f48 = some ⟨oc48, od48, .func (PySem.W.fnOf "_law_made_right" "_law_made_right" (defArgs (top 48)) (defBody (top 48)) (defScope (top 48)) .none kV48 dc48 pm48 an48 cd48 ct48), sl48⟩)
    (c48 : PySem.W.codeIn K cd48 "_law_made_right" = true)
    (k48_ : PySem.W.keepIn K (.ref f48) = true)
    (a49 : PySem.W.nsIn K mainGlobals "_law_row_told" = some (some (.ref f49)))
    (l49 : K.lookup f49 = some ⟨oc49, od49, .func (PySem.W.fnOf "_law_row_told" "_law_row_told" (defArgs (top 49)) (defBody (top 49)) (defScope (top 49)) .none kV49 dc49 pm49 an49 cd49 ct49), sl49⟩)
    (c49 : PySem.W.codeIn K cd49 "_law_row_told" = true)
    (k49_ : PySem.W.keepIn K (.ref f49) = true)
    (a50 : PySem.W.nsIn K mainGlobals "_law_row_refused" = some (some (.ref f50)))
    (l50 : K.lookup f50 = some ⟨oc50, od50, .func (PySem.W.fnOf "_law_row_refused" "_law_row_refused" (defArgs (top 50)) (defBody (top 50)) (defScope (top 50)) .none kV50 dc50 pm50 an50 cd50 ct50), sl50⟩)
    (c50 : PySem.W.codeIn K cd50 "_law_row_refused" = true)
    (k50_ : PySem.W.keepIn K (.ref f50) = true)
    (a51 : PySem.W.nsIn K mainGlobals "law" = some (some (.ref f51)))
    (l51 : K.lookup f51 = some ⟨oc51, od51, .func (PySem.W.fnOf "law" "law" (defArgs (top 51)) (defBody (top 51)) (defScope (top 51)) .none kV51 dc51 pm51 an51 cd51 ct51), sl51⟩)
    (c51 : PySem.W.codeIn K cd51 "law" = true)
    (k51_ : PySem.W.keepIn K (.ref f51) = true)
    (aJ : PySem.W.findIn K (.ref aKind) "__init__" = some (some (.ref fJ)))
    (lJ : K.lookup fJ = some ⟨ocJ, odJ, .func (PySem.W.fnOf "__init__" "Kind.__init__" (defArgs sKI) (defBody sKI) (defScope sKI) .none kVJ dcJ pmJ anJ cdJ ctJ), slJ⟩)
    (cJ : PySem.W.codeIn K cdJ "Kind.__init__" = true)
    (kJ_ : PySem.W.keepIn K (.ref fJ) = true)
    (iJ : PySem.W.isFn K (.ref fJ) = true)
    (aI : PySem.W.findIn K (.ref aTongue) "__init__" = some (some (.ref fI)))
    (lI : K.lookup fI = some ⟨ocI, odI, .func (PySem.W.fnOf "__init__" "Tongue.__init__" (defArgs sTI) (defBody sTI) (defScope sTI) (.ref dT) kVI dcI pmI anI (.ref ccI) ctI), slI⟩)
    (cI : PySem.W.codeIn K (.ref ccI) "Tongue.__init__" = true)
    (kI_ : PySem.W.keepIn K (.ref fI) = true)
    (dI : PySem.W.codeHdIn K ccI tI = true)
    (lT : K.lookup dT = some ⟨.type "tuple", odT, .seq rT nT, slT⟩)
    (vT : rT = #[Value.none, Value.none])
    (iI : PySem.W.isFn K (.ref fI) = true) :
    ∃ fd : FuncData, (∀ (s : Shared) (v : Value), BindsTo s fd ⟨[v], []⟩ [("_law_script", v)]) ∧ ∀ base : Heap, K.In base → base.Ns mainGlobals mg → BltK base →
      FnOk P w K mg base CX0 12 fa fd ["_law_script"] (spLaw K ⟨aTongue, aKind, aSayError, aBadRule, aNotCovered, aBadParts, aBadBound, aBadMelt, aTwice, aBadRow, aBadKind, aNoKind, aNoName, aUnclear, aBadPairs, aBadText, t17, t19, t29, tI, t21⟩) := by
  have e := hfa.symm.trans (PySem.W.mg_of X G a51)
  cases e
  generalize hA : (⟨aTongue, aKind, aSayError, aBadRule, aNotCovered, aBadParts, aBadBound, aBadMelt, aTwice, aBadRow, aBadKind, aNoKind, aNoName, aUnclear, aBadPairs, aBadText, t17, t19, t29, tI, t21⟩ : Ad) = A
  have T : Txt K mg A := by
    subst hA
    exact {
      b_len := PySem.W.mg_none_of X G b_len
      b_isinstance := PySem.W.mg_none_of X G b_isinstance
      b_str := PySem.W.mg_none_of X G b_str
      b_int := PySem.W.mg_none_of X G b_int
      b_list := PySem.W.mg_none_of X G b_list
      b_tuple := PySem.W.mg_none_of X G b_tuple
      b_all := PySem.W.mg_none_of X G b_all
      b_any := PySem.W.mg_none_of X G b_any
      b_range := PySem.W.mg_none_of X G b_range
      b_zip := PySem.W.mg_none_of X G b_zip
      b_max := PySem.W.mg_none_of X G b_max
      b_min := PySem.W.mg_none_of X G b_min
      b_set := PySem.W.mg_none_of X G b_set
      b_dict := PySem.W.mg_none_of X G b_dict
      b_ValueError := PySem.W.mg_none_of X G b_ValueError
      c_TIE' := ⟨_, PySem.W.mg_of X G cTIE⟩
      c_Tongue := PySem.W.mg_of X G c_Tongue
      c_Kind := PySem.W.mg_of X G c_Kind
      c_SayError := PySem.W.mg_of X G c_SayError
      c_BadRule := PySem.W.mg_of X G c_BadRule
      c_NotCovered := PySem.W.mg_of X G c_NotCovered
      c_BadParts := PySem.W.mg_of X G c_BadParts
      c_BadBound := PySem.W.mg_of X G c_BadBound
      c_BadMelt := PySem.W.mg_of X G c_BadMelt
      c_Twice := PySem.W.mg_of X G c_Twice
      c_BadRow := PySem.W.mg_of X G c_BadRow
      c_BadKind := PySem.W.mg_of X G c_BadKind
      c_NoKind := PySem.W.mg_of X G c_NoKind
      c_NoName := PySem.W.mg_of X G c_NoName
      c_Unclear := PySem.W.mg_of X G c_Unclear
      c_BadPairs := PySem.W.mg_of X G c_BadPairs
      c_BadText := PySem.W.mg_of X G c_BadText
      e_BadRow := ⟨⟨xeBadRow, gaBadRow, gtBadRow, gcBadRow, gs, tk, obBadRow⟩, subBadRow, sayBadRow, valBadRow, b1BadRow, b2BadRow, b3BadRow, t1BadRow, t2BadRow⟩
      e_NoKind := ⟨⟨xeNoKind, gaNoKind, gtNoKind, gcNoKind, gs, tk, obNoKind⟩, subNoKind, sayNoKind, valNoKind, b1NoKind, b2NoKind, b3NoKind, t1NoKind, t2NoKind⟩
      e_BadKind := ⟨⟨xeBadKind, gaBadKind, gtBadKind, gcBadKind, gs, tk, obBadKind⟩, subBadKind, sayBadKind, valBadKind, b1BadKind, b2BadKind, b3BadKind, t1BadKind, t2BadKind⟩
      x_SayError := xs
      k_str := k8
      k_tup := k9
      k_list := k10
      k_kind := k11
      cl2 := ⟨pg2, hd2, po2, sa2⟩
      clc := rc
      clm := rm
      n_title := n_title
      n_ending := n_ending
      n_turns := n_turns
      cl := ⟨pg, hd, po, sa⟩
      n_bound := n_bound
      n_rules := n_rules
      n_melts := n_melts
      n_kinds := n_kinds }
  let D17 : DSmall K mg := mkDf ["text", "least", "most"] X G a17 l17 c17 k17_ (fun us hl => match us, hl with | [_, _, _], _ => rfl)
  let D18 : DWord K mg := mkDf ["text"] X G a18 l18 c18 k18_ (fun us hl => match us, hl with | [_], _ => rfl)
  let D19 : DTies K mg := mkDf ["pieces"] X G a19 l19 c19 k19_ (fun us hl => match us, hl with | [_], _ => rfl)
  let D21 : DWPs K mg := mkDf ["pairs"] X G a21 l21 c21 k21_ (fun us hl => match us, hl with | [_], _ => rfl)
  let D22 : DWPr K mg := mkDf ["pair"] X G a22 l22 c22 k22_ (fun us hl => match us, hl with | [_], _ => rfl)
  let D25 : DOwn K mg := mkDf ["given"] X G a25 l25 c25 k25_ (fun us hl => match us, hl with | [_], _ => rfl)
  let D26 : DMelt K mg := mkDf ["melt"] X G a26 l26 c26 k26_ (fun us hl => match us, hl with | [_], _ => rfl)
  let D27 : DTit K mg := mkDf ["kinds"] X G a27 l27 c27 k27_ (fun us hl => match us, hl with | [_], _ => rfl)
  let D29 : DRow K mg := mkDf ["row"] X G a29 l29 c29 k29_ (fun us hl => match us, hl with | [_], _ => rfl)
  let D32 : DKO K mg := mkDf ["tongue", "title"] X G a32 l32 c32 k32_ (fun us hl => match us, hl with | [_, _], _ => rfl)
  let D33 : DTd K mg := mkDf ["kind", "row"] X G a33 l33 c33 k33_ (fun us hl => match us, hl with | [_, _], _ => rfl)
  let D34 : DKR K mg := mkDf ["tongue", "title", "row"] X G a34 l34 c34 k34_ (fun us hl => match us, hl with | [_, _, _], _ => rfl)
  let D36 : DBegin K mg := mkDf ["_law_script"] X G a36 l36 c36 k36_ (fun us hl => match us, hl with | [_], _ => rfl)
  let D37 : DNext K mg := mkDf ["_law_script", "_law_at"] X G a37 l37 c37 k37_ (fun us hl => match us, hl with | [_, _], _ => rfl)
  let D38 : DWords K mg := mkDf ["_law_script", "_law_at", "_law_many"] X G a38 l38 c38 k38_ (fun us hl => match us, hl with | [_, _, _], _ => rfl)
  let D39 : DLR K mg := mkDf ["_law_script", "_law_at", "_law_words_here", "_law_many"] X G a39 l39 c39 k39_ (fun us hl => match us, hl with | [_, _, _, _], _ => rfl)
  let D40 : DLB K mg := mkDf ["_law_script", "_law_at", "_law_row_here"] X G a40 l40 c40 k40_ (fun us hl => match us, hl with | [_, _, _], _ => rfl)
  let D41 : DRef K mg := mkDf ["_law_caught", "_law_due"] X G a41 l41 c41 k41_ (fun us hl => match us, hl with | [_, _], _ => rfl)
  let D42 : DLTd K mg := mkDf ["_law_row_here", "_law_ending", "_law_turns"] X G a42 l42 c42 k42_ (fun us hl => match us, hl with | [_, _, _], _ => rfl)
  let D43 : DLL K mg := mkDf ["_law_text", "_law_least", "_law_most"] X G a43 l43 c43 k43_ (fun us hl => match us, hl with | [_, _, _], _ => rfl)
  let D44 : DSp K mg := mkDf ["_law_script", "_law_at", "_law_word"] X G a44 l44 c44 k44_ (fun us hl => match us, hl with | [_, _, _], _ => rfl)
  let D45 : DDK K mg := mkDf ["_law_script", "_law_at", "_law_words_here"] X G a45 l45 c45 k45_ (fun us hl => match us, hl with | [_, _, _], _ => rfl)
  let D46 : DIK K mg := mkDf ["_law_title", "_law_ending", "_law_turns"] X G a46 l46 c46 k46_ (fun us hl => match us, hl with | [_, _, _], _ => rfl)
  let D47 : DMd K mg := mkDf ["_law_title", "_law_ending", "_law_turns"] X G a47 l47 c47 k47_ (fun us hl => match us, hl with | [_, _, _], _ => rfl)
  let D48 : DMR K mg := mkDf ["_law_title", "_law_ending", "_law_turns"] X G a48 l48 c48 k48_ (fun us hl => match us, hl with | [_, _, _], _ => rfl)
  let D49 : DRT K mg := mkDf ["_law_tongue", "_law_title", "_law_row_here", "_law_kinds"] X G a49 l49 c49 k49_ (fun us hl => match us, hl with | [_, _, _, _], _ => rfl)
  let D50 : DRR K mg := mkDf ["_law_tongue", "_law_title", "_law_row_here", "_law_due"] X G a50 l50 c50 k50_ (fun us hl => match us, hl with | [_, _, _, _], _ => rfl)
  let D51 : DLaw K mg := mkDf ["_law_script"] X G a51 l51 c51 k51_ (fun us hl => match us, hl with | [_], _ => rfl)
  let DI : DTong K := ⟨fI, _, .ref ccI, ⟨ocI, odI, .ref dT, kVI, dcI, pmI, anI, ctI, slI, rfl, lI, cI⟩, kI_⟩
  let DJ : DKI K := ⟨fJ, _, cdJ, ⟨ocJ, odJ, kVJ, dcJ, pmJ, anJ, ctJ, slJ, rfl, lJ, cJ⟩, kJ_, .all (fun us hl => match us, hl with | [_, _, _, _], _ => rfl)⟩
  refine ⟨D51.fd, fun s v => .of_eq rfl, fun base _ _ hB => ?_⟩
  have e1 : A.tSL = t17 := by rw [← hA]
  have e2 : A.tTF = t19 := by rw [← hA]
  have e3 : A.tIR = t29 := by rw [← hA]
  have e4 : A.tTI = tI := by rw [← hA]
  have e6 : A.tWP = t21 := by rw [← hA]
  have e5 : A.Tongue = aTongue := by rw [← hA]
  have e7 : A.Kind = aKind := by rw [← hA]
  have c1 : CodeK K D17.cdv A.tSL := by rw [e1]; exact codeK_mk d17
  have c2 : CodeK K D19.cdv A.tTF := by rw [e2]; exact codeK_mk d19
  have c3 : CodeK K D29.cdv A.tIR := by rw [e3]; exact codeK_mk d29
  have c4 : CodeK K DI.cdv A.tTI := by rw [e4]; exact codeK_mk dI
  have c5 : CodeK K D21.cdv A.tWP := by rw [e6]; exact codeK_mk d21
  have MR : Mk K A.Tongue DI.f := by rw [e5]; exact ⟨mk, aI, iI, kc⟩
  have MK : Mk K A.Kind DJ.f := by rw [e7]; exact ⟨mk2, aJ, iJ, kc2⟩
  have bd : Binds K DI.fd pTI [] := by subst vT; exact bd_tong lT
  have G17 : FnOk P w K mg base CX0 2 D17.f D17.fd ["text", "least", "most"] (spSmall A.tSL) := ok_small D17 c1 hB T
  have G18 : FnOk P w K mg base CX0 3 D18.f D18.fd ["text"] (spWord A.tSL) := ok_word D18 D17 G17
  have G19 : FnOk P w K mg base CX0 2 D19.f D19.fd ["pieces"] (spTies A) := ok_ties D19 c2 hB T
  have G29 : FnOk P w K mg base CX0 6 D29.f D29.fd ["row"] (spRow A) := ok_row D29 c3 hB D18 G18 D19 G19 T
  have G25 : FnOk P w K mg base CX0 1 D25.f D25.fd ["given"] (spOwn K) := ok_own D25 T
  have G26 : FnOk P w K mg base CX0 3 D26.f D26.fd ["melt"] (spMelt A) := ok_melt D26 D17 G17 T
  have G27 : FnOk P w K mg base CX0 1 D27.f D27.fd ["kinds"] (spTit A) := ok_tit D27 T
  have GI : FnOk P w K mg base CX0 6 DI.f DI.fd pTI (spTong A) := ok_tong DI c4 hB D25 G25 D26 G26 D27 G27 T
  have G22 : FnOk P w K mg base CX0 4 D22.f D22.fd ["pair"] (spWPr A) := ok_wpr D22 D18 G18 T
  have G21 : FnOk P w K mg base CX0 6 D21.f D21.fd ["pairs"] (spWPs A) := ok_wps D21 c5 hB D22 G22 T
  have GJ : FnOk P w K mg base (CXE P w) 7 DJ.f DJ.fd pKI (spKI A) := ok_ki DJ D17 G17 D18 G18 D21 G21 T
  have G32 : FnOk P w K mg base (CXE P w) 1 D32.f D32.fd ["tongue", "title"] (spKO A) := ok_ko D32 T
  have G33 : FnOk P w K mg base CX0 1 D33.f D33.fd ["kind", "row"] (spTd A) := ok_td D33 T
  have G34 : FnOk P w K mg base (CXE P w) 7 D34.f D34.fd ["tongue", "title", "row"] (spKR A) := ok_kr D34 D32 G32 D29 G29 D33 G33 T
  have G36 : FnOk P w K mg base CX0 1 D36.f D36.fd ["_law_script"] (spBegin K) := ok_begin D36
  have G37 : FnOk P w K mg base CX0 1 D37.f D37.fd ["_law_script", "_law_at"] (spNext K) := ok_next D37 T
  have G38 : FnOk P w K mg base CX0 2 D38.f D38.fd ["_law_script", "_law_at", "_law_many"] (spWords K) := ok_words D38 D37 G37 T
  have G39 : FnOk P w K mg base CX0 2 D39.f D39.fd ["_law_script", "_law_at", "_law_words_here", "_law_many"] (spLR K) := ok_lr D39 D37 G37 T
  have G40 : FnOk P w K mg base CX0 2 D40.f D40.fd ["_law_script", "_law_at", "_law_row_here"] (spLB K) := ok_lb D40 D37 G37 T
  have G41 : FnOk P w K mg base CX0 1 D41.f D41.fd ["_law_caught", "_law_due"] (spRef K A) := ok_ref D41 T
  have G42 : FnOk P w K mg base CX0 1 D42.f D42.fd ["_law_row_here", "_law_ending", "_law_turns"] spLTd := ok_ltd D42 T
  have G43 : FnOk P w K mg base CX0 1 D43.f D43.fd ["_law_text", "_law_least", "_law_most"] spLL := ok_ll D43 T
  have G44 : FnOk P w K mg base CX0 2 D44.f D44.fd ["_law_script", "_law_at", "_law_word"] (spSp K) := ok_sp D44 D37 G37 T
  have G45 : FnOk P w K mg base CX0 3 D45.f D45.fd ["_law_script", "_law_at", "_law_words_here"] (spDK K) := ok_dk D45 D37 G37 D44 G44 T
  have G46 : FnOk P w K mg base CX0 2 D46.f D46.fd ["_law_title", "_law_ending", "_law_turns"] spIK := ok_ik D46 D43 G43 T
  have G47 : FnOk P w K mg base CX0 9 D47.f D47.fd ["_law_title", "_law_ending", "_law_turns"] (spMd A) := ok_md D47 DJ MK GJ T
  have G48 : FnOk P w K mg base CX0 10 D48.f D48.fd ["_law_title", "_law_ending", "_law_turns"] (spMR A) := ok_mr D48 D47 G47 D46 G46 D41 G41 T
  have G49 : FnOk P w K mg base CX0 8 D49.f D49.fd ["_law_tongue", "_law_title", "_law_row_here", "_law_kinds"] (spRT A) := ok_rt D49 D34 G34 D42 G42 D41 G41 T
  have G50 : FnOk P w K mg base CX0 8 D50.f D50.fd ["_law_tongue", "_law_title", "_law_row_here", "_law_due"] (spRR A) := ok_rr D50 D34 G34 D41 G41 T
  exact ok_law D51 ⟨D36, G36, D37, G37, D38, G38, D45, G45, D48, G48, D46, G46, DJ, MK, GJ, DI, MR, bd, GI, D39, G39, D49, G49, D40, G40, D50, G50⟩ T
theorem walk {l : PySem.W.OpenLaw} {q : Program} {loose : List Str} {XP : (Str → Option Value) → Heap → Prop} {YP : World → Heap → Prop} {d : DefRec} {K : Params → PySem.W.Frag} (ad : Ad) (hn : l.most = some 63) (hdf : d.params.defaults = [])
    (hY : ∀ (w : World) (h : Heap), YP w h → (K w.params).In h ∧ ∀ t ∈ [ad.tTI], h.get? t = some (PySem.W.tabObj #[]))
    (F : ∀ (w : World) (mg : Str → Option Value) (fa : Addr) (h : Heap), (K w.params).In h → h.Ns mainGlobals mg → mg d.name = some (.ref fa) →
      ∃ fd : FuncData, (∀ (s : Shared) (u : Value), BindsTo s fd ⟨[u], []⟩ [("_law_script", u)]) ∧ ∀ base : Heap, (K w.params).In base → base.Ns mainGlobals mg → BltK base → FnOk l.prog w (K w.params) mg base CX0 12 fa fd ["_law_script"] (spLaw (K w.params) ad))
    (hK : ∀ w : World, PySem.W.noTabs (K w.params) = true)
    (r0 : ∃ d', (recsOf q).find? (fun e => e.name == ("are_word_pairs" : Str)) = some d') (t0 : ∀ w : World, ∃ c, PySem.W.tabIn (K w.params) "are_word_pairs" = some (c, ad.tWP)) (r1 : ∃ d', (recsOf q).find? (fun e => e.name == ("small_letters" : Str)) = some d') (r2 : ∃ d', (recsOf q).find? (fun e => e.name == ("ties_fit" : Str)) = some d') (r3 : ∃ d', (recsOf q).find? (fun e => e.name == ("is_row" : Str)) = some d')
    (t1 : ∀ w : World, ∃ c, PySem.W.tabIn (K w.params) "small_letters" = some (c, ad.tSL)) (t2 : ∀ w : World, ∃ c, PySem.W.tabIn (K w.params) "ties_fit" = some (c, ad.tTF)) (t3 : ∀ w : World, ∃ c, PySem.W.tabIn (K w.params) "is_row" = some (c, ad.tIR)) (t4 : ∀ w : World, ∃ c, PySem.W.codeHdIn (K w.params) c ad.tTI = true) :
    PySem.W.WalkO q loose XP YP l.row.toRowW d [] (fun f vs => PySem.call f vs) := by
  refine walk_M (n := 63) (k := 12) (x := "_law_script") (CX := fun _ => CX0) (sp := fun w => spLaw (K w.params) ad) (fun _ => [ad.tSL, ad.tTF, ad.tIR, ad.tTI, ad.tWP]) [ad.tTI] hn (by decide) hdf ⟨rfl, by decide, by decide⟩ hY hK (fun w t ht => ?_) F (fun w H a ns hl h1 hS => ?_) fun _ _ _ _ _ z => z
  · simp only [List.mem_cons, List.not_mem_nil, or_false] at ht
    rcases ht with rfl | rfl | rfl | rfl | rfl
    · obtain ⟨d', e⟩ := r1; obtain ⟨c, e2⟩ := t1 w; exact .inl ⟨_, c, d', e, e2⟩
    · obtain ⟨d', e⟩ := r2; obtain ⟨c, e2⟩ := t2 w; exact .inl ⟨_, c, d', e, e2⟩
    · obtain ⟨d', e⟩ := r3; obtain ⟨c, e2⟩ := t3 w; exact .inl ⟨_, c, d', e, e2⟩
    · exact .inr ⟨by simp, t4 w⟩
    · obtain ⟨d', e⟩ := r0; obtain ⟨c, e2⟩ := t0 w; exact .inl ⟨_, c, d', e, e2⟩
  · exact ⟨a, ns, rfl, hS, hl, ⟨h1 _ (by simp), h1 _ (by simp)⟩, ⟨h1 _ (by simp), h1 _ (by simp), h1 _ (by simp)⟩, h1 _ (by simp), fun H' s => ⟨rfl, fun t ht => s _ _ (h1 t ht)⟩⟩
end K19

/-! The twins of the heads' heaps and trees are not wanted (the compiled text grows past 64 MiB by them): their names are taken. -/
def PySem.W.Fast.tw6041265465282790272 : Nat := 0
def PySem.W.Fast.tw6540174958714564815 : Nat := 0
def PySem.W.Fast.tw1402655627108902746 : Nat := 0
def PySem.W.Fast.tw14999227860773651034 : Nat := 0
def PySem.W.Fast.tw11792202642242048788 : Nat := 0
def PySem.W.Fast.tw7928903926273387115 : Nat := 0
def PySem.W.Fast.tw11348294484195894267 : Nat := 0
def PySem.W.Fast.tw5623170661345124477 : Nat := 0
def PySem.W.Fast.tw1315033143111013228 : Nat := 0
def PySem.W.Fast.tw8722456310129681167 : Nat := 0
def PySem.W.Fast.tw3396407443165449189 : Nat := 0
def PySem.W.Fast.tw8385049048375430025 : Nat := 0
def PySem.W.Fast.tw18431886952562754068 : Nat := 0
def PySem.W.Fast.tw2718013525346451064 : Nat := 0
def PySem.W.Fast.tw801537703930733833 : Nat := 0
def PySem.W.Fast.tw5772527084155100059 : Nat := 0
def PySem.W.Fast.tw10633142324784127911 : Nat := 0
def PySem.W.Fast.tw18435932310562458932 : Nat := 0
def PySem.W.Fast.tw9602845333940228686 : Nat := 0
def PySem.W.Fast.tw9324949242123224144 : Nat := 0
def PySem.W.Fast.tw777528056803530983 : Nat := 0
def PySem.W.Fast.tw18001749475602816133 : Nat := 0
open PySem PySem.W PyProof.Rows
local macro_rules
  | `(tactic| o_head ($x : $t)) => Lean.Macro.throwUnsupported
  | `(tactic| o_head $H) => `(tactic| o_head (L2.withTabs $H [245] : PySem.W.Hook))
set_option maxRecDepth 100000 in
set_option maxHeartbeats 0 in
theorem PySem.Challenge.cw_numbersay_k19_kinds_holds : PySem.Challenge.rw_numbersay_k19_kinds.Holds := by
  w_on; o_law; k_head; (case hw => w_witness2)
  k_fill
  refine' K19.walk (l := PySem.Challenge.rw_numbersay_k19_kinds) ⟨_, _, _, _, _, _, _, _, _, _, _, _, _, _, _, _, _, _, _, 245, _⟩ rfl rfl (fun w h Y => ⟨PySem.W.kIn_of Y.1, Y.2⟩) ?F ?NT ?R0 ?T0 ?R1 ?R2 ?R3 ?T1 ?T2 ?T3 ?T4
  case F =>
    intro w mg fa h KX G hmg
    refine' K19.all_mk KX G hmg ?b_len ?b_isinstance ?b_str ?b_int ?b_list ?b_tuple ?b_all ?b_any ?b_range ?b_zip ?b_max ?b_min ?b_set ?b_dict ?b_ValueError ?cTIE ?c_Tongue ?c_Kind ?c_SayError ?c_BadRule ?c_NotCovered ?c_BadParts ?c_BadBound ?c_BadMelt ?c_Twice ?c_BadRow ?c_BadKind ?c_NoKind ?c_NoName ?c_Unclear ?c_BadPairs ?c_BadText ?xs ?gs ?tk ?xeBadRow ?gaBadRow ?gtBadRow ?gcBadRow ?obBadRow ?subBadRow ?sayBadRow ?valBadRow ?b1BadRow ?b2BadRow ?b3BadRow ?t1BadRow ?t2BadRow ?xeNoKind ?gaNoKind ?gtNoKind ?gcNoKind ?obNoKind ?subNoKind ?sayNoKind ?valNoKind ?b1NoKind ?b2NoKind ?b3NoKind ?t1NoKind ?t2NoKind ?xeBadKind ?gaBadKind ?gtBadKind ?gcBadKind ?obBadKind ?subBadKind ?sayBadKind ?valBadKind ?b1BadKind ?b2BadKind ?b3BadKind ?t1BadKind ?t2BadKind ?k8 ?k9 ?k10 ?k11 ?pg2 ?hd2 ?po2 ?sa2 ?rc ?rm ?n_title ?n_ending ?n_turns ?mk2 ?kc2 ?pg ?hd ?po ?sa ?n_bound ?n_rules ?n_melts ?n_kinds ?mk ?kc ?a17 ?l17 ?c17 ?k17_ ?t17_ ?d17 ?a18 ?l18 ?c18 ?k18_ ?a19 ?l19 ?c19 ?k19_ ?t19_ ?d19 ?a21 ?l21 ?c21 ?k21_ ?t21_ ?d21 ?a22 ?l22 ?c22 ?k22_ ?a25 ?l25 ?c25 ?k25_ ?a26 ?l26 ?c26 ?k26_ ?a27 ?l27 ?c27 ?k27_ ?a29 ?l29 ?c29 ?k29_ ?t29_ ?d29 ?a32 ?l32 ?c32 ?k32_ ?a33 ?l33 ?c33 ?k33_ ?a34 ?l34 ?c34 ?k34_ ?a36 ?l36 ?c36 ?k36_ ?a37 ?l37 ?c37 ?k37_ ?a38 ?l38 ?c38 ?k38_ ?a39 ?l39 ?c39 ?k39_ ?a40 ?l40 ?c40 ?k40_ ?a41 ?l41 ?c41 ?k41_ ?a42 ?l42 ?c42 ?k42_ ?a43 ?l43 ?c43 ?k43_ ?a44 ?l44 ?c44 ?k44_ ?a45 ?l45 ?c45 ?k45_ ?a46 ?l46 ?c46 ?k46_ ?a47 ?l47 ?c47 ?k47_ ?a48 ?l48 ?c48 ?k48_ ?a49 ?l49 ?c49 ?k49_ ?a50 ?l50 ?c50 ?k50_ ?a51 ?l51 ?c51 ?k51_ ?aJ ?lJ ?cJ ?kJ_ ?iJ ?aI ?lI ?cI ?kI_ ?dI ?lT ?vT ?iI
    (case b_len => k_is)
    (case b_isinstance => k_is)
    (case b_str => k_is)
    (case b_int => k_is)
    (case b_list => k_is)
    (case b_tuple => k_is)
    (case b_all => k_is)
    (case b_any => k_is)
    (case b_range => k_is)
    (case b_zip => k_is)
    (case b_max => k_is)
    (case b_min => k_is)
    (case b_set => k_is)
    (case b_dict => k_is)
    (case b_ValueError => k_is)
    (case cTIE => k_is)
    (case c_Tongue => k_is)
    (case c_Kind => k_is)
    (case c_SayError => k_is)
    (case c_BadRule => k_is)
    (case c_NotCovered => k_is)
    (case c_BadParts => k_is)
    (case c_BadBound => k_is)
    (case c_BadMelt => k_is)
    (case c_Twice => k_is)
    (case c_BadRow => k_is)
    (case c_BadKind => k_is)
    (case c_NoKind => k_is)
    (case c_NoName => k_is)
    (case c_Unclear => k_is)
    (case c_BadPairs => k_is)
    (case c_BadText => k_is)
    (case xs => k_exc)
    (case gs => k_is)
    (case tk => k_is)
    (case xeBadRow => k_exc)
    (case gaBadRow => k_is)
    (case gtBadRow => k_is)
    (case gcBadRow => k_is)
    (case obBadRow => k_is)
    (case subBadRow => exact rfl)
    (case sayBadRow => kit_is)
    (case valBadRow => kit_is)
    (case b1BadRow => kit_is)
    (case b2BadRow => kit_is)
    (case b3BadRow => kit_is)
    (case t1BadRow => kit_is)
    (case t2BadRow => kit_is)
    (case xeNoKind => k_exc)
    (case gaNoKind => k_is)
    (case gtNoKind => k_is)
    (case gcNoKind => k_is)
    (case obNoKind => k_is)
    (case subNoKind => exact rfl)
    (case sayNoKind => kit_is)
    (case valNoKind => kit_is)
    (case b1NoKind => kit_is)
    (case b2NoKind => kit_is)
    (case b3NoKind => kit_is)
    (case t1NoKind => kit_is)
    (case t2NoKind => kit_is)
    (case xeBadKind => k_exc)
    (case gaBadKind => k_is)
    (case gtBadKind => k_is)
    (case gcBadKind => k_is)
    (case obBadKind => k_is)
    (case subBadKind => exact rfl)
    (case sayBadKind => kit_is)
    (case valBadKind => kit_is)
    (case b1BadKind => kit_is)
    (case b2BadKind => kit_is)
    (case b3BadKind => kit_is)
    (case t1BadKind => kit_is)
    (case t2BadKind => kit_is)
    (case k8 => kit_is)
    (case k9 => kit_is)
    (case k10 => kit_is)
    (case k11 => kit_is)
    (case pg2 => k_is)
    (case hd2 => k_is)
    (case po2 => k_is)
    (case sa2 => k_is)
    (case rc => k_is)
    (case rm => k_is)
    (case n_title => k_is)
    (case n_ending => k_is)
    (case n_turns => k_is)
    (case mk2 => k_is)
    (case kc2 => k_is)
    (case pg => k_is)
    (case hd => k_is)
    (case po => k_is)
    (case sa => k_is)
    (case n_bound => k_is)
    (case n_rules => k_is)
    (case n_melts => k_is)
    (case n_kinds => k_is)
    (case mk => k_is)
    (case kc => k_is)
    (case a17 => k_is)
    (case l17 => k_is)
    (case c17 => k_is)
    (case k17_ => k_is)
    (case t17_ => exact rfl)
    (case d17 => exact rfl)
    (case a18 => k_is)
    (case l18 => k_is)
    (case c18 => k_is)
    (case k18_ => k_is)
    (case a19 => k_is)
    (case l19 => k_is)
    (case c19 => k_is)
    (case k19_ => k_is)
    (case t19_ => exact rfl)
    (case d19 => exact rfl)
    (case a21 => k_is)
    (case l21 => k_is)
    (case c21 => k_is)
    (case k21_ => k_is)
    (case t21_ => exact rfl)
    (case d21 => exact rfl)
    (case a22 => k_is)
    (case l22 => k_is)
    (case c22 => k_is)
    (case k22_ => k_is)
    (case a25 => k_is)
    (case l25 => k_is)
    (case c25 => k_is)
    (case k25_ => k_is)
    (case a26 => k_is)
    (case l26 => k_is)
    (case c26 => k_is)
    (case k26_ => k_is)
    (case a27 => k_is)
    (case l27 => k_is)
    (case c27 => k_is)
    (case k27_ => k_is)
    (case a29 => k_is)
    (case l29 => k_is)
    (case c29 => k_is)
    (case k29_ => k_is)
    (case t29_ => exact rfl)
    (case d29 => exact rfl)
    (case a32 => k_is)
    (case l32 => k_is)
    (case c32 => k_is)
    (case k32_ => k_is)
    (case a33 => k_is)
    (case l33 => k_is)
    (case c33 => k_is)
    (case k33_ => k_is)
    (case a34 => k_is)
    (case l34 => k_is)
    (case c34 => k_is)
    (case k34_ => k_is)
    (case a36 => k_is)
    (case l36 => k_is)
    (case c36 => k_is)
    (case k36_ => k_is)
    (case a37 => k_is)
    (case l37 => k_is)
    (case c37 => k_is)
    (case k37_ => k_is)
    (case a38 => k_is)
    (case l38 => k_is)
    (case c38 => k_is)
    (case k38_ => k_is)
    (case a39 => k_is)
    (case l39 => k_is)
    (case c39 => k_is)
    (case k39_ => k_is)
    (case a40 => k_is)
    (case l40 => k_is)
    (case c40 => k_is)
    (case k40_ => k_is)
    (case a41 => k_is)
    (case l41 => k_is)
    (case c41 => k_is)
    (case k41_ => k_is)
    (case a42 => k_is)
    (case l42 => k_is)
    (case c42 => k_is)
    (case k42_ => k_is)
    (case a43 => k_is)
    (case l43 => k_is)
    (case c43 => k_is)
    (case k43_ => k_is)
    (case a44 => k_is)
    (case l44 => k_is)
    (case c44 => k_is)
    (case k44_ => k_is)
    (case a45 => k_is)
    (case l45 => k_is)
    (case c45 => k_is)
    (case k45_ => k_is)
    (case a46 => k_is)
    (case l46 => k_is)
    (case c46 => k_is)
    (case k46_ => k_is)
    (case a47 => k_is)
    (case l47 => k_is)
    (case c47 => k_is)
    (case k47_ => k_is)
    (case a48 => k_is)
    (case l48 => k_is)
    (case c48 => k_is)
    (case k48_ => k_is)
    (case a49 => k_is)
    (case l49 => k_is)
    (case c49 => k_is)
    (case k49_ => k_is)
    (case a50 => k_is)
    (case l50 => k_is)
    (case c50 => k_is)
    (case k50_ => k_is)
    (case a51 => k_is)
    (case l51 => k_is)
    (case c51 => k_is)
    (case k51_ => k_is)
    (case aJ => k_is)
    (case lJ => k_is)
    (case cJ => k_is)
    (case kJ_ => k_is)
    (case iJ => k_is)
    (case aI => k_is)
    (case lI => k_is)
    (case cI => k_is)
    (case kI_ => k_is)
    (case dI => exact rfl)
    (case lT => k_is)
    (case vT => exact rfl)
    (case iI => k_is)
  (case NT => exact fun w => rfl)
  (case R0 => exact ⟨_, rfl⟩); (case T0 => exact fun w => ⟨_, rfl⟩); (case R1 => exact ⟨_, rfl⟩); (case R2 => exact ⟨_, rfl⟩); (case R3 => exact ⟨_, rfl⟩)
  (case T1 => exact fun w => ⟨_, rfl⟩); (case T2 => exact fun w => ⟨_, rfl⟩); (case T3 => exact fun w => ⟨_, rfl⟩); (case T4 => exact fun w => ⟨249, rfl⟩)
