import PyProof.Rows.All
import Wide.All
import OpenK.AllK
import Wide.FinOn
import Lean
import PyProof.EqAt
import PyProof.EqKinds
import PyProof.TupleCall
import PyProof.NeKinds
import PyProof.AutoListH
import PyProof.Rows.Range3
import PyProof.ZipIter
import KE.KEqDict
import KE.KDictList
import PyProof.WalksEnum
import PyProof.EnumMake
import KE.KPairComp
import PySem.Challenge.RW_numbersay_k32_tongues_written
set_option Elab.async false
set_option linter.all false
set_option maxRecDepth 100000
/-! THE HAND LAYER, for ints, bools, texts, own classes, LISTS and tuples (index, slices, in, append, pop ..), calls, loops. Paste it whole ahead of your own text; what your proof does not reach may be deleted. -/
namespace L2
open PySem PySem.Spec PyProof.Rows

/-- a key: an int or a str -/
abbrev Key := Sum Int Str
def keyIs : Key → Value → Bool
  | .inl k, v => Value.isInt k v
  | .inr x, v => Value.isStrOf x v
def keyH (w : World) : Key → Int
  | .inl k => hashInt k
  | .inr x => hashStr w x
theorem keyIs_shape : ∀ {k : Key} {v : Value}, keyIs k v = true → (∃ i t, k = Sum.inl i ∧ v = Value.int i t) ∨ (∃ x t, k = Sum.inr x ∧ v = Value.str x t)
  | .inl i, v, h => by
    obtain ⟨t, e⟩ := Value.isInt_shape (k := i) (v := v) h
    exact .inl ⟨i, t, rfl, e⟩
  | .inr x, v, h => by
    obtain ⟨t, e⟩ := Value.isStrOf_shape (x := x) (v := v) h
    exact .inr ⟨x, t, rfl, e⟩
theorem key_ll (a b : Int) : decide ((Sum.inl a : Key) = Sum.inl b) = (a == b) := by
  by_cases e : a = b
  · subst e; simp
  · have h : ¬ (Sum.inl a : Key) = Sum.inl b := fun q => e (Sum.inl.inj q)
    rw [decide_eq_false h]
    exact (beq_eq_false_iff_ne.mpr e).symm
theorem key_rr (a b : Str) : decide ((Sum.inr a : Key) = Sum.inr b) = decide (a = b) := by
  by_cases e : a = b
  · subst e; simp
  · have h : ¬ (Sum.inr a : Key) = Sum.inr b := fun q => e (Sum.inr.inj q)
    rw [decide_eq_false h, decide_eq_false e]
theorem key_lr (a : Int) (b : Str) : decide ((Sum.inl a : Key) = Sum.inr b) = false := decide_eq_false (fun q => nomatch q)
theorem key_rl (a : Str) (b : Int) : decide ((Sum.inr a : Key) = Sum.inl b) = false := decide_eq_false (fun q => nomatch q)

def mixKind (prog : Program) (w : World) : PySem.KeyKind prog w Key where
  is := keyIs
  hash := keyH w
  inj := fun v a b ha hb => by
    rcases keyIs_shape ha with ⟨i, t, rfl, rfl⟩ | ⟨x, t, rfl, rfl⟩
    · rcases keyIs_shape hb with ⟨j, u, rfl, e⟩ | ⟨y, u, rfl, e⟩
      · injection e with e1 _; rw [e1]
      · exact nomatch e
    · rcases keyIs_shape hb with ⟨j, u, rfl, e⟩ | ⟨y, u, rfl, e⟩
      · exact nomatch e
      · injection e with e1 _; rw [e1]
  byValue := fun k v h => by
    rcases keyIs_shape h with ⟨i, t, rfl, rfl⟩ | ⟨x, t, rfl, rfl⟩ <;> rfl
  pyHash := fun hv h => by
    rcases keyIs_shape hv with ⟨i, t, rfl, rfl⟩ | ⟨x, t, rfl, rfl⟩
    · exact wpAny_pyHash_int h
    · exact wpAny_pyHash_str h
  eqBool := fun hu hv h => by
    rcases keyIs_shape hu with ⟨i, t, rfl, rfl⟩ | ⟨x, t, rfl, rfl⟩
    · rcases keyIs_shape hv with ⟨j, u, rfl, rfl⟩ | ⟨y, u, rfl, rfl⟩
      · rw [key_ll] at h; exact wpAny_eqBool_int h
      · rw [key_lr] at h; exact SeqAt.EqAt.int_str i t y u _ _ _ _ h
    · rcases keyIs_shape hv with ⟨j, u, rfl, rfl⟩ | ⟨y, u, rfl, rfl⟩
      · rw [key_rl] at h; exact SeqAt.EqAt.str_int x t j u _ _ _ _ h
      · rw [key_rr] at h; exact wpAny_eqBool_str h
  «strs» := fun k x t v h => by
    rcases keyIs_shape h with ⟨i, u, rfl, e⟩ | ⟨y, u, rfl, e⟩
    · exact nomatch e
    · injection e with e1 _
      subst e1
      cases v <;> rfl

end L2

namespace L2
open PySem PySem.Spec PyProof.Rows

/-- a value, without the heap -/
inductive V where
  | non | bl (b : Bool) | int (i : Int) | str (x : Str) | byt (b : Array UInt8) | flt (b : UInt64) | ref (a : Addr) | ty (n : String)
  deriving DecidableEq

def RelV : V → Value → Prop
  | .non, u => u = Value.none
  | .bl b, u => u = Value.bool b
  | .int i, u => ∃ t, u = Value.int i t
  | .str x, u => ∃ t, u = Value.str x t
  | .byt b, u => ∃ t, u = Value.bytes b t
  | .flt b, u => ∃ t, u = Value.float b t
  | .ref a, u => u = Value.ref a
  | .ty n, u => u = Value.type n

abbrev Vals : List V → List Value → Prop := Paired RelV
theorem Vals.length {xs : List V} {us : List Value} (r : Vals xs us) : xs.length = us.length := Paired.length r
theorem Vals.get : ∀ {xs : List V} {us : List Value} {i : Nat} {x : V}, Vals xs us → xs[i]? = some x → ∃ u, us[i]? = some u ∧ RelV x u
  | _, _, _, _, .nil, e => by simp at e
  | _, _, 0, _, .cons r _, e => by simp at e; subst e; exact ⟨_, rfl, r⟩
  | _, _, i + 1, x, .cons _ t, e => by
    obtain ⟨u, h1, h2⟩ := Vals.get (i := i) (x := x) t (by simpa using e)
    exact ⟨u, by simpa using h1, h2⟩
theorem Vals.set {x : V} {u : Value} (r : RelV x u) : ∀ {xs : List V} {us : List Value} (i : Nat), Vals xs us → Vals (xs.set i x) (us.set i u)
  | _, _, _, .nil => .nil
  | _, _, 0, .cons _ t => .cons r t
  | _, _, i + 1, .cons q t => .cons q (Vals.set r i t)
theorem Vals.append : ∀ {xs ys : List V} {us ws : List Value}, Vals xs us → Vals ys ws → Vals (xs ++ ys) (us ++ ws)
  | _, _, _, _, .nil, s => s
  | _, _, _, _, .cons r t, s => .cons r (Vals.append t s)
theorem Vals.take : ∀ {xs : List V} {us : List Value} (n : Nat), Vals xs us → Vals (xs.take n) (us.take n)
  | _, _, 0, _ => .nil
  | _, _, _ + 1, .nil => .nil
  | _, _, n + 1, .cons r t => .cons r (Vals.take n t)
theorem Vals.drop : ∀ {xs : List V} {us : List Value} (n : Nat), Vals xs us → Vals (xs.drop n) (us.drop n)
  | _, _, 0, r => r
  | _, _, _ + 1, .nil => .nil
  | _, _, n + 1, .cons _ t => Vals.drop n t
def RelO : Option V → Option Value → Prop
  | some v, some u => RelV v u
  | none, none => True
  | _, _ => False
def KV {κ : Type} : List (κ × V) → List (κ × Value) → Prop := Paired fun (p : κ × V) (q : κ × Value) => p.1 = q.1 ∧ RelV p.2 q.2

/-- a key of a dict (00_mix): an int or a text -/
def kV : Key → V
  | .inl i => .int i
  | .inr x => .str x

/-- what stands at a tracked address -/
inductive HO where
  /-- a list -/
  | lst (xs : List V)
  /-- a tuple (never changes) -/
  | tup (xs : List V)
  /-- a dict whose keys are ints and texts; one whose keys are tuples of ints and texts (the empty one is both) -/
  | dK (kvs : List (Key × V)) | dT (kvs : List (List Key × V))
  /-- a set of ints: its members, its size -/
  | set (S : Int → Bool) (n : Nat)
  /-- an instance of the class at C, its dict at dx, its attributes -/
  | ins (C dx : Addr) (fs : List (Str × V))
  /-- the dict of the instance at x -/
  | own (x : Addr)
  /-- the dict of an exception -/
  | xd (fs : List (Str × V))
  /-- a bound method, f of x -/
  | met (f x : Addr)
  /-- a range object lo, lo + 1, .. below hi -/
  | rng (lo hi : Int)
  /-- a thing that is known to the object (the script; a dict while a loop walks it): read, never written while it is so -/
  | frz (o : Obj) (u : HO)
  /-- a code object's table -/
  | tbl (ps : Array Value)
  /-- any other thing, by what is true of its one object (a def of one's own: SetO a S n := HO.ext fun h => ..) -/
  | ext (φ : Heap → Prop)

abbrev Hp := Addr → Option HO
def upd (H : Hp) (a : Addr) (o : HO) : Hp := fun b => if b = a then some o else H b
theorem upd_same {H : Hp} {a : Addr} {o : HO} : upd H a o a = some o := by unfold upd; rw [if_pos rfl]
theorem upd_ne {H : Hp} {a b : Addr} {o : HO} (h : b ≠ a) : upd H a o b = H b := by unfold upd; rw [if_neg h]
theorem upd_upd {H : Hp} {a : Addr} {o u : HO} : upd (upd H a o) a u = upd H a u := by
  funext b; unfold upd; split <;> rfl
/-- two objects of different content stand apart -/
theorem ne_of {H : Hp} {a b : Addr} {o u : HO} (h : H a = some o) (h' : H b = some u) (d : o ≠ u) : a ≠ b := by
  intro e; subst e; rw [h] at h'; exact d (Option.some.inj h')
theorem ne_of_none {H : Hp} {a b : Addr} {o : HO} (h : H a = some o) (h' : H b = none) : a ≠ b := by
  intro e; subst e; rw [h] at h'; cases h'

section
variable (P : Program) (w : World)
def ObjOk (H : Hp) (h : Heap) (a : Addr) : HO → Prop
  | .lst xs => xs.length ≤ sizeLine ∧ ∃ (its : List Value) (n : Nat), Vals xs its ∧ h.get? a = some { cls := .type "list", data := .seq its.toArray n }
  | .tup xs => xs.length ≤ sizeLine ∧ ∃ its : List Value, Vals xs its ∧ IsTup h a its.toArray
  | .dK kvs => kvs.length ≤ sizeLine ∧ (a == sysModules) = false ∧ ∃ vs, KV kvs vs ∧ h.DictOf (mixKind P w) a vs
  | .dT kvs => kvs.length ≤ sizeLine ∧ (a == sysModules) = false ∧ ∃ xs : List (List Key × Addr × Value),
      Paired (fun (p : List Key × V) (q : List Key × Addr × Value) => p.1 = q.1 ∧ H q.2.1 = some (.tup (p.1.map kV)) ∧ RelV p.2 q.2.2) kvs xs ∧
      ∃ o es ep, h.get? a = some o ∧ o.ExactDict ∧ o.data = .dict es ep ∧ es.toList = xs.map (entryOfKey (tupleKind (mixKind P w))) ∧ (xs.map (·.1)).Nodup
  | .set S n => h.SetOf (intKind P w) a S n
  | .ins C dx fs => H dx = some (.own a) ∧ fs.length ≤ 1000 ∧ dx ≠ a ∧ h.get? a = some (PySem.W.instObj C dx) ∧
      ∃ mA, h.Ns1 dx mA ∧ (∀ f, RelO (fs.lookup f) (mA f)) ∧ PySem.Within mA (fs.map (·.1))
  | .own _ => ∃ o, h.get? a = some o
  | .xd fs => ∃ mA, h.Ns1 a mA ∧ ∀ f, RelO (fs.lookup f) (mA f)
  | .rng lo hi => ∃ t u v, h.get? a = some { cls := .type "range", data := .fields #[.int lo t, .int hi u, .int 1 v] }
  | .frz o u => h.get? a = some o ∧ ObjOk H h a u
  | .tbl ps => h.get? a = some { cls := .none, data := .fields ps }
  | .met f x => h.get? a = some (PySem.W.methodObj (.ref f) (.ref x))
  | .ext φ => φ h ∧ (∃ o, h.get? a = some o) ∧ ∀ h1 h2 : Heap, φ h1 → (∀ o, h1.get? a = some o → h2.get? a = some o) → φ h2
/-- the abstract heap is held -/
def HOk (H : Hp) (h : Heap) : Prop := ∀ a o, H a = some o → ObjOk P w H h a o
end

section
variable {P : Program} {w : World} {H H' : Hp} {h h' : Heap} {a : Addr} {o : HO}
theorem ObjOk.lt (x : ObjOk P w H h a o) : a < h.objs.size := by
  cases o with
  | lst xs => obtain ⟨_, _, _, _, e⟩ := x; exact Heap.lt_size e
  | tup xs => obtain ⟨_, _, _, p⟩ := x; exact p.lt
  | dK kvs => obtain ⟨_, _, _, _, o, _, _, e, _⟩ := x; exact Heap.lt_size e
  | dT kvs => obtain ⟨_, _, _, _, o, _, _, e, _⟩ := x; exact Heap.lt_size e
  | set S n => obtain ⟨o, _, _, _, e, _⟩ := x; exact Heap.lt_size e
  | ins C dx fs => obtain ⟨_, _, _, e, _⟩ := x; exact Heap.lt_size e
  | own y => obtain ⟨_, e⟩ := x; exact Heap.lt_size e
  | xd fs => obtain ⟨_, ⟨_, _, _, e, _⟩, _⟩ := x; exact Heap.lt_size e
  | rng lo hi => obtain ⟨_, _, _, e⟩ := x; exact Heap.lt_size e
  | frz ob u => obtain ⟨e, _⟩ := x; exact Heap.lt_size e
  | tbl ps => exact Heap.lt_size (show h.get? a = some _ from x)
  | met f y => exact Heap.lt_size (show h.get? a = some _ from x)
  | ext φ => obtain ⟨_, ⟨_, e⟩, _⟩ := x; exact Heap.lt_size e
theorem Paired.mapP {α β : Type} {F G : α → β → Prop} : ∀ {l₁ : List α} {l₂ : List β}, Paired F l₁ l₂ → (∀ a b, F a b → G a b) → Paired G l₁ l₂
  | _, _, .nil, _ => .nil
  | _, _, .cons r t, f => .cons (f _ _ r) (Paired.mapP t f)
/-- what an object's description leans on: its own object, its own dict, the tuples -/
theorem ObjOk.stay (x : ObjOk P w H h a o) (k : ∀ b u, (b = a ∨ H b = some (.own a)) → h.get? b = some u → h'.get? b = some u)
    (ho : ∀ b, H b = some (.own a) → H' b = some (.own a)) (ht : ∀ b xs, H b = some (.tup xs) → H' b = some (.tup xs)) : ObjOk P w H' h' a o := by
  induction o with
  | lst xs => obtain ⟨z, its, n, r, e⟩ := x; exact ⟨z, its, n, r, k _ _ (.inl rfl) e⟩
  | tup xs => obtain ⟨z, its, r, ob, e, c⟩ := x; exact ⟨z, its, r, ob, k _ _ (.inl rfl) e, c⟩
  | dK kvs => obtain ⟨z, y, vs, r, ob, es, ep, e, c⟩ := x; exact ⟨z, y, vs, r, ob, es, ep, k _ _ (.inl rfl) e, c⟩
  | dT kvs =>
    obtain ⟨z, y, xs, r, ob, es, ep, e, c⟩ := x
    exact ⟨z, y, xs, Paired.mapP r fun p q z => ⟨z.1, ht _ _ z.2.1, z.2.2⟩, ob, es, ep, k _ _ (.inl rfl) e, c⟩
  | set S n => obtain ⟨ob, es, ep, t, e, c⟩ := x; exact ⟨ob, es, ep, t, k _ _ (.inl rfl) e, c⟩
  | ins C dx fs =>
    obtain ⟨d, z, ne, e, mA, ⟨od, es, ep, e2, c⟩, r⟩ := x
    exact ⟨ho _ d, z, ne, k _ _ (.inl rfl) e, mA, ⟨od, es, ep, k _ _ (.inr d) e2, c⟩, r⟩
  | own y => obtain ⟨ob, e⟩ := x; exact ⟨ob, k _ _ (.inl rfl) e⟩
  | xd fs => obtain ⟨mA, ⟨od, es, ep, e, c⟩, r⟩ := x; exact ⟨mA, ⟨od, es, ep, k _ _ (.inl rfl) e, c⟩, r⟩
  | rng lo hi => obtain ⟨t, u, v, e⟩ := x; exact ⟨t, u, v, k _ _ (.inl rfl) e⟩
  | frz ob u ih => obtain ⟨e, q⟩ := x; exact ⟨k _ _ (.inl rfl) e, ih q⟩
  | tbl ps =>
    have e : h.get? a = some { cls := .none, data := .fields ps } := x
    show h'.get? a = some { cls := .none, data := .fields ps }
    exact k a _ (.inl rfl) e
  | met f y =>
    have e : h.get? a = some (PySem.W.methodObj (.ref f) (.ref y)) := x
    show h'.get? a = some (PySem.W.methodObj (.ref f) (.ref y))
    exact k a _ (.inl rfl) e
  | ext φ => obtain ⟨p, ⟨o, e⟩, st⟩ := x; exact ⟨st _ _ p fun o q => k _ _ (.inl rfl) q, ⟨o, k _ _ (.inl rfl) e⟩, st⟩
theorem HOk.lt (x : HOk P w H h) (e : H a = some o) : a < h.objs.size := (x a o e).lt
theorem HOk.fresh (x : HOk P w H h) (e : h.objs.size ≤ a) : H a = none := by
  cases q : H a with
  | none => rfl
  | some u => exact absurd (Nat.lt_of_lt_of_le (x.lt q) e) (Nat.lt_irrefl _)
/-- every object of the heap is kept -/
theorem HOk.kept (x : HOk P w H h) (k : ∀ b u, h.get? b = some u → h'.get? b = some u) : HOk P w H h' := fun a o e =>
  (x a o e).stay (fun b u _ q => k b u q) (fun _ q => q) fun _ _ q => q
/-- a new object is laid and tracked -/
theorem HOk.laid (x : HOk P w H h) (k : ∀ b u, h.get? b = some u → h'.get? b = some u) (hp : h.objs.size ≤ a) (new : ObjOk P w (upd H a o) h' a o) : HOk P w (upd H a o) h' := fun b u e => by
  have hn := x.fresh hp
  by_cases hb : b = a
  · subst hb; rw [upd_same] at e; cases e; exact new
  · rw [upd_ne hb] at e
    exact (x b u e).stay (fun c v _ q => k c v q) (fun c q => by rw [upd_ne (ne_of_none q hn)]; exact q) fun c xs q => by rw [upd_ne (ne_of_none q hn)]; exact q
end

/-- what may be read as u: it is u, or a known u -/
def Rd (H : Hp) (a : Addr) (u : HO) : Prop := H a = some u ∨ ∃ o, H a = some (.frz o u)
theorem Rd.of {H : Hp} {a : Addr} {u : HO} (h : H a = some u) : Rd H a u := .inl h
theorem Rd.ok {P : Program} {w : World} {H : Hp} {h : Heap} {a : Addr} {u : HO} (r : Rd H a u) (x : HOk P w H h) : ObjOk P w H h a u := by
  rcases r with r | ⟨o, r⟩
  · exact x a u r
  · obtain ⟨_, q⟩ := x a _ r
    exact q
/-- what may be written -/
def Mut : Option HO → Prop
  | some (.lst _) => True
  | some (.dK _) => True
  | some (.dT _) => True
  | some (.set _ _) => True
  | some (.ins _ _ _) => True
  | some (.ext _) => True
  | _ => False
section
variable {P : Program} {w : World} {H : Hp} {h h' : Heap} {x e : Addr} {o' : HO}
/-- the object at e is changed: x itself, or the dict of the instance x -/
theorem HOk.write (ok : HOk P w H h) (mu : Mut (H x)) (he : e = x ∨ H e = some (.own x)) (k : ∀ b u, b ≠ e → h.get? b = some u → h'.get? b = some u) (heo : ∃ u, h'.get? e = some u)
    (new : ObjOk P w (upd H x o') h' x o') : HOk P w (upd H x o') h' := fun b u q => by
  have nown : ∀ c y, H c = some (.own y) → c ≠ x := fun c y r z => by subst z; rw [r] at mu; exact mu
  have ntup : ∀ c xs, H c = some (.tup xs) → c ≠ x := fun c xs r z => by subst z; rw [r] at mu; exact mu
  by_cases hb : b = x
  · subst hb; rw [upd_same] at q; cases q; exact new
  · rw [upd_ne hb] at q
    by_cases hbe : b = e
    · have q' : H b = some (.own x) := by
        rcases he with z | z
        · exact absurd (hbe.trans z) hb
        · rw [hbe]; exact z
      rw [q] at q'; cases q'
      obtain ⟨v, hv⟩ := heo
      exact ⟨v, by rw [hbe]; exact hv⟩
    · refine (ok b u q).stay (fun c v hc r => k c v ?_ r) (fun c r => by rw [upd_ne (nown c b r)]; exact r) fun c xs r => by rw [upd_ne (ntup c xs r)]; exact r
      rcases hc with rfl | hc
      · exact hbe
      · rintro rfl
        rcases he with z | z
        · exact nown c b hc z
        · rw [hc] at z; cases z; exact hb rfl
end

/-! ### kept unless tracked; of the frames at fs (the callers') the slots may change (an exception that passes writes there); of the records at ex (iterators) nothing is said -/
structure Un (fs ex : List Addr) (H H' : Hp) (h h' : Heap) : Prop where
  keep : ∀ b o, h.get? b = some o → H b = none → b ∉ fs → b ∉ ex → h'.get? b = some o
  slot : ∀ b o, h.get? b = some o → H b = none → b ∈ fs → b ∉ ex → ∃ sl, h'.get? b = some { o with slots := sl }
  free : ∀ b o, h.get? b = some o → H b = none → b ∉ ex → H' b = none
  there : ∀ b o, h.get? b = some o → b ∉ ex → ∃ o', h'.get? b = some o'
  tups : ∀ b xs, H b = some (.tup xs) → H' b = some (.tup xs)
  frzs : ∀ b o u, H b = some (.frz o u) → H' b = some (.frz o u)
  tbls : ∀ b ps, H b = some (.tbl ps) → ∃ more, H' b = some (.tbl (ps ++ more))
section
variable {fs fs' ex ex' : List Addr} {H H1 H2 : Hp} {h h1 h2 h' : Heap} {a x e : Addr} {o : HO}
theorem Un.any (u : Un fs ex H H1 h h1) {b : Addr} {ob : Obj} (q : h.get? b = some ob) (n : H b = none) (hx : b ∉ ex) : ∃ sl, h1.get? b = some { ob with slots := sl } := by
  by_cases hb : b ∈ fs
  · exact u.slot b ob q n hb hx
  · exact ⟨ob.slots, u.keep b ob q n hb hx⟩
theorem Un.trans (a : Un fs ex H H1 h h1) (b : Un fs ex H1 H2 h1 h2) : Un fs ex H H2 h h2 where
  keep := fun c ob q n hc hx => b.keep c ob (a.keep c ob q n hc hx) (a.free c ob q n hx) hc hx
  slot := fun c ob q n hc hx => by
    obtain ⟨sl, e1⟩ := a.slot c ob q n hc hx
    obtain ⟨sl', e2⟩ := b.slot c _ e1 (a.free c ob q n hx) hc hx
    exact ⟨sl', e2⟩
  free := fun c ob q n hx => by
    obtain ⟨o', e1⟩ := a.there c ob q hx
    exact b.free c o' e1 (a.free c ob q n hx) hx
  there := fun c ob q hx => by
    obtain ⟨o', e1⟩ := a.there c ob q hx
    exact b.there c o' e1 hx
  tups := fun c xs q => b.tups c xs (a.tups c xs q)
  frzs := fun c ob xs q => b.frzs c ob xs (a.frzs c ob xs q)
  tbls := fun c ps q => by
    obtain ⟨m1, e1⟩ := a.tbls c ps q
    obtain ⟨m2, e2⟩ := b.tbls c _ e1
    exact ⟨m1 ++ m2, by rw [e2, Array.append_assoc]⟩
theorem Un.kept (k : ∀ b u, h.get? b = some u → h'.get? b = some u) : Un fs ex H H h h' :=
  ⟨fun b ob q _ _ _ => k b ob q, fun b ob q _ _ _ => ⟨ob.slots, k b ob q⟩, fun _ _ _ n _ => n, fun b ob q _ => ⟨ob, k b ob q⟩, fun _ _ q => q, fun _ _ _ q => q, fun _ ps q => ⟨#[], by rw [q]; simp⟩⟩
theorem Un.refl : Un fs ex H H h h := Un.kept fun _ _ q => q
theorem Un.laid (k : ∀ b u, h.get? b = some u → h'.get? b = some u) (hp : h.objs.size ≤ a) (hn : H a = none) : Un fs ex H (upd H a o) h h' where
  keep := fun b u q _ _ _ => k b u q
  slot := fun b u q _ _ _ => ⟨u.slots, k b u q⟩
  free := fun b u q n _ => by rw [upd_ne (Nat.ne_of_lt (Nat.lt_of_lt_of_le (Heap.lt_size q) hp))]; exact n
  there := fun b u q _ => ⟨u, k b u q⟩
  tups := fun b xs q => by rw [upd_ne (ne_of_none q hn)]; exact q
  frzs := fun b u xs q => by rw [upd_ne (ne_of_none q hn)]; exact q
  tbls := fun b ps q => ⟨#[], by rw [upd_ne (ne_of_none q hn), q]; simp⟩
theorem Un.write (mu : Mut (H x)) (he : e = x ∨ H e = some (.own x)) (k : ∀ b u, b ≠ e → h.get? b = some u → h'.get? b = some u) (heo : ∃ u, h'.get? e = some u) : Un fs ex H (upd H x o) h h' := by
  have hx : ∀ b, H b = none → b ≠ x := fun b n z => by subst z; rw [n] at mu; exact mu
  have hb : ∀ b, H b = none → b ≠ e := fun b n z => by
    subst z
    rcases he with r | r
    · exact hx b n r
    · rw [n] at r; cases r
  have hm : ∀ b u, H b = some u → ¬ Mut (some u) → b ≠ x := fun b u q nm z => by subst z; rw [q] at mu; exact nm mu
  refine ⟨fun b u q n _ _ => k b u (hb b n) q, fun b u q n _ _ => ⟨u.slots, k b u (hb b n) q⟩, fun b u q n _ => by rw [upd_ne (hx b n)]; exact n, fun b u q _ => ?_,
    fun b xs q => by rw [upd_ne (hm b _ q fun z => z)]; exact q, fun b u xs q => by rw [upd_ne (hm b _ q fun z => z)]; exact q, fun b ps q => ⟨#[], by rw [upd_ne (hm b _ q fun z => z), q]; simp⟩⟩
  by_cases hbe : b = e
  · subst hbe; exact heo
  · exact ⟨u, k b u hbe q⟩
theorem Un.mono (u : Un fs ex H H1 h h1) (hs : ∀ b ∈ fs, b ∈ fs') (hx : ∀ b ∈ ex, b ∈ ex') : Un fs' ex' H H1 h h1 :=
  ⟨fun b ob q n hb he => u.keep b ob q n (fun z => hb (hs b z)) fun z => he (hx b z), fun _ _ q n _ he => u.any q n fun z => he (hx _ z), fun b ob q n he => u.free b ob q n fun z => he (hx b z), fun b ob q he => u.there b ob q fun z => he (hx b z), u.tups, u.frzs, u.tbls⟩
end

/-! ### the heap without what is tracked -/
def trk (h : Heap) (H : Hp) : List Addr := (List.range h.objs.size).filter fun a => (H a).isSome
def hidT (h : Heap) (H : Hp) : Heap := PySem.W.hideAll h (trk h H)
theorem hidT_size (h : Heap) (H : Hp) : (hidT h H).objs.size = h.objs.size := PySem.W.hideAll_size _ _
theorem hidT_get {h : Heap} {H : Hp} {b : Addr} {o : Obj} (e : h.get? b = some o) (n : H b = none) : (hidT h H).get? b = some o :=
  PySem.W.hideAll_get _ e fun hm => by
    have q : (H b).isSome = true := (List.mem_filter.mp hm).2
    rw [n] at q; simp at q
theorem of_hidT {h : Heap} {H : Hp} {b : Addr} {o : Obj} (e : (hidT h H).get? b = some o) : h.get? b = some o ∧ H b = none := by
  have e' : h.get? b = some o := PySem.W.of_hideAll (trk h H) e
  refine ⟨e', ?_⟩
  cases q : H b with
  | none => rfl
  | some x =>
    have hm : b ∈ trk h H := List.mem_filter.mpr ⟨List.mem_range.mpr (Heap.lt_size e'), by simp [q]⟩
    have z : (hidT h H).get? b = none := PySem.W.hideAll_none (trk h H) hm
    rw [z] at e; cases e

/-! ### OpenK's ledger, filled with every new object but one -/
def allNews (g h : Heap) (L : Addr) : List (Addr × Obj) := (List.range h.objs.size).filterMap fun a => if a = L ∨ (g.get? a).isSome = true then none else (h.get? a).map fun o => (a, o)
def rest (g h : Heap) (L d : Addr) : List (Addr × Obj) := (allNews g h L).filter fun p => decide (p.1 ≠ d)
end L2

namespace L2
open PySem PySem.Spec PyProof.Rows

/-- the module's facts, over the base: the heap at the law's entry without what is tracked there -/
structure Mod (K : PySem.W.Frag) (mg : Str → Option Value) (base : Heap) : Prop where
  kin : K.In base
  glob : base.Ns mainGlobals mg
  blt : ∃ mb, base.Ns builtinsNs mb ∧ ∀ x : Str, x ≠ "__name__" → mb x = bootBuiltins x
  nolimit : base.NoLimit

/-- the context: a def's body (or a comprehension's block) running. base: fixed through the whole law; s₀, H₀: the entry; outer: the frames whose slots others may change (a def's callers); stack: all frames that run;
   ex: iterators that were made ahead of the entry and are walked here (a comprehension's); fn: the names whose cells were made at the entry (a def: all; a comprehension's block: its own); calm: not within an except suite; pn: pins that every state bears; xe: what is wanted of an exception that leaves the code -/
structure Cx where
  prog : Program
  w : World
  K : PySem.W.Frag
  mg : Str → Option Value
  base : Heap
  A : Around
  N : List Str
  s₀ : Shared
  H₀ : Hp
  env : Env
  outer : List Env
  stack : List Env
  ex : List Addr
  fn : Str → Bool
  calm : Bool
  pn : List (Addr × Obj)
  xe : Value → Shared → Prop
/-- the callers' frames -/
def frs (l : List Env) : List Addr := l.filterMap (·.frame)
abbrev Cx.fs (X : Cx) : List Addr := frs X.outer

def Vis (sc : Scope) (x : Str) : Prop := sc.names.lookup x = some .local ∨ sc.names.lookup x = some .cell ∨ sc.names.lookup x = some .free
def Loc (sc : Scope) (x : Str) : Prop := sc.names.lookup x = some .local ∨ sc.names.lookup x = some .cell
def Look (env : Env) (h : Heap) (m : Str → Option Value) (x : Str) (u : Value) : Prop :=
  (env.kindOf x = some .local ∧ m x = some u) ∨ ((env.kindOf x = some .cell ∨ env.kindOf x = some .free) ∧ ∃ c, env.cells.lookup x = some c ∧ h.IsCell c (some u))

structure Cx.Ok (X : Cx) : Prop where
  mod : Mod X.K X.mg X.base
  kind : X.env.scope.kind = .function
  glob : X.env.globals = mainGlobals
  blt : X.env.builtins = builtinsNs
  above : X.s₀.heap.objs.size ≤ X.env.locals
  inj : ∀ x y c, X.env.cells.lookup x = some c → X.env.cells.lookup y = some c → x = y
  has : ∀ x, (X.env.kindOf x = some .cell ∨ X.env.kindOf x = some .free) → ∃ c, X.env.cells.lookup x = some c
  cab : ∀ x c, X.fn x = true → X.env.cells.lookup x = some c → X.s₀.heap.objs.size ≤ c
  hd : X.calm = true → X.A.handled = none
  frames : X.A.frames = some X.stack
  stk : X.stack = X.outer ∨ (X.stack = X.env :: X.outer ∧ X.env.frame = some X.env.locals)
  exf : ∀ b ∈ X.ex, b ≠ X.env.locals ∧ ∀ x c, X.env.cells.lookup x = some c → c ≠ b
  bs : ∀ b o, X.base.get? b = some o → X.s₀.heap.get? b = some o ∧ X.H₀ b = none
  bsz : X.base.objs.size ≤ X.s₀.heap.objs.size
  noex : ∀ b o, X.base.get? b = some o → b ∉ X.ex
  exfs : ∀ b ∈ X.ex, b ∉ X.fs
  funs : X.s₀.heap.FunFrames X.base X.outer
  frf : ∀ b ∈ X.fs, X.H₀ b = none

structure Inv (X : Cx) (pins : List (Addr × Obj)) (σ : List (Option V)) (H : Hp) (s : Shared) : Prop where
  ok : X.Ok
  os : s.os = X.s₀.os
  bare : AllBare s.gens
  base : Un X.fs X.ex X.H₀ H X.s₀.heap s.heap
  loc : ∃ m, s.heap.Ns X.env.locals m ∧ ∀ (i : Nat) (x : Str) (v : V), X.N[i]? = some x → σ[i]? = some (some v) → Vis X.env.scope x → ∃ u, RelV v u ∧ Look X.env s.heap m x u
  cell : ∀ x c, X.env.cells.lookup x = some c → ∃ v, s.heap.IsCell c v
  free : H X.env.locals = none
  freeC : ∀ x c, X.env.cells.lookup x = some c → H c = none
  pin : ∀ p ∈ X.pn ++ pins, s.heap.get? p.1 = some p.2 ∧ H p.1 = none ∧ p.1 ≠ X.env.locals ∧ p.1 ∉ X.fs ∧ ∀ v, p.2.data ≠ .cell v
  hok : HOk X.prog X.w H s.heap
  len : σ.length = X.N.length

section
variable {X : Cx} {pins : List (Addr × Obj)} {σ : List (Option V)} {H H' : Hp} {s : Shared} {h' : Heap}

theorem Cx.Ok.nofr (ok : X.Ok) {b : Addr} {o : Obj} (e : X.base.get? b = some o) : b ∉ X.fs := fun hb => by
  have := (ok.funs.mem hb).1
  rw [e] at this; cases this
theorem Inv.bs (I : Inv X pins σ H s) : ∀ b o, X.base.get? b = some o → s.heap.get? b = some o ∧ H b = none := fun b o e =>
  ⟨I.base.keep b o (I.ok.bs b o e).1 (I.ok.bs b o e).2 (I.ok.nofr e) (I.ok.noex b o e), I.base.free b o (I.ok.bs b o e).1 (I.ok.bs b o e).2 (I.ok.noex b o e)⟩
theorem Inv.bk (I : Inv X pins σ H s) : ∀ b o, X.base.get? b = some o → s.heap.get? b = some o := fun b o e => (I.bs b o e).1
theorem Inv.mod (I : Inv X pins σ H s) : Mod X.K X.mg X.base := I.ok.mod
theorem Inv.kIn (I : Inv X pins σ H s) : X.K.In s.heap := I.ok.mod.kin.keeps I.bk
theorem Inv.nolimit (I : Inv X pins σ H s) : s.heap.NoLimit := I.ok.mod.nolimit.keeps I.bk
/-- the frame over the base: for OpenK's rules (K.In X.base is I.mod.kin) -/
theorem Inv.fr (I : Inv X pins σ H s) : ∃ m, Fr X.base X.env.locals s.heap m :=
  let ⟨m, hn, _⟩ := I.loc
  ⟨m, hn, I.bk, Nat.le_trans I.ok.bsz I.ok.above⟩
theorem Inv.lt (I : Inv X pins σ H s) : X.env.locals < s.heap.objs.size := let ⟨_, hn, _⟩ := I.loc; hn.lt
theorem Inv.sz (I : Inv X pins σ H s) : X.s₀.heap.objs.size ≤ s.heap.objs.size := Nat.le_trans I.ok.above (Nat.le_of_lt I.lt)
theorem Inv.nofs (I : Inv X pins σ H s) {a : Addr} (h : s.heap.objs.size ≤ a) : a ∉ X.fs := fun hb => by
  obtain ⟨_, o, ho, _⟩ := I.ok.funs.mem hb
  exact absurd (Nat.lt_of_lt_of_le (Heap.lt_size ho) (Nat.le_trans I.sz h)) (Nat.lt_irrefl _)
theorem Inv.cne (I : Inv X pins σ H s) : ∀ x c, X.env.cells.lookup x = some c → c ≠ X.env.locals := fun x c e z => by
  obtain ⟨v, o, ho, hd⟩ := I.cell x c e
  obtain ⟨m, ⟨o', es, ep, ho', hd', _⟩, _⟩ := I.loc
  rw [z, ho'] at ho; cases ho; rw [hd'] at hd; cases hd
theorem Inv.funs (I : Inv X pins σ H s) : s.heap.FunFrames X.base X.outer := by
  have all : ∀ (l : List Env), (∀ b ∈ frs l, b ∈ X.fs) → X.s₀.heap.FunFrames X.base l → s.heap.FunFrames X.base l := by
    intro l
    induction l with
    | nil => intro _ _; trivial
    | cons env r ih =>
      intro hs hl
      obtain ⟨hk, ⟨L, o, hf, hn, ho, hd⟩, hr⟩ := hl
      have hL : L ∈ X.fs := hs L (by unfold frs; rw [List.filterMap_cons, hf]; exact List.mem_cons_self)
      obtain ⟨sl, e⟩ := I.base.slot L o ho (I.ok.frf L hL) hL fun z => I.ok.exfs L z hL
      exact ⟨hk, ⟨L, _, hf, hn, e, hd⟩, ih (fun b hb => hs b (by unfold frs; rw [List.filterMap_cons, hf]; exact List.mem_cons_of_mem _ hb)) hr⟩
  exact all X.outer (fun _ hb => hb) I.ok.funs

/-- the frames that run, for a call -/
theorem Inv.stack (I : Inv X pins σ H s) : s.heap.FunFrames X.base X.stack := by
  rcases I.ok.stk with e | ⟨e, hf⟩
  · rw [e]; exact I.funs
  · rw [e]
    obtain ⟨m, hn, _⟩ := I.loc
    refine .cons (by rw [I.ok.kind]; decide) hf hn ?_ I.funs
    exact Heap.get?_none_of_le (Nat.le_trans I.ok.bsz I.ok.above)
theorem Inv.stkSub (I : Inv X pins σ H s) : ∀ b ∈ frs X.stack, b ∈ X.env.locals :: X.fs := fun b hb => by
  rcases I.ok.stk with e | ⟨e, hf⟩
  · rw [e] at hb; exact List.mem_cons_of_mem _ hb
  · rw [e] at hb
    unfold frs at hb
    rw [List.filterMap_cons, hf] at hb
    exact hb
theorem Inv.stkFree (I : Inv X pins σ H s) : ∀ b ∈ frs X.stack, H b = none := fun b hb => by
  rcases List.mem_cons.mp (I.stkSub b hb) with e | hb
  · rw [e]; exact I.free
  · obtain ⟨_, o, ho, _⟩ := I.ok.funs.mem hb
    exact I.base.free b o ho (I.ok.frf b hb) fun z => I.ok.exfs b z hb

/-- THE STEP: the untracked objects but the frame and the records at ch are kept (the callers' frames up to slots), the frame's map is kept, the new abstract heap is held -/
theorem Inv.step {g' : Array GenState} {t' : Nat} {d' : Drawn} {ch : List Addr} (I : Inv X pins σ H s)
    (hch : ∀ b ∈ ch, (b ∈ X.ex ∨ X.s₀.heap.objs.size ≤ b) ∧ b ≠ X.env.locals ∧ (∀ x c, X.env.cells.lookup x = some c → c ≠ b) ∧ ∀ p ∈ X.pn ++ pins, p.1 ≠ b)
    (keep : ∀ b o, b ≠ X.env.locals → b ∉ X.fs → b ∉ ch → s.heap.get? b = some o → H b = none → h'.get? b = some o)
    (slot : ∀ b o, b ≠ X.env.locals → b ∈ X.fs → b ∉ ch → s.heap.get? b = some o → H b = none → ∃ sl, h'.get? b = some { o with slots := sl }) (free : ∀ b o, b ∉ ch → s.heap.get? b = some o → H b = none → H' b = none)
    (there : ∀ b o, b ∉ ch → s.heap.get? b = some o → ∃ o', h'.get? b = some o')
    (tups : ∀ b xs, H b = some (.tup xs) → H' b = some (.tup xs)) (frzs : ∀ b o u, H b = some (.frz o u) → H' b = some (.frz o u)) (tbls : ∀ b ps, H b = some (.tbl ps) → ∃ more, H' b = some (.tbl (ps ++ more)))
    (ns : ∀ m, s.heap.Ns X.env.locals m → h'.Ns X.env.locals m) (hok : HOk X.prog X.w H' h') (hg : AllBare g') :
    Inv X pins σ H' { s with heap := h', gens := g', drawn := d', toks := t' } := by
  have neL : ∀ b o, X.s₀.heap.get? b = some o → b ≠ X.env.locals := fun b o e => Nat.ne_of_lt (Nat.lt_of_lt_of_le (Heap.lt_size e) I.ok.above)
  have neC : ∀ b o, X.s₀.heap.get? b = some o → b ∉ X.ex → b ∉ ch := fun b o e hx hb => by
    rcases (hch b hb).1 with z | z
    · exact hx z
    · exact absurd (Nat.lt_of_lt_of_le (Heap.lt_size e) z) (Nat.lt_irrefl _)
  have cellK : ∀ x c, X.env.cells.lookup x = some c → ∀ v, s.heap.IsCell c v → h'.IsCell c v := fun x c e v ⟨o, ho, hd⟩ => by
    have nch : c ∉ ch := fun z => (hch c z).2.2.1 x c e rfl
    by_cases hc : c ∈ X.fs
    · obtain ⟨sl, q⟩ := slot c o (I.cne x c e) hc nch ho (I.freeC x c e)
      exact ⟨_, q, hd⟩
    · exact ⟨o, keep c o (I.cne x c e) hc nch ho (I.freeC x c e), hd⟩
  refine ⟨I.ok, I.os, hg, ⟨fun b o e n hb hx => ?_, fun b o e n hb hx => ?_, fun b o e n hx => ?_, fun b o e hx => ?_, fun b xs e => tups b xs (I.base.tups b xs e), fun b o xs e => frzs b o xs (I.base.frzs b o xs e), fun b ps e => ?_⟩, ?_, fun x c e => ?_, ?_, fun x c e => ?_, fun p hp => ?_, hok, I.len⟩
  · exact keep b o (neL b o e) hb (neC b o e hx) (I.base.keep b o e n hb hx) (I.base.free b o e n hx)
  · obtain ⟨sl, e1⟩ := I.base.slot b o e n hb hx
    obtain ⟨sl', e2⟩ := slot b _ (neL b o e) hb (neC b o e hx) e1 (I.base.free b o e n hx)
    exact ⟨sl', e2⟩
  · obtain ⟨o', e1⟩ := I.base.there b o e hx
    exact free b o' (neC b o e hx) e1 (I.base.free b o e n hx)
  · obtain ⟨o', e1⟩ := I.base.there b o e hx
    exact there b o' (neC b o e hx) e1
  · obtain ⟨m1, e1⟩ := I.base.tbls b ps e
    obtain ⟨m2, e2⟩ := tbls b _ e1
    exact ⟨m1 ++ m2, by rw [e2, Array.append_assoc]⟩
  · obtain ⟨m, hn, hl⟩ := I.loc
    refine ⟨m, ns m hn, fun i x v e1 e2 e3 => ?_⟩
    obtain ⟨u, r, l⟩ := hl i x v e1 e2 e3
    refine ⟨u, r, ?_⟩
    rcases l with l | ⟨k, c, e, z⟩
    · exact .inl l
    · exact .inr ⟨k, c, e, cellK x c e _ z⟩
  · obtain ⟨v, z⟩ := I.cell x c e
    exact ⟨v, cellK x c e v z⟩
  · obtain ⟨m, ⟨o, _, _, ho, _⟩, _⟩ := I.loc
    exact free _ o (fun z => (hch _ z).2.1 rfl) ho I.free
  · obtain ⟨v, o, ho, hd⟩ := I.cell x c e
    exact free c o (fun z => (hch c z).2.2.1 x c e rfl) ho (I.freeC x c e)
  · obtain ⟨e, n, ne, nf, d⟩ := I.pin p hp
    have nch : p.1 ∉ ch := fun z => (hch p.1 z).2.2.2 p hp rfl
    exact ⟨keep p.1 p.2 ne nf nch e n, free p.1 p.2 nch e n, ne, nf, d⟩
/-- .. where the frame's own object is kept too -/
theorem Inv.un {t' : Nat} (I : Inv X pins σ H s) (u : Un X.fs [] H H' s.heap h') (hok : HOk X.prog X.w H' h') : Inv X pins σ H' { s with heap := h', toks := t' } := by
  obtain ⟨m, ⟨o, es, ep, ho, r⟩, _⟩ := id I.loc
  obtain ⟨sl, hL⟩ := u.any ho I.free (by simp)
  exact I.step (g' := s.gens) (d' := s.drawn) (ch := []) (fun _ z => nomatch z) (fun b o _ hb _ e n => u.keep b o e n hb (by simp)) (fun b o _ hb _ e n => u.slot b o e n hb (by simp)) (fun b o _ e n => u.free b o e n (by simp)) (fun b o _ e => u.there b o e (by simp)) u.tups u.frzs u.tbls (fun m' hm => by
    obtain ⟨o', es', ep', ho', r'⟩ := hm
    rw [ho] at ho'; cases ho'
    exact ⟨_, es', ep', hL, r'⟩) hok I.bare
/-- behind a call (or a comprehension's block): the slots of this frame may have changed too, the records at ch may have turned -/
theorem Inv.call {g' : Array GenState} {t' : Nat} {d' : Drawn} {ch : List Addr} (I : Inv X pins σ H s) (u : Un (frs X.stack) ch H H' s.heap h') (hok : HOk X.prog X.w H' h') (hg : AllBare g')
    (hch : ∀ b ∈ ch, (b ∈ X.ex ∨ X.s₀.heap.objs.size ≤ b) ∧ b ≠ X.env.locals ∧ (∀ x c, X.env.cells.lookup x = some c → c ≠ b) ∧ ∀ p ∈ X.pn ++ pins, p.1 ≠ b) :
    Inv X pins σ H' { s with heap := h', gens := g', drawn := d', toks := t' } := by
  obtain ⟨m, ⟨o, es, ep, ho, r⟩, _⟩ := id I.loc
  obtain ⟨sl, hL⟩ := u.any ho I.free fun z => (hch _ z).2.1 rfl
  exact I.step (ch := ch) hch (fun b o hL hb hc e n => u.keep b o e n (fun z => (List.mem_cons.mp (I.stkSub b z)).elim hL hb) hc) (fun b o _ _ hc e n => u.any e n hc) (fun b o hc e n => u.free b o e n hc) (fun b o hc e => u.there b o e hc) u.tups u.frzs u.tbls (fun m' hm => by
    obtain ⟨o', es', ep', ho', r'⟩ := hm
    rw [ho] at ho'; cases ho'
    exact ⟨_, es', ep', hL, r'⟩) hok hg
/-- an untracked record of ours (an iterator) has turned -/
theorem Inv.turned {t' : Nat} {it : Addr} (I : Inv X pins σ H s) (k : ∀ b o, b ≠ it → s.heap.get? b = some o → h'.get? b = some o) (hn : H it = none) (hL : it ≠ X.env.locals)
    (h1 : it ∈ X.ex ∨ X.s₀.heap.objs.size ≤ it) (h2 : ∀ x c, X.env.cells.lookup x = some c → c ≠ it) (h3 : ∀ p ∈ X.pn ++ pins, p.1 ≠ it) : Inv X pins σ H { s with heap := h', toks := t' } := by
  have nit : ∀ b u, H b = some u → b ≠ it := fun b u e z => by rw [z, hn] at e; cases e
  refine I.step (g' := s.gens) (d' := s.drawn) (ch := [it]) (fun b hb => ?_) (fun b o _ _ hc e _ => k b o (fun z => hc (by simp [z])) e) (fun b o _ _ hc e _ => ⟨o.slots, k b o (fun z => hc (by simp [z])) e⟩) (fun _ _ _ _ n => n)
    (fun b o hc e => ⟨o, k b o (fun z => hc (by simp [z])) e⟩) (fun _ _ e => e) (fun _ _ _ e => e) (fun b ps e => ⟨#[], by rw [e]; simp⟩) (fun m hm => ?_) (fun b u e => ?_) I.bare
  · have e : b = it := by simpa using hb
    subst e
    exact ⟨h1, hL, h2, h3⟩
  · obtain ⟨o, es, ep, ho, r⟩ := hm
    exact ⟨o, es, ep, k _ o (Ne.symm hL) ho, r⟩
  · refine (I.hok b u e).stay (fun c v hc q => k c v ?_ q) (fun _ q => q) fun _ _ q => q
    rcases hc with z | z
    · rw [z]; exact nit b u e
    · exact nit c _ z
theorem Inv.tok (I : Inv X pins σ H s) (t : Nat) : Inv X pins σ H { s with toks := t } := I.un (h' := s.heap) (t' := t) Un.refl I.hok
/-- all objects kept -/
theorem Inv.kept {t' : Nat} (I : Inv X pins σ H s) (k : ∀ b u, s.heap.get? b = some u → h'.get? b = some u) : Inv X pins σ H { s with heap := h', toks := t' } := I.un (Un.kept k) (I.hok.kept k)
/-- a new object laid and tracked -/
theorem Inv.laid {a : Addr} {o : HO} {t' : Nat} (I : Inv X pins σ H s) (k : ∀ b u, s.heap.get? b = some u → h'.get? b = some u) (hp : s.heap.objs.size ≤ a) (new : ObjOk X.prog X.w (upd H a o) h' a o) :
    Inv X pins σ (upd H a o) { s with heap := h', toks := t' } := I.un (Un.laid k hp (I.hok.fresh hp)) (I.hok.laid k hp new)
/-- an object written -/
theorem Inv.write {x e : Addr} {o : HO} {t' : Nat} (I : Inv X pins σ H s) (mu : Mut (H x)) (he : e = x ∨ H e = some (.own x)) (k : ∀ b u, b ≠ e → s.heap.get? b = some u → h'.get? b = some u) (heo : ∃ u, h'.get? e = some u)
    (new : ObjOk X.prog X.w (upd H x o) h' x o) : Inv X pins σ (upd H x o) { s with heap := h', toks := t' } := I.un (Un.write mu he k heo) (I.hok.write mu he k heo new)
/-- forgetting slots, pins -/
theorem Inv.weak {σ' : List (Option V)} (I : Inv X pins σ H s) (hl : σ'.length = σ.length) (w : ∀ (i : Nat) v, σ'[i]? = some (some v) → σ[i]? = some (some v)) : Inv X pins σ' H s :=
  ⟨I.ok, I.os, I.bare, I.base, let ⟨m, hn, hl'⟩ := I.loc; ⟨m, hn, fun i x v e1 e2 e3 => hl' i x v e1 (w i v e2) e3⟩, I.cell, I.free, I.freeC, I.pin, I.hok, hl.trans I.len⟩
theorem Inv.pins_of {pins' : List (Addr × Obj)} (I : Inv X pins σ H s) (h : ∀ p ∈ pins', s.heap.get? p.1 = some p.2 ∧ H p.1 = none ∧ p.1 ≠ X.env.locals ∧ p.1 ∉ X.fs ∧ ∀ v, p.2.data ≠ .cell v) : Inv X pins' σ H s :=
  ⟨I.ok, I.os, I.bare, I.base, I.loc, I.cell, I.free, I.freeC, fun p hp => (List.mem_append.mp hp).elim (fun z => I.pin p (List.mem_append_left _ z)) (h p), I.hok, I.len⟩

theorem nodup_ix {N : List Str} (hN : N.Nodup) {i j : Nat} {x : Str} (a : N[i]? = some x) (b : N[j]? = some x) : i = j := by
  obtain ⟨h1, e1⟩ := List.getElem?_eq_some_iff.mp a
  obtain ⟨h2, e2⟩ := List.getElem?_eq_some_iff.mp b
  exact (List.getElem_inj hN).mp (e1.trans e2.symm)

/-- a name is stored; what changed -/
theorem store_ok2 {M : Model} {A : Around} {E : Value → Shared → Prop} {i : Nat} {x : Str} {v : V} {u : Value} {Q : Unit → Shared → Prop} (I : Inv X pins σ H s) (hN : X.N.Nodup) (hi : X.N[i]? = some x) (hx : Loc X.env.scope x) (r : RelV v u)
    (h : ∀ s', Inv X pins (σ.set i (some v)) H s' → (∃ a, Heap.SameBut a s.heap s'.heap ∧ (a = X.env.locals ∨ X.env.cells.lookup x = some a)) → Q () s') (hf : X.fn x = true ∨ X.env.scope.names.lookup x = some .local := by first | exact .inl rfl | exact .inr rfl | assumption) : wpAny M A (storeName X.env x u) Q E s := by
  obtain ⟨m, hn, hl⟩ := id I.loc
  have hcls : (X.env.scope.kind == .class || (X.env.scope.kind == .module && X.env.locals != X.env.globals)) = false := by rw [I.ok.kind]; rfl
  have hiσ : i < σ.length := by rw [I.len]; exact (List.getElem?_eq_some_iff.mp hi).1
  have cne := I.cne
  have tracked : ∀ {a : Addr} {h' : Heap}, (∃ o, s.heap.get? a = some o ∧ H a = none) → Heap.SameBut a s.heap h' → HOk X.prog X.w H h' := fun {a h'} ha hs b ob e => by
    obtain ⟨_, _, hfree⟩ := ha
    refine (I.hok b ob e).stay (fun c w' hc q => (hs.2 c ?_).trans q) (fun _ q => q) fun _ _ q => q
    rintro rfl
    rcases hc with rfl | hc
    · rw [hfree] at e; cases e
    · rw [hfree] at hc; cases hc
  rcases hx with hk | hk
  · refine wpAny_storeName_local hk hn (fun h' hn' hs => ?_) hcls
    obtain ⟨oL, _, _, hoL, _⟩ := id hn
    refine h _ ⟨I.ok, I.os, I.bare, ⟨fun b o e n hb hx => ?_, fun b o e n hb hx => ?_, I.base.free, fun b o e hx => ?_, I.base.tups, I.base.frzs, I.base.tbls⟩, ⟨_, hn', fun j y v' e1 e2 e3 => ?_⟩, fun y c e => ?_, I.free, I.freeC, fun p hp => ?_, tracked ⟨oL, hoL, I.free⟩ hs, by simpa using I.len⟩ ⟨_, hs, .inl rfl⟩
    · exact (hs.2 b (Nat.ne_of_lt (Nat.lt_of_lt_of_le (Heap.lt_size e) I.ok.above))).trans (I.base.keep b o e n hb hx)
    · obtain ⟨sl, e1⟩ := I.base.slot b o e n hb hx
      exact ⟨sl, (hs.2 b (Nat.ne_of_lt (Nat.lt_of_lt_of_le (Heap.lt_size e) I.ok.above))).trans e1⟩
    · obtain ⟨o', e1⟩ := I.base.there b o e hx
      exact ⟨o', (hs.2 b (Nat.ne_of_lt (Nat.lt_of_lt_of_le (Heap.lt_size e) I.ok.above))).trans e1⟩
    · by_cases hj : j = i
      · subst hj
        rw [hi] at e1; cases e1
        rw [List.getElem?_set_self hiσ] at e2
        cases e2
        exact ⟨u, r, .inl ⟨hk, by simp⟩⟩
      · rw [List.getElem?_set_ne (Ne.symm hj)] at e2
        obtain ⟨u', r', q⟩ := hl j y v' e1 e2 e3
        refine ⟨u', r', ?_⟩
        rcases q with ⟨k, e⟩ | ⟨k, c, e, z⟩
        · refine .inl ⟨k, ?_⟩
          have : y ≠ x := fun e => hj (nodup_ix hN e1 (e ▸ hi))
          simp [this, e]
        · exact .inr ⟨k, c, e, z.sameBut hs (cne y c e)⟩
    · obtain ⟨w', z⟩ := I.cell y c e
      exact ⟨w', z.sameBut hs (cne y c e)⟩
    · obtain ⟨e, n, ne, nf, d⟩ := I.pin p hp
      exact ⟨(hs.2 p.1 ne).trans e, n, ne, nf, d⟩
  · have hfn : X.fn x = true := by
      rcases hf with z | z
      · exact z
      · rw [z] at hk; cases hk
    obtain ⟨c, hc⟩ := I.ok.has x (.inl hk)
    obtain ⟨w', z⟩ := I.cell x c hc
    refine wpAny_storeName_cell I.ok.kind hk hc z (fun h' hc' hs => ?_)
    obtain ⟨oc, hoc, hocd⟩ := id z
    refine h { s with heap := h' } ⟨I.ok, I.os, I.bare, ⟨fun b o e n hb hx => ?_, fun b o e n hb hx => ?_, I.base.free, fun b o e hx => ?_, I.base.tups, I.base.frzs, I.base.tbls⟩, ⟨m, hn.sameBut hs (Ne.symm (cne x c hc)), fun j y v' e1 e2 e3 => ?_⟩, fun y c' e => ?_, I.free, I.freeC, fun p hp => ?_, tracked ⟨oc, hoc, I.freeC x c hc⟩ hs, by simpa using I.len⟩ ⟨c, hs, .inr hc⟩
    · exact (hs.2 b (Nat.ne_of_lt (Nat.lt_of_lt_of_le (Heap.lt_size e) (I.ok.cab x c hfn hc)))).trans (I.base.keep b o e n hb hx)
    · obtain ⟨sl, e1⟩ := I.base.slot b o e n hb hx
      exact ⟨sl, (hs.2 b (Nat.ne_of_lt (Nat.lt_of_lt_of_le (Heap.lt_size e) (I.ok.cab x c hfn hc)))).trans e1⟩
    · obtain ⟨o', e1⟩ := I.base.there b o e hx
      exact ⟨o', (hs.2 b (Nat.ne_of_lt (Nat.lt_of_lt_of_le (Heap.lt_size e) (I.ok.cab x c hfn hc)))).trans e1⟩
    · by_cases hj : j = i
      · subst hj
        rw [hi] at e1; cases e1
        rw [List.getElem?_set_self hiσ] at e2
        cases e2
        exact ⟨u, r, .inr ⟨.inl hk, c, hc, hc'⟩⟩
      · rw [List.getElem?_set_ne (Ne.symm hj)] at e2
        obtain ⟨u', r', q⟩ := hl j y v' e1 e2 e3
        refine ⟨u', r', ?_⟩
        rcases q with q | ⟨k, c', e, z'⟩
        · exact .inl q
        · refine .inr ⟨k, c', e, z'.sameBut hs ?_⟩
          rintro rfl
          exact hj (nodup_ix hN e1 (I.ok.inj _ _ _ e hc ▸ hi))
    · by_cases hcc : c' = c
      · subst hcc; exact ⟨_, hc'⟩
      · obtain ⟨w2, z2⟩ := I.cell y c' e
        exact ⟨w2, z2.sameBut hs hcc⟩
    · obtain ⟨e, n, ne, nf, d⟩ := I.pin p hp
      refine ⟨(hs.2 p.1 ?_).trans e, n, ne, nf, d⟩
      intro q
      rw [q, hoc] at e
      have q' : oc = p.2 := Option.some.inj e
      exact d w' (by rw [← q']; exact hocd)
theorem store_ok {M : Model} {A : Around} {E : Value → Shared → Prop} {i : Nat} {x : Str} {v : V} {u : Value} {Q : Unit → Shared → Prop} (I : Inv X pins σ H s) (hN : X.N.Nodup) (hi : X.N[i]? = some x) (hx : Loc X.env.scope x) (r : RelV v u)
    (h : ∀ s', Inv X pins (σ.set i (some v)) H s' → Q () s') (hf : X.fn x = true ∨ X.env.scope.names.lookup x = some .local := by first | exact .inl rfl | exact .inr rfl | assumption) : wpAny M A (storeName X.env x u) Q E s :=
  store_ok2 I hN hi hx r (fun s' I' _ => h s' I') hf
/-- behind a call or a block, the state as it is -/
theorem Inv.call' {s' : Shared} {ch : List Addr} (I : Inv X pins σ H s) (ho : s'.os = s.os) (u : Un (frs X.stack) ch H H' s.heap s'.heap) (hok : HOk X.prog X.w H' s'.heap) (hg : AllBare s'.gens)
    (hch : ∀ b ∈ ch, (b ∈ X.ex ∨ X.s₀.heap.objs.size ≤ b) ∧ b ≠ X.env.locals ∧ (∀ x c, X.env.cells.lookup x = some c → c ≠ b) ∧ ∀ p ∈ X.pn ++ pins, p.1 ≠ b) : Inv X pins σ H' s' := by
  obtain ⟨h', g', d', t', o'⟩ := s'
  have e : o' = s.os := ho
  subst e
  exact I.call (g' := g') (t' := t') (d' := d') u hok hg hch
end

/-! ### the judgements -/
/-- an exception: its class, its own dict's address (where it has one), the abstract heap behind it -/
abbrev XK := Value → Option Addr → Hp → Prop
abbrev St := List (Option V)
abbrev VK := V → Hp → Prop
/-- an expression's reading; a test's; an argument list's -/
abbrev TE := St → Hp → VK → Prop
abbrev TT := St → Hp → (Bool → Hp → Prop) → Prop
abbrev TA := St → Hp → (List V → Hp → Prop) → Prop
/-- what is wanted behind a statement -/
structure Ends where
  nx : St → Hp → Prop
  rt : VK
  bk : St → Hp → Prop := fun _ _ => False
  ct : St → Hp → Prop := fun _ _ => False
abbrev TS := Ends → St → Hp → Prop

def EP (X : Cx) (pins : List (Addr × Obj)) (σ : St) (Q : VK) (u : Value) (s' : Shared) : Prop := ∃ v H', Inv X pins σ H' s' ∧ RelV v u ∧ Q v H'
def TP (X : Cx) (pins : List (Addr × Obj)) (σ : St) (Q : Bool → Hp → Prop) (b : Bool) (s' : Shared) : Prop := ∃ H', Inv X pins σ H' s' ∧ Q b H'
def AP (X : Cx) (pins : List (Addr × Obj)) (σ : St) (Q : List V → Hp → Prop) (us : List Value) (s' : Shared) : Prop := ∃ vs H', Inv X pins σ H' s' ∧ Vals vs us ∧ Q vs H'
def SP (X : Cx) (pins : List (Addr × Obj)) (D : Ends) (f : Flow) (s' : Shared) : Prop :=
  match f with
  | .next => ∃ σ' H', Inv X pins σ' H' s' ∧ D.nx σ' H'
  | .brk => ∃ σ' H', Inv X pins σ' H' s' ∧ D.bk σ' H'
  | .cont => ∃ σ' H', Inv X pins σ' H' s' ∧ D.ct σ' H'
  | .ret u => ∃ v σ' H', Inv X pins σ' H' s' ∧ RelV v u ∧ D.rt v H'

def PE (X : Cx) (e : Expr) (t : TE) : Prop :=
  ∀ (pins : List (Addr × Obj)) (s : Shared) (σ : St) (H : Hp) (Q : VK), Inv X pins σ H s → t σ H Q → wpAny (model X.prog X.w) X.A (eval e X.env) (EP X pins σ Q) X.xe s
def PT (X : Cx) (e : Expr) (t : TT) : Prop :=
  ∀ (pins : List (Addr × Obj)) (s : Shared) (σ : St) (H : Hp) (Q : Bool → Hp → Prop), Inv X pins σ H s → t σ H Q → wpAny (model X.prog X.w) X.A (isTrue e X.env (eval e X.env)) (TP X pins σ Q) X.xe s
/-- a test whatever its 'whole' is (and, or) -/
def PW (X : Cx) (e : Expr) (t : TT) : Prop :=
  ∀ (whole : Sem Value) (pins : List (Addr × Obj)) (s : Shared) (σ : St) (H : Hp) (Q : Bool → Hp → Prop), Inv X pins σ H s → t σ H Q → wpAny (model X.prog X.w) X.A (isTrue e X.env whole) (TP X pins σ Q) X.xe s
theorem PW.pt {X : Cx} {e : Expr} {t : TT} (h : PW X e t) : PT X e t := h _
/-- an argument list (no star), from the left -/
def PA (X : Cx) (es : List Expr) (t : TA) : Prop :=
  ∀ (pos : Pos) (pins : List (Addr × Obj)) (s : Shared) (σ : St) (H : Hp) (Q : List V → Hp → Prop), Inv X pins σ H s → t σ H Q → wpAny (model X.prog X.w) X.A (spliced (backTo pos (starEach es X.env))) (AP X pins σ Q) X.xe s
def PS (X : Cx) (st : Stmt) (t : TS) : Prop :=
  ∀ (pins : List (Addr × Obj)) (s : Shared) (σ : St) (H : Hp) (D : Ends), Inv X pins σ H s → t D σ H → wpAny (model X.prog X.w) X.A (exec st X.env) (SP X pins D) X.xe s
def PSs (X : Cx) (st : List Stmt) (t : TS) : Prop :=
  ∀ (pins : List (Addr × Obj)) (s : Shared) (σ : St) (H : Hp) (D : Ends), Inv X pins σ H s → t D σ H → wpAny (model X.prog X.w) X.A (execs st X.env) (SP X pins D) X.xe s
/-- weaken the end -/
theorem thn {α : Type} {t : Sem α} {Q Q' : α → Shared → Prop} {M : Model} {A : Around} {E : Value → Shared → Prop} {s : Shared} (h : wpAny M A t Q E s) (hQ : ∀ a s, Q a s → Q' a s) : wpAny M A t Q' E s := wpAny_mono h hQ fun _ _ x => x
end L2

namespace L2
open PySem PySem.Spec PyProof.Rows
section
variable {X : Cx}

/-! ### names and constants -/
def tVar (i : Nat) : TE := fun σ H Q => ∃ v, σ[i]? = some (some v) ∧ Q v H
def tC (v : V) : TE := fun _ H Q => Q v H
theorem pe_var {i : Nat} {x : Str} {pos : Pos} (hN : X.N[i]? = some x) (hv : Vis X.env.scope x) (hd : (x == ("__debug__" : Str)) = false := by decide) (hcd : (x == ("__classdict__" : Str)) = false := by decide) : PE X (.Name x pos) (tVar i) := by
  intro pins s σ H Q I h
  obtain ⟨v, e, h⟩ := h
  obtain ⟨m, hn, hl⟩ := I.loc
  obtain ⟨u, r, l⟩ := hl i x v hN e hv
  have fin : EP X pins σ Q u s := ⟨v, H, I, r, h⟩
  rcases l with ⟨hk, hm⟩ | ⟨hk, c, hc, hcell⟩
  · exact wpAny_Name (wpAny_loadName_local I.ok.kind hk hn hm fin) hd
  · rcases hk with hk | hk
    · exact wpAny_Name (wpAny_loadName_cell I.ok.kind hk hc hcell fin) hd
    · exact wpAny_Name (wpAny_loadName_free I.ok.kind hk hc hcell fin hcd) hd
theorem pe_int {i j pos} : PE X (.Constant (.int i) j pos) (tC (.int i)) := fun _ _ _ H _ I h => wpAny_Constant_int ⟨.int i, H, I.tok _, ⟨_, rfl⟩, h⟩
theorem pe_bl {b j pos} : PE X (.Constant (.bool b) j pos) (tC (.bl b)) := fun _ _ _ H _ I h => Constant_bool ⟨.bl b, H, I, rfl, h⟩
theorem pe_non {j pos} : PE X (.Constant .none j pos) (tC .non) := fun _ _ _ H _ I h => Constant_none ⟨.non, H, I, rfl, h⟩
theorem pe_str {x j pos} : PE X (.Constant (.str x) j pos) (tC (.str x)) := fun _ _ _ H _ I h => Calls.Constant_str ⟨.str x, H, I.tok _, ⟨_, rfl⟩, h⟩

/-- a global name of the def -/
def Gl (X : Cx) (x : Str) : Prop := X.env.kindOf x = some .globalImplicit
theorem ld_glob {E : Value → Shared → Prop} {pins : List (Addr × Obj)} {s : Shared} {σ : St} {H : Hp} {x : Str} {u : Value} {pos : Pos} {Q : Value → Shared → Prop} (I : Inv X pins σ H s) (hg : Gl X x) (hm : X.mg x = some u) (h : Q u s)
    (hd : (x == ("__debug__" : Str)) = false := by decide) : wpAny (model X.prog X.w) X.A (eval (.Name x pos) X.env) Q E s :=
  Calls.Name_function_global I.ok.kind hg (Calls.loadGlobal_global (by rw [I.ok.glob]; exact I.mod.glob.keeps I.bk) hm h) hd
theorem ld_blt {E : Value → Shared → Prop} {pins : List (Addr × Obj)} {s : Shared} {σ : St} {H : Hp} {x : Str} {u : Value} {pos : Pos} {Q : Value → Shared → Prop} (I : Inv X pins σ H s) (hg : Gl X x) (hm : X.mg x = none) (hv : bootBuiltins x = some u) (h : Q u s)
    (hn : x ≠ "__name__" := by decide) (hd : (x == ("__debug__" : Str)) = false := by decide) : wpAny (model X.prog X.w) X.A (eval (.Name x pos) X.env) Q E s := by
  obtain ⟨mb, h1, h2⟩ := I.mod.blt
  exact Calls.Name_function_global I.ok.kind hg (Calls.loadGlobal_builtin (by rw [I.ok.glob]; exact I.mod.glob.keeps I.bk) hm (by rw [I.ok.blt]; exact h1.keeps I.bk) ((h2 x hn).trans hv) h) hd
/-- a module's constant, a class, a function, as a value -/
theorem pe_glob {x : Str} {v : V} {u : Value} {pos : Pos} (hg : Gl X x) (hm : X.mg x = some u) (r : RelV v u) (hd : (x == ("__debug__" : Str)) = false := by decide) : PE X (.Name x pos) (tC v) :=
  fun _ _ _ H _ I h => ld_glob I hg hm ⟨v, H, I, r, h⟩ hd
theorem pe_bltn {x : Str} {v : V} {u : Value} {pos : Pos} (hg : Gl X x) (hm : X.mg x = none) (hv : bootBuiltins x = some u) (r : RelV v u) (hn : x ≠ "__name__" := by decide) (hd : (x == ("__debug__" : Str)) = false := by decide) : PE X (.Name x pos) (tC v) :=
  fun _ _ _ H _ I h => ld_blt I hg hm hv ⟨v, H, I, r, h⟩ hn hd

/-! ### arithmetic -/
variable {a b : Expr} {ta tb : TE} {pos : Pos}
/-! ### comparisons -/
/-- a comparison as a value, as a test -/
def tB (t : TE) : TT := fun σ H Q => t σ H fun x H1 => ∃ c, x = .bl c ∧ Q c H1
/-- an expression whose value is a bool, as a test -/
theorem pt_val {e : Expr} {t : TE} (h : PE X e t) (he : ∀ whole, isTrue e X.env whole = (do let v ← whole; standAt e.pos; holding [v] (truthy v)) := by intro _; rfl) : PT X e (tB t) := by
  intro pins s σ H Q I hw
  refine isTrue_plain (thn (h pins s σ H _ I hw) fun v s1 ⟨x, H1, I1, r1, q1⟩ => ?_) (he _)
  obtain ⟨d, rfl, q⟩ := q1
  cases r1
  exact wpAny_truthy_bool ⟨H1, I1, q⟩

/-! ### and, or, not -/
variable {tA tB' : TT} {rest : List Expr}
def tAnd (t u : TT) : TT := fun σ H Q => t σ H fun c H1 => if c = true then u σ H1 Q else Q false H1
def tOr (t u : TT) : TT := fun σ H Q => t σ H fun c H1 => if c = true then Q true H1 else u σ H1 Q
def tNot (t : TT) : TT := fun σ H Q => t σ H fun c H1 => Q (!c) H1
theorem pw_and1 (ha : PT X a tA) : PW X (.BoolOp .And [a] pos) tA := by
  intro wh pins s σ H Q I h
  refine isTrue_and (thn (ha pins s σ H Q I h) fun c s1 e => ?_)
  cases c with
  | true => exact isTrue_and_nil e
  | false => exact e
theorem pw_or1 (ha : PT X a tA) : PW X (.BoolOp .Or [a] pos) tA := by
  intro wh pins s σ H Q I h
  refine isTrue_or (thn (ha pins s σ H Q I h) fun c s1 e => ?_)
  cases c with
  | false => exact isTrue_or_nil e
  | true => exact e
theorem pw_and (ha : PT X a tA) (hb : PW X (.BoolOp .And (b :: rest) pos) tB') : PW X (.BoolOp .And (a :: b :: rest) pos) (tAnd tA tB') := by
  intro wh pins s σ H Q I h
  refine isTrue_and (thn (ha pins s σ H _ I h) fun c s1 ⟨H1, I1, q1⟩ => ?_)
  cases c with
  | true => exact hb wh pins s1 σ H1 Q I1 q1
  | false => exact ⟨H1, I1, q1⟩
theorem pw_or (ha : PT X a tA) (hb : PW X (.BoolOp .Or (b :: rest) pos) tB') : PW X (.BoolOp .Or (a :: b :: rest) pos) (tOr tA tB') := by
  intro wh pins s σ H Q I h
  refine isTrue_or (thn (ha pins s σ H _ I h) fun c s1 ⟨H1, I1, q1⟩ => ?_)
  cases c with
  | true => exact ⟨H1, I1, q1⟩
  | false => exact hb wh pins s1 σ H1 Q I1 q1
theorem pt_not (ha : PT X a tA) : PT X (.UnaryOp .Not a pos) (tNot tA) := by
  intro pins s σ H Q I h
  exact isTrue_not (ha pins s σ H (fun c H1 => Q (!c) H1) I h)
/-- .. as values (bools) -/
def tAndV (ta tb : TE) : TE := fun σ H Q => ta σ H fun x H1 => ∃ c, x = .bl c ∧ if c = true then tb σ H1 Q else Q (.bl false) H1
def tOrV (ta tb : TE) : TE := fun σ H Q => ta σ H fun x H1 => ∃ c, x = .bl c ∧ if c = true then Q (.bl true) H1 else tb σ H1 Q
def tNotV (ta : TE) : TE := fun σ H Q => ta σ H fun x H1 => ∃ c, x = .bl c ∧ Q (.bl (!c)) H1
theorem pe_one {op} {t : TE} (h : PE X a t) : PE X (.BoolOp op [a] pos) t := fun pins s σ H Q I hw => BoolOp_one (h pins s σ H Q I hw)
theorem pe_and (ha : PE X a ta) (hb : PE X (.BoolOp .And (b :: rest) pos) tb) : PE X (.BoolOp .And (a :: b :: rest) pos) (tAndV ta tb) := by
  intro pins s σ H Q I h
  refine BoolOp_and (thn (ha pins s σ H _ I h) fun v s1 ⟨x, H1, I1, r1, q1⟩ => ?_)
  obtain ⟨c, rfl, q1⟩ := q1
  cases r1
  refine wpAny_truthy_bool ?_
  cases c with
  | true => exact hb pins s1 σ H1 Q I1 q1
  | false => exact ⟨.bl false, H1, I1, rfl, q1⟩
theorem pe_or (ha : PE X a ta) (hb : PE X (.BoolOp .Or (b :: rest) pos) tb) : PE X (.BoolOp .Or (a :: b :: rest) pos) (tOrV ta tb) := by
  intro pins s σ H Q I h
  refine BoolOp_or (thn (ha pins s σ H _ I h) fun v s1 ⟨x, H1, I1, r1, q1⟩ => ?_)
  obtain ⟨c, rfl, q1⟩ := q1
  cases r1
  refine wpAny_truthy_bool ?_
  cases c with
  | false => exact hb pins s1 σ H1 Q I1 q1
  | true => exact ⟨.bl true, H1, I1, rfl, q1⟩
theorem pe_not (ha : PE X a ta) : PE X (.UnaryOp .Not a pos) (tNotV ta) := by
  intro pins s σ H Q I h
  refine UnaryOp_ (thn (ha pins s σ H _ I h) fun v s1 ⟨x, H1, I1, r1, q1⟩ => ?_)
  obtain ⟨c, rfl, q1⟩ := q1
  cases r1
  exact not_of (wpAny_truthy_bool ⟨.bl (!c), H1, I1, rfl, q1⟩)
/-- a if t else b -/
def tIf (t : TT) (ta tb : TE) : TE := fun σ H Q => t σ H fun c H1 => if c = true then ta σ H1 Q else tb σ H1 Q
theorem pe_ifExp {c : Expr} (hc : PT X c tA) (ha : PE X a ta) (hb : PE X b tb) : PE X (.IfExp c a b pos) (tIf tA ta tb) := by
  intro pins s σ H Q I h
  refine wpAny_IfExp (thn (hc pins s σ H _ I h) fun d s1 ⟨H1, I1, q1⟩ => ?_)
  cases d with
  | true => exact ha pins s1 σ H1 Q I1 q1
  | false => exact hb pins s1 σ H1 Q I1 q1
end
end L2

namespace L2
open PySem PySem.Spec PyProof.Rows

/-! ### a list, a tuple that is read: tracked, frozen, or an object of the module -/
def SqL (K : PySem.W.Frag) (H : Hp) (a : Addr) (xs : List V) : Prop :=
  Rd H a (.lst xs) ∨
    ∃ (o : Obj) (its : Array Value) (n : Nat), K.lookup a = some o ∧ o.cls = .type "list" ∧ o.dict = none ∧ o.data = .seq its n ∧ its.size ≤ sizeLine ∧ Vals xs its.toList
def SqT (K : PySem.W.Frag) (H : Hp) (a : Addr) (xs : List V) : Prop :=
  Rd H a (.tup xs) ∨
    ∃ (o : Obj) (its : Array Value) (n : Nat), K.lookup a = some o ∧ o.cls = .type "tuple" ∧ o.data = .seq its n ∧ its.size ≤ sizeLine ∧ Vals xs its.toList
def absV : Value → Option V
  | .none => some .non
  | .bool b => some (.bl b)
  | .int i _ => some (.int i)
  | .str x _ => some (.str x)
  | .bytes b _ => some (.byt b)
  | .float b _ => some (.flt b)
  | .ref a => some (.ref a)
  | .type n => some (.ty n)
  | _ => none
theorem RelV.abs {x : V} {u : Value} (r : RelV x u) : absV u = some x := by
  cases x with
  | non => cases r; rfl
  | bl _ => cases r; rfl
  | int _ => obtain ⟨t, rfl⟩ := r; rfl
  | str _ => obtain ⟨t, rfl⟩ := r; rfl
  | byt _ => obtain ⟨t, rfl⟩ := r; rfl
  | flt _ => obtain ⟨t, rfl⟩ := r; rfl
  | ref _ => cases r; rfl
  | ty _ => cases r; rfl
theorem RelV.inj {x y : V} {u : Value} (r : RelV x u) (q : RelV y u) : x = y := Option.some.inj (r.abs.symm.trans q.abs)
theorem Vals.inj : ∀ {xs ys : List V} {us : List Value}, Vals xs us → Vals ys us → xs = ys
  | _, _, _, .nil, .nil => rfl
  | _, _, _, .cons r t, .cons r' t' => by rw [r.inj r', Vals.inj t t']
section
variable {X : Cx} {pins : List (Addr × Obj)} {σ : St} {H : Hp} {s : Shared} {a : Addr} {xs ys : List V}
theorem SqL.of {K : PySem.W.Frag} (h : H a = some (.lst xs)) : SqL K H a xs := .inl (.inl h)
theorem SqT.of {K : PySem.W.Frag} (h : H a = some (.tup xs)) : SqT K H a xs := .inl (.inl h)
theorem Inv.list (I : Inv X pins σ H s) (h : SqL X.K H a xs) : ∃ its : List Value, Vals xs its ∧ PlainL s.heap a its.toArray ∧ xs.length ≤ sizeLine := by
  rcases h with h | ⟨o, its, n, hk, hc, hd, hs, hz, r⟩
  · obtain ⟨z, its, n, r, e⟩ := h.ok I.hok
    exact ⟨its, r, ⟨_, n, e, rfl, rfl, rfl⟩, z⟩
  · refine ⟨its.toList, r, ⟨o, n, I.kIn a o hk, hc, hd, by simpa using hs⟩, ?_⟩
    have e := r.length
    simp only [Array.length_toList] at e
    omega
theorem Inv.tuple (I : Inv X pins σ H s) (h : SqT X.K H a xs) : ∃ its : List Value, Vals xs its ∧ IsTup s.heap a its.toArray ∧ xs.length ≤ sizeLine := by
  rcases h with h | ⟨o, its, n, hk, hc, hs, hz, r⟩
  · obtain ⟨z, its, r, p⟩ := h.ok I.hok
    exact ⟨its, r, p, z⟩
  · refine ⟨its.toList, r, ⟨o, I.kIn a o hk, hc, n, by simpa using hs⟩, ?_⟩
    have e := r.length
    simp only [Array.length_toList] at e
    omega
theorem Inv.list_inj (I : Inv X pins σ H s) (h : SqL X.K H a xs) (h' : SqL X.K H a ys) : xs = ys := by
  obtain ⟨its, r, ⟨o, n, e, _, _, d⟩, _⟩ := I.list h
  obtain ⟨its', r', ⟨o', n', e', _, _, d'⟩, _⟩ := I.list h'
  rw [e] at e'; cases e'
  rw [d] at d'
  injection d' with d1 _
  have : its = its' := by simpa using congrArg Array.toList d1
  subst this
  exact r.inj r'
theorem Inv.tuple_inj (I : Inv X pins σ H s) (h : SqT X.K H a xs) (h' : SqT X.K H a ys) : xs = ys := by
  obtain ⟨its, r, ⟨o, e, _, n, d⟩, _⟩ := I.tuple h
  obtain ⟨its', r', ⟨o', e', _, n', d'⟩, _⟩ := I.tuple h'
  rw [e] at e'; cases e'
  rw [d] at d'
  injection d' with d1 _
  have : its = its' := by simpa using congrArg Array.toList d1
  subst this
  exact r.inj r'
end

/-! ### another wish about exceptions -/
abbrev Cx.wish (X : Cx) (E : Value → Shared → Prop) : Cx := { X with xe := E }
/-- no exception leaves -/
abbrev Cx.nox (X : Cx) : Cx := X.wish fun _ _ => False
theorem Cx.Ok.wish {X : Cx} (ok : X.Ok) (E : Value → Shared → Prop) : (X.wish E).Ok :=
  ⟨ok.mod, ok.kind, ok.glob, ok.blt, ok.above, ok.inj, ok.has, ok.cab, ok.hd, ok.frames, ok.stk, ok.exf, ok.bs, ok.bsz, ok.noex, ok.exfs, ok.funs, ok.frf⟩
theorem Cx.Ok.unwish {X : Cx} {E : Value → Shared → Prop} (ok : (X.wish E).Ok) : X.Ok :=
  ⟨ok.mod, ok.kind, ok.glob, ok.blt, ok.above, ok.inj, ok.has, ok.cab, ok.hd, ok.frames, ok.stk, ok.exf, ok.bs, ok.bsz, ok.noex, ok.exfs, ok.funs, ok.frf⟩
section
variable {X : Cx} {pins : List (Addr × Obj)} {σ : St} {H : Hp} {s : Shared} {E : Value → Shared → Prop}
theorem Inv.wish (I : Inv X pins σ H s) (E : Value → Shared → Prop) : Inv (X.wish E) pins σ H s := ⟨I.ok.wish E, I.os, I.bare, I.base, I.loc, I.cell, I.free, I.freeC, I.pin, I.hok, I.len⟩
theorem Inv.unwish (I : Inv (X.wish E) pins σ H s) : Inv X pins σ H s := ⟨I.ok.unwish, I.os, I.bare, I.base, I.loc, I.cell, I.free, I.freeC, I.pin, I.hok, I.len⟩
theorem SP.unwish {D : Ends} {f : Flow} {s' : Shared} (h : SP (X.wish E) pins D f s') : SP X pins D f s' := by
  cases f with
  | next => obtain ⟨σ', H', I, q⟩ := h; exact ⟨σ', H', I.unwish, q⟩
  | brk => obtain ⟨σ', H', I, q⟩ := h; exact ⟨σ', H', I.unwish, q⟩
  | cont => obtain ⟨σ', H', I, q⟩ := h; exact ⟨σ', H', I.unwish, q⟩
  | ret u => obtain ⟨v, σ', H', I, r, q⟩ := h; exact ⟨v, σ', H', I.unwish, r, q⟩
theorem PE.nox {e : Expr} {t : TE} (h : PE X.nox e t) : PE X e t := fun pins s σ H Q I hw =>
  wpAny_mono (h pins s σ H Q (I.wish _) hw) (fun _ _ ⟨v, H', I', r, q⟩ => ⟨v, H', I'.unwish, r, q⟩) fun _ _ z => False.elim z
theorem PT.nox {e : Expr} {t : TT} (h : PT X.nox e t) : PT X e t := fun pins s σ H Q I hw =>
  wpAny_mono (h pins s σ H Q (I.wish _) hw) (fun _ _ ⟨H', I', q⟩ => ⟨H', I'.unwish, q⟩) fun _ _ z => False.elim z
theorem PSs.nox {st : List Stmt} {t : TS} (h : PSs X.nox st t) : PSs X st t := fun pins s σ H D I hw =>
  wpAny_mono (h pins s σ H D (I.wish _) hw) (fun _ _ q => q.unwish) fun _ _ z => False.elim z
end

/-! ### blocks and small statements -/
section
variable {X : Cx} {st : Stmt} {rest : List Stmt} {t u : TS} {e : Expr} {te : TE} {pos : Pos}
def tNext : TS := fun D σ H => D.nx σ H
def tSeq (t u : TS) : TS := fun D σ H => t { D with nx := u D } σ H
theorem pss_nil : PSs X [] tNext := fun _ _ σ H _ I h => wpAny_execs_nil ⟨σ, H, I, h⟩
theorem pss_cons (h1 : PS X st t) (h2 : PSs X rest u) : PSs X (st :: rest) (tSeq t u) := by
  intro pins s σ H D I h
  refine wpAny_execs_cons (thn (h1 pins s σ H { D with nx := u D } I h) fun f s1 q => ?_)
  cases f with
  | next =>
    obtain ⟨σ', H', I', q⟩ := q
    exact h2 pins s1 σ' H' D I' q
  | ret v => exact q
  | brk => exact q
  | cont => exact q
theorem pss_one (h1 : PS X st t) : PSs X [st] t := by
  intro pins s σ H D I h
  refine wpAny_execs_cons (thn (h1 pins s σ H D I h) fun f s1 q => ?_)
  cases f with
  | next => exact wpAny_execs_nil q
  | ret v => exact q
  | brk => exact q
  | cont => exact q
/-- in a def's body nothing is shown -/
theorem Inv.quiet {pins : List (Addr × Obj)} {σ : St} {H : Hp} {s : Shared} (I : Inv X pins σ H s) : interactive X.env = false := by simp [interactive, I.ok.kind]
/-- an expression whose value is dropped -/
def tDrop (te : TE) : TS := fun D σ H => te σ H fun _ H1 => D.nx σ H1
theorem ps_expr (he : PE X e te) (hs : swapsWith e none pos.line X.env = pure false := by rfl) : PS X (.Expr e pos) (tDrop te) := by
  intro pins s σ H D I h
  exact wpAny_Expr_any (thn (he pins s σ H _ I h) fun v s1 ⟨x, H1, I1, r1, q1⟩ => ⟨σ, H1, I1, q1⟩) I.quiet hs
def tRet (te : TE) : TS := fun D σ H => te σ H D.rt
theorem ps_ret (he : PE X e te) : PS X (.Return (some e) pos) (tRet te) := by
  intro pins s σ H D I h
  exact wpAny_Return_some (thn (he pins s σ H _ I h) fun v s1 ⟨x, H1, I1, r1, q1⟩ => ⟨x, σ, H1, I1, r1, q1⟩)
def tIfS (c : TT) (t u : TS) : TS := fun D σ H => c σ H fun b H1 => if b = true then t D σ H1 else u D σ H1
theorem ps_if {c : Expr} {a b : List Stmt} {tc : TT} (hc : PT X c tc) (ha : PSs X a t) (hb : PSs X b u) : PS X (.If c a b pos) (tIfS tc t u) := by
  intro pins s σ H D I h
  refine wpAny_If (thn (hc pins s σ H _ I h) fun d s1 ⟨H1, I1, q1⟩ => ?_)
  cases d with
  | true => exact ha pins s1 σ H1 D I1 q1
  | false => exact hb pins s1 σ H1 D I1 q1
/-- code that the proof never comes to -/
def tNever : TS := fun _ _ _ => False
theorem ps_never : PS X st tNever := fun _ _ _ _ _ _ h => h.elim
end

/-! ### targets -/
abbrev TG := V → St → Hp → (St → Hp → Prop) → Prop
abbrev TGs := List V → St → Hp → (St → Hp → Prop) → Prop
def PG (X : Cx) (target : Expr) (t : TG) : Prop :=
  ∀ (pins : List (Addr × Obj)) (s : Shared) (σ : St) (H : Hp) (v : V) (u : Value) (Q : St → Hp → Prop), Inv X pins σ H s → RelV v u → t v σ H Q →
    wpAny (model X.prog X.w) X.A (assign target X.env u) (fun _ s' => ∃ σ' H', Inv X pins σ' H' s' ∧ Q σ' H') X.xe s
/-- several targets, one after another -/
def PGs (X : Cx) (ts : List Expr) (t : TGs) : Prop :=
  ∀ (pins : List (Addr × Obj)) (s : Shared) (σ : St) (H : Hp) (vs : List V) (us : List Value) (Q : St → Hp → Prop), Inv X pins σ H s → Vals vs us → t vs σ H Q →
    wpAny (model X.prog X.w) X.A (assignInOrder ((assignEach ts X.env).map (·.2)) us) (fun _ s' => ∃ σ' H', Inv X pins σ' H' s' ∧ Q σ' H') X.xe s
/-- o[i] = v, by values -/
abbrev TSet := V → V → V → Hp → (Hp → Prop) → Prop
def PSet (X : Cx) (t : TSet) : Prop :=
  ∀ (pins : List (Addr × Obj)) (s : Shared) (σ : St) (H : Hp) (o i v : V) (ov iv u : Value) (Q : Hp → Prop), Inv X pins σ H s → RelV o ov → RelV i iv → RelV v u → t o i v H Q →
    wpAny (model X.prog X.w) X.A (setItem ov iv u) (fun _ s' => ∃ H', Inv X pins σ H' s' ∧ Q H') X.xe s
section
variable {X : Cx} {pos : Pos}
def gName (i : Nat) : TG := fun v σ H Q => Q (σ.set i (some v)) H
theorem pg_name {i : Nat} {x : Str} (hN : X.N.Nodup) (hi : X.N[i]? = some x) (hx : Loc X.env.scope x) (hf : X.fn x = true ∨ X.env.scope.names.lookup x = some .local := by first | exact .inl rfl | exact .inr rfl | assumption) : PG X (.Name x pos) (gName i) := by
  intro pins s σ H v u Q I r h
  exact wpAny_assign_Name (store_ok I hN hi hx r (fun s' I' => ⟨_, H, I', h⟩) hf)
def gNil : TGs := fun vs σ H Q => vs = [] ∧ Q σ H
def gCons (t : TG) (u : TGs) : TGs := fun vs σ H Q => ∃ v r, vs = v :: r ∧ t v σ H fun σ' H' => u r σ' H' Q
theorem pgs_nil : PGs X [] gNil := by
  intro pins s σ H vs us Q I r h
  obtain ⟨e, h⟩ := h
  subst e
  cases r
  exact assignInOrder_nil ⟨σ, H, I, h⟩
theorem pgs_cons {e : Expr} {es : List Expr} {t : TG} {u : TGs} (h1 : PG X e t) (h2 : PGs X es u)
    (hs : (assignEach (e :: es) X.env).map (·.2) = assign e X.env :: (assignEach es X.env).map (·.2) := by rfl) : PGs X (e :: es) (gCons t u) := by
  intro pins s σ H vs us Q I r h
  obtain ⟨v, vr, e1, h⟩ := h
  subst e1
  cases r with
  | cons r rr =>
    rw [hs]
    refine assignInOrder_cons (thn (h1 pins s σ H _ _ _ I r h) fun _ s1 ⟨σ1, H1, I1, q1⟩ => ?_)
    exact h2 pins s1 σ1 H1 _ _ Q I1 rr q1
/-- (a, b, ..) = a tuple of that length -/
def gTup (K : PySem.W.Frag) (n : Nat) (t : TGs) : TG := fun v σ H Q => ∃ a xs, v = .ref a ∧ SqT K H a xs ∧ xs.length = n ∧ t xs σ H Q
theorem pg_tup {es : List Expr} {k : Nat} {t : TGs} {n : Nat} (hc : X.calm = true) (h : PGs X es t)
    (hn : (assignEach es X.env).length = n := by rfl) (hst : (assignEach es X.env).findIdx? (·.1) = none := by rfl) : PG X (.Tuple es k pos) (gTup X.K n t) := by
  intro pins s σ H v u Q I r hw
  obtain ⟨a, xs, e1, hq, hl, hw⟩ := hw
  subst e1
  cases r
  obtain ⟨its, rv, ht, hz⟩ := I.tuple hq
  refine assign_Tuple_tuple (I.ok.hd hc) ht (by simp [hn, ← hl, rv.length]) hst fun h' hx => ?_
  have I1 : Inv X pins σ H { s with heap := h' } := I.kept (t' := s.toks) fun b o e => hx b o (Nat.ne_of_lt (Heap.lt_size e)) e
  exact h pins _ σ H xs _ Q I1 (by simpa using rv) hw
/-- o[i] = .. -/
def gSub (to ti : TE) (t : TSet) : TG := fun v σ H Q => to σ H fun o H1 => ti σ H1 fun i H2 => t o i v H2 fun H3 => Q σ H3
theorem pg_sub {o i : Expr} {to ti : TE} {t : TSet} (ho : PE X o to) (hi : PE X i ti) (hs : PSet X t)
    (ha : ∀ v, assign (.Subscript o i pos) X.env v = (do
      let ov ← holding [v] (eval o X.env)
      let iv ← holding [v, ov] (eval i X.env)
      standAt pos
      holding [v, ov, iv] (setItem ov iv v)
      release [v, ov, iv] []) := by intro _; rfl) : PG X (.Subscript o i pos) (gSub to ti t) := by
  intro pins s σ H v u Q I r h
  rw [ha]
  refine wpAny_bind (wpAny_holding (thn (ho pins s σ H _ I h) fun ov s1 ⟨x, H1, I1, r1, q1⟩ => ?_))
  refine wpAny_bind (wpAny_holding (thn (hi pins s1 σ H1 _ I1 q1) fun iv s2 ⟨y, H2, I2, r2, q2⟩ => ?_))
  refine wpAny_bind (wpAny_standAt (wpAny_bind (wpAny_holding (thn (hs pins s2 σ H2 x y v ov iv u _ I2 r1 r2 r q2) fun _ s3 ⟨H3, I3, q3⟩ => ?_))))
  exact wpAny_release ⟨σ, H3, I3, q3⟩
/-- target = value -/
def tAsg (te : TE) (g : TG) : TS := fun D σ H => te σ H fun x H1 => g x σ H1 D.nx
theorem ps_asg {tg e : Expr} {te : TE} {g : TG} (he : PE X e te) (hg : PG X tg g) (hs : swapsWithSole [tg] e pos.line X.env = pure false := by rfl) (hw : swappedStores [tg] e X.env = pure none := by rfl)
    (h1 : (assignEach [tg] X.env).map (·.2) = [assign tg X.env] := by rfl) : PS X (.Assign [tg] e pos) (tAsg te g) := by
  intro pins s σ H D I h
  refine wpAny_Assign_stores (thn (he pins s σ H _ I h) fun v s1 ⟨x, H1, I1, r1, q1⟩ => ?_) hs hw
  rw [h1]
  exact thn (hg pins s1 σ H1 x v _ I1 r1 q1) fun _ s2 q => q
/-- name = value -/
theorem ps_set {i : Nat} {x : Str} {e : Expr} {te : TE} {pos' : Pos} (hN : X.N.Nodup) (hi : X.N[i]? = some x) (hx : Loc X.env.scope x) (he : PE X e te) (hs : swapsWith e (some (.Name x pos')) pos.line X.env = pure false := by rfl) (hf : X.fn x = true ∨ X.env.scope.names.lookup x = some .local := by first | exact .inl rfl | exact .inr rfl | assumption) :
    PS X (.Assign [.Name x pos'] e pos) (tAsg te (gName i)) := by
  intro pins s σ H D I h
  refine wpAny_Assign_Name (thn (he pins s σ H _ I h) fun v s1 ⟨y, H1, I1, r1, q1⟩ => ?_) hs
  exact store_ok I1 hN hi hx r1 (fun s2 I2 => ⟨_, H1, I2, q1⟩) hf
end

/-! ### while -/
section
variable {X : Cx} {pos : Pos}
/-- the invariant W with its measure -/
def tWhile (c : TT) (tb : TS) : TS := fun D σ H => ∃ W : Nat → St → Hp → Prop, (∃ m, W m σ H) ∧ ∀ m σ H, W m σ H →
  c σ H fun b H1 => if b = true then ∃ N : St → Hp → Prop, (∀ σ' H', N σ' H' → ∃ m', m' < m ∧ W m' σ' H') ∧ tb { D with nx := N, ct := N, bk := D.nx } σ H1 else D.nx σ H1
theorem ps_while {c : Expr} {body : List Stmt} {tc : TT} {tb : TS} (hp : PassesOwn (model X.prog X.w) X.A X.env X.xe) (hc : PT X c tc) (hb : PSs X body tb) : PS X (.While c body [] pos) (tWhile tc tb) := by
  intro pins s σ H D I h
  obtain ⟨W, ⟨m0, w0⟩, turn⟩ := h
  refine wpAny_While (codeAny_whileLoop (fun n s' => ∃ σ' H', Inv X pins σ' H' s' ∧ W n σ' H') ?_ m0 ⟨σ, H, I, w0⟩)
  rintro n s1 ⟨σ1, H1, I1, w1⟩
  refine wpAny_passesOwn hp (thn (hc pins s1 σ1 H1 _ I1 (turn n σ1 H1 w1)) fun b s2 ⟨H2, I2, q2⟩ => ?_)
  cases b with
  | true =>
    obtain ⟨N, hN, q2⟩ := q2
    rw [if_pos rfl]
    refine wpAny_passesOwn hp (thn (hb pins s2 σ1 H2 _ I2 q2) fun f s3 q3 => ?_)
    cases f with
    | next =>
      obtain ⟨σ3, H3, I3, n3⟩ := q3
      obtain ⟨m', hm, w3⟩ := hN σ3 H3 n3
      exact ⟨m', hm, σ3, H3, I3, w3⟩
    | cont =>
      obtain ⟨σ3, H3, I3, n3⟩ := q3
      obtain ⟨m', hm, w3⟩ := hN σ3 H3 n3
      exact ⟨m', hm, σ3, H3, I3, w3⟩
    | brk => exact q3
    | ret v => exact q3
  | false =>
    rw [if_neg Bool.false_ne_true]
    exact wpAny_execs_nil ⟨σ1, H2, I2, q2⟩
end

/-! ### what a loop or a comprehension walks -/
/-- at turn i: it yields x (the heap may grow), or it stops -/
structure It where
  go : Nat → Hp → Prop
  yld : Nat → Hp → V → Hp → Prop
  stop : Nat → Hp → Prop
/-- the iterator's own objects may turn: they are not the frame's, not pinned, younger than the entry (or a comprehension's own) -/
def FpOk (X : Cx) (pins : List (Addr × Obj)) (H : Hp) (b : Addr) : Prop :=
  H b = none ∧ b ≠ X.env.locals ∧ b ∉ X.fs ∧ (b ∈ X.ex ∨ X.s₀.heap.objs.size ≤ b) ∧ (∀ x c, X.env.cells.lookup x = some c → c ≠ b) ∧ ∀ p ∈ X.pn ++ pins, p.1 ≠ b
theorem Inv.fpOk {X : Cx} {pins : List (Addr × Obj)} {σ : St} {H H' : Hp} {s : Shared} {b : Addr} (I : Inv X pins σ H s) (hb : s.heap.objs.size ≤ b) (hn : H' b = none) : FpOk X pins H' b := by
  refine ⟨hn, Nat.ne_of_gt (Nat.lt_of_lt_of_le I.lt hb), I.nofs hb, .inr (Nat.le_trans I.sz hb), fun x c e z => ?_, fun p hp z => ?_⟩
  · obtain ⟨v, q⟩ := I.cell x c e
    exact absurd (Nat.lt_of_lt_of_le q.lt (by rw [z]; exact hb)) (Nat.lt_irrefl _)
  · exact absurd (Nat.lt_of_lt_of_le (Heap.lt_size (I.pin p hp).1) (by rw [z]; exact hb)) (Nat.lt_irrefl _)
structure Turn (P : Program) (w : World) (K : PySem.W.Frag) (tg : Expr) (J : It) (fp : List Addr) (it : Addr) (tn : Nat → Heap → Prop) : Prop where
  mem : it ∈ fp
  obj : ∀ i h, tn i h → ∀ b ∈ fp, ∃ o, h.get? b = some o ∧ ∀ v, o.data ≠ .cell v
  keep : ∀ i h h', tn i h → (∀ b ∈ fp, ∀ o, h.get? b = some o → h'.get? b = some o) → tn i h'
  item : ∀ (X : Cx), X.prog = P → X.w = w → X.K = K → X.calm = true → ∀ (i : Nat) (pins : List (Addr × Obj)) (s : Shared) (σ : St) (H : Hp) (E : Value → Shared → Prop), Inv X pins σ H s → (∀ b ∈ fp, FpOk X pins H b) → tn i s.heap → J.go i H →
    wpAny (model P w) X.A (pyNext (.ref it)) (fun r s1 => ∃ u, r = some u ∧
      wpAny (model P w) X.A (letOwnedTupleGo tg (.ref it) u) (fun _ s2 => ∃ x H', Inv X pins σ H' s2 ∧ RelV x u ∧ J.yld i H x H' ∧ tn (i + 1) s2.heap ∧ ∀ b ∈ fp, H' b = none) E s1) E s
  done : ∀ (X : Cx), X.prog = P → X.w = w → X.K = K → X.calm = true → ∀ (i : Nat) (pins : List (Addr × Obj)) (s : Shared) (σ : St) (H : Hp) (E : Value → Shared → Prop), Inv X pins σ H s → (∀ b ∈ fp, FpOk X pins H b) → tn i s.heap → J.stop i H →
    wpAny (model P w) X.A (pyNext (.ref it)) (fun r s1 => r = none ∧ Inv X pins σ H s1) E s
  self : ∀ (A : Around) (i : Nat) (s : Shared) (Q : Value → Shared → Prop) (E : Value → Shared → Prop), tn i s.heap → Q (.ref it) s → wpAny (model P w) A (pyIter (.ref it)) Q E s
abbrev TI := St → Hp → (It → Hp → Prop) → Prop
/-- an iterator has come -/
def PIE (X : Cx) (pins : List (Addr × Obj)) (σ : St) (tg : Expr) (R : It → Hp → Prop) (itv : Value) (s2 : Shared) : Prop :=
  ∃ (it : Addr) (fp : List Addr) (tn : Nat → Heap → Prop) (J : It) (H' : Hp), itv = .ref it ∧ Inv X pins σ H' s2 ∧ Turn X.prog X.w X.K tg J fp it tn ∧ tn 0 s2.heap ∧ (∀ b ∈ fp, FpOk X pins H' b) ∧ R J H'
def PI (X : Cx) (tg iter : Expr) (wi : TI) : Prop :=
  ∀ (pins : List (Addr × Obj)) (s : Shared) (σ : St) (H : Hp) (R : It → Hp → Prop), Inv X pins σ H s → wi σ H R →
    wpAny (model X.prog X.w) X.A (eval iter X.env) (fun v s1 => wpAny (model X.prog X.w) X.A (pyIter v) (PIE X pins σ tg R) X.xe s1) X.xe s

/-- the step ahead of the store is nothing for an iterator that keeps no tuple -/
theorem go_of {M : Model} {A : Around} {E : Value → Shared → Prop} {s : Shared} {tg : Expr} {it : Addr} {u : Value} {o : Obj} {n : String} {vs : Array Value} {Q : Unit → Shared → Prop} (ho : s.heap.get? it = some o) (hc : o.cls = .type n) (hd : o.data = .fields vs)
    (hn : ["enumerate", "zip", "dict_itemiterator", "dict_reverseitemiterator", "odict_iterator", "itertools.zip_longest", "itertools.pairwise"].contains n = false) (hQ : Q () s) : wpAny M A (letOwnedTupleGo tg (.ref it) u) Q E s := by
  unfold letOwnedTupleGo
  cases tg <;> first
    | exact wpAny_pure hQ
    | (cases u <;> first
        | exact wpAny_pure hQ
        | (refine wpAny_bind (wpAny_load ho ?_)
           rw [hc, hd]
           show wpAny M A (if (["enumerate", "zip", "dict_itemiterator", "dict_reverseitemiterator", "odict_iterator", "itertools.zip_longest", "itertools.pairwise"].contains n && vs[0]? == some (rawInt _)) = true then _ else _) Q E s
           rw [if_neg (by intro h; rw [hn, Bool.false_and] at h; cases h)]
           exact wpAny_pure hQ))

/-- the list at a, as it stands at each turn (a loop may append to it) -/
def Itl (K : PySem.W.Frag) (a : Addr) : It :=
  ⟨fun i H => ∃ xs x, SqL K H a xs ∧ xs[i]? = some x, fun i H x H' => H' = H ∧ ∀ xs, SqL K H a xs → xs[i]? = some x, fun i H => ∃ xs, SqL K H a xs ∧ xs.length ≤ i⟩
def Itt (K : PySem.W.Frag) (a : Addr) : It :=
  ⟨fun i H => ∃ xs x, SqT K H a xs ∧ xs[i]? = some x, fun i H x H' => H' = H ∧ ∀ xs, SqT K H a xs → xs[i]? = some x, fun i H => ∃ xs, SqT K H a xs ∧ xs.length ≤ i⟩
/-- lo, lo + 1, .. (n of them) -/
def Itr (lo : Int) (n : Nat) : It := ⟨fun i _ => i < n, fun i H x H' => H' = H ∧ x = .int (lo + i), fun i _ => n ≤ i⟩
theorem turn_list {P : Program} {w : World} {K : PySem.W.Frag} {tg : Expr} (a it : Addr) : Turn P w K tg (Itl K a) [it] it (fun i h => h.IsListIter it a i) where
  mem := by simp
  obj := fun i h st b hb => by
    have e : b = it := by simpa using hb
    subst e
    obtain ⟨o, e, c, d⟩ := st
    exact ⟨o, e, fun v z => by rw [d] at z; cases z⟩
  keep := fun i h h' st k => st.at fun o e => k it (by simp) o e
  item := by
    intro X hP hw hK hc i pins s σ H E I hf st hg
    subst hP hw hK
    obtain ⟨xs, x, hq, hx⟩ := hg
    obtain ⟨its, rv, p, hz⟩ := I.list hq
    obtain ⟨u, hu, ru⟩ := rv.get hx
    obtain ⟨f0, f1, f2, f3, f4, f5⟩ := hf it (by simp)
    refine wpAny_pyNext_list_item st p.isList (x := u) (by simpa using hu) fun h' st' sb => ?_
    have I1 : Inv X pins σ H { s with heap := h' } := I.turned (t' := s.toks) (fun b o hb e => (sb.2 b hb).trans e) f0 f1 f3 f4 f5
    obtain ⟨o, e, c, d⟩ := id st'
    exact ⟨u, rfl, go_of (s := { s with heap := h' }) e c d (by decide) ⟨x, H, I1, ru, ⟨rfl, fun ys hy => by rw [I.list_inj hy hq]; exact hx⟩, st', fun b hb => (hf b hb).1⟩⟩
  done := by
    intro X hP hw hK hc i pins s σ H E I hf st hg
    subst hP hw hK
    obtain ⟨xs, hq, hx⟩ := hg
    obtain ⟨its, rv, p, hz⟩ := I.list hq
    obtain ⟨f0, f1, f2, f3, f4, f5⟩ := hf it (by simp)
    have hl := rv.length
    exact wpAny_pyNext_list_end (I.ok.hd hc) st p.isList (by simp; omega) fun h' eb => ⟨rfl, I.turned (t' := s.toks) (fun b o hb e => eb b o hb e) f0 f1 f3 f4 f5⟩
  self := fun _ _ _ _ _ st h => wpAny_pyIter_listiter st h
theorem turn_tuple {P : Program} {w : World} {K : PySem.W.Frag} {tg : Expr} (a it : Addr) : Turn P w K tg (Itt K a) [it] it (fun i h => h.IsTupleIter it a i) where
  mem := by simp
  obj := fun i h st b hb => by
    have e : b = it := by simpa using hb
    subst e
    obtain ⟨o, e, c, d⟩ := st
    exact ⟨o, e, fun v z => by rw [d] at z; cases z⟩
  keep := fun i h h' st k => st.at fun o e => k it (by simp) o e
  item := by
    intro X hP hw hK hc i pins s σ H E I hf st hg
    subst hP hw hK
    obtain ⟨xs, x, hq, hx⟩ := hg
    obtain ⟨its, rv, p, hz⟩ := I.tuple hq
    obtain ⟨u, hu, ru⟩ := rv.get hx
    obtain ⟨f0, f1, f2, f3, f4, f5⟩ := hf it (by simp)
    refine wpAny_pyNext_tuple_item st (show s.heap.IsTuple a its.toArray from p) (x := u) (by simpa using hu) fun h' st' sb => ?_
    have I1 : Inv X pins σ H { s with heap := h' } := I.turned (t' := s.toks) (fun b o hb e => (sb.2 b hb).trans e) f0 f1 f3 f4 f5
    obtain ⟨o, e, c, d⟩ := id st'
    exact ⟨u, rfl, go_of (s := { s with heap := h' }) e c d (by decide) ⟨x, H, I1, ru, ⟨rfl, fun ys hy => by rw [I.tuple_inj hy hq]; exact hx⟩, st', fun b hb => (hf b hb).1⟩⟩
  done := by
    intro X hP hw hK hc i pins s σ H E I hf st hg
    subst hP hw hK
    obtain ⟨xs, hq, hx⟩ := hg
    obtain ⟨its, rv, p, hz⟩ := I.tuple hq
    obtain ⟨f0, f1, f2, f3, f4, f5⟩ := hf it (by simp)
    have hl := rv.length
    exact wpAny_pyNext_tuple_end (I.ok.hd hc) st (show s.heap.IsTuple a its.toArray from p) (by simp; omega) fun h' eb => ⟨rfl, I.turned (t' := s.toks) (fun b o hb e => eb b o hb e) f0 f1 f3 f4 f5⟩
  self := fun _ _ _ _ _ st h => wpAny_pyIter_tupleiter st h
theorem turn_range {P : Program} {w : World} {K : PySem.W.Frag} {tg : Expr} (it : Addr) (lo : Int) (n : Nat) : Turn P w K tg (Itr lo n) [it] it (fun i h => IsRangeIter h it (lo + (i : Nat) * 1) ((n : Int) - (i : Nat)) 1) where
  mem := by simp
  obj := fun i h st b hb => by
    have e : b = it := by simpa using hb
    subst e
    exact ⟨_, st, fun v z => by
      have z' : Data.fields _ = Data.cell v := z
      cases z'⟩
  keep := fun i h h' st k => k it (by simp) _ st
  item := by
    intro X hP hw hK hc i pins s σ H E I hf st hg
    subst hP hw hK
    obtain ⟨f0, f1, f2, f3, f4, f5⟩ := hf it (by simp)
    have W := Walks.range (prog := X.prog) (w := X.w) (I.ok.hd hc) it lo 1 n
    refine W.item i s _ _ hg st fun v h' tk hv st' kk => ?_
    obtain ⟨t, rfl⟩ := hv
    have I1 : Inv X pins σ H { s with heap := h', toks := tk } := I.turned (fun b o hb e => kk b o (by simpa using hb) e) f0 f1 f3 f4 f5
    refine ⟨_, rfl, go_of (s := { s with heap := h', toks := tk }) (n := "range_iterator") st' rfl rfl (by decide) ⟨.int (lo + i), H, I1, ⟨t, ?_⟩, ⟨rfl, rfl⟩, st', fun b hb => (hf b hb).1⟩⟩
    rw [Int.mul_one]
  done := by
    intro X hP hw hK hc i pins s σ H E I hf st hg
    subst hP hw hK
    obtain ⟨f0, f1, f2, f3, f4, f5⟩ := hf it (by simp)
    exact wpAny_pyNext_range_end (I.ok.hd hc) st (by have : n ≤ i := hg; omega) fun h' eb => ⟨rfl, I.turned (t' := s.toks) (fun b o hb e => eb b o hb e) f0 f1 f3 f4 f5⟩
  self := fun _ _ _ _ _ st h => wpAny_pyIter_rangeiter st h
end L2

namespace L2
open PySem PySem.Spec PyProof.Rows
section
variable {X : Cx} {tg : Expr}
def iList (K : PySem.W.Frag) (tl : TE) : TI := fun σ H R => tl σ H fun x H1 => ∃ a, x = .ref a ∧ (∃ xs, SqL K H1 a xs) ∧ R (Itl K a) H1
def iTup (K : PySem.W.Frag) (tl : TE) : TI := fun σ H R => tl σ H fun x H1 => ∃ a, x = .ref a ∧ (∃ xs, SqT K H1 a xs) ∧ R (Itt K a) H1
theorem pi_list {l : Expr} {tl : TE} (hl : PE X l tl) : PI X tg l (iList X.K tl) := by
  intro pins s σ H R I h
  refine thn (hl pins s σ H _ I h) fun v s1 ⟨x, H1, I1, r1, q1⟩ => ?_
  obtain ⟨a, e, ⟨xs, hq⟩, q⟩ := q1
  subst e
  cases r1
  obtain ⟨its, rv, p, hz⟩ := I1.list hq
  refine wpAny_pyIter_list p.isList ?_
  refine ⟨s1.heap.objs.size, [s1.heap.objs.size], _, _, H1, rfl, I1.kept (t' := s1.toks) fun b o e => Heap.get?_push_of_some _ e, turn_list a _, ⟨_, Heap.get?_push_size _ rfl, rfl, rfl⟩, fun b hb => ?_, q⟩
  have e : b = s1.heap.objs.size := by simpa using hb
  subst e
  exact I1.fpOk (Nat.le_refl _) (I1.hok.fresh (Nat.le_refl _))
theorem pi_tup {l : Expr} {tl : TE} (hl : PE X l tl) : PI X tg l (iTup X.K tl) := by
  intro pins s σ H R I h
  refine thn (hl pins s σ H _ I h) fun v s1 ⟨x, H1, I1, r1, q1⟩ => ?_
  obtain ⟨a, e, ⟨xs, hq⟩, q⟩ := q1
  subst e
  cases r1
  obtain ⟨its, rv, p, hz⟩ := I1.tuple hq
  refine wpAny_pyIter_tuple (show s1.heap.IsTuple a its.toArray from p) ?_
  refine ⟨s1.heap.objs.size, [s1.heap.objs.size], _, _, H1, rfl, I1.kept (t' := s1.toks) fun b o e => Heap.get?_push_of_some _ e, turn_tuple a _, ⟨_, Heap.get?_push_size _ rfl, rfl, rfl⟩, fun b hb => ?_, q⟩
  have e : b = s1.heap.objs.size := by simpa using hb
  subst e
  exact I1.fpOk (Nat.le_refl _) (I1.hok.fresh (Nat.le_refl _))
/-- a range object just made, walked -/
theorem range_it {pins : List (Addr × Obj)} {σ : St} {H : Hp} {s : Shared} {R : It → Hp → Prop} {E : Value → Shared → Prop} {lo hi : Int} {t u v : Tok} {tk : Nat} (I : Inv X pins σ H s) (h1 : -(2 ^ 62) ≤ lo) (h2 : lo < 2 ^ 62) (h3 : -(2 ^ 62) ≤ hi) (h4 : hi < 2 ^ 62)
    (q : R (Itr lo (hi - lo).toNat) H) : wpAny (model X.prog X.w) X.A (pyIter (.ref s.heap.objs.size)) (PIE X pins σ tg R) E { s with heap := s.heap.push { cls := .type "range", data := .fields #[.int lo t, .int hi u, .int 1 v] }, toks := tk } := by
  refine wpAny_pyIter_range (IsRange.new ..) (small_one h1 h2 h3 h4) ?_
  have I1 : Inv X pins σ H { s with heap := s.heap.push { cls := .type "range", data := .fields #[.int lo t, .int hi u, .int 1 v] }, toks := tk } := I.kept fun b o e => Heap.get?_push_of_some _ e
  refine ⟨(s.heap.push { cls := .type "range", data := .fields #[.int lo t, .int hi u, .int 1 v] }).objs.size, [(s.heap.push { cls := .type "range", data := .fields #[.int lo t, .int hi u, .int 1 v] }).objs.size], _, _, H, rfl,
    I1.kept (t' := tk) fun b o e => Heap.get?_push_of_some _ e, turn_range _ lo (hi - lo).toNat, ?_, fun b hb => ?_, q⟩
  · have e1 : lo + ((0 : Nat) : Int) * 1 = lo := by simp
    have e2 : (((hi - lo).toNat : Nat) : Int) - ((0 : Nat) : Int) = Builtin.Range.rangeSize lo hi 1 := by rw [rangeSize_one]; split <;> omega
    show IsRangeIter _ _ (lo + ((0 : Nat) : Int) * 1) ((((hi - lo).toNat : Nat) : Int) - ((0 : Nat) : Int)) 1
    rw [e1, e2]
    exact Heap.get?_push_size _ rfl
  · have e : b = (s.heap.push { cls := .type "range", data := .fields #[.int lo t, .int hi u, .int 1 v] }).objs.size := by simpa using hb
    subst e
    exact I1.fpOk (Nat.le_refl _) (I1.hok.fresh (Nat.le_refl _))
def iRng1 (ta : TA) : TI := fun σ H R => ta σ H fun vs H1 => ∃ j : Int, vs = [.int j] ∧ -(2 ^ 62) ≤ j ∧ j < 2 ^ 62 ∧ R (Itr 0 j.toNat) H1
theorem pi_range1 {a : Expr} {ta : TA} {p pos : Pos} (hg : Gl X "range") (hm : X.mg "range" = none) (ha : PA X [a] ta) (hs : starEach [a] X.env = [(false, eval a X.env)] := by rfl) : PI X tg (.Call (.Name "range" p) [a] [] pos) (iRng1 ta) := by
  intro pins s σ H R I h
  refine Call_ (ld_blt I hg hm boot_range (PyProof.Rows.callWith_type1 (thn (ha pos pins s σ H _ I h) fun us s1 ⟨vs, H1, I1, r1, q1⟩ => ?_) hs rfl))
  obtain ⟨j, e, q1, q2, q⟩ := q1
  subst e
  cases r1 with
  | cons r rr =>
    cases rr
    obtain ⟨t, rfl⟩ := r
    exact call_range_1 (range_it I1 (by omega) (by omega) q1 q2 (by simpa using q))
/-! ### for -/
/-- W: the invariant by the turn and a measure; N: what the body is to reach -/
def tFor (wi : TI) (g : TG) (tb : TS) : TS := fun D σ H => wi σ H fun J H1 => ∃ W : Nat → Nat → St → Hp → Prop, (∃ m, W 0 m σ H1) ∧ ∀ i m σ H, W i m σ H →
  (J.stop i H ∧ D.nx σ H) ∨ (J.go i H ∧ ∃ N : St → Hp → Prop, (∀ σ' H', N σ' H' → ∃ m', m' < m ∧ W (i + 1) m' σ' H') ∧ ∀ x H', J.yld i H x H' → g x σ H' fun σ2 H2 => tb { D with nx := N, ct := N, bk := D.nx } σ2 H2)
/-- the records at fp as they stand -/
def pinsAt (fp : List Addr) (h : Heap) : List (Addr × Obj) := fp.filterMap fun b => (h.get? b).map fun o => (b, o)
theorem mem_pinsAt {fp : List Addr} {h : Heap} {b : Addr} {o : Obj} (hb : b ∈ fp) (e : h.get? b = some o) : (b, o) ∈ pinsAt fp h := List.mem_filterMap.mpr ⟨b, hb, by rw [e]; rfl⟩
theorem of_pinsAt {fp : List Addr} {h : Heap} {p : Addr × Obj} (hp : p ∈ pinsAt fp h) : p.1 ∈ fp ∧ h.get? p.1 = some p.2 := by
  obtain ⟨b, hb, e⟩ := List.mem_filterMap.mp hp
  cases q : h.get? b with
  | none => rw [q] at e; cases e
  | some o =>
    rw [q] at e
    have e' : (b, o) = p := Option.some.inj e
    subst e'
    exact ⟨hb, q⟩
theorem Inv.pinned {pins : List (Addr × Obj)} {σ : St} {H : Hp} {s : Shared} {fp : List Addr} (I : Inv X pins σ H s) (hf : ∀ b ∈ fp, FpOk X pins H b) (ho : ∀ b ∈ fp, ∃ o, s.heap.get? b = some o ∧ ∀ v, o.data ≠ .cell v) : Inv X (pins ++ pinsAt fp s.heap) σ H s :=
  I.pins_of fun p hp => (List.mem_append.mp hp).elim (fun z => I.pin p (List.mem_append_right _ z)) fun z => by
    obtain ⟨hb, e⟩ := of_pinsAt z
    obtain ⟨f0, f1, f2, _⟩ := hf p.1 hb
    obtain ⟨o, e', d⟩ := ho p.1 hb
    rw [e] at e'; cases e'
    exact ⟨e, f0, f1, f2, d⟩
theorem Inv.unpinned {pins pl : List (Addr × Obj)} {σ : St} {H : Hp} {s : Shared} (I : Inv X (pins ++ pl) σ H s) : Inv X pins σ H s := I.pins_of fun p hp => I.pin p (List.mem_append_right _ (List.mem_append_left _ hp))
theorem ps_for {iter : Expr} {body : List Stmt} {wi : TI} {g : TG} {tb : TS} {pos : Pos} (hp : PassesOwn (model X.prog X.w) X.A X.env X.xe) (hc : X.calm = true) (hi : PI X tg iter wi) (hg : PG X tg g) (hb : PSs X body tb)
    (hs : ∀ x, foldedSetIterable iter X.env x = pure x := by intro _; rfl) : PS X (.For tg iter body [] pos) (tFor wi g tb) := by
  intro pins s σ H D I h
  refine wpAny_For (thn (hi pins s σ H _ I h) fun v s1 h1 => thn h1 fun itv s2 h2 => ?_) hs
  obtain ⟨it, fp, tn, J, H2, e, I2, T, st2, f2, W, ⟨m0, w0⟩, turn⟩ := h2
  subst e
  -- what stays true of the iterator's objects through the loop
  have stat : ∀ {H' : Hp}, (∀ b ∈ fp, H' b = none) → ∀ b ∈ fp, FpOk X pins H' b := fun hn b hb => ⟨hn b hb, (f2 b hb).2⟩
  refine codeAny_forLoop_any (fun n s' => ∃ i σ' H', Inv X pins σ' H' s' ∧ tn i s'.heap ∧ (∀ b ∈ fp, H' b = none) ∧ W i n σ' H') ?_ m0 ⟨0, σ, H2, I2, st2, fun b hb => (f2 b hb).1, w0⟩
  rintro n s3 ⟨i, σ3, H3, I3, st3, fr3, w3⟩
  rcases turn i n σ3 H3 w3 with ⟨stop, qn⟩ | ⟨go, N, hN, step⟩
  · refine wpAny_passesOwn hp (thn (T.done X rfl rfl rfl hc i pins s3 σ3 H3 X.xe I3 (stat fr3) st3 stop) fun r s4 ⟨hr, I4⟩ => ?_)
    subst hr
    exact wpAny_execs_nil ⟨σ3, H3, I4, qn⟩
  · refine wpAny_passesOwn hp (thn (T.item X rfl rfl rfl hc i pins s3 σ3 H3 X.xe I3 (stat fr3) st3 go) fun r s4 ⟨u, hr, h4⟩ => ?_)
    subst hr
    refine wpAny_passesOwn hp (thn h4 fun _ s5 ⟨x, H5, I5, r5, y5, st5, fr5⟩ => ?_)
    have I5' := I5.pinned (stat fr5) (T.obj _ _ st5)
    refine wpAny_passesOwn hp (thn (hg _ s5 σ3 H5 x u _ I5' r5 (step x H5 y5)) fun _ s6 ⟨σ6, H6, I6, q6⟩ => ?_)
    refine wpAny_passesOwn hp (thn (hb _ s6 σ6 H6 _ I6 q6) fun f s7 q7 => ?_)
    have again : ∀ {σ7 : St} {H7 : Hp}, Inv X (pins ++ pinsAt fp s5.heap) σ7 H7 s7 → N σ7 H7 → ∃ m, m < n ∧ ∃ i σ' H', Inv X pins σ' H' s7 ∧ tn i s7.heap ∧ (∀ b ∈ fp, H' b = none) ∧ W i m σ' H' := fun {σ7 H7} I7 n7 => by
      obtain ⟨m', hm, w7⟩ := hN σ7 H7 n7
      refine ⟨m', hm, i + 1, σ7, H7, I7.unpinned, T.keep _ _ _ st5 fun b hb o e => (I7.pin (b, o) (List.mem_append_right _ (List.mem_append_right _ (mem_pinsAt hb e)))).1, fun b hb => ?_, w7⟩
      obtain ⟨o, e, d⟩ := T.obj _ _ st5 b hb
      exact (I7.pin (b, o) (List.mem_append_right _ (List.mem_append_right _ (mem_pinsAt hb e)))).2.1
    cases f with
    | next => obtain ⟨σ7, H7, I7, n7⟩ := q7; exact again I7 n7
    | cont => obtain ⟨σ7, H7, I7, n7⟩ := q7; exact again I7 n7
    | brk => obtain ⟨σ7, H7, I7, q7⟩ := q7; exact ⟨σ7, H7, I7.unpinned, q7⟩
    | ret v => obtain ⟨x7, σ7, H7, I7, r7, q7⟩ := q7; exact ⟨x7, σ7, H7, I7.unpinned, r7, q7⟩
end

/-! ### the forms one uses -/
/-- over a list that the body leaves as it is -/
theorem for_list {K : PySem.W.Frag} {a : Addr} {xs : List V} {g : TG} {tb : TS} {D : Ends} {σ : St} {H : Hp} (Pv : Nat → St → Hp → Prop) (h0 : Pv 0 σ H) (hl : ∀ i σ H, i ≤ xs.length → Pv i σ H → SqL K H a xs)
    (hs : ∀ i x σ H, xs[i]? = some x → Pv i σ H → g x σ H fun σ2 H2 => tb { D with nx := Pv (i + 1), ct := Pv (i + 1), bk := D.nx } σ2 H2) (hd : ∀ σ H, Pv xs.length σ H → D.nx σ H) :
    ∃ W : Nat → Nat → St → Hp → Prop, (∃ m, W 0 m σ H) ∧ ∀ i m σ H, W i m σ H →
      ((Itl K a).stop i H ∧ D.nx σ H) ∨ ((Itl K a).go i H ∧ ∃ N : St → Hp → Prop, (∀ σ' H', N σ' H' → ∃ m', m' < m ∧ W (i + 1) m' σ' H') ∧ ∀ x H', (Itl K a).yld i H x H' → g x σ H' fun σ2 H2 => tb { D with nx := N, ct := N, bk := D.nx } σ2 H2) := by
  refine ⟨fun i m σ H => m = xs.length - i ∧ i ≤ xs.length ∧ Pv i σ H, ⟨xs.length, by simp, Nat.zero_le _, h0⟩, ?_⟩
  rintro i m σ H ⟨rfl, hi, p⟩
  have q := hl i σ H hi p
  by_cases hlt : i < xs.length
  · refine .inr ⟨⟨xs, xs[i], q, by simp [hlt]⟩, Pv (i + 1), fun σ' H' p' => ⟨xs.length - (i + 1), by omega, rfl, hlt, p'⟩, fun x H' y => ?_⟩
    obtain ⟨e, y⟩ := y
    subst e
    exact hs i x σ _ (y xs q) p
  · have e : i = xs.length := by omega
    subst e
    exact .inl ⟨⟨xs, q, Nat.le_refl _⟩, hd σ H p⟩
theorem for_range {lo : Int} {n : Nat} {g : TG} {tb : TS} {D : Ends} {σ : St} {H : Hp} (Pv : Nat → St → Hp → Prop) (h0 : Pv 0 σ H)
    (hs : ∀ i σ H, i < n → Pv i σ H → g (.int (lo + i)) σ H fun σ2 H2 => tb { D with nx := Pv (i + 1), ct := Pv (i + 1), bk := D.nx } σ2 H2) (hd : ∀ σ H, Pv n σ H → D.nx σ H) :
    ∃ W : Nat → Nat → St → Hp → Prop, (∃ m, W 0 m σ H) ∧ ∀ i m σ H, W i m σ H →
      ((Itr lo n).stop i H ∧ D.nx σ H) ∨ ((Itr lo n).go i H ∧ ∃ N : St → Hp → Prop, (∀ σ' H', N σ' H' → ∃ m', m' < m ∧ W (i + 1) m' σ' H') ∧ ∀ x H', (Itr lo n).yld i H x H' → g x σ H' fun σ2 H2 => tb { D with nx := N, ct := N, bk := D.nx } σ2 H2) := by
  refine ⟨fun i m σ H => m = n - i ∧ i ≤ n ∧ Pv i σ H, ⟨n, by simp, Nat.zero_le _, h0⟩, ?_⟩
  rintro i m σ H ⟨rfl, hi, p⟩
  by_cases hlt : i < n
  · refine .inr ⟨hlt, Pv (i + 1), fun σ' H' p' => ⟨n - (i + 1), by omega, rfl, hlt, p'⟩, fun x H' y => ?_⟩
    obtain ⟨e, y⟩ := y
    subst e y
    exact hs i σ _ hlt p
  · have e : i = n := by omega
    subst e
    exact .inl ⟨Nat.le_refl _, hd σ H p⟩
end L2

namespace L2
open PySem PySem.Spec PyProof.Rows

abbrev R2 := V → V → Hp → VK → Prop
/-- a two-place operation on values: f is binaryOp op, inplaceOp op or compareOp op -/
def OpR (X : Cx) (f : Value → Value → Sem Value) (r : R2) : Prop :=
  ∀ (pins : List (Addr × Obj)) (s : Shared) (σ : St) (H : Hp) (x y : V) (v u : Value) (Q : VK), Inv X pins σ H s → RelV x v → RelV y u → r x y H Q →
    wpAny (model X.prog X.w) X.A (f v u) (EP X pins σ Q) X.xe s
/-- a one-place operation -/
def UnR (X : Cx) (f : Value → Sem Value) (r : V → Hp → VK → Prop) : Prop :=
  ∀ (pins : List (Addr × Obj)) (s : Shared) (σ : St) (H : Hp) (x : V) (v : Value) (Q : VK), Inv X pins σ H s → RelV x v → r x H Q →
    wpAny (model X.prog X.w) X.A (f v) (EP X pins σ Q) X.xe s
/-- a call of a value that is known (a builtin, a type) with values -/
def CallR (X : Cx) (f : Value) (r : List V → Hp → VK → Prop) : Prop :=
  ∀ (pins : List (Addr × Obj)) (s : Shared) (σ : St) (H : Hp) (xs : List V) (us : List Value) (Q : VK), Inv X pins σ H s → Vals xs us → r xs H Q →
    wpAny (model X.prog X.w) X.A (call f us) (EP X pins σ Q) X.xe s
def tOp (r : R2) (ta tb : TE) : TE := fun σ H Q => ta σ H fun x H1 => tb σ H1 fun y H2 => r x y H2 Q
def tUn (r : V → Hp → VK → Prop) (ta : TE) : TE := fun σ H Q => ta σ H fun x H1 => r x H1 Q
/-- ints in, under C, and a value out -/
def rI (C : Int → Int → Prop) (g : Int → Int → V) : R2 := fun x y H Q => ∃ i j, x = .int i ∧ y = .int j ∧ C i j ∧ Q (g i j) H
def rI0 (g : Int → Int → V) : R2 := fun x y H Q => ∃ i j, x = .int i ∧ y = .int j ∧ Q (g i j) H
def rU (g : Int → V) : V → Hp → VK → Prop := fun x H Q => ∃ i, x = .int i ∧ Q (g i) H

section
variable {X : Cx} {a b c : Expr} {ta tb tc : TE} {pos : Pos}

theorem binT (ha : PE X a ta) (hb : PE X b tb) {pins : List (Addr × Obj)} {s : Shared} {σ : St} {H : Hp} {R : V → V → Hp → Prop} (I : Inv X pins σ H s)
    (h : ta σ H fun x H1 => tb σ H1 fun y H2 => R x y H2) {Q : Value → Shared → Prop} {f : Value → Value → Sem Value}
    (hf : ∀ v u s2 x y H2, Inv X pins σ H2 s2 → RelV x v → RelV y u → R x y H2 → wpAny (model X.prog X.w) X.A (f v u) Q X.xe s2) :
    wpAny (model X.prog X.w) X.A (eval a X.env) (fun v s₁ => wpAny (model X.prog X.w) X.A (eval b X.env) (fun u s₂ => wpAny (model X.prog X.w) X.A (f v u) Q X.xe s₂) X.xe s₁) X.xe s := by
  refine thn (ha pins s σ H _ I h) fun v s1 ⟨x, H1, I1, r1, q1⟩ => ?_
  refine thn (hb pins s1 σ H1 _ I1 q1) fun u s2 ⟨y, H2, I2, r2, q2⟩ => ?_
  exact hf v u s2 x y H2 I2 r1 r2 q2

theorem pe_op {op : Operator} {r : R2} (ho : OpR X (binaryOp op) r) (ha : PE X a ta) (hb : PE X b tb) : PE X (.BinOp a op b pos) (tOp r ta tb) := by
  intro pins s σ H Q I h
  exact wpAny_BinOp (binT ha hb I h fun v u s2 x y H2 I2 rx ry q => ho pins s2 σ H2 x y v u Q I2 rx ry q)
theorem pe_un {op : UnaryOp} {r : V → Hp → VK → Prop} (ho : UnR X (unaryOp op) r) (ha : PE X a ta) : PE X (.UnaryOp op a pos) (tUn r ta) := by
  intro pins s σ H Q I h
  exact UnaryOp_ (thn (ha pins s σ H _ I h) fun v s1 ⟨x, H1, I1, r1, q1⟩ => ho pins s1 σ H1 x v Q I1 r1 q1)
/-! ### ints -/
theorem opI {f : Value → Value → Sem Value} {C : Int → Int → Prop} {g : Int → Int → Int}
    (rule : ∀ (i j : Int) (t u : Tok) (s : Shared) (Q : Value → Shared → Prop) (E : Value → Shared → Prop), C i j → Q (.int (g i j) s.toks) { s with toks := s.toks + 1 } → wpAny (model X.prog X.w) X.A (f (.int i t) (.int j u)) Q E s) :
    OpR X f (rI C fun i j => .int (g i j)) := by
  intro pins s σ H x y v u Q I rx ry h
  obtain ⟨i, j, rfl, rfl, hc, q⟩ := h
  obtain ⟨t, rfl⟩ := rx
  obtain ⟨t', rfl⟩ := ry
  exact rule i j t t' s _ _ hc ⟨.int (g i j), H, I.tok _, ⟨_, rfl⟩, q⟩
theorem opI0 {f : Value → Value → Sem Value} {g : Int → Int → Int}
    (rule : ∀ (i j : Int) (t u : Tok) (s : Shared) (Q : Value → Shared → Prop) (E : Value → Shared → Prop), Q (.int (g i j) s.toks) { s with toks := s.toks + 1 } → wpAny (model X.prog X.w) X.A (f (.int i t) (.int j u)) Q E s) :
    OpR X f (rI0 fun i j => .int (g i j)) := by
  intro pins s σ H x y v u Q I rx ry h
  obtain ⟨i, j, rfl, rfl, q⟩ := h
  obtain ⟨t, rfl⟩ := rx
  obtain ⟨t', rfl⟩ := ry
  exact rule i j t t' s _ _ ⟨.int (g i j), H, I.tok _, ⟨_, rfl⟩, q⟩
theorem opB0 {f : Value → Value → Sem Value} {g : Int → Int → Bool}
    (rule : ∀ (i j : Int) (t u : Tok) (s : Shared) (Q : Value → Shared → Prop) (E : Value → Shared → Prop), Q (.bool (g i j)) s → wpAny (model X.prog X.w) X.A (f (.int i t) (.int j u)) Q E s) :
    OpR X f (rI0 fun i j => .bl (g i j)) := by
  intro pins s σ H x y v u Q I rx ry h
  obtain ⟨i, j, rfl, rfl, q⟩ := h
  obtain ⟨t, rfl⟩ := rx
  obtain ⟨t', rfl⟩ := ry
  exact rule i j t t' s _ _ ⟨.bl (g i j), H, I, rfl, q⟩

def CDiv (i j : Int) : Prop := 0 < j ∧ j < 1073741824
def CPow (i j : Int) : Prop := 0 ≤ j ∧ j ≤ 1000000 ∧ i.natAbs < 2 ^ 64
def CMul (i j : Int) : Prop := (-(2 ^ 64) < i ∧ i < 2 ^ 64) ∨ (-(2 ^ 64) < j ∧ j < 2 ^ 64)
theorem CMul.ok {i j : Int} (h : CMul i j) : IntMulOk i j := by
  rcases h with ⟨h1, h2⟩ | ⟨h1, h2⟩
  · exact .of_left (intBits_le_64 h1 h2)
  · exact .of_right (intBits_le_64 h1 h2)
theorem op_add : OpR X (binaryOp .Add) (rI0 fun i j => .int (i + j)) := opI0 fun _ _ _ _ _ _ _ q => add_int q
theorem op_sub : OpR X (binaryOp .Sub) (rI0 fun i j => .int (i - j)) := opI0 fun _ _ _ _ _ _ _ q => sub_int q
theorem op_mul : OpR X (binaryOp .Mult) (rI CMul fun i j => .int (i * j)) := opI fun _ _ _ _ _ _ _ hc q => mul_int q hc.ok
/-- // by a positive divisor -/
theorem op_fdiv : OpR X (binaryOp .FloorDiv) (rI CDiv fun i j => .int (i / j)) := opI fun i j _ _ _ _ _ hc q => by
  have h1 : (0 : Int) < j := hc.1
  have h2 : j < 1073741824 := hc.2
  exact floordiv_int (by omega) (by rw [Int.fdiv_eq_ediv_of_nonneg i (by omega)]; exact q) (.inl (PyProof.noPylong_small (by omega)))
/-- % by a positive divisor of any size -/
theorem op_mod : OpR X (binaryOp .Mod) (rI (fun _ j => 0 < j) fun i j => .int (i % j)) := opI fun i j _ _ _ _ _ hc q => by
  have h1 : (0 : Int) < j := hc
  exact mod_int' (by omega) (by rw [Int.fmod_eq_emod_of_nonneg i (by omega)]; exact q)
theorem op_pow : OpR X (binaryOp .Pow) (rI CPow fun i j => .int (i ^ j.toNat)) := opI fun _ _ _ _ _ _ _ hc q => pow_int_small hc.1 hc.2.1 hc.2.2 q
theorem unI {f : Value → Sem Value} {g : Int → Int}
    (rule : ∀ (i : Int) (t : Tok) (s : Shared) (Q : Value → Shared → Prop) (E : Value → Shared → Prop), Q (.int (g i) s.toks) { s with toks := s.toks + 1 } → wpAny (model X.prog X.w) X.A (f (.int i t)) Q E s) :
    UnR X f (rU fun i => .int (g i)) := by
  intro pins s σ H x v Q I rx h
  obtain ⟨i, rfl, q⟩ := h
  obtain ⟨t, rfl⟩ := rx
  exact rule i t s _ _ ⟨.int (g i), H, I.tok _, ⟨_, rfl⟩, q⟩
theorem un_neg : UnR X (unaryOp .USub) (rU fun i => .int (-i)) := unI fun _ _ _ _ _ q => neg_int q
/-! ### bools among ints: n += (a < b) -/
end

/-! ### comparisons -/
/-- the scalars that == tells apart as data does -/
def scal : V → V → Bool
  | .non, .non => true | .non, .int _ => true | .int _, .non => true | .non, .bl _ => true | .bl _, .non => true | .non, .str _ => true | .str _, .non => true
  | .int _, .int _ => true | .bl _, .bl _ => true | .str _, .str _ => true | .byt _, .byt _ => true
  | .int _, .str _ => true | .str _, .int _ => true | .bl _, .str _ => true | .str _, .bl _ => true
  | _, _ => false
def rEq : R2 := fun x y H Q => scal x y = true ∧ Q (.bl (decide (x = y))) H
def rNe : R2 := fun x y H Q => scal x y = true ∧ Q (.bl (!decide (x = y))) H

theorem dec_int {i j : Int} : decide (V.int i = V.int j) = (i == j) := by
  rw [Bool.eq_iff_iff]
  simp
theorem dec_bl {i j : Bool} : decide (V.bl i = V.bl j) = (i == j) := by
  rw [Bool.eq_iff_iff]
  simp
theorem dec_str {i j : Str} : decide (V.str i = V.str j) = (i == j) := by
  rw [Bool.eq_iff_iff]
  simp
theorem dec_byt {i j : Array UInt8} : decide (V.byt i = V.byt j) = (i.toList == j.toList) := by
  rw [Bool.eq_iff_iff]
  cases i
  cases j
  simp

section
variable {X : Cx} {a b c : Expr} {ta tb tc : TE} {pos : Pos}
theorem fin_bl {pins : List (Addr × Obj)} {σ : St} {H : Hp} {s : Shared} {Q : VK} {k k' : Bool} (I : Inv X pins σ H s) (q : Q (.bl k) H) (e : k = k') : EP X pins σ Q (.bool k') s := by
  subst e
  exact ⟨.bl k, H, I, rfl, q⟩
theorem op_eq : OpR X (compareOp .Eq) rEq := by
  intro pins s σ H x y v u Q I rx ry h
  obtain ⟨hs, q⟩ := h
  cases x with
  | non =>
    cases rx
    cases y with
    | non => cases ry; exact PySem.EqNone.eq_none_none (fin_bl I q (by simp))
    | bl j => cases ry; exact PySem.EqNone.eq_none_bool (fin_bl I q (by simp))
    | int j => obtain ⟨t', rfl⟩ := ry; exact PySem.EqNone.eq_none_int (fin_bl I q (by simp))
    | str j => obtain ⟨t', rfl⟩ := ry; exact PySem.EqNone.eq_none_str (fin_bl I q (by simp))
    | _ => exact absurd (show false = true from hs) Bool.false_ne_true
  | bl i =>
    cases rx
    cases y with
    | non => cases ry; exact PySem.EqNone.eq_bool_none (fin_bl I q (by simp))
    | bl j => cases ry; exact eq_bool (fin_bl I q dec_bl)
    | str j => obtain ⟨t', rfl⟩ := ry; exact PySem.EqMixed.eq_bool_str (fin_bl I q (by simp))
    | _ => exact absurd (show false = true from hs) Bool.false_ne_true
  | int i =>
    obtain ⟨t, rfl⟩ := rx
    cases y with
    | non => cases ry; exact PySem.EqNone.eq_int_none (fin_bl I q (by simp))
    | int j => obtain ⟨t', rfl⟩ := ry; exact eq_int (fin_bl I q dec_int)
    | str j => obtain ⟨t', rfl⟩ := ry; exact PySem.EqMixed.eq_int_str (fin_bl I q (by simp))
    | _ => exact absurd (show false = true from hs) Bool.false_ne_true
  | str i =>
    obtain ⟨t, rfl⟩ := rx
    cases y with
    | non => cases ry; exact PySem.EqNone.eq_str_none (fin_bl I q (by simp))
    | bl j => cases ry; exact PySem.EqMixed.eq_str_bool (fin_bl I q (by simp))
    | int j => obtain ⟨t', rfl⟩ := ry; exact PySem.EqMixed.eq_str_int (fin_bl I q (by simp))
    | str j => obtain ⟨t', rfl⟩ := ry; exact eq_str (fin_bl I q dec_str)
    | _ => exact absurd (show false = true from hs) Bool.false_ne_true
  | byt i =>
    obtain ⟨t, rfl⟩ := rx
    cases y with
    | byt j => obtain ⟨t', rfl⟩ := ry; exact PySem.W.eq_bytes (fin_bl I q dec_byt)
    | _ => exact absurd (show false = true from hs) Bool.false_ne_true
  | _ => cases y <;> exact absurd (show false = true from hs) Bool.false_ne_true
theorem op_ne : OpR X (compareOp .NotEq) rNe := by
  intro pins s σ H x y v u Q I rx ry h
  obtain ⟨hs, q⟩ := h
  cases x with
  | non =>
    cases rx
    cases y with
    | non => cases ry; exact PySem.EqNone.ne_none_none (fin_bl I q (by simp))
    | bl j => cases ry; exact PySem.EqNone.ne_none_bool (fin_bl I q (by simp))
    | int j => obtain ⟨t', rfl⟩ := ry; exact PySem.EqNone.ne_none_int (fin_bl I q (by simp))
    | str j => obtain ⟨t', rfl⟩ := ry; exact PySem.EqNone.ne_none_str (fin_bl I q (by simp))
    | _ => exact absurd (show false = true from hs) Bool.false_ne_true
  | bl i =>
    cases rx
    cases y with
    | non => cases ry; exact PySem.EqNone.ne_bool_none (fin_bl I q (by simp))
    | bl j => cases ry; exact ne_bool (fin_bl I q (congrArg not dec_bl))
    | str j => obtain ⟨t', rfl⟩ := ry; exact PySem.EqMixed.ne_bool_str (fin_bl I q (by simp))
    | _ => exact absurd (show false = true from hs) Bool.false_ne_true
  | int i =>
    obtain ⟨t, rfl⟩ := rx
    cases y with
    | non => cases ry; exact PySem.EqNone.ne_int_none (fin_bl I q (by simp))
    | int j => obtain ⟨t', rfl⟩ := ry; exact ne_int (fin_bl I q (congrArg not dec_int))
    | str j => obtain ⟨t', rfl⟩ := ry; exact PySem.EqMixed.ne_int_str (fin_bl I q (by simp))
    | _ => exact absurd (show false = true from hs) Bool.false_ne_true
  | str i =>
    obtain ⟨t, rfl⟩ := rx
    cases y with
    | non => cases ry; exact PySem.EqNone.ne_str_none (fin_bl I q (by simp))
    | bl j => cases ry; exact PySem.EqMixed.ne_str_bool (fin_bl I q (by simp))
    | int j => obtain ⟨t', rfl⟩ := ry; exact PySem.EqMixed.ne_str_int (fin_bl I q (by simp))
    | str j => obtain ⟨t', rfl⟩ := ry; exact ne_str (fin_bl I q (congrArg not dec_str))
    | _ => exact absurd (show false = true from hs) Bool.false_ne_true
  | byt i =>
    obtain ⟨t, rfl⟩ := rx
    cases y with
    | byt j => obtain ⟨t', rfl⟩ := ry; exact PySem.W.ne_bytes (fin_bl I q (congrArg not dec_byt))
    | _ => exact absurd (show false = true from hs) Bool.false_ne_true
  | _ => cases y <;> exact absurd (show false = true from hs) Bool.false_ne_true

theorem op_lt : OpR X (compareOp .Lt) (rI0 fun i j => .bl (decide (i < j))) := opB0 fun _ _ _ _ _ _ _ q => lt_int q
theorem op_le : OpR X (compareOp .LtE) (rI0 fun i j => .bl (decide (i ≤ j))) := opB0 fun _ _ _ _ _ _ _ q => le_int q
theorem op_gt : OpR X (compareOp .Gt) (rI0 fun i j => .bl (decide (j < i))) := opB0 fun _ _ _ _ _ _ _ q => gt_int q
theorem op_ge : OpR X (compareOp .GtE) (rI0 fun i j => .bl (decide (j ≤ i))) := opB0 fun _ _ _ _ _ _ _ q => ge_int q
/-- is None, is not None: the right side a value none -/
theorem op_isN : OpR X (compareOp .Is) (fun x y H Q => y = .non ∧ Q (.bl (decide (x = .non))) H) := by
  intro pins s σ H x y v u Q I rx ry h
  obtain ⟨rfl, q⟩ := h
  cases ry
  refine is_none_gen (fin_bl I q ?_)
  cases x <;> first
    | (cases rx; rfl)
    | (obtain ⟨t, rfl⟩ := rx; rfl)
/-- two rules for one operation: by cases -/
theorem OpR.or {f : Value → Value → Sem Value} {r r' : R2} (h : OpR X f r) (h' : OpR X f r') : OpR X f (fun x y H Q => r x y H Q ∨ r' x y H Q) := by
  intro pins s σ H x y v u Q I rx ry q
  rcases q with q | q
  · exact h pins s σ H x y v u Q I rx ry q
  · exact h' pins s σ H x y v u Q I rx ry q

theorem nomark (b : Expr) {op : CmpOp} (h : op ≠ .In := by decide) (h2 : op ≠ .NotIn := by decide) : behindInMarks op b = false := by
  have e1 : (op == CmpOp.In) = false := by cases op <;> first | rfl | exact absurd rfl h
  have e2 : (op == CmpOp.NotIn) = false := by cases op <;> first | rfl | exact absurd rfl h2
  cases b <;> simp [behindInMarks, e1, e2]
/-- a comparison as a value; hm: nomark b, or (for in, not in) by with_unfolding_all rfl -/
theorem pe_cmpR {op : CmpOp} {r : R2} (ho : OpR X (compareOp op) r) (ha : PE X a ta) (hb : PE X b tb) (hm : behindInMarks op b = false) : PE X (.Compare a [op] [b] pos) (tOp r ta tb) := by
  intro pins s σ H Q I h
  exact wpAny_Compare1 (binT ha hb I h fun v u s2 x y H2 I2 rx ry q => ho pins s2 σ H2 x y v u Q I2 rx ry q) hm
/-- a reading of a value as a test -/
def tTest (t : TE) : TT := fun σ H Q => t σ H fun x H' => ∃ k, x = .bl k ∧ Q k H'
theorem pt_cmpR {op : CmpOp} {r : R2} (ho : OpR X (compareOp op) r) (ha : PE X a ta) (hb : PE X b tb) (hm : behindInMarks op b = false) : PT X (.Compare a [op] [b] pos) (tTest (tOp r ta tb)) := by
  intro pins s σ H Q I h
  refine wpAny_isTrue_Compare1 (thn (ha pins s σ H _ I h) fun v s1 ⟨x, H1, I1, r1, q1⟩ => thn (hb pins s1 σ H1 _ I1 q1) fun u s2 ⟨y, H2, I2, r2, q2⟩ =>
    thn (ho pins s2 σ H2 x y v u _ I2 r1 r2 q2) fun c s3 ⟨z, H3, I3, r3, k, e, q3⟩ => ?_) hm
  subst e
  cases r3
  exact wpAny_truthy_bool ⟨H3, I3, q3⟩
/-- a op1 b op2 c -/
def tChain (r r' : R2) (ta tb tc : TE) : TE := fun σ H Q => ta σ H fun x H1 => tb σ H1 fun y H2 => r x y H2 fun z H3 => ∃ k, z = .bl k ∧
  (if k = true then tc σ H3 fun w' H4 => r' y w' H4 Q else Q (.bl false) H3)
theorem pe_chain {op op' : CmpOp} {r r' : R2} (ho : OpR X (compareOp op) r) (ho' : OpR X (compareOp op') r') (ha : PE X a ta) (hb : PE X b tb) (hc : PE X c tc)
    (hm : lastMarks [op, op'] [b, c] = false := by with_unfolding_all rfl) : PE X (.Compare a [op, op'] [b, c] pos) (tChain r r' ta tb tc) := by
  intro pins s σ H Q I h
  refine Compare_chain (thn (ha pins s σ H _ I h) fun v s1 ⟨x, H1, I1, r1, q1⟩ => chain_link (thn (hb pins s1 σ H1 _ I1 q1) fun u s2 ⟨y, H2, I2, r2, q2⟩ =>
    thn (ho pins s2 σ H2 x y v u _ I2 r1 r2 q2) fun d s3 ⟨z, H3, I3, r3, k, e, q3⟩ => ?_)) hm
  subst e
  cases r3
  refine wpAny_truthy_bool ?_
  cases k with
  | false => exact ite_ff ⟨.bl false, H3, I3, rfl, q3⟩
  | true => exact ite_tt (chain_last (thn (hc pins s3 σ H3 _ I3 q3) fun w' s4 ⟨z', H4, I4, r4, q4⟩ => ho' pins s4 σ H4 y z' u w' Q I4 r2 r4 q4))
theorem pt_chain {op op' : CmpOp} {r r' : R2} (ho : OpR X (compareOp op) r) (ho' : OpR X (compareOp op') r') (ha : PE X a ta) (hb : PE X b tb) (hc : PE X c tc)
    (hm : lastMarks [op, op'] [b, c] = false := by with_unfolding_all rfl) : PT X (.Compare a [op, op'] [b, c] pos) (tTest (tChain r r' ta tb tc)) := by
  intro pins s σ H Q I h
  refine isTrue_chain (thn (ha pins s σ H _ I h) fun v s1 ⟨x, H1, I1, r1, q1⟩ => test_link (thn (hb pins s1 σ H1 _ I1 q1) fun u s2 ⟨y, H2, I2, r2, q2⟩ =>
    thn (ho pins s2 σ H2 x y v u _ I2 r1 r2 q2) fun d s3 ⟨z, H3, I3, r3, k, e, q3⟩ => ?_)) hm
  subst e
  cases r3
  refine wpAny_truthy_bool ?_
  cases k with
  | false =>
    obtain ⟨k', e', q'⟩ := q3
    cases e'
    exact ite_ff ⟨H3, I3, q'⟩
  | true =>
    refine ite_tt (test_last (thn (hc pins s3 σ H3 _ I3 q3) fun w' s4 ⟨z', H4, I4, r4, q4⟩ => thn (ho' pins s4 σ H4 y z' u w' _ I4 r2 r4 q4) fun d' s5 ⟨z2, H5, I5, r5, k2, e2, q5⟩ => ?_))
    subst e2
    cases r5
    exact wpAny_truthy_bool ⟨H5, I5, q5⟩

/-! ### truth -/
theorem line63 : (sizeLine : Nat) < 2 ^ 63 := by rw [sizeLine_eq]; decide
/-! ### strs and bytes -/
theorem op_add_str : OpR X (binaryOp .Add) (fun x y H Q => ∃ i j, x = .str i ∧ y = .str j ∧ i.length + j.length ≤ sizeLine ∧ Q (.str (i ++ j)) H) := by
  intro pins s σ H x y v u Q I rx ry h
  obtain ⟨i, j, rfl, rfl, hz, q⟩ := h
  obtain ⟨t, rfl⟩ := rx
  obtain ⟨t', rfl⟩ := ry
  exact add_str (fun t' tk => ⟨.str (i ++ j), H, I.tok _, ⟨_, rfl⟩, q⟩) hz
/-! ### scalar builtins, by CallR -/
theorem vals1 {x : V} {us : List Value} (r : Vals [x] us) : ∃ u, us = [u] ∧ RelV x u := by
  cases r with
  | cons r1 r2 => cases r2; exact ⟨_, rfl, r1⟩
theorem vals2 {x y : V} {us : List Value} (r : Vals [x, y] us) : ∃ u w', us = [u, w'] ∧ RelV x u ∧ RelV y w' := by
  cases r with
  | cons r1 r2 =>
    cases r2 with
    | cons r3 r4 => cases r4; exact ⟨_, _, rfl, r1, r3⟩
theorem call_max2 (hc : X.calm = true) : CallR X (.builtin "max") (fun xs H Q => ∃ i j, xs = [.int i, .int j] ∧ Q (.int (if j > i then j else i)) H) := by
  intro pins s σ H xs us Q I r h
  obtain ⟨i, j, rfl, q⟩ := h
  obtain ⟨u, w', rfl, ⟨t, rfl⟩, ⟨t', rfl⟩⟩ := vals2 r
  refine max_two_ints (I.ok.hd hc) fun h' tk k => ⟨_, H, I.kept k, ?_, q⟩
  by_cases hj : j > i
  · rw [if_pos hj, if_pos hj]; exact ⟨_, rfl⟩
  · rw [if_neg hj, if_neg hj]; exact ⟨_, rfl⟩
theorem call_min2 (hc : X.calm = true) : CallR X (.builtin "min") (fun xs H Q => ∃ i j, xs = [.int i, .int j] ∧ Q (.int (if j < i then j else i)) H) := by
  intro pins s σ H xs us Q I r h
  obtain ⟨i, j, rfl, q⟩ := h
  obtain ⟨u, w', rfl, ⟨t, rfl⟩, ⟨t', rfl⟩⟩ := vals2 r
  refine min_two_ints (I.ok.hd hc) fun h' tk k => ⟨_, H, I.kept k, ?_, q⟩
  by_cases hj : j < i
  · rw [if_pos hj, if_pos hj]; exact ⟨_, rfl⟩
  · rw [if_neg hj, if_neg hj]; exact ⟨_, rfl⟩
end
end L2

namespace L2
open PySem PySem.Spec PyProof.Rows

/-! ### an instance, its attributes a map -/
structure ObjM (h : Heap) (x dx C : Addr) (mA : Str → Option Value) : Prop where
  obj : h.get? x = some (PySem.W.instObj C dx)
  ns : h.Ns1 dx mA
  ne : dx ≠ x

theorem lookIn_ns {h : Heap} {dx : Addr} {mA : Str → Option Value} (n : h.Ns1 dx mA) : ∃ od, h.get? dx = some od ∧ ∀ name, PySem.W.lookIn name od = some (mA name) := by
  obtain ⟨o, es, ep, ho, hd, hk, _, hm⟩ := n
  refine ⟨o, ho, fun name => ?_⟩
  have e := hm name
  unfold nsFind findBy at e
  rw [← Array.find?_toList] at e
  unfold PySem.W.lookIn
  rw [hd]
  dsimp only
  split
  · rename_i y q
    rw [q] at e
    exact congrArg some e
  · rename_i q
    rw [q] at e
    have a : es.toList.any (·.refKey) = false := by
      rw [List.any_eq_false]
      intro y hy
      obtain ⟨z, t, hkey⟩ := hk y (Array.mem_toList_iff.mp hy)
      simp [DictEntry.refKey, hkey]
    have a' : ¬ es.toList.any (·.refKey) = true := by rw [a]; exact Bool.false_ne_true
    rw [if_neg a']
    exact congrArg some e

theorem ObjM.look {h : Heap} {x dx C : Addr} {mA : Str → Option Value} (I : ObjM h x dx C mA) : ∃ od, PySem.W.InstAt h x (PySem.W.instObj C dx) C (some od) ∧ ∀ name, PySem.W.lookIn name od = some (mA name) :=
  let ⟨od, ho, hl⟩ := lookIn_ns I.ns
  ⟨od, ⟨I.obj, rfl, rfl, ho⟩, hl⟩

section
variable {prog : Program} {w : World} {A : Around} {E : Value → Shared → Prop} {s : Shared} {K : PySem.W.Frag} {x dx C f : Addr} {mA : Str → Option Value} {name : Str} {v : Value}

theorem get_map {expr : Bool} {Q : Value → Shared → Prop} (X : K.In s.heap) (I : ObjM s.heap x dx C mA) (hg : PySem.W.plainGet K C name = true) (hh : PySem.W.hasDictIn K C = true)
    (ha : PySem.W.findIn K (.ref C) name = some none) (hv : mA name = some v) (hv' : PySem.W.handedIn v = true) (h : Q v { s with toks := s.toks + 1 }) :
    wpAny (model prog w) A (getAttr (.ref x) name expr) Q E s := by
  obtain ⟨od, J, hl⟩ := I.look
  exact PySem.W.get_value X J (PySem.W.plainGet_of hg).1 (PySem.W.findObj_own hh ha rfl (by rw [hl, hv])) hv' h

theorem set_map {ns : List Str} {Q : Unit → Shared → Prop} (X : K.In s.heap) (I : ObjM s.heap x dx C mA)
    (hs : PySem.W.findIn K (.ref C) "__setattr__" = some (some (.builtin "object.__setattr__"))) (hp : PySem.W.plainOver K C = true) (ht : PySem.W.takerIn K C name = some none) (hh : PySem.W.hasDictIn K C = true)
    (hw : PySem.Within mA ns) (hsz : ns.length ≤ sizeLine)
    (h : ∀ h', ObjM h' x dx C (fun y => if y = name then some v else mA y) → Heap.SameBut dx s.heap h' → Q () { s with heap := h', toks := s.toks + 2 }) :
    wpAny (model prog w) A (setAttr (.ref x) name v) Q E s := by
  obtain ⟨od, J, hl⟩ := I.look
  refine PySem.W.set_plain X J hs (PySem.W.osa_open (s := { s with toks := s.toks + 1 }) (r := none) X J hp ht fun b => ?_)
  obtain ⟨cd, hc, hd'⟩ := PySem.W.any_some hh
  have hx : s.heap.get? x = some ⟨.ref C, some dx, .plain, #[]⟩ := I.obj
  refine wpAny_bind (wpAny_pure (wpAny_bind (wpAny_bind (wpAny_loadPart hx (wpAny_bind (PySem.W.Looks.here (s := { s with toks := s.toks + 1 }) (PySem.W.looks_clsIn X hc) ?_))))))
  rw [hd']
  refine wpAny_pure (a := some dx) (wpAny_bind (wpAny_pure (wpAny_bind ?_)))
  refine wpAny_nsSet1 (s := { s with toks := s.toks + 1 }) I.ns fun h' hn2 hs2 => ?_
  obtain ⟨oD, esD, epD, hoD, hdD, hcD⟩ := hn2.count (PySem.Within.cons name v hw)
  refine wpAny_bind (wpAny_lookBehind hoD (by rw [hdD]; exact pastItsLine_dict (Nat.le_trans hcD (by rw [List.length_cons]; omega))) ?_)
  exact wpAny_pure (h _ ⟨(hs2.2 _ (Ne.symm I.ne)).trans I.obj, hn2, I.ne⟩ hs2)

/-- C(..): the dict at the heap's end, the instance behind it; then its __init__ -/
theorem make_map {R : Result → Shared → Prop} {vs : List Value} {kw : List (Str × Value)} (X : K.In s.heap) (hm : PySem.W.makesIn K C = true)
    (hi : PySem.W.findIn K (.ref C) "__init__" = some (some (.ref f))) (hf : PySem.W.typeIn K (.ref f) = some (.type "function"))
    (h : codeAny (model prog w) (A.under (.builtin "type.__call__" ⟨.ref C :: vs, kw⟩)) (.call (.ref f) ⟨.ref (s.heap.objs.size + 1) :: vs, kw⟩) (PySem.W.InitBack (s.heap.objs.size + 1) R)
      { s with heap := (s.heap.push PySem.W.emptyDict).push (PySem.W.instObj C s.heap.objs.size) }) :
    codeAny (model prog w) A (.call (.ref C) ⟨vs, kw⟩) R s := by
  obtain ⟨hh, g, d, t, os⟩ := s
  exact PySem.W.make_core (PySem.W.makes_of X hm) (PySem.W.looks_findIn X hi) (fun self => PySem.W.bind_fn X self hf) (.inl rfl) h
end

/-! ### the attributes as a list of pairs -/
def putF (f : Str) (v : V) : List (Str × V) → List (Str × V)
  | [] => [(f, v)]
  | (g, x) :: r => if g = f then (g, v) :: r else (g, x) :: putF f v r
theorem lookup_putF (f g : Str) (v : V) : ∀ fs : List (Str × V), (putF f v fs).lookup g = if g = f then some v else fs.lookup g
  | [] => by
    show List.lookup g [(f, v)] = _
    by_cases h : g = f
    · have hb : (g == f) = true := beq_iff_eq.mpr h
      simp only [List.lookup, hb, if_pos h]
    · have hb : (g == f) = false := beq_eq_false_iff_ne.mpr h
      simp only [List.lookup, hb, if_neg h]
  | (k, x) :: r => by
    have ih := lookup_putF f g v r
    rw [show putF f v ((k, x) :: r) = (if k = f then (k, v) :: r else (k, x) :: putF f v r) from rfl]
    by_cases hk : k = f
    · rw [if_pos hk]
      by_cases h : g = k
      · have hb : (g == k) = true := beq_iff_eq.mpr h
        simp only [List.lookup, hb, if_pos (h.trans hk)]
      · have hb : (g == k) = false := beq_eq_false_iff_ne.mpr h
        simp only [List.lookup, hb, if_neg (fun e : g = f => h (e.trans hk.symm))]
    · rw [if_neg hk]
      by_cases h : g = k
      · have hb : (g == k) = true := beq_iff_eq.mpr h
        simp only [List.lookup, hb, if_neg (fun e : g = f => hk (h.symm.trans e))]
      · have hb : (g == k) = false := beq_eq_false_iff_ne.mpr h
        simp only [List.lookup, hb]
        exact ih
theorem keys_putF (f : Str) (v : V) : ∀ fs : List (Str × V), f ∈ (putF f v fs).map (·.1) ∧ ∀ g, g ∈ fs.map (·.1) → g ∈ (putF f v fs).map (·.1)
  | [] => ⟨by simp [putF], fun g h => by simp at h⟩
  | (k, x) :: r => by
    obtain ⟨i1, i2⟩ := keys_putF f v r
    rw [show putF f v ((k, x) :: r) = (if k = f then (k, v) :: r else (k, x) :: putF f v r) from rfl]
    by_cases hk : k = f
    · rw [if_pos hk]
      subst hk
      exact ⟨by simp, fun g h => by simpa using h⟩
    · rw [if_neg hk]
      refine ⟨?_, fun g h => ?_⟩
      · rw [List.map_cons]
        exact List.mem_cons_of_mem _ i1
      · rw [List.map_cons] at h ⊢
        rcases List.mem_cons.mp h with e | e
        · exact List.mem_cons.mpr (.inl e)
        · exact List.mem_cons_of_mem _ (i2 g e)
theorem length_putF (f : Str) (v : V) : ∀ fs : List (Str × V), (putF f v fs).length ≤ fs.length + 1
  | [] => by simp [putF]
  | (k, x) :: r => by
    have ih := length_putF f v r
    rw [show putF f v ((k, x) :: r) = (if k = f then (k, v) :: r else (k, x) :: putF f v r) from rfl]
    by_cases hk : k = f
    · rw [if_pos hk, List.length_cons, List.length_cons]; omega
    · rw [if_neg hk, List.length_cons, List.length_cons]; omega

theorem RelO.some_of {v : V} {o : Option Value} (r : RelO (some v) o) : ∃ u, o = some u ∧ RelV v u := by
  cases o with
  | none => exact (show False from r).elim
  | some u => exact ⟨u, rfl, r⟩
theorem handed_of {v : V} {u : Value} (r : RelV v u) : PySem.W.handedIn u = true := by
  cases v with
  | non => cases (show u = Value.none from r); rfl
  | bl b => cases (show u = Value.bool b from r); rfl
  | int i => obtain ⟨t, e⟩ := (show ∃ t, u = Value.int i t from r); cases e; rfl
  | str x => obtain ⟨t, e⟩ := (show ∃ t, u = Value.str x t from r); cases e; rfl
  | byt b => obtain ⟨t, e⟩ := (show ∃ t, u = Value.bytes b t from r); cases e; rfl
  | flt b => obtain ⟨t, e⟩ := (show ∃ t, u = Value.float b t from r); cases e; rfl
  | ref a => cases (show u = Value.ref a from r); rfl
  | ty n => cases (show u = Value.type n from r); rfl

section
variable {P : Program} {w : World} {H H' : Hp} {h h' : Heap} {a C dx : Addr} {fs fs' : List (Str × V)}
theorem ins_get (hok : HOk P w H h) (e : H a = some (.ins C dx fs)) : ∃ mA, ObjM h a dx C mA ∧ (∀ f, RelO (fs.lookup f) (mA f)) ∧ PySem.Within mA (fs.map (·.1)) ∧ fs.length ≤ 1000 ∧ H dx = some (.own a) := by
  obtain ⟨d, z, ne, ob, mA, n, r, q⟩ := (show ObjOk P w H h a (.ins C dx fs) from hok a _ e)
  exact ⟨mA, ⟨ob, n, ne⟩, r, q, z, d⟩
end

/-! ### what of the text a class must have -/
structure Cls (K : PySem.W.Frag) (C : Addr) : Prop where
  pg : PySem.W.plainGet K C Str.empty = true
  hd : PySem.W.hasDictIn K C = true
  po : PySem.W.plainOver K C = true
  sa : PySem.W.findIn K (.ref C) "__setattr__" = some (some (.builtin "object.__setattr__"))
theorem Cls.get {K : PySem.W.Frag} {C : Addr} (c : Cls K C) (f : Str) : PySem.W.plainGet K C f = true := c.pg
/-- no class of it has the name -/
def NoAttr (K : PySem.W.Frag) (C : Addr) (f : Str) : Prop := PySem.W.findIn K (.ref C) f = some none
theorem NoAttr.taker {K : PySem.W.Frag} {C : Addr} {f : Str} (n : NoAttr K C f) : PySem.W.takerIn K C f = some none := by
  unfold PySem.W.takerIn
  rw [show PySem.W.findIn K (.ref C) f = some none from n]
  rfl
/-- a constant of the class -/
structure Con (K : PySem.W.Frag) (C : Addr) (f : Str) (v : V) (u : Value) : Prop where
  at_ : PySem.W.findIn K (.ref C) f = some (some u)
  rel : RelV v u
  get : PySem.W.specialIn K u "__get__" = some none
  cp : PySem.W.copiedNames.contains f = false
/-- a method: a plain def of the class or of one above it -/
structure Meth (K : PySem.W.Frag) (C : Addr) (m : Str) (f : Addr) : Prop where
  at_ : PySem.W.findIn K (.ref C) m = some (some (.ref f))
  fn : PySem.W.isFn K (.ref f) = true
  kp : PySem.W.keepIn K (.ref f) = true

section
variable {X : Cx} {pins : List (Addr × Obj)} {σ : St} {H : Hp} {s : Shared} {a C dx : Addr} {fs : List (Str × V)} {f : Str} {v : V} {A : Around} {E : Value → Shared → Prop}

theorem getattr_ok {b : Bool} {Q : Value → Shared → Prop} (I : Inv X pins σ H s) (e : H a = some (.ins C dx fs)) (c : Cls X.K C) (n : NoAttr X.K C f) (l : fs.lookup f = some v)
    (h : ∀ u s', Inv X pins σ H s' → RelV v u → Q u s') : wpAny (model X.prog X.w) A (getAttr (.ref a) f b) Q E s := by
  obtain ⟨mA, O, r, _, _, _⟩ := ins_get I.hok e
  obtain ⟨u, hu, ru⟩ := RelO.some_of (v := v) (o := mA f) (by rw [← l]; exact r f)
  exact get_map I.kIn O (c.get f) c.hd n hu (handed_of ru) (h u _ (I.tok _) ru)

theorem setattr_ok {y : V} {u : Value} {Q : Unit → Shared → Prop} (I : Inv X pins σ H s) (e : H a = some (.ins C dx fs)) (c : Cls X.K C) (n : NoAttr X.K C f) (hl : fs.length < 1000) (ry : RelV y u)
    (h : ∀ s', Inv X pins σ (upd H a (.ins C dx (putF f y fs))) s' → Q () s') : wpAny (model X.prog X.w) A (setAttr (.ref a) f u) Q E s := by
  obtain ⟨mA, O, r, wi, _, ho⟩ := ins_get I.hok e
  have hz : (fs.map (·.1)).length ≤ sizeLine := by rw [List.length_map, sizeLine_eq]; omega
  refine set_map I.kIn O c.sa c.po n.taker c.hd wi hz fun h' O' sb => h _ ?_
  have hd : ∃ o, h'.get? dx = some o := let ⟨o, _, _, e', _⟩ := O'.ns; ⟨o, e'⟩
  refine I.write (x := a) (e := dx) (by rw [e]; exact True.intro) (.inr ho) (fun b q hb z => (sb.2 b hb).trans z) hd ?_
  refine ⟨by rw [upd_ne O.ne]; exact ho, ?_, O.ne, O'.obj, _, O'.ns, fun g => ?_, fun g hg => ?_⟩
  · have := length_putF f y fs; omega
  · show RelO ((putF f y fs).lookup g) (if g = f then some u else mA g)
    rw [lookup_putF]
    by_cases q : g = f
    · rw [if_pos q, if_pos q]; exact ry
    · rw [if_neg q, if_neg q]; exact r g
  · by_cases q : g = f
    · rw [q]; exact (keys_putF f y fs).1
    · refine (keys_putF f y fs).2 g (wi g fun z => hg ?_)
      show (if g = f then some u else mA g) = none
      rw [if_neg q]; exact z

/-- a new instance, tracked, without attributes -/
theorem Inv.made (I : Inv X pins σ H s) : Inv X pins σ (upd (upd H s.heap.objs.size (.own (s.heap.objs.size + 1))) (s.heap.objs.size + 1) (.ins C s.heap.objs.size []))
    { s with heap := (s.heap.push PySem.W.emptyDict).push (PySem.W.instObj C s.heap.objs.size) } := by
  have e1 : (s.heap.push PySem.W.emptyDict).get? s.heap.objs.size = some PySem.W.emptyDict := Heap.get?_push_size s.heap rfl
  have e2 : ((s.heap.push PySem.W.emptyDict).push (PySem.W.instObj C s.heap.objs.size)).get? (s.heap.objs.size + 1) = some (PySem.W.instObj C s.heap.objs.size) := by
    have := Heap.get?_push_size (s.heap.push PySem.W.emptyDict) (o := PySem.W.instObj C s.heap.objs.size) rfl
    rwa [Heap.size_push] at this
  have e3 : (s.heap.push PySem.W.emptyDict).Ns s.heap.objs.size (fun _ => none) := ⟨PySem.W.emptyDict, #[], _, e1, rfl, (fun e he => absurd he (by simp)), fun _ => rfl⟩
  have I1 := I.laid (a := s.heap.objs.size) (o := .own (s.heap.objs.size + 1)) (h' := s.heap.push PySem.W.emptyDict) (t' := s.toks) (fun b u q => Heap.get?_push_of_some _ q) (Nat.le_refl _) ⟨_, e1⟩
  refine I1.laid (a := s.heap.objs.size + 1) (o := .ins C s.heap.objs.size []) (t' := s.toks) (fun b u q => Heap.get?_push_of_some _ q) (Nat.le_of_eq (Heap.size_push _ _)) ?_
  have ne : s.heap.objs.size ≠ s.heap.objs.size + 1 := Nat.ne_of_lt (Nat.lt_succ_self _)
  refine ⟨by rw [upd_ne ne, upd_same], Nat.zero_le _, ne, e2, fun _ => none, (Heap.Ns1.of_empty e3).at fun o q => Heap.get?_push_of_some _ q, fun _ => True.intro, fun y hy => absurd rfl hy⟩

/-- e.f where nothing but the object is asked: through attributeBase (super) and the last hold -/
theorem attr_of {prog : Program} {w : World} {env : Env} {e : Expr} {f : Str} {pos : Pos} {s : Shared} {Q : Value → Shared → Prop} (hb : attributeBase e f env (eval e env) = eval e env)
    (h : wpAny (model prog w) A (eval e env) (fun o s₁ => wpAny (model prog w) A (getAttr o f true) Q E s₁) E s) : wpAny (model prog w) A (eval (.Attribute e f pos) env) Q E s :=
  Attribute_any_ h (by rw [arm_eval_Attribute, hb])
end

/-! ### readings and rules -/
/-- e.f, an attribute of the instance -/
def tFld (K : PySem.W.Frag) (ta : TE) (f : Str) : TE := fun σ H Q => ta σ H fun x H1 => ∃ a C dx fs v, x = .ref a ∧ H1 a = some (.ins C dx fs) ∧ Cls K C ∧ NoAttr K C f ∧ fs.lookup f = some v ∧ Q v H1
/-- e.f = value -/
def sFld (K : PySem.W.Frag) (ta tv : TE) (f : Str) : TS := fun D σ H => tv σ H fun y H1 => ta σ H1 fun x H2 => ∃ a C dx fs, x = .ref a ∧ H2 a = some (.ins C dx fs) ∧ Cls K C ∧ NoAttr K C f ∧ fs.length < 1000 ∧
  D.nx σ (upd H2 a (.ins C dx (putF f y fs)))
section
variable {X : Cx} {o e value : Expr} {f : Str} {pos pos' tpos : Pos} {ta tv : TE}
theorem pe_fld (he : PE X e ta) (hb : attributeBase e f X.env (eval e X.env) = eval e X.env) : PE X (.Attribute e f pos) (tFld X.K ta f) := by
  intro pins s σ H Q I h
  refine attr_of hb (thn (he pins s σ H _ I h) fun u s1 ⟨x, H1, I1, rx, a, C, dx, fs, v, ex, ea, c, n, l, q⟩ => ?_)
  subst ex
  obtain rfl : u = Value.ref a := rx
  exact getattr_ok I1 ea c n l fun u' s2 I2 ru => ⟨v, H1, I2, ru, q⟩
theorem ps_fld (ha : PE X o ta) (hv : PE X value tv) (hs : swapsWith value (some (.Attribute o f pos')) pos.line X.env = pure false) : PS X (.Assign [.Attribute o f pos'] value pos) (sFld X.K ta tv f) := by
  intro pins s σ H D I h
  refine plainObj_wpAny_Assign_Attribute (thn (hv pins s σ H _ I h) fun u s1 ⟨y, H1, I1, ry, q⟩ => thn (ha pins s1 σ H1 _ I1 q) fun ov s2 ⟨x, H2, I2, rx, a, C, dx, fs, ex, ea, c, n, l, q2⟩ => ?_) hs
  subst ex
  obtain rfl : ov = Value.ref a := rx
  exact setattr_ok I2 ea c n l ry fun s3 I3 => ⟨σ, _, I3, q2⟩
end

/-! ### isinstance -/
section
variable {X : Cx} {pins : List (Addr × Obj)} {σ : St} {H : Hp} {s : Shared} {A : Around} {E : Value → Shared → Prop} {Q : Value → Shared → Prop} {c : Value} {b : Bool}
/-- the type of a value, as the fragment's deciders take it; for an instance its class -/
inductive TyOf (K : PySem.W.Frag) (H : Hp) : V → Value → Prop where
  | non : TyOf K H .non (.type "NoneType")
  | bl (x : Bool) : TyOf K H (.bl x) (.type "bool")
  | int (i : Int) : TyOf K H (.int i) (.type "int")
  | str (x : Str) : TyOf K H (.str x) (.type "str")
  | flt (x : UInt64) : TyOf K H (.flt x) (.type "float")
  | lst {a : Addr} {xs : List V} (e : H a = some (.lst xs)) : TyOf K H (.ref a) (.type "list")
  | frz {a : Addr} {o : Obj} {xs : List V} (e : H a = some (.frz o (.lst xs))) : TyOf K H (.ref a) (.type "list")
  | tup {a : Addr} {xs : List V} (e : H a = some (.tup xs)) : TyOf K H (.ref a) (.type "tuple")
  | dK {a : Addr} {kvs : List (Key × V)} (e : H a = some (.dK kvs)) : TyOf K H (.ref a) (.type "dict")
  | dT {a : Addr} {kvs : List (List Key × V)} (e : H a = some (.dT kvs)) : TyOf K H (.ref a) (.type "dict")
  | ins {a C dx : Addr} {fs : List (Str × V)} (e : H a = some (.ins C dx fs)) (cl : Cls K C) (ha : PySem.W.findIn K (.ref C) "__class__" = some (some (.builtin "object.__class__")))
      (hn : PySem.W.specialIn K (.builtin "object.__class__") "__get__" = some (some (.builtin "getset_descriptor.__get__"))) (htk : PySem.W.takesIn K (.builtin "object.__class__") = some true)
      (hm : PySem.W.mroIn K C (.type "object") = some true) : TyOf K H (.ref a) (.ref C)
/-- isinstance(x, c) for one class c, a built-in or an own one: kitOne's answer -/
theorem isinst_ok {x : V} {u t : Value} (I : Inv X pins σ H s) (rx : RelV x u) (ty : TyOf X.K H x t) (e : PySem.W.kitOne X.K t c = some b) (h : ∀ tk, Q (.bool b) { s with toks := tk }) :
    wpAny (model X.prog X.w) A (call (.builtin "isinstance") [u, c]) Q E s := by
  cases ty with
  | non => cases (show u = Value.none from rx); exact PySem.W.kia_one PySem.W.kitx_none I.kIn True.intro e (fun z => nomatch z) h
  | bl y => cases (show u = Value.bool y from rx); exact PySem.W.kia_one PySem.W.kitx_bool I.kIn True.intro e (fun z => nomatch z) h
  | int i => obtain ⟨t, q⟩ := (show ∃ t, u = Value.int i t from rx); cases q; exact PySem.W.kia_one PySem.W.kitx_int I.kIn True.intro e (fun z => nomatch z) h
  | str y => obtain ⟨t, q⟩ := (show ∃ t, u = Value.str y t from rx); cases q; exact PySem.W.kia_one PySem.W.kitx_str I.kIn True.intro e (fun z => nomatch z) h
  | flt y => obtain ⟨t, q⟩ := (show ∃ t, u = Value.float y t from rx); cases q; exact PySem.W.kia_one PySem.W.kitx_float I.kIn True.intro e (fun z => nomatch z) h
  | @lst a xs ea =>
    cases (show u = Value.ref a from rx)
    obtain ⟨_, _, n, _, h1⟩ := (show ObjOk X.prog X.w H s.heap a (.lst xs) from I.hok a _ ea)
    exact PySem.W.kia_one PySem.W.kitx_list I.kIn ⟨_, h1, rfl⟩ e (fun z => nomatch z) h
  | @frz a ob xs ea =>
    cases (show u = Value.ref a from rx)
    obtain ⟨_, _, _, n, _, h1⟩ := (show ObjOk X.prog X.w H s.heap a (.frz ob (.lst xs)) from I.hok a _ ea)
    exact PySem.W.kia_one PySem.W.kitx_list I.kIn ⟨_, h1, rfl⟩ e (fun z => nomatch z) h
  | @tup a xs ea =>
    cases (show u = Value.ref a from rx)
    obtain ⟨_, _, _, p⟩ := (show ObjOk X.prog X.w H s.heap a (.tup xs) from I.hok a _ ea)
    obtain ⟨o, h1, h2, _⟩ := p
    exact PySem.W.kia_one PySem.W.kitx_tuple I.kIn ⟨o, h1, h2⟩ e (fun z => nomatch z) h
  | @dK a kvs ea =>
    cases (show u = Value.ref a from rx)
    obtain ⟨_, _, vs, _, p⟩ := (show ObjOk X.prog X.w H s.heap a (.dK kvs) from I.hok a _ ea)
    obtain ⟨o, es, ep, h1, h2, _⟩ := p
    exact PySem.W.kia_one PySem.W.kitx_dict I.kIn ⟨o, h1, h2.1⟩ e (fun z => nomatch z) h
  | @dT a kvs ea =>
    cases (show u = Value.ref a from rx)
    obtain ⟨_, _, xs, _, o, es, ep, h1, h2, _⟩ := (show ObjOk X.prog X.w H s.heap a (.dT kvs) from I.hok a _ ea)
    exact PySem.W.kia_one PySem.W.kitx_dict I.kIn ⟨o, h1, h2.1⟩ e (fun z => nomatch z) h
  | @ins a C dx fs ea cl ha hn htk hm =>
    cases (show u = Value.ref a from rx)
    obtain ⟨mA, O, _⟩ := ins_get I.hok ea
    obtain ⟨od, J, _⟩ := O.look
    exact PySem.W.kia_one (PySem.W.kitx_own (cl.get _) cl.hd ha hn htk hm) I.kIn J e (fun z => nomatch z) h
end
end L2

namespace L2
open PySem PySem.Spec PyProof.Rows

/-! ### room -/
structure Room (k : Nat) (A : Around) : Prop where
  hd : A.handled = none
  dp : A.depth + 3 * k + 5 < recursionLimit
  un : A.units + 16 * k + 200 < cLine
theorem Room.mono {j k : Nat} {A : Around} (r : Room k A) (h : j ≤ k) : Room j A := ⟨r.hd, by have := r.dp; omega, by have := r.un; omega⟩
theorem Room.deeper {k : Nat} {A : Around} (r : Room (k + 1) A) (env : Env) : Room k (A.deeper env) :=
  ⟨r.hd, by have := r.dp; show A.depth + 1 + 3 * k + 5 < _; omega, by have := r.un; show A.units + 3 + 16 * k + 200 < _; omega⟩
theorem Room.in1 {k : Nat} {A : Around} (r : Room (k + 1) A) : Room k A.in1 :=
  ⟨r.hd, by have := r.dp; show A.depth + 3 * k + 5 < _; omega, by have := r.un; show A.units + 1 + 16 * k + 200 < _; omega⟩
theorem make_depth {A : Around} {C : Addr} {us : List Value} {kw : List (Str × Value)} : (A.under (.builtin "type.__call__" ⟨.ref C :: us, kw⟩)).depth = A.depth + 1 := by
  first | rfl | simp [Around.under, Code.weight, Code.isCreation, Code.isGuard, Code.isCaller, Code.frames, Code.isFrame, guardIds]
theorem make_units {A : Around} {C : Addr} {us : List Value} {kw : List (Str × Value)} : (A.under (.builtin "type.__call__" ⟨.ref C :: us, kw⟩)).units = A.units + 1 := by
  first | rfl | simp [Around.under, Code.cUnits, Code.frames, Code.isFrame]
theorem Room.make {k : Nat} {A : Around} (r : Room (k + 1) A) (C : Addr) (us : List Value) (kw : List (Str × Value)) : Room k (A.under (.builtin "type.__call__" ⟨.ref C :: us, kw⟩)) :=
  ⟨r.hd, by have := r.dp; rw [make_depth]; omega, by have := r.un; rw [make_units]; omega⟩
theorem Room.depth {k : Nat} {A : Around} (r : Room k A) : A.depth < recursionLimit := by have := r.dp; omega
theorem Room.units {k : Nat} {A : Around} (r : Room k A) : A.units + 64 < cLine := by have := r.un; omega
/-! ### argument lists and displays -/
def tNil : TA := fun _ H Q => Q [] H
def tCons (ta : TE) (tr : TA) : TA := fun σ H Q => ta σ H fun x H1 => tr σ H1 fun xs H2 => Q (x :: xs) H2
section
variable {X : Cx} {e : Expr} {es : List Expr} {te : TE} {t : TA} {pos : Pos}
theorem pa_nil : PA X [] tNil := fun _ _ _ _ H Q I h => Calls.spliced_nil ⟨[], H, I, .nil, h⟩
theorem pa_cons (ha : PE X e te) (hr : PA X es t) (hs : starEach (e :: es) X.env = (false, eval e X.env) :: starEach es X.env := by rfl) : PA X (e :: es) (tCons te t) := by
  intro pos pins s σ H Q I h
  rw [hs]
  show wpAny _ _ (spliced ((false, eval e X.env) :: backTo pos (starEach es X.env))) _ _ s
  refine Calls.spliced_cons (thn (ha pins s σ H _ I h) fun u s1 ⟨x, H1, I1, r1, q1⟩ => ?_)
  exact thn (hr pos pins s1 σ H1 _ I1 q1) fun us s2 ⟨xs, H2, I2, r2, q2⟩ => ⟨x :: xs, H2, I2, .cons r1 r2, q2⟩

/-- a tuple, a list of written items -/
def tTup (t : TA) : TE := fun σ H Q => t σ H fun xs H1 => xs.length ≤ sizeLine ∧ ∀ p, H1 p = none → Q (.ref p) (upd H1 p (.tup xs))
def tLst (t : TA) : TE := fun σ H Q => t σ H fun xs H1 => xs.length ≤ sizeLine ∧ ∀ p, H1 p = none → Q (.ref p) (upd H1 p (.lst xs))
theorem pe_tup {x1} (h : PA X es t) : PE X (.Tuple es x1 pos) (tTup t) := by
  intro pins s σ H Q I hq
  refine wpAny_Tuple_spliced (thn (h pos pins s σ H _ I hq) fun us s1 ⟨xs, H1, I1, r, z, q⟩ => ⟨by rw [← r.length]; exact z, ?_⟩)
  have hf : H1 s1.heap.objs.size = none := I1.hok.fresh (Nat.le_refl _)
  refine ⟨.ref s1.heap.objs.size, upd H1 s1.heap.objs.size (.tup xs), I1.laid (t' := s1.toks) (fun b u e => Heap.get?_push_of_some _ e) (Nat.le_refl _) ?_, rfl, q _ hf⟩
  exact ⟨z, us, r, ⟨_, Heap.get?_push_size _ rfl, rfl, _, rfl⟩⟩
theorem pe_lst (h : PA X es t) : PE X (.List es pos) (tLst t) := by
  intro pins s σ H Q I hq
  refine wpAny_List_spliced (thn (h pos pins s σ H _ I hq) fun us s1 ⟨xs, H1, I1, r, z, q⟩ => ⟨by rw [← r.length]; exact z, ?_⟩)
  have hf : H1 s1.heap.objs.size = none := I1.hok.fresh (Nat.le_refl _)
  refine ⟨.ref s1.heap.objs.size, upd H1 s1.heap.objs.size (.lst xs), I1.laid (t' := s1.toks) (fun b u e => Heap.get?_push_of_some _ e) (Nat.le_refl _) ?_, rfl, q _ hf⟩
  exact ⟨z, us, 0, r, Heap.get?_push_size _ rfl⟩
end

/-! ### what a def promises -/
/-- a def's promise: the bound arguments in the parameters' order, the heap, the wanted end, the wanted exception -/
abbrev Sp := List V → Hp → VK → XK → Prop
/-- how an exception lies behind a call (file 08 gives it): the callers' frames, abstract heap and state ahead of the call, the wish, the exception, the state -/
abbrev CXT := List Env → Hp → Shared → XK → Value → Shared → Prop

/-- the state at a call -/
structure Env0 (P : Program) (w : World) (K : PySem.W.Frag) (mg : Str → Option Value) (base : Heap) (A : Around) (outer : List Env) (s : Shared) (H : Hp) : Prop where
  frames : A.frames = some outer
  mod : Mod K mg base
  bs : ∀ b o, base.get? b = some o → s.heap.get? b = some o ∧ H b = none
  bsz : base.objs.size ≤ s.heap.objs.size
  funs : s.heap.FunFrames base outer
  frf : ∀ b ∈ frs outer, H b = none
  hok : HOk P w H s.heap
  bare : AllBare s.gens
/-- a call's end -/
def CE (outer : List Env) (P : Program) (w : World) (H : Hp) (s : Shared) (Q : VK) (u : Value) (s' : Shared) : Prop :=
  ∃ v H', s'.os = s.os ∧ AllBare s'.gens ∧ Un (frs outer) [] H H' s.heap s'.heap ∧ HOk P w H' s'.heap ∧ RelV v u ∧ Q v H'
def CR (CX : CXT) (outer : List Env) (P : Program) (w : World) (H : Hp) (s : Shared) (Q : VK) (E : XK) (r : Result) (s' : Shared) : Prop :=
  match r with
  | .ok (.ret u) => CE outer P w H s Q u s'
  | .ok _ => False
  | .error e => CX outer H s E e s'
structure FnOk (P : Program) (w : World) (K : PySem.W.Frag) (mg : Str → Option Value) (base : Heap) (CX : CXT) (k : Nat) (f : Addr) (fd : FuncData) (ps : List Str) (sp : Sp) : Prop where
  len : ∀ vs H Q E, sp vs H Q E → vs.length = ps.length
  run : ∀ (A : Around) (outer : List Env) (s : Shared) (H : Hp) (args : Args) (us : List Value) (vs : List V) (Q : VK) (E : XK), Room k A → Env0 P w K mg base A outer s H → BindsTo s fd args (ps.zip us) → Vals vs us → sp vs H Q E →
    codeAny (model P w) A (.call (.ref f) args) (CR CX outer P w H s Q E) s
theorem FnOk.mono {P : Program} {w : World} {K : PySem.W.Frag} {mg : Str → Option Value} {base : Heap} {CX : CXT} {j k : Nat} {f : Addr} {fd : FuncData} {ps : List Str} {sp : Sp} (F : FnOk P w K mg base CX j f fd ps sp) (h : j ≤ k) :
    FnOk P w K mg base CX k f fd ps sp := ⟨F.len, fun A outer s H args us vs Q E hr => F.run A outer s H args us vs Q E (hr.mono h)⟩
theorem Env0.make {P : Program} {w : World} {K : PySem.W.Frag} {mg : Str → Option Value} {base : Heap} {A : Around} {outer : List Env} {s : Shared} {H : Hp} (e : Env0 P w K mg base A outer s H) (C : Addr) (us : List Value) (kw : List (Str × Value)) :
    Env0 P w K mg base (A.under (.builtin "type.__call__" ⟨.ref C :: us, kw⟩)) outer s H := ⟨by first | exact e.frames | (simpa [Around.under, Code.envs, Code.isFrame, pushEnvs] using e.frames), e.mod, e.bs, e.bsz, e.funs, e.frf, e.hok, e.bare⟩
theorem Env0.in1 {P : Program} {w : World} {K : PySem.W.Frag} {mg : Str → Option Value} {base : Heap} {A : Around} {outer : List Env} {s : Shared} {H : Hp} (e : Env0 P w K mg base A outer s H) :
    Env0 P w K mg base A.in1 outer s H := ⟨e.frames, e.mod, e.bs, e.bsz, e.funs, e.frf, e.hok, e.bare⟩

section
variable {X : Cx} {pins : List (Addr × Obj)} {σ : St} {H : Hp} {s s' : Shared}
/-- from a body: what a callee wants -/
theorem Inv.env0 (I : Inv X pins σ H s) : Env0 X.prog X.w X.K X.mg X.base X.A X.stack s H :=
  ⟨I.ok.frames, I.ok.mod, I.bs, Nat.le_trans I.ok.bsz I.sz, I.stack, I.stkFree, I.hok, I.bare⟩
/-- behind a call -/
theorem Inv.after {Q : VK} {u : Value} (I : Inv X pins σ H s) (h : CE X.stack X.prog X.w H s Q u s') : EP X pins σ Q u s' := by
  obtain ⟨v, H', os, bare, un, hok, r, q⟩ := h
  obtain ⟨hh, g, d, t, os'⟩ := s'
  obtain rfl : os' = s.os := os
  exact ⟨v, H', I.call (h' := hh) (g' := g) (d' := d) (t' := t) (ch := []) un hok bare (fun b z => absurd z (by simp)), r, q⟩
end

/-! ### calls -/
/-- f(..): the written arguments, then the defaults dvs; E: what is wanted of an exception -/
def tCall (sp : Sp) (dvs : List V) (E : XK) (t : TA) : TE := fun σ H Q => t σ H fun vs H1 => sp (vs ++ dvs) H1 Q E
/-- C(..): a new instance and its dict, then __init__ -/
def tMake (C : Addr) (sp : Sp) (dvs : List V) (E : XK) (t : TA) : TE := fun σ H Q => t σ H fun vs H1 => ∀ x dx, H1 x = none → H1 dx = none → dx ≠ x →
  sp (.ref x :: (vs ++ dvs)) (upd (upd H1 dx (.own x)) x (.ins C dx [])) (fun v H2 => v = .non ∧ Q (.ref x) H2) E

/-- how the parameters are bound: us the positional arguments, kw the keywords' values by name, ds the defaults that fill up -/
def Binds (K : PySem.W.Frag) (fd : FuncData) (ps : List Str) (ds : List Value) : Prop :=
  ∀ (s : Shared) (us : List Value), K.In s.heap → (us ++ ds).length = ps.length → BindsTo s fd ⟨us, []⟩ (ps.zip (us ++ ds))
/-- every parameter is given -/
theorem Binds.all {K : PySem.W.Frag} {fd : FuncData} {ps : List Str} (h : ∀ us : List Value, us.length = ps.length → bindArgs fd ⟨us, []⟩ = pure (ps.zip us)) : Binds K fd ps [] := fun s us _ hl => by
  rw [List.append_nil] at hl ⊢
  exact .of_eq (h us hl)

/-- an exception of a callee reaches what this body wants of exceptions -/
def Passes (CX : CXT) (X : Cx) (E : XK) : Prop := ∀ (pins : List (Addr × Obj)) (σ : St) (H : Hp) (s : Shared) (e : Value) (s' : Shared), Inv X pins σ H s → CX X.stack H s E e s' → X.xe e s'

section
variable {X : Cx} {CX : CXT} {k : Nat} {f C : Addr} {fd : FuncData} {ps : List Str} {sp : Sp} {dvs : List V} {ds : List Value} {E : XK} {x m : Str} {p pos apos : Pos} {e o : Expr} {es : List Expr} {ta : TE} {t : TA}

/-- the callee runs -/
theorem run_fn {pins : List (Addr × Obj)} {σ : St} {H : Hp} {s : Shared} {Q : VK} {us : List Value} {vs : List V} (F : FnOk X.prog X.w X.K X.mg X.base CX k f fd ps sp) (hr : Room k X.A) (hb : Binds X.K fd ps ds) (hd : Vals dvs ds) (hx : Passes CX X E)
    (I : Inv X pins σ H s) (r : Vals vs us) (h : sp (vs ++ dvs) H Q E) : wpAny (model X.prog X.w) X.A (call (.ref f) us) (EP X pins σ Q) X.xe s := by
  have r2 : Vals (vs ++ dvs) (us ++ ds) := r.append hd
  have hl : (us ++ ds).length = ps.length := by rw [← r2.length]; exact F.len _ _ _ _ h
  refine wpAny_call (codeAny_mono (F.run X.A X.stack s H ⟨us, []⟩ (us ++ ds) (vs ++ dvs) Q E hr I.env0 (hb s us I.kIn hl) r2 h) fun r s' hq => ?_)
  cases r with
  | error e => exact hx pins σ H s e s' I hq
  | ok fl =>
    cases fl with
    | ret u => exact I.after hq
    | next => exact False.elim hq
    | brk => exact False.elim hq
    | cont => exact False.elim hq

theorem pe_call (F : FnOk X.prog X.w X.K X.mg X.base CX k f fd ps sp) (hr : Room k X.A) (hg : Gl X x) (hm : X.mg x = some (.ref f)) (hk : PySem.W.keepIn X.K (.ref f) = true) (hb : Binds X.K fd ps ds) (hd : Vals dvs ds) (hx : Passes CX X E)
    (ha : PA X (e :: es) t) (hdb : (x == ("__debug__" : Str)) = false := by decide) (he : starEach (e :: es) X.env = (false, eval e X.env) :: starEach es X.env := by rfl) (hpl : (backTo pos (starEach es X.env)).any (·.1) = false := by rfl) :
    PE X (.Call (.Name x p) (e :: es) [] pos) (tCall sp dvs E t) := by
  intro pins s σ H Q I h
  refine wpAny_Call_Name_kw (ld_glob I hg hm ?_ hdb)
  refine PySem.W.callWith_K (h₀ := X.base) I.ok.mod.kin hk (thn (ha pos pins s σ H _ I h) fun us s1 ⟨vs, H1, I1, r, q⟩ => ⟨I1.kIn, ?_⟩) he hpl
  exact run_fn F hr hb hd hx I1 r q
/-- what a class must have to be made -/
structure Mk (K : PySem.W.Frag) (C f : Addr) : Prop where
  makes : PySem.W.makesIn K C = true
  init : PySem.W.findIn K (.ref C) "__init__" = some (some (.ref f))
  fn : PySem.W.isFn K (.ref f) = true
  kp : PySem.W.keepIn K (.ref C) = true

theorem run_make {pins : List (Addr × Obj)} {σ : St} {H : Hp} {s : Shared} {Q : VK} {us : List Value} {vs : List V} (M : Mk X.K C f) (F : FnOk X.prog X.w X.K X.mg X.base CX k f fd ps sp) (hr : Room (k + 1) X.A) (hb : Binds X.K fd ps ds) (hd : Vals dvs ds)
    (hx : Passes CX X E) (I : Inv X pins σ H s) (r : Vals vs us)
    (h : ∀ x dx, H x = none → H dx = none → dx ≠ x → sp (.ref x :: (vs ++ dvs)) (upd (upd H dx (.own x)) x (.ins C dx [])) (fun v H2 => v = .non ∧ Q (.ref x) H2) E) :
    wpAny (model X.prog X.w) X.A (call (.ref C) us) (EP X pins σ Q) X.xe s := by
  have hq := h (s.heap.objs.size + 1) s.heap.objs.size (I.hok.fresh (Nat.le_succ _)) (I.hok.fresh (Nat.le_refl _)) (Nat.ne_of_lt (Nat.lt_succ_self _))
  have I2 := Inv.made (C := C) I
  have r2 : Vals (V.ref (s.heap.objs.size + 1) :: (vs ++ dvs)) (Value.ref (s.heap.objs.size + 1) :: (us ++ ds)) := .cons rfl (r.append hd)
  have hl : (Value.ref (s.heap.objs.size + 1) :: us ++ ds).length = ps.length := by
    have e := r2.length
    rw [F.len _ _ _ _ hq] at e
    exact e.symm
  refine wpAny_call (make_map (f := f) I.kIn M.makes M.init (beq_iff_eq.mp M.fn) (codeAny_mono (F.run _ X.stack _ _ ⟨Value.ref (s.heap.objs.size + 1) :: us, []⟩ (Value.ref (s.heap.objs.size + 1) :: (us ++ ds)) _ _ E (hr.make C us [])
    (I2.env0.make C us []) (hb _ (Value.ref (s.heap.objs.size + 1) :: us) I2.kIn hl) r2 hq) fun r s' hq' => ?_))
  cases r with
  | error e => exact hx pins σ _ _ e s' I2 hq'
  | ok fl =>
    cases fl with
    | ret u =>
      obtain ⟨v, H', I3, rv, ev, q3⟩ := I2.after hq'
      subst ev
      exact ⟨rv, ⟨V.ref (s.heap.objs.size + 1), H', I3, rfl, q3⟩⟩
    | next => exact False.elim hq'
    | brk => exact False.elim hq'
    | cont => exact False.elim hq'
theorem pe_make (M : Mk X.K C f) (F : FnOk X.prog X.w X.K X.mg X.base CX k f fd ps sp) (hr : Room (k + 1) X.A) (hg : Gl X x) (hm : X.mg x = some (.ref C)) (hb : Binds X.K fd ps ds) (hd : Vals dvs ds) (hx : Passes CX X E)
    (ha : PA X (e :: es) t) (hdb : (x == ("__debug__" : Str)) = false := by decide) (he : starEach (e :: es) X.env = (false, eval e X.env) :: starEach es X.env := by rfl) (hpl : (backTo pos (starEach es X.env)).any (·.1) = false := by rfl) :
    PE X (.Call (.Name x p) (e :: es) [] pos) (tMake C sp dvs E t) := by
  intro pins s σ H Q I h
  refine wpAny_Call_Name_kw (ld_glob I hg hm ?_ hdb)
  refine PySem.W.callWith_K (h₀ := X.base) I.ok.mod.kin M.kp (thn (ha pos pins s σ H _ I h) fun us s1 ⟨vs, H1, I1, r, q⟩ => ⟨I1.kIn, ?_⟩) he hpl
  exact run_make M F hr hb hd hx I1 r q
end

/-! ### keywords -/
section
variable {X : Cx} {CX : CXT} {k : Nat} {f C : Addr} {fd : FuncData} {ps ks : List Str} {sp : Sp} {E : XK} {x m : Str} {p pos apos kpos : Pos} {e o : Expr} {es : List Expr} {kws : List Keyword} {te ta : TE} {t tk : TA} {nm : Option Str}
/-- how a call with keywords binds: g puts the positional values us and the keywords' values ws (names ks) in the parameters' order, defaults among them -/
structure KBinds (K : PySem.W.Frag) (fd : FuncData) (ps ks : List Str) (g : List Value → List Value → List Value) (gV : List V → List V → List V) : Prop where
  to : ∀ (s : Shared) (us ws : List Value), K.In s.heap → (g us ws).length = ps.length → BindsTo s fd ⟨us, ks.zip ws⟩ (ps.zip (g us ws))
  rel : ∀ {vs : List V} {us : List Value} {zs : List V} {ws : List Value}, Vals vs us → Vals zs ws → Vals (gV vs zs) (g us ws)
variable {g : List Value → List Value → List Value} {gV : List V → List V → List V}
end

/-! ### a def's body keeps its promise -/
/-- names: the parameters first -/
structure FnScope (N P : List Str) (sc : Scope) : Prop where
  kind : sc.kind = .function
  co : sc.isCoroutine = false
  gen : sc.isGenerator = false
  nd : N.Nodup
  pre : N.take P.length = P
  par : ∀ x ∈ P, sc.names.lookup x = some .local ∨ sc.names.lookup x = some .cell
  nofree : ∀ y ∈ sc.names, y.2 ≠ .free

theorem bindL_out {kindOf : Str → Option NameKind} {x : Str} : ∀ {binds : List (Str × Value)} {m : Str → Option Value}, (∀ v, (x, v) ∉ binds) → bindL kindOf binds m x = m x
  | [], _, _ => rfl
  | (n, v) :: r, m, h => by
    unfold bindL
    rw [bindL_out fun w hw => h w (List.mem_cons_of_mem _ hw)]
    split
    · have : x ≠ n := by rintro rfl; exact h v List.mem_cons_self
      simp [this]
    · rfl
theorem bindC_out {kindOf : Str → Option NameKind} {x : Str} : ∀ {binds : List (Str × Value)} {m : Str → Option Value}, (∀ v, (x, v) ∉ binds) → bindC kindOf binds m x = m x
  | [], _, _ => rfl
  | (n, v) :: r, m, h => by
    unfold bindC
    rw [bindC_out fun w hw => h w (List.mem_cons_of_mem _ hw)]
    split
    · rfl
    · have : x ≠ n := by rintro rfl; exact h v List.mem_cons_self
      simp [this]
theorem bindL_get {kindOf : Str → Option NameKind} {x : Str} {v : Value} : ∀ {P : List Str} {vs : List Value} {i : Nat} {m : Str → Option Value}, P.Nodup → P[i]? = some x → vs[i]? = some v → kindOf x = some .local →
    bindL kindOf (P.zip vs) m x = some v
  | [], _, _, _, _, h, _, _ => by simp at h
  | _ :: _, [], _, _, _, _, h, _ => by simp at h
  | p :: P, w :: vs, 0, m, nd, h1, h2, hk => by
    simp at h1 h2; subst h1; subst h2
    show bindL kindOf ((p, w) :: P.zip vs) m p = _
    unfold bindL
    rw [bindL_out fun v hv => (List.nodup_cons.mp nd).1 (List.of_mem_zip hv).1, if_pos hk]
    simp
  | p :: P, w :: vs, i + 1, m, nd, h1, h2, hk => by
    show bindL kindOf ((p, w) :: P.zip vs) m x = _
    unfold bindL
    exact bindL_get (i := i) (List.nodup_cons.mp nd).2 (by simpa using h1) (by simpa using h2) hk
theorem bindC_get {kindOf : Str → Option NameKind} {x : Str} {v : Value} : ∀ {P : List Str} {vs : List Value} {i : Nat} {m : Str → Option Value}, P.Nodup → P[i]? = some x → vs[i]? = some v → kindOf x ≠ some .local →
    bindC kindOf (P.zip vs) m x = some v
  | [], _, _, _, _, h, _, _ => by simp at h
  | _ :: _, [], _, _, _, _, h, _ => by simp at h
  | p :: P, w :: vs, 0, m, nd, h1, h2, hk => by
    simp at h1 h2; subst h1; subst h2
    show bindC kindOf ((p, w) :: P.zip vs) m p = _
    unfold bindC
    rw [bindC_out fun v hv => (List.nodup_cons.mp nd).1 (List.of_mem_zip hv).1, if_neg hk]
    simp
  | p :: P, w :: vs, i + 1, m, nd, h1, h2, hk => by
    show bindC kindOf ((p, w) :: P.zip vs) m x = _
    unfold bindC
    exact bindC_get (i := i) (List.nodup_cons.mp nd).2 (by simpa using h1) (by simpa using h2) hk

/-- the names' values at the entry -/
def start (N : List Str) (vs : List V) : St := vs.map some ++ List.replicate (N.length - vs.length) none

/-- the context of a def's body, at its entry; an exception leaves the frame, then lies as CX says -/
def cxOf (CX : CXT) (P : Program) (w : World) (K : PySem.W.Frag) (mg : Str → Option Value) (base : Heap) (N : List Str) (qual : Str) (scope : Scope) (f : Addr) (cd : Value) (A : Around) (outer : List Env) (s : Shared) (H : Hp) (E : XK) : Cx where
  prog := P
  w := w
  K := K
  mg := mg
  base := base
  A := A.deeper (envOfC qual scope s.heap.objs.size f cd)
  N := N
  s₀ := s
  H₀ := H
  env := envOfC qual scope s.heap.objs.size f cd
  outer := outer
  stack := envOfC qual scope s.heap.objs.size f cd :: outer
  ex := []
  calm := true
  fn := fun _ => true
  pn := []
  xe := fun e s' => wpAny (model P w) (A.deeper (envOfC qual scope s.heap.objs.size f cd)) (leaving (envOfC qual scope s.heap.objs.size f cd) e) (fun _ s'' => CX outer H s E e s'') (fun e' s'' => CX outer H s E e' s'') s'

theorem cell_has {sc : Scope} {n : Nat} {x : Str} (h : sc.names.lookup x = some .cell) : ∃ c, (cellsFrom n sc.names []).lookup x = some c := by
  have q := PySem.W.cellsFrom_some sc.names n [] (.inl h)
  exact Option.isSome_iff_exists.mp q

theorem inv_start {CX : CXT} {P : Program} {w : World} {K : PySem.W.Frag} {mg : Str → Option Value} {base : Heap} {N ps : List Str} {qual : Str} {scope : Scope} {f : Addr} {cd : Value} {A : Around} {outer : List Env} {s s1 : Shared} {H : Hp} {E : XK} {us : List Value} {vs : List V}
    (S : FnScope N ps scope) (hd : A.handled = none) (e0 : Env0 P w K mg base A outer s H) (hl : vs.length = ps.length) (r : Vals vs us)
    (x : InCallC s s.heap.objs.size (bindL (envOfC qual scope s.heap.objs.size f cd).kindOf (ps.zip us) fun _ => none) (cellsFrom (s.heap.objs.size + 1) scope.names []) (bindC (envOfC qual scope s.heap.objs.size f cd).kindOf (ps.zip us) fun _ => none) s1) :
    Inv (cxOf CX P w K mg base N qual scope f cd A outer s H E) [] (start N vs) H s1 := by
  have hpl : ps.length ≤ N.length := by have := congrArg List.length S.pre; rw [List.length_take] at this; omega
  obtain ⟨h1, tk, rfl, hk⟩ := x.done
  have noA : ∀ b : Addr, b ∉ (cxOf CX P w K mg base N qual scope f cd A outer s H E).ex := fun b z => absurd (show b ∈ ([] : List Addr) from z) (by simp)
  refine ⟨⟨e0.mod, S.kind, rfl, rfl, Nat.le_refl _, fun y z c h1 h2 => ?_, fun y hy => ?_, fun y c _ h => ?_, fun _ => hd, Around.frames_deeper e0.frames, .inr ⟨rfl, rfl⟩, fun b z => absurd z (noA b), e0.bs, e0.bsz, fun b _ _ => noA b, fun b z => absurd z (noA b), e0.funs, e0.frf⟩,
    rfl, e0.bare, Un.kept hk, ⟨_, x.toInCall.ns, fun i y v h1 h2 h3 => ?_⟩, fun y c h => ⟨_, x.cell y c h⟩, e0.hok.fresh (Nat.le_refl _), fun y c h => ?_, fun p hp => absurd (show p ∈ ([] : List (Addr × Obj)) from hp) (by simp), e0.hok.kept hk, ?_⟩
  · exact name_of_addr x.apart (PySem.mem_of_lookup h1) (PySem.mem_of_lookup h2)
  · have hy : scope.names.lookup y = some .cell ∨ scope.names.lookup y = some .free := hy
    rcases hy with hy | hy
    · exact cell_has hy
    · exact absurd rfl (S.nofree _ (PySem.mem_of_lookup hy))
  · exact Nat.le_of_lt (x.above y c (PySem.mem_of_lookup h))
  · have hi : i < vs.length := by
      unfold start at h2
      by_cases hi : i < vs.length
      · exact hi
      · rw [List.getElem?_append_right (by simpa using hi)] at h2
        rw [List.getElem?_replicate] at h2
        split at h2 <;> cases h2
    have ha : vs[i]? = some v := by
      unfold start at h2
      rw [List.getElem?_append_left (by simpa using hi), List.getElem?_map] at h2
      cases e : vs[i]? with
      | none => rw [e] at h2; cases h2
      | some a => rw [e] at h2; cases h2; rfl
    obtain ⟨u, hu, rv⟩ := r.get ha
    have hp : ps[i]? = some y := by
      rw [← S.pre, List.getElem?_take_of_lt (by omega)]; exact h1
    have ndP : ps.Nodup := by rw [← S.pre]; exact S.nd.sublist (List.take_sublist _ _)
    refine ⟨u, rv, ?_⟩
    rcases S.par y (List.mem_of_getElem? hp) with k | k
    · exact .inl ⟨k, bindL_get ndP hp hu k⟩
    · obtain ⟨c, e⟩ := cell_has (n := s.heap.objs.size + 1) k
      refine .inr ⟨.inl k, c, e, ?_⟩
      have q := x.cell y c e
      rw [bindC_get ndP hp hu (by show scope.names.lookup y ≠ _; rw [k]; decide)] at q
      exact q
  · exact e0.hok.fresh (Nat.le_of_lt (x.above y c (PySem.mem_of_lookup h)))
  · unfold start
    show _ = N.length
    rw [List.length_append, List.length_map, List.length_replicate]
    omega

/-- THE RULE: a def (or a method) of the text, by its body. The body's reading t is chosen for each entry; it is run at the parameters' values -/
theorem fn_of {CX : CXT} {P : Program} {w : World} {K : PySem.W.Frag} {mg : Str → Option Value} {base : Heap} {k : Nat} {f : Addr} {name qual : Str} {params : Arguments} {body : List Stmt} {scope : Scope} {dV kV doc pm cdv ct oc : Value} {an od : Option Addr}
    {osl : Array (Option Value)} {N ps : List Str} {sp : Sp} (lk : K.lookup f = some ⟨oc, od, .func (PySem.W.fnOf name qual params body scope dV kV doc pm an cdv ct), osl⟩) (hcd : PySem.W.codeIn K cdv qual = true) (S : FnScope N ps scope)
    (len : ∀ vs H Q E, sp vs H Q E → vs.length = ps.length)
    (hbody : ∀ (A : Around) (outer : List Env) (s : Shared) (H : Hp) (vs : List V) (Q : VK) (E : XK), Room k (A.deeper (envOfC qual scope s.heap.objs.size f cdv)) → sp vs H Q E →
      ∃ t, PSs (cxOf CX P w K mg base N qual scope f cdv A outer s H E) body t ∧ t { nx := fun _ H' => Q .non H', rt := Q } (start N vs) H) :
    FnOk P w K mg base CX (k + 1) f (PySem.W.fnOf name qual params body scope dV kV doc pm an cdv ct) ps sp := by
  refine ⟨len, fun A outer s H args us vs Q E hr e0 hb r hsp => ?_⟩
  have hl := len _ _ _ _ hsp
  have KX : K.In s.heap := e0.mod.kin.keeps fun b o e => (e0.bs b o e).1
  have lim : s.heap.NoLimit := e0.mod.nolimit.keeps fun b o e => (e0.bs b o e).1
  have hkind : ∀ y ∈ ps.zip us, scope.names.lookup y.1 = some .local ∨ (scope.names.lookup y.1 = some .cell ∧ ((cellsFrom (s.heap.objs.size + 1) scope.names []).lookup y.1).isSome = true) := fun ⟨n, v⟩ hy => by
    rcases S.par n (List.of_mem_zip hy).1 with q | q
    · exact .inl q
    · exact .inr ⟨q, PySem.W.cellsFrom_some _ _ _ (.inl q)⟩
  refine codeAny_call_function hr.depth (KX _ _ lk) rfl S.co S.gen rfl (PySem.W.codeRec_of KX hcd) (hb _ _ _ _ ?_)
  refine wpAny_newFunctionEnv_cells S.kind hkind fun env he s1 x => ?_
  subst he
  refine ⟨lim.keeps x.toInCall.keep, codeAny_func ?_⟩
  obtain ⟨t, ht, hq⟩ := hbody A outer s H vs Q E (hr.deeper _) hsp
  have I : Inv (cxOf CX P w K mg base N qual scope f cdv A outer s H E) [] (start N vs) H s1 := inv_start S hr.hd e0 hl r x
  refine wpAny_mono (ht [] s1 (start N vs) H _ I hq) (fun fl s' hs => ?_) fun e s' hs => hs
  have fin : ∀ {σ' : St} {H' : Hp} {v : V} {u : Value}, Inv (cxOf CX P w K mg base N qual scope f cdv A outer s H E) [] σ' H' s' → RelV v u → Q v H' → CE outer P w H s Q u s' :=
    fun {σ' H' v u} J rv q => ⟨v, H', J.os, J.bare, J.base, J.hok, rv, q⟩
  cases fl with
  | ret u =>
    obtain ⟨v, σ', H', J, rv, q⟩ := hs
    exact fin J rv q
  | next =>
    obtain ⟨σ', H', J, q⟩ := hs
    exact fin (v := V.non) (u := Value.none) J rfl q
  | brk =>
    obtain ⟨_, _, _, q⟩ := hs
    exact False.elim q
  | cont =>
    obtain ⟨_, _, _, q⟩ := hs
    exact False.elim q
end L2

namespace L2
open PySem PySem.Spec PyProof.Rows
section
variable {X : Cx} {x : Str} {p pos : Pos} {e : Expr} {es : List Expr} {t : TA} {id T : String} {r : List V → Hp → VK → Prop}

def tCB (r : List V → Hp → VK → Prop) (t : TA) : TE := fun σ H Q => t σ H fun vs H1 => r vs H1 Q
/-- f(e, ..), f a built-in function -/
theorem pe_callB (hc : CallR X (.builtin id) r) (hg : Gl X x) (hm : X.mg x = none) (hv : bootBuiltins x = some (.builtin id)) (ha : PA X (e :: es) t) (hn : x ≠ "__name__" := by decide) (hdb : (x == ("__debug__" : Str)) = false := by decide)
    (he : starEach (e :: es) X.env = (false, eval e X.env) :: starEach es X.env := by rfl) (hpl : (backTo pos (starEach es X.env)).any (·.1) = false := by rfl) : PE X (.Call (.Name x p) (e :: es) [] pos) (tCB r t) := by
  intro pins s σ H Q I h
  refine wpAny_Call_Name_kw (ld_blt I hg hm hv ?_ hn hdb)
  exact PyProof.Rows.callWith_builtin1 (thn (ha pos pins s σ H _ I h) fun us s1 ⟨vs, H1, I1, r1, q1⟩ => hc pins s1 σ H1 vs us Q I1 r1 q1) he hpl
/-- T(e, ..), T a built-in type -/
theorem pe_callTy (hc : CallR X (.type T) r) (hg : Gl X x) (hm : X.mg x = none) (hv : bootBuiltins x = some (.type T)) (ha : PA X (e :: es) t) (hn : x ≠ "__name__" := by decide) (hdb : (x == ("__debug__" : Str)) = false := by decide)
    (he : starEach (e :: es) X.env = (false, eval e X.env) :: starEach es X.env := by rfl) (hpl : (backTo pos (starEach es X.env)).any (·.1) = false := by rfl) : PE X (.Call (.Name x p) (e :: es) [] pos) (tCB r t) := by
  intro pins s σ H Q I h
  refine wpAny_Call_Name_kw (ld_blt I hg hm hv ?_ hn hdb)
  exact PyProof.Rows.callWith_type1 (thn (ha pos pins s σ H _ I h) fun us s1 ⟨vs, H1, I1, r1, q1⟩ => hc pins s1 σ H1 vs us Q I1 r1 q1) he hpl
end
end L2

namespace HT
open PySem PyProof.Rows

section
open PySem.SeqAt
open PySem.AutoSeq1 (wpAny_loadPart')
open PySem.MeetsSeq PySem.MeetsSeq2 PySem.MeetsSeq3

end

section
variable {prog : Program} {w : World} {A : Around} {E : Value → Shared → Prop} {s : Shared}

/-! ### t[a:b], not the whole -/
/-- a slice's bound as a place among n (d where it is left out) -/
def sIx (n d : Nat) : Option Int → Nat
  | none => d
  | some v => if v < 0 then (v + (n : Int)).toNat else min v.toNat n
theorem sIx_none (n d : Nat) : sIx n d none = d := rfl
theorem sIx_nat (n d k : Nat) : sIx n d (some (k : Int)) = min k n := by
  show (if (k : Int) < 0 then ((k : Int) + (n : Int)).toNat else min (k : Int).toNat n) = min k n
  rw [if_neg (by omega), Int.toNat_natCast]
theorem sIx_le (n d : Nat) (hd : d ≤ n) (o : Option Int) : sIx n d o ≤ n := by
  cases o with
  | none => exact hd
  | some v =>
    show (if v < 0 then (v + (n : Int)).toNat else min v.toNat n) ≤ n
    by_cases hv : v < 0
    · rw [if_pos hv]; omega
    · rw [if_neg hv]; exact Nat.min_le_right _ _
theorem clip_eq (v : Int) (n d : Nat) : (if v < 0 then max (v + (n : Int)) 0 else min v (n : Int)) = ((sIx n d (some v) : Nat) : Int) := by
  show (if v < 0 then max (v + (n : Int)) 0 else min v (n : Int)) = (((if v < 0 then (v + (n : Int)).toNat else min v.toNat n) : Nat) : Int)
  by_cases hv : v < 0
  · simp only [if_pos hv]; omega
  · simp only [if_neg hv]; omega
theorem adjust_gen (lo hi : Option Int) (n : Nat) : Builtin.Slice.sliceAdjust lo hi 1 (n : Int) = (((sIx n 0 lo : Nat) : Int), ((sIx n n hi : Nat) : Int)) := by
  have h1 : ¬ ((1 : Int) < 0) := by omega
  unfold Builtin.Slice.sliceAdjust
  simp only [h1, if_false]
  refine Prod.ext ?_ ?_
  · cases lo with
    | none => rfl
    | some v => exact clip_eq v n 0
  · cases hi with
    | none => rfl
    | some v => exact clip_eq v n n
theorem places_gen (i j : Nat) : Builtin.Slice.slicePlaces (i : Int) (j : Int) 1 = j - i := by
  unfold Builtin.Slice.slicePlaces
  have h1 : (1 : Int) > 0 := by omega
  simp only [h1, if_true, Int.ediv_one]
  split <;> omega
theorem slicePart_ {v : Value} {o : Option Int} {Q : Option Int → Shared → Prop} (p : IsPart v o) (h : Q o s) : wpAny (model prog w) A (Builtin.Slice.slicePartIndex v) Q E s := by
  cases p with
  | none => exact slicePart_none h
  | int i t => exact slicePart_int h
theorem sliceApplied_gen {sl : Addr} {vl vu : Value} {lo hi : Option Int} {n : Nat} {Q : Int × Int × Nat → Shared → Prop} (hs : s.heap.IsSliceOf sl vl vu .none) (pl : IsPart vl lo) (pu : IsPart vu hi)
    (h : Q (((sIx n 0 lo : Nat) : Int), 1, sIx n n hi - sIx n 0 lo) s) : wpAny (model prog w) A (Builtin.Slice.sliceApplied (.ref sl) (pure (n : Int))) Q E s := by
  obtain ⟨os, hos, hcs, hds⟩ := id hs
  unfold Builtin.Slice.sliceApplied Builtin.Slice.sliceFields
  refine wpAny_bind (wpAny_bind (wpAny_field hos hds (x := vl) rfl (wpAny_bind (wpAny_field hos hds (x := vu) rfl (wpAny_bind (wpAny_field hos hds (x := .none) rfl (wpAny_pure ?_)))))))
  refine wpAny_bind (slicePart_none ?_)
  show wpAny _ _ (if ((1 : Int) == 0) = true then _ else _) _ _ s
  rw [if_neg (by decide)]
  refine wpAny_bind (slicePart_ pl (wpAny_bind (slicePart_ pu (wpAny_bind (wpAny_pure ?_)))))
  show wpAny _ _ (match Builtin.Slice.sliceAdjust lo hi 1 (n : Int) with | (lo, hi) => pure (lo, (1 : Int), Builtin.Slice.slicePlaces lo hi 1)) _ _ s
  rw [adjust_gen lo hi n]
  show wpAny _ _ (pure (((sIx n 0 lo : Nat) : Int), (1 : Int), Builtin.Slice.slicePlaces ((sIx n 0 lo : Nat) : Int) ((sIx n n hi : Nat) : Int) 1)) _ _ s
  rw [places_gen]
  exact wpAny_pure h
theorem pick_gen (xs : Array Value) (i k : Nat) : ((List.range k).filterMap fun (m : Nat) => xs[((i : Int) + (m : Int) * 1).toNat]?).toArray = ((xs.toList.drop i).take k).toArray := by
  have e : (fun (m : Nat) => xs[((i : Int) + (m : Int) * 1).toNat]?) = fun m => xs[i + m]? := by
    funext m
    have : ((i : Int) + (m : Int) * 1).toNat = i + m := by omega
    rw [this]
  rw [e]
  have := pick_run xs i k
  rw [List.filterMap_map] at this
  have e2 : ((fun x => xs[x]?) ∘ fun x => i + x) = fun m => xs[i + m]? := rfl
  rw [e2] at this
  rw [this]

theorem getItem_tuple_cut {t sl : Addr} {items : Array Value} {vl vu : Value} {lo hi : Option Int} {Q : Value → Shared → Prop} (ht : IsTup s.heap t items) (hs : s.heap.IsSliceOf sl vl vu .none) (pl : IsPart vl lo) (pu : IsPart vu hi)
    (hw : ¬ (sIx items.size 0 lo = 0 ∧ sIx items.size items.size hi = items.size))
    (h : Q (.ref s.heap.objs.size) { s with heap := s.heap.push { cls := .type "tuple", data := .seq ((items.toList.drop (sIx items.size 0 lo)).take (sIx items.size items.size hi - sIx items.size 0 lo)).toArray } })
    (hsz : items.size ≤ sizeLine) : wpAny (model prog w) A (getItem (.ref t) (.ref sl)) Q E s := by
  have htake : sizeOk (.seq ((items.toList.drop (sIx items.size 0 lo)).take (sIx items.size items.size hi - sIx items.size 0 lo)).toArray) := by
    show ((items.toList.drop (sIx items.size 0 lo)).take (sIx items.size items.size hi - sIx items.size 0 lo)).toArray.size ≤ sizeLine
    rw [List.size_toArray, List.length_take, List.length_drop, Array.length_toList]
    omega
  have hj : sIx items.size items.size hi ≤ items.size := sIx_le _ _ (Nat.le_refl _) hi
  obtain ⟨os, hos, hcs, hds⟩ := id hs
  have hTs : s.TypeIs (.ref sl) "slice" := ⟨os, hos, hcs⟩
  unfold getItem
  try with_reducible refine wpAny_holding ?_
  first | refine wpAny_bind (wpAny_pure ?_) | skip
  refine wpAny_bind (wpAny_sequenceKey ht.typeIs (by decide) ?_)
  refine wpAny_bind (wpAny_callSpecial?_slot (name := Str.ofString "__getitem__") ht.typeIs PyProof.Rows.slot_tuple_getitem
    (wpAny_call_entry PyProof.Rows.slot_tuple_getitem ht.typeIs entry_tuple_getitem ?_ (args_tuple_getitem _ _)))
  show wpAny _ _ (Builtin.Tuple.tupleItemsOf (.ref t) >>= _) _ _ s
  refine wpAny_bind (tupleItemsOf_ ht ?_)
  refine wpAny_bind (wpAny_typeOf hTs ?_)
  rw [if_pos (by decide)]
  refine wpAny_bind (sliceApplied_gen hs pl pu ?_)
  have hno : ¬ ((((sIx items.size 0 lo : Nat) : Int) == 0 && (1 : Int) == 1 && (sIx items.size items.size hi - sIx items.size 0 lo) == items.size) = true) := by
    intro q
    rw [Bool.and_eq_true, Bool.and_eq_true] at q
    have q1 : ((sIx items.size 0 lo : Nat) : Int) = 0 := eq_of_beq q.1.1
    have q2 : sIx items.size items.size hi - sIx items.size 0 lo = items.size := eq_of_beq q.2
    exact hw ⟨by omega, by omega⟩
  show wpAny _ _ (if (((sIx items.size 0 lo : Nat) : Int) == 0 && (1 : Int) == 1 && (sIx items.size items.size hi - sIx items.size 0 lo) == items.size) = true then _ else _) _ _ s
  rw [if_neg hno, pick_gen]
  first
    | exact wpAny_bind (m := Builtin.Tuple.tupleExact _) (wpAny_newObj_type (wpAny_pure ⟨_, rfl, wpAny_pure h⟩) htake)
    | exact wpAny_bind (m := Builtin.Tuple.tupleExact _) (wpAny_newObj_type (wpAny_bind (wpAny_pure (wpAny_pure ⟨_, rfl, wpAny_pure h⟩))) htake)
    | exact wpAny_bind (wpAny_bind (m := Builtin.Tuple.tupleExact _) (wpAny_newObj_type (wpAny_pure (wpAny_pure ⟨_, rfl, wpAny_pure h⟩)) htake))
    | exact wpAny_bind (wpAny_bind (m := Builtin.Tuple.tupleExact _) (wpAny_newObj_type (wpAny_pure ⟨_, rfl, wpAny_pure h⟩) htake))
end
end HT

namespace L2
open PySem PySem.Spec PyProof.Rows

/-! ### the parts of a slice -/
abbrev TO := St → Hp → (Option Int → Hp → Prop) → Prop
/-- a slice's part (left out, or an int) -/
def PO (X : Cx) (e : Option Expr) (t : TO) : Prop :=
  ∀ (pins : List (Addr × Obj)) (s : Shared) (σ : St) (H : Hp) (Q : Option Int → Hp → Prop), Inv X pins σ H s → t σ H Q →
    wpAny (model X.prog X.w) X.A (evalPart e X.env) (fun u s' => ∃ o H', Inv X pins σ H' s' ∧ IsPart u o ∧ Q o H') X.xe s
def tNoPart : TO := fun _ H Q => Q none H
def tPart (t : TE) : TO := fun σ H Q => t σ H fun x H1 => ∃ i, x = .int i ∧ Q (some i) H1

section
variable {X : Cx} {e : Expr} {te : TE} {lo hi : Option Expr} {tl th : TO} {pos p2 : Pos}

theorem po_none : PO X none tNoPart := by
  intro pins s σ H Q I h
  rw [evalPart_none]
  exact wpAny_pure ⟨none, H, I, .none, h⟩
theorem po_some (h : PE X e te) : PO X (some e) (tPart te) := by
  intro pins s σ H Q I hw
  rw [evalPart_some]
  refine thn (h pins s σ H _ I hw) fun u s1 ⟨x, H1, I1, r1, q1⟩ => ?_
  obtain ⟨i, rfl, q⟩ := q1
  obtain ⟨t, rfl⟩ := r1
  exact ⟨some i, H1, I1, .int i t, q⟩

/-- what a slice of a value is, by values: the slice object stands at sl -/
def SlR (X : Cx) (r : V → Option Int → Option Int → Hp → VK → Prop) : Prop :=
  ∀ (pins : List (Addr × Obj)) (s : Shared) (σ : St) (H : Hp) (x : V) (v vl vu : Value) (lo hi : Option Int) (sl : Addr) (Q : VK), Inv X pins σ H s → RelV x v → s.heap.IsSliceOf sl vl vu .none → IsPart vl lo → IsPart vu hi → r x lo hi H Q →
    ∃ T id, typeLookup (.type T) "__getitem__" = pure (some (.builtin id)) ∧ s.TypeIs v T ∧ wpAny (model X.prog X.w) X.A (getItem v (.ref sl)) (EP X pins σ Q) X.xe s
theorem SlR.or {r r' : V → Option Int → Option Int → Hp → VK → Prop} (h : SlR X r) (h' : SlR X r') : SlR X (fun x lo hi H Q => r x lo hi H Q ∨ r' x lo hi H Q) := by
  intro pins s σ H x v vl vu lo hi sl Q I rx hs pl pu q
  rcases q with q | q
  · exact h pins s σ H x v vl vu lo hi sl Q I rx hs pl pu q
  · exact h' pins s σ H x v vl vu lo hi sl Q I rx hs pl pu q
def tSl (r : V → Option Int → Option Int → Hp → VK → Prop) (te : TE) (tl th : TO) : TE := fun σ H Q => te σ H fun x H1 => tl σ H1 fun l H2 => th σ H2 fun u H3 => r x l u H3 Q
/-- a[lo:hi], any a -/
theorem pe_slice {r : V → Option Int → Option Int → Hp → VK → Prop} (hr : SlR X r) (he : PE X e te) (hl : PO X lo tl) (hu : PO X hi th) : PE X (.Subscript e (.Slice lo hi none p2) pos) (tSl r te tl th) := by
  intro pins s σ H Q I h
  refine Subscript_ (thn (he pins s σ H _ I h) fun v s1 ⟨x, H1, I1, r1, q1⟩ => ?_)
  refine wpAny_Slice (thn (hl pins s1 σ H1 _ I1 q1) fun vl s2 ⟨l, H2, I2, pl, q2⟩ => thn (hu pins s2 σ H2 _ I2 q2) fun vu s3 ⟨u, H3, I3, pu, q3⟩ => ?_)
  rw [evalPart_none]
  refine wpAny_pure ?_
  have I4 : Inv X pins σ H3 { s3 with heap := s3.heap.push { cls := .type "slice", data := .fields #[vl, vu, .none] } } := I3.kept (t' := s3.toks) fun b ob q => Heap.get?_push_of_some _ q
  obtain ⟨T, id, hT, ht, hg⟩ := hr pins { s3 with heap := s3.heap.push { cls := .type "slice", data := .fields #[vl, vu, .none] } } σ H3 x v vl vu l u s3.heap.objs.size Q I4 r1 (Heap.IsSliceOf.new ..) pl pu q3
  show wpAny (model X.prog X.w) X.A (subscriptTail e (.Slice lo hi none p2) v (.ref s3.heap.objs.size)) (EP X pins σ Q) X.xe { s3 with heap := s3.heap.push { cls := .type "slice", data := .fields #[vl, vu, .none] } }
  exact tail_any (ops := [.ref s3.heap.objs.size, v]) ht hT hg (by with_unfolding_all rfl)

/-- the items of xs[lo:hi] -/
def cutV (xs : List V) (lo hi : Option Int) : List V := (xs.drop (HT.sIx xs.length 0 lo)).take (HT.sIx xs.length xs.length hi - HT.sIx xs.length 0 lo)
theorem cutV_length (xs : List V) (lo hi : Option Int) : (cutV xs lo hi).length ≤ xs.length := by
  unfold cutV
  rw [List.length_take, List.length_drop]
  omega
/-- t[lo:hi], not the whole of it (the whole would be t itself) -/
def rSlT (K : PySem.W.Frag) : V → Option Int → Option Int → Hp → VK → Prop := fun x lo hi H Q => ∃ a xs, x = .ref a ∧ SqT K H a xs ∧
  ¬ (HT.sIx xs.length 0 lo = 0 ∧ HT.sIx xs.length xs.length hi = xs.length) ∧ ∀ p, H p = none → Q (.ref p) (upd H p (.tup (cutV xs lo hi)))
theorem sl_tup : SlR X (rSlT X.K) := by
  intro pins s σ H x v vl vu lo hi sl Q I rx hs pl pu h
  obtain ⟨a, xs, rfl, hx, hw, q⟩ := h
  cases rx
  obtain ⟨its, r, ht, hz⟩ := I.tuple hx
  have hlen : its.toArray.size = xs.length := by rw [List.size_toArray]; exact r.length.symm
  refine ⟨"tuple", _, PyProof.Rows.slot_tuple_getitem.lookup, ht.typeIs, ?_⟩
  refine HT.getItem_tuple_cut ht hs pl pu (by rw [hlen]; exact hw) ?_ (by rw [hlen]; exact hz)
  rw [hlen]
  refine ⟨.ref s.heap.objs.size, _, I.laid (t' := s.toks) (o := .tup (cutV xs lo hi)) (fun b ob q => Heap.get?_push_of_some _ q) (Nat.le_refl _) ?_, rfl, q _ (I.hok.fresh (Nat.le_refl _))⟩
  exact ⟨Nat.le_trans (cutV_length xs lo hi) hz, _, (r.drop (HT.sIx xs.length 0 lo)).take (HT.sIx xs.length xs.length hi - HT.sIx xs.length 0 lo), IsTup.new _ _⟩

/-! ### t < u, t + u -/
end
end L2

namespace L2
open PySem PySem.Spec PyProof.Rows

/-! ### places -/
/-- the place that an index of any sign means -/
def ixN (n : Nat) (i : Int) : Option Nat := if 0 ≤ i then (if i < n then some i.toNat else none) else if -(n : Int) ≤ i then some (i + n).toNat else none
def atI {α : Type} (xs : List α) (i : Int) : Option α := (ixN xs.length i).bind fun j => xs[j]?
theorem ixN_seq {n : Nat} {i : Int} {j : Nat} (h : ixN n i = some j) : seqIndex? i n = some j ∧ j < n ∧ -(n : Int) ≤ i ∧ i < n := by
  unfold ixN at h
  by_cases h0 : 0 ≤ i
  · rw [if_pos h0] at h
    by_cases h1 : i < n
    · rw [if_pos h1] at h
      have e : i.toNat = j := Option.some.inj h
      exact ⟨by rw [seqIndex_of h0 h1, e], by omega, by omega, h1⟩
    · rw [if_neg h1] at h; cases h
  · rw [if_neg h0] at h
    by_cases h1 : -(n : Int) ≤ i
    · rw [if_pos h1] at h
      have e : (i + n).toNat = j := Option.some.inj h
      exact ⟨by rw [seqIndex_neg (by omega) h1, e], by omega, h1, by omega⟩
    · rw [if_neg h1] at h; cases h
theorem atI_get {α : Type} {xs : List α} {i : Int} {v : α} (h : atI xs i = some v) : ∃ j, seqIndex? i xs.length = some j ∧ xs[j]? = some v ∧ j < xs.length ∧ -(xs.length : Int) ≤ i ∧ i < xs.length := by
  unfold atI at h
  cases e : ixN xs.length i with
  | none => rw [e] at h; cases h
  | some j =>
    rw [e] at h
    obtain ⟨h1, h2, h3, h4⟩ := ixN_seq e
    exact ⟨j, h1, h, h2, h3, h4⟩
theorem atI_nat {α : Type} {xs : List α} {j : Nat} {v : α} (h : xs[j]? = some v) : atI xs (j : Int) = some v := by
  have hj : j < xs.length := (List.getElem?_eq_some_iff.mp h).1
  have e : ixN xs.length (j : Int) = some j := by
    unfold ixN
    rw [if_pos (by omega), if_pos (by omega)]; simp
  unfold atI; rw [e]; exact h
theorem atI_last {α : Type} (xs : List α) (v : α) : atI (xs ++ [v]) (-1) = some v := by
  have hl : (xs ++ [v]).length = xs.length + 1 := by simp
  have e : ixN (xs ++ [v]).length (-1) = some xs.length := by
    unfold ixN
    rw [hl, if_neg (by decide), if_pos (by omega)]
    congr 1
    omega
  unfold atI
  rw [e]
  show (xs ++ [v])[xs.length]? = some v
  simp

/-! ### what may be subscripted -/
/-- what stands as an index of a plain subscript -/
def PlainIx (b : Expr) : Prop := ∀ o i, subscripted b false o i = operate [o, i] (getItem o i)
/-- a subscript by values -/
def IxR (X : Cx) (r : R2) : Prop :=
  ∀ (value slice : Expr) (pins : List (Addr × Obj)) (s : Shared) (σ : St) (H : Hp) (x y : V) (v u : Value) (Q : VK), Inv X pins σ H s → RelV x v → RelV y u → r x y H Q →
    subscripted slice false v u = operate [v, u] (getItem v u) → wpAny (model X.prog X.w) X.A (subscriptTail value slice v u) (EP X pins σ Q) X.xe s
/-- a call of a builtin's method by values: the receiver, the arguments -/
def MtR (X : Cx) (id : String) (r : V → List V → Hp → VK → Prop) : Prop :=
  ∀ (pins : List (Addr × Obj)) (s : Shared) (σ : St) (H : Hp) (x : V) (xs : List V) (v : Value) (us : List Value) (Q : VK), Inv X pins σ H s → RelV x v → Vals xs us → r x xs H Q →
    wpAny (model X.prog X.w) X.A (call (.builtin id) (v :: us)) (EP X pins σ Q) X.xe s
section
variable {X : Cx} {a b : Expr} {ta tb : TE} {pos : Pos}
theorem IxR.or {r r' : R2} (h : IxR X r) (h' : IxR X r') : IxR X (fun x y H Q => r x y H Q ∨ r' x y H Q) := by
  intro value slice pins s σ H x y v u Q I rx ry q hs
  rcases q with q | q
  · exact h value slice pins s σ H x y v u Q I rx ry q hs
  · exact h' value slice pins s σ H x y v u Q I rx ry q hs
theorem MtR.or {id : String} {r r' : V → List V → Hp → VK → Prop} (h : MtR X id r) (h' : MtR X id r') : MtR X id (fun x xs H Q => r x xs H Q ∨ r' x xs H Q) := by
  intro pins s σ H x xs v us Q I rx rs q
  rcases q with q | q
  · exact h pins s σ H x xs v us Q I rx rs q
  · exact h' pins s σ H x xs v us Q I rx rs q
/-- a[b] -/
theorem pe_ix {r : R2} (hr : IxR X r) (ha : PE X a ta) (hb : PE X b tb) (hs : PlainIx b) : PE X (.Subscript a b pos) (tOp r ta tb) := by
  intro pins s σ H Q I h
  exact Subscript_ (binT ha hb I h fun v u s2 x y H2 I2 rx ry q => hr a b pins s2 σ H2 x y v u Q I2 rx ry q (hs _ _))

def rIxL (K : PySem.W.Frag) : R2 := fun x y H Q => ∃ p xs i v, x = .ref p ∧ y = .int i ∧ SqL K H p xs ∧ atI xs i = some v ∧ Q v H
def rIxT (K : PySem.W.Frag) : R2 := fun x y H Q => ∃ p xs i v, x = .ref p ∧ y = .int i ∧ SqT K H p xs ∧ atI xs i = some v ∧ Q v H
def rIxS : R2 := fun x y H Q => ∃ z i c, x = .str z ∧ y = .int i ∧ z.length ≤ sizeLine ∧ atI z.cps.toList i = some c ∧ Q (.str ⟨#[c]⟩) H
theorem ix_list : IxR X (rIxL X.K) := by
  intro value slice pins s σ H x y v u Q I rx ry h hs
  obtain ⟨p, xs, i, z, rfl, rfl, hq, he, q⟩ := h
  cases rx
  obtain ⟨t, rfl⟩ := ry
  obtain ⟨its, r, pl, hz⟩ := I.list hq
  obtain ⟨j, h1, h2, h3, h4, h5⟩ := atI_get he
  obtain ⟨w, ew, rw'⟩ := r.get h2
  have hl := r.length
  have hn := line63
  have fin : EP X pins σ Q w s := ⟨z, H, I, rw', q⟩
  by_cases h0 : 0 ≤ i
  · have hj : i.toNat = j := by
      rw [seqIndex_of h0 h5] at h1
      exact Option.some.inj h1
    exact item_listR pl.isList h0 (by omega) (by rw [hj]; simpa using ew) fin hs
  · have hj : (i + (its.toArray.size : Int)).toNat = j := by
      rw [seqIndex_neg (by omega) h4] at h1
      rw [List.size_toArray, ← hl]
      exact Option.some.inj h1
    exact subscriptTail_builtinR (x := w) pl.isList.typeIs slot_list_getitem.lookup
      (wpAny_getItem_list_neg (Q := fun r s' => r = w ∧ EP X pins σ Q r s') pl.isList (by omega) (by rw [List.size_toArray] <;> omega) (by omega) (by rw [hj]; simpa using ew) ⟨rfl, fin⟩) hs
theorem ix_tup : IxR X (rIxT X.K) := by
  intro value slice pins s σ H x y v u Q I rx ry h hs
  obtain ⟨p, xs, i, z, rfl, rfl, hq, he, q⟩ := h
  cases rx
  obtain ⟨t, rfl⟩ := ry
  obtain ⟨its, r, pl, hz⟩ := I.tuple hq
  obtain ⟨j, h1, h2, h3, h4, h5⟩ := atI_get he
  obtain ⟨w, ew, rw'⟩ := r.get h2
  have hl := r.length
  have hn := line63
  have fin : EP X pins σ Q w s := ⟨z, H, I, rw', q⟩
  exact subscriptTail_builtinR (x := w) pl.typeIs slot_tuple_getitem.lookup
    (getItem_tuple (j := j) (Q := fun r s' => r = w ∧ EP X pins σ Q r s') pl (by omega) (by omega) (by rw [List.size_toArray, ← hl]; exact h1) (by simpa using ew) ⟨rfl, fin⟩) hs
theorem ix_str : IxR X rIxS := by
  intro value slice pins s σ H x y v u Q I rx ry h hs
  obtain ⟨z, i, c, rfl, rfl, hz, he, q⟩ := h
  obtain ⟨t, rfl⟩ := rx
  obtain ⟨t', rfl⟩ := ry
  obtain ⟨j, h1, h2, h3, h4, h5⟩ := atI_get he
  have hl : z.cps.toList.length = z.length := by simp [Str.length]
  rw [hl] at h1 h4 h5
  have hn := line63
  exact tail_any (typeIs_str s z t) slot_str_getitem.lookup (getItem_str (c := c) (by
    have e1 : decide (i < -(2 ^ 63 : Int)) = false := decide_eq_false (by omega)
    have e2 : decide (i ≥ 2 ^ 63) = false := decide_eq_false (by omega)
    rw [e1, e2, Bool.or_false]) (by rw [h1]; simpa using h2) ⟨.str ⟨#[c]⟩, H, I.tok _, ⟨_, rfl⟩, q⟩) hs
/-! ### xs[i] = v, any sign -/
/-- the list's object behind a store -/
theorem mapSeq_set (its : List Value) (n j : Nat) (u : Value) : Obj.mapSeq (·.setIfInBounds j u) { cls := .type "list", data := .seq its.toArray n } = { cls := .type "list", data := .seq (its.set j u).toArray n } := by
  simp [Obj.mapSeq]
theorem Inv.lst {pins : List (Addr × Obj)} {σ : St} {H : Hp} {s : Shared} {p : Addr} {xs : List V} (I : Inv X pins σ H s) (h : H p = some (.lst xs)) :
    ∃ (its : List Value) (n : Nat), Vals xs its ∧ s.heap.get? p = some { cls := .type "list", data := .seq its.toArray n } ∧ xs.length ≤ sizeLine := by
  obtain ⟨z, its, n, r, e⟩ := I.hok p _ h
  exact ⟨its, n, r, e, z⟩
/-- the list at p is written by an update of its object -/
theorem Inv.lstUpd {pins : List (Addr × Obj)} {σ : St} {H : Hp} {s : Shared} {p : Addr} {xs ys : List V} {its its' : List Value} {n n' : Nat} {f : Obj → Obj} (I : Inv X pins σ H s) (h : H p = some (.lst xs))
    (ho : s.heap.get? p = some { cls := .type "list", data := .seq its.toArray n }) (hf : f { cls := .type "list", data := .seq its.toArray n } = { cls := .type "list", data := .seq its'.toArray n' }) (r : Vals ys its') (hz : ys.length ≤ sizeLine) (t : Nat) :
    Inv X pins σ (upd H p (.lst ys)) { s with heap := s.heap.update p f, toks := t } := by
  have e : (s.heap.update p f).get? p = some { cls := .type "list", data := .seq its'.toArray n' } := by
    rw [Heap.get?_update_self f ho (by rw [hf] <;> rfl), hf]
  refine I.write (x := p) (e := p) (by rw [h]; trivial) (.inl rfl) (fun b u hb q => (Heap.get?_update_other _ _ (Ne.symm hb)).trans q) ⟨_, e⟩ ?_
  exact ⟨hz, its', n', r, e⟩
def rSetL : V → V → V → Hp → (Hp → Prop) → Prop := fun o i v H Q => ∃ p xs k j, o = .ref p ∧ i = .int k ∧ H p = some (.lst xs) ∧ ixN xs.length k = some j ∧ Q (upd H p (.lst (xs.set j v)))
theorem set_list : PSet X rSetL := by
  intro pins s σ H o i v ov iv u Q I ro ri rv h
  obtain ⟨p, xs, k, j, rfl, rfl, hp, hj, q⟩ := h
  cases ro
  obtain ⟨t, rfl⟩ := ri
  obtain ⟨its, n, r, ho, hz⟩ := I.lst hp
  obtain ⟨h1, h2, h3, h4⟩ := ixN_seq hj
  have hl := r.length
  have hn := line63
  have I' : Inv X pins σ (upd H p (.lst (xs.set j v))) { s with heap := s.heap.update p (Obj.mapSeq (·.setIfInBounds j u)) } :=
    I.lstUpd hp ho (mapSeq_set its n j u) (r.set rv j) (by rw [List.length_set]; exact hz) s.toks
  by_cases h0 : 0 ≤ k
  · have hk : k.toNat = j := by
      rw [seqIndex_of h0 h4] at h1
      exact Option.some.inj h1
    exact PySem.W.ki_setAt ho h0 (by omega) (by rw [List.size_toArray, ← hl]; exact h4) (by rw [hk]; exact ⟨_, I', q⟩)
  · have hk : (k + (its.toArray.size : Int)).toNat = j := by
      rw [seqIndex_neg (by omega) h3] at h1
      rw [List.size_toArray, ← hl]
      exact Option.some.inj h1
    exact PySem.W.ki_setBack ho (by omega) (by rw [List.size_toArray, ← hl]; exact h3) (by omega) (by rw [hk]; exact ⟨_, I', q⟩)

/-! ### slices -/
theorem slice_bounds (lo hi : Option Int) (n : Nat) : (sliceBounds lo hi none n).1 = ((HT.sIx n 0 lo : Nat) : Int) ∧ (sliceBounds lo hi none n).2.1 = ((HT.sIx n n hi : Nat) : Int) ∧ (sliceBounds lo hi none n).2.2 = 1 := by
  refine ⟨?_, ?_, rfl⟩
  · cases lo with
    | none => simp [sliceBounds, HT.sIx]
    | some i =>
      simp only [sliceBounds, HT.sIx, Option.getD_none, show (1 : Int) > 0 by decide, if_true]
      by_cases h : i < 0
      · simp only [h, if_true] <;> omega
      · simp only [h, if_false] <;> omega
  · cases hi with
    | none => simp [sliceBounds, HT.sIx]
    | some i =>
      simp only [sliceBounds, HT.sIx, Option.getD_none, show (1 : Int) > 0 by decide, if_true]
      by_cases h : i < 0
      · simp only [h, if_true] <;> omega
      · simp only [h, if_false] <;> omega
theorem slicePick_cut (its : List Value) (lo hi : Option Int) : slicePick its.toArray lo hi none = ((its.drop (HT.sIx its.length 0 lo)).take (HT.sIx its.length its.length hi - HT.sIx its.length 0 lo)).toArray := by
  obtain ⟨h1, h2, h3⟩ := slice_bounds lo hi its.toArray.size
  unfold slicePick
  rw [h1, h2, h3]
  simp only [sliceRange_one, pick_run, List.size_toArray] <;> rfl
/-- xs[lo:hi] of a list: a new list -/
def rSlL (K : PySem.W.Frag) : V → Option Int → Option Int → Hp → VK → Prop := fun x lo hi H Q => ∃ a xs, x = .ref a ∧ SqL K H a xs ∧ ∀ p, H p = none → Q (.ref p) (upd H p (.lst (cutV xs lo hi)))
theorem sl_list : SlR X (rSlL X.K) := by
  intro pins s σ H x v vl vu lo hi sl Q I rx hs pl pu h
  obtain ⟨a, xs, rfl, hx, q⟩ := h
  cases rx
  obtain ⟨its, r, ht, hz⟩ := I.list hx
  have hlen := r.length
  refine ⟨"list", _, slot_list_getitem.lookup, ht.isList.typeIs, ?_⟩
  refine wpAny_getItem_list_slice ht.isList hs pl pu .none (by simp) ?_ (by rw [List.size_toArray] <;> omega)
  rw [slicePick_cut, ← hlen]
  refine ⟨.ref s.heap.objs.size, _, I.laid (t' := s.toks) (o := .lst (cutV xs lo hi)) (fun b ob q => Heap.get?_push_of_some _ q) (Nat.le_refl _) ?_, rfl, q _ (I.hok.fresh (Nat.le_refl _))⟩
  exact ⟨Nat.le_trans (cutV_length xs lo hi) hz, _, 0, (r.drop (HT.sIx xs.length 0 lo)).take (HT.sIx xs.length xs.length hi - HT.sIx xs.length 0 lo), Heap.get?_push_size _ rfl⟩

/-! ### in, not in: flat items -/
def flatV : V → Bool
  | .non => true
  | .bl _ => true
  | .int _ => true
  | .str _ => true
  | _ => false
/-- == of flat values -/
def eqV : V → V → Bool
  | .non, .non => true
  | .bl a, .bl b => a == b
  | .bl a, .int b => (if a then 1 else 0) == b
  | .int a, .bl b => a == (if b then 1 else 0)
  | .int a, .int b => a == b
  | .str a, .str b => a == b
  | _, _ => false
theorem eqAt_V {A : Around} {s : Shared} {y x : V} {u v : Value} (ry : RelV y u) (rx : RelV x v) (fy : flatV y = true) (fx : flatV x = true) : SeqAt.EqAt A s u v (eqV y x) := by
  cases y with
  | non =>
    cases ry
    cases x with
    | non => cases rx; exact SeqAt.EqAt.same _
    | bl b => cases rx; exact SeqAt.EqAt.none_bool b
    | int b => obtain ⟨t, rfl⟩ := rx; exact SeqAt.EqAt.none_int b t
    | str b => obtain ⟨t, rfl⟩ := rx; exact SeqAt.EqAt.none_str b t
    | _ => exact absurd (show false = true from fx) Bool.false_ne_true
  | bl a =>
    cases ry
    cases x with
    | non => cases rx; exact SeqAt.EqAt.bool_none a
    | bl b => cases rx; exact SeqAt.EqAt.bool_bool a b
    | int b => obtain ⟨t, rfl⟩ := rx; exact SeqAt.EqAt.bool_int a b t
    | str b => obtain ⟨t, rfl⟩ := rx; exact SeqAt.EqAt.bool_str a b t
    | _ => exact absurd (show false = true from fx) Bool.false_ne_true
  | int a =>
    obtain ⟨t', rfl⟩ := ry
    cases x with
    | non => cases rx; exact SeqAt.EqAt.int_none a t'
    | bl b => cases rx; exact SeqAt.EqAt.int_bool a t' b
    | int b => obtain ⟨t, rfl⟩ := rx; exact SeqAt.EqAt.int_int a t' b t
    | str b => obtain ⟨t, rfl⟩ := rx; exact SeqAt.EqAt.int_str a t' b t
    | _ => exact absurd (show false = true from fx) Bool.false_ne_true
  | str a =>
    obtain ⟨t', rfl⟩ := ry
    cases x with
    | non => cases rx; exact SeqAt.EqAt.str_none a t'
    | bl b => cases rx; exact SeqAt.EqAt.str_bool a t' b
    | int b => obtain ⟨t, rfl⟩ := rx; exact SeqAt.EqAt.str_int a t' b t
    | str b => obtain ⟨t, rfl⟩ := rx; exact SeqAt.EqAt.str_str a t' b t
    | _ => exact absurd (show false = true from fx) Bool.false_ne_true
  | _ => exact absurd (show false = true from fy) Bool.false_ne_true
/-- the items' answers, read off the values (a value's own answer does not lean on its token) -/
def eqU (x : V) (u : Value) : Bool := match u with
  | .none => eqV .non x
  | .bool b => eqV (.bl b) x
  | .int i _ => eqV (.int i) x
  | .str z _ => eqV (.str z) x
  | _ => false
theorem eqU_of {x y : V} {u : Value} (r : RelV y u) (f : flatV y = true) : eqU x u = eqV y x := by
  cases y with
  | non => cases r; rfl
  | bl b => cases r; rfl
  | int i => obtain ⟨t, rfl⟩ := r; rfl
  | str z => obtain ⟨t, rfl⟩ := r; rfl
  | _ => exact absurd (show false = true from f) Bool.false_ne_true
theorem any_eqU {x : V} : ∀ {xs : List V} {us : List Value}, Vals xs us → xs.all flatV = true → us.any (eqU x) = xs.any fun y => eqV y x
  | _, _, .nil, _ => rfl
  | y :: xs, u :: us, .cons r t, f => by
    rw [List.all_cons, Bool.and_eq_true] at f
    rw [List.any_cons, List.any_cons, eqU_of r f.1, any_eqU t f.2]
theorem mem_eqAt {A : Around} {s : Shared} {x : V} {v : Value} (rx : RelV x v) (fx : flatV x = true) : ∀ {xs : List V} {us : List Value}, Vals xs us → xs.all flatV = true → ∀ u ∈ us, SeqAt.EqAt A s u v (eqU x u)
  | _, _, .nil, _ => fun u hu => by cases hu
  | y :: xs, u :: us, .cons r t, f => fun u' hu => by
    rw [List.all_cons, Bool.and_eq_true] at f
    rcases List.mem_cons.mp hu with rfl | hu
    · rw [eqU_of r f.1]; exact eqAt_V r rx f.1 fx
    · exact mem_eqAt rx fx t f.2 u' hu
def inV (x : V) (xs : List V) : Bool := xs.any fun y => eqV y x
/-- x in a list or tuple of flat items -/
def rIn (K : PySem.W.Frag) (neg : Bool) : R2 := fun x y H Q => ∃ p xs, y = .ref p ∧ (SqL K H p xs ∨ SqT K H p xs) ∧ flatV x = true ∧ xs.all flatV = true ∧ Q (.bl (if neg then !inV x xs else inV x xs)) H
theorem op_in_seq : OpR X (compareOp .In) (rIn X.K false) := by
  intro pins s σ H x y v u Q I rx ry h
  obtain ⟨p, xs, rfl, hq, fx, fs, q⟩ := h
  cases ry
  rcases hq with hq | hq
  · obtain ⟨its, r, pl, hz⟩ := I.list hq
    refine SeqAt.in_listAt (eqU x) pl.isList (fun w hw => mem_eqAt rx fx r fs w (by simpa using hw)) ⟨.bl _, H, I, rfl, ?_⟩
    rw [show its.toArray.any (eqU x) = its.any (eqU x) by simp, any_eqU r fs]
    exact q
  · obtain ⟨its, r, pl, hz⟩ := I.tuple hq
    refine SeqAt.in_tupleAt (eqU x) pl (fun w hw => mem_eqAt rx fx r fs w (by simpa using hw)) ⟨.bl _, H, I, rfl, ?_⟩
    rw [show its.toArray.any (eqU x) = its.any (eqU x) by simp, any_eqU r fs]
    exact q
/-! ### len, list(x), tuple(x) of any list or tuple that is read -/
theorem call_len_seq : CallR X (.builtin "len") (fun xs H Q => ∃ p ys, xs = [.ref p] ∧ (SqL X.K H p ys ∨ SqT X.K H p ys) ∧ Q (.int ys.length) H) := by
  intro pins s σ H xs us Q I r h
  obtain ⟨p, ys, rfl, hq, q⟩ := h
  obtain ⟨u, rfl, rx⟩ := vals1 r
  cases rx
  have hn := line63
  rcases hq with hq | hq
  · obtain ⟨its, r', pl, hz⟩ := I.list hq
    have hlen := r'.length
    exact Calls.call_len_list pl.isList (by simp only [List.size_toArray] <;> omega) ⟨.int ys.length, H, I.tok _, ⟨s.toks + 1, by rw [List.size_toArray, hlen]⟩, q⟩
  · obtain ⟨its, r', pl, hz⟩ := I.tuple hq
    have hlen := r'.length
    exact len_tuple pl (by simp only [List.size_toArray] <;> omega) ⟨.int ys.length, H, I.tok _, ⟨s.toks + 1, by rw [List.size_toArray, hlen]⟩, q⟩
theorem call_len_str : CallR X (.builtin "len") (fun xs H Q => ∃ z, xs = [.str z] ∧ z.length ≤ sizeLine ∧ Q (.int z.length) H) := by
  intro pins s σ H xs us Q I r h
  obtain ⟨z, rfl, hz, q⟩ := h
  obtain ⟨u, rfl, t, rfl⟩ := vals1 r
  have hn := line63
  exact len_str (by omega) ⟨.int z.length, H, I.tok _, ⟨_, rfl⟩, q⟩
theorem CallR.or {f : Value} {r r' : List V → Hp → VK → Prop} (h : CallR X f r) (h' : CallR X f r') : CallR X f (fun xs H Q => r xs H Q ∨ r' xs H Q) := by
  intro pins s σ H xs us Q I rs q
  rcases q with q | q
  · exact h pins s σ H xs us Q I rs q
  · exact h' pins s σ H xs us Q I rs q
theorem call_list_of : CallR X (.type "list") (fun xs H Q => ∃ p ys, xs = [.ref p] ∧ (SqL X.K H p ys ∨ SqT X.K H p ys) ∧ ∀ l, H l = none → Q (.ref l) (upd H l (.lst ys))) := by
  intro pins s σ H xs us Q I r h
  obtain ⟨p, ys, rfl, hq, q⟩ := h
  obtain ⟨u, rfl, rx⟩ := vals1 r
  cases rx
  have fin : ∀ (its : List Value), Vals ys its → ys.length ≤ sizeLine → ∀ (h' : Heap) (c' : Nat), (∀ b o', s.heap.get? b = some o' → h'.get? b = some o') →
      h'.get? s.heap.objs.size = some { cls := .type "list", dict := none, data := .seq its.toArray c', slots := #[] } → EP X pins σ Q (.ref s.heap.objs.size) { s with heap := h' } := fun its r' hz h' c' kp e =>
    ⟨.ref s.heap.objs.size, _, I.laid (t' := s.toks) kp (Nat.le_refl _) (show ObjOk X.prog X.w _ h' _ (.lst ys) from ⟨hz, its, c', r', e⟩), rfl, q _ (I.hok.fresh (Nat.le_refl _))⟩
  rcases hq with hq | hq
  · obtain ⟨its, r', pl, hz⟩ := I.list hq
    have hlen := r'.length
    obtain ⟨o, ho, hc, n, hd⟩ := pl.isList
    exact call_list_seq p (.inl rfl) ho hc hd (fun h' c' kp e => fin its r' hz h' c' kp e) (by simp only [List.size_toArray] <;> omega)
  · obtain ⟨its, r', pl, hz⟩ := I.tuple hq
    have hlen := r'.length
    obtain ⟨o, ho, hc, n, hd⟩ := pl
    exact call_list_seq p (.inr rfl) ho hc hd (fun h' c' kp e => fin its r' hz h' c' kp e) (by simp only [List.size_toArray] <;> omega)
/-! ### the call of a builtin's method: o.m(..) -/
/-- the value is of that builtin type -/
def tyV (K : PySem.W.Frag) (T : String) (x : V) (H : Hp) : Prop := match x with
  | .str _ => T = "str"
  | .int _ => T = "int"
  | .ref p => (T = "list" ∧ ∃ xs, SqL K H p xs) ∨ (T = "tuple" ∧ ∃ o, K.lookup p = some o ∧ o.cls = .type "tuple" ∧ o.dict = none) ∨
      (T = "dict" ∧ ((∃ kvs, H p = some (.dK kvs)) ∨ ∃ kvs, H p = some (.dT kvs))) ∨ (T = "set" ∧ ∃ S n, H p = some (.set S n))
  | _ => False
theorem tyV_is {pins : List (Addr × Obj)} {σ : St} {H : Hp} {s : Shared} {T : String} {x : V} {v : Value} (I : Inv X pins σ H s) (r : RelV x v) (ty : tyV X.K T x H) :
    s.TypeIs v T ∧ ∀ a, v = .ref a → ∃ ob, s.heap.get? a = some ob ∧ ob.dict = none := by
  cases x with
  | str z =>
    obtain ⟨t, rfl⟩ := r
    cases (show T = "str" from ty)
    exact ⟨typeIs_str s z t, fun _ e => nomatch e⟩
  | int i =>
    obtain ⟨t, rfl⟩ := r
    cases (show T = "int" from ty)
    exact ⟨typeIs_int s i t, fun _ e => nomatch e⟩
  | ref p =>
    cases r
    rcases ty with ⟨rfl, xs, hq⟩ | ⟨rfl, o, hk, hc, hd⟩ | ⟨rfl, hk⟩ | ⟨rfl, S, n, hk⟩
    · obtain ⟨its, _, pl, _⟩ := I.list hq
      refine ⟨pl.isList.typeIs, fun a e => ?_⟩
      cases e
      obtain ⟨o, n, e, c, hd, _⟩ := pl
      exact ⟨o, e, hd⟩
    · refine ⟨⟨o, I.kIn p o hk, hc⟩, fun a e => ?_⟩
      cases e
      exact ⟨o, I.kIn _ o hk, hd⟩
    · have z : ∃ o, s.heap.get? p = some o ∧ o.ExactDict := by
        rcases hk with ⟨kvs, hk⟩ | ⟨kvs, hk⟩
        · obtain ⟨_, _, _, _, o, _, _, e, ex, _⟩ := I.hok p _ hk
          exact ⟨o, e, ex⟩
        · obtain ⟨_, _, _, _, o, _, _, e, ex, _⟩ := I.hok p _ hk
          exact ⟨o, e, ex⟩
      obtain ⟨o, e, ex⟩ := z
      refine ⟨⟨o, e, ex.1⟩, fun a e2 => ?_⟩
      cases e2
      exact ⟨o, e, ex.2.1⟩
    · obtain ⟨o, _, _, _, e, ex, _⟩ := I.hok p _ hk
      refine ⟨⟨o, e, ex.1⟩, fun a e2 => ?_⟩
      cases e2
      exact ⟨o, e, ex.2.1⟩
  | _ => exact False.elim ty
def tBM0 (K : PySem.W.Frag) (T : String) (r : V → List V → Hp → VK → Prop) (to : TE) : TE := fun σ H Q => to σ H fun x H1 => tyV K T x H1 ∧ r x [] H1 Q
def tBM (K : PySem.W.Frag) (T : String) (r : V → List V → Hp → VK → Prop) (to : TE) (t : TA) : TE := fun σ H Q => to σ H fun x H1 => tyV K T x H1 ∧ t σ H1 fun xs H2 => r x xs H2 Q
variable {o e : Expr} {es : List Expr} {to : TE} {t : TA} {name : Str} {apos cpos : Pos} {T id : String} {r : V → List V → Hp → VK → Prop}
theorem pe_bm (pa : PlainAttrs T) (slot : Slot T name id) (hty : typeOf (.builtin id) = pure (.type "method_descriptor")) (hm : MtR X id r) (ho : PE X o to) (ha : PA X (e :: es) t)
    (hbase : attributeBase o name X.env (eval o X.env) = eval o X.env := by rfl)
    (hfew : ((backTo cpos (starEach (e :: es) X.env)).all (fun x => !x.1) && (backToKw cpos (keywordEach [] X.env)).all (fun x => x.1.isSome)
      && decide ((e :: es).length + ([] : List Keyword).length + (if ([] : List Keyword).isEmpty then 0 else 1) < 30)) = true := by rfl)
    (hline : (apos.endLine == cpos.line) = true := by rfl) (hs : starEach (e :: es) X.env = (false, eval e X.env) :: starEach es X.env := by rfl) (hplain : (backTo cpos (starEach es X.env)).any (·.1) = false := by rfl) :
    PE X (.Call (.Attribute o name apos) (e :: es) [] cpos) (tBM X.K T r to t) := by
  intro pins s σ H Q I h
  refine wpAny_Call_method_late hbase hfew hline rfl (thn (ho pins s σ H _ I h) fun v s1 ⟨x, H1, I1, r1, ty, q1⟩ => ?_)
  obtain ⟨h1, h2⟩ := tyV_is I1 r1 ty
  refine ⟨T, id, pa, slot, hty, h1, h2, ?_⟩
  have hA := ha cpos pins s1 σ H1 _ I1 q1
  rw [hs] at hA ⊢
  refine Calls.callWith_builtin (by show (false || (backTo cpos (starEach es X.env)).any (·.1)) = false; rw [hplain] <;> rfl) (Calls.evalArgs_plain ?_)
  exact thn hA fun us s2 ⟨vs, H2, I2, r2, q2⟩ => hm pins s2 σ H2 x vs v us Q I2 r1 r2 q2
/- xs.append(e), list.index on a module's tuple .. are MtR facts of 06m -/
end
end L2

namespace L2
open PySem PySem.Spec PyProof.Rows

def MtM (X : Cx) (id : String) (r : V → List V → Hp → VK → Prop) : Prop :=
  ∀ (pins : List (Addr × Obj)) (s : Shared) (σ : St) (H : Hp) (x : V) (xs : List V) (v : Value) (us : List Value) (Q : VK), Inv X pins σ H s → RelV x v → Vals xs us → r x xs H Q →
    wpAny (model X.prog X.w) X.A (call (.builtin id) (v :: us)) (EP X pins σ Q) X.xe s

/-! ### lists of values -/
theorem Vals.one : ∀ {x : V} {us : List Value}, Vals [x] us → ∃ u, us = [u] ∧ RelV x u
  | _, _, .cons r .nil => ⟨_, rfl, r⟩
theorem Vals.two : ∀ {x y : V} {us : List Value}, Vals [x, y] us → ∃ u v, us = [u, v] ∧ RelV x u ∧ RelV y v
  | _, _, _, .cons r (.cons q .nil) => ⟨_, _, rfl, r, q⟩
theorem Vals.zero : ∀ {us : List Value}, Vals [] us → us = []
  | _, .nil => rfl
theorem Vals.dropLast {xs : List V} {us : List Value} (h : Vals xs us) : Vals xs.dropLast us.dropLast := by
  induction h with
  | nil => exact .nil
  | cons r t ih =>
    cases t with
    | nil => exact .nil
    | cons q t' => exact .cons r ih
theorem Vals.eraseIdx : ∀ {xs : List V} {us : List Value} (i : Nat), Vals xs us → Vals (xs.eraseIdx i) (us.eraseIdx i)
  | _, _, _, .nil => .nil
  | _, _, 0, .cons _ t => t
  | _, _, i + 1, .cons r t => .cons r (Vals.eraseIdx i t)
theorem len_erase {α : Type} : ∀ (l : List α) (i : Nat), (l.eraseIdx i).length ≤ l.length
  | [], _ => Nat.le_refl _
  | _ :: _, 0 => Nat.le_succ _
  | _ :: r, i + 1 => Nat.succ_le_succ (len_erase r i)
section
variable {X : Cx} {pins : List (Addr × Obj)} {σ : St} {H : Hp} {s : Shared} {l b : Addr} {xs ys zs : List V}

/-! ### the two steps: a tracked list is rewritten, a new list is laid -/
theorem Inv.lset {its its' : List Value} {n : Nat} {f : Array Value → Array Value} {t' : Nat} (I : Inv X pins σ H s) (hH : H l = some (.lst xs))
    (e : s.heap.get? l = some { cls := .type "list", data := .seq its.toArray n }) (hf : f its.toArray = its'.toArray) (hv : Vals ys its') (hz : ys.length ≤ sizeLine) :
    Inv X pins σ (upd H l (.lst ys)) { s with heap := s.heap.update l (Obj.mapSeq f), toks := t' } := by
  have q := PySem.IsL.update e f
  rw [hf] at q
  refine I.write (x := l) (e := l) (by rw [hH]; exact trivial) (.inl rfl) (fun b' u hb hu => (Heap.get?_update_other s.heap (Obj.mapSeq f) (Ne.symm hb)).trans hu) ⟨_, q⟩ ?_
  exact ⟨hz, its', _, hv, q⟩
theorem Inv.lnew {its : List Value} {t' : Nat} (I : Inv X pins σ H s) (hv : Vals ys its) (hz : ys.length ≤ sizeLine) :
    Inv X pins σ (upd H s.heap.objs.size (.lst ys)) { s with heap := s.heap.push { cls := .type "list", data := .seq its.toArray }, toks := t' } :=
  I.laid (fun _ _ q => Heap.get?_push_of_some _ q) (Nat.le_refl _) ⟨hz, its, 0, hv, Heap.get?_push_size _ rfl⟩
theorem Inv.fresh (I : Inv X pins σ H s) : H s.heap.objs.size = none := I.hok.fresh (Nat.le_refl _)
theorem Inv.lstM (I : Inv X pins σ H s) (hH : H l = some (.lst xs)) : xs.length ≤ sizeLine ∧ ∃ (its : List Value) (n : Nat), Vals xs its ∧ xs.length = its.length ∧ s.heap.get? l = some { cls := .type "list", data := .seq its.toArray n } := by
  obtain ⟨z, its, n, r, e⟩ := I.hok l _ hH
  exact ⟨z, its, n, r, r.length, e⟩

theorem notLongL {n : Nat} (h : n ≤ sizeLine) : Builtin.List.listTooLong n = false := by
  unfold Builtin.List.listTooLong
  exact decide_eq_false (by omega)
end

section
variable {X : Cx}

/-! ### methods -/
def rAppend : V → List V → Hp → VK → Prop := fun x vs H Q => ∃ l xs y, x = .ref l ∧ vs = [y] ∧ H l = some (.lst xs) ∧ xs.length < sizeLine ∧ Q .non (upd H l (.lst (xs ++ [y])))
theorem mt_append : MtM X "list.append" rAppend := by
  intro pins s σ H x vs v us Q I rx rv h
  obtain ⟨l, xs, y, rfl, rfl, hH, hz, q⟩ := h
  cases rx
  obtain ⟨u, rfl, ru⟩ := rv.one
  obtain ⟨z, its, n, r, hl, e⟩ := I.lstM hH
  refine call_meets F.slot_list_append ⟨_, e, rfl⟩ F.entry_list_append (F.args_list_append_2 _ _) (PySem.list_append l its.toArray n u (by rw [List.size_toArray]; omega)) ⟨e, ?_⟩
  refine ⟨.non, _, I.lset (its' := its ++ [u]) hH e (by simp) (r.append (.cons ru .nil)) ?_, rfl, q⟩
  rw [List.length_append, List.length_singleton]
  omega

def rExtend : V → List V → Hp → VK → Prop := fun x vs H Q => ∃ l b xs zs, x = .ref l ∧ vs = [.ref b] ∧ H l = some (.lst xs) ∧ H b = some (.lst zs) ∧ xs.length + zs.length ≤ sizeLine ∧ Q .non (upd H l (.lst (xs ++ zs)))
theorem mt_extend : MtM X "list.extend" rExtend := by
  intro pins s σ H x vs v us Q I rx rv h
  obtain ⟨l, b, xs, zs, rfl, rfl, hH, hB, hz, q⟩ := h
  cases rx
  obtain ⟨u, rfl, ru⟩ := rv.one
  cases ru
  obtain ⟨z, its, n, r, hl, e⟩ := I.lstM hH
  obtain ⟨z2, its2, n2, r2, hl2, e2⟩ := I.lstM hB
  have hsz : its.toArray.size + its2.toArray.size ≤ sizeLine := by rw [List.size_toArray, List.size_toArray]; omega
  have hlong : ¬ (!its.toArray.isEmpty && Builtin.List.listTooLong (its.toArray.size + its2.toArray.size)) = true := by
    rw [notLongL hsz, Bool.and_false]
    exact Bool.false_ne_true
  refine call_meets F.slot_list_extend ⟨_, e, rfl⟩ F.entry_list_extend (F.args_list_extend_2 _ _)
    (AutoSeq1.list_extend_list_list_0 l its.toArray n b its2.toArray n2 hlong (by rw [List.size_toArray]; omega) (by omega)) ⟨e, e2, ?_⟩
  refine ⟨.non, _, I.lset (its' := its ++ its2) hH e (by simp) (r.append r2) ?_, rfl, q⟩
  rw [List.length_append]
  omega

def rPopAt : V → List V → Hp → VK → Prop := fun x vs H Q => ∃ l xs i k y, x = .ref l ∧ vs = [.int i] ∧ H l = some (.lst xs) ∧ -(2 ^ 63) ≤ i ∧ i < 2 ^ 63 ∧ seqIndex? i xs.length = some k ∧ xs[k]? = some y ∧ Q y (upd H l (.lst (xs.eraseIdx k)))
theorem mt_popAt : MtM X "list.pop" rPopAt := by
  intro pins s σ H x vs v us Q I rx rv h
  obtain ⟨l, xs, i, k, y, rfl, rfl, hH, h1, h2, hk, hy, q⟩ := h
  cases rx
  obtain ⟨u, rfl, ru⟩ := rv.one
  obtain ⟨t, rfl⟩ := ru
  obtain ⟨z, its, n, r, hl, e⟩ := I.lstM hH
  obtain ⟨w, hw, rw'⟩ := r.get hy
  refine call_meets F.slot_list_pop ⟨_, e, rfl⟩ F.entry_list_pop (F.args_list_pop_2 _ _)
    (MeetsSeq.list_pop_at l its.toArray n i t k w (fitsIndex_both h1 h2) (by rw [List.size_toArray, ← hl]; exact hk) (by rw [← Array.getElem?_toList]; exact hw) (by rw [List.size_toArray]; omega)) ⟨e, ?_⟩
  refine ⟨y, _, I.lset (its' := its.eraseIdx k) hH e ?_ (r.eraseIdx k) ?_, rw', q⟩
  · show its.toArray.eraseIdxIfInBounds k = (its.eraseIdx k).toArray
    rw [List.eraseIdxIfInBounds_toArray]
  · have := len_erase xs k
    omega

/-! ### list + list, list += list, list * int -/
def rCat : R2 := fun x y H Q => ∃ l b xs zs, x = .ref l ∧ y = .ref b ∧ H l = some (.lst xs) ∧ H b = some (.lst zs) ∧ xs.length + zs.length ≤ sizeLine ∧ ∀ p, H p = none → Q (.ref p) (upd H p (.lst (xs ++ zs)))
theorem op_cat : OpR X (binaryOp .Add) rCat := by
  intro pins s σ H x y v u Q I rx ry h
  obtain ⟨l, b, xs, zs, rfl, rfl, hH, hB, hz, q⟩ := h
  cases rx
  cases ry
  obtain ⟨z, its, n, r, hl, e⟩ := I.lstM hH
  obtain ⟨z2, its2, n2, r2, hl2, e2⟩ := I.lstM hB
  refine PySem.P.add_list e e2 ?_ (by rw [List.size_toArray, List.size_toArray]; omega)
  have ea : its.toArray ++ its2.toArray = (its ++ its2).toArray := by simp
  rw [ea]
  exact ⟨.ref _, _, I.lnew (t' := s.toks) (r.append r2) (by rw [List.length_append]; omega), rfl, q _ I.fresh⟩
/-! ### del xs[i] -/
end

/-! ### xs[a:b] = ys -/
section
variable {prog : Program} {w : World} {A : Around} {E : Value → Shared → Prop} {s : Shared}
end

section
variable {X : Cx}
end
end L2

namespace Att
open PySem PySem.W PySem.Calls PyProof.Rows

/-! ### the script -/
theorem ints_of_wellAll {P : Params} {h : Heap} : ∀ (ns : List Int) (vs : List Value), WellAll P h vs (ns.map WData.int) → IntsAre vs ns := by
  intro ns
  induction ns with
  | nil =>
    intro vs w
    rw [List.map_nil] at w
    cases w
    exact .nil
  | cons n ns ih =>
    intro vs w
    rw [List.map_cons] at w
    cases w with
    | cons a b =>
      cases a
      exact .cons _ _ (ih _ b)

theorem script_of {l : OpenLaw} {n : Nat} (hn : l.most = some n) {P : Params} {h : Heap} {args : List WData} {vals : List Value}
    (hpre : l.row.toRowW.claim.pre args = true) (hwl : WellAll P h vals args) :
    ∃ a vs ns, vals = [Value.ref a] ∧ args = [WData.list (ns.map WData.int)] ∧ h.get? a = some { cls := .type "list", data := .seq vs.toArray } ∧ IntsAre vs ns ∧ ns.length ≤ n := by
  have hsh : WShape.hasAll [] args [.list .int] = true := (pre_splitW hpre).1
  have hc : l.pre.holds [] { args := args } = true := (pre_splitW hpre).2
  obtain ⟨d, r, rfl, h1, h2⟩ := hasAllW_cons hsh
  obtain rfl := hasAllW_nil h2
  obtain ⟨xs, rfl, h3⟩ := hasW_list h1
  obtain ⟨ns, rfl⟩ := items_int h3
  have hlen : ns.length ≤ n := by
    unfold OpenLaw.pre at hc
    have h4 : (WTm.not (.lt (.lit (.int (n : Int))) (.len (.arg 0)))).holds [] { args := [.list (ns.map .int)] } = true := by
      have h4 := (holds_andW hc).1
      rw [hn] at h4
      exact h4
    have h5 := condW_of h4 (w_not (w_lt w_lit (w_len_list (w_arg rfl))))
    rw [List.length_map] at h5
    refine Nat.le_of_not_lt fun q => ?_
    have q' : (n : Int) < ((ns.length : Nat) : Int) := by omega
    first
      | (rw [decide_eq_true q'] at h5; exact absurd h5 (by decide))
      | (simp at h5; omega)
  cases hwl with
  | cons w1 w2 =>
    cases w2
    cases w1 with
    | list ho hall => exact ⟨_, _, ns, rfl, rfl, ho, ints_of_wellAll ns _ hall, hlen⟩

theorem post_true (l : OpenLaw) (args : List WData) : l.row.toRowW.claim.post args (.bool true) args = true :=
  postW_of (r := l.row.toRowW) (X := (true == true))
    (show WShape.has [] (.bool true) .bool = true by first | rfl | decide | simp [WShape.has, WShape.arms, WShape.armsAll])
    (show (WTm.eq .res (.lit (.bool true))).value [] { args := args, res := some (.bool true), after := args } = some (.bool (true == true)) from w_eq_bool (w_res rfl) w_lit) rfl

/-! ### the attachment: holds_open's last premise (the goal 'hc' behind k_head) from a wpAny of the law's body -/
/-- the same from a codeAny of the CALL (for a layer whose function contracts speak of calls) -/
theorem attach_call {l : OpenLaw} {n : Nat} {q : Program} {loose : List Str} {XP : (Str → Option Value) → Heap → Prop} {YP : World → Heap → Prop} {d : DefRec}
    (hn : l.most = some n) (hdf : d.params.defaults = [])
    (call : ∀ (w : World) (s₀ s₁ : Shared) (mg mb : Str → Option Value) (fa : Addr) (o : Obj) (pm cd doc : Value) (a : Addr) (vs : List Value) (ns : List Int),
      Ground q loose [] XP w s₀ mg mb s₁.heap → YP w s₁.heap →
      s₁.heap.get? fa = some o → o.data = .func (docDef d.name d.params d.body d.scope pm cd doc) → s₁.heap.CodeRec cd d.name → mg d.name = some (.ref fa) →
      s₁.heap.get? a = some { cls := .type "list", data := .seq vs.toArray } → IntsAre vs ns → ns.length ≤ n → s₁.gens = #[] →
      codeAny (model l.prog w) callerA (.call (.ref fa) ⟨[.ref a], []⟩) (fun r s' => r = .ok (.ret (.bool true)) ∧ OldK s₁.heap s'.heap ∧ s'.os = s₁.os ∧ AllBare s'.gens) s₁) :
    WalkO q loose XP YP l.row.toRowW d [] (fun f vs => PySem.call f vs) := by
  intro w s₀ s₁ mg mb G Y fa o pm cd doc dV kV ho hd hcd hD hmg hg args vals as hpre hlay hrd hwl hlo
  obtain rfl : dV = .none := Dflts.none hD hdf
  obtain rfl : kV = .none := Dflts.noKw hD
  obtain ⟨a, vs, ns, rfl, rfl, hobj, hints, hlen⟩ := script_of hn hpre hwl
  refine enter_call (codeAny_mono (call w s₀ s₁ mg mb fa o pm cd doc a vs ns G Y ho (fd_plain hd) hcd hmg hobj hints hlen hg) fun r s' hq => ?_)
  obtain ⟨rfl, h2, h3, h4⟩ := hq
  exact ⟨.inl ⟨.bool true, .bool true, [], rfl, fun _ => rfl, .bool true, post_true l _, fun _ => ⟨List.Pairwise.nil, fun _ hm => (nomatch hm)⟩⟩, h2, h3, h4⟩

/-! ### rules over ANY heap (no ledger) from facts about the written part K: the library's own take a ledger (News) for what they write -/
section
variable {prog : Program} {w : World} {A : Around} {E : Value → Shared → Prop} {s : Shared} {K : Frag}

/-! the whole heap as the ledger: makes every rule that writes through a ledger a rule over any heap -/
end
end Att

namespace L2
open PySem PySem.Spec PyProof.Rows

theorem vals_ints : ∀ {vs : List Value} {ns : List Int}, IntsAre vs ns → Vals (ns.map V.int) vs
  | _, _, .nil => .nil
  | _, _, .cons n t h => .cons ⟨t, rfl⟩ (vals_ints h)

/-- nothing is tracked but the script, known to the object (or it is an object of the module) -/
def Only (H : Hp) : Prop := ∀ b, H b = none ∨ ∃ o xs, H b = some (.frz o (.lst xs))

/-- THE HEAD: the law's promise, at the heap behind the top. F, the promise of the law's def, may use that base is part of the heap (so K.In base, base.Ns mainGlobals mg stand in Mod) -/
theorem law_call {P : Program} {w : World} {K : PySem.W.Frag} {mg mb : Str → Option Value} {CX : CXT} {k : Nat} {fa a : Addr} {fd : FuncData} {x : Str} {sp : Sp} {s₁ : Shared} {vs : List Value} {ns : List Int}
    (KX : K.In s₁.heap) (hns : s₁.heap.Ns mainGlobals mg) (hb : s₁.heap.Ns builtinsNs mb) (hbb : ∀ x : Str, x ≠ "__name__" → mb x = bootBuiltins x) (hlim : s₁.heap.NoLimit) (hg : s₁.gens = #[])
    (ha : s₁.heap.get? a = some { cls := .type "list", data := .seq vs.toArray }) (hi : IntsAre vs ns) (hl : ns.length ≤ sizeLine) (hr : Room k callerA)
    (F : ∀ base : Heap, K.In base → base.Ns mainGlobals mg → FnOk P w K mg base CX k fa fd [x] sp) (hbind : ∀ (s : Shared) (u : Value), BindsTo s fd ⟨[u], []⟩ [(x, u)])
    (hsp : ∀ H : Hp, Only H → SqL K H a (ns.map V.int) → sp [.ref a] H (fun v _ => v = .bl true) fun _ _ _ => False)
    (hCX : ∀ H e s', CX [] H s₁ (fun _ _ _ => False) e s' → False) :
    codeAny (model P w) callerA (.call (.ref fa) ⟨[.ref a], []⟩) (fun r s' => r = .ok (.ret (.bool true)) ∧ OldK s₁.heap s'.heap ∧ s'.os = s₁.os ∧ AllBare s'.gens) s₁ := by
  have rv := vals_ints hi
  have lenV := hi.length
  -- from an abstract heap in which nothing but the script may be tracked
  have core : ∀ H : Hp, Only H → SqL K H a (ns.map V.int) → HOk P w H s₁.heap → (∀ b, H b ≠ none → b = a) → (H a ≠ none → K.lookup a = none) →
      codeAny (model P w) callerA (.call (.ref fa) ⟨[.ref a], []⟩) (fun r s' => r = .ok (.ret (.bool true)) ∧ OldK s₁.heap s'.heap ∧ s'.os = s₁.os ∧ AllBare s'.gens) s₁ := by
    intro H hO hS hok hA hK
    have base_of : ∀ {b : Addr} {o : Obj}, s₁.heap.get? b = some o → H b = none → (hidT s₁.heap H).get? b = some o := fun e n => hidT_get e n
    have noA : ∀ {b : Addr} {o : Obj} {es : Array DictEntry} {ep : Nat}, s₁.heap.get? b = some o → o.data = .dict es ep → H b = none := fun {b o es ep} e d => by
      cases q : H b with
      | none => rfl
      | some u =>
        have e' : b = a := hA b (by rw [q]; simp)
        subst e'
        rw [ha] at e; cases e
        have d' : Data.seq vs.toArray _ = Data.dict es ep := d
        cases d'
    have nsK : ∀ {b : Addr} {m : Str → Option Value}, s₁.heap.Ns b m → (hidT s₁.heap H).Ns b m := fun {b m} ⟨o, es, ep, e, d, r⟩ => ⟨o, es, ep, base_of e (noA e d), d, r⟩
    have hKb : K.In (hidT s₁.heap H) := fun b o e => base_of (KX b o e) (by
      cases q : H b with
      | none => rfl
      | some u =>
        have e' : b = a := hA b (by rw [q]; simp)
        subst e'
        rw [hK (by rw [q]; simp)] at e; cases e)
    have hM : Mod K mg (hidT s₁.heap H) := ⟨hKb, nsK hns, ⟨mb, nsK hb, hbb⟩, let ⟨mc, h1, h2⟩ := hlim; ⟨mc, nsK h1, h2⟩⟩
    have e0 : Env0 P w K mg (hidT s₁.heap H) callerA [] s₁ H := ⟨rfl, hM, fun b o e => of_hidT e, Nat.le_of_eq (hidT_size _ _), trivial, fun b hb => absurd (show b ∈ ([] : List Addr) from hb) (by simp), hok, .of_eq hg⟩
    refine codeAny_mono ((F _ hKb (nsK hns)).run callerA [] s₁ H ⟨[.ref a], []⟩ [.ref a] [.ref a] _ _ hr e0 (hbind s₁ (.ref a)) (.cons rfl .nil) (hsp H hO hS)) fun r s' h => ?_
    cases r with
    | error e => exact (hCX H e s' h).elim
    | ok fl =>
      cases fl with
      | next => exact False.elim h
      | brk => exact False.elim h
      | cont => exact False.elim h
      | ret u =>
        obtain ⟨v, H', os, bare, un, hok', r', q⟩ := h
        have q' : v = .bl true := q
        subst q'
        obtain rfl : u = Value.bool true := r'
        refine ⟨rfl, OldK.of_keep fun b o e => ?_, os, bare⟩
        cases q : H b with
        | none => exact un.keep b o e q (by intro z; exact absurd (show b ∈ ([] : List Addr) from z) (by simp)) (by simp)
        | some u =>
          rcases hO b with z | ⟨ob, xs, z⟩
          · rw [q] at z; cases z
          · have z2 := un.frzs b ob _ z
            obtain ⟨e1, _⟩ := hok b _ z
            obtain ⟨e2, _⟩ := hok' b _ z2
            rw [e] at e1; cases e1
            exact e2
  cases hk : K.lookup a with
  | some o =>
    -- the script is one of the module's own objects
    have e := KX a o hk
    rw [ha] at e
    cases e
    refine core (fun _ => none) (fun _ => .inl rfl) (.inr ⟨_, vs.toArray, _, hk, rfl, rfl, rfl, by rw [List.size_toArray, lenV]; exact hl, by simpa using rv⟩) (fun b u z => by have z' : (none : Option HO) = some u := z; cases z') (fun b z => absurd rfl z) fun z => absurd rfl z
  | none =>
    refine core (fun b => if b = a then some (.frz { cls := .type "list", data := .seq vs.toArray } (.lst (ns.map V.int))) else none) (fun b => ?_) (.inl (.inr ⟨{ cls := .type "list", data := .seq vs.toArray }, if_pos rfl⟩)) (fun b u z => ?_) (fun b z => ?_) fun _ => hk
    · by_cases hb : b = a
      · exact .inr ⟨_, _, if_pos hb⟩
      · exact .inl (if_neg hb)
    · by_cases hb : b = a
      · have z' := (if_pos hb).symm.trans z
        cases z'
        subst hb
        exact ⟨ha, by rw [List.length_map]; exact hl, vs, _, rv, ha⟩
      · have z' := (if_neg hb).symm.trans z
        cases z'
    · by_cases hb : b = a
      · exact hb
      · exact absurd (if_neg hb) z
end L2

namespace L2
open PySem PySem.Spec PyProof.Rows

abbrev KOf {K : PySem.W.Frag} {h : Heap} (_ : K.In h) : PySem.W.Frag := K

/-- the goal that k_head leaves (case hc), from the law's promise. F gives the function object fd (K's own) once, then the promise over every base -/
theorem walk_of {l : PySem.W.OpenLaw} {n k : Nat} {q : Program} {loose : List Str} {XP : (Str → Option Value) → Heap → Prop} {YP : World → Heap → Prop} {d : DefRec} {K : Params → PySem.W.Frag} {CX : World → CXT} {sp : World → Sp} {x : Str}
    (hn : l.most = some n) (hn2 : n ≤ sizeLine) (hdf : d.params.defaults = []) (hr : Room k callerA)
    (hY : ∀ (w : World) (h : Heap), YP w h → (K w.params).In h)
    (F : ∀ (w : World) (mg : Str → Option Value) (fa : Addr) (h : Heap), (K w.params).In h → h.Ns mainGlobals mg → mg d.name = some (.ref fa) →
      ∃ fd : FuncData, (∀ (s : Shared) (u : Value), BindsTo s fd ⟨[u], []⟩ [(x, u)]) ∧
        ∀ base : Heap, (K w.params).In base → base.Ns mainGlobals mg → FnOk l.prog w (K w.params) mg base (CX w) k fa fd [x] (sp w))
    (hsp : ∀ (w : World) (H : Hp) (a : Addr) (ns : List Int), ns.length ≤ n → Only H → SqL (K w.params) H a (ns.map V.int) → sp w [.ref a] H (fun v _ => v = .bl true) fun _ _ _ => False)
    (hCX : ∀ (w : World) (H : Hp) (s : Shared) (e : Value) (s' : Shared), CX w [] H s (fun _ _ _ => False) e s' → False) :
    PySem.W.WalkO q loose XP YP l.row.toRowW d [] (fun f vs => PySem.call f vs) := by
  refine Att.attach_call hn hdf fun w s₀ s₁ mg mb fa o pm cd doc a vs ns G Y ho hd hcd hmg hobj hints hlen hg => ?_
  have KX := hY w _ Y
  obtain ⟨fd, hb, hF⟩ := F w mg fa _ KX G.T.g hmg
  exact law_call KX G.T.g G.T.b G.T.builtins G.T.nolimit hg hobj hints (Nat.le_trans hlen hn2) hr hF hb (fun H hO hS => hsp w H a ns hlen hO hS) fun H e s' => hCX w H s₁ e s'
end L2

/- THE LAST THEOREM (shape; LID, My.* are yours):
   My.Adr: a structure of the addresses that your layer names (classes, functions); My.Txt K t: a structure (Prop) of the equations over K;
   My.txt_mk : {K} {implicit addresses ..} (e1 : nsIn K mainGlobals "law" = some (some (.ref f))) (e2 : K.lookup f = some ⟨oc, od, .func (fnOf "law" "law" params body scope dV kV doc pm an cdv ct), sl⟩) (e3 : codeIn K cdv "law" = true) .. : ∃ t, My.Txt K t

set_option maxRecDepth 100000 in
set_option maxHeartbeats 0 in
theorem PySem.Challenge.cw_LID_holds : PySem.Challenge.rw_LID.Holds := by
  w_on; o_law; k_head; (case hw => w_witness2)
  k_fill
  refine L2.walk_of (l := PySem.Challenge.rw_LID) (n := 63) (k := 40) (x := "script") (CX := fun w => ..) (sp := fun _ => My.sp_law) rfl (by decide) rfl ⟨rfl, by decide, by decide⟩ (fun w h Y => PySem.W.kIn_of Y) ?F ?S ?C
  case F =>
    intro w mg fa h KX G hmg
    have T : ∃ t, My.Txt (L2.KOf KX) t := by
      dsimp only [L2.KOf]                          -- K must stand as «<heap const> w.params» for k_is
      refine' My.txt_mk ?e1 ?e2 ?e3 ..
      (case e1 => PySem.W.k_is)                    -- in the order: a name -> its address -> its object -> its parts
      (case e2 => PySem.W.k_is)
      ..
    obtain ⟨t, T⟩ := T
    have e0 := hmg.symm.trans (PySem.W.mg_of KX G T.law)
    cases e0                                       -- fa is the law's own address
    exact ⟨_, fun s u => .of_eq rfl, fun base kb nb => My.law_fn T kb nb⟩     -- if «.of_eq rfl» comes too early: refine' ⟨_, ?b, fun base kb nb => My.law_fn T kb nb⟩; exact fun s u => .of_eq rfl
  case S => exact fun w H a ns hl hO hS => ..
  case C => exact ..
(the tactic k_is has no namespace: write k_is) -/

/-! SHORT WORDS over the layer: a def of the text, its body, what a loop and a test want. -/
namespace L2
open PySem PySem.Spec PyProof.Rows

/-! ### the text by places -/
/-- the j-th statement of a class's body -/
def inClass (s : Stmt) (j : Nat) : Stmt := match s with
  | .ClassDef _ _ _ body _ _ _ _ _ _ _ => body.getD j (.Pass ⟨0, 0, 0, 0⟩)
  | _ => .Pass ⟨0, 0, 0, 0⟩
def defArgs (s : Stmt) : Arguments := match s with
  | .FunctionDef _ a _ _ _ _ _ _ _ _ => a
  | _ => { posonlyargs := [], args := [], vararg := none, kwonlyargs := [], kw_defaults := [], kwarg := none, defaults := [] }
def defBody (s : Stmt) : List Stmt := match s with
  | .FunctionDef _ _ b _ _ _ _ _ _ _ => b
  | _ => []
def defScope (s : Stmt) : Scope := match s with
  | .FunctionDef _ _ _ _ _ _ sc _ _ _ => sc
  | _ => { kind := .function, names := [], isGenerator := false, isCoroutine := false }

/-! ### no exception leaves a def -/
abbrev CX0 : CXT := fun _ _ _ _ _ _ => False
abbrev E0 : XK := fun _ _ _ => False
theorem pass0 {X : Cx} : Passes CX0 X E0 := fun _ _ _ _ _ _ _ h => h.elim

/-! ### a def (or method) of the text as it stands behind the top -/
structure Fun (K : PySem.W.Frag) (x qual : Str) (st : Stmt) (f : Addr) (fd : FuncData) : Prop where
  ex : ∃ (oc : Value) (od : Option Addr) (kV doc pm : Value) (an : Option Addr) (cdv ct : Value) (osl : Array (Option Value)),
    fd = PySem.W.fnOf x qual (defArgs st) (defBody st) (defScope st) .none kV doc pm an cdv ct ∧ K.lookup f = some ⟨oc, od, .func fd, osl⟩ ∧ PySem.W.codeIn K cdv qual = true
  kp : PySem.W.keepIn K (.ref f) = true
section
variable {P : Program} {w : World} {K : PySem.W.Frag} {mg : Str → Option Value} {base : Heap}
/-- THE RULE for a def: its body as a term of rules, and the reading of that term -/
theorem Fun.ok {x qual : Str} {st : Stmt} {f : Addr} {fd : FuncData} {N ps : List Str} {k : Nat} {sp : Sp} (F : Fun K x qual st f fd) (S : FnScope N ps (defScope st)) (len : ∀ vs H Q E, sp vs H Q E → vs.length = ps.length)
    (hbody : ∀ (cdv : Value) (A : Around) (outer : List Env) (s : Shared) (H : Hp) (vs : List V) (Q : VK) (E : XK), Room k (A.deeper (envOfC qual (defScope st) s.heap.objs.size f cdv)) → sp vs H Q E →
      ∃ t, PSs (cxOf CX0 P w K mg base N qual (defScope st) f cdv A outer s H E).nox (defBody st) t ∧ t { nx := fun _ H' => Q .non H', rt := Q } (start N vs) H) : FnOk P w K mg base CX0 (k + 1) f fd ps sp := by
  obtain ⟨oc, od, kV, doc, pm, an, cdv, ct, osl, rfl, lk, hcd⟩ := F.ex
  refine fn_of lk hcd S len fun A outer s H vs Q E hr hsp => ?_
  obtain ⟨t, h, q⟩ := hbody cdv A outer s H vs Q E hr hsp
  exact ⟨t, h.nox, q⟩
/-- how its arguments bind (no defaults): h is «fun _ _ _ _ _ _ us hl => match us, hl with | [_, _], _ => rfl», one _ a parameter -/
theorem Fun.binds {x qual : Str} {st : Stmt} {f : Addr} {fd : FuncData} {ps : List Str} (F : Fun K x qual st f fd)
    (h : ∀ (kV doc pm : Value) (an : Option Addr) (cdv ct : Value) (us : List Value), us.length = ps.length → bindArgs (PySem.W.fnOf x qual (defArgs st) (defBody st) (defScope st) .none kV doc pm an cdv ct) ⟨us, []⟩ = pure (ps.zip us)) : Binds K fd ps [] := by
  obtain ⟨oc, od, kV, doc, pm, an, cdv, ct, osl, rfl, lk, hcd⟩ := F.ex
  exact .all (h kV doc pm an cdv ct)
end
theorem hu_of {A : Around} {k : Nat} (hr : Room k A) : A.units + 1 < cLine := Nat.lt_of_le_of_lt (Nat.add_le_add_left (by decide : 1 ≤ 64) _) hr.units
/-! ### expressions in short: the name that stands in the i-th slot -/
section
variable {X : Cx}
theorem pv (i : Nat) {x : Str} {pos : Pos} (hN : X.N[i]? = some x := by rfl) (hv : Vis X.env.scope x := by first | exact Or.inl rfl | exact Or.inr (Or.inl rfl) | exact Or.inr (Or.inr rfl)) (hd : (x == ("__debug__" : Str)) = false := by decide)
    (hcd : (x == ("__classdict__" : Str)) = false := by decide) : PE X (.Name x pos) (tVar i) := pe_var hN hv hd hcd
end

/-! ### tests -/
theorem iteF {A B : Prop} (h : B) : if false = true then A else B := by
  rw [if_neg Bool.false_ne_true]
  exact h
theorem iteT {A B : Prop} (h : A) : if true = true then A else B := by
  rw [if_pos rfl]
  exact h
/-! ### heaps -/
/-- all that was tracked is as it was -/
def Same (H H' : Hp) : Prop := ∀ b o, H b = some o → H' b = some o
theorem Same.refl (H : Hp) : Same H H := fun _ _ h => h
theorem Same.trans {H H1 H2 : Hp} (a : Same H H1) (b : Same H1 H2) : Same H H2 := fun c o h => b c o (a c o h)
theorem Same.free {H H' : Hp} (e : Same H H') {l : Addr} (h : H' l = Option.none) : H l = Option.none := by
  cases q : H l with
  | none => rfl
  | some o =>
    rw [e l o q] at h
    cases h
theorem Same.seq {K : PySem.W.Frag} {H H' : Hp} {a : Addr} {xs : List V} (e : Same H H') (h : SqL K H a xs) : SqL K H' a xs := by
  rcases h with (h | ⟨o, h⟩) | h
  · exact .inl (.inl (e _ _ h))
  · exact .inl (.inr ⟨o, e _ _ h⟩)
  · exact .inr h

end L2

set_option maxHeartbeats 4000000
/-! GENERATORS: what all(.. for ..) and any(.. for ..) come to. -/
namespace L2
open PySem PySem.Spec PyProof.Rows

/-! ### no run loses a generator -/
theorem gRuns {M : Model} {Γ : PySem.Ctx} {p : Pos} {t : Sem PySem.Fin} {fs : List PySem.Frame} {s s' : Shared} {e : End} (h : Runs M Γ p t fs s e s') :
    s.gens.size ≤ s'.gens.size := by
  induction h <;> (try simp only [Shared.setGen, Array.size_setIfInBounds, Array.size_push] at *) <;> omega

theorem gWakes {M : Model} {Γ : PySem.Ctx} {p : Pos} {g : Nat} {r : Resume} {s s' : Shared} {res : GenResult} (h : Wakes M Γ p g r s res s') :
    s.gens.size ≤ s'.gens.size := by
  have sz : ∀ (u : Shared) (x : GenState), (u.setGen g x).gens.size = u.gens.size := fun u x => by simp [Shared.setGen]
  have go : ∀ {Γ' : PySem.Ctx} {p' : Pos} {t : Sem PySem.Fin} {fs : List PySem.Frame} {e₁ : End} {s₁ : Shared},
      Runs M Γ' p' t fs (s.setGen g .running) e₁ s₁ → s.gens.size ≤ (s₁.setGen g e₁.genState).gens.size := fun hr => by
    have q := gRuns hr
    rw [sz] at q ⊢
    exact q
  unfold Wakes at h
  split at h
  · exact h.elim
  · split at h
    · obtain ⟨_, _, hr, _, _, rfl⟩ := h
      exact go hr
    · rw [h.2]
      exact Nat.le_refl _
    · rw [h.2, sz]
      exact Nat.le_refl _
  · obtain ⟨_, _, hr, _, _, rfl⟩ := h
    exact go hr
  · rw [h.2]
    exact Nat.le_refl _
  · rw [h.2]
    exact Nat.le_refl _

theorem gWp {α : Type} (M : Model) (Γ : PySem.Ctx) (n : Nat) (t : Sem α) :
    ∀ (Q : α → Pos → Shared → Prop) (E : Value → Pos → Shared → Prop) (p : Pos) (s : Shared), n ≤ s.gens.size → Sem.wp M Γ t Q E p s →
      Sem.wp M Γ t (fun a p' s' => n ≤ s'.gens.size ∧ Q a p' s') (fun e p' s' => n ≤ s'.gens.size ∧ E e p' s') p s := by
  induction t with
  | pure a => exact fun Q E p s l h => ⟨l, h⟩
  | raise e => exact fun Q E p s l h => ⟨l, h⟩
  | unsupported _ => exact fun Q E p s _ h => h
  | finish _ => exact fun Q E p s _ h => h
  | rule _ k ih => exact fun Q E p s l h => ih () Q E p s l h
  | «at» p' k ih => exact fun Q E p s l h => ih () Q E p' s l h
  | load a _ k ih => exact fun Q E p s l ⟨o, ho, h⟩ => ⟨o, ho, ih o Q E p s l h⟩
  | update a _ f k ih => exact fun Q E p s l h => ⟨h.1, ih () Q E p _ l h.2⟩
  | loadIfAlive a k ih => exact fun Q E p s l h => ih _ Q E p s l h
  | point _ k ih => exact fun Q E p s l h => ih () Q E p s l h
  | register _ _ => exact fun Q E p s _ h => h
  | alloc o k ih => exact fun Q E p s l h => ih _ Q E p _ l h
  | fresh k ih => exact fun Q E p s l h => ih _ Q E p _ l h
  | ask k ih => exact fun Q E p s l h => ih _ Q E p s l h
  | choose src m k ih => exact fun Q E p s l h => ⟨h.1, ih _ Q E p _ l h.2⟩
  | os q _ k ih => exact fun Q E p s l h => ih _ Q E p _ l h
  | call c hd _ _ k ih => exact fun Q E p s l ⟨r, s', hr, h⟩ => ⟨r, s', hr, ih r Q E p s' (Nat.le_trans l (gRuns hr)) h⟩
  | handled own k ih => exact fun Q E p s l h => ih _ Q E p s l h
  | genState g k ih => exact fun Q E p s l ⟨st, hs, h⟩ => ⟨st, hs, ih _ Q E p s l h⟩
  | newGen c k ih => exact fun Q E p s l h => ih _ Q E p _ (Nat.le_trans l (by simp)) h
  | resume g r _ k ih => exact fun Q E p s l ⟨res, s', hw, h⟩ => ⟨res, s', hw, ih res Q E p s' (Nat.le_trans l (gWakes hw)) h⟩
  | yield _ _ _ _ => exact fun Q E p s _ h => h
  | stack k ih => exact fun Q E p s l h => ih _ Q E p s l h
  | fork _ _ => exact fun Q E p s _ h => h
  | thread k ih => exact fun Q E p s l h => ih _ Q E p s l h
  | await _ _ _ _ _ => exact fun Q E p s _ h => h

/-- the generators that are there stay there -/
theorem thnG {α : Type} {M : Model} {A : Around} {t : Sem α} {Q Q' : α → Shared → Prop} {E E' : Value → Shared → Prop} {s : Shared} (h : wpAny M A t Q E s)
    (hQ : ∀ a s', s.gens.size ≤ s'.gens.size → Q a s' → Q' a s') (hE : ∀ e s', s.gens.size ≤ s'.gens.size → E e s' → E' e s') : wpAny M A t Q' E' s := by
  have h2 : wpAny M A t (fun a s' => s.gens.size ≤ s'.gens.size ∧ Q a s') (fun e s' => s.gens.size ≤ s'.gens.size ∧ E e s') s :=
    fun Γ p hΓ => gWp M Γ s.gens.size t _ _ p s (Nat.le_refl _) (h Γ p hΓ)
  exact wpAny_mono h2 (fun a s' z => hQ a s' z.1 z.2) fun e s' z => hE e s' z.1 z.2

/-! ### a code object's table, however grown -/
def tabφ (P : Addr) (h : Heap) : Prop := ∃ ps, h.get? P = some (PySem.W.tabObj ps) ∧ TriplesOk ps.toList
abbrev Tb (P : Addr) : HO := .ext (tabφ P)
theorem tabφ_stay {P : Addr} (h1 h2 : Heap) (x : tabφ P h1) (k : ∀ o, h1.get? P = some o → h2.get? P = some o) : tabφ P h2 :=
  let ⟨ps, e, t⟩ := x; ⟨ps, k _ e, t⟩
/-- the code object of the def that runs, its table at P -/
def CodeK (K : PySem.W.Frag) (cdv : Value) (P : Addr) : Prop := ∃ c, cdv = .ref c ∧ ∀ h, K.In h → PySem.W.CodeHd h c P

section
variable {X : Cx} {pins : List (Addr × Obj)} {σ : St} {H : Hp} {s : Shared}
theorem Inv.like {s' : Shared} (I : Inv X pins σ H s) (hh : s'.heap = s.heap) (ho : s'.os = s.os) (hg : AllBare s'.gens) : Inv X pins σ H s' := by
  obtain ⟨h', g', d', t', o'⟩ := s'
  obtain rfl : h' = s.heap := hh
  obtain rfl : o' = s.os := ho
  exact ⟨I.ok, I.os, hg, I.base, I.loc, I.cell, I.free, I.freeC, I.pin, I.hok, I.len⟩

theorem gen_code {M : Model} {A : Around} {E : Value → Shared → Prop} {P : Addr} {pos : Pos} {q : Str} {scope : Scope} {Q : Value → Shared → Prop} (I : Inv X pins σ H s) (hc : CodeK X.K X.env.code P) (hT : H P = some (Tb P))
    (hQ : ∀ code h' tk, Inv X pins σ H { s with heap := h', toks := tk } → (∀ b o, b ≠ P → s.heap.get? b = some o → h'.get? b = some o) → Q code { s with heap := h', toks := tk }) :
    wpAny M A (genexprCode X.env pos q scope) Q E s := by
  obtain ⟨c, hcd, hd⟩ := hc
  obtain ⟨⟨ps, hP, tr⟩, _, _⟩ := I.hok P _ hT
  have hd := hd _ I.kIn
  have hok := hd.code hP tr
  have htab := hd.tab hP
  cases hf : codeAmong pos ps.toList with
  | some cv => exact wpAny_genexprCode_hit hcd hok hf (hQ cv s.heap s.toks (I.tok _) fun _ _ _ e => e)
  | none =>
    refine wpAny_genexprCodeX hcd hok htab hf fun c' h' tk hx _ _ hok' _ htab' _ => hQ _ h' tk (I.un ⟨?_, ?_, ?_, ?_, ?_, ?_, ?_⟩ ?_) fun b o hb e => hx b o hb e
    · exact fun b o e n _ _ => hx b o (fun z => by rw [z, hT] at n; cases n) e
    · exact fun b o e n _ _ => ⟨o.slots, hx b o (fun z => by rw [z, hT] at n; cases n) e⟩
    · exact fun b o _ n _ => n
    · intro b o e _
      by_cases z : b = P
      · exact ⟨_, z ▸ htab'.2⟩
      · exact ⟨o, hx b o z e⟩
    · exact fun _ _ e => e
    · exact fun _ _ _ e => e
    · exact fun b ps e => ⟨#[], by rw [e]; simp⟩
    · intro b u e
      by_cases z : b = P
      · subst z
        rw [hT] at e
        cases e
        have tr' : TriplesOk (ps ++ #[rawInt pos.line, rawInt pos.col, Value.ref c']).toList := by
          obtain ⟨_, _, _, _, _, _, _, _, _, op, _, _, _, _, _, _, _, e1, e2, e3, _⟩ := hok'
          exact e3
        exact ⟨⟨_, htab'.2, tr'⟩, ⟨_, htab'.2⟩, tabφ_stay⟩
      · refine (I.hok b u e).stay (fun a o ha e' => hx a o ?_ e') (fun _ e => e) fun _ _ e => e
        rintro rfl
        rcases ha with ha | ha
        · exact z ha.symm
        · rw [hT] at ha
          cases ha
end

/-! ### the free names of a block -/
def clOf (names : List (Str × NameKind)) (cells : List (Str × Addr)) (acc : List (Str × Addr)) : List (Str × Addr) := match names with
  | [] => acc
  | (n, k) :: r => if k == .free then (match cells.lookup n with | some a => clOf r cells ((n, a) :: acc) | none => acc) else clOf r cells acc
theorem clOf_eq {env : Env} : ∀ (names : List (Str × NameKind)) (acc : List (Str × Addr)), (∀ y ∈ names, y.2 = .free → ∃ c, env.cells.lookup y.1 = some c) →
    (forIn names acc fun (x : Str × NameKind) r => if x.2 == .free then do let a ← cellOf env x.1; pure (ForInStep.yield ((x.1, a) :: r)) else pure (ForInStep.yield r) : Sem (List (Str × Addr))) = pure (clOf names env.cells acc)
  | [], acc, _ => rfl
  | (n, k) :: r, acc, h => by
    rw [List.forIn_cons]
    unfold clOf
    by_cases hk : (k == NameKind.free) = true
    · obtain ⟨c, hc⟩ := h (n, k) List.mem_cons_self (by simpa using hk)
      have hc' : env.cells.lookup n = some c := hc
      rw [if_pos hk, if_pos hk]
      unfold cellOf
      rw [hc']
      exact clOf_eq r _ fun y hy => h y (List.mem_cons_of_mem _ hy)
    · rw [if_neg hk, if_neg hk]
      exact clOf_eq r _ fun y hy => h y (List.mem_cons_of_mem _ hy)
theorem closure_eq {env : Env} {scope : Scope} (h : ∀ y ∈ scope.names, y.2 = .free → ∃ c, env.cells.lookup y.1 = some c) : closureFor scope env = pure (clOf scope.names env.cells []) := by
  unfold closureFor
  have := clOf_eq (env := env) scope.names [] h
  exact (bind_congr fun _ => rfl).trans ((congrArg (· >>= pure) this).trans rfl)
end L2

namespace L2
open PySem PySem.Spec PyProof.Rows

/-- a generator's block: its own frame above all that run -/
def cxGen (X : Cx) (scope : Scope) (cl : List (Str × Addr)) (C : Addr) (code : Value) (N : List Str) (A : Around) (s₀ : Shared) (H : Hp) (fp : List Addr) : Cx where
  prog := X.prog
  w := X.w
  K := X.K
  mg := X.mg
  base := X.base
  A := A
  N := N
  s₀ := s₀
  H₀ := H
  env := genEnv scope cl C code builtinsNs X.env
  outer := X.stack
  stack := genEnv scope cl C code builtinsNs X.env :: X.stack
  ex := fp
  fn := fun _ => false
  calm := true
  pn := []
  xe := fun _ _ => False

/-- the block's names that are free there: (its place in the block, its place outside) -/
def Frees (X : Cx) (sc : Scope) (N : List Str) : List (Nat × Nat) → Prop
  | [] => True
  | (i, j) :: r => (∃ x, N[i]? = some x ∧ X.N[j]? = some x ∧ sc.names.lookup x = some .free ∧ (X.env.kindOf x = some .cell ∨ X.env.kindOf x = some .free)) ∧ Frees X sc N r
theorem Frees.mem {X : Cx} {sc : Scope} {N : List Str} : ∀ {fs : List (Nat × Nat)}, Frees X sc N fs → ∀ {i j : Nat}, (i, j) ∈ fs →
    ∃ x, N[i]? = some x ∧ X.N[j]? = some x ∧ sc.names.lookup x = some .free ∧ (X.env.kindOf x = some .cell ∨ X.env.kindOf x = some .free)
  | [], _, _, _, h => by cases h
  | (a, b) :: r, F, i, j, h => by
    rcases List.mem_cons.mp h with e | h
    · cases e
      exact F.1
    · exact Frees.mem F.2 h
/-- what a block knows of its names when it begins -/
def tau (n : Nat) (fs : List (Nat × Nat)) (σ : St) : St := (List.range n).map fun i => match fs.lookup i with
  | some j => (match σ[j]? with | some v => v | none => none)
  | none => none
theorem tau_len (n : Nat) (fs : List (Nat × Nat)) (σ : St) : (tau n fs σ).length = n := by simp [tau]
theorem mem_lookupN : ∀ {fs : List (Nat × Nat)} {k j : Nat}, fs.lookup k = some j → (k, j) ∈ fs
  | [], _, _, h => by cases h
  | (a, b) :: r, k, j, h => by
    rw [List.lookup_cons] at h
    split at h
    · rename_i e
      cases h
      rw [eq_of_beq e]
      exact List.mem_cons_self
    · exact List.mem_cons_of_mem _ (mem_lookupN h)
theorem tau_get {n : Nat} {fs : List (Nat × Nat)} {σ : St} {i : Nat} {v : V} (h : (tau n fs σ)[i]? = some (some v)) : ∃ j, (i, j) ∈ fs ∧ σ[j]? = some (some v) := by
  unfold tau at h
  rw [List.getElem?_map] at h
  cases e : (List.range n)[i]? with
  | none => rw [e] at h; cases h
  | some k =>
    rw [e] at h
    have ek : k = i := by
      obtain ⟨h1, h2⟩ := List.getElem?_eq_some_iff.mp e
      simpa using h2.symm
    subst ek
    have h := Option.some.inj h
    dsimp only at h
    cases e1 : fs.lookup k with
    | none => rw [e1] at h; cases h
    | some j =>
      rw [e1] at h
      dsimp only at h
      cases e2 : σ[j]? with
      | none => rw [e2] at h; cases h
      | some w =>
        rw [e2] at h
        have h : w = some v := h
        subst h
        exact ⟨j, mem_lookupN e1, e2⟩
theorem clOf_back {cells : List (Str × Addr)} {y : Str} {c : Addr} : ∀ {names : List (Str × NameKind)} {acc : List (Str × Addr)}, (acc.lookup y = some c → cells.lookup y = some c) → (clOf names cells acc).lookup y = some c → cells.lookup y = some c
  | [], _, h, e => h e
  | (n, k) :: r, acc, h, e => by
    unfold clOf at e
    split at e
    · split at e
      · rename_i a ha
        refine clOf_back (names := r) (fun q => ?_) e
        rw [List.lookup_cons] at q
        split at q
        · rename_i hy
          cases q
          rw [eq_of_beq hy]
          exact ha
        · exact h q
      · exact h e
    · exact clOf_back (names := r) h e
theorem clOf_keeps {cells : List (Str × Addr)} {y : Str} : ∀ {names : List (Str × NameKind)} {acc : List (Str × Addr)}, (acc.lookup y).isSome = true → ((clOf names cells acc).lookup y).isSome = true
  | [], _, h => h
  | (n, k) :: r, acc, h => by
    unfold clOf
    split
    · split
      · refine clOf_keeps (names := r) ?_
        rw [List.lookup_cons]
        split
        · rfl
        · exact h
      · exact h
    · exact clOf_keeps (names := r) h
theorem clOf_has {cells : List (Str × Addr)} {y : Str} : ∀ {names : List (Str × NameKind)} {acc : List (Str × Addr)}, (∀ z ∈ names, z.2 = .free → ∃ c, cells.lookup z.1 = some c) → (y, NameKind.free) ∈ names → ((clOf names cells acc).lookup y).isSome = true
  | [], _, _, m => by cases m
  | (n, k) :: r, acc, h, m => by
    unfold clOf
    rcases List.mem_cons.mp m with e | m
    · cases e
      obtain ⟨c, hc⟩ := h (y, .free) List.mem_cons_self rfl
      have hc : cells.lookup y = some c := hc
      rw [if_pos (by rfl), hc]
      refine clOf_keeps ?_
      rw [List.lookup_cons, beq_self_eq_true]
      rfl
    · split
      · split
        · exact clOf_has (fun z hz => h z (List.mem_cons_of_mem _ hz)) m
        · rename_i hk _ hn
          obtain ⟨c, hc⟩ := h (n, k) List.mem_cons_self (by simpa using hk)
          have hc : cells.lookup n = some c := hc
          rw [hn] at hc
          cases hc
      · exact clOf_has (fun z hz => h z (List.mem_cons_of_mem _ hz)) m

section
variable {X : Cx} {scope : Scope} {cl : List (Str × Addr)} {C : Addr} {code : Value} {N : List Str} {s₀ : Shared} {H : Hp} {fp : List Addr} {A0 : Around} {it : Addr} {tn : Nat → Heap → Prop} {J : It}
  {tg elt iter : Expr} {pos : Pos} {pins : List (Addr × Obj)} {τ : St} {n : Nat} {p : Nat → Bool} {G : Hp → Prop} {g : TG} {te : TE}
/-- where a generator has come to its end -/
def gEnd (Y : Cx) (pins : List (Addr × Obj)) (τ : St) (G : Hp → Prop) : Nat → Shared → Shared → Prop := fun m _ s => m = 0 ∧ ∃ H', G H' ∧ Inv Y pins τ H' s
/-- what it hands out, and how it goes on -/
def gProto (Y : Cx) (pins : List (Addr × Obj)) (τ : St) (G : Hp → Prop) (n : Nat) (p : Nat → Bool) : Protocol := fun m u v s kap =>
  (∃ H', G H' ∧ Inv Y pins τ H' s) ∧ v = .bool (p (n - 1 - m)) ∧ u.gens.size ≤ s.gens.size ∧ ∀ s2, s2.heap = s.heap → s2.os = s.os → AllBare s2.gens → kap (.send .none) s2
abbrev gCode (elt tg iter : Expr) (scope : Scope) (pos : Pos) (it : Addr) (cenv : Env) : Code := .compLoop (.GeneratorExp elt [⟨tg, iter, [], 0⟩] scope pos) 0 (.ref it) .none cenv
/-- what one turn of the block wants -/
def gTurn (J : It) (g : TG) (te : TE) (τ : St) (G : Hp → Prop) (n : Nat) (p : Nat → Bool) : Prop := ∀ H2, G H2 → J.stop n H2 ∧ ∀ i, i < n → J.go i H2 ∧
  ∀ x H3, J.yld i H2 x H3 → g x τ H3 fun τ4 H4 => (∀ (j : Nat) v, τ[j]? = some (some v) → τ4[j]? = some (some v)) ∧ te τ4 H4 fun v H5 => G H5 ∧ v = .bl (p i)

theorem seg_gen (T : Turn X.prog X.w X.K tg J fp it tn) (hco : scope.isCoroutine = false)
    (hg : PG (cxGen X scope cl C code N (A0.over (gCode elt tg iter scope pos it (genEnv scope cl C code builtinsNs X.env)) []) s₀ H fp) tg g)
    (he : PE (cxGen X scope cl C code N (A0.over (gCode elt tg iter scope pos it (genEnv scope cl C code builtinsNs X.env)) []) s₀ H fp) elt te)
    (hf : ∀ b ∈ fp, b ≠ C ∧ b ∉ frs X.stack ∧ (∀ x c, cl.lookup x = some c → c ≠ b) ∧ ∀ q ∈ pins, q.1 ≠ b) (ht : gTurn J g te τ G n p) :
    ∀ (k i : Nat) (u s : Shared) (H2 : Hp), n - i = k → i ≤ n → G H2 → (∀ b ∈ fp, H2 b = none) → Inv (cxGen X scope cl C code N (A0.over (gCode elt tg iter scope pos it (genEnv scope cl C code builtinsNs X.env)) []) s₀ H fp) pins τ H2 s → tn i s.heap →
      u.gens.size ≤ s.gens.size →
      Seg (model X.prog X.w) A0 (fun m u r s1 => r = .ok .next ∧ gEnd (cxGen X scope cl C code N (A0.over (gCode elt tg iter scope pos it (genEnv scope cl C code builtinsNs X.env)) []) s₀ H fp) pins τ G m u s1)
        (gProto (cxGen X scope cl C code N (A0.over (gCode elt tg iter scope pos it (genEnv scope cl C code builtinsNs X.env)) []) s₀ H fp) pins τ G n p) (n - i) u
        (gCode elt tg iter scope pos it (genEnv scope cl C code builtinsNs X.env)) ((model X.prog X.w).den (gCode elt tg iter scope pos it (genEnv scope cl C code builtinsNs X.env))) [] s := by
  generalize hY : cxGen X scope cl C code N (A0.over (gCode elt tg iter scope pos it (genEnv scope cl C code builtinsNs X.env)) []) s₀ H fp = Y at hg he ⊢
  generalize hce : genEnv scope cl C code builtinsNs X.env = cenv at hY ⊢
  have eP : Y.prog = X.prog := by rw [← hY]; rfl
  have ew : Y.w = X.w := by rw [← hY]; rfl
  have eK : Y.K = X.K := by rw [← hY]; rfl
  have ec : Y.calm = true := by rw [← hY]; rfl
  have eA : Y.A = A0.over (gCode elt tg iter scope pos it cenv) [] := by rw [← hY]; rfl
  have ex : Y.xe = fun _ _ => False := by rw [← hY]; rfl
  have ee : Y.env = cenv := by rw [← hY, ← hce]; rfl
  have fpk' : ∀ {H2 : Hp}, (∀ b ∈ fp, H2 b = none) → ∀ b ∈ fp, FpOk Y pins H2 b := fun {H2} h b hb => by
    obtain ⟨a1, a2, a3, a4⟩ := hf b hb
    refine ⟨h b hb, ?_, ?_, ?_, ?_, ?_⟩
    · rw [ee, ← hce]; exact a1
    · rw [← hY]; exact a2
    · rw [← hY]; exact .inl hb
    · rw [ee, ← hce]; exact a3
    · rw [← hY]; exact a4
  clear hY
  intro k
  induction k with
  | zero =>
    intro i u s H2 hk hi hG fr I st hu
    have hin : i = n := by omega
    subst hin
    show Seg _ A0 _ _ _ u _ ((compTurn (.GeneratorExp elt [⟨tg, iter, [], 0⟩] scope pos) 0 (.ref it) .none cenv).onRaise (leaving cenv)) [] s
    rw [Sem.onRaise_eq_wrap, compTurn_gen]
    refine seg_bind_wrap (wpAny_standAt (seg_bind_wrap ?_))
    have h1 := T.done Y eP ew eK ec i pins s τ H2 (fun _ _ => False) I (fpk' fr) st (ht H2 hG).1
    rw [eA] at h1
    refine wpAny_mono h1 (fun r s1 h => ?_) fun _ _ f => f.elim
    obtain ⟨hr, I1⟩ := h
    subst hr
    exact seg_end (.ok .next) ⟨rfl, by omega, H2, hG, I1⟩
  | succ k ih =>
    intro i u s H2 hk hi hG fr I st hu
    have hlt : i < n := by omega
    obtain ⟨m, hm⟩ : ∃ m, n - i = m + 1 := ⟨n - i - 1, by omega⟩
    obtain ⟨go, turn⟩ := (ht H2 hG).2 i hlt
    show Seg _ A0 _ _ _ u _ ((compTurn (.GeneratorExp elt [⟨tg, iter, [], 0⟩] scope pos) 0 (.ref it) .none cenv).onRaise (leaving cenv)) [] s
    rw [Sem.onRaise_eq_wrap, compTurn_gen, hm]
    refine seg_bind_wrap (wpAny_standAt (seg_bind_wrap ?_))
    have h1 := T.item Y eP ew eK ec i pins s τ H2 (fun _ _ => False) I (fpk' fr) st go
    rw [eA] at h1
    refine thnG h1 (fun r s1 g1 h => ?_) fun _ _ _ f => f.elim
    obtain ⟨v, hr, h2⟩ := h
    subst hr
    refine seg_bind_wrap (thnG h2 (fun _ s2 g2 h => ?_) fun _ _ _ f => f.elim)
    obtain ⟨x, H3, I3, rx, y3, st3, fr3⟩ := h
    have I3' := I3.pinned (fpk' fr3) (T.obj _ _ st3)
    have h3 := hg _ s2 τ H3 x v _ I3' rx (turn x H3 y3)
    rw [eP, ew, eA, ee, ex] at h3
    refine seg_bind_wrap (thnG h3 (fun _ s3 g3 h => ?_) fun _ _ _ f => f.elim)
    obtain ⟨τ4, H4, I4, w4, q4⟩ := h
    refine seg_bind_wrap (wpAny_pure ?_)
    simp only [if_true]
    have hy : ∀ v, yieldOut cenv v = yieldValue v := fun v => by
      rw [← hce]
      simp only [yieldOut, genEnv, hco, Bool.false_eq_true, if_false]
    have h4 := he _ s3 τ4 H4 _ I4 q4
    rw [eP, ew, eA, ee, ex] at h4
    simp only [hy]
    rw [Sem.bind_eq_wrap', Sem.bind_eq_wrap', Sem.wrap_wrap, Sem.wrap_wrap]
    refine seg_wrap (thnG h4 (fun y s4 g4 h => ?_) fun _ _ _ f => f.elim)
    obtain ⟨y', H5, I5, ry, hG5, ey⟩ := h
    subst ey
    obtain rfl : y = Value.bool (p i) := ry
    have st5 : tn (i + 1) s4.heap := T.keep _ _ _ st3 fun b hb o e => (I5.pin (b, o) (List.mem_append_right _ (List.mem_append_right _ (mem_pinsAt hb e)))).1
    have fr5 : ∀ b ∈ fp, H5 b = none := fun b hb => by
      obtain ⟨o, e, _⟩ := T.obj _ _ st3 b hb
      exact (I5.pin (b, o) (List.mem_append_right _ (List.mem_append_right _ (mem_pinsAt hb e)))).2.1
    have I5' : Inv Y pins τ H5 s4 := I5.unpinned.weak (I.len.trans I5.len.symm) w4
    refine seg_at (seg_yield rfl rfl rfl ⟨⟨H5, hG5, I5'⟩, ?_, by omega, fun s5 e1 e2 e3 => ?_⟩)
    · rw [show n - 1 - m = i by omega]
    · have q := ih (i + 1) s5 s5 H5 (by omega) hlt hG5 fr5 (I5'.like e1 e2 e3) (by rw [e1]; exact st5) (Nat.le_refl _)
      rw [show n - (i + 1) = m by omega] at q
      exact seg_again rfl q
end
end L2

namespace L2
open PySem PySem.Spec PyProof.Rows

section
variable {prog : Program} {w : World} {A : Around} {E : Value → Shared → Prop} {Y : Cx} {pins : List (Addr × Obj)} {τ : St} {G : Hp → Prop} {n : Nat} {p : Nat → Bool} {a : Addr} {g : Nat}
/-- the generator g, its object at a, stands ahead of its i-th item -/
def gAt (prog : Program) (w : World) (A : Around) (Y : Cx) (pins : List (Addr × Obj)) (τ : St) (G : Hp → Prop) (n : Nat) (p : Nat → Bool) (g i : Nat) (s : Shared) : Prop :=
  (∃ H', G H' ∧ Inv Y pins τ H' s) ∧ ∃ gs, s.gens[g]? = some gs ∧ ∀ s2, s2.heap = s.heap → s2.os = s.os → AllBare s2.gens →
    gs.Goes (model prog w) A.in1 (fun m u r s1 => r = .ok .next ∧ gEnd Y pins τ G m u s1) (gProto Y pins τ G n p) (n - i) (.send .none) s2
theorem bare_set {gens : Array GenState} {g : Nat} {x : GenState} (h : AllBare gens) (hx : x.bare = true) : AllBare (gens.setIfInBounds g x) := fun y hy => by
  rcases Array.mem_or_eq_of_mem_setIfInBounds hy with z | z
  · exact h y z
  · rw [z]; exact hx
theorem get_set {s : Shared} {g : Nat} {x : GenState} (h : g < s.gens.size) : (s.setGen g x).gens[g]? = some x := by simp [Shared.setGen, h]
theorem lt_of_get {gens : Array GenState} {g : Nat} {x : GenState} (h : gens[g]? = some x) : g < gens.size := by
  rcases Nat.lt_or_ge g gens.size with q | q
  · exact q
  · rw [Array.getElem?_eq_none q] at h
    cases h
theorem next_gen {Q : Option Value → Shared → Prop} (hh : A.handled = none) (hr : A.depth < recursionLimit) (hpin : ∃ o, (a, o) ∈ pins ∧ o.cls = .type "generator" ∧ (∃ nm qn, o.data = .fields #[.int g 0, nm, qn]) ∧ o.slots = #[])
    {i : Nat} {s : Shared} (hi : i ≤ n) (h : gAt prog w A Y pins τ G n p g i s) (hQ : ∀ s', (i < n → gAt prog w A Y pins τ G n p g (i + 1) s' → Q (some (.bool (p i))) s') ∧ (i = n → (∃ H', G H' ∧ Inv Y pins τ H' s') → Q none s')) :
    wpAny (model prog w) A (pyNext (.ref a)) Q E s := by
  obtain ⟨⟨H0, hG0, I0⟩, gs, hgs, hgo⟩ := h
  obtain ⟨o, ho, hc, ⟨nm, qn, hd⟩, hs⟩ := hpin
  have hg : s.heap.IsGen a g := ⟨o, nm, qn, (I0.pin (a, o) (List.mem_append_right _ ho)).1, hc, hd, hs⟩
  have hlt := lt_of_get hgs
  refine wpAny_pyNext_genexpQ (P := gEnd Y pins τ G) (Y := gProto Y pins τ G n p) (n := n - i) hh I0.nolimit hr hg hgs (hgo _ rfl rfl (bare_set I0.bare rfl)) (fun v s1 gs' hb hv => ?_) (fun s1 hp h' hk => ?_)
  · obtain ⟨⟨H1, hG1, I1⟩, ev, hsz, hkap⟩ := hv
    have hsz : s.gens.size ≤ s1.gens.size := by
      have : (s.setGen g .running).gens.size = s.gens.size := by simp [Shared.setGen]
      rw [this] at hsz
      exact hsz
    have hin : i < n := by
      rcases Nat.lt_or_ge i n with q | q
      · exact q
      · have z : n - i = 0 := by omega
        rw [z] at hkap
        exact (hkap s1 rfl rfl I1.bare).elim
    obtain ⟨m, hm⟩ : ∃ m, n - i = m + 1 := ⟨n - i - 1, by omega⟩
    rw [show n - 1 - (n - i - 1) = i by omega] at ev
    subst ev
    rw [hm] at hkap
    have hb' : AllBare (s1.setGen g gs').gens := bare_set I1.bare hb
    refine (hQ _).1 hin ⟨⟨H1, hG1, I1.like rfl rfl hb'⟩, gs', get_set (Nat.lt_of_lt_of_le hlt hsz), fun s2 e1 e2 e3 => ?_⟩
    rw [show n - (i + 1) = m by omega]
    exact hkap s2 e1 e2 e3
  · obtain ⟨hn, H1, hG1, I1⟩ := hp
    have I2 : Inv Y pins τ H1 { s1 with heap := h', toks := s1.toks } := I1.kept hk
    exact (hQ _).2 (by omega) ⟨H1, hG1, I2.like rfl rfl (bare_set I1.bare rfl)⟩

theorem all_loop {R : Result → Shared → Prop} (hh : A.handled = none) (hr : A.in1.depth < recursionLimit) (hpin : ∃ o, (a, o) ∈ pins ∧ o.cls = .type "generator" ∧ (∃ nm qn, o.data = .fields #[.int g 0, nm, qn]) ∧ o.slots = #[]) :
    ∀ (k i : Nat) (s : Shared), n - i = k → i ≤ n → gAt prog w A.in1 Y pins τ G n p g i s → (∀ s', (∃ H', G H' ∧ Inv Y pins τ H' s') → R (.ok (.ret (.bool (((List.range n).drop i).all p)))) s') →
      codeAny (model prog w) A (.builtin "all.loop" ⟨[.ref a], []⟩) R s := by
  intro k
  induction k with
  | zero =>
    intro i s hk hi h hR
    have e : i = n := by omega
    subst e
    refine codeAny_builtin F.entry_all_loop ?_
    rw [Around.under_plainId F.plain_all_loop _]
    show wpAny _ A.in1 (pyNext (.ref a) >>= _) _ _ s
    refine wpAny_bind (next_gen (A := A.in1) hh hr hpin hi h fun s' => ⟨fun z => absurd z (Nat.lt_irrefl _), fun _ q => ?_⟩)
    refine wpAny_bind (wpAny_rule (wpAny_pure ?_))
    have z := hR s' q
    rw [List.drop_of_length_le (by simp)] at z
    exact z
  | succ k ih =>
    intro i s hk hi h hR
    have hlt : i < n := by omega
    have hd : (List.range n).drop i = i :: (List.range n).drop (i + 1) := range_drop hlt
    refine codeAny_builtin F.entry_all_loop ?_
    rw [Around.under_plainId F.plain_all_loop _]
    show wpAny _ A.in1 (pyNext (.ref a) >>= _) _ _ s
    refine wpAny_bind (next_gen (A := A.in1) hh hr hpin hi h fun s' => ⟨fun _ q => ?_, fun z => absurd z (by omega)⟩)
    refine wpAny_bind (wpAny_holding (wpAny_truthy_bool (wpAny_bind (wpAny_letGo ?_))))
    cases hb : p i with
    | true =>
      simp only [if_true]
      refine wpAny_pure ⟨plainId_quiet F.plain_all_loop _, ih (i + 1) s' (by omega) hlt q fun s2 z => ?_⟩
      have y := hR s2 z
      rw [hd, List.all_cons, hb, Bool.true_and] at y
      exact y
    | false =>
      simp only [Bool.false_eq_true, if_false]
      refine wpAny_bind (wpAny_rule (wpAny_pure ?_))
      have y := hR s' q.1
      rw [hd, List.all_cons, hb, Bool.false_and] at y
      exact y
theorem any_loop {R : Result → Shared → Prop} (hh : A.handled = none) (hr : A.in1.depth < recursionLimit) (hpin : ∃ o, (a, o) ∈ pins ∧ o.cls = .type "generator" ∧ (∃ nm qn, o.data = .fields #[.int g 0, nm, qn]) ∧ o.slots = #[]) :
    ∀ (k i : Nat) (s : Shared), n - i = k → i ≤ n → gAt prog w A.in1 Y pins τ G n p g i s → (∀ s', (∃ H', G H' ∧ Inv Y pins τ H' s') → R (.ok (.ret (.bool (((List.range n).drop i).any p)))) s') →
      codeAny (model prog w) A (.builtin "any.loop" ⟨[.ref a], []⟩) R s := by
  intro k
  induction k with
  | zero =>
    intro i s hk hi h hR
    have e : i = n := by omega
    subst e
    refine codeAny_builtin F.entry_any_loop ?_
    rw [Around.under_plainId F.plain_any_loop _]
    show wpAny _ A.in1 (pyNext (.ref a) >>= _) _ _ s
    refine wpAny_bind (next_gen (A := A.in1) hh hr hpin hi h fun s' => ⟨fun z => absurd z (Nat.lt_irrefl _), fun _ q => ?_⟩)
    refine wpAny_bind (wpAny_rule (wpAny_pure ?_))
    have z := hR s' q
    rw [List.drop_of_length_le (by simp)] at z
    exact z
  | succ k ih =>
    intro i s hk hi h hR
    have hlt : i < n := by omega
    have hd : (List.range n).drop i = i :: (List.range n).drop (i + 1) := range_drop hlt
    refine codeAny_builtin F.entry_any_loop ?_
    rw [Around.under_plainId F.plain_any_loop _]
    show wpAny _ A.in1 (pyNext (.ref a) >>= _) _ _ s
    refine wpAny_bind (next_gen (A := A.in1) hh hr hpin hi h fun s' => ⟨fun _ q => ?_, fun z => absurd z (by omega)⟩)
    refine wpAny_bind (wpAny_holding (wpAny_truthy_bool (wpAny_bind (wpAny_letGo ?_))))
    cases hb : p i with
    | false =>
      simp only [Bool.false_eq_true, if_false]
      refine wpAny_pure ⟨plainId_quiet F.plain_any_loop _, ih (i + 1) s' (by omega) hlt q fun s2 z => ?_⟩
      have y := hR s2 z
      rw [hd, List.any_cons, hb, Bool.false_or] at y
      exact y
    | true =>
      simp only [if_true]
      refine wpAny_bind (wpAny_rule (wpAny_pure ?_))
      have y := hR s' q.1
      rw [hd, List.any_cons, hb, Bool.true_or] at y
      exact y
end
end L2

namespace L2
open PySem PySem.Spec PyProof.Rows
/-- the module's name of the built-ins -/
def BltK (base : Heap) : Prop := ∀ (M : Model) (A : Around) (E : Value → Shared → Prop) (s : Shared) (Q : Addr → Shared → Prop), (∀ b o, base.get? b = some o → s.heap.get? b = some o) → Q builtinsNs s → wpAny M A (builtinsFor mainGlobals builtinsNs) Q E s
theorem bltK_of {base : Heap} {mg : Str → Option Value} {bm : Addr} {ob : Obj} (g : base.Ns mainGlobals mg) (e : mg "__builtins__" = some (.ref bm)) (ne : bm ≠ builtinsNs) (ho : base.get? bm = some ob) (hc : ob.cls = .type "module") (hd : ob.dict = some builtinsNs) (hp : ob.data = .plain) : BltK base :=
  fun _ _ _ _ _ k q => wpAny_builtinsFor (g.keeps k) e ne (k _ _ ho) hc hd hp q

/-- a generator's block as the text has it -/
structure GenSc (X : Cx) (scope : Scope) (N : List Str) (fs : List (Nat × Nat)) : Prop where
  co : scope.isCoroutine = false
  kind : scope.kind = .function
  zero : scope.names.lookup (".0" : Str) = some NameKind.local
  cell : (scope.names.all fun y => y.2 != .cell) = true
  free : (scope.names.all fun y => y.2 != .free || (X.env.kindOf y.1 == some .cell || X.env.kindOf y.1 == some .free)) = true
  fs : Frees X scope N fs

def tG (K : PySem.W.Frag) (fold : Nat → (Nat → Bool) → Bool) (P : Addr) (nN : Nat) (fs : List (Nat × Nat)) (wi : TI) (g : TG) (te : TE) : TE := fun σ H Q =>
  wi σ H fun J H1 => H1 P = some (Tb P) ∧ ∃ n p G, G H1 ∧ gTurn J g te (tau nN fs σ) G n p ∧ ∀ H2, G H2 → Q (.bl (fold n p)) H2

section
variable {X : Cx} {scope : Scope} {N : List Str} {fs : List (Nat × Nat)} {tg elt iter : Expr} {gpos cpos np : Pos} {k : Nat} {P : Addr} {wi : TI} {g : TG} {te : TE}
theorem room_gen {A : Around} {c : Code} (hr : Room (k + 1) A) (hw : c.weight ≤ 1) (hu : c.cUnits ≤ 3) : Room k (A.in1.in1.over c []) := by
  have h1 := hr.dp
  have h2 := hr.un
  refine ⟨hr.hd, ?_, ?_⟩
  · show A.depth + 0 + c.weight + 3 * k + 5 < _
    omega
  · show A.units + 1 + 1 + 0 + c.cUnits + 16 * k + 200 < _
    omega

theorem gen_rule {id : String} {fold : Nat → (Nat → Bool) → Bool} (S : GenSc X scope N fs) (hB : BltK X.base) (hc : CodeK X.K X.env.code P) (hr : Room (k + 1) X.A)
    (hi : PI X tg iter wi) (hg : ∀ A cl C code s₀ H fp, PG (cxGen X scope cl C code N A s₀ H fp) tg g) (he : ∀ A cl C code s₀ H fp, Room k A → PE (cxGen X scope cl C code N A s₀ H fp) elt te)
    (hs : ∀ x, genFold iter X.env x = pure x)
    (hcall : ∀ (Y : Cx) (pins : List (Addr × Obj)) (τ : St) (G : Hp → Prop) (n : Nat) (p : Nat → Bool) (a : Addr) (g : Nat) (s : Shared) (Q : Value → Shared → Prop),
      (∃ o, (a, o) ∈ pins ∧ o.cls = .type "generator" ∧ (∃ nm qn, o.data = .fields #[.int g 0, nm, qn]) ∧ o.slots = #[]) → gAt X.prog X.w X.A.in1 Y pins τ G n p g 0 s → (∀ s', (∃ H', G H' ∧ Inv Y pins τ H' s') → Q (.bool (fold n p)) s') →
      wpAny (model X.prog X.w) X.A (call (.builtin id) [.ref a]) Q X.xe s)
    {x : Str} (hgl : Gl X x) (hm : X.mg x = none) (hv : bootBuiltins x = some (.builtin id)) (hn : x ≠ "__name__") (hdb : (x == ("__debug__" : Str)) = false) :
    PE X (.Call (.Name x np) [.GeneratorExp elt [⟨tg, iter, [], 0⟩] scope gpos] [] cpos) (tG X.K fold P N.length fs wi g te) := by
  intro pins s σ H Q I h
  refine wpAny_Call_Name_kw (ld_blt I hgl hm hv ?_ hn hdb)
  refine PyProof.Rows.callWith_builtin1 (Calls.spliced_cons ?_) rfl rfl
  have hfree : ∀ y ∈ scope.names, y.2 = .free → ∃ c, X.env.cells.lookup y.1 = some c := fun y hy hf => by
    have q := List.all_eq_true.mp S.free y hy
    rw [hf] at q
    refine I.ok.has y.1 ?_
    simpa using q
  have hcell : ∀ y ∈ scope.names, y.2 ≠ .cell := fun y hy => by simpa using List.all_eq_true.mp S.cell y hy
  have hclo := closure_eq hfree
  generalize hcl : clOf scope.names X.env.cells [] = cl at hclo
  have back : ∀ {y c}, cl.lookup y = some c → X.env.cells.lookup y = some c := fun {y c} e => clOf_back (names := scope.names) (acc := []) (fun z => by cases z) (by rw [hcl]; exact e)
  have hasc : ∀ {y}, scope.names.lookup y = some .free → ∃ c, cl.lookup y = some c := fun {y} e => by
    have := clOf_has (cells := X.env.cells) (acc := []) hfree (PySem.mem_of_lookup e)
    rw [hcl] at this
    exact Option.isSome_iff_exists.mp this
  refine wpAny_GeneratorExp_make S.co hclo hcell S.zero S.kind hr.depth (thn (hi pins s σ H _ I h) fun v s1 h1 => thn h1 fun itv s2 h2 => ?_) hs
  obtain ⟨it, fp, tn, J, H1, e, I2, T, st2, f2, hT, n, p, G, hG, ht, hq⟩ := h2
  subst e
  refine ⟨I2.nolimit, gen_code I2 hc hT fun code h3 tk3 I3 k3 => ?_⟩
  have fpP : ∀ b ∈ fp, b ≠ P := fun b hb z => by
    have := (f2 b hb).1
    rw [z, hT] at this
    cases this
  have st3 : tn 0 h3 := T.keep _ _ _ st2 fun b hb o e => k3 b o (fpP b hb) e
  rw [I.ok.glob, I.ok.blt]
  refine hB _ _ _ _ _ I3.bk fun h4 hns hsb => ?_
  have k4 : ∀ b o, h3.get? b = some o → h4.get? b = some o := fun b o e => hsb.extBut b o (Nat.ne_of_lt (Heap.lt_size e)) (Heap.get?_push_of_some _ e)
  have k5 : ∀ (og : Obj) b o, h3.get? b = some o → (h4.push og).get? b = some o := fun og b o e => Heap.get?_push_of_some _ (k4 b o e)
  refine Calls.spliced_nil ?_
  generalize hog : ({ cls := .type "generator", data := .fields #[.int s2.gens.size 0, .str "<genexpr>" (tk3 + 1), .str (X.env.qual ++ "<genexpr>") (tk3 + 1 + 1)] } : Obj) = og
  have fpl : ∀ b ∈ fp, b < h3.objs.size := fun b hb => let ⟨_, e, _⟩ := T.obj _ _ st3 b hb; Heap.lt_size e
  have fps : ∀ b ∈ fp, b ∉ frs X.stack := fun b hb z => by
    rcases List.mem_cons.mp (I2.stkSub b z) with q | q
    · exact (f2 b hb).2.1 q
    · exact (f2 b hb).2.2.1 q
  have s45 : h3.objs.size < h4.objs.size := by rw [hsb.1, Heap.size_push]; exact Nat.lt_succ_self _
  have ga : (h4.push og).get? h4.objs.size = some og := by rw [← hog]; exact Heap.get?_push_size _ rfl
  have hf : ∀ b ∈ fp, b ≠ h3.objs.size ∧ b ∉ frs X.stack ∧ (∀ x c, cl.lookup x = some c → c ≠ b) ∧ ∀ q ∈ [(h4.objs.size, og)], q.1 ≠ b := fun b hb =>
    ⟨Nat.ne_of_lt (fpl b hb), fps b hb, fun x c e => (f2 b hb).2.2.2.2.1 x c (back e), fun q hq => by
      rw [List.mem_singleton.mp hq]
      exact Nat.ne_of_gt (Nat.lt_trans (fpl b hb) s45)⟩
  have fr1 : ∀ b ∈ fp, H1 b = none := fun b hb => (f2 b hb).1
  let cenv := genEnv scope cl h3.objs.size code builtinsNs X.env
  let Y : Cx := cxGen X scope cl h3.objs.size code N (X.A.in1.in1.over (gCode elt tg iter scope gpos it cenv) []) { heap := h3, gens := s2.gens, drawn := s2.drawn, toks := tk3, os := s2.os } H1 fp
  have hYok : Y.Ok := by
    refine ⟨I3.ok.mod, S.kind, I.ok.glob, rfl, Nat.le_refl _, fun x y c e1 e2 => I3.ok.inj x y c (back e1) (back e2), fun x hx => ?_, fun x c z => (by cases z), fun _ => hr.hd, ?_, .inr ⟨rfl, rfl⟩, fun b hb => ⟨(hf b hb).1, (hf b hb).2.2.1⟩, I3.bs, Nat.le_trans I3.ok.bsz I3.sz,
      fun b o e hb => ?_, fps, I3.stack, I3.stkFree⟩
    · have hx : scope.names.lookup x = some .cell ∨ scope.names.lookup x = some .free := hx
      rcases hx with z | z
      · exact absurd rfl (hcell _ (PySem.mem_of_lookup z))
      · exact hasc z
    · show pushEnvs (Code.envs (gCode elt tg iter scope gpos it cenv)) (pushEnvs [] X.A.frames) = _
      rw [I.ok.frames]
      rfl
    · rcases (f2 b hb).2.2.2.1 with z | z
      · exact I3.ok.noex b o e z
      · exact absurd (Nat.lt_of_lt_of_le (Heap.lt_size e) (Nat.le_trans I3.ok.bsz z)) (Nat.lt_irrefl _)
  have IY : ∀ (gs : GenState) (tk : Nat), gs.bare = true → Inv Y [(h4.objs.size, og)] (tau N.length fs σ) H1 { heap := h4.push og, gens := s2.gens.push gs, drawn := s2.drawn, toks := tk, os := s2.os } := fun gs tk hb => by
    refine ⟨hYok, rfl, ?_, Un.kept (k5 og), ⟨_, hns.push _, fun i x v e1 e2 e3 => ?_⟩, fun x c e => ?_, I3.hok.fresh (Nat.le_refl _), fun x c e => I3.freeC x c (back e), fun q hq => ?_, I3.hok.kept (k5 og), tau_len _ _ _⟩
    · intro y hy
      rcases Array.mem_push.mp hy with z | z
      · exact I3.bare y z
      · rw [z]; exact hb
    · obtain ⟨j, hj, hv⟩ := tau_get e2
      obtain ⟨x', q1, q2, q3, q4⟩ := S.fs.mem hj
      have e1 : N[i]? = some x := e1
      rw [e1] at q1
      cases q1
      obtain ⟨m, _, hl⟩ := I3.loc
      obtain ⟨u, ru, lk⟩ := hl j x v q2 hv (by rcases q4 with z | z; exact .inr (.inl z); exact .inr (.inr z))
      refine ⟨u, ru, .inr ⟨.inr q3, ?_⟩⟩
      rcases lk with ⟨z, _⟩ | ⟨_, c, e, hcc⟩
      · rcases q4 with y | y <;> (rw [y] at z; cases z)
      · obtain ⟨c', e'⟩ := hasc q3
        have z := back e'
        rw [e] at z
        cases z
        obtain ⟨o, ho, hd⟩ := hcc
        exact ⟨c, e', o, k5 og _ _ ho, hd⟩
    · obtain ⟨v, o, ho, hd⟩ := I3.cell x c (back e)
      exact ⟨v, o, k5 og _ _ ho, hd⟩
    · have hq : q ∈ [(h4.objs.size, og)] := hq
      rw [List.mem_singleton.mp hq]
      refine ⟨ga, I3.hok.fresh (Nat.le_of_lt s45), Nat.ne_of_gt s45, fun z => ?_, fun v z => ?_⟩
      · obtain ⟨_, o, ho, _⟩ := I3.stack.mem z
        exact absurd (Nat.lt_trans (Heap.lt_size ho) s45) (Nat.lt_irrefl _)
      · rw [← hog] at z
        have z' : Data.fields _ = Data.cell v := z
        cases z'
  refine hcall Y [(h4.objs.size, og)] (tau N.length fs σ) G n p _ s2.gens.size _ _ ⟨og, List.mem_singleton.mpr rfl, by rw [← hog], by rw [← hog]; exact ⟨_, _, rfl⟩, by rw [← hog]⟩
    ⟨⟨H1, hG, IY _ _ rfl⟩, _, Array.getElem?_push_size .., fun s6 e1 e2 e3 => ⟨rfl, ?_⟩⟩ fun s' ⟨H', hG', I'⟩ => ?_
  · have st6 : tn 0 s6.heap := by
      rw [e1]
      exact T.keep _ _ _ st3 fun b _ o e => k5 og b o e
    have loop := seg_gen (A0 := X.A.in1.in1) T S.co (hg _ cl _ code _ H1 fp) (he _ cl _ code { heap := h3, gens := s2.gens, drawn := s2.drawn, toks := tk3, os := s2.os } H1 fp (room_gen hr (Nat.le_of_eq rfl) (Nat.le_of_eq rfl))) hf ht n 0 s6 s6 H1 rfl (Nat.zero_le _) hG fr1
      ((IY .running 0 rfl).like e1 e2 e3) st6 (Nat.le_refl _)
    show Seg _ X.A.in1.in1 _ _ _ s6 _ ((compStart (.GeneratorExp elt [⟨tg, iter, [], 0⟩] scope gpos) 0 (.ref it) .none cenv).onRaise (leaving cenv)) [] s6
    rw [Sem.onRaise_eq_wrap]; unfold compStart
    show Seg _ X.A.in1.in1 _ _ _ s6 _ ((ask >>= _).wrap _ _ _ _) [] s6
    refine seg_bind_wrap (wpAny_askSetting ?_)
    split
    · exact seg_again rfl loop
    · refine seg_bind_wrap (wpAny_rule (seg_bind_wrap (wpAny_standAt (seg_bind_wrap ?_))))
      exact T.self _ 0 s6 _ _ st6 (seg_again rfl loop)
  · refine ⟨.bl (fold n p), H', I3.call' I'.os I'.base I'.hok I'.bare fun b hb => ?_, rfl, hq H' hG'⟩
    obtain ⟨_, z1, z2, z3, z4, z5⟩ := f2 b hb
    exact ⟨z3, z1, z4, z5⟩
end
end L2

namespace L2
open PySem PySem.Spec PyProof.Rows
section
variable {X : Cx} {scope : Scope} {N : List Str} {fs : List (Nat × Nat)} {tg elt iter : Expr} {gpos cpos np : Pos} {k : Nat} {P : Addr} {wi : TI} {g : TG} {te : TE}
def allN (n : Nat) (p : Nat → Bool) : Bool := (List.range n).all p
def anyN (n : Nat) (p : Nat → Bool) : Bool := (List.range n).any p
/-- all(elt for tg in iter) -/
theorem pe_allG (S : GenSc X scope N fs) (hB : BltK X.base) (hc : CodeK X.K X.env.code P) (hr : Room (k + 1) X.A) (hgl : Gl X "all") (hm : X.mg "all" = none)
    (hi : PI X tg iter wi) (hg : ∀ A cl C code s₀ H fp, PG (cxGen X scope cl C code N A s₀ H fp) tg g) (he : ∀ A cl C code s₀ H fp, Room k A → PE (cxGen X scope cl C code N A s₀ H fp) elt te)
    (hs : ∀ x, genFold iter X.env x = pure x := by intro _; rfl) :
    PE X (.Call (.Name "all" np) [.GeneratorExp elt [⟨tg, iter, [], 0⟩] scope gpos] [] cpos) (tG X.K allN P N.length fs wi g te) := by
  refine gen_rule (id := "all") S hB hc hr hi hg he hs (fun Y pins τ G n p a g s Q hpin h hQ => ?_) hgl hm PyProof.Rows.boot_all (by decide) (by decide)
  refine call_function_tree PySem.F.kind_all PySem.F.plain_all PySem.F.entry_all (PySem.F.args_all1 _) ?_
  unfold Builtin.«all»
  obtain ⟨o, ho, hc, ⟨nm, qn, hd⟩, hs⟩ := id hpin
  obtain ⟨⟨H0, _, I0⟩, _⟩ := id h
  refine wpAny_bind (m := oneArg "all" _) (wpAny_pure (wpAny_bind (wpAny_pyIter_gen (g := g) ⟨o, nm, qn, (I0.pin (a, o) (List.mem_append_right _ ho)).1, hc, hd, hs⟩ ?_)))
  refine wpAny_pure ⟨plainId_quiet PySem.F.plain_all_loop _, all_loop hr.hd hr.depth hpin n 0 s rfl (Nat.zero_le _) h fun s' z => ?_⟩
  exact hQ s' z
/-- any(elt for tg in iter) -/
theorem pe_anyG (S : GenSc X scope N fs) (hB : BltK X.base) (hc : CodeK X.K X.env.code P) (hr : Room (k + 1) X.A) (hgl : Gl X "any") (hm : X.mg "any" = none)
    (hi : PI X tg iter wi) (hg : ∀ A cl C code s₀ H fp, PG (cxGen X scope cl C code N A s₀ H fp) tg g) (he : ∀ A cl C code s₀ H fp, Room k A → PE (cxGen X scope cl C code N A s₀ H fp) elt te)
    (hs : ∀ x, genFold iter X.env x = pure x := by intro _; rfl) :
    PE X (.Call (.Name "any" np) [.GeneratorExp elt [⟨tg, iter, [], 0⟩] scope gpos] [] cpos) (tG X.K anyN P N.length fs wi g te) := by
  refine gen_rule (id := "any") S hB hc hr hi hg he hs (fun Y pins τ G n p a g s Q hpin h hQ => ?_) hgl hm PyProof.Rows.boot_any (by decide) (by decide)
  refine call_function_tree PySem.F.kind_any PySem.F.plain_any PySem.F.entry_any (PySem.F.args_any1 _) ?_
  unfold Builtin.«any»
  obtain ⟨o, ho, hc, ⟨nm, qn, hd⟩, hs⟩ := id hpin
  obtain ⟨⟨H0, _, I0⟩, _⟩ := id h
  refine wpAny_bind (m := oneArg "any" _) (wpAny_pure (wpAny_bind (wpAny_pyIter_gen (g := g) ⟨o, nm, qn, (I0.pin (a, o) (List.mem_append_right _ ho)).1, hc, hd, hs⟩ ?_)))
  refine wpAny_pure ⟨plainId_quiet PySem.F.plain_any_loop _, any_loop hr.hd hr.depth hpin n 0 s rfl (Nat.zero_le _) h fun s' z => ?_⟩
  exact hQ s' z

/-! ### what the turns want, where the abstract heap stays as it is -/
/-- over a list of items xs, the element's answer by q -/
theorem turn_l {K : PySem.W.Frag} {a : Addr} {xs : List V} {H : Hp} {τ : St} {q : V → Bool} (hl : SqL K H a xs) (hτ : τ[0]? = some none) (h : ∀ x ∈ xs, te (τ.set 0 (some x)) H fun v H5 => H5 = H ∧ v = .bl (q x)) :
    gTurn (Itl K a) (gName 0) te τ (· = H) xs.length fun i => match xs[i]? with | some x => q x | none => false := by
  rintro _ rfl
  refine ⟨⟨xs, hl, Nat.le_refl _⟩, fun i hi => ⟨⟨xs, xs[i], hl, List.getElem?_eq_getElem hi⟩, ?_⟩⟩
  rintro x _ ⟨rfl, hx⟩
  have e := hx xs hl
  refine ⟨fun j v hj => ?_, ?_⟩
  · by_cases z : j = 0
    · subst z; rw [hτ] at hj; cases hj
    · rw [List.getElem?_set_ne (Ne.symm z)]; exact hj
  · dsimp only; rw [e]
    exact h x (List.mem_of_getElem? e)
theorem turn_t {K : PySem.W.Frag} {a : Addr} {xs : List V} {H : Hp} {τ : St} {q : V → Bool} (hl : SqT K H a xs) (hτ : τ[0]? = some none) (h : ∀ x ∈ xs, te (τ.set 0 (some x)) H fun v H5 => H5 = H ∧ v = .bl (q x)) :
    gTurn (Itt K a) (gName 0) te τ (· = H) xs.length fun i => match xs[i]? with | some x => q x | none => false := by
  rintro _ rfl
  refine ⟨⟨xs, hl, Nat.le_refl _⟩, fun i hi => ⟨⟨xs, xs[i], hl, List.getElem?_eq_getElem hi⟩, ?_⟩⟩
  rintro x _ ⟨rfl, hx⟩
  have e := hx xs hl
  refine ⟨fun j v hj => ?_, ?_⟩
  · by_cases z : j = 0
    · subst z; rw [hτ] at hj; cases hj
    · rw [List.getElem?_set_ne (Ne.symm z)]; exact hj
  · dsimp only; rw [e]
    exact h x (List.mem_of_getElem? e)
theorem all_range {α : Type} (xs : List α) (q : α → Bool) : (List.range xs.length).all (fun i => match xs[i]? with | some x => q x | none => false) = xs.all q := by
  induction xs with
  | nil => rfl
  | cons x r ih =>
    rw [List.length_cons, List.range_succ_eq_map, List.all_cons, List.all_map, List.all_cons]
    exact congrArg (q x && ·) ih
theorem any_range {α : Type} (xs : List α) (q : α → Bool) : (List.range xs.length).any (fun i => match xs[i]? with | some x => q x | none => false) = xs.any q := by
  induction xs with
  | nil => rfl
  | cons x r ih =>
    rw [List.length_cons, List.range_succ_eq_map, List.any_cons, List.any_map, List.any_cons]
    exact congrArg (q x || ·) ih
end
end L2

/-! LIST COMPREHENSIONS of one clause. -/
namespace L2
open PySem PySem.Spec PyProof.Rows

/-- a comprehension's block: names of its own, the frames that run are those outside -/
def cxComp (X : Cx) (scope : Scope) (cl : List (Str × Addr)) (C : Addr) (N : List Str) (s₀ : Shared) (H : Hp) (fp : List Addr) : Cx where
  prog := X.prog
  w := X.w
  K := X.K
  mg := X.mg
  base := X.base
  A := X.A
  N := N
  s₀ := s₀
  H₀ := H
  env := compEnvC scope cl C X.env
  outer := X.stack
  stack := X.stack
  ex := fp
  fn := fun _ => false
  calm := true
  pn := []
  xe := fun _ _ => False

theorem map_lookup {f : Str × NameKind → Str × NameKind} (hf : ∀ y, (f y).1 = y.1) (x : Str) : ∀ names : List (Str × NameKind), (names.map f).lookup x = (names.lookup x).map fun k => (f (x, k)).2
  | [] => rfl
  | (n, k) :: r => by
    have e := hf (n, k)
    rw [List.map_cons]
    generalize hq : f (n, k) = q at e
    obtain ⟨n', k'⟩ := q
    have e : n' = n := e
    subst e
    rw [List.lookup_cons, List.lookup_cons]
    by_cases z : (x == n') = true
    · have y := eq_of_beq z
      subst y
      simp only [z, Option.map_some, hq]
    · have z : (x == n') = false := by simpa using z
      simp only [z]
      exact map_lookup hf x r
theorem relabel_look (scope : Scope) (env : Env) (x : Str) : (relabel scope env).names.lookup x = (scope.names.lookup x).map fun k => if (k == .free && env.scope.kind == .function && env.kindOf x == some .cell) then NameKind.cell else k := by
  unfold relabel
  refine (map_lookup (fun y => ?_) x scope.names).trans ?_
  · obtain ⟨n, k⟩ := y
    dsimp only
    split <;> rfl
  · cases scope.names.lookup x with
    | none => rfl
    | some k =>
      simp only [Option.map_some]
      split <;> rfl
theorem relabel_free {scope : Scope} {env : Env} {x : Str} (h : scope.names.lookup x = some .free) : (relabel scope env).names.lookup x = some .cell ∨ (relabel scope env).names.lookup x = some .free := by
  rw [relabel_look, h, Option.map_some]
  split
  · exact .inl rfl
  · exact .inr rfl
theorem relabel_back {scope : Scope} {env : Env} {x : Str} {κ : NameKind} (h : (relabel scope env).names.lookup x = some κ) : scope.names.lookup x = some κ ∨ scope.names.lookup x = some .free := by
  rw [relabel_look] at h
  cases e : scope.names.lookup x with
  | none => rw [e] at h; cases h
  | some k =>
    rw [e, Option.map_some] at h
    split at h
    · rename_i q
      simp only [Bool.and_eq_true, beq_iff_eq] at q
      right
      rw [q.1.1]
    · left
      exact h

structure CompSc (X : Cx) (scope : Scope) (N : List Str) (fs : List (Nat × Nat)) : Prop where
  kind : scope.kind = .function
  cell : (scope.names.all fun y => y.2 != .cell) = true
  free : (scope.names.all fun y => y.2 != .free || (X.env.kindOf y.1 == some .cell || X.env.kindOf y.1 == some .free)) = true
  own : (scope.names.all fun y => y.2 != .local || scope.names.lookup y.1 == some .local) = true
  fs : Frees X scope N fs

/-- the tests of a clause -/
def PTs (X : Cx) (ifs : List Expr) (t : TT) : Prop :=
  ∀ (pins : List (Addr × Obj)) (s : Shared) (σ : St) (H : Hp) (Q : Bool → Hp → Prop), Inv X pins σ H s → t σ H Q →
    wpAny (model X.prog X.w) X.A (forIn ifs true fun c r => if r = true then do let ok ← isTrue c X.env (eval c X.env); pure (ForInStep.yield ok) else pure (ForInStep.yield r)) (TP X pins σ Q) X.xe s
def tYes : TT := fun _ H Q => Q true H
theorem pts_nil {X : Cx} : PTs X [] tYes := fun _ _ _ H _ I h => wpAny_pure ⟨H, I, h⟩
theorem pts_one {X : Cx} {c : Expr} {t : TT} (h : PT X c t) : PTs X [c] t := fun pins s σ H Q I q => wpAny_tests_one (h pins s σ H Q I q)

/-- D: where the new list stands; W: what holds when i items were walked and ys were made -/
def tLC (nN : Nat) (fs : List (Nat × Nat)) (wi : TI) (g : TG) (tc : TT) (te : TE) : TE := fun σ H Q => wi σ H fun J H1 => ∀ D, H1 D = none → ∃ (n : Nat) (W : Nat → List V → Hp → Prop), n ≤ sizeLine ∧ W 0 [] (upd H1 D (.lst [])) ∧
  ∀ i ys H2, i ≤ n → W i ys H2 → H2 D = some (.lst ys) → (J.stop i H2 ∧ Q (.ref D) H2) ∨ (i < n ∧ J.go i H2 ∧ ∀ x H3, J.yld i H2 x H3 → g x (tau nN fs σ) H3 fun τ4 H4 =>
    (∀ (j : Nat) v, (tau nN fs σ)[j]? = some (some v) → τ4[j]? = some (some v)) ∧ tc τ4 H4 fun b H5 =>
      if b = true then te τ4 H5 fun v H6 => H6 D = some (.lst ys) ∧ W (i + 1) (ys ++ [v]) (upd H6 D (.lst (ys ++ [v]))) else H5 D = some (.lst ys) ∧ W (i + 1) ys H5)

section
variable {X : Cx} {scope : Scope} {N : List Str} {fs : List (Nat × Nat)} {tg elt iter : Expr} {ifs : List Expr} {pos cpos : Pos} {wi : TI} {g : TG} {tc : TT} {te : TE}
theorem comp_core {use : Option (Value → Sem Unit)} {R' : Value → Shared → Prop} (S : CompSc X scope N fs) (hcalm : X.calm = true)
    (hi : PI X tg iter wi) (hg : ∀ cl C s₀ H fp, PG (cxComp X scope cl C N s₀ H fp) tg g) (hc : ∀ cl C s₀ H fp, PTs (cxComp X scope cl C N s₀ H fp) ifs tc) (he : ∀ cl C s₀ H fp, PE (cxComp X scope cl C N s₀ H fp) elt te)
    (hs : ∀ x, foldedSetIterable iter X.env x = pure x) {pins : List (Addr × Obj)} {s : Shared} {σ : St} {H : Hp} {Q : VK} (I : Inv X pins σ H s) (h : tLC N.length fs wi g tc te σ H Q)
    (hfin : ∀ (D C : Addr) (H2 : Hp) (s' : Shared), Inv X pins σ H2 s' → Q (.ref D) H2 → (∃ m, s'.heap.Ns C m) → FpOk X pins H2 C → compPost (model X.prog X.w) X.A X.xe use R' (.ref D) C (.ok .next) s') :
    wpAny (model X.prog X.w) X.A (comprehension (.ListComp elt [⟨tg, iter, ifs, 0⟩] scope pos) scope X.env cpos (newList []) false (eval iter X.env) use) R' X.xe s := by
  have hfree : ∀ y ∈ scope.names, y.2 = .free → ∃ c, X.env.cells.lookup y.1 = some c := fun y hy hf => by
    have q := List.all_eq_true.mp S.free y hy
    rw [hf] at q
    refine I.ok.has y.1 ?_
    simpa using q
  have hcell : ∀ y ∈ scope.names, y.2 ≠ .cell := fun y hy => by simpa using List.all_eq_true.mp S.cell y hy
  have hnames : ∀ y ∈ scope.names, y.2 = .local → scope.names.lookup y.1 = some .local := fun y hy hl => by
    have q := List.all_eq_true.mp S.own y hy
    rw [hl] at q
    simpa using q
  have hclo := closure_eq hfree
  generalize hcl : clOf scope.names X.env.cells [] = cl at hclo
  have back : ∀ {y c}, cl.lookup y = some c → X.env.cells.lookup y = some c := fun {y c} e => clOf_back (names := scope.names) (acc := []) (fun z => by cases z) (by rw [hcl]; exact e)
  have hasc : ∀ {y}, scope.names.lookup y = some .free → ∃ c, cl.lookup y = some c := fun {y} e => by
    have := clOf_has (cells := X.env.cells) (acc := []) hfree (PySem.mem_of_lookup e)
    rw [hcl] at this
    exact Option.isSome_iff_exists.mp this
  refine wpAny_comprehension_free (use := use) rfl hs hclo S.kind hnames (thn (hi pins s σ H _ I h) fun v s1 h1 => thn h1 fun itv s2 h2 => ?_)
  obtain ⟨it, fp, tn, J, H1, e, I2, T, st2, f2, hq⟩ := h2
  subst e
  have hD : H1 s2.heap.objs.size = none := I2.fresh
  obtain ⟨n, W, hn, w0, turn⟩ := hq _ hD
  refine wpAny_newObj_type ?_
  have I3 : Inv X pins σ (upd H1 s2.heap.objs.size (.lst [])) { s2 with heap := s2.heap.push { cls := .type "list", data := .seq ([] : List Value).toArray }, toks := s2.toks } := I2.lnew .nil (Nat.zero_le _)
  have st3 : tn 0 (s2.heap.push { cls := .type "list", data := .seq ([] : List Value).toArray }) := T.keep _ _ _ st2 fun b hb o e => Heap.get?_push_of_some _ e
  have fpD : ∀ b ∈ fp, b ≠ s2.heap.objs.size := fun b hb => let ⟨_, e, _⟩ := T.obj _ _ st2 b hb; Nat.ne_of_lt (Heap.lt_size e)
  generalize hH3 : upd H1 s2.heap.objs.size (.lst []) = H3 at I3 w0
  have fr3 : ∀ b ∈ fp, H3 b = none := fun b hb => by rw [← hH3, upd_ne (fpD b hb)]; exact (f2 b hb).1
  have hD3 : H3 s2.heap.objs.size = some (.lst []) := by rw [← hH3]; exact upd_same
  clear hH3
  generalize hhp : s2.heap.push { cls := .type "list", data := .seq ([] : List Value).toArray } = h3 at I3 st3 ⊢
  have hc3 : ∀ (E : Value → Shared → Prop) (Q' : Env → Shared → Prop), (∀ h4, h4.Ns h3.objs.size (fun _ => none) → (∀ b o, h3.get? b = some o → h4.get? b = some o) → h3.objs.size < h4.objs.size → Q' (newEnv scope h3.objs.size X.env.globals cl X.env.qual none .none (some X.env) X.env.builtins) { s2 with heap := h4, toks := s2.toks }) →
      wpAny (model X.prog X.w) X.A (newFunctionEnv scope X.env.globals cl [] X.env.qual none .none (some X.env)) Q' E { s2 with heap := h3 } := fun E Q' k => by
    refine wpAny_newFunctionEnv hcell (by intro y hy; cases hy) (fun h4 a b => ?_) S.kind
    exact k h4 a (fun b' o e => b.extBut b' o (Nat.ne_of_lt (Heap.lt_size e)) (Heap.get?_push_of_some _ e)) (by rw [b.1, Heap.size_push]; exact Nat.lt_succ_self _)
  refine hc3 _ _ fun h4 hns k4 s34 => ?_
  have fpl : ∀ b ∈ fp, b < h3.objs.size := fun b hb => let ⟨_, e, _⟩ := T.obj _ _ st3 b hb; Heap.lt_size e
  have fps : ∀ b ∈ fp, b ∉ frs X.stack := fun b hb z => by
    rcases List.mem_cons.mp (I2.stkSub b z) with q | q
    · exact (f2 b hb).2.1 q
    · exact (f2 b hb).2.2.1 q
  have fst : ∀ {H' : Hp}, (∀ b ∈ fp, H' b = none) → ∀ b ∈ fp, FpOk (cxComp X scope cl h3.objs.size N { s2 with heap := h3, toks := s2.toks } H3 fp) [] H' b := fun hn b hb =>
    ⟨hn b hb, Nat.ne_of_lt (fpl b hb), fps b hb, .inl hb, fun x c e => (f2 b hb).2.2.2.2.1 x c (back e), fun q hq => by cases hq⟩
  have hYok : (cxComp X scope cl h3.objs.size N { s2 with heap := h3, toks := s2.toks } H3 fp).Ok := by
    refine ⟨I3.ok.mod, S.kind, I.ok.glob, I.ok.blt, Nat.le_refl _, fun x y c e1 e2 => I3.ok.inj x y c (back e1) (back e2), fun x hx => ?_, fun x c z => (by cases z), fun _ => I.ok.hd hcalm, I.ok.frames, .inl rfl,
      fun b hb => ⟨Nat.ne_of_lt (fpl b hb), fun x c e => (f2 b hb).2.2.2.2.1 x c (back e)⟩, I3.bs, Nat.le_trans I3.ok.bsz I3.sz, fun b o e hb => ?_, fps, I3.stack, I3.stkFree⟩
    · have hx : (relabel scope X.env).names.lookup x = some .cell ∨ (relabel scope X.env).names.lookup x = some .free := hx
      have hx2 : scope.names.lookup x = some .cell ∨ scope.names.lookup x = some .free := by
        rcases hx with z | z
        · exact relabel_back z
        · exact (relabel_back z).elim .inr .inr
      rcases hx2 with z | z
      · exact absurd rfl (hcell _ (PySem.mem_of_lookup z))
      · exact hasc z
    · rcases (f2 b hb).2.2.2.1 with z | z
      · exact I3.ok.noex b o e z
      · exact absurd (Nat.lt_of_lt_of_le (Heap.lt_size e) (Nat.le_trans I3.ok.bsz z)) (Nat.lt_irrefl _)
  have IY : Inv (cxComp X scope cl h3.objs.size N { s2 with heap := h3, toks := s2.toks } H3 fp) [] (tau N.length fs σ) H3 { s2 with heap := h4, toks := s2.toks } := by
    refine ⟨hYok, rfl, I3.bare, Un.kept k4, ⟨_, hns, fun i x v e1 e2 e3 => ?_⟩, fun x c e => ?_, I3.hok.fresh (Nat.le_refl _), fun x c e => I3.freeC x c (back e), fun q hq => (by cases hq), I3.hok.kept k4, tau_len _ _ _⟩
    · obtain ⟨j, hj, hv⟩ := tau_get e2
      obtain ⟨x', q1, q2, q3, q4⟩ := S.fs.mem hj
      have e1 : N[i]? = some x := e1
      rw [e1] at q1
      cases q1
      obtain ⟨m, _, hl⟩ := I3.loc
      obtain ⟨u, ru, lk⟩ := hl j x v q2 hv (by rcases q4 with z | z; exact .inr (.inl z); exact .inr (.inr z))
      refine ⟨u, ru, .inr ⟨relabel_free q3, ?_⟩⟩
      rcases lk with ⟨z, _⟩ | ⟨_, c, e, hcc⟩
      · rcases q4 with y | y <;> (rw [y] at z; cases z)
      · obtain ⟨c', e'⟩ := hasc q3
        have z := back e'
        rw [e] at z
        cases z
        obtain ⟨o, ho, hd⟩ := hcc
        exact ⟨c, e', o, k4 _ _ ho, hd⟩
    · obtain ⟨v, o, ho, hd⟩ := I3.cell x c (back e)
      exact ⟨v, o, k4 _ _ ho, hd⟩
  have hg := hg cl h3.objs.size { s2 with heap := h3, toks := s2.toks } H3 fp
  have hc := hc cl h3.objs.size { s2 with heap := h3, toks := s2.toks } H3 fp
  have he := he cl h3.objs.size { s2 with heap := h3, toks := s2.toks } H3 fp
  generalize hYd : cxComp X scope cl h3.objs.size N { s2 with heap := h3, toks := s2.toks } H3 fp = Y at hg hc he IY fst
  have eP : Y.prog = X.prog := by rw [← hYd]; rfl
  have ew : Y.w = X.w := by rw [← hYd]; rfl
  have eK : Y.K = X.K := by rw [← hYd]; rfl
  have ec : Y.calm = true := by rw [← hYd]; rfl
  have eA : Y.A = X.A := by rw [← hYd]; rfl
  have ex : Y.xe = fun _ _ => False := by rw [← hYd]; rfl
  have ee : Y.env = compEnvC scope cl h3.objs.size X.env := by rw [← hYd]; rfl
  have outX : ∀ {H' : Hp} {τ' : St} {s' : Shared}, Inv Y [] τ' H' s' → Inv X pins σ H' s' := fun {H' τ' s'} J => by
    have J' := J
    rw [← hYd] at J'
    refine I3.call' J'.os J'.base J'.hok J'.bare fun b hb => ?_
    obtain ⟨_, z1, z2, z3, z4, z5⟩ := f2 b hb
    exact ⟨z3, z1, z4, z5⟩
  have loop : codeAny (model X.prog X.w) X.A (.compLoop (.ListComp elt [⟨tg, iter, ifs, 0⟩] scope pos) 0 (.ref it) (.ref s2.heap.objs.size) (compEnvC scope cl h3.objs.size X.env))
      (compPost (model X.prog X.w) X.A X.xe use R' (.ref s2.heap.objs.size) h3.objs.size) { s2 with heap := h4, toks := s2.toks } := by
    refine codeAny_loop rfl (fun m s' => ∃ i ys H2, m = n - i ∧ i ≤ n ∧ ys.length ≤ i ∧ W i ys H2 ∧ H2 s2.heap.objs.size = some (.lst ys) ∧ (∀ b ∈ fp, H2 b = none) ∧ Inv Y [] (tau N.length fs σ) H2 s' ∧ tn i s'.heap) ?_ n
      ⟨0, [], H3, rfl, Nat.zero_le _, Nat.le_refl _, w0, hD3, fr3, IY, T.keep _ _ _ st3 fun b _ o e => k4 b o e⟩
    rintro m s5 ⟨i, ys, H2, rfl, hi, hy, w5, hD5, fr5, I5, st5⟩
    show wpAny _ X.A ((compTurn (.ListComp elt [⟨tg, iter, ifs, 0⟩] scope pos) 0 (.ref it) (.ref s2.heap.objs.size) (compEnvC scope cl h3.objs.size X.env)).onRaise (fun x => do noteFrame x (compEnvC scope cl h3.objs.size X.env); theTreesLotGoes x)) _ _ s5
    rw [compTurn_list]; refine wpAny_noted (wpAny_bind (wpAny_standAt (wpAny_bind ?_)))
    rcases turn i ys H2 hi w5 hD5 with ⟨stop, q⟩ | ⟨hlt, go, step⟩
    · have h6 := T.done Y eP ew eK ec i [] s5 _ H2 (fun _ _ => False) I5 (fst fr5) st5 stop
      rw [eA] at h6
      refine wpAny_mono h6 (fun r s6 z => ?_) fun _ _ f => f.elim
      obtain ⟨hr, I6⟩ := z
      subst hr
      refine wpAny_pure (hfin _ _ H2 s6 (outX I6) q ?_ ?_)
      · obtain ⟨m, hm, _⟩ := I6.loc
        rw [ee] at hm
        exact ⟨m, hm⟩
      · have z := I6.free
        rw [ee] at z
        exact I3.fpOk (Nat.le_refl _) z
    · have h6 := T.item Y eP ew eK ec i [] s5 _ H2 (fun _ _ => False) I5 (fst fr5) st5 go
      rw [eA] at h6
      refine wpAny_mono h6 (fun r s6 z => ?_) fun _ _ f => f.elim
      obtain ⟨v, hr, h7⟩ := z
      subst hr
      refine wpAny_bind (wpAny_mono h7 (fun _ s7 z => ?_) fun _ _ f => f.elim)
      obtain ⟨x, H7, I7, rx, y7, st7, fr7⟩ := z
      have I7' := I7.pinned (fst fr7) (T.obj _ _ st7)
      have h8 := hg _ s7 _ H7 x v _ I7' rx (step x H7 y7)
      rw [eP, ew, eA, ee, ex] at h8
      refine wpAny_bind (wpAny_mono h8 (fun _ s8 z => ?_) fun _ _ f => f.elim)
      obtain ⟨τ8, H8, I8, w8, q8⟩ := z
      have h9 := hc _ s8 τ8 H8 _ I8 q8
      rw [eP, ew, eA, ee, ex] at h9
      refine wpAny_bind (wpAny_mono h9 (fun ok s9 z => ?_) fun _ _ f => f.elim)
      obtain ⟨H9, I9, q9⟩ := z
      have stay : ∀ {H' : Hp} {s' : Shared}, Inv Y ([] ++ pinsAt fp s7.heap) τ8 H' s' → tn (i + 1) s'.heap ∧ (∀ b ∈ fp, H' b = none) ∧ Inv Y [] (tau N.length fs σ) H' s' := fun {H' s'} J => by
        refine ⟨T.keep _ _ _ st7 fun b hb o e => (J.pin (b, o) (List.mem_append_right _ (List.mem_append_right _ (mem_pinsAt hb e)))).1, fun b hb => ?_, J.unpinned.weak (I5.len.trans J.len.symm) w8⟩
        obtain ⟨o, e, _⟩ := T.obj _ _ st7 b hb
        exact (J.pin (b, o) (List.mem_append_right _ (List.mem_append_right _ (mem_pinsAt hb e)))).2.1
      cases ok with
      | false =>
        obtain ⟨hD9, w9⟩ := (if_neg Bool.false_ne_true ▸ q9 : _)
        obtain ⟨z1, z2, z3⟩ := stay I9
        exact wpAny_pure ⟨rfl, n - (i + 1), by omega, i + 1, ys, H9, rfl, hlt, by omega, w9, hD9, z2, z3, z1⟩
      | true =>
        have q9 := (if_pos rfl ▸ q9 : _)
        have h10 := he _ s9 τ8 H9 _ I9 q9
        rw [eP, ew, eA, ee, ex] at h10
        refine wpAny_bind (wpAny_bind (wpAny_mono h10 (fun y s10 z => ?_) fun _ _ f => f.elim))
        obtain ⟨y', H10, I10, ry, hD10, w10⟩ := z
        have h11 := mt_append (X := Y) _ s10 τ8 H10 (.ref s2.heap.objs.size) [y'] _ [y] (fun _ H' => H' = upd H10 s2.heap.objs.size (.lst (ys ++ [y']))) I10 rfl (.cons ry .nil) ⟨_, ys, y', rfl, rfl, hD10, by omega, rfl⟩
        rw [eP, ew, eA, ex] at h11
        refine wpAny_bind (wpAny_mono h11 (fun _ s11 z => ?_) fun _ _ f => f.elim)
        obtain ⟨_, H11, I11, _, e11⟩ := z
        subst e11
        obtain ⟨z1, z2, z3⟩ := stay I11
        exact wpAny_pure (wpAny_pure ⟨rfl, n - (i + 1), by omega, i + 1, ys ++ [y'], _, rfl, hlt, by rw [List.length_append, List.length_singleton]; omega, w10, upd_same, z2, z3, z1⟩)
  exact codeAny_compStart_list loop (T.self _ 0 _ _ _ (T.keep _ _ _ st3 fun b _ o e => k4 b o e) loop)
end
end L2

namespace L2
open PySem PySem.Spec PyProof.Rows
section
variable {X : Cx} {scope : Scope} {N : List Str} {fs : List (Nat × Nat)} {tg elt iter : Expr} {ifs : List Expr} {pos cpos px : Pos} {wi : TI} {g : TG} {tc : TT} {te : TE}
theorem Inv.off {pins : List (Addr × Obj)} {σ : St} {H : Hp} {s : Shared} {C : Addr} {h' : Heap} (I : Inv X pins σ H s) (f : FpOk X pins H C) (hs : Heap.SameBut C s.heap h') : Inv X pins σ H { s with heap := h' } := by
  obtain ⟨f0, f1, f2, f3, f4, f5⟩ := f
  exact I.turned (t' := s.toks) (fun b o hb e => (hs.2 b hb).trans e) f0 f1 f3 f4 f5
/-- [elt for tg in iter if ..] -/
theorem pe_lc (S : CompSc X scope N fs) (hcalm : X.calm = true) (hi : PI X tg iter wi) (hg : ∀ cl C s₀ H fp, PG (cxComp X scope cl C N s₀ H fp) tg g) (hc : ∀ cl C s₀ H fp, PTs (cxComp X scope cl C N s₀ H fp) ifs tc)
    (he : ∀ cl C s₀ H fp, PE (cxComp X scope cl C N s₀ H fp) elt te) (hs : ∀ x, foldedSetIterable iter X.env x = pure x := by intro _; rfl) : PE X (.ListComp elt [⟨tg, iter, ifs, 0⟩] scope pos) (tLC N.length fs wi g tc te) := by
  intro pins s σ H Q I h
  rw [eval_ListComp]
  refine comp_core (use := none) S hcalm hi hg hc he hs I h fun D C H2 s' I' q ⟨m, hm⟩ f => ⟨m, hm, fun h' hs' => ?_⟩
  exact ⟨.ref D, H2, I'.off f hs', rfl, q⟩
/-- name = [elt for tg in iter if ..] -/
def sLC (i : Nat) (t : TE) : TS := fun D σ H => t σ H fun x H1 => D.nx (σ.set i (some x)) H1
theorem ps_setLC {i : Nat} {x : Str} (hN : X.N.Nodup) (hi' : X.N[i]? = some x) (hx : Loc X.env.scope x) (S : CompSc X scope N fs) (hcalm : X.calm = true) (hi : PI X tg iter wi) (hg : ∀ cl C s₀ H fp, PG (cxComp X scope cl C N s₀ H fp) tg g)
    (hc : ∀ cl C s₀ H fp, PTs (cxComp X scope cl C N s₀ H fp) ifs tc) (he : ∀ cl C s₀ H fp, PE (cxComp X scope cl C N s₀ H fp) elt te) (hs : ∀ x, foldedSetIterable iter X.env x = pure x := by intro _; rfl)
    (hsw : swapsWith (.ListComp elt [⟨tg, iter, ifs, 0⟩] scope pos) (some (.Name x px)) cpos.line X.env = pure true := by rfl)
    (hf : X.fn x = true ∨ X.env.scope.names.lookup x = some .local := by first | exact .inl rfl | exact .inr rfl | assumption) :
    PS X (.Assign [.Name x px] (.ListComp elt [⟨tg, iter, ifs, 0⟩] scope pos) cpos) (sLC i (tLC N.length fs wi g tc te)) := by
  intro pins s σ H D I h
  rw [exec_Assign_Name_used _ _ _ _ hsw]
  refine wpAny_bind (wpAny_standAt (wpAny_bind ?_))
  show wpAny _ X.A (do let _ ← comprehension (.ListComp elt [⟨tg, iter, ifs, 0⟩] scope pos) scope X.env _ (newList []) false (eval iter X.env) (some (assign (.Name x px) X.env))) _ _ s
  refine wpAny_bind (thn (comp_core (use := some (assign (.Name x px) X.env)) (R' := fun _ s' => SP X pins D .next s') S hcalm hi hg hc he hs I h fun D' C H2 s' I' q ⟨m, hm⟩ f => ?_) fun _ s' z => wpAny_pure (wpAny_pure z))
  show wpAny _ X.A (assign (.Name x px) X.env (.ref D')) _ _ s'
  refine wpAny_assign_Name (store_ok2 I' hN hi' hx (show RelV (.ref D') (.ref D') from rfl) (fun s2 I2 ⟨a, sb, ha⟩ => ⟨m, ?_, fun h' hs' => ⟨_, H2, I2.off f hs', q⟩⟩) hf)
  refine hm.sameBut sb ?_
  obtain ⟨_, f1, _, _, f4, _⟩ := f
  rcases ha with z | z
  · rw [z]; exact f1
  · exact Ne.symm (f4 _ _ z)
end

/-! ### pure blocks: the abstract heap stays but for the new list -/
section
variable {K : PySem.W.Frag} {nN : Nat} {fs : List (Nat × Nat)} {g : TG} {tc : TT} {te : TE} {σ : St} {H : Hp} {Q : VK}
theorem sqL_upd {a D : Addr} {xs : List V} {o : HO} (h : SqL K H a xs) (hD : H D = none) : SqL K (upd H D o) a xs := by
  have ne : ∀ {u : HO}, H a = some u → a ≠ D := fun e => ne_of_none e hD
  rcases h with (h | ⟨o', h⟩) | h
  · exact .inl (.inl (by rw [upd_ne (ne h)]; exact h))
  · exact .inl (.inr ⟨o', by rw [upd_ne (ne h)]; exact h⟩)
  · exact .inr h
end
end L2

/-! EXCEPTIONS of classes of one's own, raised, passed on, caught by a name. -/
namespace L2
open PySem PySem.Spec PyProof.Rows

theorem ObjOk.there {P : Program} {w : World} {H : Hp} {h : Heap} {a : Addr} {o : HO} (x : ObjOk P w H h a o) : ∃ ob, h.get? a = some ob := by
  cases o with
  | lst xs => obtain ⟨_, _, _, _, e⟩ := x; exact ⟨_, e⟩
  | tup xs => obtain ⟨_, _, _, o, e, _⟩ := x; exact ⟨_, e⟩
  | dK kvs => obtain ⟨_, _, _, _, o, _, _, e, _⟩ := x; exact ⟨_, e⟩
  | dT kvs => obtain ⟨_, _, _, _, o, _, _, e, _⟩ := x; exact ⟨_, e⟩
  | set S n => obtain ⟨o, _, _, _, e, _⟩ := x; exact ⟨_, e⟩
  | ins C dx fs => obtain ⟨_, _, _, e, _⟩ := x; exact ⟨_, e⟩
  | own y => obtain ⟨_, e⟩ := x; exact ⟨_, e⟩
  | xd fs => obtain ⟨_, ⟨_, _, _, e, _⟩, _⟩ := x; exact ⟨_, e⟩
  | rng lo hi => obtain ⟨_, _, _, e⟩ := x; exact ⟨_, e⟩
  | frz ob u => obtain ⟨e, _⟩ := x; exact ⟨_, e⟩
  | tbl ps => exact ⟨_, x⟩
  | met f y => exact ⟨_, x⟩
  | ext φ => obtain ⟨_, ⟨o, e⟩, _⟩ := x; exact ⟨o, e⟩

/-- B holds all that the callers know (but the frames) and all that is tracked -/
structure Cov (B : Heap) (l : List Env) (H' : Hp) (h : Heap) : Prop where
  old : ∀ b o, h.get? b = some o → b ∉ frs l → ∃ o', B.get? b = some o'
  trk : ∀ b u, H' b = some u → ∃ o', B.get? b = some o'
/-- an exception flies behind a call -/
def CXE (P : Program) (w : World) : CXT := fun outer H s E e s' => ∃ (a C t : Addr) (B : Heap) (H' : Hp), e = .ref a ∧ Heap.FlyingW B outer a (.ref C) (.ref t) s'.heap ∧ Cov B outer H' s.heap ∧
  Un (frs outer) [] H H' s.heap s'.heap ∧ HOk P w H' s'.heap ∧ H' a = none ∧ s.heap.get? a = none ∧ AllBare s'.gens ∧ s'.os = s.os ∧ E (.ref C) none H'

theorem un_slots {P : Program} {w : World} {l : List Env} {B h h1 h2 base : Heap} {H H' : Hp} (u : Un (frs l) [] H H' h h1) (hok : HOk P w H' h1) (c : Cov B l H' h) (s1 : B.StaysIn h1) (s2 : B.StaysIn h2) (f : h1.FunFrames base l) (sm : h1.UpToSlots h2) :
    Un (frs l) [] H H' h h2 ∧ HOk P w H' h2 := by
  have same : ∀ b o, h1.get? b = some o → (∃ o', B.get? b = some o') → h2.get? b = some o := fun b o e ⟨o', e'⟩ => by
    have z := s1 b o' e'
    rw [e] at z
    cases z
    exact s2 b o e'
  refine ⟨⟨fun b o e n hb hx => same b o (u.keep b o e n hb hx) (c.old b o e hb), fun b o e n hb hx => ?_, u.free, fun b o e hx => ?_, u.tups, u.frzs, u.tbls⟩, fun b o e => ?_⟩
  · obtain ⟨sl, e1⟩ := u.slot b o e n hb hx
    obtain ⟨_, o1, e2, nf⟩ := f.mem hb
    rw [e1] at e2
    cases e2
    obtain ⟨sl', e3⟩ := sm b _ e1 nf
    exact ⟨sl', e3⟩
  · obtain ⟨o1, e1⟩ := u.there b o e hx
    by_cases hb : b ∈ frs l
    · obtain ⟨_, o2, e2, nf⟩ := f.mem hb
      obtain ⟨sl', e3⟩ := sm b _ e2 nf
      exact ⟨_, e3⟩
    · exact ⟨o1, same b o1 e1 (c.old b o e hb)⟩
  · refine (hok b o e).stay (fun a v ha q => same a v q ?_) (fun _ q => q) fun _ _ q => q
    rcases ha with z | z
    · rw [z]; exact c.trk b o e
    · exact c.trk a _ z

section
variable {P : Program} {w : World} {K : PySem.W.Frag} {mg : Str → Option Value} {base : Heap} {N : List Str} {qual : Str} {scope : Scope} {f : Addr} {cd : Value} {A : Around} {outer : List Env} {s : Shared} {H : Hp} {E E' : XK}
/-- an exception of a callee leaves this def too -/
theorem passE (h : ∀ C d H', E' C d H' → E C d H') : Passes (CXE P w) (cxOf (CXE P w) P w K mg base N qual scope f cd A outer s H E) E' := by
  intro pins σ H1 s1 e s' I hx
  obtain ⟨a, C, t, B, H', rfl, fl, cov, un, hok, na, nb, bare, os, q⟩ := hx
  have hst : (cxOf (CXE P w) P w K mg base N qual scope f cd A outer s H E).stack = envOfC qual scope s.heap.objs.size f cd :: outer := rfl
  have ib : Un (frs outer) [] H H1 s.heap s1.heap := I.base
  have oldL : ∀ b o, s.heap.get? b = some o → b ∉ frs outer → b ∉ frs (envOfC qual scope s.heap.objs.size f cd :: outer) := fun b o e hb z => by
    rcases List.mem_cons.mp (I.stkSub b z) with y | y
    · have : b = s.heap.objs.size := y
      exact absurd (Heap.lt_size e) (by rw [this]; exact Nat.lt_irrefl _)
    · exact hb y
  show wpAny _ _ (leaving (envOfC qual scope s.heap.objs.size f cd) (.ref a)) _ _ s'
  refine wpAny_leaves_onW I.ok.frames rfl fl fun h2 fl2 sm => ?_
  obtain ⟨un2, hok2⟩ := un_slots un hok cov fl.1 fl2.1 fl.2.2.1 sm
  refine ⟨a, C, t, B, H', rfl, fl2, ⟨fun b o e hb => ?_, cov.trk⟩, ?_, hok2, na, ?_, bare, os.trans I.os, h _ _ _ q⟩
  · obtain ⟨o1, e1⟩ := ib.there b o e (by simp)
    exact cov.old b o1 e1 (oldL b o e hb)
  · refine ⟨fun b o e n hb hx => un2.keep b o (ib.keep b o e n hb hx) (ib.free b o e n hx) (oldL b o e hb) hx, fun b o e n hb hx => ?_, fun b o e n hx => ?_, fun b o e hx => ?_, fun b xs e => un2.tups b xs (ib.tups b xs e), fun b o u e => un2.frzs b o u (ib.frzs b o u e), fun b ps e => ?_⟩
    · obtain ⟨sl, e1⟩ := ib.slot b o e n hb hx
      have hb' : b ∈ frs (envOfC qual scope s.heap.objs.size f cd :: outer) := by
        unfold frs
        rw [List.filterMap_cons]
        exact List.mem_cons_of_mem _ hb
      obtain ⟨sl', e2⟩ := un2.slot b _ e1 (ib.free b o e n hx) hb' hx
      exact ⟨sl', e2⟩
    · obtain ⟨o1, e1⟩ := ib.there b o e hx
      exact un2.free b o1 e1 (ib.free b o e n hx) hx
    · obtain ⟨o1, e1⟩ := ib.there b o e hx
      exact un2.there b o1 e1 hx
    · obtain ⟨m1, e1⟩ := ib.tbls b ps e
      obtain ⟨m2, e2⟩ := un2.tbls b _ e1
      exact ⟨m1 ++ m2, by rw [e2, Array.append_assoc]⟩
  · cases z : s.heap.get? a with
    | none => rfl
    | some o =>
      obtain ⟨o1, e1⟩ := ib.there a o z (by simp)
      rw [nb] at e1
      cases e1
end

/-! ### a class of exceptions, as the written part has it -/
theorem exc_in {K : PySem.W.Frag} {h : Heap} {C : Addr} {bmB : List Value} {newId : String} (X : K.In h) (q : PySem.W.excIn K C bmB newId = true) :
    ∃ bm N nm q bs hdct sn sub ab col dd k0 k1 k2 k3 k5 mN, h.get? C = some (excClassObj nm q C N bs bm hdct sn sub ab col dd k0 k1 k2 k3 k5 newId) ∧ h.Ns N mN ∧ mN "__init__" = none ∧ OwnTail h bmB bm := by
  unfold PySem.W.excIn at q
  split at q
  · rename_i dd cd sl ho
    split at q
    · rename_i C' bm k0 k1 k2 k3 n k5 hm hs
      simp only [Bool.and_eq_true, beq_iff_eq, Bool.not_eq_true'] at q
      obtain ⟨⟨⟨⟨⟨rfl, rfl⟩, hdel⟩, ht⟩, hok⟩, hni⟩ := q
      obtain ⟨nm, bs, mro, ns, qn, hd, sn, sub, ab, col, del⟩ := cd
      dsimp only at hm hdel hok hni
      subst hm hdel
      obtain ⟨l⟩ := sl
      simp only at hs
      subst hs
      exact ⟨bm, ns, nm, qn, bs, hd, sn, sub, ab, col, dd, k0, k1, k2, k3, k5, _, X _ _ ho, .of_isNs (PySem.W.isNs_of_in X hok), PySem.W.nsMap_none_of_in X hok hni, PySem.W.tail_of_in X ht⟩
    · cases q
  · cases q
/-- raise C(text) -/
def sRaise (C : Addr) (E : XK) (ta : TA) : TS := fun _ σ H => ta σ H fun _ H1 => E (.ref C) none H1
section
variable {P : Program} {w : World} {K : PySem.W.Frag} {mg : Str → Option Value} {base : Heap} {N : List Str} {qual : Str} {scope : Scope} {f : Addr} {cd : Value} {A : Around} {outer : List Env} {s : Shared} {H : Hp} {E : XK}
theorem ps_raise {x : Str} {C : Addr} {np cpos pos : Pos} {e : Expr} {ta : TA} {B newId initId : String} {bmB : List Value} (FB : ExcBaseFacts B newId initId bmB) (hC : PySem.W.excIn K C bmB newId = true) (hm : mg x = some (.ref C)) (hh : A.handled = none)
    (hg : Gl (cxOf (CXE P w) P w K mg base N qual scope f cd A outer s H E) x) (ha : PA (cxOf (CXE P w) P w K mg base N qual scope f cd A outer s H E) [e] ta) (hd : (x == ("__debug__" : Str)) = false := by decide)
    (he : starEach [e] (envOfC qual scope s.heap.objs.size f cd) = (false, eval e (envOfC qual scope s.heap.objs.size f cd)) :: starEach [] (envOfC qual scope s.heap.objs.size f cd) := by rfl)
    (hl : ∀ σ H Q, ta σ H Q → ta σ H fun xs H1 => xs.length ≤ sizeLine ∧ Q xs H1) :
    PS (cxOf (CXE P w) P w K mg base N qual scope f cd A outer s H E) (.Raise (some (.Call (.Name x np) [e] [] cpos)) none pos) (sRaise C E ta) := by
  intro pins s1 σ H1 D I h
  obtain ⟨bm, Nn, nm, q, bs, hdct, sn, sub, ab, col, dd, k0, k1, k2, k3, k5, mN, hCo, hN, hni, T⟩ := exc_in I.ok.mod.kin hC
  have kb : ∀ {s2 : Shared} {H2 : Hp}, Inv (cxOf (CXE P w) P w K mg base N qual scope f cd A outer s H E) pins σ H2 s2 → ∀ b o, base.get? b = some o → s2.heap.get? b = some o := fun J => J.bk
  refine wpAny_Raise_call_subT (C := C) (nm := nm) (q := q) (N := Nn) (bs := bs) (bm := bm) (hdct := hdct) (sn := sn) (sub := sub) (ab := ab) (col := col) (dd := dd) (k0 := k0) (k1 := k1) (k2 := k2) (k3 := k3) (k5 := k5) FB (mN := mN) (T.hasType FB.hasBase)
    (show (A.deeper _).handled = none from hh) (by
      show (backTo cpos (starEach [e] (envOfC qual scope s.heap.objs.size f cd))).any (·.1) = false
      rw [he]; rfl) hni (ld_glob I hg hm ⟨rfl, ?_⟩ hd)
  have ha' := thn (ha cpos pins s1 σ H1 _ I (hl _ _ _ h)) fun us s2 (z : AP _ _ _ _ us s2) => z
  show wpAny _ _ (evalArgs (.ref C) true (backTo cpos (starEach [e] (envOfC qual scope s.heap.objs.size f cd))) []) _ _ s1
  have ha'' : wpAny (model P w) (A.deeper (envOfC qual scope s.heap.objs.size f cd)) (spliced (backTo cpos (starEach [e] (envOfC qual scope s.heap.objs.size f cd)))) _ _ s1 := ha'
  rw [he] at ha'' ⊢
  refine Calls.evalArgs_plain (thn ha'' fun us s2 z => ?_)
  obtain ⟨vs, H2, I2, rv, hz, hE⟩ := z
  refine ⟨rfl, by rw [← rv.length]; exact hz, kb I2 _ _ hCo, hN.keeps (kb I2), T.keeps (kb I2), fun h' a hx => ?_⟩
  show wpAny _ _ (leaving (envOfC qual scope s.heap.objs.size f cd) (.ref a)) _ _ _
  have hin : ∀ env ∈ (envOfC qual scope s.heap.objs.size f cd :: outer), ∀ b, env.frame = some b → b ∈ frs (envOfC qual scope s.heap.objs.size f cd :: outer) := fun env he b hb => List.mem_filterMap.mpr ⟨env, he, hb⟩
  have FF : s2.heap.FunFrames (PySem.W.hideAll s2.heap (frs (envOfC qual scope s.heap.objs.size f cd :: outer))) (envOfC qual scope s.heap.objs.size f cd :: outer) := PySem.W.funFrames_hide I2.stack hin
  refine wpAny_leaves_madeW I.ok.frames rfl (fun b o q => PySem.W.of_hideAll _ q) FF hx fun h2 t fl tup nt sm => ?_
  have ib : Un (frs outer) [] H H2 s.heap s2.heap := I2.base
  have oldL : ∀ b o, s.heap.get? b = some o → b ∉ frs outer → b ∉ frs (envOfC qual scope s.heap.objs.size f cd :: outer) := fun b o e hb z => by
    rcases List.mem_cons.mp (I2.stkSub b z) with y | y
    · have : b = s.heap.objs.size := y
      exact absurd (Heap.lt_size e) (by rw [this]; exact Nat.lt_irrefl _)
    · exact hb y
  have cov : Cov (PySem.W.hideAll s2.heap (frs (envOfC qual scope s.heap.objs.size f cd :: outer))) outer H2 s.heap := by
    refine ⟨fun b o e hb => ?_, fun b u e => ?_⟩
    · obtain ⟨o1, e1⟩ := ib.there b o e (by simp)
      exact ⟨o1, PySem.W.hideAll_get _ e1 (oldL b o e hb)⟩
    · obtain ⟨o1, e1⟩ := (I2.hok b u e).there
      refine ⟨o1, PySem.W.hideAll_get _ e1 fun z => ?_⟩
      rw [I2.stkFree b z] at e
      cases e
  have f2 : h'.FunFrames (PySem.W.hideAll s2.heap (frs (envOfC qual scope s.heap.objs.size f cd :: outer))) outer := by
    have z : h'.FunFrames (PySem.W.hideAll s2.heap (frs (envOfC qual scope s.heap.objs.size f cd :: outer))) (envOfC qual scope s.heap.objs.size f cd :: outer) := FF.of_keeps fun b o hb _ => ⟨o, hx.keeps b o hb, rfl⟩
    obtain ⟨_, _, z⟩ := z
    exact z
  have u1 : Un (frs outer) [] H H2 s.heap h' := ⟨fun b o e n hb hx' => hx.keeps _ _ (ib.keep b o e n hb hx'), fun b o e n hb hx' => let ⟨sl, z⟩ := ib.slot b o e n hb hx'; ⟨sl, hx.keeps _ _ z⟩, ib.free, fun b o e hx' => let ⟨o1, z⟩ := ib.there b o e hx'; ⟨o1, hx.keeps _ _ z⟩, ib.tups, ib.frzs, ib.tbls⟩
  have na2 : ∀ {b : Addr}, s2.heap.get? b = none → H2 b = none := fun {b} e => by
    cases z : H2 b with
    | none => rfl
    | some u =>
      obtain ⟨o1, e1⟩ := (I2.hok b u z).there
      rw [e] at e1
      cases e1
  obtain ⟨un2, hok2⟩ := un_slots u1 (I2.hok.kept hx.keeps) cov (fun b o z => hx.keeps _ _ (PySem.W.of_hideAll _ z)) fl.1 f2 sm
  refine ⟨a, C, t, _, H2, rfl, fl, cov, un2, hok2, na2 hx.new, ?_, I2.bare, I2.os, hE⟩
  cases z : s.heap.get? a with
  | none => rfl
  | some o =>
    obtain ⟨o1, e1⟩ := ib.there a o z (by simp)
    rw [hx.new] at e1
    cases e1
end
end L2

namespace L2
open PySem PySem.Spec PyProof.Rows
/-- an exception that was caught -/
def excφ (a C : Addr) (h : Heap) : Prop := ∃ o vs, h.get? a = some o ∧ o.cls = .ref C ∧ o.data = .fields vs
abbrev Ex (a C : Addr) : HO := .ext (excφ a C)
section
variable {X : Cx} {pins : List (Addr × Obj)} {σ : St} {H : Hp} {s : Shared}
/-- an object of this body's own time is tracked from now on -/
theorem Inv.track {a : Addr} {o : HO} (I : Inv X pins σ H s) (hn : H a = none) (h0 : X.s₀.heap.get? a = none) (hL : a ≠ X.env.locals) (hc : ∀ x c, X.env.cells.lookup x = some c → c ≠ a) (hp : ∀ p ∈ X.pn ++ pins, p.1 ≠ a)
    (new : ObjOk X.prog X.w (upd H a o) s.heap a o) : Inv X pins σ (upd H a o) s := by
  have ne : ∀ b u, H b = some u → b ≠ a := fun b u e z => by rw [z, hn] at e; cases e
  refine ⟨I.ok, I.os, I.bare, ⟨I.base.keep, I.base.slot, fun b ob e n hx => ?_, I.base.there, fun b xs e => ?_, fun b ob u e => ?_, fun b ps e => ?_⟩, I.loc, I.cell, ?_, fun x c e => ?_, fun p q => ?_, fun b u e => ?_, I.len⟩
  · rw [upd_ne (fun z => by rw [z, h0] at e; cases e)]
    exact I.base.free b ob e n hx
  · have z := I.base.tups b xs e
    rw [upd_ne (ne _ _ z)]
    exact z
  · have z := I.base.frzs b ob u e
    rw [upd_ne (ne _ _ z)]
    exact z
  · obtain ⟨m, z⟩ := I.base.tbls b ps e
    exact ⟨m, by rw [upd_ne (ne _ _ z)]; exact z⟩
  · rw [upd_ne (Ne.symm hL)]
    exact I.free
  · rw [upd_ne (hc x c e)]
    exact I.freeC x c e
  · obtain ⟨z1, z2, z3⟩ := I.pin p q
    exact ⟨z1, by rw [upd_ne (hp p q)]; exact z2, z3⟩
  · by_cases z : b = a
    · subst z
      rw [upd_same] at e
      cases e
      exact new
    · rw [upd_ne z] at e
      exact (I.hok b u e).stay (fun _ _ _ q => q) (fun c q => by rw [upd_ne (ne _ _ q)]; exact q) fun c xs q => by rw [upd_ne (ne _ _ q)]; exact q

end

section
variable {M : Model} {A : Around} {E : Value → Shared → Prop}
end

section
variable {X : Cx} {k : Nat} {f C : Addr} {fd : FuncData} {ps : List Str} {sp : Sp} {ds : List Value} {dvs : List V} {E : XK} {x : Str} {p pos : Pos} {e : Expr} {es : List Expr} {t : TA}
end

section
variable {X : Cx}
end
end L2

namespace L2
open PySem PySem.Spec PyProof.Rows PySem.W
theorem exc_class_get {prog : Program} {w : World} {A : Around} {h : Heap} {g : Array GenState} {d : Drawn} {t : Nat} {os : OsState} {a C Nn : Addr} {o : Obj} {bm bmB : List Value} {nm q : Str} {bs : List Value} {hdct : Bool} {sn : List Str} {sub : List Value} {ab : Bool} {col : Option Bool} {dd : Option Addr} {k0 k1 k2 k3 k5 : Option Value} {newId : String}
    {R : Result → Shared → Prop} (hCo : h.get? C = some (excClassObj nm q C Nn bs bm hdct sn sub ab col dd k0 k1 k2 k3 k5 newId)) (T : OwnTail h bmB bm) (hob : bmB.contains (.type "object") = true) (hx : h.get? a = some o) (hc : o.cls = .ref C) (hq : R (.ok (.ret (.ref C))) ⟨h, g, d, t, os⟩) :
    codeAny (model prog w) A (.call (.builtin "getset_descriptor.__get__") ⟨[.builtin "object.__class__", .ref a, .ref C], []⟩) R ⟨h, g, d, t, os⟩ := by
  have hT5 : (⟨h, g, d, t, os⟩ : Shared).TypeIs (.builtin "object.__class__") "getset_descriptor" := F.typeOf_object_class
  have ow : ".".intercalate ("object.__class__".cutAt '.').dropLast = "object" := by decide +kernel
  have hcB : (Value.ref C :: bm).contains (.type (".".intercalate ("object.__class__".cutAt '.').dropLast)) = true := by
    rw [ow, List.contains_cons, T.hasType hob]
    rfl
  refine codeAny_call_builtin F.slot_gs_get.plain F.entry_gs_get (F.slot_gs_get.check _ _ _ _ _ _ _ _ hT5 (F.args_gs_get _ _ _) ?_)
  repeat (any_goals (first | assumption | (with_reducible refine wpAny_loadPart_at hx ?_; rw [hc]) | (with_reducible refine wpAny_isSubtype_exc hCo ?_; rw [hcB]) | wp_step))
  refine ⟨Code.quiet_builtin _ (by decide +kernel), codeAny_builtin F.entry_object_class ?_⟩
  repeat (any_goals (first | assumption | (with_reducible refine wpAny_loadPart_at hx ?_; rw [hc]) | wp_step))
theorem exc_cls {prog : Program} {w : World} {A : Around} {E : Value → Shared → Prop} {s : Shared} {K : Frag} {a C : Addr} {o : Obj} {vs : Array Value} {bmB : List Value} {B newId : String} {Q : Option Value → Shared → Prop} (X : K.In s.heap) (FB : ExcAttrBase B bmB) (hC : excIn K C bmB newId = true)
    (hga : findIn K (.ref C) "__getattribute__" = some (some (.builtin "BaseException.__getattribute__"))) (hgt : findIn K (.ref C) "__getattr__" = some none)
    (ha : findIn K (.ref C) "__class__" = some (some (.builtin "object.__class__")))
    (hn : specialIn K (.builtin "object.__class__") "__get__" = some (some (.builtin "getset_descriptor.__get__"))) (htk : takesIn K (.builtin "object.__class__") = some true) (hm : mroIn K C (.type "object") = some true)
    (hob : bmB.contains (.type "object") = true) (hx : s.heap.get? a = some o) (hc : o.cls = .ref C) (hd : o.data = .fields vs) (k : Q (some (.ref C)) { s with toks := s.toks + 1 }) : wpAny (model prog w) A (getAttr? (.ref a) "__class__") Q E s := by
  obtain ⟨h, g, d, t, os⟩ := s
  obtain ⟨bm, Nn, nm, q, bs, hdct, sn, sub, ab, col, dd, k0, k1, k2, k3, k5, mN, hCo, hN, hni, T⟩ := exc_in X hC
  have L0 : Looks (model prog w) h (typeOf (.ref a)) (.ref C) := hc ▸ (Looks.ld hx).andThen .now
  have L1 := looks_findIn (M := model prog w) X hga
  have L2 := looks_findIn (M := model prog w) X hgt
  have L3 := looks_findIn (M := model prog w) X ha
  have f3 := FB.ga.bind (.ref a)
  unfold getAttr? getAttrBy? getAttrBy
  refine wpAny_bind (wpAny_mkText (wpAny_bind (wpAny_attempt (wpAny_holding (wpAny_bind (L0.at (wpAny_bind (L1.at ?_))))))))
  have hx2 : (Value.builtin "BaseException.__getattribute__" == Value.builtin "object.__getattribute__") = false := by decide +kernel
  have hx1 : (onTheHeap (Value.ref C) && Value.builtin "BaseException.__getattribute__" == Value.builtin "object.__getattribute__") = false := by rw [hx2]; rfl
  repeat (any_goals (first | assumption | with_reducible refine wpAny_bind (L2.at ?_) | wp_step))
  refine codeAny_call_builtin FB.ga.plain F.entry_bexc_ga ?_
  have hob : bmB.contains (.type "object") = true := hob
  have hcB : (Value.ref C :: bm).contains (.type "BaseException") = true := by rw [List.contains_cons, T.hasType FB.hasBase]; rfl
  have hkd : builtinKind "BaseException.__getattribute__" = some .slot := by decide +kernel
  have hsp : splitId "BaseException.__getattribute__" = some ("BaseException", "__getattribute__") := by decide +kernel
  have hag := F.args_bexc_ga (.ref a) (.str "__class__" t)
  simp only [checkBuiltinCall, hkd, hsp]
  refine wpAny_bind ?_
  unfold isInstance
  repeat (first | (with_reducible refine wpAny_loadPart_at hx ?_; rw [hc]) | (with_reducible refine wpAny_isSubtype_exc hCo ?_; rw [hcB]) | wp_step)
  have f5 := F.typeOf_object_class
  have f6 := F.slot_gs_get.lookup
  have f7 := F.slot_gs_set.lookup
  repeat (any_goals (first | assumption | (with_reducible refine wpAny_loadPart_at hx ?_; rw [hc]) | with_reducible refine L3.at ?_ | wp_step))
  refine exc_class_get hCo T hob hx hc (wpAny_pure ?_)
  exact handed_on rfl (wpAny_pure k)
end L2

/-! MORE OPERATIONS by values. -/
namespace L2
open PySem PySem.Spec PyProof.Rows
section
variable {X : Cx}
theorem op_le_str : OpR X (compareOp .LtE) (fun x y H Q => ∃ i j, x = .str i ∧ y = .str j ∧ Q (.bl (!decide (j.cps.toList < i.cps.toList))) H) := by
  intro pins s σ H x y v u Q I rx ry h
  obtain ⟨i, j, rfl, rfl, q⟩ := h
  obtain ⟨t, rfl⟩ := rx
  obtain ⟨t', rfl⟩ := ry
  exact PySem.P.le_str (fin_bl I q rfl)
/-- // by a positive divisor of at most some thousand bits -/
def CDivB (_ j : Int) : Prop := 0 < j ∧ j.natAbs.log2 < 9000
theorem op_fdivB : OpR X (binaryOp .FloorDiv) (rI CDivB fun i j => .int (i / j)) := opI fun i j _ _ _ _ _ hc q => by
  refine floordiv_int (by have := hc.1; omega) ?_ (.inl (PyProof.noPylong_of_log2 hc.2))
  rw [Int.fdiv_eq_ediv_of_nonneg _ (Int.le_of_lt hc.1)]
  exact q
/-! ### == and != of lists and of tuples with flat items -/
def eqL (xs ys : List V) : Bool := xs.length == ys.length && (xs.zip ys).all fun p => eqV p.1 p.2
theorem all_zip {f : Nat → Bool} : ∀ {xs ys : List V}, xs.length = ys.length → (∀ j x y, xs[j]? = some x → ys[j]? = some y → f j = eqV x y) → (List.range xs.length).all f = (xs.zip ys).all fun p => eqV p.1 p.2
  | [], [], _, _ => rfl
  | x :: xs, y :: ys, hl, h => by
    rw [List.length_cons, List.range_succ_eq_map, List.all_cons, List.all_map, List.zip_cons_cons, List.all_cons, h 0 x y rfl rfl]
    refine congrArg (eqV x y && ·) ?_
    exact all_zip (f := f ∘ Nat.succ) (by simpa using hl) fun j a b h1 h2 => h (j + 1) a b (by simpa using h1) (by simpa using h2)
def rEqL (K : PySem.W.Frag) (neg : Bool) : R2 := fun x y H Q => ∃ a b xs ys, x = .ref a ∧ y = .ref b ∧ ((SqL K H a xs ∧ SqL K H b ys) ∨ (SqT K H a xs ∧ SqT K H b ys)) ∧ xs.all flatV = true ∧ ys.all flatV = true ∧ Q (.bl (if neg then !eqL xs ys else eqL xs ys)) H
theorem items_eq {xs ys : List V} {us vs : List Value} {A : Around} {s : Shared} (rx : Vals xs us) (ry : Vals ys vs) (fx : xs.all flatV = true) (fy : ys.all flatV = true) (j : Nat) (h1 : j < us.toArray.size) (h2 : j < vs.toArray.size) :
    SeqAt.EqAt A s us.toArray[j] vs.toArray[j] (match xs[j]?, ys[j]? with | some x, some y => eqV x y | _, _ => false) := by
  have l1 := rx.length
  have l2 := ry.length
  have k1 : j < xs.length := by simpa [l1] using h1
  have k2 : j < ys.length := by simpa [l2] using h2
  obtain ⟨u, eu, ru⟩ := rx.get (List.getElem?_eq_getElem k1)
  obtain ⟨v, ev, rv⟩ := ry.get (List.getElem?_eq_getElem k2)
  have e1 : us.toArray[j] = u := by
    have : us[j]'(by simpa using h1) = u := by
      rw [List.getElem?_eq_getElem (by simpa using h1)] at eu
      exact Option.some.inj eu
    simpa using this
  have e2 : vs.toArray[j] = v := by
    have : vs[j]'(by simpa using h2) = v := by
      rw [List.getElem?_eq_getElem (by simpa using h2)] at ev
      exact Option.some.inj ev
    simpa using this
  rw [e1, e2, List.getElem?_eq_getElem k1, List.getElem?_eq_getElem k2]
  exact eqAt_V ru rv (List.all_eq_true.mp fx _ (List.getElem_mem k1)) (List.all_eq_true.mp fy _ (List.getElem_mem k2))
theorem range_eq {xs ys : List V} (h : xs.length = ys.length) : (List.range xs.length).all (fun j => match xs[j]?, ys[j]? with | some x, some y => eqV x y | _, _ => false) = eqL xs ys := by
  rw [all_zip h fun j x y h1 h2 => by rw [h1, h2]]
  unfold eqL
  rw [h, beq_self_eq_true, Bool.true_and]
theorem op_eqL (hu : X.A.units < cLine) : OpR X (compareOp .Eq) (rEqL X.K false) := by
  intro pins s σ H x y v u Q I rx ry h
  obtain ⟨a, b, xs, ys, rfl, rfl, hs, fx, fy, q⟩ := h
  cases rx
  cases ry
  rcases hs with ⟨h1, h2⟩ | ⟨h1, h2⟩
  · obtain ⟨us, r1, p1, _⟩ := I.list h1
    obtain ⟨vs, r2, p2, _⟩ := I.list h2
    have l1 := r1.length
    have l2 := r2.length
    by_cases e : xs.length = ys.length
    · refine SeqAt.eq_listAt p1.isList p2.isList (by simp; omega) hu (fun j k1 k2 => items_eq r1 r2 fx fy j k1 k2) (fin_bl I q ?_)
      rw [List.size_toArray, ← l1, range_eq e]
      rfl
    · refine SeqAt.eq_list_lengthsAt p1.isList p2.isList (by simp; omega) hu (fin_bl I q ?_)
      show eqL xs ys = false
      unfold eqL
      rw [beq_eq_false_iff_ne.mpr e, Bool.false_and]
  · obtain ⟨us, r1, p1, _⟩ := I.tuple h1
    obtain ⟨vs, r2, p2, _⟩ := I.tuple h2
    have l1 := r1.length
    have l2 := r2.length
    refine SeqAt.eq_tupleAt (show s.heap.IsTuple a us.toArray from p1) (show s.heap.IsTuple b vs.toArray from p2) hu (fun j k1 k2 => items_eq r1 r2 fx fy j k1 k2) (fin_bl I q ?_)
    show eqL xs ys = _
    rw [List.size_toArray, List.size_toArray, ← l1, ← l2]
    by_cases e : xs.length = ys.length
    · rw [e, Nat.min_self, beq_self_eq_true, Bool.and_true, ← e, range_eq e]
    · unfold eqL
      rw [beq_eq_false_iff_ne.mpr e, Bool.false_and, Bool.and_false]
/-! ### methods -/
def rCount (K : PySem.W.Frag) : V → List V → Hp → VK → Prop := fun x vs H Q => ∃ l xs y, x = .ref l ∧ vs = [y] ∧ H l = some (.lst xs) ∧ xs.all flatV = true ∧ flatV y = true ∧ Q (.int ((xs.countP fun z => eqV z y : Nat) : Int)) H
theorem countP_eqU {x : V} : ∀ {xs : List V} {us : List Value}, Vals xs us → xs.all flatV = true → us.countP (eqU x) = xs.countP fun z => eqV z x
  | _, _, .nil, _ => rfl
  | _, _, .cons r t, h => by
    rw [List.all_cons, Bool.and_eq_true] at h
    rw [List.countP_cons, List.countP_cons, countP_eqU t h.2, eqU_of r h.1]
theorem mt_count : MtR X "list.count" (rCount X.K) := by
  intro pins s σ H x vs v us Q I rx rv h
  obtain ⟨l, xs, y, rfl, rfl, hH, fx, fy, q⟩ := h
  cases rx
  obtain ⟨u, rfl, ru⟩ := rv.one
  obtain ⟨z, its, n, r, hl, e⟩ := I.lstM hH
  refine call_meets F.slot_list_count ⟨_, e, rfl⟩ F.entry_list_count (F.args_list_count_2 _ _) (SeqAt.list_countAt l its.toArray n none #[] u (eqU y)) ⟨e, fun w hw => mem_eqAt ru fy r fx w (by simpa using hw), ?_⟩
  refine ⟨.int _, H, I.tok _, ⟨s.toks, ?_⟩, q⟩
  rw [List.toList_toArray, countP_eqU r fx]
/-- ''.join(list of texts): a text of known length -/
def rJoin (K : PySem.W.Frag) : V → List V → Hp → VK → Prop := fun x vs H Q => ∃ z p ys, x = .str z ∧ vs = [.ref p] ∧ SqL K H p (ys.map V.str) ∧ (ys.map (·.length)).sum + ys.length * z.length ≤ 16777216 ∧ Q (.str (Txt.join z ys)) H
theorem strs_of : ∀ {ys : List Str} {us : List Value}, Vals (ys.map V.str) us → StrsAre us ys
  | [], _, .nil => .nil
  | y :: ys, _, .cons r t => by
    obtain ⟨k, rfl⟩ := r
    exact .cons _ _ (strs_of t)
theorem mt_join : MtR X "str.join" (rJoin X.K) := by
  intro pins s σ H x vs v us Q I rx rv h
  obtain ⟨z, p, ys, rfl, rfl, hq, hz, q⟩ := h
  obtain ⟨t, rfl⟩ := rx
  obtain ⟨u, rfl, ru⟩ := rv.one
  cases ru
  obtain ⟨its, r, pl, _⟩ := I.list hq
  exact PyProof.Rows.join_list pl.isList (by simpa using strs_of r) hz fun t' k => ⟨.str _, H, I.tok _, ⟨_, rfl⟩, q⟩
end
end L2

namespace L2
open PySem PySem.Spec PyProof.Rows
section
variable {X : Cx} {tg : Expr}
/-! ### a range by steps -/
/-! ### the signs of a text -/
def Its (x : Str) : It := ⟨fun i _ => i < x.cps.size, fun i H v H' => H' = H ∧ ∃ c, x.cps[i]? = some c ∧ v = .str ⟨#[c]⟩, fun i _ => x.cps.size ≤ i⟩
theorem turn_str {P : Program} {w : World} {K : PySem.W.Frag} {tg : Expr} (it : Addr) (x : Str) (t : Tok) (ty : String) (hn : ["enumerate", "zip", "dict_itemiterator", "dict_reverseitemiterator", "odict_iterator", "itertools.zip_longest", "itertools.pairwise"].contains ty = false)
    (W : ∀ A : Around, A.handled = none → Walks P w A it [it] [it] x.cps.size (SignAt x) (fun i h => h.IsStrIter it ty x t i))
    (hself : ∀ (A : Around) (i : Nat) (s : Shared) (Q : Value → Shared → Prop) (E : Value → Shared → Prop), s.heap.IsStrIter it ty x t i → Q (.ref it) s → wpAny (model P w) A (pyIter (.ref it)) Q E s) : Turn P w K tg (Its x) [it] it (fun i h => i ≤ x.cps.size ∧ h.IsStrIter it ty x t i) where
  mem := by simp
  obj := fun i h st b hb => by
    have e : b = it := by simpa using hb
    subst e
    obtain ⟨_, o, e, c, d⟩ := st
    exact ⟨o, e, fun v z => by rw [d] at z; cases z⟩
  keep := fun i h h' st k => ⟨st.1, let ⟨o, e, r⟩ := st.2; ⟨o, k it (by simp) o e, r⟩⟩
  item := by
    intro X hP hw hK hc i pins s σ H E I hf st hg
    subst hP hw hK
    obtain ⟨f0, f1, f2, f3, f4, f5⟩ := hf it (by simp)
    refine (W X.A (I.ok.hd hc)).item i s _ _ hg st.2 fun v h' tk hv st' kk => ?_
    obtain ⟨c, u, hc, rfl⟩ := hv
    have I1 : Inv X pins σ H { s with heap := h', toks := tk } := I.turned (fun b o hb e => kk b o (by simpa using hb) e) f0 f1 f3 f4 f5
    obtain ⟨o, e, c1, d⟩ := id st'
    have hg : i < x.cps.size := hg
    exact ⟨_, rfl, go_of (s := { s with heap := h', toks := tk }) e c1 d hn ⟨.str ⟨#[c]⟩, H, I1, ⟨u, rfl⟩, ⟨rfl, c, hc, rfl⟩, ⟨hg, st'⟩, fun b hb => (hf b hb).1⟩⟩
  done := by
    intro X hP hw hK hc i pins s σ H E I hf st hg
    subst hP hw hK
    obtain ⟨f0, f1, f2, f3, f4, f5⟩ := hf it (by simp)
    have e : i = x.cps.size := by have : x.cps.size ≤ i := hg; have := st.1; omega
    subst e
    exact (W X.A (I.ok.hd hc)).done s _ _ st.2 fun h' tk kk => ⟨rfl, I.turned (fun b o hb e => kk b o (by simpa using hb) e) f0 f1 f3 f4 f5⟩
  self := fun A i s Q E st h => hself A i s Q E st.2 h
def iStr (tl : TE) : TI := fun σ H R => tl σ H fun x H1 => ∃ z, x = .str z ∧ R (Its z) H1
theorem pi_str {l : Expr} {tl : TE} (hl : PE X l tl) : PI X tg l (iStr tl) := by
  intro pins s σ H R I h
  refine thn (hl pins s σ H _ I h) fun v s1 ⟨x, H1, I1, r1, q1⟩ => ?_
  obtain ⟨z, rfl, q⟩ := q1
  obtain ⟨t, rfl⟩ := r1
  have fin : ∀ (ty : String), ["enumerate", "zip", "dict_itemiterator", "dict_reverseitemiterator", "odict_iterator", "itertools.zip_longest", "itertools.pairwise"].contains ty = false →
      (∀ A : Around, A.handled = none → Walks X.prog X.w A s1.heap.objs.size [s1.heap.objs.size] [s1.heap.objs.size] z.cps.size (SignAt z) (fun i h => h.IsStrIter s1.heap.objs.size ty z t i)) →
      (∀ (A : Around) (i : Nat) (s : Shared) (Q : Value → Shared → Prop) (E : Value → Shared → Prop), s.heap.IsStrIter s1.heap.objs.size ty z t i → Q (.ref s1.heap.objs.size) s → wpAny (model X.prog X.w) A (pyIter (.ref s1.heap.objs.size)) Q E s) →
      ∀ o : Obj, (s1.heap.push o).IsStrIter s1.heap.objs.size ty z t 0 → PIE X pins σ tg R (.ref s1.heap.objs.size) { s1 with heap := s1.heap.push o } := fun ty hn W hself o st =>
    ⟨s1.heap.objs.size, [s1.heap.objs.size], _, Its z, H1, rfl, I1.kept (t' := s1.toks) fun b o e => Heap.get?_push_of_some _ e, turn_str _ z t ty hn W hself, ⟨Nat.zero_le _, st⟩, fun b hb => by
      have e : b = s1.heap.objs.size := by simpa using hb
      subst e
      exact I1.fpOk (Nat.le_refl _) (I1.hok.fresh (Nat.le_refl _)), q⟩
  cases ha : z.cps.all (· < 128)
  · exact wpAny_pyIter_wide ha (fin "str_iterator" (by decide) (fun A hA => Walks.strWide hA _ z t) (fun A i s Q E st h => wpAny_pyIter_striter_wide st h) _ ⟨_, Heap.get?_push_size _ rfl, rfl, rfl⟩)
  · exact wpAny_pyIter_ascii ha (fin "str_ascii_iterator" (by decide) (fun A hA => Walks.strAscii hA _ z t) (fun A i s Q E st h => wpAny_pyIter_striter_ascii st h) _ ⟨_, Heap.get?_push_size _ rfl, rfl, rfl⟩)

/-! ### t[lo:hi] of a text -/
def rSlS : V → Option Int → Option Int → Hp → VK → Prop := fun x lo hi H Q => ∃ z, x = .str z ∧ z.length ≤ sizeLine ∧ Q (.str (Txt.slice z lo hi)) H
theorem sl_str : SlR X rSlS := by
  intro pins s σ H x v vl vu lo hi sl Q I rx hs pl pu h
  obtain ⟨z, rfl, hz, q⟩ := h
  obtain ⟨t, rfl⟩ := rx
  refine ⟨"str", _, PySem.F.slot_str_getitem.lookup, typeIs_str _ _ _, ?_⟩
  have fin : ∀ {r : Str}, r = Txt.slice z lo hi → ∀ t' k, EP X pins σ Q (.str r t') { s with toks := k } := fun e t' k => ⟨.str _, H, I.tok _, ⟨t', by rw [e]⟩, q⟩
  cases pl with
  | none =>
    cases pu with
    | none => exact wpAny_getItem_str_slice (l := none) (u := none) (st := none) hs rfl (post_val_or_str ⟨Nat.le_trans (Txt.slice_le z _ _) hz, fun t' k => fin rfl t' k⟩)
    | int j uj => exact wpAny_getItem_str_slice (l := none) (u := some (j, uj)) (st := none) hs rfl (post_val_or_str ⟨Nat.le_trans (Txt.slice_le z _ _) hz, fun t' k => fin rfl t' k⟩)
  | int i ui =>
    cases pu with
    | none => exact wpAny_getItem_str_slice (l := some (i, ui)) (u := none) (st := none) hs rfl (post_val_or_str ⟨Nat.le_trans (Txt.slice_le z _ _) hz, fun t' k => fin rfl t' k⟩)
    | int j uj => exact wpAny_getItem_str_slice (l := some (i, ui)) (u := some (j, uj)) (st := none) hs rfl (post_val_or_str ⟨Nat.le_trans (Txt.slice_le z _ _) hz, fun t' k => fin rfl t' k⟩)

/-! ### all and any of a list of bools -/
theorem truth_bools {prog : Program} {w : World} {A : Around} {bs : List Bool} : TruthOf prog w A (fun i v => (bs.map Value.bool).toArray[i]? = some v) (fun i => bs.getD i false) := by
  intro i v s Q E h q
  have h : (bs.map Value.bool)[i]? = some v := by simpa using h
  rw [List.getElem?_map] at h
  cases e : bs[i]? with
  | none => rw [e] at h; cases h
  | some b =>
    rw [e] at h
    cases h
    have e2 : bs.getD i false = b := by simp [List.getD, e]
    have q : Q (bs.getD i false) s := q
    rw [e2] at q
    exact wpAny_truthy_bool q
theorem range_bools (f : List Nat → (Nat → Bool) → Bool) (bs : List Bool) : (List.range bs.length).map (fun i => bs.getD i false) = bs := by
  refine List.ext_getElem? fun i => ?_
  rw [List.getElem?_map]
  rcases Nat.lt_or_ge i bs.length with h | h
  · simp [h]
  · simp [h]
theorem bools_of : ∀ {bs : List Bool} {us : List Value}, Vals (bs.map V.bl) us → us = bs.map Value.bool
  | [], _, .nil => rfl
  | b :: bs, _, .cons r t => by
    have r : _ = Value.bool b := r
    rw [r, bools_of t]
    rfl
theorem call_allL (hc : X.calm = true) : CallR X (.builtin "all") (fun xs H Q => ∃ (p : Addr) (bs : List Bool), xs = [.ref p] ∧ SqL X.K H p (bs.map V.bl) ∧ Q (.bl (bs.all id)) H) := by
  intro pins s σ H xs us Q I r h
  obtain ⟨p, bs, rfl, hq, q⟩ := h
  obtain ⟨u, rfl, rx⟩ := vals1 r
  cases rx
  obtain ⟨its, rv, pl, hz⟩ := I.list hq
  have e := bools_of rv
  subst e
  have hlt : p < s.heap.objs.size := let ⟨_, z, _⟩ := pl.isList; Heap.lt_size z
  refine call_all_walk (wpAny_pyIter_list pl.isList ⟨s.heap.objs.size, _, _, _, _, _, fun i => bs.getD i false, rfl, Walks.list (A := X.A.in1) (I.ok.hd hc) s.heap.objs.size p (Nat.ne_of_lt hlt) _, ⟨⟨_, Heap.get?_push_size _ rfl, rfl, rfl⟩, pl.isList.push _⟩, truth_bools, fun h' tk kk => ?_⟩)
  have I1 : Inv X pins σ H { s with heap := h', toks := tk } := I.kept fun b o e => kk b o (by
    intro z
    have z : b = s.heap.objs.size := by simpa using z
    exact absurd (Heap.lt_size e) (by rw [z]; exact Nat.lt_irrefl _)) (Heap.get?_push_of_some _ e)
  refine ⟨.bl _, H, I1, ?_, q⟩
  have z : ((bs.map Value.bool).toArray.size) = bs.length := by simp
  rw [z]
  have y : bs.all id = (List.range bs.length).all (fun i => bs.getD i false) := by
    conv => lhs; rw [← range_bools (fun _ _ => true) bs]
    rw [List.all_map]
    rfl
  rw [y]
  rfl
end
end L2

namespace L2
open PySem PySem.Spec PyProof.Rows
section
variable {X : Cx}
/-! ### isinstance -/
/-- what of the written part an exception's class must have -/
structure ExcC (K : PySem.W.Frag) (C : Addr) : Prop where
  ex : PySem.W.excIn K C [.type "ValueError", .type "Exception", .type "BaseException", .type "object"] "ValueError.__new__" = true
  ga : PySem.W.findIn K (.ref C) "__getattribute__" = some (some (.builtin "BaseException.__getattribute__"))
  gt : PySem.W.findIn K (.ref C) "__getattr__" = some none
  cl : PySem.W.findIn K (.ref C) "__class__" = some (some (.builtin "object.__class__"))
  gs : PySem.W.specialIn K (.builtin "object.__class__") "__get__" = some (some (.builtin "getset_descriptor.__get__"))
  tk : PySem.W.takesIn K (.builtin "object.__class__") = some true
  ob : PySem.W.mroIn K C (.type "object") = some true
theorem kitx_exc {K : PySem.W.Frag} {a C : Addr} (e : ExcC K C) : PySem.W.KitX K (.ref a) (.ref C) (excφ a C) where
  ty := fun M h _ p => by
    obtain ⟨o, vs, h1, h2, _⟩ := p
    exact h2 ▸ (PySem.W.Looks.ld h1).andThen .now
  it := fun M h X p => by
    obtain ⟨bm, N, nm, q, bs, hdct, sn, sub, ab, col, dd, k0, k1, k2, k3, k5, mN, hC, _⟩ := exc_in X e.ex
    intro A' Q' E' s' k q
    unfold isType loadHead
    exact wpAny_bind (wpAny_loadPart (k _ _ hC) (wpAny_pure q))
  ne := fun h tp dd' its n sl X htp => by
    obtain ⟨bm, N, nm, q, bs, hdct, sn, sub, ab, col, dd, k0, k1, k2, k3, k5, mN, hC, _⟩ := exc_in X e.ex
    refine Bool.eq_false_iff.mpr fun z => ?_
    have e : C = tp := Value.ref.inj (beq_iff_eq.mp z)
    subst e
    rw [hC] at htp
    have z2 := congrArg Obj.cls (Option.some.inj htp)
    exact absurd z2 (by simp)
  ca := fun {prog w A E Q s} X p k => by
    obtain ⟨o, vs, h1, h2, h3⟩ := p
    exact exc_cls X PySem.F.attrBase_ValueError e.ex e.ga e.gt e.cl e.gs e.tk e.ob rfl h1 h2 h3 k
/-- the type of a value; an exception's too -/
inductive TyX (K : PySem.W.Frag) (H : Hp) : V → Value → Prop where
  | v {x : V} {t : Value} (h : TyOf K H x t) : TyX K H x t
  | ex {a C : Addr} (h : H a = some (Ex a C)) (e : ExcC K C) : TyX K H (.ref a) (.ref C)
def clsV : V → Option Value
  | .ty n => some (.type n)
  | .ref C => some (.ref C)
  | _ => none
theorem clsV_rel {c : V} {cv u : Value} (h : clsV c = some cv) (r : RelV c u) : u = cv := by
  cases c with
  | ty n => cases h; exact r
  | ref C => cases h; exact r
  | _ => cases h
/-- isinstance(x, c) -/
theorem call_isi : CallR X (.builtin "isinstance") (fun xs H Q => ∃ x c t cv b, xs = [x, c] ∧ TyX X.K H x t ∧ clsV c = some cv ∧ PySem.W.kitOne X.K t cv = some b ∧ Q (.bl b) H) := by
  intro pins s σ H xs us Q I r h
  obtain ⟨x, c, t, cv, b, rfl, ty, hc, hk, q⟩ := h
  obtain ⟨u, w, rfl, rx, rc⟩ := vals2 r
  cases clsV_rel hc rc
  cases ty with
  | v ty => exact isinst_ok I rx ty hk fun tk => ⟨.bl b, H, I.tok _, rfl, q⟩
  | @ex a C hH e =>
    cases (show u = Value.ref a from rx)
    exact PySem.W.kia_one (kitx_exc e) I.kIn (I.hok a _ hH).1 hk (fun z => nomatch z) fun tk => ⟨.bl b, H, I.tok _, rfl, q⟩
/-! ### zip of two lists, the pair unpacked -/
def Itz (K : PySem.W.Frag) (a b : Addr) : It := ⟨fun i H => ∃ xs ys x y, SqL K H a xs ∧ SqL K H b ys ∧ xs[i]? = some x ∧ ys[i]? = some y,
  fun i H v H' => ∃ p, H p = none ∧ v = .ref p ∧ ∃ x y, H' = upd H p (.tup [x, y]) ∧ (∀ xs, SqL K H a xs → xs[i]? = some x) ∧ ∀ ys, SqL K H b ys → ys[i]? = some y,
  fun i H => ∃ xs ys, SqL K H a xs ∧ SqL K H b ys ∧ (xs[i]? = none ∨ ys[i]? = none)⟩
def zipAt (z TI TO i1 i2 l1 l2 : Addr) (i : Nat) (h : Heap) : Prop := IsZip h z TI TO .none ∧ IsPair h TI (.ref i1) (.ref i2) ∧ (∃ a b, IsPair h TO a b) ∧ h.IsListIter i1 l1 i ∧ h.IsListIter i2 l2 i
theorem turn_zip {P : Program} {w : World} {K : PySem.W.Frag} {es : List Expr} {k1 : Nat} {pos : Pos} (z TI TO i1 i2 l1 l2 : Addr) (D : TI ≠ z ∧ TO ≠ z ∧ i1 ≠ z ∧ i2 ≠ z ∧ TI ≠ TO ∧ TI ≠ i1 ∧ TI ≠ i2 ∧ TO ≠ i1 ∧ TO ≠ i2 ∧ i1 ≠ i2) :
    Turn P w K (.Tuple es k1 pos) (Itz K l1 l2) [z, TI, TO, i1, i2] z (zipAt z TI TO i1 i2 l1 l2) where
  mem := by simp
  obj := fun i h st b hb => by
    obtain ⟨h1, h2, ⟨_, _, h3⟩, h4, h5⟩ := st
    rcases List.mem_cons.mp hb with rfl | hb
    · exact ⟨_, h1, fun v e => nomatch (show Data.fields _ = Data.cell v from e)⟩
    rcases List.mem_cons.mp hb with rfl | hb
    · exact ⟨_, h2, fun v e => nomatch (show Data.seq _ _ = Data.cell v from e)⟩
    rcases List.mem_cons.mp hb with rfl | hb
    · exact ⟨_, h3, fun v e => nomatch (show Data.seq _ _ = Data.cell v from e)⟩
    rcases List.mem_cons.mp hb with rfl | hb
    · obtain ⟨o, e, c, d⟩ := h4
      exact ⟨o, e, fun v z => by rw [d] at z; cases z⟩
    have hb : b = i2 := by simpa using hb
    subst hb
    obtain ⟨o, e, c, d⟩ := h5
    exact ⟨o, e, fun v z => by rw [d] at z; cases z⟩
  keep := fun i h h' st k => by
    obtain ⟨h1, h2, ⟨x, y, h3⟩, h4, h5⟩ := st
    exact ⟨k _ (by simp) _ h1, k _ (by simp) _ h2, ⟨x, y, k _ (by simp) _ h3⟩, h4.at fun o e => k _ (by simp) o e, h5.at fun o e => k _ (by simp) o e⟩
  item := by
    intro X hP hw hK hc i pins s σ H E I hf st hg
    subst hP hw hK
    obtain ⟨xs, ys, x, y, q1, q2, e1, e2⟩ := hg
    obtain ⟨us, rv1, p1, _⟩ := I.list q1
    obtain ⟨vs, rv2, p2, _⟩ := I.list q2
    obtain ⟨u, hu, ru⟩ := rv1.get e1
    obtain ⟨v, hv, rv⟩ := rv2.get e2
    obtain ⟨h1, h2, ⟨oa, ob, h3⟩, h4, h5⟩ := st
    obtain ⟨d1, d2, d3, d4, d5, d6, d7, d8, d9, d10⟩ := D
    have fne : ∀ l : Addr, (∃ its, s.heap.IsList l its) → l ≠ z ∧ l ≠ TO ∧ l ≠ i1 ∧ l ≠ i2 := fun l ⟨its, hl⟩ => by
      obtain ⟨o, ho, hcl, _⟩ := hl
      refine ⟨?_, ?_, ?_, ?_⟩
      · rintro rfl
        rw [h1] at ho; cases ho; exact absurd hcl (by simp)
      · rintro rfl
        rw [h3] at ho; cases ho; exact absurd hcl (by simp)
      · rintro rfl
        obtain ⟨o', e', c', _⟩ := h4
        rw [e'] at ho; cases ho; rw [c'] at hcl; exact absurd hcl (by simp)
      · rintro rfl
        obtain ⟨o', e', c', _⟩ := h5
        rw [e'] at ho; cases ho; rw [c'] at hcl; exact absurd hcl (by simp)
    obtain ⟨a1, a2, a3, a4⟩ := fne l1 ⟨_, p1.isList⟩
    obtain ⟨b1, b2, b3, b4⟩ := fne l2 ⟨_, p2.isList⟩
    refine wpAny_pyNext_zip_item (xs := us.toArray) (ys := vs.toArray) (x := u) (y := v) ⟨d1, d2, d3, d4, d5, d6, d7, d8, d9, d10, a1, a2, a3, a4, b1, b2, b3, b4⟩ h1 h2 h3 h4 h5 p1.isList p2.isList (by simpa using hu) (by simpa using hv)
      fun h' g1 g2 g3 g4 g5 g6 kk => ⟨_, rfl, ?_⟩
    refine wpAny_letOwnedTupleGo_zip g1 fun h2' z1 sb => ?_
    have lt : ∀ b ∈ [z, TI, TO, i1, i2], b < s.heap.objs.size := fun b hb => by
      rcases List.mem_cons.mp hb with rfl | hb
      · exact Heap.lt_size h1
      rcases List.mem_cons.mp hb with rfl | hb
      · exact Heap.lt_size h2
      rcases List.mem_cons.mp hb with rfl | hb
      · exact Heap.lt_size h3
      rcases List.mem_cons.mp hb with rfl | hb
      · obtain ⟨o, e, _⟩ := h4; exact Heap.lt_size e
      have hb : b = i2 := by simpa using hb
      subst hb
      obtain ⟨o, e, _⟩ := h5; exact Heap.lt_size e
    have nz : s.heap.objs.size ≠ z := Nat.ne_of_gt (lt z (by simp))
    have kp : ∀ c o, c ∉ [z, TO, i1, i2] → s.heap.get? c = some o → h2'.get? c = some o := fun c o hcn e => by
      have h' := hcn
      simp only [List.mem_cons, not_or, List.not_mem_nil, not_false_eq_true, and_true] at h'
      exact sb.extBut c o h'.1 (kk c o h'.1 h'.2.1 h'.2.2.1 h'.2.2.2 e)
    have fok : ∀ b ∈ [z, TO, i1, i2], FpOk X pins H b := fun b hb => hf b (by
      simp only [List.mem_cons, List.not_mem_nil, or_false] at hb ⊢
      rcases hb with h | h | h | h <;> simp [h])
    have nit : ∀ b u, H b = some u → b ∉ [z, TO, i1, i2] := fun b u e m => by
      rw [(fok b m).1] at e
      cases e
    have I1 : Inv X pins σ H { s with heap := h2', toks := s.toks } := by
      refine I.step (g' := s.gens) (d' := s.drawn) (ch := [z, TO, i1, i2]) (fun b hb => let ⟨_, y1, y2, y3, y4, y5⟩ := fok b hb; ⟨y3, y1, y4, y5⟩) (fun b o _ _ hcn e _ => kp b o hcn e) (fun b o _ _ hcn e _ => ⟨o.slots, kp b o hcn e⟩) (fun _ _ _ _ n => n)
        (fun b o hcn e => ⟨o, kp b o hcn e⟩) (fun _ _ e => e) (fun _ _ _ e => e) (fun b ps e => ⟨#[], by rw [e]; simp⟩) (fun m hm => ?_) (fun b u e => ?_) I.bare
      · obtain ⟨o, es, ep, ho, r⟩ := hm
        exact ⟨o, es, ep, kp _ o (fun m => (fok _ m).2.1 rfl) ho, r⟩
      · refine (I.hok b u e).stay (fun c v hc' q => kp c v ?_ q) (fun _ q => q) fun _ _ q => q
        rcases hc' with y | y
        · rw [y]; exact nit b u e
        · exact nit c _ y
    have gT : h2'.get? s.heap.objs.size = some { cls := .type "tuple", data := .seq #[u, v] } := sb.extBut _ _ nz g5
    have I2 : Inv X pins σ (upd H s.heap.objs.size (.tup [x, y])) { s with heap := h2', toks := s.toks } := by
      refine I1.track I.fresh ?_ (Nat.ne_of_gt I.lt) (fun y c e => ?_) (fun p hp => ?_) ⟨by show 2 ≤ sizeLine; decide, [u, v], .cons ru (.cons rv .nil), ⟨_, gT, rfl, _, rfl⟩⟩
      · cases q : X.s₀.heap.get? s.heap.objs.size with
        | none => rfl
        | some o => exact absurd (Nat.lt_of_lt_of_le (Heap.lt_size q) I.sz) (Nat.lt_irrefl _)
      · obtain ⟨w, o, ho, _⟩ := I.cell y c e
        exact Nat.ne_of_lt (Heap.lt_size ho)
      · exact Nat.ne_of_lt (Heap.lt_size (I.pin p hp).1)
    refine ⟨.ref s.heap.objs.size, _, I2, rfl, ⟨_, I.fresh, rfl, x, y, rfl, fun xs' h' => by rw [I.list_inj h' q1]; exact e1, fun ys' h' => by rw [I.list_inj h' q2]; exact e2⟩, ⟨z1, ?_, ⟨u, v, ?_⟩, ?_, ?_⟩, fun b hb => ?_⟩
    · exact sb.extBut _ _ d1 (kk _ _ d1 d5 d6 d7 h2)
    · exact sb.extBut _ _ d2 g2
    · exact g3.at fun o e => sb.extBut _ _ d3 e
    · exact g4.at fun o e => sb.extBut _ _ d4 e
    · rw [upd_ne (Nat.ne_of_lt (lt b hb))]
      exact (hf b hb).1
  done := by
    intro X hP hw hK hc i pins s σ H E I hf st hg
    subst hP hw hK
    obtain ⟨xs, ys, q1, q2, e1⟩ := hg
    obtain ⟨us, rv1, p1, _⟩ := I.list q1
    obtain ⟨vs, rv2, p2, _⟩ := I.list q2
    obtain ⟨h1, h2, ⟨oa, ob, h3⟩, h4, h5⟩ := st
    obtain ⟨d1, d2, d3, d4, d5, d6, d7, d8, d9, d10⟩ := D
    have fne : ∀ l : Addr, (∃ its, s.heap.IsList l its) → l ≠ z ∧ l ≠ TO ∧ l ≠ i1 ∧ l ≠ i2 := fun l ⟨its, hl⟩ => by
      obtain ⟨o, ho, hcl, _⟩ := hl
      refine ⟨?_, ?_, ?_, ?_⟩
      · rintro rfl
        rw [h1] at ho; cases ho; exact absurd hcl (by simp)
      · rintro rfl
        rw [h3] at ho; cases ho; exact absurd hcl (by simp)
      · rintro rfl
        obtain ⟨o', e', c', _⟩ := h4
        rw [e'] at ho; cases ho; rw [c'] at hcl; exact absurd hcl (by simp)
      · rintro rfl
        obtain ⟨o', e', c', _⟩ := h5
        rw [e'] at ho; cases ho; rw [c'] at hcl; exact absurd hcl (by simp)
    obtain ⟨a1, a2, a3, a4⟩ := fne l1 ⟨_, p1.isList⟩
    obtain ⟨b1, b2, b3, b4⟩ := fne l2 ⟨_, p2.isList⟩
    have fok : ∀ b ∈ [z, TO, i1, i2], FpOk X pins H b := fun b hb => hf b (by
      simp only [List.mem_cons, List.not_mem_nil, or_false] at hb ⊢
      rcases hb with h | h | h | h <;> simp [h])
    have nit : ∀ b u, H b = some u → b ∉ [z, TO, i1, i2] := fun b u e m => by
      rw [(fok b m).1] at e
      cases e
    refine wpAny_pyNext_zip_end (xs := us.toArray) (ys := vs.toArray) (I.ok.hd hc) ⟨d1, d2, d3, d4, d5, d6, d7, d8, d9, d10, a1, a2, a3, a4, b1, b2, b3, b4⟩ h1 h2 h3 h4 h5 p1.isList p2.isList ?_ fun h' kk => ⟨rfl, ?_⟩
    · have m1 := rv1.length
      have m2 := rv2.length
      rcases e1 with e | e
      · left; rw [List.getElem?_eq_none_iff] at e; simp; omega
      · right; rw [List.getElem?_eq_none_iff] at e; simp; omega
    · have kp : ∀ c o, c ∉ [z, TO, i1, i2] → s.heap.get? c = some o → h'.get? c = some o := fun c o hcn e => by
        simp only [List.mem_cons, not_or, List.not_mem_nil, not_false_eq_true, and_true] at hcn
        exact kk c o hcn.1 hcn.2.1 hcn.2.2.1 hcn.2.2.2 e
      refine I.step (g' := s.gens) (d' := s.drawn) (t' := s.toks) (ch := [z, TO, i1, i2]) (fun b hb => let ⟨_, y1, y2, y3, y4, y5⟩ := fok b hb; ⟨y3, y1, y4, y5⟩) (fun b o _ _ hcn e _ => kp b o hcn e) (fun b o _ _ hcn e _ => ⟨o.slots, kp b o hcn e⟩) (fun _ _ _ _ n => n)
        (fun b o hcn e => ⟨o, kp b o hcn e⟩) (fun _ _ e => e) (fun _ _ _ e => e) (fun b ps e => ⟨#[], by rw [e]; simp⟩) (fun m hm => ?_) (fun b u e => ?_) I.bare
      · obtain ⟨o, es, ep, ho, r⟩ := hm
        exact ⟨o, es, ep, kp _ o (fun m => (fok _ m).2.1 rfl) ho, r⟩
      · refine (I.hok b u e).stay (fun c v hc' q => kp c v ?_ q) (fun _ q => q) fun _ _ q => q
        rcases hc' with y | y
        · rw [y]; exact nit b u e
        · exact nit c _ y
  self := fun _ _ _ _ _ st h => wpAny_pyIter_zip st.1 h
def iZip (K : PySem.W.Frag) (ta : TA) : TI := fun σ H R => ta σ H fun vs H1 => ∃ a b, vs = [.ref a, .ref b] ∧ (∃ xs, SqL K H1 a xs) ∧ (∃ ys, SqL K H1 b ys) ∧ R (Itz K a b) H1
theorem pi_zip {es : List Expr} {k1 : Nat} {tpos : Pos} {a b : Expr} {ta : TA} {p pos : Pos} (hg : Gl X "zip") (hm : X.mg "zip" = none) (hv : bootBuiltins "zip" = some (.type "zip")) (ha : PA X [a, b] ta) (hs : starEach [a, b] X.env = [(false, eval a X.env), (false, eval b X.env)] := by rfl)
    (hs2 : starEach [b] X.env = [(false, eval b X.env)] := by rfl) : PI X (.Tuple es k1 tpos) (.Call (.Name "zip" p) [a, b] [] pos) (iZip X.K ta) := by
  intro pins s σ H R I h
  refine Call_ (ld_blt I hg hm hv (PyProof.Rows.callWith_type1 (thn (ha pos pins s σ H _ I h) fun us s1 ⟨vs, H1, I1, r1, q1⟩ => ?_) (by rw [hs, hs2]) (by rw [hs2]; rfl)))
  obtain ⟨l1, l2, e, ⟨xs, q1⟩, ⟨ys, q2⟩, q⟩ := q1
  subst e
  obtain ⟨u, v, rfl, ru, rv⟩ := vals2 r1
  cases ru
  cases rv
  obtain ⟨us, _, p1, _⟩ := I1.list q1
  obtain ⟨vs, _, p2, _⟩ := I1.list q2
  refine call_zip_2 p1.isList p2.isList fun h' g1 g2 g3 g4 g5 g6 kk => wpAny_pyIter_zip g1 ?_
  have I2 : Inv X pins σ H1 { s1 with heap := h', toks := s1.toks } := I1.kept kk
  refine ⟨_, [s1.heap.objs.size + 4, s1.heap.objs.size + 2, s1.heap.objs.size + 3, s1.heap.objs.size, s1.heap.objs.size + 1], _, _, H1, rfl, I2, turn_zip (s1.heap.objs.size + 4) (s1.heap.objs.size + 2) (s1.heap.objs.size + 3) s1.heap.objs.size (s1.heap.objs.size + 1) l1 l2 ⟨?_, ?_, ?_, ?_, ?_, ?_, ?_, ?_, ?_, ?_⟩, ⟨g1, g2, ⟨_, _, g3⟩, g4, g5⟩, fun b hb => ?_, q⟩
  all_goals first | (show (_ : Nat) ≠ _; omega) | skip
  have hb' : s1.heap.objs.size ≤ b := by
    simp only [List.mem_cons, List.not_mem_nil, or_false] at hb
    rcases hb with h | h | h | h | h <;> (rw [h]; first | exact Nat.le_refl _ | exact Nat.le_add_right _ _)
  exact I1.fpOk hb' (I1.hok.fresh hb')
end
end L2

namespace L2
open PySem PySem.Spec PyProof.Rows
/-! ### one step of a reading at a time -/
section
variable {σ : St} {H : Hp} {Q : VK} {QB : Bool → Hp → Prop} {QA : List V → Hp → Prop} {QS : St → Hp → Prop} {ta tb tc te : TE} {tt uu : TT} {tA : TA} {t u : TS} {nx : St → Hp → Prop} {rt : VK} {bk ct : St → Hp → Prop} {v : V} {i : Nat} {r r' : R2}
theorem w_var (h : σ[i]? = some (some v)) (q : Q v H) : tVar i σ H Q := ⟨v, h, q⟩
theorem w_C (q : Q v H) : tC v σ H Q := q
theorem w_op (q : ta σ H fun x H1 => tb σ H1 fun y H2 => r x y H2 Q) : tOp r ta tb σ H Q := q
theorem w_un {r : V → Hp → VK → Prop} (q : ta σ H fun x H1 => r x H1 Q) : tUn r ta σ H Q := q
theorem w_I0 {g : Int → Int → V} {a b : Int} (q : Q (g a b) H) : rI0 g (.int a) (.int b) H Q := ⟨a, b, rfl, rfl, q⟩
theorem w_U {g : Int → V} {a : Int} (q : Q (g a) H) : rU g (.int a) H Q := ⟨a, rfl, q⟩
theorem w_mod {a b : Int} {g : Int → Int → V} (c : 0 < b) (q : Q (g a b) H) : rI (fun _ j => 0 < j) g (.int a) (.int b) H Q := ⟨a, b, rfl, rfl, c, q⟩
theorem w_I {C : Int → Int → Prop} {a b : Int} {g : Int → Int → V} (c : C a b) (q : Q (g a b) H) : rI C g (.int a) (.int b) H Q := ⟨a, b, rfl, rfl, c, q⟩
theorem w_eqi {a b : Int} (q : Q (.bl (decide (a = b))) H) : rEq (.int a) (.int b) H Q := ⟨rfl, by rw [show decide (V.int a = V.int b) = decide (a = b) from decide_eq_decide.mpr ⟨fun e => V.int.inj e, fun e => by rw [e]⟩]; exact q⟩
theorem w_nei {a b : Int} (q : Q (.bl (!decide (a = b))) H) : rNe (.int a) (.int b) H Q := ⟨rfl, by rw [show decide (V.int a = V.int b) = decide (a = b) from decide_eq_decide.mpr ⟨fun e => V.int.inj e, fun e => by rw [e]⟩]; exact q⟩
theorem w_eqs {a b : Str} (q : Q (.bl (decide (a = b))) H) : rEq (.str a) (.str b) H Q := ⟨rfl, by rw [show decide (V.str a = V.str b) = decide (a = b) from decide_eq_decide.mpr ⟨fun e => V.str.inj e, fun e => by rw [e]⟩]; exact q⟩
theorem w_nes {a b : Str} (q : Q (.bl (!decide (a = b))) H) : rNe (.str a) (.str b) H Q := ⟨rfl, by rw [show decide (V.str a = V.str b) = decide (a = b) from decide_eq_decide.mpr ⟨fun e => V.str.inj e, fun e => by rw [e]⟩]; exact q⟩
theorem w_neb {a b : Bool} (q : Q (.bl (!decide (a = b))) H) : rNe (.bl a) (.bl b) H Q := ⟨rfl, by rw [show decide (V.bl a = V.bl b) = decide (a = b) from decide_eq_decide.mpr ⟨fun e => V.bl.inj e, fun e => by rw [e]⟩]; exact q⟩
theorem w_test (q : te σ H fun x H1 => ∃ k, x = .bl k ∧ QB k H1) : tTest te σ H QB := q
theorem w_tB (q : te σ H fun x H1 => ∃ k, x = .bl k ∧ QB k H1) : tB te σ H QB := q
theorem w_k {P : Bool → Prop} {b : Bool} (q : P b) : ∃ k, V.bl b = .bl k ∧ P k := ⟨b, rfl, q⟩
theorem w_and (q : tt σ H fun c H1 => if c = true then uu σ H1 QB else QB false H1) : tAnd tt uu σ H QB := q
theorem w_or (q : tt σ H fun c H1 => if c = true then QB true H1 else uu σ H1 QB) : tOr tt uu σ H QB := q
theorem w_not (q : tt σ H fun c H1 => QB (!c) H1) : tNot tt σ H QB := q
theorem w_andV (q : ta σ H fun x H1 => ∃ c, x = .bl c ∧ if c = true then tb σ H1 Q else Q (.bl false) H1) : tAndV ta tb σ H Q := q
theorem w_orV (q : ta σ H fun x H1 => ∃ c, x = .bl c ∧ if c = true then Q (.bl true) H1 else tb σ H1 Q) : tOrV ta tb σ H Q := q
theorem w_notV (q : ta σ H fun x H1 => ∃ c, x = .bl c ∧ Q (.bl (!c)) H1) : tNotV ta σ H Q := q
theorem w_chain (q : ta σ H fun x H1 => tb σ H1 fun y H2 => r x y H2 fun z H3 => ∃ k, z = .bl k ∧ if k = true then tc σ H3 fun w' H4 => r' y w' H4 Q else Q (.bl false) H3) : tChain r r' ta tb tc σ H Q := q
theorem w_nil (q : QA [] H) : tNil σ H QA := q
theorem w_cons (q : te σ H fun x H1 => tA σ H1 fun xs H2 => QA (x :: xs) H2) : tCons te tA σ H QA := q
theorem w_call {sp : Sp} {dvs : List V} {E : XK} (q : tA σ H fun vs H1 => sp (vs ++ dvs) H1 Q E) : tCall sp dvs E tA σ H Q := q
theorem w_make {C : Addr} {sp : Sp} {dvs : List V} {E : XK} (q : tA σ H fun vs H1 => ∀ x dx, H1 x = none → H1 dx = none → dx ≠ x → sp (.ref x :: (vs ++ dvs)) (upd (upd H1 dx (.own x)) x (.ins C dx [])) (fun v H2 => v = .non ∧ Q (.ref x) H2) E) : tMake C sp dvs E tA σ H Q := q
theorem w_CB {r : List V → Hp → VK → Prop} (q : tA σ H fun vs H1 => r vs H1 Q) : tCB r tA σ H Q := q
theorem w_tup (q : tA σ H fun xs H1 => xs.length ≤ sizeLine ∧ ∀ p, H1 p = none → Q (.ref p) (upd H1 p (.tup xs))) : tTup tA σ H Q := q
theorem w_lst (q : tA σ H fun xs H1 => xs.length ≤ sizeLine ∧ ∀ p, H1 p = none → Q (.ref p) (upd H1 p (.lst xs))) : tLst tA σ H Q := q
theorem w_sl {r : V → Option Int → Option Int → Hp → VK → Prop} {tl th : TO} (q : te σ H fun x H1 => tl σ H1 fun l H2 => th σ H2 fun u H3 => r x l u H3 Q) : tSl r te tl th σ H Q := q
theorem w_noPart {R : Option Int → Hp → Prop} (q : R none H) : tNoPart σ H R := q
theorem w_part {R : Option Int → Hp → Prop} (q : te σ H fun x H1 => ∃ i, x = .int i ∧ R (some i) H1) : tPart te σ H R := q
theorem w_ki {P : Int → Prop} {b : Int} (q : P b) : ∃ k, V.int b = .int k ∧ P k := ⟨b, rfl, q⟩
theorem w_bm {K : PySem.W.Frag} {T : String} {r : V → List V → Hp → VK → Prop} (q : ta σ H fun x H1 => tyV K T x H1 ∧ tA σ H1 fun xs H2 => r x xs H2 Q) : tBM K T r ta tA σ H Q := q
theorem w_bm0 {K : PySem.W.Frag} {T : String} {r : V → List V → Hp → VK → Prop} (q : ta σ H fun x H1 => tyV K T x H1 ∧ r x [] H1 Q) : tBM0 K T r ta σ H Q := q
theorem w_fld {K : PySem.W.Frag} {f : Str} (q : ta σ H fun x H1 => ∃ a C dx fs v, x = .ref a ∧ H1 a = some (.ins C dx fs) ∧ Cls K C ∧ NoAttr K C f ∧ fs.lookup f = some v ∧ Q v H1) : tFld K ta f σ H Q := q
-- statements
theorem w_seq (q : t ⟨u ⟨nx, rt, bk, ct⟩, rt, bk, ct⟩ σ H) : tSeq t u ⟨nx, rt, bk, ct⟩ σ H := q
theorem w_next (q : nx σ H) : tNext ⟨nx, rt, bk, ct⟩ σ H := q
theorem w_asg (q : te σ H fun x H1 => nx (σ.set i (some x)) H1) : tAsg te (gName i) ⟨nx, rt, bk, ct⟩ σ H := q
theorem w_setLC (q : te σ H fun x H1 => nx (σ.set i (some x)) H1) : sLC i te ⟨nx, rt, bk, ct⟩ σ H := q
theorem w_asgG {g : TG} (q : te σ H fun x H1 => g x σ H1 nx) : tAsg te g ⟨nx, rt, bk, ct⟩ σ H := q
theorem w_ret (q : te σ H rt) : tRet te ⟨nx, rt, bk, ct⟩ σ H := q
theorem w_drop (q : te σ H fun _ H1 => nx σ H1) : tDrop te ⟨nx, rt, bk, ct⟩ σ H := q
theorem w_if (q : tt σ H fun b H1 => if b = true then t ⟨nx, rt, bk, ct⟩ σ H1 else u ⟨nx, rt, bk, ct⟩ σ H1) : tIfS tt t u ⟨nx, rt, bk, ct⟩ σ H := q
theorem w_sfld {K : PySem.W.Frag} {f : Str} (q : tb σ H fun y H1 => ta σ H1 fun x H2 => ∃ a C dx fs, x = .ref a ∧ H2 a = some (.ins C dx fs) ∧ Cls K C ∧ NoAttr K C f ∧ fs.length < 1000 ∧ nx σ (upd H2 a (.ins C dx (putF f y fs)))) : sFld K ta tb f ⟨nx, rt, bk, ct⟩ σ H := q
theorem w_for {wi : TI} {g : TG} (q : wi σ H fun J H1 => ∃ W : Nat → Nat → St → Hp → Prop, (∃ m, W 0 m σ H1) ∧ ∀ i m σ H, W i m σ H →
  (J.stop i H ∧ nx σ H) ∨ (J.go i H ∧ ∃ N : St → Hp → Prop, (∀ σ' H', N σ' H' → ∃ m', m' < m ∧ W (i + 1) m' σ' H') ∧ ∀ x H', J.yld i H x H' → g x σ H' fun σ2 H2 => t ⟨N, rt, nx, N⟩ σ2 H2)) : tFor wi g t ⟨nx, rt, bk, ct⟩ σ H := q
theorem w_iList {K : PySem.W.Frag} {R : It → Hp → Prop} (q : te σ H fun x H1 => ∃ a, x = .ref a ∧ (∃ xs, SqL K H1 a xs) ∧ R (Itl K a) H1) : iList K te σ H R := q
theorem w_gName {x : V} (q : QS (σ.set i (some x)) H) : gName i x σ H QS := q
theorem w_raise {C : Addr} {E : XK} (q : tA σ H fun _ H1 => E (.ref C) none H1) : sRaise C E tA ⟨nx, rt, bk, ct⟩ σ H := q
end
theorem iteNT {A B : Prop} (h : B) : if (!true) = true then A else B := iteF h
theorem iteNF {A B : Prop} (h : A) : if (!false) = true then A else B := iteT h
theorem w_ite {b : Bool} {A B : Prop} (h1 : b = true → A) (h2 : b = false → B) : if b = true then A else B := by
  cases b with
  | true => rw [if_pos rfl]; exact h1 rfl
  | false => rw [if_neg Bool.false_ne_true]; exact h2 rfl
/-! ### generators and comprehensions that leave the heap as it is -/
section
variable {σ : St} {H : Hp} {Q : VK} {te : TE} {τ : St} {K : PySem.W.Frag} {T : Addr}
theorem w_G {fold : Nat → (Nat → Bool) → Bool} {nN : Nat} {fs : List (Nat × Nat)} {wi : TI} {g : TG} (q : wi σ H fun J H1 => H1 T = some (Tb T) ∧ ∃ n p G, G H1 ∧ gTurn J g te (tau nN fs σ) G n p ∧ ∀ H2, G H2 → Q (.bl (fold n p)) H2) : tG K fold T nN fs wi g te σ H Q := q
theorem w_iStr {R : It → Hp → Prop} {tl : TE} (q : tl σ H fun x H1 => ∃ z, x = .str z ∧ R (Its z) H1) : iStr tl σ H R := q
theorem w_iTup {R : It → Hp → Prop} {tl : TE} (q : tl σ H fun x H1 => ∃ a, x = .ref a ∧ (∃ xs, SqT K H1 a xs) ∧ R (Itt K a) H1) : iTup K tl σ H R := q
theorem w_rng1 {ta : TA} {R : It → Hp → Prop} (q : ta σ H fun vs H1 => ∃ j : Int, vs = [.int j] ∧ -(2 ^ 62) ≤ j ∧ j < 2 ^ 62 ∧ R (Itr 0 j.toNat) H1) : iRng1 ta σ H R := q
theorem turn_s {x : Str} {q : Nat → Bool} (hτ : τ[0]? = some none) (h : ∀ c ∈ x.cps.toList, te (τ.set 0 (some (.str ⟨#[c]⟩))) H fun v H5 => H5 = H ∧ v = .bl (q c)) :
    gTurn (Its x) (gName 0) te τ (· = H) x.cps.size fun i => match x.cps.toList[i]? with | some c => q c | none => false := by
  rintro _ rfl
  refine ⟨Nat.le_refl _, fun i hi => ⟨hi, ?_⟩⟩
  rintro v _ ⟨rfl, c, hc, rfl⟩
  have e : x.cps.toList[i]? = some c := by simpa using hc
  refine ⟨fun j v hj => ?_, ?_⟩
  · by_cases z : j = 0
    · subst z; rw [hτ] at hj; cases hj
    · rw [List.getElem?_set_ne (Ne.symm z)]; exact hj
  · dsimp only; rw [e]
    exact h c (List.mem_of_getElem? e)
theorem all_s {x : Str} (q : Nat → Bool) (hP : H T = some (Tb T)) (hτ : τ[0]? = some none) (h : ∀ c ∈ x.cps.toList, te (τ.set 0 (some (.str ⟨#[c]⟩))) H fun v H5 => H5 = H ∧ v = .bl (q c)) (k : Q (.bl (x.cps.toList.all q)) H) :
    H T = some (Tb T) ∧ ∃ n p G, G H ∧ gTurn (Its x) (gName 0) te τ G n p ∧ ∀ H2, G H2 → Q (.bl (allN n p)) H2 := by
  refine ⟨hP, _, _, (· = H), rfl, turn_s hτ h, ?_⟩
  rintro _ rfl
  have z := all_range x.cps.toList q
  rw [Array.length_toList] at z
  refine Eq.mpr (congrArg (fun b => Q (V.bl b) _) (?_ : _ = x.cps.toList.all q)) k
  unfold allN
  rw [← z]
  congr 1
  funext i
  cases x.cps.toList[i]? <;> rfl
theorem all_l {a : Addr} {xs : List V} (q : V → Bool) (hl : SqL K H a xs) (hP : H T = some (Tb T)) (hτ : τ[0]? = some none) (h : ∀ x ∈ xs, te (τ.set 0 (some x)) H fun v H5 => H5 = H ∧ v = .bl (q x)) (k : Q (.bl (xs.all q)) H) :
    H T = some (Tb T) ∧ ∃ n p G, G H ∧ gTurn (Itl K a) (gName 0) te τ G n p ∧ ∀ H2, G H2 → Q (.bl (allN n p)) H2 := by
  refine ⟨hP, _, _, (· = H), rfl, turn_l hl hτ h, ?_⟩
  rintro _ rfl
  refine Eq.mpr (congrArg (fun b => Q (V.bl b) _) (?_ : _ = xs.all q)) k
  unfold allN
  rw [← all_range xs q]
  congr 1
  funext i
  cases xs[i]? <;> rfl
theorem any_l {a : Addr} {xs : List V} (q : V → Bool) (hl : SqL K H a xs) (hP : H T = some (Tb T)) (hτ : τ[0]? = some none) (h : ∀ x ∈ xs, te (τ.set 0 (some x)) H fun v H5 => H5 = H ∧ v = .bl (q x)) (k : Q (.bl (xs.any q)) H) :
    H T = some (Tb T) ∧ ∃ n p G, G H ∧ gTurn (Itl K a) (gName 0) te τ G n p ∧ ∀ H2, G H2 → Q (.bl (anyN n p)) H2 := by
  refine ⟨hP, _, _, (· = H), rfl, turn_l hl hτ h, ?_⟩
  rintro _ rfl
  refine Eq.mpr (congrArg (fun b => Q (V.bl b) _) (?_ : _ = xs.any q)) k
  unfold anyN
  rw [← any_range xs q]
  congr 1
  funext i
  cases xs[i]? <;> rfl
theorem any_t {a : Addr} {xs : List V} (q : V → Bool) (hl : SqT K H a xs) (hP : H T = some (Tb T)) (hτ : τ[0]? = some none) (h : ∀ x ∈ xs, te (τ.set 0 (some x)) H fun v H5 => H5 = H ∧ v = .bl (q x)) (k : Q (.bl (xs.any q)) H) :
    H T = some (Tb T) ∧ ∃ n p G, G H ∧ gTurn (Itt K a) (gName 0) te τ G n p ∧ ∀ H2, G H2 → Q (.bl (anyN n p)) H2 := by
  refine ⟨hP, _, _, (· = H), rfl, turn_t hl hτ h, ?_⟩
  rintro _ rfl
  refine Eq.mpr (congrArg (fun b => Q (V.bl b) _) (?_ : _ = xs.any q)) k
  unfold anyN
  rw [← any_range xs q]
  congr 1
  funext i
  cases xs[i]? <;> rfl
end
theorem Same.upd {H : Hp} {p : Addr} {o : HO} (h : H p = none) : Same H (upd H p o) := fun b u e => by rw [upd_ne (ne_of_none e h)]; exact e
theorem Same.sqt {K : PySem.W.Frag} {H H' : Hp} {a : Addr} {xs : List V} (e : Same H H') (h : SqT K H a xs) : SqT K H' a xs := by
  rcases h with (h | ⟨o, h⟩) | h
  · exact .inl (.inl (e _ _ h))
  · exact .inl (.inr ⟨o, e _ _ h⟩)
  · exact .inr h
section
variable {H : Hp} {QB : Bool → Hp → Prop} {te : TE} {τ : St} {K : PySem.W.Frag} {T a : Addr} {xs : List V}
theorem all_lB (q : V → Bool) (hl : SqL K H a xs) (hP : H T = some (Tb T)) (hτ : τ[0]? = some none) (h : ∀ x ∈ xs, te (τ.set 0 (some x)) H fun v H5 => H5 = H ∧ v = .bl (q x)) (k : QB (xs.all q) H) :
    H T = some (Tb T) ∧ ∃ n p G, G H ∧ gTurn (Itl K a) (gName 0) te τ G n p ∧ ∀ H2, G H2 → ∃ k, V.bl (allN n p) = .bl k ∧ QB k H2 := all_l (Q := fun v H2 => ∃ k, v = .bl k ∧ QB k H2) q hl hP hτ h ⟨_, rfl, k⟩
theorem any_lB (q : V → Bool) (hl : SqL K H a xs) (hP : H T = some (Tb T)) (hτ : τ[0]? = some none) (h : ∀ x ∈ xs, te (τ.set 0 (some x)) H fun v H5 => H5 = H ∧ v = .bl (q x)) (k : QB (xs.any q) H) :
    H T = some (Tb T) ∧ ∃ n p G, G H ∧ gTurn (Itl K a) (gName 0) te τ G n p ∧ ∀ H2, G H2 → ∃ k, V.bl (anyN n p) = .bl k ∧ QB k H2 := any_l (Q := fun v H2 => ∃ k, v = .bl k ∧ QB k H2) q hl hP hτ h ⟨_, rfl, k⟩
theorem any_tB (q : V → Bool) (hl : SqT K H a xs) (hP : H T = some (Tb T)) (hτ : τ[0]? = some none) (h : ∀ x ∈ xs, te (τ.set 0 (some x)) H fun v H5 => H5 = H ∧ v = .bl (q x)) (k : QB (xs.any q) H) :
    H T = some (Tb T) ∧ ∃ n p G, G H ∧ gTurn (Itt K a) (gName 0) te τ G n p ∧ ∀ H2, G H2 → ∃ k, V.bl (anyN n p) = .bl k ∧ QB k H2 := any_t (Q := fun v H2 => ∃ k, v = .bl k ∧ QB k H2) q hl hP hτ h ⟨_, rfl, k⟩
end
/-- any of pairs (zip of two lists); the pairs are new objects -/
theorem any_z {K : PySem.W.Frag} {T a b : Addr} {H : Hp} {Q : VK} {te : TE} {xs ys : List V} {n : Nat} (p : Nat → Bool) (h1 : SqL K H a xs) (h2 : SqL K H b ys) (n1 : n ≤ xs.length) (n2 : n ≤ ys.length) (n3 : n = xs.length ∨ n = ys.length) (hP : H T = some (Tb T))
    (h : ∀ i x y H5, i < n → xs[i]? = some x → ys[i]? = some y → Same H H5 → te [some x, some y] H5 fun v H6 => Same H H6 ∧ v = .bl (p i)) (k : ∀ H2, Same H H2 → Q (.bl (anyN n p)) H2) :
    H T = some (Tb T) ∧ ∃ n p G, G H ∧ gTurn (Itz K a b) (gTup K 2 (gCons (gName 0) (gCons (gName 1) gNil))) te [none, none] G n p ∧ ∀ H2, G H2 → Q (.bl (anyN n p)) H2 := by
  refine ⟨hP, n, p, Same H, Same.refl H, fun H2 s2 => ⟨⟨xs, ys, s2.seq h1, s2.seq h2, ?_⟩, fun i hi => ⟨⟨xs, ys, xs[i], ys[i], s2.seq h1, s2.seq h2, List.getElem?_eq_getElem (by omega), List.getElem?_eq_getElem (by omega)⟩, ?_⟩⟩, k⟩
  · rcases n3 with e | e
    · exact .inl (List.getElem?_eq_none_iff.mpr (by omega))
    · exact .inr (List.getElem?_eq_none_iff.mpr (by omega))
  · rintro v H3 ⟨q, hq, rfl, x, y, rfl, e1, e2⟩
    have e1 := e1 xs (s2.seq h1)
    have e2 := e2 ys (s2.seq h2)
    refine ⟨q, [x, y], rfl, SqT.of upd_same, rfl, x, [y], rfl, y, [], rfl, rfl, fun j v hj => ?_, ?_⟩
    · match j, hj with
      | 0, hj => cases hj
      | 1, hj => cases hj
      | (_ + 2), hj => cases hj
    · exact h i x y _ hi e1 e2 (s2.trans (Same.upd hq))
theorem w_iZip {σ : St} {H : Hp} {K : PySem.W.Frag} {ta : TA} {R : It → Hp → Prop} (q : ta σ H fun vs H1 => ∃ a b, vs = [.ref a, .ref b] ∧ (∃ xs, SqL K H1 a xs) ∧ (∃ ys, SqL K H1 b ys) ∧ R (Itz K a b) H1) : iZip K ta σ H R := q
end L2
local macro_rules | `(tactic| array_get_dec) => `(tactic| (first
  | ((with_reducible refine L2.w_var (v := ?v) ?h ?_); (case h => exact rfl)) | ((with_reducible refine L2.w_mod ?h ?_); (case h => decide)) | ((with_reducible refine L2.w_I (C := L2.CDiv) ?h ?_); (case h => exact ⟨by decide, by decide⟩))
  | with_reducible refine L2.iteT ?_ | with_reducible refine L2.iteF ?_ | with_reducible refine L2.iteNT ?_ | with_reducible refine L2.iteNF ?_
  | with_reducible refine L2.w_op ?_ | with_reducible refine L2.w_C ?_ | with_reducible refine L2.w_I0 ?_ | with_reducible refine L2.w_un ?_ | with_reducible refine L2.w_U ?_ | with_reducible refine L2.w_eqi ?_ | with_reducible refine L2.w_nei ?_ | with_reducible refine L2.w_eqs ?_ | with_reducible refine L2.w_nes ?_ | with_reducible refine L2.w_neb ?_ | with_reducible refine L2.w_test ?_ | with_reducible refine L2.w_tB ?_ | with_reducible refine L2.w_k ?_ | with_reducible refine L2.w_and ?_ | with_reducible refine L2.w_or ?_ | with_reducible refine L2.w_not ?_ | with_reducible refine L2.w_andV ?_ | with_reducible refine L2.w_orV ?_ | with_reducible refine L2.w_notV ?_ | with_reducible refine L2.w_chain ?_ | with_reducible refine L2.w_nil ?_ | with_reducible refine L2.w_cons ?_ | with_reducible refine L2.w_call ?_ | with_reducible refine L2.w_CB ?_ | with_reducible refine L2.w_tup ?_ | with_reducible refine L2.w_lst ?_ | with_reducible refine L2.w_sl ?_ | with_reducible refine L2.w_noPart ?_ | with_reducible refine L2.w_part ?_ | with_reducible refine L2.w_ki ?_ | with_reducible refine L2.w_bm ?_ | with_reducible refine L2.w_bm0 ?_ | with_reducible refine L2.w_fld ?_ | with_reducible refine L2.w_seq ?_ | with_reducible refine L2.w_next ?_ | with_reducible refine L2.w_asg ?_ | with_reducible refine L2.w_setLC ?_ | with_reducible refine L2.w_ret ?_ | with_reducible refine L2.w_drop ?_ | with_reducible refine L2.w_if ?_ | with_reducible refine L2.w_sfld ?_ | with_reducible refine L2.w_for ?_ | with_reducible refine L2.w_iList ?_ | with_reducible refine L2.w_gName ?_ | with_reducible refine L2.w_raise ?_ | with_reducible refine L2.w_asgG ?_ | with_reducible refine L2.w_G ?_ | with_reducible refine L2.w_iStr ?_ | with_reducible refine L2.w_iTup ?_ | with_reducible refine L2.w_iZip ?_ | with_reducible refine L2.w_rng1 ?_))
namespace L2
open PySem PySem.Spec PyProof.Rows
/-! ### rules inside a block, the written part told -/
section
variable {X : Cx} (K : PySem.W.Frag)
theorem op_in_seqK (hK : X.K = K := by rfl) : OpR X (compareOp .In) (rIn K false) := by subst hK; exact op_in_seq
theorem pe_fldK {e : Expr} {f : Str} {pos : Pos} {ta : TE} (he : PE X e ta) (hb : attributeBase e f X.env (eval e X.env) = eval e X.env := by rfl) (hK : X.K = K := by rfl) : PE X (.Attribute e f pos) (tFld K ta f) := by subst hK; exact pe_fld he hb
theorem mt_countK (hK : X.K = K := by rfl) : MtR X "list.count" (rCount K) := by subst hK; exact mt_count
theorem pe_bmK {o e : Expr} {es : List Expr} {to : TE} {t : TA} {name : Str} {apos cpos : Pos} {T id : String} {r : V → List V → Hp → VK → Prop} (pa : PlainAttrs T) (slot : Slot T name id) (hty : typeOf (.builtin id) = pure (.type "method_descriptor")) (hm : MtR X id r) (ho : PE X o to) (ha : PA X (e :: es) t) (hK : X.K = K := by rfl)
    (hbase : attributeBase o name X.env (eval o X.env) = eval o X.env := by rfl)
    (hfew : ((backTo cpos (starEach (e :: es) X.env)).all (fun x => !x.1) && (backToKw cpos (keywordEach [] X.env)).all (fun x => x.1.isSome) && decide ((e :: es).length + ([] : List Keyword).length + (if ([] : List Keyword).isEmpty then 0 else 1) < 30)) = true := by rfl)
    (hline : (apos.endLine == cpos.line) = true := by rfl) (hs : starEach (e :: es) X.env = (false, eval e X.env) :: starEach es X.env := by rfl) (hplain : (backTo cpos (starEach es X.env)).any (·.1) = false := by rfl) :
    PE X (.Call (.Attribute o name apos) (e :: es) [] cpos) (tBM K T r to t) := by subst hK; exact pe_bm pa slot hty hm ho ha hbase hfew hline hs hplain
theorem pg_tupK {es : List Expr} {k : Nat} {t : TGs} {n : Nat} {pos : Pos} (hc : X.calm = true) (h : PGs X es t) (hK : X.K = K := by rfl)
    (hn : (assignEach es X.env).length = n := by rfl) (hst : (assignEach es X.env).findIdx? (·.1) = none := by rfl) : PG X (.Tuple es k pos) (gTup K n t) := by subst hK; exact pg_tup hc h hn hst
end
/-! ### arguments, cheaply -/
def notStar : Expr → Bool
  | .Starred _ _ => false
  | _ => true
theorem starEach_one {e : Expr} (h : notStar e = true) (es : List Expr) (env : Env) : starEach (e :: es) env = (false, eval e env) :: starEach es env := by
  cases e <;> first | rfl | cases h
theorem pa_c {X : Cx} {e : Expr} {es : List Expr} {te : TE} {t : TA} (ha : PE X e te) (hr : PA X es t) (h : notStar e = true := by rfl) : PA X (e :: es) (tCons te t) := pa_cons ha hr (starEach_one h es X.env)
/-- arguments that are written numbers and texts -/
def cV : Expr → Option V
  | .Constant (.int i) _ _ => some (.int i)
  | .Constant (.str x) _ _ => some (.str x)
  | _ => none
def tK (vs : List V) : TA := fun _ H Q => Q vs H
theorem pa_k {X : Cx} : ∀ {es : List Expr} {vs : List V}, es.map cV = vs.map some → PA X es (tK vs)
  | [], [], _ => pa_nil
  | [], _ :: _, h => by cases h
  | _ :: _, [], h => by cases h
  | e :: es, v :: vs, h => by
    rw [List.map_cons, List.map_cons] at h
    injection h with h1 h2
    have hr : PA X es (tK vs) := pa_k h2
    have go : ∀ {te : TE}, PE X e te → notStar e = true → (∀ σ H (Q : VK), Q v H → te σ H Q) → PA X (e :: es) (tK (v :: vs)) := fun {te} hp hs ht pos pins s σ H Q I q => pa_c hp hr hs pos pins s σ H Q I (show te σ H fun x H1 => tK vs σ H1 fun xs H2 => Q (x :: xs) H2 from ht _ _ _ q)
    cases e with
    | Constant c j pos =>
      cases c with
      | int i => cases h1; exact go pe_int rfl fun _ _ _ q => q
      | str x => cases h1; exact go pe_str rfl fun _ _ _ q => q
      | _ => cases h1
    | _ => cases h1
theorem pe_lstK {X : Cx} {es : List Expr} {pos : Pos} (vs : List V) (h : es.map cV = vs.map some := by rfl) : PE X (.List es pos) (tLst (tK vs)) := pe_lst (pa_k h)
theorem w_tK {vs : List V} {σ : St} {H : Hp} {QA : List V → Hp → Prop} (q : QA vs H) : tK vs σ H QA := q
end L2
local macro_rules | `(tactic| array_get_dec) => `(tactic| with_reducible refine L2.w_tK ?_)
namespace L2
open PySem PySem.Spec PyProof.Rows
/-! ### defs, with the code object told -/
structure Df (K : PySem.W.Frag) (mg : Str → Option Value) (x qual : Str) (st : Stmt) (ps : List Str) where
  f : Addr
  fd : FuncData
  cdv : Value
  ex : ∃ (oc : Value) (od : Option Addr) (kV doc pm : Value) (an : Option Addr) (ct : Value) (osl : Array (Option Value)),
    fd = PySem.W.fnOf x qual (defArgs st) (defBody st) (defScope st) .none kV doc pm an cdv ct ∧ K.lookup f = some ⟨oc, od, .func fd, osl⟩ ∧ PySem.W.codeIn K cdv qual = true
  kp : PySem.W.keepIn K (.ref f) = true
  mg : mg x = some (.ref f)
  bd : Binds K fd ps []
/-- a method -/
structure DfM (K : PySem.W.Frag) (x qual : Str) (st : Stmt) (ps : List Str) where
  f : Addr
  fd : FuncData
  cdv : Value
  ex : ∃ (oc : Value) (od : Option Addr) (kV doc pm : Value) (an : Option Addr) (ct : Value) (osl : Array (Option Value)),
    fd = PySem.W.fnOf x qual (defArgs st) (defBody st) (defScope st) .none kV doc pm an cdv ct ∧ K.lookup f = some ⟨oc, od, .func fd, osl⟩ ∧ PySem.W.codeIn K cdv qual = true
  kp : PySem.W.keepIn K (.ref f) = true
  bd : Binds K fd ps []
section
variable {P : Program} {w : World} {K : PySem.W.Frag} {mg : Str → Option Value} {base : Heap} {x qual : Str} {st : Stmt} {N ps : List Str} {k : Nat} {sp : Sp}
/-- a def out of which no exception comes -/
theorem Df.ok {f : Addr} {fd : FuncData} {cdv : Value} (ex : ∃ (oc : Value) (od : Option Addr) (kV doc pm : Value) (an : Option Addr) (ct : Value) (osl : Array (Option Value)),
    fd = PySem.W.fnOf x qual (defArgs st) (defBody st) (defScope st) .none kV doc pm an cdv ct ∧ K.lookup f = some ⟨oc, od, .func fd, osl⟩ ∧ PySem.W.codeIn K cdv qual = true) (S : FnScope N ps (defScope st)) (len : ∀ vs H Q E, sp vs H Q E → vs.length = ps.length)
    (hbody : ∀ (A : Around) (outer : List Env) (s : Shared) (H : Hp) (vs : List V) (Q : VK) (E : XK), Room k (A.deeper (envOfC qual (defScope st) s.heap.objs.size f cdv)) → sp vs H Q E →
      ∃ t, PSs (cxOf CX0 P w K mg base N qual (defScope st) f cdv A outer s H E).nox (defBody st) t ∧ t ⟨fun _ H' => Q .non H', Q, fun _ _ => False, fun _ _ => False⟩ (start N vs) H) : FnOk P w K mg base CX0 (k + 1) f fd ps sp := by
  obtain ⟨oc, od, kV, doc, pm, an, ct, osl, rfl, lk, hcd⟩ := ex
  refine fn_of lk hcd S len fun A outer s H vs Q E hr hsp => ?_
  obtain ⟨t, h, q⟩ := hbody A outer s H vs Q E hr hsp
  exact ⟨t, h.nox, q⟩
/-- a def that may raise -/
theorem Df.okE {f : Addr} {fd : FuncData} {cdv : Value} (ex : ∃ (oc : Value) (od : Option Addr) (kV doc pm : Value) (an : Option Addr) (ct : Value) (osl : Array (Option Value)),
    fd = PySem.W.fnOf x qual (defArgs st) (defBody st) (defScope st) .none kV doc pm an cdv ct ∧ K.lookup f = some ⟨oc, od, .func fd, osl⟩ ∧ PySem.W.codeIn K cdv qual = true) (S : FnScope N ps (defScope st)) (len : ∀ vs H Q E, sp vs H Q E → vs.length = ps.length)
    (hbody : ∀ (A : Around) (outer : List Env) (s : Shared) (H : Hp) (vs : List V) (Q : VK) (E : XK), Room k (A.deeper (envOfC qual (defScope st) s.heap.objs.size f cdv)) → sp vs H Q E →
      ∃ t, PSs (cxOf (CXE P w) P w K mg base N qual (defScope st) f cdv A outer s H E) (defBody st) t ∧ t ⟨fun _ H' => Q .non H', Q, fun _ _ => False, fun _ _ => False⟩ (start N vs) H) : FnOk P w K mg base (CXE P w) (k + 1) f fd ps sp := by
  obtain ⟨oc, od, kV, doc, pm, an, ct, osl, rfl, lk, hcd⟩ := ex
  exact fn_of lk hcd S len fun A outer s H vs Q E hr hsp => hbody A outer s H vs Q E hr hsp
end
end L2

namespace L2
open PySem PySem.Spec PyProof.Rows
/-- an iterator that tells src 0, .., src (n - 1), whatever is made besides -/
def Tells (J : It) (H : Hp) (n : Nat) (src : Nat → V) : Prop := ∀ H2, Same H H2 → J.stop n H2 ∧ ∀ i, i < n → J.go i H2 ∧ ∀ x H3, J.yld i H2 x H3 → H3 = H2 ∧ x = src i
section
variable {K : PySem.W.Frag} {H : Hp} {a : Addr} {xs : List V}
theorem tells_l (h : SqL K H a xs) : Tells (Itl K a) H xs.length fun i => xs.getD i .non := fun H2 s => by
  have hl := s.seq h
  refine ⟨⟨xs, hl, Nat.le_refl _⟩, fun i hi => ⟨⟨xs, xs[i], hl, List.getElem?_eq_getElem hi⟩, ?_⟩⟩
  rintro x H3 ⟨rfl, hx⟩
  exact ⟨rfl, by simp [List.getD, hx xs hl]⟩
theorem tells_t (h : SqT K H a xs) : Tells (Itt K a) H xs.length fun i => xs.getD i .non := fun H2 s => by
  have hl := s.sqt h
  refine ⟨⟨xs, hl, Nat.le_refl _⟩, fun i hi => ⟨⟨xs, xs[i], hl, List.getElem?_eq_getElem hi⟩, ?_⟩⟩
  rintro x H3 ⟨rfl, hx⟩
  exact ⟨rfl, by simp [List.getD, hx xs hl]⟩
theorem tells_r {lo : Int} {n : Nat} : Tells (Itr lo n) H n fun i => .int (lo + i) := fun H2 s => by
  refine ⟨Nat.le_refl _, fun i hi => ⟨hi, ?_⟩⟩
  rintro x H3 ⟨rfl, rfl⟩
  exact ⟨rfl, rfl⟩
end
/-- what stands behind one turn -/
theorem lcFin {H H2 H6 : Hp} {D : Addr} {ys zs : List V} {R : Prop} (hD : H D = none) (s : Same H H2) (e : H2 D = some (.lst ys)) (s6 : Same H2 H6) (r : R) : H6 D = some (.lst ys) ∧ Same H (upd H6 D (.lst zs)) ∧ R :=
  ⟨s6 _ _ e, fun b o h => by rw [upd_ne (ne_of_none h hD)]; exact s6 _ _ (s _ _ h), r⟩
/-- a comprehension, what was there kept; R: what is known of the items made -/
theorem lcG {nN : Nat} {fs : List (Nat × Nat)} {g : TG} {tc : TT} {te : TE} {σ : St} {H : Hp} {QD : Addr → Hp → Prop} {J : It} {n : Nat} {src : Nat → V} (R : Nat → List V → Prop) (hJ : Tells J H n src) (hn : n ≤ sizeLine) (h0 : R 0 [])
    (ht : ∀ D i ys H2, i < n → H D = none → Same H H2 → H2 D = some (.lst ys) → R i ys → g (src i) (tau nN fs σ) H2 fun τ4 H4 => (∀ (j : Nat) v, (tau nN fs σ)[j]? = some (some v) → τ4[j]? = some (some v)) ∧ tc τ4 H4 fun b H5 =>
      if b = true then te τ4 H5 fun v H6 => H6 D = some (.lst ys) ∧ Same H (upd H6 D (.lst (ys ++ [v]))) ∧ R (i + 1) (ys ++ [v]) else H5 D = some (.lst ys) ∧ Same H H5 ∧ R (i + 1) ys)
    (hQ : ∀ D H2 ys, H D = none → Same H H2 → H2 D = some (.lst ys) → R n ys → QD D H2) :
    ∀ D, H D = none → ∃ (n : Nat) (W : Nat → List V → Hp → Prop), n ≤ sizeLine ∧ W 0 [] (upd H D (.lst [])) ∧
      ∀ i ys H2, i ≤ n → W i ys H2 → H2 D = some (.lst ys) → (J.stop i H2 ∧ QD D H2) ∨ (i < n ∧ J.go i H2 ∧ ∀ x H3, J.yld i H2 x H3 → g x (tau nN fs σ) H3 fun τ4 H4 =>
        (∀ (j : Nat) v, (tau nN fs σ)[j]? = some (some v) → τ4[j]? = some (some v)) ∧ tc τ4 H4 fun b H5 =>
          if b = true then te τ4 H5 fun v H6 => H6 D = some (.lst ys) ∧ W (i + 1) (ys ++ [v]) (upd H6 D (.lst (ys ++ [v]))) else H5 D = some (.lst ys) ∧ W (i + 1) ys H5) := by
  intro D hD
  refine ⟨n, fun i ys H2 => Same H H2 ∧ R i ys, hn, ⟨Same.upd hD, h0⟩, ?_⟩
  rintro i ys H2 hi ⟨s2, r⟩ e
  obtain ⟨h1, h2⟩ := hJ H2 s2
  rcases Nat.lt_or_ge i n with hlt | hge
  · refine .inr ⟨hlt, (h2 i hlt).1, fun x H3 y => ?_⟩
    obtain ⟨rfl, rfl⟩ := (h2 i hlt).2 x H3 y
    exact ht D i ys H3 hlt hD s2 e r
  · have : i = n := by omega
    subst this
    exact .inl ⟨h1, hQ D H2 ys hD s2 e r⟩
theorem w_LC {nN : Nat} {fs : List (Nat × Nat)} {wi : TI} {g : TG} {tc : TT} {te : TE} {σ : St} {H : Hp} {Q : VK} (q : wi σ H fun J H1 => ∀ D, H1 D = none → ∃ (n : Nat) (W : Nat → List V → Hp → Prop), n ≤ sizeLine ∧ W 0 [] (upd H1 D (.lst [])) ∧
  ∀ i ys H2, i ≤ n → W i ys H2 → H2 D = some (.lst ys) → (J.stop i H2 ∧ Q (.ref D) H2) ∨ (i < n ∧ J.go i H2 ∧ ∀ x H3, J.yld i H2 x H3 → g x (tau nN fs σ) H3 fun τ4 H4 =>
    (∀ (j : Nat) v, (tau nN fs σ)[j]? = some (some v) → τ4[j]? = some (some v)) ∧ tc τ4 H4 fun b H5 =>
      if b = true then te τ4 H5 fun v H6 => H6 D = some (.lst ys) ∧ W (i + 1) (ys ++ [v]) (upd H6 D (.lst (ys ++ [v]))) else H5 D = some (.lst ys) ∧ W (i + 1) ys H5)) : tLC nN fs wi g tc te σ H Q := q
theorem w_yes {σ : St} {H : Hp} {QB : Bool → Hp → Prop} (q : QB true H) : tYes σ H QB := q
end L2
local macro_rules | `(tactic| array_get_dec) => `(tactic| first | with_reducible refine L2.w_LC ?_ | with_reducible refine L2.w_yes ?_)
namespace L2
open PySem PySem.Spec PyProof.Rows
/-- the mono side of a turn whose target is the first name -/
theorem mono0 {τ : St} {x : V} (h : τ[0]? = some none) : ∀ (j : Nat) v, τ[j]? = some (some v) → (τ.set 0 (some x))[j]? = some (some v) := fun j v hj => by
  by_cases z : j = 0
  · subst z; rw [h] at hj; cases hj
  · rw [List.getElem?_set_ne (Ne.symm z)]; exact hj
/-! ### items -/
theorem atI_in {α : Type} {xs : List α} {i : Int} (h0 : 0 ≤ i) (h1 : i < xs.length) : ∃ v, v ∈ xs ∧ atI xs i = some v := by
  have hj : i.toNat < xs.length := by omega
  refine ⟨xs[i.toNat], List.getElem_mem hj, ?_⟩
  have e := atI_nat (xs := xs) (j := i.toNat) (List.getElem?_eq_getElem hj)
  rw [Int.toNat_of_nonneg h0] at e
  exact e
/-! ### loops, the ends told one by one -/
section
variable {g : TG} {tb : TS} {nx : St → Hp → Prop} {rt : VK} {σ : St} {H : Hp}
theorem forL {K : PySem.W.Frag} {a : Addr} {xs : List V} (Pv : Nat → St → Hp → Prop) (h0 : Pv 0 σ H) (hl : ∀ i σ H, i ≤ xs.length → Pv i σ H → SqL K H a xs)
    (hs : ∀ i x σ H, xs[i]? = some x → Pv i σ H → g x σ H fun σ2 H2 => tb ⟨Pv (i + 1), rt, nx, Pv (i + 1)⟩ σ2 H2) (hd : ∀ σ H, Pv xs.length σ H → nx σ H) :
    ∃ W : Nat → Nat → St → Hp → Prop, (∃ m, W 0 m σ H) ∧ ∀ i m σ H, W i m σ H →
      ((Itl K a).stop i H ∧ nx σ H) ∨ ((Itl K a).go i H ∧ ∃ N : St → Hp → Prop, (∀ σ' H', N σ' H' → ∃ m', m' < m ∧ W (i + 1) m' σ' H') ∧ ∀ x H', (Itl K a).yld i H x H' → g x σ H' fun σ2 H2 => tb ⟨N, rt, nx, N⟩ σ2 H2) := for_list (D := ⟨nx, rt, fun _ _ => False, fun _ _ => False⟩) Pv h0 hl hs hd
theorem forR {lo : Int} {n : Nat} (Pv : Nat → St → Hp → Prop) (h0 : Pv 0 σ H)
    (hs : ∀ i σ H, i < n → Pv i σ H → g (.int (lo + i)) σ H fun σ2 H2 => tb ⟨Pv (i + 1), rt, nx, Pv (i + 1)⟩ σ2 H2) (hd : ∀ σ H, Pv n σ H → nx σ H) :
    ∃ W : Nat → Nat → St → Hp → Prop, (∃ m, W 0 m σ H) ∧ ∀ i m σ H, W i m σ H →
      ((Itr lo n).stop i H ∧ nx σ H) ∨ ((Itr lo n).go i H ∧ ∃ N : St → Hp → Prop, (∀ σ' H', N σ' H' → ∃ m', m' < m ∧ W (i + 1) m' σ' H') ∧ ∀ x H', (Itr lo n).yld i H x H' → g x σ H' fun σ2 H2 => tb ⟨N, rt, nx, N⟩ σ2 H2) := for_range (D := ⟨nx, rt, fun _ _ => False, fun _ _ => False⟩) Pv h0 hs hd
end
/-! ### tests and values that leave what was there -/
section
variable {tt uu : TT} {te : TE} {σ : St} {H : Hp} {a b : Bool} {v : V}
end
end L2
local macro_rules | `(tactic| array_mem_dec) => `(tactic| (first
  | ((with_reducible refine L2.w_var (v := ?v) ?h ?_); (case h => exact rfl)) | ((with_reducible refine L2.w_mod ?h ?_); (case h => decide)) | ((with_reducible refine L2.w_I (C := L2.CDiv) ?h ?_); (case h => exact ⟨by decide, by decide⟩))
  | with_reducible refine L2.iteT ?_ | with_reducible refine L2.iteF ?_ | with_reducible refine L2.iteNT ?_ | with_reducible refine L2.iteNF ?_
  | with_reducible refine L2.w_op ?_ | with_reducible refine L2.w_C ?_ | with_reducible refine L2.w_I0 ?_ | with_reducible refine L2.w_un ?_ | with_reducible refine L2.w_U ?_ | with_reducible refine L2.w_eqi ?_ | with_reducible refine L2.w_nei ?_ | with_reducible refine L2.w_eqs ?_ | with_reducible refine L2.w_nes ?_ | with_reducible refine L2.w_neb ?_ | with_reducible refine L2.w_test ?_ | with_reducible refine L2.w_tB ?_ | with_reducible refine L2.w_k ?_ | with_reducible refine L2.w_and ?_ | with_reducible refine L2.w_or ?_ | with_reducible refine L2.w_not ?_ | with_reducible refine L2.w_andV ?_ | with_reducible refine L2.w_orV ?_ | with_reducible refine L2.w_notV ?_ | with_reducible refine L2.w_chain ?_ | with_reducible refine L2.w_nil ?_ | with_reducible refine L2.w_cons ?_ | with_reducible refine L2.w_call ?_ | with_reducible refine L2.w_CB ?_ | with_reducible refine L2.w_tup ?_ | with_reducible refine L2.w_lst ?_ | with_reducible refine L2.w_sl ?_ | with_reducible refine L2.w_noPart ?_ | with_reducible refine L2.w_part ?_ | with_reducible refine L2.w_ki ?_ | with_reducible refine L2.w_bm ?_ | with_reducible refine L2.w_bm0 ?_ | with_reducible refine L2.w_fld ?_ | with_reducible refine L2.w_seq ?_ | with_reducible refine L2.w_next ?_ | with_reducible refine L2.w_asg ?_ | with_reducible refine L2.w_setLC ?_ | with_reducible refine L2.w_ret ?_ | with_reducible refine L2.w_drop ?_ | with_reducible refine L2.w_sfld ?_ | with_reducible refine L2.w_for ?_ | with_reducible refine L2.w_iList ?_ | with_reducible refine L2.w_gName ?_ | with_reducible refine L2.w_raise ?_ | with_reducible refine L2.w_asgG ?_ | with_reducible refine L2.w_LC ?_ | with_reducible refine L2.w_yes ?_ | with_reducible refine L2.w_G ?_ | with_reducible refine L2.w_iStr ?_ | with_reducible refine L2.w_iTup ?_ | with_reducible refine L2.w_iZip ?_ | with_reducible refine L2.w_rng1 ?_))
namespace L2
open PySem PySem.Spec PyProof.Rows
end L2

namespace L2
open PySem PySem.Spec PyProof.Rows
/-! ### weak promises: a list of at most n texts of at most 40 signs -/
def SL (H : Hp) (l : Addr) (ys : List Str) (n : Nat) : Prop := H l = some (.lst (ys.map .str)) ∧ (∀ y ∈ ys, y.length ≤ 40) ∧ ys.length ≤ n
theorem SL.same {H H' : Hp} {l : Addr} {ys : List Str} {n : Nat} (h : SL H l ys n) (s : Same H H') : SL H' l ys n := ⟨s _ _ h.1, h.2⟩
theorem SL.le {H : Hp} {l : Addr} {ys : List Str} {n m : Nat} (h : SL H l ys n) (s : n ≤ m) : SL H l ys m := ⟨h.1, h.2.1, Nat.le_trans h.2.2 s⟩
def RLs (t : TE) (σ : St) (H : Hp) (n : Nat) : Prop := ∀ H', Same H H' → ∀ Q : VK, (∀ H2 l ys, Same H' H2 → SL H2 l ys n → Q (.ref l) H2) → t σ H' Q
section
variable {K : PySem.W.Frag} {σ : St} {H : Hp} {ta tb te : TE} {tA : TA} {n m k : Nat}
theorem RLs.same {H' : Hp} (h : RLs te σ H n) (s : Same H H') : RLs te σ H' n := fun H2 s2 => h H2 (s.trans s2)
/-! lists of such lists -/
def Txs (H : Hp) (v : V) : Prop := ∃ l ys, v = .ref l ∧ SL H l ys 100
theorem Txs.same {H H' : Hp} {v : V} (h : Txs H v) (s : Same H H') : Txs H' v := let ⟨l, ys, e, q⟩ := h; ⟨l, ys, e, q.same s⟩
def LLs (H : Hp) (p : Addr) (k : Nat) : Prop := ∃ xs, H p = some (.lst xs) ∧ xs.length = k ∧ ∀ v ∈ xs, Txs H v
theorem LLs.same {H H' : Hp} {p : Addr} (h : LLs H p k) (s : Same H H') : LLs H' p k := let ⟨xs, a, b, c⟩ := h; ⟨xs, s _ _ a, b, fun v hv => (c v hv).same s⟩
end
end L2

namespace L2
open PySem PySem.Spec PyProof.Rows
/-- what is tracked at the head: the script (or nothing of it), and code tables -/
def hT (a : Addr) (oa : Option HO) (ts : List Addr) : Hp := fun b => if b = a then oa else if b ∈ ts then some (Tb b) else none
theorem law_callT {P : Program} {w : World} {K : PySem.W.Frag} {mg mb : Str → Option Value} {CX : CXT} {k : Nat} {fa a : Addr} {fd : FuncData} {x : Str} {sp : Sp} {s₁ : Shared} {vs : List Value} {ns : List Int} (ts : List Addr)
    (KX : K.In s₁.heap) (hns : s₁.heap.Ns mainGlobals mg) (hb : s₁.heap.Ns builtinsNs mb) (hbb : ∀ x : Str, x ≠ "__name__" → mb x = bootBuiltins x) (hlim : s₁.heap.NoLimit) (hg : s₁.gens = #[])
    (ha : s₁.heap.get? a = some { cls := .type "list", data := .seq vs.toArray }) (hi : IntsAre vs ns) (hl : ns.length ≤ sizeLine) (hr : Room k callerA) (hK : PySem.W.noTabs K = true)
    (hT0 : ∀ t ∈ ts, (∃ c, PySem.W.CodeHd s₁.heap c t) ∧ s₁.heap.get? t = some (PySem.W.tabObj #[]))
    (hbm : ∃ bm ob, mg "__builtins__" = some (.ref bm) ∧ bm ≠ builtinsNs ∧ s₁.heap.get? bm = some ob ∧ ob.cls = .type "module" ∧ ob.dict = some builtinsNs ∧ ob.data = .plain)
    (F : ∀ base : Heap, K.In base → base.Ns mainGlobals mg → BltK base → FnOk P w K mg base CX k fa fd [x] sp) (hbind : ∀ (s : Shared) (u : Value), BindsTo s fd ⟨[u], []⟩ [(x, u)])
    (hsp : ∀ H : Hp, (∀ t ∈ ts, H t = some (Tb t)) → SqL K H a (ns.map V.int) → sp [.ref a] H (fun v H' => v = .bl true ∧ ∀ t ∈ ts, H' t = some (Tb t)) fun _ _ _ => False)
    (hCX : ∀ H e s', CX [] H s₁ (fun _ _ _ => False) e s' → False) :
    codeAny (model P w) callerA (.call (.ref fa) ⟨[.ref a], []⟩) (fun r s' => r = .ok (.ret (.bool true)) ∧ OldK s₁.heap s'.heap ∧ s'.os = s₁.os ∧ AllBare s'.gens) s₁ := by
  have rv := vals_ints hi
  have lenV := hi.length
  have nat : ∀ t ∈ ts, t ≠ a := fun t ht e => by
    have := (hT0 t ht).2
    rw [e, ha] at this
    have := congrArg Obj.cls (Option.some.inj this)
    cases this
  have core : ∀ oa : Option HO, (oa = none ∨ (K.lookup a = none ∧ ∃ xs, oa = some (.frz { cls := .type "list", data := .seq vs.toArray } (.lst xs)))) → SqL K (hT a oa ts) a (ns.map V.int) → (∀ o, oa = some o → ObjOk P w (hT a oa ts) s₁.heap a o) →
      codeAny (model P w) callerA (.call (.ref fa) ⟨[.ref a], []⟩) (fun r s' => r = .ok (.ret (.bool true)) ∧ OldK s₁.heap s'.heap ∧ s'.os = s₁.os ∧ AllBare s'.gens) s₁ := by
    intro oa hO hS hoa
    have hTs : ∀ t ∈ ts, hT a oa ts t = some (Tb t) := fun t ht => by unfold hT; rw [if_neg (nat t ht), if_pos ht]
    have kinds : ∀ b, hT a oa ts b = none ∨ (b = a ∧ ∃ o, oa = some o ∧ hT a oa ts b = some o) ∨ (b ∈ ts ∧ hT a oa ts b = some (Tb b)) := fun b => by
      by_cases e : b = a
      · have hv : hT a oa ts b = oa := by unfold hT; rw [if_pos e]
        cases q : oa with
        | none => left; rw [← q, hv, q]
        | some o => right; left; exact ⟨e, o, rfl, by rw [← q, hv, q]⟩
      · by_cases m : b ∈ ts
        · exact .inr (.inr ⟨m, hTs b m⟩)
        · left; unfold hT; rw [if_neg e, if_neg m]
    have hok : HOk P w (hT a oa ts) s₁.heap := fun b o e => by
      rcases kinds b with z | ⟨rfl, o', e1, z⟩ | ⟨m, z⟩
      · rw [z] at e; cases e
      · rw [z] at e; cases e
        exact hoa _ e1
      · rw [z] at e; cases e
        exact ⟨⟨#[], (hT0 b m).2, trivial⟩, ⟨_, (hT0 b m).2⟩, tabφ_stay⟩
    have free : ∀ {b : Addr} {o : Obj}, s₁.heap.get? b = some o → o.data ≠ .seq vs.toArray 0 → o.data ≠ .fields #[] → hT a oa ts b = none := fun {b o} e n1 n2 => by
      rcases kinds b with z | ⟨rfl, o', e1, z⟩ | ⟨m, z⟩
      · exact z
      · rw [ha] at e; cases e
        exact absurd rfl n1
      · rw [(hT0 b m).2] at e; cases e
        exact absurd rfl n2
    have nsK : ∀ {b : Addr} {m : Str → Option Value}, s₁.heap.Ns b m → (hidT s₁.heap (hT a oa ts)).Ns b m := fun {b m} ⟨o, es, ep, e, d, r⟩ => ⟨o, es, ep, hidT_get e (free e (by rw [d]; simp) (by rw [d]; simp)), d, r⟩
    have hKb : K.In (hidT s₁.heap (hT a oa ts)) := fun b o e => hidT_get (KX b o e) (by
      rcases kinds b with z | ⟨rfl, o', e1, z⟩ | ⟨m, z⟩
      · exact z
      · rcases hO with q | ⟨q, _⟩
        · rw [q] at e1; cases e1
        · rw [q] at e; cases e
      · have e2 := KX b o e
        rw [(hT0 b m).2] at e2
        have h2 := List.all_eq_true.mp hK (b, o) (PySem.W.mem_of_lookupK e)
        cases e2
        exact absurd (show false = true from h2) Bool.false_ne_true)
    have hM : Mod K mg (hidT s₁.heap (hT a oa ts)) := ⟨hKb, nsK hns, ⟨mb, nsK hb, hbb⟩, let ⟨mc, h1, h2⟩ := hlim; ⟨mc, nsK h1, h2⟩⟩
    have hB : BltK (hidT s₁.heap (hT a oa ts)) := by
      obtain ⟨bm, ob, e1, e2, e3, e4, e5, e6⟩ := hbm
      exact bltK_of (nsK hns) e1 e2 (hidT_get e3 (free e3 (by rw [e6]; simp) (by rw [e6]; simp))) e4 e5 e6
    have e0 : Env0 P w K mg (hidT s₁.heap (hT a oa ts)) callerA [] s₁ (hT a oa ts) := ⟨rfl, hM, fun b o e => of_hidT e, Nat.le_of_eq (hidT_size _ _), trivial, fun b hb => absurd (show b ∈ ([] : List Addr) from hb) (by simp), hok, .of_eq hg⟩
    refine codeAny_mono ((F _ hKb (nsK hns) hB).run callerA [] s₁ _ ⟨[.ref a], []⟩ [.ref a] [.ref a] _ _ hr e0 (hbind s₁ (.ref a)) (.cons rfl .nil) (hsp _ hTs hS)) fun r s' h => ?_
    cases r with
    | error e => exact (hCX _ e s' h).elim
    | ok fl =>
      cases fl with
      | next => exact False.elim h
      | brk => exact False.elim h
      | cont => exact False.elim h
      | ret u =>
        obtain ⟨v, H', os, bare, un, hok', r', q⟩ := h
        obtain ⟨q1, q2⟩ := q
        subst q1
        obtain rfl : u = Value.bool true := r'
        have keep : ∀ b o, s₁.heap.get? b = some o → b ∉ ts → s'.heap.get? b = some o := fun b o e m => by
          rcases kinds b with z | ⟨rfl, o', e1, z⟩ | ⟨m', _⟩
          · exact un.keep b o e z (by intro z; exact absurd (show b ∈ ([] : List Addr) from z) (by simp)) (by simp)
          · rcases hO with q | ⟨_, xs, q⟩
            · rw [q] at e1; cases e1
            · rw [q] at e1; cases e1
              have z2 := un.frzs b _ _ z
              obtain ⟨g1, _⟩ := hok b _ z
              obtain ⟨g2, _⟩ := hok' b _ z2
              rw [e] at g1; cases g1
              exact g2
          · exact absurd m' m
        refine ⟨rfl, ⟨fun b o e => ?_, fun b o e => ?_⟩, os, bare⟩
        · by_cases m : b ∈ ts
          · obtain ⟨⟨ps, g, _⟩, _⟩ := hok' b _ (q2 b m)
            obtain ⟨⟨c, hc⟩, hp⟩ := hT0 b m
            rw [hp] at e; cases e
            refine .inr (.inl ⟨?_, rfl, #[], ps, rfl, ?_⟩)
            · obtain ⟨o, vs', _, _, _, _, _, _, _, e1, e2, e3, e4, _⟩ := hc
              exact ⟨c, o, vs', e1, e2, e3, e4⟩
            · rw [g]; simp
          · exact .inl (keep b o e m)
        · by_cases m : b ∈ ts
          · obtain ⟨⟨ps, g, _⟩, _⟩ := hok' b _ (q2 b m)
            exact ⟨_, g⟩
          · exact ⟨o, keep b o e m⟩
  cases hk : K.lookup a with
  | some o =>
    have e := KX a o hk
    rw [ha] at e
    cases e
    refine core none (.inl rfl) (.inr ⟨_, vs.toArray, _, hk, rfl, rfl, rfl, by rw [List.size_toArray, lenV]; exact hl, by simpa using rv⟩) fun o z => by cases z
  | none =>
    have hv : hT a (some (.frz { cls := .type "list", data := .seq vs.toArray } (.lst (ns.map V.int)))) ts a = some (.frz { cls := .type "list", data := .seq vs.toArray } (.lst (ns.map V.int))) := by unfold hT; rw [if_pos rfl]
    refine core (some (.frz { cls := .type "list", data := .seq vs.toArray } (.lst (ns.map V.int)))) (.inr ⟨hk, _, rfl⟩) (.inl (.inr ⟨_, hv⟩)) fun o z => ?_
    cases z
    exact ⟨ha, by rw [List.length_map]; exact hl, vs, _, rv, ha⟩
end L2

namespace L2
open PySem PySem.Spec PyProof.Rows
/-! ### lists of pairs as tables -/
section
variable {κ : Type} [DecidableEq κ]
def valV (kvs : List (κ × V)) (k : κ) : Option V := (kvs.find? fun kv => decide (kv.1 = k)).map (·.2)
/-- in its place, or at the end -/
def putK (kvs : List (κ × V)) (k : κ) (v : V) : List (κ × V) :=
  if (kvs.any fun kv => decide (kv.1 = k)) = true then kvs.map (fun kv => if kv.1 = k then (kv.1, v) else kv) else kvs ++ [(k, v)]
def dropK (kvs : List (κ × V)) (k : κ) : List (κ × V) := kvs.filter fun kv => decide (kv.1 ≠ k)

theorem valV_pos {p : κ × V} {r : List (κ × V)} {k : κ} (e : p.1 = k) : valV (p :: r) k = some p.2 := by simp [valV, List.find?_cons, e]
theorem valV_neg {p : κ × V} {r : List (κ × V)} {k : κ} (e : ¬ p.1 = k) : valV (p :: r) k = valV r k := by simp [valV, List.find?_cons, e]
theorem valV_any (k : κ) : ∀ kvs : List (κ × V), (kvs.any fun kv => decide (kv.1 = k)) = (valV kvs k).isSome
  | [] => rfl
  | p :: r => by
    rw [List.any_cons]
    by_cases e : p.1 = k
    · simp only [valV_pos e, decide_eq_true e, Bool.true_or, Option.isSome_some]
    · rw [valV_neg e, decide_eq_false e, Bool.false_or]; exact valV_any k r
theorem valV_map (k j : κ) (y : V) : ∀ kvs : List (κ × V), valV (kvs.map fun kv => if kv.1 = k then (kv.1, y) else kv) j = (valV kvs j).map fun x => if j = k then y else x
  | [] => rfl
  | p :: r => by
    have ih := valV_map k j y r
    rw [List.map_cons]
    by_cases h : p.1 = k
    · rw [if_pos h]
      by_cases e : p.1 = j
      · rw [valV_pos (p := (p.1, y)) e, valV_pos e, Option.map_some, if_pos (e.symm.trans h)]
      · rw [valV_neg (p := (p.1, y)) e, valV_neg e, ih]
    · rw [if_neg h]
      by_cases e : p.1 = j
      · rw [valV_pos (p := p) e, valV_pos e, Option.map_some, if_neg (fun z => h (e.trans z))]
      · rw [valV_neg (p := p) e, valV_neg e, ih]
theorem valV_snoc (k j : κ) (y : V) : ∀ kvs : List (κ × V), valV kvs k = none → valV (kvs ++ [(k, y)]) j = if j = k then some y else valV kvs j
  | [], _ => by
    by_cases e : k = j
    · rw [if_pos e.symm]; exact valV_pos (p := (k, y)) e
    · rw [if_neg (fun z => e z.symm)]; exact valV_neg (p := (k, y)) e
  | p :: r, hn => by
    rw [List.cons_append]
    have hk : ¬ p.1 = k := fun z => by rw [valV_pos z] at hn; cases hn
    rw [valV_neg hk] at hn
    have ih := valV_snoc k j y r hn
    by_cases e : p.1 = j
    · rw [valV_pos e, valV_pos e, if_neg (fun z => hk (e.trans z))]
    · rw [valV_neg e, valV_neg e, ih]
theorem valV_put (kvs : List (κ × V)) (k j : κ) (y : V) : valV (putK kvs k y) j = if j = k then some y else valV kvs j := by
  unfold putK
  by_cases a : (kvs.any fun kv => decide (kv.1 = k)) = true
  · rw [if_pos a, valV_map]
    rw [valV_any] at a
    by_cases e : j = k
    · obtain ⟨x, hx⟩ := Option.isSome_iff_exists.mp a
      rw [if_pos e, e, hx, Option.map_some, if_pos rfl]
    · rw [if_neg e]
      cases valV kvs j with
      | none => rfl
      | some x => rw [Option.map_some, if_neg e]
  · rw [if_neg a]
    refine valV_snoc k j y kvs ?_
    rw [valV_any] at a
    cases q : valV kvs k with
    | none => rfl
    | some x => rw [q] at a; exact (a rfl).elim
theorem putK_new {kvs : List (κ × V)} {k : κ} (v : V) (h : valV kvs k = none) : putK kvs k v = kvs ++ [(k, v)] := by
  unfold putK
  rw [valV_any, h]
  exact if_neg (by decide)

theorem RelO.isSome_eq {o : Option V} {u : Option Value} (r : RelO o u) : o.isSome = u.isSome := by
  cases o with
  | none => cases u with
    | none => rfl
    | some _ => exact (show False from r).elim
  | some _ => cases u with
    | none => exact (show False from r).elim
    | some _ => rfl
theorem RelO.getD {o : Option V} {u : Option Value} {d : V} {d' : Value} (r : RelO o u) (rd : RelV d d') : RelV (o.getD d) (u.getD d') := by
  cases o with
  | none => cases u with
    | none => exact rd
    | some _ => exact (show False from r).elim
  | some _ => cases u with
    | none => exact (show False from r).elim
    | some _ => exact r

/-- raw tables of the same keys -/
theorem KV.val {kvs : List (κ × V)} {vs : List (κ × Value)} (r : KV kvs vs) (k : κ) : RelO (valV kvs k) (valueAt vs k) := by
  unfold KV at r
  induction r with
  | nil => exact True.intro
  | @cons p q ps qs h t ih =>
    obtain ⟨h1, h2⟩ := h
    by_cases e : p.1 = k
    · have e' : q.1 = k := h1.symm.trans e
      have b : valueAt (q :: qs) k = some q.2 := by simp [valueAt, List.find?_cons, e']
      rw [valV_pos e, b]; exact h2
    · have e' : ¬ q.1 = k := fun z => e (h1.trans z)
      have b : valueAt (q :: qs) k = valueAt qs k := by simp [valueAt, List.find?_cons, e']
      rw [valV_neg e, b]; exact ih
theorem KV.any {kvs : List (κ × V)} {vs : List (κ × Value)} (r : KV kvs vs) (k : κ) : (kvs.any fun kv => decide (kv.1 = k)) = vs.any fun kv => decide (kv.1 = k) := by
  unfold KV at r
  induction r with
  | nil => rfl
  | cons h t ih => rw [List.any_cons, List.any_cons, ih, h.1]
theorem KV.repl {kvs : List (κ × V)} {vs : List (κ × Value)} (r : KV kvs vs) (k : κ) {y : V} {u : Value} (ry : RelV y u) :
    KV (kvs.map fun kv => if kv.1 = k then (kv.1, y) else kv) (vs.map fun kv => if kv.1 = k then (kv.1, u) else kv) := by
  unfold KV at r ⊢
  induction r with
  | nil => exact .nil
  | @cons p q ps qs h t ih =>
    rw [List.map_cons, List.map_cons]
    refine .cons ?_ ih
    obtain ⟨h1, h2⟩ := h
    by_cases e : p.1 = k
    · rw [if_pos e, if_pos (h1.symm.trans e)]; exact ⟨h1, ry⟩
    · rw [if_neg e, if_neg (fun z => e (h1.trans z))]; exact ⟨h1, h2⟩
theorem KV.put {kvs : List (κ × V)} {vs : List (κ × Value)} (r : KV kvs vs) (k : κ) {y : V} {u : Value} (ry : RelV y u) : KV (putK kvs k y) (stored vs k u) := by
  unfold putK stored
  rw [r.any k]
  by_cases e : (vs.any fun kv => decide (kv.1 = k)) = true
  · rw [if_pos e, if_pos e]; exact r.repl k ry
  · rw [if_neg e, if_neg e]; exact Paired.snoc r ⟨rfl, ry⟩
theorem KV.drop {kvs : List (κ × V)} {vs : List (κ × Value)} (r : KV kvs vs) (k : κ) : KV (dropK kvs k) (without vs k) := by
  unfold KV at r ⊢
  unfold dropK without
  induction r with
  | nil => exact .nil
  | @cons p q ps qs h t ih =>
    obtain ⟨h1, h2⟩ := h
    rw [List.filter_cons, List.filter_cons]
    by_cases e : p.1 = k
    · have a : ¬ decide (p.1 ≠ k) = true := by simp [e]
      have b : ¬ decide (q.1 ≠ k) = true := by simp [h1.symm.trans e]
      rw [if_neg a, if_neg b]; exact ih
    · have e' : ¬ q.1 = k := fun z => e (h1.trans z)
      have a : decide (p.1 ≠ k) = true := by simp [e]
      have b : decide (q.1 ≠ k) = true := by simp [e']
      rw [if_pos a, if_pos b]; exact .cons ⟨h1, h2⟩ ih
theorem KV.keys {kvs : List (κ × V)} {vs : List (κ × Value)} (r : KV kvs vs) : kvs.map (·.1) = vs.map (·.1) := by
  unfold KV at r
  induction r with
  | nil => rfl
  | cons h t ih => rw [List.map_cons, List.map_cons, ih, h.1]
theorem KV.length {kvs : List (κ × V)} {vs : List (κ × Value)} (r : KV kvs vs) : kvs.length = vs.length := Paired.length r
end


/-! ### a tracked dict, its keys ints and texts or tuples of these -/
/-- raw entries of a dict with tuple keys -/
abbrev KT (H : Hp) : List (List Key × V) → List (List Key × Addr × Value) → Prop := Paired fun p q => p.1 = q.1 ∧ H q.2.1 = some (.tup (p.1.map kV)) ∧ RelV p.2 q.2.2
theorem KT.val {H : Hp} {kvs : List (List Key × V)} {xs : List (List Key × Addr × Value)} (r : KT H kvs xs) (k : List Key) : RelO (valV kvs k) ((atKey xs k).map (·.2)) := by
  induction r with
  | nil => exact True.intro
  | @cons p q ps qs h t ih =>
    obtain ⟨h1, _, h2⟩ := h
    by_cases e : p.1 = k
    · have e' : q.1 = k := h1.symm.trans e
      have b : atKey (q :: qs) k = some q.2 := by simp [atKey, List.find?_cons, e']
      rw [valV_pos e, b]; exact h2
    · have e' : ¬ q.1 = k := fun z => e (h1.trans z)
      have b : atKey (q :: qs) k = atKey qs k := by simp [atKey, List.find?_cons, e']
      rw [valV_neg e, b]; exact ih
theorem KT.repl {H : Hp} {kvs : List (List Key × V)} {xs : List (List Key × Addr × Value)} (r : KT H kvs xs) (k : List Key) {y : V} {u : Value} (ry : RelV y u) :
    KT H (kvs.map fun kv => if kv.1 = k then (kv.1, y) else kv) (xs.map (putAt k u)) := by
  induction r with
  | nil => exact .nil
  | @cons p q ps qs h t ih =>
    rw [List.map_cons, List.map_cons]
    refine .cons ?_ ih
    obtain ⟨h1, h2, h3⟩ := h
    unfold putAt
    by_cases e : p.1 = k
    · rw [if_pos e, if_pos (h1.symm.trans e)]; exact ⟨h1, h2, ry⟩
    · rw [if_neg e, if_neg (fun z => e (h1.trans z))]; exact ⟨h1, h2, h3⟩
theorem KT.put {H : Hp} {kvs : List (List Key × V)} {xs : List (List Key × Addr × Value)} (r : KT H kvs xs) (k : List Key) {b : Addr} {y : V} {u : Value} (hb : H b = some (.tup (k.map kV))) (ry : RelV y u) :
    KT H (putK kvs k y) (storedH xs k b u) := by
  have e : (kvs.any fun kv => decide (kv.1 = k)) = (atKey xs k).isSome := by
    rw [valV_any, (r.val k).isSome_eq, Option.isSome_map]
  unfold putK storedH
  rw [e]
  by_cases q : (atKey xs k).isSome = true
  · rw [if_pos q, if_pos q]; exact r.repl k ry
  · rw [if_neg q, if_neg q]; exact Paired.snoc r ⟨rfl, hb, ry⟩
theorem KT.keeps {H H' : Hp} {kvs : List (List Key × V)} {xs : List (List Key × Addr × Value)} (r : KT H kvs xs) (ht : ∀ b ys, H b = some (.tup ys) → H' b = some (.tup ys)) : KT H' kvs xs :=
  Paired.mapP r fun _ _ z => ⟨z.1, ht _ _ z.2.1, z.2.2⟩

section
variable {P : Program} {w : World} {H : Hp} {h : Heap} {a : Addr}
end

/-- what the dict at a holds at the key y -/
def DGet (H : Hp) (a : Addr) (y : V) (r : Option V) : Prop :=
  (∃ kvs k, Rd H a (.dK kvs) ∧ y = kV k ∧ r = valV kvs k) ∨ ∃ kvs k b, Rd H a (.dT kvs) ∧ y = .ref b ∧ H b = some (.tup (k.map kV)) ∧ r = valV kvs k
/-- the heap behind a[y] = v -/
def DPut (H : Hp) (a : Addr) (y v : V) (H' : Hp) : Prop :=
  (∃ kvs k, H a = some (.dK kvs) ∧ y = kV k ∧ kvs.length < sizeLine ∧ H' = upd H a (.dK (putK kvs k v))) ∨
  ∃ kvs k b, H a = some (.dT kvs) ∧ y = .ref b ∧ H b = some (.tup (k.map kV)) ∧ kvs.length < sizeLine ∧ H' = upd H a (.dT (putK kvs k v))
theorem DGet.k {H : Hp} {a : Addr} {kvs : List (Key × V)} {k : Key} (e : H a = some (.dK kvs)) : DGet H a (kV k) (valV kvs k) := .inl ⟨kvs, k, .inl e, rfl, rfl⟩
theorem DGet.t {H : Hp} {a b : Addr} {kvs : List (List Key × V)} {k : List Key} (e : H a = some (.dT kvs)) (eb : H b = some (.tup (k.map kV))) : DGet H a (.ref b) (valV kvs k) := .inr ⟨kvs, k, b, .inl e, rfl, eb, rfl⟩
theorem DPut.k {H : Hp} {a : Addr} {kvs : List (Key × V)} {k : Key} {v : V} (e : H a = some (.dK kvs)) (hl : kvs.length < sizeLine) : DPut H a (kV k) v (upd H a (.dK (putK kvs k v))) := .inl ⟨kvs, k, e, rfl, hl, rfl⟩
theorem DPut.t {H : Hp} {a b : Addr} {kvs : List (List Key × V)} {k : List Key} {v : V} (e : H a = some (.dT kvs)) (eb : H b = some (.tup (k.map kV))) (hl : kvs.length < sizeLine) :
    DPut H a (.ref b) v (upd H a (.dT (putK kvs k v))) := .inr ⟨kvs, k, b, e, rfl, eb, hl, rfl⟩


section
variable {X : Cx} {pins : List (Addr × Obj)} {σ : St} {H : Hp} {s : Shared} {a : Addr} {y v : V} {u r : Value} {o : Option V} {A : Around} {E : Value → Shared → Prop}

end

section
variable {X : Cx} {pins : List (Addr × Obj)} {σ : St} {H : Hp} {s : Shared} {a : Addr} {kvs : List (Key × V)} {k : Key} {u : Value} {A : Around} {E : Value → Shared → Prop}
end


/-! ### readings and rules -/
/-- d[y] -/
def tDGet (td ty : TE) : TE := fun σ H Q => td σ H fun x H1 => ty σ H1 fun y H2 => ∃ a v, x = .ref a ∧ DGet H2 a y (some v) ∧ Q v H2
/-- y in d, y not in d -/
def tDIn (ty td : TE) : TE := fun σ H Q => ty σ H fun y H1 => td σ H1 fun x H2 => ∃ a o, x = .ref a ∧ DGet H2 a y o ∧ Q (.bl o.isSome) H2
/-- d[y] = v -/
def sDPut (td ty tv : TE) : TS := fun D σ H => tv σ H fun v H1 => td σ H1 fun x H2 => ty σ H2 fun y H3 => ∃ a H4, x = .ref a ∧ DPut H3 a y v H4 ∧ D.nx σ H4
section
variable {X : Cx} {o i e value : Expr} {pos pos' tpos : Pos} {td ty tv : TE}
end


/-! ### displays -/
/-- {}, to be a dict of the kind that is wanted -/
def tDNewK : TE := fun _ H Q => ∀ p, H p = none → Q (.ref p) (upd H p (.dK []))
section
variable {X : Cx} {pos : Pos}
end

/-- the pairs of a display, from the left -/
def tPairs : List (TE × TE) → St → Hp → (List (V × V) → Hp → Prop) → Prop
  | [], _, H, Q => Q [] H
  | (tk, tv) :: r, σ, H, Q => tk σ H fun x H1 => tv σ H1 fun y H2 => tPairs r σ H2 fun ps H3 => Q ((x, y) :: ps) H3
def mergeK (kvs more : List (Key × V)) : List (Key × V) := more.foldl (fun acc kv => putK acc kv.1 kv.2) kvs
/-- {k: v, ..} with keys ints and texts; the new dict stands empty while the pairs are made -/
def tDisp (trs : List (TE × TE)) : TE := fun σ H Q => ∀ p, H p = none → tPairs trs σ (upd H p (.dK [])) fun ps H2 => H2 p = some (.dK []) ∧ ∃ kvs : List (Key × V), ps = kvs.map (fun kv => (kV kv.1, kv.2)) ∧ kvs.length ≤ 15 ∧ Q (.ref p) (upd H2 p (.dK (mergeK [] kvs)))
/-! ### methods -/
/-- a method call o.m(e) of a built-in, with one argument: what must be seen of the text -/
structure M1 (X : Cx) (o : Expr) (m : Str) (apos : Pos) (e : Expr) (cpos : Pos) : Prop where
  base : attributeBase o m X.env (eval o X.env) = eval o X.env
  few : ((backTo cpos (starEach [e] X.env)).all (fun x => !x.1) && (backToKw cpos (keywordEach [] X.env)).all (fun x => x.1.isSome)
    && decide (([e] : List Expr).length + ([] : List Keyword).length + (if ([] : List Keyword).isEmpty then 0 else 1) < 30)) = true
  line : (apos.endLine == cpos.line) = true
  trees : backTo cpos (starEach [e] X.env) = [(false, eval e X.env)]
structure M2 (X : Cx) (o : Expr) (m : Str) (apos : Pos) (e f : Expr) (cpos : Pos) : Prop where
  base : attributeBase o m X.env (eval o X.env) = eval o X.env
  few : ((backTo cpos (starEach [e, f] X.env)).all (fun x => !x.1) && (backToKw cpos (keywordEach [] X.env)).all (fun x => x.1.isSome)
    && decide (([e, f] : List Expr).length + ([] : List Keyword).length + (if ([] : List Keyword).isEmpty then 0 else 1) < 30)) = true
  line : (apos.endLine == cpos.line) = true
  trees : backTo cpos (starEach [e, f] X.env) = [(false, eval e X.env), (false, eval f X.env)]

/-- a is a dict, whatever its keys -/
def IsD (H : Hp) (a : Addr) : Prop := (∃ kvs, Rd H a (.dK kvs)) ∨ ∃ kvs, Rd H a (.dT kvs)
section
variable {X : Cx} {pins : List (Addr × Obj)} {σ : St} {H : Hp} {s : Shared} {a : Addr} {y d : V} {u r : Value} {o : Option V} {A : Around} {E : Value → Shared → Prop}
end

/-- d.pop(k): there; d.pop(k, x): there or not -/
def tDPop1 (td ty : TE) : TE := fun σ H Q => td σ H fun x H1 => ∃ a, x = .ref a ∧ IsD H1 a ∧ ty σ H1 fun y H2 => ∃ kvs k v, H2 a = some (.dK kvs) ∧ y = kV k ∧ valV kvs k = some v ∧ Q v (upd H2 a (.dK (dropK kvs k)))
section
variable {X : Cx} {o e f : Expr} {apos cpos : Pos} {td ty tx : TE}
end

/-! ### dict(d): a copy -/
section
variable {X : Cx} {pins : List (Addr × Obj)} {σ : St} {H : Hp} {s : Shared} {a : Addr} {kvs : List (Key × V)} {A : Around} {E : Value → Shared → Prop}
end


section
variable {X : Cx} {pins : List (Addr × Obj)} {σ : St} {H : Hp} {s : Shared} {a : Addr} {y : V} {u : Value} {A : Around} {E : Value → Shared → Prop}
end
end L2

namespace L2
open PySem PySem.Spec PyProof.Rows
section
variable {X : Cx}
end
/-! ### a dict's pairs: keys that differ -/
section
variable {κ : Type} [DecidableEq κ]
theorem valV_not {kvs : List (κ × V)} {k : κ} (h : valV kvs k = none) : ¬ k ∈ kvs.map (·.1) := by
  intro m
  obtain ⟨p, hp, e⟩ := List.mem_map.mp m
  have q : (kvs.any fun kv => decide (kv.1 = k)) = true := List.any_eq_true.mpr ⟨p, hp, decide_eq_true e⟩
  rw [valV_any, h] at q
  exact absurd q (by simp)
theorem valV_in {kvs : List (κ × V)} {k : κ} {v : V} (h : valV kvs k = some v) : k ∈ kvs.map (·.1) := by
  have q : (kvs.any fun kv => decide (kv.1 = k)) = true := by
    rw [valV_any, h]
    all_goals rfl
  obtain ⟨p, hp, e⟩ := List.any_eq_true.mp q
  exact List.mem_map.mpr ⟨p, hp, of_decide_eq_true e⟩
theorem nd_snoc : ∀ {l : List κ} {k : κ}, l.Nodup → ¬ k ∈ l → (l ++ [k]).Nodup
  | [], k, _, _ => by simp
  | a :: r, k, h, hk => by
    obtain ⟨h1, h2⟩ := List.nodup_cons.mp h
    show (a :: (r ++ [k])).Nodup
    refine List.nodup_cons.mpr ⟨fun m => ?_, nd_snoc h2 fun m => hk (List.mem_cons.mpr (Or.inr m))⟩
    rcases List.mem_append.mp m with q | q
    · exact h1 q
    · exact hk (List.mem_cons.mpr (Or.inl (List.mem_singleton.mp q).symm))
theorem nd_putK {kvs : List (κ × V)} {k : κ} (v : V) (hn : (kvs.map (·.1)).Nodup) (h : valV kvs k = none) : ((putK kvs k v).map (·.1)).Nodup := by
  rw [putK_new v h, List.map_append]
  exact nd_snoc hn (valV_not h)
end
end L2

/-! DICT COMPREHENSIONS of one clause. -/
namespace L2
open PySem PySem.Spec PyProof.Rows
/-- D: where the new dict stands; W: what holds when i items were walked and ys were stored -/
def tDC (nN : Nat) (fs : List (Nat × Nat)) (wi : TI) (g : TG) (tc : TT) (tk tv : TE) : TE := fun σ H Q => wi σ H fun J H1 => ∀ D, H1 D = none → ∃ (n : Nat) (W : Nat → List (Key × V) → Hp → Prop), n ≤ sizeLine ∧ W 0 [] (upd H1 D (.dK [])) ∧
  ∀ i ys H2, i ≤ n → W i ys H2 → H2 D = some (.dK ys) → (J.stop i H2 ∧ Q (.ref D) H2) ∨ (i < n ∧ J.go i H2 ∧ ∀ x H3, J.yld i H2 x H3 → g x (tau nN fs σ) H3 fun τ4 H4 =>
    (∀ (j : Nat) v, (tau nN fs σ)[j]? = some (some v) → τ4[j]? = some (some v)) ∧ tc τ4 H4 fun b H5 =>
      if b = true then tk τ4 H5 fun y H6 => tv τ4 H6 fun v H7 => ∃ k : Key, y = kV k ∧ H7 D = some (.dK ys) ∧ W (i + 1) (putK ys k v) (upd H7 D (.dK (putK ys k v))) else H5 D = some (.dK ys) ∧ W (i + 1) ys H5)

section
variable {X : Cx} {scope : Scope} {N : List Str} {fs : List (Nat × Nat)} {tg kx vx iter : Expr} {ifs : List Expr} {pos cpos : Pos} {wi : TI} {g : TG} {tc : TT} {tk tv : TE}
end
theorem w_DC {nN : Nat} {fs : List (Nat × Nat)} {wi : TI} {g : TG} {tc : TT} {tk tv : TE} {σ : St} {H : Hp} {Q : VK} (q : wi σ H fun J H1 => ∀ D, H1 D = none → ∃ (n : Nat) (W : Nat → List (Key × V) → Hp → Prop), n ≤ sizeLine ∧ W 0 [] (upd H1 D (.dK [])) ∧
  ∀ i ys H2, i ≤ n → W i ys H2 → H2 D = some (.dK ys) → (J.stop i H2 ∧ Q (.ref D) H2) ∨ (i < n ∧ J.go i H2 ∧ ∀ x H3, J.yld i H2 x H3 → g x (tau nN fs σ) H3 fun τ4 H4 =>
    (∀ (j : Nat) v, (tau nN fs σ)[j]? = some (some v) → τ4[j]? = some (some v)) ∧ tc τ4 H4 fun b H5 =>
      if b = true then tk τ4 H5 fun y H6 => tv τ4 H6 fun v H7 => ∃ k : Key, y = kV k ∧ H7 D = some (.dK ys) ∧ W (i + 1) (putK ys k v) (upd H7 D (.dK (putK ys k v))) else H5 D = some (.dK ys) ∧ W (i + 1) ys H5)) : tDC nN fs wi g tc tk tv σ H Q := q
end L2

namespace L2
open PySem PySem.Spec PyProof.Rows
/-! ### == and != of dicts with flat values -/
def hitD (kb : List (Key × V)) (p : Key × V) : Bool := match valV kb p.1 with | some y => eqV p.2 y | none => false
def eqD (ka kb : List (Key × V)) : Bool := ka.length == kb.length && ka.all (hitD kb)
section
variable {X : Cx}
/-! ### divmod by a divisor of some thousand bits -/
/-! ### list(d): the keys -/
end
/-! ### * of factors of some thousand bits -/
def CMulB (i j : Int) : Prop := i.natAbs.log2 < 4000 ∧ j.natAbs.log2 < 4000
theorem CMulB.ok {i j : Int} (h : CMulB i j) : IntMulOk i j := by
  have b : ∀ {x : Int}, x.natAbs.log2 < 4000 → Builtin.Int.intBits x ≤ 4000 := fun {x} hx => by
    unfold Builtin.Int.intBits
    split
    · exact Nat.zero_le _
    · exact hx
  have h1 := b h.1
  have h2 := b h.2
  unfold IntMulOk Builtin.Int.intTooBig
  have z : decide (((Builtin.Int.intBits i + Builtin.Int.intBits j : Nat) : Int) > bitsLine) = false := decide_eq_false (by
    have : (8000 : Int) ≤ bitsLine := by decide
    omega)
  intro y
  simp only [Bool.and_eq_true] at y
  have y := y.2
  rw [show ((Builtin.Int.intBits i : Int) + (Builtin.Int.intBits j : Int)) = ((Builtin.Int.intBits i + Builtin.Int.intBits j : Nat) : Int) by omega] at y
  rw [z] at y
  cases y
end L2

namespace L2
open PySem PySem.Spec PyProof.Rows
/-! ### dicts: one step of a reading at a time -/
section
variable {σ : St} {H : Hp} {Q : VK} {td ty tv : TE} {nx : St → Hp → Prop} {rt : VK} {bk ct : St → Hp → Prop}
theorem w_dget (q : td σ H fun x H1 => ty σ H1 fun y H2 => ∃ a v, x = .ref a ∧ DGet H2 a y (some v) ∧ Q v H2) : tDGet td ty σ H Q := q
theorem w_dput (q : tv σ H fun v H1 => td σ H1 fun x H2 => ty σ H2 fun y H3 => ∃ a H4, x = .ref a ∧ DPut H3 a y v H4 ∧ nx σ H4) : sDPut td ty tv ⟨nx, rt, bk, ct⟩ σ H := q
theorem w_dnew (q : ∀ p, H p = none → Q (.ref p) (upd H p (.dK []))) : tDNewK σ H Q := q
theorem w_disp {trs : List (TE × TE)} (q : ∀ p, H p = none → tPairs trs σ (upd H p (.dK [])) fun ps H2 => H2 p = some (.dK []) ∧ ∃ kvs : List (Key × V), ps = kvs.map (fun kv => (kV kv.1, kv.2)) ∧ kvs.length ≤ 15 ∧ Q (.ref p) (upd H2 p (.dK (mergeK [] kvs)))) : tDisp trs σ H Q := q
theorem w_prs {tk : TE} {r : List (TE × TE)} {R : List (V × V) → Hp → Prop} (q : tk σ H fun x H1 => tv σ H1 fun y H2 => tPairs r σ H2 fun ps H3 => R ((x, y) :: ps) H3) : tPairs ((tk, tv) :: r) σ H R := q
theorem w_prn {R : List (V × V) → Hp → Prop} (q : R [] H) : tPairs [] σ H R := q
end
end L2
local macro_rules | `(tactic| array_get_dec) => `(tactic| first | with_reducible refine L2.w_DC ?_ | with_reducible refine L2.w_dget ?_ | with_reducible refine L2.w_dput ?_ | with_reducible refine L2.w_dnew ?_ | with_reducible refine L2.w_disp ?_ | with_reducible refine L2.w_prs ?_ | with_reducible refine L2.w_prn ?_)
namespace L2
open PySem PySem.Spec PyProof.Rows
/-! ### tables of a function -/
/-- the pairs tell just g -/
structure Tab (kvs : List (Key × V)) (g : Key → Option V) : Prop where
  at' : ∀ k, valV kvs k = g k
  nd : (kvs.map (·.1)).Nodup
theorem Tab.nil : Tab [] fun _ => none := ⟨fun _ => rfl, List.nodup_nil⟩
theorem Tab.congr {kvs : List (Key × V)} {g g' : Key → Option V} (t : Tab kvs g) (h : ∀ k, g k = g' k) : Tab kvs g' := ⟨fun k => (t.at' k).trans (h k), t.nd⟩
theorem keys_put (kvs : List (Key × V)) (k : Key) (v : V) : (kvs.map (fun kv => if kv.1 = k then (kv.1, v) else kv)).map (·.1) = kvs.map (·.1) := by
  rw [List.map_map]
  refine List.map_congr_left fun p _ => ?_
  show (if p.1 = k then (p.1, v) else p).1 = p.1
  split <;> rfl
theorem Tab.put {kvs : List (Key × V)} {g : Key → Option V} (t : Tab kvs g) (k : Key) (v : V) : Tab (putK kvs k v) fun j => if j = k then some v else g j := by
  refine ⟨fun j => by rw [valV_put, t.at' j], ?_⟩
  cases e : valV kvs k with
  | none => exact nd_putK v t.nd e
  | some y =>
    unfold putK
    rw [valV_any, e, if_pos (show (some y).isSome = true from rfl), keys_put]
    exact t.nd
theorem valV_mem {kvs : List (Key × V)} {k : Key} {v : V} (nd : (kvs.map (·.1)).Nodup) (h : (k, v) ∈ kvs) : valV kvs k = some v := by
  induction kvs with
  | nil => cases h
  | cons p r ih =>
    have nd : (p.1 :: r.map (·.1)).Nodup := nd
    obtain ⟨n1, n2⟩ := List.nodup_cons.mp nd
    rcases List.mem_cons.mp h with e | h
    · rw [← e]; exact valV_pos rfl
    · rw [valV_neg fun e => n1 (List.mem_map.mpr ⟨_, h, e.symm⟩)]
      exact ih n2 h
theorem Tab.mem {kvs : List (Key × V)} {g : Key → Option V} (t : Tab kvs g) {p : Key × V} (h : p ∈ kvs) : g p.1 = some p.2 := by
  rw [← t.at']
  exact valV_mem t.nd h
theorem nodup_len {α : Type} [DecidableEq α] : ∀ {l m : List α}, l.Nodup → (∀ x ∈ l, x ∈ m) → l.length ≤ m.length
  | [], _, _, _ => Nat.zero_le _
  | a :: l, m, nd, h => by
    obtain ⟨n1, n2⟩ := List.nodup_cons.mp nd
    have ha := h a List.mem_cons_self
    have := nodup_len (m := m.erase a) n2 fun x hx => (List.mem_erase_of_ne (show x ≠ a from fun e => n1 (by rw [← e]; exact hx))).mpr (h x (List.mem_cons_of_mem _ hx))
    rw [List.length_erase_of_mem ha] at this
    have hp := List.length_pos_of_mem ha
    rw [List.length_cons]
    omega
theorem Tab.len {ka kb : List (Key × V)} {g : Key → Option V} (a : Tab ka g) (b : Tab kb g) : ka.length ≤ kb.length := by
  have := nodup_len (l := ka.map (·.1)) (m := kb.map (·.1)) a.nd fun k hk => by
    obtain ⟨p, hp, rfl⟩ := List.mem_map.mp hk
    have e := a.mem hp
    rw [← b.at'] at e
    exact valV_in e
  rwa [List.length_map, List.length_map] at this
theorem eqV_self {v : V} (h : flatV v = true) : eqV v v = true := by
  cases v with
  | non => rfl
  | bl b => exact beq_self_eq_true b
  | int i => exact beq_self_eq_true i
  | str x => exact beq_self_eq_true x
  | _ => cases h
/-- two tables of one function are equal -/
theorem Tab.eq {ka kb : List (Key × V)} {g : Key → Option V} (a : Tab ka g) (b : Tab kb g) (f : ka.all (fun p => flatV p.2) = true) : eqD ka kb = true := by
  unfold eqD
  rw [Bool.and_eq_true]
  refine ⟨beq_iff_eq.mpr (Nat.le_antisymm (a.len b) (b.len a)), List.all_eq_true.mpr fun p hp => ?_⟩
  unfold hitD
  rw [b.at', a.mem hp]
  exact eqV_self (List.all_eq_true.mp f p hp)
end L2

namespace L2
open PySem PySem.Spec PyProof.Rows
section
variable {X : Cx}
end
/-! ### dict(d), int(b), sorted(l) -/
section
variable {X : Cx}
theorem call_intB : CallR X (.type "int") (fun xs H Q => ∃ b, xs = [.bl b] ∧ Q (.int (if b then 1 else 0)) H) := by
  intro pins s σ H xs us Q I r h
  obtain ⟨b, rfl, q⟩ := h
  obtain ⟨u, rfl, rx⟩ := vals1 r
  cases rx
  exact PySem.call_int_bool ⟨.int _, H, I.tok _, ⟨_, rfl⟩, q⟩
end
end L2

namespace L2
open PySem PySem.Spec PyProof.Rows
/-! ### iterators that tell tuples, out of the library's walks -/
/-! ### enumerate(l) -/
def Ite (K : PySem.W.Frag) (a : Addr) : It := ⟨fun i H => ∃ xs x, SqL K H a xs ∧ xs[i]? = some x,
  fun i H v H' => ∃ p, H p = none ∧ v = .ref p ∧ ∃ x, H' = upd H p (.tup [.int i, x]) ∧ ∀ xs, SqL K H a xs → xs[i]? = some x,
  fun i H => ∃ xs, SqL K H a xs ∧ xs.length = i⟩
section
variable {X : Cx}
def iEnum (K : PySem.W.Frag) (ta : TA) : TI := fun σ H R => ta σ H fun vs H1 => ∃ a, vs = [.ref a] ∧ (∃ xs, SqL K H1 a xs) ∧ R (Ite K a) H1
end
end L2

namespace L2
open PySem PySem.Spec PyProof.Rows
/-! ### one tracked object told otherwise -/
def Plain : HO → Prop
  | .tup _ => False
  | .own _ => False
  | .tbl _ => False
  | _ => True
section
variable {X : Cx} {pins : List (Addr × Obj)} {σ : St} {H : Hp} {s : Shared}
theorem Inv.told {d : Addr} {o1 o2 : HO} (I : Inv X pins σ H s) (h1 : H d = some o1) (p1 : Plain o1) (nf : ∀ o u, X.H₀ d ≠ some (.frz o u)) (new : ObjOk X.prog X.w (upd H d o2) s.heap d o2) : Inv X pins σ (upd H d o2) s := by
  have ne : ∀ {b : Addr}, H b = none → b ≠ d := fun {b} hb z => by rw [z, h1] at hb; cases hb
  have nt : ∀ {b : Addr} {xs : List V}, H b = some (.tup xs) → b ≠ d := fun {b xs} hb z => by rw [z, h1] at hb; cases hb; exact p1
  have no : ∀ {b a : Addr}, H b = some (.own a) → b ≠ d := fun {b a} hb z => by rw [z, h1] at hb; cases hb; exact p1
  have nb : ∀ {b : Addr} {ps : Array Value}, H b = some (.tbl ps) → b ≠ d := fun {b ps} hb z => by rw [z, h1] at hb; cases hb; exact p1
  refine ⟨I.ok, I.os, I.bare, ⟨I.base.keep, I.base.slot, fun b o e n hx => ?_, I.base.there, fun b xs e => ?_, fun b o u e => ?_, fun b ps e => ?_⟩, I.loc, I.cell, ?_, fun x c e => ?_, fun p hp => ?_, fun b u e => ?_, I.len⟩
  · have := I.base.free b o e n hx
    rw [upd_ne (ne this)]; exact this
  · have := I.base.tups b xs e
    rw [upd_ne (nt this)]; exact this
  · have := I.base.frzs b o u e
    rw [upd_ne (fun z => nf o u (by rw [← z]; exact e))]; exact this
  · obtain ⟨more, this⟩ := I.base.tbls b ps e
    exact ⟨more, by rw [upd_ne (nb this)]; exact this⟩
  · rw [upd_ne (ne I.free)]; exact I.free
  · rw [upd_ne (ne (I.freeC x c e))]; exact I.freeC x c e
  · obtain ⟨z1, z2, z3⟩ := I.pin p hp
    exact ⟨z1, by rw [upd_ne (ne z2)]; exact z2, z3⟩
  · by_cases hb : b = d
    · subst hb
      rw [upd_same] at e
      cases e
      exact new
    · rw [upd_ne hb] at e
      exact (I.hok b u e).stay (fun _ _ _ q => q) (fun c q => by rw [upd_ne (no q)]; exact q) fun c xs q => by rw [upd_ne (nt q)]; exact q
/-- behind a statement the dict is as it was ahead of it -/
def sThaw (t : TS) : TS := fun D σ H => ∃ d kvs, H d = some (.dK kvs) ∧ t ⟨fun σ' H' => ∃ ob, H' d = some (.frz ob (.dK kvs)) ∧ D.nx σ' (upd H' d (.dK kvs)), fun _ _ => False, fun _ _ => False, fun _ _ => False⟩ σ H
end
/-! ### d.items() in a loop -/
def Iti (d : Addr) (ob : Obj) (kvs : List (Key × V)) : It := ⟨fun i H => H d = some (.frz ob (.dK kvs)) ∧ i < kvs.length,
  fun i H v H' => ∃ p k x, H p = none ∧ v = .ref p ∧ kvs[i]? = some (k, x) ∧ H' = upd H p (.tup [kV k, x]),
  fun i H => H d = some (.frz ob (.dK kvs)) ∧ i = kvs.length⟩
section
variable {X : Cx}
def iItems (td : TE) : TI := fun σ H R => td σ H fun x H1 => ∃ d kvs, x = .ref d ∧ H1 d = some (.dK kvs) ∧ ∀ ob, R (Iti d ob kvs) (upd H1 d (.frz ob (.dK kvs)))
end
end L2

/-! SETS of texts and numbers: set(list), set(dict), == and != of sets -/
namespace L2
open PySem PySem.Spec PyProof.Rows
/-! ### the list of what was met, each once -/
instance memKey (k : Key) : (L : List Key) → Decidable (k ∈ L)
  | [] => .isFalse (by simp)
  | a :: r =>
    if h : k = a then .isTrue (by rw [h]; exact .head _)
    else match memKey k r with
      | .isTrue z => .isTrue (.tail _ z)
      | .isFalse z => .isFalse (by intro q; rcases List.mem_cons.mp q with e | e; exact h e; exact z e)
def met1 (L : List Key) (k : Key) : List Key := if k ∈ L then L else L ++ [k]
def metK (ks : List Key) : List Key := ks.foldl met1 []
theorem metK_snoc (ks : List Key) (k : Key) : metK (ks ++ [k]) = met1 (metK ks) k := by unfold metK; rw [List.foldl_append]; rfl
theorem mem_met1 {L : List Key} {k j : Key} : j ∈ met1 L k ↔ j ∈ L ∨ j = k := by
  unfold met1
  split
  · rename_i h; exact ⟨.inl, fun z => z.elim id fun e => e ▸ h⟩
  · simp
theorem nd_met1 {L : List Key} {k : Key} (h : L.Nodup) : (met1 L k).Nodup := by
  unfold met1
  split
  · exact h
  · rename_i hk; exact nd_snoc h hk
theorem len_met1 {L : List Key} {k : Key} : (met1 L k).length = if decide (k ∈ L) = true then L.length else L.length + 1 := by
  unfold met1
  by_cases h : k ∈ L
  · rw [if_pos h, if_pos (decide_eq_true h)]
  · rw [if_neg h, if_neg (by simpa using h), List.length_append]; rfl
theorem metK_ind {C : List Key → List Key → Prop} (h0 : C [] []) (hs : ∀ ks k L, C ks L → C (ks ++ [k]) (met1 L k)) (ks : List Key) : C ks (metK ks) := by
  have : ∀ n, ∀ ks : List Key, ks.length = n → C ks (metK ks) := by
    intro n
    induction n with
    | zero => intro ks e; cases ks with
      | nil => exact h0
      | cons a b => cases e
    | succ n ih =>
      intro ks e
      have hne : ks ≠ [] := by intro z; rw [z] at e; cases e
      rw [← List.dropLast_concat_getLast hne, metK_snoc]
      exact hs _ _ _ (ih _ (by rw [List.length_dropLast, e]; rfl))
  exact this _ ks rfl
theorem mem_metK {ks : List Key} {j : Key} : j ∈ metK ks ↔ j ∈ ks := metK_ind (C := fun ks L => j ∈ L ↔ j ∈ ks) (by simp) (fun ks k L h => by rw [mem_met1, h]; simp) ks
theorem nd_metK (ks : List Key) : (metK ks).Nodup := metK_ind (C := fun _ L => L.Nodup) List.nodup_nil (fun _ _ _ h => nd_met1 h) ks
theorem len_metK (ks : List Key) : (metK ks).length ≤ ks.length := metK_ind (C := fun ks L => L.length ≤ ks.length) (Nat.le_refl _) (fun ks k L h => by rw [len_met1, List.length_append]; split <;> simp <;> omega) ks
theorem metK_nd {ks : List Key} (h : ks.Nodup) : (metK ks).length = ks.length :=
  Nat.le_antisymm (len_metK ks) (nodup_len h fun x hx => mem_metK.mpr hx)
/-! ### a set in the heap -/
section
variable {P : Program} {w : World}
def SetIn (P : Program) (w : World) (a : Addr) (L : List Key) (h : Heap) : Prop := h.SetOf (mixKind P w) a (fun k => decide (k ∈ L)) L.length
def SetO (P : Program) (w : World) (a : Addr) (L : List Key) : HO := .ext (SetIn P w a L)
theorem SetIn.keeps {a : Addr} {L : List Key} {h h' : Heap} (x : SetIn P w a L h) (k : ∀ o, h.get? a = some o → h'.get? a = some o) : SetIn P w a L h' := by
  obtain ⟨o, es, ep, t, ho, r⟩ := x
  exact ⟨o, es, ep, t, k _ ho, r⟩
theorem SetIn.ok {H : Hp} {a : Addr} {L : List Key} {h : Heap} (x : SetIn P w a L h) : ObjOk P w H h a (SetO P w a L) := by
  refine ⟨x, ?_, fun h1 h2 y k => y.keeps k⟩
  obtain ⟨o, es, ep, t, ho, r⟩ := x
  exact ⟨o, ho⟩
theorem SetIn.add {a : Addr} {L : List Key} {h : Heap} {k : Key} (x : h.SetOf (mixKind P w) a (fun k' => decide (k' ∈ L) || decide (k' = k)) (if decide (k ∈ L) = true then L.length else L.length + 1)) : SetIn P w a (met1 L k) h := by
  unfold SetIn
  rw [len_met1]
  refine Eq.mp (congrArg (fun S => h.SetOf (mixKind P w) a S _) (funext fun j => ?_)) x
  show (decide (j ∈ L) || decide (j = k)) = decide (j ∈ met1 L k)
  rw [← Bool.decide_or]
  exact decide_eq_decide.mpr mem_met1.symm
theorem key_scan {k : Key} {v : Value} (h : keyIs k v = true) : v.scannable = true := by
  rcases keyIs_shape h with ⟨i, t, rfl, rfl⟩ | ⟨i, t, rfl, rfl⟩ <;> rfl
end
/-! ### the loop that puts the items of an iterator into a set -/
section
variable {P : Program} {w : World} {A : Around} {R : Result → Shared → Prop} {I : Addr} {fp wr : List Addr} {G : Array GenState → Array GenState → Prop} {n : Nat} {Pv : Nat → Value → Prop} {St : Nat → Shared → Prop}
end
end L2

namespace L2
open PySem PySem.Spec PyProof.Rows
/-- a new set -/
abbrev set0 (led : Bool) : Obj := { cls := .type "set", dict := none, data := .set #[] 0 (.fresh 0 0 led) }
section
variable {P : Program} {w : World} {A : Around} {E : Value → Shared → Prop} {s : Shared}
theorem set0_in {h : Heap} {a : Addr} {led : Bool} (e : h.get? a = some (set0 led)) : SetIn P w a [] h :=
  ⟨_, #[], 0, _, e, ⟨rfl, rfl, rfl⟩, rfl, fun e he => by simp at he, fun k => by simp, by decide, by rfl, rfl⟩
end
end L2

namespace L2
open PySem PySem.Spec PyProof.Rows
section
variable {P : Program} {w : World} {A : Around} {E : Value → Shared → Prop} {s : Shared}
end
end L2

namespace L2
open PySem PySem.Spec PyProof.Rows
section
variable {P : Program} {w : World} {A : Around} {E : Value → Shared → Prop} {s : Shared}
end
end L2

namespace L2
open PySem PySem.Spec PyProof.Rows
section
variable {P : Program} {w : World} {A : Around} {E : Value → Shared → Prop} {s : Shared}
/-! ### the calls -/
variable {X : Cx}
end
end L2

namespace L2
open PySem PySem.Spec PyProof.Rows
section
variable {P : Program} {w : World} {A : Around} {E : Value → Shared → Prop} {s : Shared}
end
end L2

namespace L2
open PySem PySem.Spec PyProof.Rows
section
variable {P : Program} {w : World} {A : Around} {E : Value → Shared → Prop} {s : Shared}
theorem SetIn.ty {a : Addr} {L : List Key} (h : SetIn P w a L s.heap) : s.TypeIs (.ref a) "set" := by
  obtain ⟨o, es, ep, t, e, x, _⟩ := h
  exact ⟨o, e, x.1⟩
end
end L2

namespace L2
open PySem PySem.Spec PyProof.Rows
section
variable {P : Program} {w : World} {A : Around} {E : Value → Shared → Prop} {s : Shared}
/-! ### the rule -/
variable {X : Cx}
end
end L2

namespace L2
open PySem PySem.Spec PyProof.Rows
theorem w_din {σ : St} {H : Hp} {Q : VK} {ty td : TE} (q : ty σ H fun y H1 => td σ H1 fun x H2 => ∃ a o, x = .ref a ∧ DGet H2 a y o ∧ Q (.bl o.isSome) H2) : tDIn ty td σ H Q := q
/-- a statement on its own, J behind it -/
theorem w_cut {t : TS} {nx : St → Hp → Prop} {rt : VK} {bk ct : St → Hp → Prop} {σ : St} {H : Hp} (J : St → Hp → Prop) (q : ∀ nx' : St → Hp → Prop, (∀ σ2 H2, J σ2 H2 → nx' σ2 H2) → t ⟨nx', rt, bk, ct⟩ σ H) (hj : ∀ σ2 H2, J σ2 H2 → nx σ2 H2) : t ⟨nx, rt, bk, ct⟩ σ H := q nx hj
theorem w_dpop {td ty : TE} {σ : St} {H : Hp} {Q : VK} (q : td σ H fun x H1 => ∃ a, x = .ref a ∧ IsD H1 a ∧ ty σ H1 fun y H2 => ∃ kvs k v, H2 a = some (.dK kvs) ∧ y = kV k ∧ valV kvs k = some v ∧ Q v (upd H2 a (.dK (dropK kvs k)))) : tDPop1 td ty σ H Q := q
theorem w_iItems {td : TE} {σ : St} {H : Hp} {R : It → Hp → Prop} (q : td σ H fun x H1 => ∃ d kvs, x = .ref d ∧ H1 d = some (.dK kvs) ∧ ∀ ob, R (Iti d ob kvs) (upd H1 d (.frz ob (.dK kvs)))) : iItems td σ H R := q
theorem w_iEnum {K : PySem.W.Frag} {ta : TA} {σ : St} {H : Hp} {R : It → Hp → Prop} (q : ta σ H fun vs H1 => ∃ a, vs = [.ref a] ∧ (∃ xs, SqL K H1 a xs) ∧ R (Ite K a) H1) : iEnum K ta σ H R := q
theorem w_thaw {t : TS} {nx : St → Hp → Prop} {rt : VK} {bk ct : St → Hp → Prop} {σ : St} {H : Hp} (q : ∃ d kvs, H d = some (.dK kvs) ∧ t ⟨fun σ' H' => ∃ ob, H' d = some (.frz ob (.dK kvs)) ∧ nx σ' (upd H' d (.dK kvs)), fun _ _ => False, fun _ _ => False, fun _ _ => False⟩ σ H) : sThaw t ⟨nx, rt, bk, ct⟩ σ H := q
end L2
local macro_rules | `(tactic| array_get_dec) => `(tactic| first | with_reducible refine L2.w_din ?_ | with_reducible refine L2.w_dpop ?_ | with_reducible refine L2.w_iItems ?_ | with_reducible refine L2.w_iEnum ?_ | with_reducible refine L2.w_thaw ?_)
namespace L2
open PySem PySem.Spec PyProof.Rows
theorem w_gTup' {K : PySem.W.Frag} {n : Nat} {t : TGs} {p : Addr} {xs : List V} {σ : St} {H : Hp} {Q : St → Hp → Prop} (h : SqT K H p xs) (hn : xs.length = n) (q : t xs σ H Q) : gTup K n t (.ref p) σ H Q := ⟨p, xs, rfl, h, hn, q⟩
theorem ix_listK {X : Cx} (K : PySem.W.Frag) (hK : X.K = K := by rfl) : IxR X (rIxL K) := by subst hK; exact ix_list
theorem ix_tupK {X : Cx} (K : PySem.W.Frag) (hK : X.K = K := by rfl) : IxR X (rIxT K) := by subst hK; exact ix_tup
/-- a comprehension; R: what is known of the items made and of the heap -/
theorem lcH {nN : Nat} {fs : List (Nat × Nat)} {g : TG} {tc : TT} {te : TE} {σ : St} {H : Hp} {QD : Addr → Hp → Prop} {J : It} {n : Nat} {src : Nat → V} (R : Addr → Nat → List V → Hp → Prop) (hJ : Tells J H n src) (hn : n ≤ sizeLine) (h0 : ∀ D, H D = none → R D 0 [] (upd H D (.lst [])))
    (ht : ∀ D i ys H2, i < n → H D = none → Same H H2 → H2 D = some (.lst ys) → R D i ys H2 → g (src i) (tau nN fs σ) H2 fun τ4 H4 => (∀ (j : Nat) v, (tau nN fs σ)[j]? = some (some v) → τ4[j]? = some (some v)) ∧ tc τ4 H4 fun b H5 =>
      if b = true then te τ4 H5 fun v H6 => H6 D = some (.lst ys) ∧ Same H (upd H6 D (.lst (ys ++ [v]))) ∧ R D (i + 1) (ys ++ [v]) (upd H6 D (.lst (ys ++ [v]))) else H5 D = some (.lst ys) ∧ Same H H5 ∧ R D (i + 1) ys H5)
    (hQ : ∀ D H2 ys, H D = none → Same H H2 → H2 D = some (.lst ys) → R D n ys H2 → QD D H2) :
    ∀ D, H D = none → ∃ (n : Nat) (W : Nat → List V → Hp → Prop), n ≤ sizeLine ∧ W 0 [] (upd H D (.lst [])) ∧
      ∀ i ys H2, i ≤ n → W i ys H2 → H2 D = some (.lst ys) → (J.stop i H2 ∧ QD D H2) ∨ (i < n ∧ J.go i H2 ∧ ∀ x H3, J.yld i H2 x H3 → g x (tau nN fs σ) H3 fun τ4 H4 =>
        (∀ (j : Nat) v, (tau nN fs σ)[j]? = some (some v) → τ4[j]? = some (some v)) ∧ tc τ4 H4 fun b H5 =>
          if b = true then te τ4 H5 fun v H6 => H6 D = some (.lst ys) ∧ W (i + 1) (ys ++ [v]) (upd H6 D (.lst (ys ++ [v]))) else H5 D = some (.lst ys) ∧ W (i + 1) ys H5) := by
  intro D hD
  refine ⟨n, fun i ys H2 => Same H H2 ∧ R D i ys H2, hn, ⟨Same.upd hD, h0 D hD⟩, ?_⟩
  rintro i ys H2 hi ⟨s2, r⟩ e
  obtain ⟨h1, h2⟩ := hJ H2 s2
  rcases Nat.lt_or_ge i n with hlt | hge
  · refine .inr ⟨hlt, (h2 i hlt).1, fun x H3 y => ?_⟩
    obtain ⟨rfl, rfl⟩ := (h2 i hlt).2 x H3 y
    exact ht D i ys H3 hlt hD s2 e r
  · have : i = n := by omega
    subst this
    exact .inl ⟨h1, hQ D H2 ys hD s2 e r⟩
section
variable {g : TG} {tb : TS} {nx : St → Hp → Prop} {rt : VK} {σ : St} {H : Hp}
end
/-! ### a list of one pair of numbers -/
def One (H : Hp) (p : Addr) (x y : Int) : Prop := ∃ tp, H p = some (.lst [.ref tp]) ∧ H tp = some (.tup [.int x, .int y])
theorem One.same {H H' : Hp} {p : Addr} {x y : Int} (h : One H p x y) (s : Same H H') : One H' p x y := by
  obtain ⟨tp, a, b⟩ := h
  exact ⟨tp, s _ _ a, s _ _ b⟩
end L2

namespace L2
open PySem PySem.Spec PyProof.Rows
/-- a look at the heap behind the top, with code tables (of methods) besides -/
def withTabs (H : PySem.W.Hook) (ts : List Addr) : PySem.W.Hook where
  α := H.α × List (Option Obj)
  obs := fun s => (H.obs s, ts.map s.heap.get?)
  val := fun w => (H.val w, ts.map fun _ => some (PySem.W.tabObj #[]))
  says := fun w h => H.says w h ∧ ∀ t ∈ ts, h.get? t = some (PySem.W.tabObj #[])
  of := fun w s x => ⟨H.of w s (Prod.mk.inj x).1, List.map_inj_left.mp (Prod.mk.inj x).2⟩
  keeps := fun w h h' x k => ⟨H.keeps w h h' x.1 k, fun t ht => k _ _ (x.2 t ht)⟩
/-- the goal that the head leaves, code tables told by the names of their defs, and by the look -/
theorem walk_M {l : PySem.W.OpenLaw} {n k : Nat} {q : Program} {loose : List Str} {XP : (Str → Option Value) → Heap → Prop} {YP : World → Heap → Prop} {d : DefRec} {K : Params → PySem.W.Frag} {CX : World → CXT} {sp : World → Sp} {x : Str} (ts : World → List Addr) (us : List Addr)
    (hn : l.most = some n) (hn2 : n ≤ sizeLine) (hdf : d.params.defaults = []) (hr : Room k callerA)
    (hY : ∀ (w : World) (h : Heap), YP w h → (K w.params).In h ∧ ∀ t ∈ us, h.get? t = some (PySem.W.tabObj #[])) (hK : ∀ w : World, PySem.W.noTabs (K w.params) = true)
    (hts : ∀ (w : World), ∀ t ∈ ts w, (∃ y c d', (recsOf q).find? (fun e => e.name == y) = some d' ∧ PySem.W.tabIn (K w.params) y = some (c, t)) ∨ (t ∈ us ∧ ∃ c, PySem.W.codeHdIn (K w.params) c t = true))
    (F : ∀ (w : World) (mg : Str → Option Value) (fa : Addr) (h : Heap), (K w.params).In h → h.Ns mainGlobals mg → mg d.name = some (.ref fa) →
      ∃ fd : FuncData, (∀ (s : Shared) (u : Value), BindsTo s fd ⟨[u], []⟩ [(x, u)]) ∧
        ∀ base : Heap, (K w.params).In base → base.Ns mainGlobals mg → BltK base → FnOk l.prog w (K w.params) mg base (CX w) k fa fd [x] (sp w))
    (hsp : ∀ (w : World) (H : Hp) (a : Addr) (ns : List Int), ns.length ≤ n → (∀ t ∈ ts w, H t = some (Tb t)) → SqL (K w.params) H a (ns.map V.int) → sp w [.ref a] H (fun v H' => v = .bl true ∧ ∀ t ∈ ts w, H' t = some (Tb t)) fun _ _ _ => False)
    (hCX : ∀ (w : World) (H : Hp) (s : Shared) (e : Value) (s' : Shared), CX w [] H s (fun _ _ _ => False) e s' → False) :
    PySem.W.WalkO q loose XP YP l.row.toRowW d [] (fun f vs => PySem.call f vs) := by
  refine Att.attach_call hn hdf fun w s₀ s₁ mg mb fa o pm cd doc a vs ns G Y ho hd hcd hmg hobj hints hlen hg => ?_
  obtain ⟨KX, KT⟩ := hY w _ Y
  obtain ⟨fd, hb, hF⟩ := F w mg fa _ KX G.T.g hmg
  exact law_callT (ts w) KX G.T.g G.T.b G.T.builtins G.T.nolimit hg hobj hints (Nat.le_trans hlen hn2) hr (hK w) (fun t ht => by
    rcases hts w t ht with ⟨y, c, d', e1, e2⟩ | ⟨tu, c, e2⟩
    · obtain ⟨z1, z2⟩ := PySem.W.tab_of G.T KX e1 e2
      exact ⟨⟨c, z1⟩, z2⟩
    · exact ⟨⟨c, PySem.W.codeHd_of_K KX e2⟩, KT t tu⟩) G.T.bmain hF hb (fun H h1 h2 => hsp w H a ns hlen h1 h2) fun H e s' => hCX w H s₁ e s'
end L2

namespace L2
open PySem PySem.Spec PyProof.Rows
theorem mul_mem (z : Str) (n : Int) : ∀ c ∈ (Txt.mul z n).cps.toList, c ∈ z.cps.toList := by
  unfold Txt.mul
  split
  · intro c hc; exact absurd hc (by decide +revert)
  split
  · exact fun _ h => h
  have : ∀ (k : Nat) (acc : Array Nat), (∀ c ∈ acc.toList, c ∈ z.cps.toList) → ∀ c ∈ ((List.replicate k z.cps).foldl (· ++ ·) acc).toList, c ∈ z.cps.toList := by
    intro k
    induction k with
    | zero => exact fun _ h => h
    | succ k ih =>
      intro acc h
      rw [List.replicate_succ, List.foldl_cons]
      refine ih _ fun c hc => ?_
      rw [Array.toList_append] at hc
      rcases List.mem_append.mp hc with y | y
      · exact h c y
      · exact y
  exact this _ _ (by simp)
section
variable {X : Cx}
/-- a text times an int, its letters told -/
theorem op_mul_strC : OpR X (binaryOp .Mult) (fun x y H Q => ∃ z n, x = .str z ∧ y = .int n ∧ 0 ≤ n ∧ n ≤ 65536 ∧ z.length ≤ 256 ∧ ∀ r : Str, (r.length : Int) = z.length * n → (∀ c ∈ r.cps.toList, c ∈ z.cps.toList) → Q (.str r) H) := by
  intro pins s σ H x y v u Q I rx ry h
  obtain ⟨z, n, rfl, rfl, h1, h2, h3, q⟩ := h
  obtain ⟨t, rfl⟩ := rx
  obtain ⟨t', rfl⟩ := ry
  refine PySem.SB.mul (PyProof.Rows.mulOk_of 256 65536 h3 (by omega) (by omega) (by decide) (by decide)) fun t2 k => ⟨.str _, H, I.tok _, ⟨_, rfl⟩, q _ ?_ ?_⟩
  · rw [PyProof.Rows.len_mul]
    simp only [decide_eq_true_eq]
    rw [if_neg (by omega)]
  · exact mul_mem z n
end
/-! ### slices, by the letters -/
theorem sl_len (x : Str) : x.length = x.cps.toList.length := by simp [Str.length]
theorem sl_ix_to (b : Int) (n : Nat) : Builtin.Str.strSliceIndices none (some b) 1 n = Builtin.Str.strSliceIndices (some ((0 : Nat) : Int)) (some b) 1 n := by
  have : max (0 : Int) (min 0 (n : Int)) = 0 := by omega
  simp [Builtin.Str.strSliceIndices, this]
theorem sl_ix_from (a : Int) (n : Nat) : Builtin.Str.strSliceIndices (some a) none 1 n = Builtin.Str.strSliceIndices (some a) (some (n : Int)) 1 n := by
  have : ¬ ((n : Int) < 0) := by omega
  simp [Builtin.Str.strSliceIndices, this]
theorem sl_to0 (x : Str) {b : Nat} (hb : b ≤ x.length) : (Txt.slice x none (some (b : Int))).cps.toList = x.cps.toList.take b := by
  unfold Txt.slice
  have e := StrLaws.sliced_plain x (Nat.zero_le b) hb
  rw [← sl_ix_to] at e
  have el : (Builtin.Str.strSliceIndices none (some (b : Int)) 1 x.length).length = b := by
    rw [sl_ix_to, StrLaws.strSliceIndices_plain (Nat.zero_le b) hb]; simp
  split
  · rename_i z
    rw [el] at z
    have : b = x.length := by simpa using z
    rw [this, List.take_of_length_le (by simp [Str.length])]
  · rw [e]; simp
theorem sl_from0 (x : Str) {a : Nat} (ha : a ≤ x.length) : (Txt.slice x (some (a : Int)) none).cps.toList = x.cps.toList.drop a := by
  unfold Txt.slice
  have e := StrLaws.sliced_plain x ha (Nat.le_refl _)
  rw [← sl_ix_from] at e
  have el : (Builtin.Str.strSliceIndices (some (a : Int)) none 1 x.length).length = x.length - a := by
    rw [sl_ix_from, StrLaws.strSliceIndices_plain ha (Nat.le_refl _)]; simp
  split
  · rename_i z
    rw [el] at z
    have : x.length - a = x.length := by simpa using z
    rcases Nat.eq_zero_or_pos a with h | h
    · subst h; rw [List.drop_zero]
    · have hz : x.length = 0 := by omega
      have : x.cps.toList = [] := List.length_eq_zero_iff.mp (by simpa [Str.length] using hz)
      rw [this]; simp
  · rw [e]
    show (List.take (x.length - a) (List.drop a x.cps.toList)).toArray.toList = _
    rw [List.toList_toArray, List.take_of_length_le (by simp [Str.length])]
/-- a bound of a slice, as a place -/
def cl (n : Nat) (i : Int) : Nat := if i < 0 then (i + n).toNat else min i.toNat n
theorem sl_cl_to (x : Str) (i : Int) : Txt.slice x none (some i) = Txt.slice x none (some ((cl x.length i : Nat) : Int)) := by
  unfold Txt.slice cl
  have : Builtin.Str.strSliceIndices none (some i) 1 x.length = Builtin.Str.strSliceIndices none (some (((if i < 0 then (i + x.length).toNat else min i.toNat x.length : Nat)) : Int)) 1 x.length := by
    simp only [Builtin.Str.strSliceIndices, show ((1 : Int) > 0) = True from eq_true (by decide), if_true]
    congr 1
    rw [if_neg (show ¬ (((if i < 0 then (i + x.length).toNat else min i.toNat x.length : Nat) : Int) < 0) by omega)]
    split <;> omega
  rw [this]
theorem sl_cl_from (x : Str) (i : Int) : Txt.slice x (some i) none = Txt.slice x (some ((cl x.length i : Nat) : Int)) none := by
  unfold Txt.slice cl
  have : Builtin.Str.strSliceIndices (some i) none 1 x.length = Builtin.Str.strSliceIndices (some (((if i < 0 then (i + x.length).toNat else min i.toNat x.length : Nat)) : Int)) none 1 x.length := by
    simp only [Builtin.Str.strSliceIndices, show ((1 : Int) > 0) = True from eq_true (by decide), if_true]
    congr 1
    rw [if_neg (show ¬ (((if i < 0 then (i + x.length).toNat else min i.toNat x.length : Nat) : Int) < 0) by omega)]
    split <;> omega
  rw [this]
theorem cl_le (n : Nat) (i : Int) : cl n i ≤ n := by unfold cl; split <;> omega
/-- x[:i] and x[i:] -/
theorem sl_to (x : Str) (i : Int) : (Txt.slice x none (some i)).cps.toList = x.cps.toList.take (cl x.length i) := by rw [sl_cl_to, sl_to0 x (cl_le _ _)]
theorem sl_from (x : Str) (i : Int) : (Txt.slice x (some i) none).cps.toList = x.cps.toList.drop (cl x.length i) := by rw [sl_cl_from, sl_from0 x (cl_le _ _)]
end L2

namespace L2
open PySem PySem.Spec PyProof.Rows
theorem w_ifExp {tt : TT} {ta tb : TE} {σ : St} {H : Hp} {Q : VK} (q : tt σ H fun c H1 => if c = true then ta σ H1 Q else tb σ H1 Q) : tIf tt ta tb σ H Q := q
end L2
local macro_rules | `(tactic| array_get_dec) => `(tactic| with_reducible refine L2.w_ifExp ?_)
namespace L2
open PySem PySem.Spec PyProof.Rows
section
variable {g : TG} {tb : TS} {nx : St → Hp → Prop} {rt : VK} {σ : St} {H : Hp}
end
theorem st_cps (x y : Str) : (x ++ y).cps.toList = x.cps.toList ++ y.cps.toList := by show (x.cps ++ y.cps).toList = _; simp
theorem st_len (x y : Str) : (x ++ y).length = x.length + y.length := by show (x.cps ++ y.cps).size = _; simp [Str.length]
theorem st_ext {a b : Str} (h : a.cps.toList = b.cps.toList) : a = b := by
  cases a; cases b
  congr 1
  exact Array.toList_inj.mp h
theorem mt_joinK {X : Cx} (K : PySem.W.Frag) (hK : X.K = K := by rfl) : MtR X "str.join" (rJoin K) := by subst hK; exact mt_join
theorem w_gSub {to ti : TE} {t : TSet} {v : V} {σ : St} {H : Hp} {Q : St → Hp → Prop} (q : to σ H fun o H1 => ti σ H1 fun i H2 => t o i v H2 fun H3 => Q σ H3) : gSub to ti t v σ H Q := q
end L2
local macro_rules | `(tactic| array_get_dec) => `(tactic| with_reducible refine L2.w_gSub ?_)
namespace L2
open PySem PySem.Spec PyProof.Rows
/-! ### the state of the draws: a list of two numbers at `at` -/
def KB (at' : Addr) (H H' : Hp) : Prop := ∀ c o, c ≠ at' → H c = some o → H' c = some o
theorem KB.refl (at' : Addr) (H : Hp) : KB at' H H := fun _ _ _ e => e
theorem KB.trans {at' : Addr} {H H1 H2 : Hp} (a : KB at' H H1) (b : KB at' H1 H2) : KB at' H H2 := fun c o n e => b c o n (a c o n e)
theorem KB.of {at' : Addr} {H H' : Hp} (s : Same H H') : KB at' H H' := fun c o _ e => s c o e
theorem KB.at {at' : Addr} {H : Hp} {o : HO} : KB at' H (upd H at' o) := fun c u n e => by rw [upd_ne n]; exact e
theorem KB.put {at' : Addr} {H : Hp} {q : Addr} {o : HO} (h : H q = none) : KB at' H (upd H q o) := .of (Same.upd h)
structure AtOk (H : Hp) (at' : Addr) (c : Nat) : Prop where
  ob : ∃ i n : Int, H at' = some (.lst [.int i, .int n]) ∧ 0 ≤ i ∧ i ≤ c ∧ 0 ≤ n ∧ n < 2 ^ 31
theorem AtOk.same {H H' : Hp} {at' : Addr} {c : Nat} (h : AtOk H at' c) (s : Same H H') : AtOk H' at' c := let ⟨i, n, a, b⟩ := h.ob; ⟨i, n, s _ _ a, b⟩
theorem AtOk.mono {H : Hp} {at' : Addr} {c d : Nat} (h : AtOk H at' c) (l : c ≤ d) : AtOk H at' d := let ⟨i, n, a, b, e, f⟩ := h.ob; ⟨i, n, a, b, by omega, f⟩
/-- the script, not the state -/
def Scr (K : PySem.W.Frag) (at' : Addr) (H : Hp) (p : Addr) (ns : List Int) : Prop := SqL K H p (ns.map .int) ∧ (p = at' → ∀ H', SqL K H' p (ns.map .int))
theorem Scr.kb {K : PySem.W.Frag} {at' : Addr} {H H' : Hp} {p : Addr} {ns : List Int} (h : Scr K at' H p ns) (k : KB at' H H') : Scr K at' H' p ns := by
  refine ⟨?_, h.2⟩
  by_cases e : p = at'
  · exact h.2 e H'
  · rcases h.1 with (r | ⟨o, r⟩) | r
    · exact .inl (.inl (k _ _ e r))
    · exact .inl (.inr ⟨o, k _ _ e r⟩)
    · exact .inr r
theorem Scr.of {K : PySem.W.Frag} {at' : Addr} {H H' : Hp} {p : Addr} {ns : List Int} (h : SqL K H p (ns.map .int)) (n : H at' = none) (s : Same H H') : Scr K at' H' p ns := by
  refine ⟨s.seq h, fun e H2 => ?_⟩
  subst e
  rcases h with (r | ⟨o, r⟩) | r
  · rw [n] at r; cases r
  · rw [n] at r; cases r
  · exact .inr r
/-! ### a method whose last parameters have defaults -/
structure DfD (K : PySem.W.Frag) (x qual : Str) (st : Stmt) (ps : List Str) where
  f : Addr
  fd : FuncData
  cdv : Value
  ex : ∃ (oc : Value) (od : Option Addr) (dV kV doc pm : Value) (an : Option Addr) (ct : Value) (osl : Array (Option Value)),
    fd = PySem.W.fnOf x qual (defArgs st) (defBody st) (defScope st) dV kV doc pm an cdv ct ∧ K.lookup f = some ⟨oc, od, .func fd, osl⟩ ∧ PySem.W.codeIn K cdv qual = true
  kp : PySem.W.keepIn K (.ref f) = true
theorem DfD.ok {P : Program} {w : World} {K : PySem.W.Frag} {mg : Str → Option Value} {base : Heap} {x qual : Str} {st : Stmt} {N ps : List Str} {k : Nat} {sp : Sp} (D : DfD K x qual st ps) (S : FnScope N ps (defScope st)) (len : ∀ vs H Q E, sp vs H Q E → vs.length = ps.length)
    (hbody : ∀ (A : Around) (outer : List Env) (s : Shared) (H : Hp) (vs : List V) (Q : VK) (E : XK), Room k (A.deeper (envOfC qual (defScope st) s.heap.objs.size D.f D.cdv)) → sp vs H Q E →
      ∃ t, PSs (cxOf CX0 P w K mg base N qual (defScope st) D.f D.cdv A outer s H E).nox (defBody st) t ∧ t ⟨fun _ H' => Q .non H', Q, fun _ _ => False, fun _ _ => False⟩ (start N vs) H) : FnOk P w K mg base CX0 (k + 1) D.f D.fd ps sp := by
  obtain ⟨f, fd, cdv, ⟨oc, od, dV, kV, doc, pm, an, ct, osl, rfl, lk, hcd⟩, kp⟩ := D
  refine fn_of lk hcd S len fun A outer s H vs Q E hr hsp => ?_
  obtain ⟨t, h, q⟩ := hbody A outer s H vs Q E hr hsp
  exact ⟨t, h.nox, q⟩
end L2

namespace L2
open PySem PySem.Spec PyProof.Rows
theorem compTurn_set (elt target iter : Expr) (ifs : List Expr) (scope : Scope) (pos : Pos) (it acc : Value) (env : Env) :
    compTurn (.SetComp elt [⟨target, iter, ifs, 0⟩] scope pos) 0 it acc env = (do
      standAt iter.pos
      match ← pyNext it with
      | none => pure (.done .next)
      | some v =>
        letOwnedTupleGo target it v
        assign target env v
        let mut ok := true
        for c in ifs do
          if ok then ok ← isTrue c env (eval c env)
        if ok then
          (do let v ← eval elt env; standAt elt.pos; let _ ← call (.builtin "set.add") [acc, v])
        again (.compLoop (.SetComp elt [⟨target, iter, ifs, 0⟩] scope pos) 0 it acc env)) := by rfl
theorem eval_SetComp {env : Env} (elt : Expr) (gens : List Comprehension) (scope : Scope) (pos : Pos) : eval (.SetComp elt gens scope pos) env =
    comprehension (.SetComp elt gens scope pos) scope env (firstIterPos gens pos) (newSet (.type "set")) (firstAsync gens) (firstIter gens env) := rfl
section
variable {prog : Program} {w : World} {A : Around} {R : Result → Shared → Prop} {s : Shared}
theorem codeAny_compStart_set {elt target iter : Expr} {ifs : List Expr} {rest : List Comprehension} {scope : Scope} {pos : Pos} {it acc : Value} {env : Env}
    (h0 : codeAny (model prog w) A (.compLoop (.SetComp elt (⟨target, iter, ifs, 0⟩ :: rest) scope pos) 0 it acc env) R s)
    (h : wpAny (model prog w) A (pyIter it) (fun it' s' => codeAny (model prog w) A (.compLoop (.SetComp elt (⟨target, iter, ifs, 0⟩ :: rest) scope pos) 0 it' acc env) R s')
      (notedBy (model prog w) A env fun x s' => R (.error x) s') s) :
    codeAny (model prog w) A (.compStart (.SetComp elt (⟨target, iter, ifs, 0⟩ :: rest) scope pos) 0 it acc env) R s := by
  refine codeAny_of_tree ?_
  show wpAny _ A ((compStart (.SetComp elt (⟨target, iter, ifs, 0⟩ :: rest) scope pos) 0 it acc env).onRaise (fun x => do noteFrame x env; standAt theWindowsPlace)) _ _ s
  refine wpAny_notedAt ?_
  unfold compStart
  show wpAny _ A (ask >>= _) _ _ s
  refine wpAny_bind (wpAny_askSetting (wpAny_ite ?_))
  split
  · first
      | exact wpAny_bind (wpAny_pure (wpAny_pure (And.intro rfl h0)))
      | exact wpAny_pure (And.intro rfl h0)
  · first
      | exact wpAny_bind (wpAny_rule (wpAny_bind (wpAny_standAt (wpAny_bind (wpAny_mono h (fun it' s' h' => wpAny_pure (And.intro rfl h')) fun _ _ x => x)))))
      | (refine wpAny_bind (wpAny_rule ?_); show wpAny _ _ (standAt iter.pos >>= _) _ _ s; exact wpAny_bind (wpAny_standAt (wpAny_bind (wpAny_mono h (fun it' s' h' => wpAny_pure (And.intro rfl h')) fun _ _ x => x))))
end
theorem is_key {k : Key} {v : Value} (r : RelV (kV k) v) : keyIs k v = true := by
  cases k with
  | inl i => obtain ⟨t, rfl⟩ := r; simp [keyIs, Value.isInt]
  | inr x => obtain ⟨t, rfl⟩ := r; simp [keyIs, Value.isStrOf]
/-- D: where the new set stands; W: what holds when i items were walked and the keys L were met -/
def tSC (P : Program) (w : World) (nN : Nat) (fs : List (Nat × Nat)) (wi : TI) (g : TG) (tc : TT) (te : TE) : TE := fun σ H Q => wi σ H fun J H1 => ∀ D, H1 D = none → ∃ (n : Nat) (W : Nat → List Key → Hp → Prop), n + 1 < scanBound ∧ W 0 [] (upd H1 D (SetO P w D [])) ∧
  ∀ i ys H2, i ≤ n → W i ys H2 → H2 D = some (SetO P w D ys) → (J.stop i H2 ∧ Q (.ref D) H2) ∨ (i < n ∧ J.go i H2 ∧ ∀ x H3, J.yld i H2 x H3 → g x (tau nN fs σ) H3 fun τ4 H4 =>
    (∀ (j : Nat) v, (tau nN fs σ)[j]? = some (some v) → τ4[j]? = some (some v)) ∧ tc τ4 H4 fun b H5 =>
      if b = true then te τ4 H5 fun v H6 => ∃ k : Key, v = kV k ∧ H6 D = some (SetO P w D ys) ∧ W (i + 1) (met1 ys k) (upd H6 D (SetO P w D (met1 ys k))) else H5 D = some (SetO P w D ys) ∧ W (i + 1) ys H5)
section
variable {X : Cx} {scope : Scope} {N : List Str} {fs : List (Nat × Nat)} {tg elt iter : Expr} {ifs : List Expr} {pos cpos : Pos} {wi : TI} {g : TG} {tc : TT} {te : TE}
theorem comp_coreS {use : Option (Value → Sem Unit)} {R' : Value → Shared → Prop} (S : CompSc X scope N fs) (hcalm : X.calm = true)
    (hi : PI X tg iter wi) (hg : ∀ cl C s₀ H fp, PG (cxComp X scope cl C N s₀ H fp) tg g) (hc : ∀ cl C s₀ H fp, PTs (cxComp X scope cl C N s₀ H fp) ifs tc) (he : ∀ cl C s₀ H fp, PE (cxComp X scope cl C N s₀ H fp) elt te)
    (hs : ∀ x, foldedSetIterable iter X.env x = pure x) {pins : List (Addr × Obj)} {s : Shared} {σ : St} {H : Hp} {Q : VK} (I : Inv X pins σ H s) (h : tSC X.prog X.w N.length fs wi g tc te σ H Q)
    (hfin : ∀ (D C : Addr) (H2 : Hp) (s' : Shared), Inv X pins σ H2 s' → Q (.ref D) H2 → (∃ m, s'.heap.Ns C m) → FpOk X pins H2 C → compPost (model X.prog X.w) X.A X.xe use R' (.ref D) C (.ok .next) s') :
    wpAny (model X.prog X.w) X.A (comprehension (.SetComp elt [⟨tg, iter, ifs, 0⟩] scope pos) scope X.env cpos (newSet (.type "set")) false (eval iter X.env) use) R' X.xe s := by
  have hfree : ∀ y ∈ scope.names, y.2 = .free → ∃ c, X.env.cells.lookup y.1 = some c := fun y hy hf => by
    have q := List.all_eq_true.mp S.free y hy
    rw [hf] at q
    refine I.ok.has y.1 ?_
    simpa using q
  have hcell : ∀ y ∈ scope.names, y.2 ≠ .cell := fun y hy => by simpa using List.all_eq_true.mp S.cell y hy
  have hnames : ∀ y ∈ scope.names, y.2 = .local → scope.names.lookup y.1 = some .local := fun y hy hl => by
    have q := List.all_eq_true.mp S.own y hy
    rw [hl] at q
    simpa using q
  have hclo := closure_eq hfree
  generalize hcl : clOf scope.names X.env.cells [] = cl at hclo
  have back : ∀ {y c}, cl.lookup y = some c → X.env.cells.lookup y = some c := fun {y c} e => clOf_back (names := scope.names) (acc := []) (fun z => by cases z) (by rw [hcl]; exact e)
  have hasc : ∀ {y}, scope.names.lookup y = some .free → ∃ c, cl.lookup y = some c := fun {y} e => by
    have := clOf_has (cells := X.env.cells) (acc := []) hfree (PySem.mem_of_lookup e)
    rw [hcl] at this
    exact Option.isSome_iff_exists.mp this
  refine wpAny_comprehension_free (use := use) rfl hs hclo S.kind hnames (thn (hi pins s σ H _ I h) fun v s1 h1 => thn h1 fun itv s2 h2 => ?_)
  obtain ⟨it, fp, tn, J, H1, e, I2, T, st2, f2, hq⟩ := h2
  subst e
  have hD : H1 s2.heap.objs.size = none := I2.fresh
  obtain ⟨n, W, hn, w0, turn⟩ := hq _ hD
  refine wpAny_newSet_of (knd := mixKind X.prog X.w) fun led S0 => ?_
  have I3 : Inv X pins σ (upd H1 s2.heap.objs.size (SetO X.prog X.w s2.heap.objs.size [])) { s2 with heap := s2.heap.push (set0 led), toks := s2.toks } := I2.laid (fun b u e => Heap.get?_push_of_some _ e) (Nat.le_refl _) (set0_in (Heap.get?_push_size _ rfl)).ok
  have st3 : tn 0 (s2.heap.push (set0 led)) := T.keep _ _ _ st2 fun b hb o e => Heap.get?_push_of_some _ e
  have fpD : ∀ b ∈ fp, b ≠ s2.heap.objs.size := fun b hb => let ⟨_, e, _⟩ := T.obj _ _ st2 b hb; Nat.ne_of_lt (Heap.lt_size e)
  generalize hH3 : upd H1 s2.heap.objs.size (SetO X.prog X.w s2.heap.objs.size []) = H3 at I3 w0
  have fr3 : ∀ b ∈ fp, H3 b = none := fun b hb => by rw [← hH3, upd_ne (fpD b hb)]; exact (f2 b hb).1
  have hD3 : H3 s2.heap.objs.size = some (SetO X.prog X.w s2.heap.objs.size []) := by rw [← hH3]; exact upd_same
  clear hH3
  generalize hhp : s2.heap.push (set0 led) = h3 at I3 st3 ⊢
  have hc3 : ∀ (E : Value → Shared → Prop) (Q' : Env → Shared → Prop), (∀ h4, h4.Ns h3.objs.size (fun _ => none) → (∀ b o, h3.get? b = some o → h4.get? b = some o) → h3.objs.size < h4.objs.size → Q' (newEnv scope h3.objs.size X.env.globals cl X.env.qual none .none (some X.env) X.env.builtins) { s2 with heap := h4, toks := s2.toks }) →
      wpAny (model X.prog X.w) X.A (newFunctionEnv scope X.env.globals cl [] X.env.qual none .none (some X.env)) Q' E { s2 with heap := h3 } := fun E Q' k => by
    refine wpAny_newFunctionEnv hcell (by intro y hy; cases hy) (fun h4 a b => ?_) S.kind
    exact k h4 a (fun b' o e => b.extBut b' o (Nat.ne_of_lt (Heap.lt_size e)) (Heap.get?_push_of_some _ e)) (by rw [b.1, Heap.size_push]; exact Nat.lt_succ_self _)
  refine hc3 _ _ fun h4 hns k4 s34 => ?_
  have fpl : ∀ b ∈ fp, b < h3.objs.size := fun b hb => let ⟨_, e, _⟩ := T.obj _ _ st3 b hb; Heap.lt_size e
  have fps : ∀ b ∈ fp, b ∉ frs X.stack := fun b hb z => by
    rcases List.mem_cons.mp (I2.stkSub b z) with q | q
    · exact (f2 b hb).2.1 q
    · exact (f2 b hb).2.2.1 q
  have fst : ∀ {H' : Hp}, (∀ b ∈ fp, H' b = none) → ∀ b ∈ fp, FpOk (cxComp X scope cl h3.objs.size N { s2 with heap := h3, toks := s2.toks } H3 fp) [] H' b := fun hn b hb =>
    ⟨hn b hb, Nat.ne_of_lt (fpl b hb), fps b hb, .inl hb, fun x c e => (f2 b hb).2.2.2.2.1 x c (back e), fun q hq => by cases hq⟩
  have hYok : (cxComp X scope cl h3.objs.size N { s2 with heap := h3, toks := s2.toks } H3 fp).Ok := by
    refine ⟨I3.ok.mod, S.kind, I.ok.glob, I.ok.blt, Nat.le_refl _, fun x y c e1 e2 => I3.ok.inj x y c (back e1) (back e2), fun x hx => ?_, fun x c z => (by cases z), fun _ => I.ok.hd hcalm, I.ok.frames, .inl rfl,
      fun b hb => ⟨Nat.ne_of_lt (fpl b hb), fun x c e => (f2 b hb).2.2.2.2.1 x c (back e)⟩, I3.bs, Nat.le_trans I3.ok.bsz I3.sz, fun b o e hb => ?_, fps, I3.stack, I3.stkFree⟩
    · have hx : (relabel scope X.env).names.lookup x = some .cell ∨ (relabel scope X.env).names.lookup x = some .free := hx
      have hx2 : scope.names.lookup x = some .cell ∨ scope.names.lookup x = some .free := by
        rcases hx with z | z
        · exact relabel_back z
        · exact (relabel_back z).elim .inr .inr
      rcases hx2 with z | z
      · exact absurd rfl (hcell _ (PySem.mem_of_lookup z))
      · exact hasc z
    · rcases (f2 b hb).2.2.2.1 with z | z
      · exact I3.ok.noex b o e z
      · exact absurd (Nat.lt_of_lt_of_le (Heap.lt_size e) (Nat.le_trans I3.ok.bsz z)) (Nat.lt_irrefl _)
  have IY : Inv (cxComp X scope cl h3.objs.size N { s2 with heap := h3, toks := s2.toks } H3 fp) [] (tau N.length fs σ) H3 { s2 with heap := h4, toks := s2.toks } := by
    refine ⟨hYok, rfl, I3.bare, Un.kept k4, ⟨_, hns, fun i x v e1 e2 e3 => ?_⟩, fun x c e => ?_, I3.hok.fresh (Nat.le_refl _), fun x c e => I3.freeC x c (back e), fun q hq => (by cases hq), I3.hok.kept k4, tau_len _ _ _⟩
    · obtain ⟨j, hj, hv⟩ := tau_get e2
      obtain ⟨x', q1, q2, q3, q4⟩ := S.fs.mem hj
      have e1 : N[i]? = some x := e1
      rw [e1] at q1
      cases q1
      obtain ⟨m, _, hl⟩ := I3.loc
      obtain ⟨u, ru, lk⟩ := hl j x v q2 hv (by rcases q4 with z | z; exact .inr (.inl z); exact .inr (.inr z))
      refine ⟨u, ru, .inr ⟨relabel_free q3, ?_⟩⟩
      rcases lk with ⟨z, _⟩ | ⟨_, c, e, hcc⟩
      · rcases q4 with y | y <;> (rw [y] at z; cases z)
      · obtain ⟨c', e'⟩ := hasc q3
        have z := back e'
        rw [e] at z
        cases z
        obtain ⟨o, ho, hd⟩ := hcc
        exact ⟨c, e', o, k4 _ _ ho, hd⟩
    · obtain ⟨v, o, ho, hd⟩ := I3.cell x c (back e)
      exact ⟨v, o, k4 _ _ ho, hd⟩
  have hg := hg cl h3.objs.size { s2 with heap := h3, toks := s2.toks } H3 fp
  have hc := hc cl h3.objs.size { s2 with heap := h3, toks := s2.toks } H3 fp
  have he := he cl h3.objs.size { s2 with heap := h3, toks := s2.toks } H3 fp
  generalize hYd : cxComp X scope cl h3.objs.size N { s2 with heap := h3, toks := s2.toks } H3 fp = Y at hg hc he IY fst
  have eP : Y.prog = X.prog := by rw [← hYd]; rfl
  have ew : Y.w = X.w := by rw [← hYd]; rfl
  have eK : Y.K = X.K := by rw [← hYd]; rfl
  have ec : Y.calm = true := by rw [← hYd]; rfl
  have eA : Y.A = X.A := by rw [← hYd]; rfl
  have ex : Y.xe = fun _ _ => False := by rw [← hYd]; rfl
  have ee : Y.env = compEnvC scope cl h3.objs.size X.env := by rw [← hYd]; rfl
  have outX : ∀ {H' : Hp} {τ' : St} {s' : Shared}, Inv Y [] τ' H' s' → Inv X pins σ H' s' := fun {H' τ' s'} J => by
    have J' := J
    rw [← hYd] at J'
    refine I3.call' J'.os J'.base J'.hok J'.bare fun b hb => ?_
    obtain ⟨_, z1, z2, z3, z4, z5⟩ := f2 b hb
    exact ⟨z3, z1, z4, z5⟩
  have loop : codeAny (model X.prog X.w) X.A (.compLoop (.SetComp elt [⟨tg, iter, ifs, 0⟩] scope pos) 0 (.ref it) (.ref s2.heap.objs.size) (compEnvC scope cl h3.objs.size X.env))
      (compPost (model X.prog X.w) X.A X.xe use R' (.ref s2.heap.objs.size) h3.objs.size) { s2 with heap := h4, toks := s2.toks } := by
    refine codeAny_loop rfl (fun m s' => ∃ i ys H2, m = n - i ∧ i ≤ n ∧ ys.length ≤ i ∧ W i ys H2 ∧ H2 s2.heap.objs.size = some (SetO X.prog X.w s2.heap.objs.size ys) ∧ (∀ b ∈ fp, H2 b = none) ∧ Inv Y [] (tau N.length fs σ) H2 s' ∧ tn i s'.heap) ?_ n
      ⟨0, [], H3, rfl, Nat.zero_le _, Nat.le_refl _, w0, hD3, fr3, IY, T.keep _ _ _ st3 fun b _ o e => k4 b o e⟩
    rintro m s5 ⟨i, ys, H2, rfl, hi, hy, w5, hD5, fr5, I5, st5⟩
    show wpAny _ X.A ((compTurn (.SetComp elt [⟨tg, iter, ifs, 0⟩] scope pos) 0 (.ref it) (.ref s2.heap.objs.size) (compEnvC scope cl h3.objs.size X.env)).onRaise (fun x => do noteFrame x (compEnvC scope cl h3.objs.size X.env); theTreesLotGoes x)) _ _ s5
    rw [compTurn_set]; refine wpAny_noted (wpAny_bind (wpAny_standAt (wpAny_bind ?_)))
    rcases turn i ys H2 hi w5 hD5 with ⟨stop, q⟩ | ⟨hlt, go, step⟩
    · have h6 := T.done Y eP ew eK ec i [] s5 _ H2 (fun _ _ => False) I5 (fst fr5) st5 stop
      rw [eA] at h6
      refine wpAny_mono h6 (fun r s6 z => ?_) fun _ _ f => f.elim
      obtain ⟨hr, I6⟩ := z
      subst hr
      refine wpAny_pure (hfin _ _ H2 s6 (outX I6) q ?_ ?_)
      · obtain ⟨m, hm, _⟩ := I6.loc
        rw [ee] at hm
        exact ⟨m, hm⟩
      · have z := I6.free
        rw [ee] at z
        exact I3.fpOk (Nat.le_refl _) z
    · have h6 := T.item Y eP ew eK ec i [] s5 _ H2 (fun _ _ => False) I5 (fst fr5) st5 go
      rw [eA] at h6
      refine wpAny_mono h6 (fun r s6 z => ?_) fun _ _ f => f.elim
      obtain ⟨v, hr, h7⟩ := z
      subst hr
      refine wpAny_bind (wpAny_mono h7 (fun _ s7 z => ?_) fun _ _ f => f.elim)
      obtain ⟨x, H7, I7, rx, y7, st7, fr7⟩ := z
      have I7' := I7.pinned (fst fr7) (T.obj _ _ st7)
      have h8 := hg _ s7 _ H7 x v _ I7' rx (step x H7 y7)
      rw [eP, ew, eA, ee, ex] at h8
      refine wpAny_bind (wpAny_mono h8 (fun _ s8 z => ?_) fun _ _ f => f.elim)
      obtain ⟨τ8, H8, I8, w8, q8⟩ := z
      have h9 := hc _ s8 τ8 H8 _ I8 q8
      rw [eP, ew, eA, ee, ex] at h9
      refine wpAny_bind (wpAny_mono h9 (fun ok s9 z => ?_) fun _ _ f => f.elim)
      obtain ⟨H9, I9, q9⟩ := z
      have stay : ∀ {H' : Hp} {s' : Shared}, Inv Y ([] ++ pinsAt fp s7.heap) τ8 H' s' → tn (i + 1) s'.heap ∧ (∀ b ∈ fp, H' b = none) ∧ Inv Y [] (tau N.length fs σ) H' s' := fun {H' s'} J => by
        refine ⟨T.keep _ _ _ st7 fun b hb o e => (J.pin (b, o) (List.mem_append_right _ (List.mem_append_right _ (mem_pinsAt hb e)))).1, fun b hb => ?_, J.unpinned.weak (I5.len.trans J.len.symm) w8⟩
        obtain ⟨o, e, _⟩ := T.obj _ _ st7 b hb
        exact (J.pin (b, o) (List.mem_append_right _ (List.mem_append_right _ (mem_pinsAt hb e)))).2.1
      cases ok with
      | false =>
        obtain ⟨hD9, w9⟩ := (if_neg Bool.false_ne_true ▸ q9 : _)
        obtain ⟨z1, z2, z3⟩ := stay I9
        exact wpAny_pure ⟨rfl, n - (i + 1), by omega, i + 1, ys, H9, rfl, hlt, by omega, w9, hD9, z2, z3, z1⟩
      | true =>
        have q9 := (if_pos rfl ▸ q9 : _)
        have h10 := he _ s9 τ8 H9 _ I9 q9
        rw [eP, ew, eA, ee, ex] at h10
        refine wpAny_bind (wpAny_bind (wpAny_mono h10 (fun y s10 z => ?_) fun _ _ f => f.elim))
        obtain ⟨y', H10, I10, ry, ky, ek, hD10, w10⟩ := z
        subst ek
        have S10 : SetIn X.prog X.w s2.heap.objs.size ys s10.heap := (I10.hok _ _ hD10).1
        refine wpAny_bind (wpAny_standAt (wpAny_bind ?_))
        refine call_set_add (knd := mixKind X.prog X.w) (k := ky) (is_key ry) (key_scan (is_key ry)) S10 (by omega) fun h' sb S2 => ?_
        have S3 := SetIn.add S2
        have I11 : Inv Y _ τ8 (upd H10 s2.heap.objs.size (SetO X.prog X.w s2.heap.objs.size (met1 ys ky))) { s10 with heap := h', toks := s10.toks + 1 } :=
          I10.write (by rw [hD10]; trivial) (.inl rfl) (fun b u hb e => (sb.2 b hb).trans e) (let ⟨o, _, _, _, ho, _⟩ := S3; ⟨o, ho⟩) (by rw [eP, ew]; exact S3.ok)
        obtain ⟨z1, z2, z3⟩ := stay I11
        exact wpAny_pure (wpAny_pure ⟨rfl, n - (i + 1), by omega, i + 1, met1 ys ky, _, rfl, hlt, by rw [len_met1]; split <;> omega, w10, upd_same, z2, z3, z1⟩)
  exact codeAny_compStart_set loop (T.self _ 0 _ _ _ (T.keep _ _ _ st3 fun b _ o e => k4 b o e) loop)

/-- {elt for tg in iter if ..} -/
theorem pe_sc (S : CompSc X scope N fs) (hcalm : X.calm = true) (hi : PI X tg iter wi) (hg : ∀ cl C s₀ H fp, PG (cxComp X scope cl C N s₀ H fp) tg g) (hc : ∀ cl C s₀ H fp, PTs (cxComp X scope cl C N s₀ H fp) ifs tc)
    (he : ∀ cl C s₀ H fp, PE (cxComp X scope cl C N s₀ H fp) elt te) (P : Program) (w : World) (hs : ∀ x, foldedSetIterable iter X.env x = pure x := by intro _; rfl) (hP : X.prog = P := by rfl) (hw : X.w = w := by rfl) :
    PE X (.SetComp elt [⟨tg, iter, ifs, 0⟩] scope pos) (tSC P w N.length fs wi g tc te) := by
  subst hP hw
  intro pins s σ H Q I h
  rw [eval_SetComp]
  refine comp_coreS (use := none) S hcalm hi hg hc he hs I h fun D C H2 s' I' q ⟨m, hm⟩ f => ⟨m, hm, fun h' hs' => ?_⟩
  exact ⟨.ref D, H2, I'.off f hs', rfl, q⟩
end
end L2

namespace L2
open PySem PySem.Spec PyProof.Rows
section
variable {X : Cx}
/-- len of a set -/
theorem call_len_setK (P : Program) (w : World) (hP : X.prog = P := by rfl) (hw : X.w = w := by rfl) : CallR X (.builtin "len") (fun xs H Q => ∃ a L, xs = [.ref a] ∧ H a = some (SetO P w a L) ∧ L.length < 2 ^ 62 ∧ Q (.int L.length) H) := by
  subst hP hw
  intro pins s σ H xs us Q I r h
  obtain ⟨a, L, rfl, hH, hl, q⟩ := h
  obtain ⟨u, rfl, rx⟩ := vals1 r
  cases rx
  obtain ⟨o, es, ep, t, ho, hex, hd, h1, h2, h3, h4, h5⟩ : SetIn X.prog X.w a L s.heap := (I.hok _ _ hH).1
  exact call_len_set ho hex hd h4 (by omega) ⟨.int L.length, H, I.tok _, ⟨s.toks + 1, by rw [h5]⟩, q⟩
theorem vals_refs : ∀ {ts : List Addr} {us : List Value}, Vals (ts.map V.ref) us → us = ts.map Value.ref
  | [], _, h => by cases h; rfl
  | t :: ts, _, h => by
    cases h with
    | cons a b => rw [show _ = Value.ref t from a, vals_refs b]; rfl
/-- lists of the same objects -/
theorem op_neI (K : PySem.W.Frag) (hu : X.A.units < cLine) (hK : X.K = K := by rfl) : OpR X (compareOp .NotEq) (fun x y H Q => ∃ (a b : Addr) (ts : List Addr), x = .ref a ∧ y = .ref b ∧ SqL K H a (ts.map V.ref) ∧ SqL K H b (ts.map V.ref) ∧ Q (.bl false) H) := by
  subst hK
  intro pins s σ H x y v u Q I rx ry h
  obtain ⟨a, b, ts, rfl, rfl, h1, h2, q⟩ := h
  cases rx
  cases ry
  obtain ⟨us, r1, p1, _⟩ := I.list h1
  obtain ⟨vs, r2, p2, _⟩ := I.list h2
  obtain rfl := vals_refs r1
  obtain rfl := vals_refs r2
  refine SeqAt.RcNeAt.lists (e := fun _ => true) p1.isList p2.isList rfl hu (fun j _ _ => SeqAt.EqAt.same _) _ _ _ _ (fin_bl I q ?_)
  simp
end
theorem w_sc {P : Program} {w : World} {nN : Nat} {fs : List (Nat × Nat)} {wi : TI} {g : TG} {tc : TT} {te : TE} {σ : St} {H : Hp} {Q : VK} (q : wi σ H fun J H1 => ∀ D, H1 D = none → ∃ (n : Nat) (W : Nat → List Key → Hp → Prop), n + 1 < scanBound ∧ W 0 [] (upd H1 D (SetO P w D [])) ∧
  ∀ i ys H2, i ≤ n → W i ys H2 → H2 D = some (SetO P w D ys) → (J.stop i H2 ∧ Q (.ref D) H2) ∨ (i < n ∧ J.go i H2 ∧ ∀ x H3, J.yld i H2 x H3 → g x (tau nN fs σ) H3 fun τ4 H4 =>
    (∀ (j : Nat) v, (tau nN fs σ)[j]? = some (some v) → τ4[j]? = some (some v)) ∧ tc τ4 H4 fun b H5 =>
      if b = true then te τ4 H5 fun v H6 => ∃ k : Key, v = kV k ∧ H6 D = some (SetO P w D ys) ∧ W (i + 1) (met1 ys k) (upd H6 D (SetO P w D (met1 ys k))) else H5 D = some (SetO P w D ys) ∧ W (i + 1) ys H5)) : tSC P w nN fs wi g tc te σ H Q := q
end L2
local macro_rules | `(tactic| array_get_dec) => `(tactic| with_reducible refine L2.w_sc ?_)
namespace L2
open PySem PySem.Spec PyProof.Rows
/-- a set out of a list, by the keys that the items give -/
theorem scL {P : Program} {w : World} {K : PySem.W.Frag} {nN : Nat} {fs : List (Nat × Nat)} {te : TE} {σ : St} {H : Hp} {QD : Addr → Hp → Prop} {a : Addr} {xs : List V} (f : Nat → Key) (hl : SqL K H a xs) (hz : xs.length + 1 < scanBound) (h1 : (tau nN fs σ)[0]? = some none)
    (ht : ∀ D L i (Qc : VK), H D = none → i < xs.length → Qc (kV (f i)) (upd H D (SetO P w D L)) → te ((tau nN fs σ).set 0 (some (xs.getD i .non))) (upd H D (SetO P w D L)) Qc)
    (hQ : ∀ D, H D = none → QD D (upd H D (SetO P w D (metK ((List.range xs.length).map f))))) :
    ∀ D, H D = none → ∃ (n : Nat) (W : Nat → List Key → Hp → Prop), n + 1 < scanBound ∧ W 0 [] (upd H D (SetO P w D [])) ∧
      ∀ i ys H2, i ≤ n → W i ys H2 → H2 D = some (SetO P w D ys) → ((Itl K a).stop i H2 ∧ QD D H2) ∨ (i < n ∧ (Itl K a).go i H2 ∧ ∀ x H3, (Itl K a).yld i H2 x H3 → gName 0 x (tau nN fs σ) H3 fun τ4 H4 =>
        (∀ (j : Nat) v, (tau nN fs σ)[j]? = some (some v) → τ4[j]? = some (some v)) ∧ tYes τ4 H4 fun b H5 =>
          if b = true then te τ4 H5 fun v H6 => ∃ k : Key, v = kV k ∧ H6 D = some (SetO P w D ys) ∧ W (i + 1) (met1 ys k) (upd H6 D (SetO P w D (met1 ys k))) else H5 D = some (SetO P w D ys) ∧ W (i + 1) ys H5) := by
  intro D hD
  refine ⟨xs.length, fun i L H2 => H2 = upd H D (SetO P w D L) ∧ L = metK ((List.range i).map f), hz, ⟨rfl, rfl⟩, ?_⟩
  rintro i L _ hi ⟨rfl, e⟩ _
  have hl' := sqL_upd (o := SetO P w D L) hl hD
  rcases Nat.lt_or_ge i xs.length with hlt | hge
  · refine .inr ⟨hlt, ⟨xs, xs[i], hl', List.getElem?_eq_getElem hlt⟩, ?_⟩
    rintro x H3 ⟨rfl, hx⟩
    have ex : x = xs.getD i .non := by
      have := hx xs hl'
      simp [List.getD, this]
    subst ex
    refine w_gName ⟨mono0 h1, ?_⟩
    refine w_yes ?_
    refine iteT ?_
    refine ht D L i _ hD hlt ⟨f i, rfl, upd_same, by rw [upd_upd], ?_⟩
    rw [List.range_succ, List.map_append, List.map_cons, List.map_nil, metK_snoc, e]
  · have : i = xs.length := by omega
    subst this
    refine .inl ⟨⟨xs, hl', Nat.le_refl _⟩, ?_⟩
    rw [e]
    exact hQ D hD
end L2

namespace L2
open PySem PySem.Spec PyProof.Rows
section
variable {X : Cx}
end
end L2

namespace L2
open PySem PySem.Spec PyProof.Rows
section
variable {prog : Program} {w : World} {A : Around} {E : Value → Shared → Prop} {s : Shared}
end
end L2

namespace L2
open PySem PySem.Spec PyProof.Rows
section
variable {P : Program} {w : World} {A : Around} {R : Result → Shared → Prop} {I : Addr} {fp wr : List Addr} {G : Array GenState → Array GenState → Prop} {n : Nat} {Pv : Nat → Value → Prop} {St : Nat → Shared → Prop}
/-- the tuples of two that the iterator gives stand in the heap -/
def PairsIn (wr : List Addr) (D : Addr) (ps : List (Key × Value)) (Pv : Nat → Value → Prop) (h : Heap) : Prop := ∀ i v, Pv i v → ∃ t k u x, v = .ref t ∧ t ≠ D ∧ t ∉ wr ∧ ps[i]? = some (k, x) ∧ keyIs k u = true ∧ h.IsTuple t #[u, x]
theorem PairsIn.keeps {wr : List Addr} {D : Addr} {ps : List (Key × Value)} {Pv : Nat → Value → Prop} {h h' : Heap} (x : PairsIn wr D ps Pv h) (k : ∀ b o, b ≠ D → b ∉ wr → h.get? b = some o → h'.get? b = some o) : PairsIn wr D ps Pv h' := fun i v hv => by
  obtain ⟨t, key, u, y, e1, e2, e3, e4, e5, o, ho, r⟩ := x i v hv
  exact ⟨t, key, u, y, e1, e2, e3, e4, e5, o, k _ _ e2 e3 ho, r⟩
end
end L2

namespace L2
open PySem PySem.Spec PyProof.Rows
section
variable {X : Cx} {pins : List (Addr × Obj)} {σ : St} {H : Hp} {s : Shared}
end
end L2

namespace L2
open PySem PySem.Spec PyProof.Rows
section
variable {X : Cx}
/-! ### f-strings -/
def tFmtS (te : TE) : TE := fun σ H Q => te σ H fun x H1 => ∃ y : Str, x = .str y ∧ y.length ≤ sizeLine ∧ Q (.str y) H1
def tFmtI (te : TE) : TE := fun σ H Q => te σ H fun x H1 => ∃ i : Int, x = .int i ∧ i.natAbs.log2 < 1920 ∧ Q (.str (toString i)) H1
theorem pe_fvS {e : Expr} {te : TE} {pos : Pos} (he : PE X e te) : PE X (.FormattedValue e (-1) none pos) (tFmtS te) := by
  intro pins s σ H Q I h
  refine FormattedValue_plain (thn (he pins s σ H _ I h) fun v s1 ⟨x, H1, I1, r1, y, hx, hy, q⟩ => ?_)
  subst hx
  obtain ⟨t, rfl⟩ := r1
  exact formatField_str (fun t' tk => ⟨.str y, H1, I1.tok _, ⟨_, rfl⟩, q⟩) hy
theorem pe_fvI {e : Expr} {te : TE} {pos : Pos} (he : PE X e te) : PE X (.FormattedValue e (-1) none pos) (tFmtI te) := by
  intro pins s σ H Q I h
  refine FormattedValue_plain (thn (he pins s σ H _ I h) fun v s1 ⟨x, H1, I1, r1, i, hx, hi, q⟩ => ?_)
  subst hx
  obtain ⟨t, rfl⟩ := r1
  exact formatField_int_small hi ⟨.str (toString i), H1, I1.tok _, ⟨_, rfl⟩, q⟩
/-- parts that are put together, behind what stands there -/
abbrev TJ := St → Hp → Str → VK → Prop
def PJ (X : Cx) (es : List Expr) (t : TJ) : Prop :=
  ∀ (pins : List (Addr × Obj)) (s : Shared) (σ : St) (H : Hp) (out : Str) (Q : VK), Inv X pins σ H s → t σ H out Q → wpAny (model X.prog X.w) X.A (joinParts out (evalEach es X.env)) (EP X pins σ Q) X.xe s
def jNil : TJ := fun _ H out Q => out.length ≤ sizeLine ∧ Q (.str out) H
def jCons (te : TE) (t : TJ) : TJ := fun σ H out Q => te σ H fun x H1 => ∃ y : Str, x = .str y ∧ (out ++ y).length ≤ sizeLine ∧ t σ H1 (out ++ y) Q
theorem pj_nil : PJ X [] jNil := by
  intro pins s σ H out Q I h
  exact joinParts_nil ⟨.str out, H, I.tok _, ⟨_, rfl⟩, h.2⟩ h.1
theorem pj_c {e : Expr} {es : List Expr} {te : TE} {t : TJ} (he : PE X e te) (hr : PJ X es t) : PJ X (e :: es) (jCons te t) := by
  intro pins s σ H out Q I h
  show wpAny _ _ (joinParts out (eval e X.env :: evalEach es X.env)) _ _ s
  refine joinParts_cons (thn (he pins s σ H _ I h) fun v s1 ⟨x, H1, I1, r1, y, hx, hz, q⟩ => ?_)
  subst hx
  obtain ⟨t', rfl⟩ := r1
  exact ⟨hz, hr pins s1 σ H1 _ Q I1 q⟩
def tJ (t : TJ) : TE := fun σ H Q => t σ H Str.empty Q
theorem pe_js {e1 e2 : Expr} {es : List Expr} {pos : Pos} {t : TJ} (h : PJ X (e1 :: e2 :: es) t) : PE X (.JoinedStr (e1 :: e2 :: es) pos) (tJ t) := by
  intro pins s σ H Q I hq
  exact JoinedStr_many (h pins s σ H _ Q I hq)
theorem w_tJ {t : TJ} {σ : St} {H : Hp} {Q : VK} (q : t σ H Str.empty Q) : tJ t σ H Q := q
theorem w_jc {te : TE} {t : TJ} {σ : St} {H : Hp} {out : Str} {Q : VK} (q : te σ H fun x H1 => ∃ y : Str, x = .str y ∧ (out ++ y).length ≤ sizeLine ∧ t σ H1 (out ++ y) Q) : jCons te t σ H out Q := q
theorem w_fS {te : TE} {σ : St} {H : Hp} {Q : VK} (q : te σ H fun x H1 => ∃ y : Str, x = .str y ∧ y.length ≤ sizeLine ∧ Q (.str y) H1) : tFmtS te σ H Q := q
theorem w_fI {te : TE} {σ : St} {H : Hp} {Q : VK} (q : te σ H fun x H1 => ∃ i : Int, x = .int i ∧ i.natAbs.log2 < 1920 ∧ Q (.str (toString i)) H1) : tFmtI te σ H Q := q
/-! ### str(int) -/
theorem call_strI : CallR X (.type "str") (fun xs H Q => ∃ i : Int, xs = [.int i] ∧ i.natAbs.log2 < 1920 ∧ Q (.str (toString i)) H) := by
  intro pins s σ H xs us Q I r h
  obtain ⟨i, rfl, hi, q⟩ := h
  obtain ⟨u, rfl, t, rfl⟩ := vals1 r
  exact P.str_of_int hi ⟨.str (toString i), H, I.tok _, ⟨_, rfl⟩, q⟩
/-! ### a tuple of two texts and a list, against another of the same items -/
theorem op_neK3 (K : PySem.W.Frag) (hu : X.A.units + 1 < cLine) (hK : X.K = K := by rfl) : OpR X (compareOp .NotEq) (fun x y H Q => ∃ (a b l m : Addr) (t e : Str) (ts : List Addr), x = .ref a ∧ y = .ref b ∧ SqT K H a [.str t, .str e, .ref l] ∧ SqT K H b [.str t, .str e, .ref m] ∧ SqL K H l (ts.map V.ref) ∧ SqL K H m (ts.map V.ref) ∧ Q (.bl false) H) := by
  subst hK
  intro pins s σ H x y v u Q I rx ry h
  obtain ⟨a, b, l, m, t, e, ts, rfl, rfl, ha, hb, h1, h2, q⟩ := h
  cases rx
  cases ry
  obtain ⟨us, r1, p1, _⟩ := I.tuple ha
  obtain ⟨vs, r2, p2, _⟩ := I.tuple hb
  obtain ⟨ls, r3, p3, _⟩ := I.list h1
  obtain ⟨ms, r4, p4, _⟩ := I.list h2
  obtain rfl := vals_refs r3
  obtain rfl := vals_refs r4
  cases r1 with
  | cons x1 r1 => cases r1 with
    | cons x2 r1 => cases r1 with
      | cons x3 r1 =>
        cases r1
        cases r2 with
        | cons y1 r2 => cases r2 with
          | cons y2 r2 => cases r2 with
            | cons y3 r2 =>
              cases r2
              obtain ⟨t1, rfl⟩ := x1
              obtain ⟨t2, rfl⟩ := x2
              obtain rfl : _ = Value.ref l := x3
              obtain ⟨u1, rfl⟩ := y1
              obtain ⟨u2, rfl⟩ := y2
              obtain rfl : _ = Value.ref m := y3
              refine SeqAt.RcNeAt.tuples (e := fun _ => true) (show s.heap.IsTuple a _ from p1) (show s.heap.IsTuple b _ from p2) (Nat.lt_of_succ_lt hu) (fun j k1 k2 => ?_) _ _ _ _ (fin_bl I q ?_)
              · match j, k1 with
                | 0, _ => exact (beq_self_eq_true t) ▸ SeqAt.EqAt.str_str t t1 t u1
                | 1, _ => exact (beq_self_eq_true e) ▸ SeqAt.EqAt.str_str e t2 e u2
                | 2, _ => 
                  show SeqAt.EqAt _ s (.ref l) (.ref m) true
                  by_cases z : l = m
                  · subst z; exact SeqAt.EqAt.same _
                  · refine SeqAt.EqAt.of_refs z ?_
                    have := SeqAt.RcAt.lists (A := X.A.in1) (e := fun _ => true) p3.isList p4.isList rfl (show X.A.units + 1 < cLine from hu) (fun j _ _ => SeqAt.EqAt.same _)
                    rwa [show ((List.range (ts.map Value.ref).toArray.size).all fun _ => true) = true from List.all_eq_true.mpr fun _ _ => rfl] at this
              · simp
end
end L2
local macro_rules | `(tactic| array_get_dec) => `(tactic| with_reducible refine L2.w_tJ ?_)
namespace L2
open PySem PySem.Spec PyProof.Rows
end L2
local macro_rules | `(tactic| array_get_dec) => `(tactic| with_reducible refine L2.w_jc ?_)
namespace L2
open PySem PySem.Spec PyProof.Rows
end L2
local macro_rules | `(tactic| array_get_dec) => `(tactic| with_reducible refine L2.w_fS ?_)
namespace L2
open PySem PySem.Spec PyProof.Rows
end L2
local macro_rules | `(tactic| array_get_dec) => `(tactic| with_reducible refine L2.w_fI ?_)
namespace L2
open PySem PySem.Spec PyProof.Rows
end L2

namespace K32
open PySem PySem.Spec PyProof.Rows L2
def top (i : Nat) : Stmt := PySem.Challenge.pw_numbersay_k32_tongues_written.main.body.getD i (.Pass ⟨0, 0, 0, 0⟩)
/-! ### what the walk asks of the module -/
structure Ad where
  Rule : Addr
  Tongue : Addr
  Kind : Addr
  SayError : Addr
  BadRule : Addr
  BadBound : Addr
  BadMelt : Addr
  Twice : Addr
  BadKind : Addr
  SIGNS : Addr
  TIMES_SIGNS : Addr
  REST_SIGNS : Addr
  tSL : Addr
  tCP : Addr
  tTF : Addr
  tHA : Addr
  tTI : Addr
  tWP : Addr
def sV (l : List Str) : List V := l.map V.str
structure Txt (K : PySem.W.Frag) (mg : Str → Option Value) (a : Ad) : Prop where
  b_len : mg "len" = none
  b_isinstance : mg "isinstance" = none
  b_str : mg "str" = none
  b_int : mg "int" = none
  b_bool : mg "bool" = none
  b_list : mg "list" = none
  b_tuple : mg "tuple" = none
  b_all : mg "all" = none
  b_any : mg "any" = none
  b_range : mg "range" = none
  b_zip : mg "zip" = none
  b_max : mg "max" = none
  b_min : mg "min" = none
  b_set : mg "set" = none
  c_TIE' : ∃ t, mg "TIE" = some (.str "+" t)
  c_MOST' : ∃ t, mg "MOST_PIECES" = some (.int 8 t)
  c_SIGNS : mg "SIGNS" = some (.ref a.SIGNS)
  c_TIMES_SIGNS : mg "TIMES_SIGNS" = some (.ref a.TIMES_SIGNS)
  c_REST_SIGNS : mg "REST_SIGNS" = some (.ref a.REST_SIGNS)
  s_SIGNS : ∀ H, SqT K H a.SIGNS (sV ["Q", "N", "W", "U", "R", "K"])
  s_TIMES : ∀ H, SqT K H a.TIMES_SIGNS (sV ["Q", "N", "W", "U"])
  s_REST : ∀ H, SqT K H a.REST_SIGNS (sV ["R", "K"])
  c_Rule : mg "Rule" = some (.ref a.Rule)
  c_Tongue : mg "Tongue" = some (.ref a.Tongue)
  c_Kind : mg "Kind" = some (.ref a.Kind)
  c_SayError : mg "SayError" = some (.ref a.SayError)
  c_BadRule : mg "BadRule" = some (.ref a.BadRule)
  c_BadBound : mg "BadBound" = some (.ref a.BadBound)
  c_BadMelt : mg "BadMelt" = some (.ref a.BadMelt)
  c_Twice : mg "Twice" = some (.ref a.Twice)
  c_BadKind : mg "BadKind" = some (.ref a.BadKind)
  x_BadRule : ExcC K a.BadRule
  x_BadKind : ExcC K a.BadKind
  k_rule : PySem.W.kitOne K (.ref a.Rule) (.ref a.Rule) = some true
  k_kind : PySem.W.kitOne K (.ref a.Kind) (.ref a.Kind) = some true
  k_tong : PySem.W.kitOne K (.ref a.Tongue) (.ref a.Tongue) = some true
  k_list : PySem.W.kitOne K (.type "list") (.type "list") = some true
  k_tup : PySem.W.kitOne K (.type "tuple") (.type "tuple") = some true
  k_str : PySem.W.kitOne K (.type "str") (.type "str") = some true
  k_ii : PySem.W.kitOne K (.type "int") (.type "int") = some true
  k_ib : PySem.W.kitOne K (.type "int") (.type "bool") = some false
  clR : Cls K a.Rule
  clRc : PySem.W.findIn K (.ref a.Rule) "__class__" = some (some (.builtin "object.__class__"))
  clRm : PySem.W.mroIn K a.Rule (.type "object") = some true
  cl : Cls K a.Tongue
  clc : PySem.W.findIn K (.ref a.Tongue) "__class__" = some (some (.builtin "object.__class__"))
  clm : PySem.W.mroIn K a.Tongue (.type "object") = some true
  clK : Cls K a.Kind
  clKc : PySem.W.findIn K (.ref a.Kind) "__class__" = some (some (.builtin "object.__class__"))
  clKm : PySem.W.mroIn K a.Kind (.type "object") = some true
  n_low : NoAttr K a.Rule "low"
  n_high : NoAttr K a.Rule "high"
  n_base : NoAttr K a.Rule "base"
  n_first : NoAttr K a.Rule "first"
  n_last : NoAttr K a.Rule "last"
  n_pieces : NoAttr K a.Rule "pieces"
  n_bound : NoAttr K a.Tongue "bound"
  n_rules : NoAttr K a.Tongue "rules"
  n_melts : NoAttr K a.Tongue "melts"
  n_kinds : NoAttr K a.Tongue "kinds"
  n_title : NoAttr K a.Kind "title"
  n_ending : NoAttr K a.Kind "ending"
  n_turns : NoAttr K a.Kind "turns"
/-! ### words and rules as the document has them -/
def lowC (c : Nat) : Bool := decide (97 ≤ c) && decide (c ≤ 122)
def lowS (x : Str) : Bool := x.cps.toList.all lowC
def wordS (x : Str) : Bool := decide (2 ≤ x.length) && decide (x.length ≤ 10) && lowS x
/-- behind a def that changes nothing that was there -/
def Pure (v : V) (H : Hp) (Q : VK) : Prop := ∀ H', Same H H' → Q v H'
section
variable {P : Program} {w : World} {K : PySem.W.Frag} {mg : Str → Option Value} {base : Heap} {a : Ad}
abbrev DSmall (K : PySem.W.Frag) (mg : Str → Option Value) := Df K mg "small_letters" "small_letters" (top 13) ["text", "least", "most"]
/-! ### small_letters -/
def spSmall (T : Addr) : Sp := fun vs H Q _ => ∃ (x : Str) (i j : Int), vs = [.str x, .int i, .int j] ∧ x.length ≤ sizeLine ∧ H T = some (Tb T) ∧ Q (.bl (decide (i ≤ x.length) && decide ((x.length : Int) ≤ j) && lowS x)) H
theorem scSmall : FnScope ["text", "least", "most"] ["text", "least", "most"] (defScope (top 13)) := ⟨rfl, rfl, rfl, by decide +kernel, rfl, by decide +kernel, by decide +kernel⟩
theorem le1 (c d : Nat) : (!decide ([c] < [d])) = decide (d ≤ c) := by
  rw [← decide_not]
  exact decide_eq_decide.mpr (by rw [List.cons_lt_cons_iff]; simp)
theorem ok_small (D : DSmall K mg) {t : Addr} (cP : CodeK K D.cdv t) (hB : BltK base) (T : Txt K mg a) : FnOk P w K mg base CX0 2 D.f D.fd ["text", "least", "most"] (spSmall t) := by
  refine Df.ok (k := 1) D.ex scSmall (fun vs H Q E h => ?_) (fun A outer s H vs Q E hr h => ?_)
  · obtain ⟨x, i, j, rfl, _⟩ := h; rfl
  · obtain ⟨x, i, j, rfl, hx, ht, k⟩ := h
    refine ⟨_, (pss_cons (ps_if (pw_or (pt_not (pt_val (pe_callB call_isi (by rfl) T.b_isinstance boot_isinstance (pa_c (pv 0) (pa_c (pe_bltn (v := .ty "str") (by rfl) T.b_str (by rfl) rfl) pa_nil))))) (pw_or1 (pt_not (pt_chain op_le op_le (pv 1) (pe_callB call_len_str (by rfl) T.b_len boot_len (pa_c (pv 0) pa_nil)) (pv 2))))).pt
 (pss_one (ps_ret pe_bl))
 pss_nil)
 (pss_one (ps_ret (pe_allG (N := ["letter"]) (fs := []) (⟨rfl, rfl, rfl, by rfl, by rfl, trivial⟩) hB cP (hr.mono (by decide) : Room (0 + 1) _) (by rfl) T.b_all (pi_str (pv 0)) (fun _ _ _ _ _ _ _ => (pg_name (i := 0) (show List.Nodup (["letter"] : List Str) from by decide +kernel) rfl (Or.inl rfl))) (fun _ _ _ _ _ _ _ hr => (pe_chain op_le_str op_le_str pe_str (pv 0) pe_str)))))), ?_⟩
    (repeat array_get_dec)
    refine ⟨_, _, _, _, _, rfl, .v (.str x), rfl, T.k_str, ?_⟩
    (repeat array_get_dec)
    refine ⟨_, rfl, hx, ?_⟩
    (repeat array_get_dec)
    refine w_ite (fun e1 => ?_) (fun e1 => ?_)
    · (repeat array_get_dec)
      rw [e1] at k
      refine w_ite (fun e2 => ?_) (fun e2 => ?_)
      · rw [Bool.not_eq_true'] at e2
        rw [e2] at k
        (repeat array_get_dec)
        exact k
      · have e2 : decide ((x.length : Int) ≤ j) = true := by simpa using e2
        rw [e2] at k
        (repeat array_get_dec)
        refine ⟨x, rfl, all_s lowC ht rfl (fun c hc => ?_) k⟩
        (repeat array_get_dec)
        refine ⟨_, _, rfl, rfl, ?_⟩
        (repeat array_get_dec)
        show if (!decide ([c] < [97])) = true then _ else _
        rw [le1]
        refine w_ite (fun e3 => ?_) (fun e3 => ?_)
        · (repeat array_get_dec)
          refine ⟨_, _, rfl, rfl, rfl, ?_⟩
          show V.bl (!decide ([122] < [c])) = .bl (decide (97 ≤ c) && decide (c ≤ 122))
          rw [le1, e3]; rfl
        · refine ⟨rfl, ?_⟩
          show V.bl false = .bl (decide (97 ≤ c) && decide (c ≤ 122))
          rw [e3]; rfl
    · (repeat array_get_dec)
      rw [e1] at k
      exact k
/-! ### is_word, is_piece -/
abbrev DWord (K : PySem.W.Frag) (mg : Str → Option Value) := Df K mg "is_word" "is_word" (top 14) ["text"]
abbrev DPiece (K : PySem.W.Frag) (mg : Str → Option Value) := Df K mg "is_piece" "is_piece" (top 18) ["text"]
def spWord (t : Addr) : Sp := fun vs H Q _ => ∃ (x : Str), vs = [.str x] ∧ x.length ≤ sizeLine ∧ H t = some (Tb t) ∧ Q (.bl (wordS x)) H
theorem scWord : FnScope ["text"] ["text"] (defScope (top 14)) := ⟨rfl, rfl, rfl, by decide +kernel, rfl, by decide +kernel, by decide +kernel⟩
theorem ok_word (D : DWord K mg) (D_small_letters : DSmall K mg) {t : Addr} (G_small_letters : FnOk P w K mg base CX0 2 D_small_letters.f D_small_letters.fd ["text", "least", "most"] (spSmall t)) : FnOk P w K mg base CX0 3 D.f D.fd ["text"] (spWord t) := by
  refine Df.ok (k := 2) D.ex scWord (fun vs H Q E h => ?_) (fun A outer s H vs Q E hr h => ?_)
  · obtain ⟨x, rfl, _⟩ := h; rfl
  · obtain ⟨x, rfl, hx, ht, k⟩ := h
    refine ⟨_, (pss_one (ps_ret (pe_call G_small_letters (hr.mono (by decide)) (by rfl) D_small_letters.mg D_small_letters.kp D_small_letters.bd .nil pass0 (pa_c (pv 0) (pa_c pe_int (pa_c pe_int pa_nil)))))), ?_⟩
    (repeat array_get_dec)
    refine ⟨x, 2, 10, rfl, hx, ht, ?_⟩
    have e : (decide ((2 : Int) ≤ x.length) && decide ((x.length : Int) ≤ 10) && lowS x) = wordS x := by
      unfold wordS
      congr 1; congr 1
      · exact decide_eq_decide.mpr (by omega)
      · exact decide_eq_decide.mpr (by omega)
    rw [e]
    exact k
def sig : List Str := ["Q", "N", "W", "U", "R", "K"]
def pieceS (x : Str) : Bool := decide (x = "+") || inV (.str x) (sV sig) || wordS x
def spPiece (t : Addr) : Sp := fun vs H Q _ => ∃ (x : Str), vs = [.str x] ∧ x.length ≤ sizeLine ∧ H t = some (Tb t) ∧ Q (.bl (pieceS x)) H
theorem scPiece : FnScope ["text"] ["text"] (defScope (top 18)) := ⟨rfl, rfl, rfl, by decide +kernel, rfl, by decide +kernel, by decide +kernel⟩
theorem ok_piece (D : DPiece K mg) (D_is_word : DWord K mg) {t : Addr} (G_is_word : FnOk P w K mg base CX0 3 D_is_word.f D_is_word.fd ["text"] (spWord t)) (T : Txt K mg a) : FnOk P w K mg base CX0 4 D.f D.fd ["text"] (spPiece t) := by
  refine Df.ok (k := 3) D.ex scPiece (fun vs H Q E h => ?_) (fun A outer s H vs Q E hr h => ?_)
  · obtain ⟨x, rfl, _⟩ := h; rfl
  · obtain ⟨x, rfl, hx, ht, k⟩ := h
    obtain ⟨tt, hT⟩ := T.c_TIE'
    refine ⟨_, (pss_one (ps_ret (pe_or (pe_cmpR op_eq (pv 0) (pe_glob (v := .str "+") (by rfl) hT ⟨_, rfl⟩) (nomark _)) (pe_or (pe_cmpR op_in_seq (pv 0) (pe_glob (v := .ref a.SIGNS) (by rfl) T.c_SIGNS rfl) (by with_unfolding_all rfl)) (pe_one (pe_call G_is_word (hr.mono (by decide)) (by rfl) D_is_word.mg D_is_word.kp D_is_word.bd .nil pass0 (pa_c (pv 0) pa_nil))))))), ?_⟩
    (repeat array_get_dec)
    unfold pieceS at k
    refine w_ite (fun e1 => ?_) (fun e1 => ?_)
    · rw [e1] at k; exact k
    · rw [e1, Bool.false_or] at k
      (repeat array_get_dec)
      refine ⟨_, _, rfl, .inr (T.s_SIGNS _), rfl, rfl, ?_⟩
      (repeat array_get_dec)
      refine w_ite (fun e2 => ?_) (fun e2 => ?_)
      · have e2 : inV (.str x) (sV sig) = true := e2
        rw [e2] at k; exact k
      · have e2 : inV (.str x) (sV sig) = false := e2
        rw [e2] at k
        (repeat array_get_dec)
        exact ⟨x, rfl, hx, ht, k⟩
end
end K32

namespace K32
open PySem PySem.Spec PyProof.Rows L2
section
variable {P : Program} {w : World} {K : PySem.W.Frag} {mg : Str → Option Value} {base : Heap} {a : Ad}
/-! ### a rule in the heap -/
structure FldN (fs : List (Str × V)) (l h b f e : Int) : Prop where
  low : fs.lookup ("low" : Str) = some (.int l)
  high : fs.lookup ("high" : Str) = some (.int h)
  base : fs.lookup ("base" : Str) = some (.int b)
  first : fs.lookup ("first" : Str) = some (.int f)
  last : fs.lookup ("last" : Str) = some (.int e)
structure RuleAt (a : Ad) (H : Hp) (p : Addr) (l h b f e : Int) (ps : Addr) : Prop where
  ob : ∃ dx fs, H p = some (.ins a.Rule dx fs) ∧ FldN fs l h b f e ∧ fs.lookup ("pieces" : Str) = some (.ref ps)
theorem RuleAt.same {H H' : Hp} {p ps : Addr} {l h b f e : Int} (R : RuleAt a H p l h b f e ps) (s : Same H H') : RuleAt a H' p l h b f e ps := by
  obtain ⟨dx, fs, h1, h2⟩ := R.ob
  exact ⟨dx, fs, s _ _ h1, h2⟩
def Tabs (a : Ad) (H : Hp) : Prop := H a.tSL = some (Tb a.tSL) ∧ H a.tCP = some (Tb a.tCP) ∧ H a.tTF = some (Tb a.tTF) ∧ H a.tHA = some (Tb a.tHA)
theorem Tabs.same {H H' : Hp} (t : Tabs a H) (s : Same H H') : Tabs a H' := ⟨s _ _ t.1, s _ _ t.2.1, s _ _ t.2.2.1, s _ _ t.2.2.2⟩
/-! ### check_numbers -/
def numsOk (l h b f e : Int) : Bool := !decide (l < 0) && !decide (h < l) && !decide (b < 2) && !decide (f < 0) && !decide (e < f) && !decide (b ≤ e)
abbrev DNums (K : PySem.W.Frag) (mg : Str → Option Value) := Df K mg "check_numbers" "check_numbers" (top 16) ["rule"]
def spNums (a : Ad) : Sp := fun vs H Q E => ∃ (p : Addr) (l h b f e : Int) (ps : Addr), vs = [.ref p] ∧ RuleAt a H p l h b f e ps ∧ if numsOk l h b f e = true then Q .non H else E (.ref a.BadRule) none H
theorem scNums : FnScope ["rule"] ["rule"] (defScope (top 16)) := ⟨rfl, rfl, rfl, by decide +kernel, rfl, by decide +kernel, by decide +kernel⟩
theorem ok_nums (D : DNums K mg) (T : Txt K mg a) : FnOk P w K mg base (CXE P w) 1 D.f D.fd ["rule"] (spNums a) := by
  refine Df.okE (k := 0) D.ex scNums (fun vs H Q E h => ?_) (fun A outer s H vs Q E hr h => ?_)
  · obtain ⟨p, l, h, b, f, e, ps, rfl, _⟩ := h; rfl
  · obtain ⟨p, l, h, b, f, e, ps, rfl, R, k⟩ := h
    obtain ⟨dx, fs, hp, N, _⟩ := R.ob
    have hh : A.handled = none := hr.hd
    unfold numsOk at k
    refine ⟨_, (pss_cons (ps_if (pt_cmpR op_lt (pe_fld (pv 0) (by rfl)) pe_int (nomark _))
 (pss_one (ps_raise PySem.F.excBase_ValueError T.x_BadRule.ex T.c_BadRule hh (by rfl) (pa_c pe_str pa_nil) (hl := fun _ _ _ z => ⟨by decide, z⟩)))
 pss_nil)
 (pss_cons (ps_if (pt_cmpR op_lt (pe_fld (pv 0) (by rfl)) (pe_fld (pv 0) (by rfl)) (nomark _))
 (pss_one (ps_raise PySem.F.excBase_ValueError T.x_BadRule.ex T.c_BadRule hh (by rfl) (pa_c pe_str pa_nil) (hl := fun _ _ _ z => ⟨by decide, z⟩)))
 pss_nil)
 (pss_cons (ps_if (pt_cmpR op_lt (pe_fld (pv 0) (by rfl)) pe_int (nomark _))
 (pss_one (ps_raise PySem.F.excBase_ValueError T.x_BadRule.ex T.c_BadRule hh (by rfl) (pa_c pe_str pa_nil) (hl := fun _ _ _ z => ⟨by decide, z⟩)))
 pss_nil)
 (pss_cons (ps_if (pt_cmpR op_lt (pe_fld (pv 0) (by rfl)) pe_int (nomark _))
 (pss_one (ps_raise PySem.F.excBase_ValueError T.x_BadRule.ex T.c_BadRule hh (by rfl) (pa_c pe_str pa_nil) (hl := fun _ _ _ z => ⟨by decide, z⟩)))
 pss_nil)
 (pss_cons (ps_if (pt_cmpR op_lt (pe_fld (pv 0) (by rfl)) (pe_fld (pv 0) (by rfl)) (nomark _))
 (pss_one (ps_raise PySem.F.excBase_ValueError T.x_BadRule.ex T.c_BadRule hh (by rfl) (pa_c pe_str pa_nil) (hl := fun _ _ _ z => ⟨by decide, z⟩)))
 pss_nil)
 (pss_one (ps_if (pt_cmpR op_ge (pe_fld (pv 0) (by rfl)) (pe_fld (pv 0) (by rfl)) (nomark _))
 (pss_one (ps_raise PySem.F.excBase_ValueError T.x_BadRule.ex T.c_BadRule hh (by rfl) (pa_c pe_str pa_nil) (hl := fun _ _ _ z => ⟨by decide, z⟩)))
 pss_nil))))))), ?_⟩
    (repeat array_get_dec)
    refine ⟨p, _, dx, fs, _, rfl, hp, T.clR, T.n_low, N.low, ?_⟩
    (repeat array_get_dec)
    refine w_ite (fun z => ?_) (fun z => ?_)
    · (repeat array_get_dec)
      simpa [z] using k
    simp only [z, Bool.not_false, Bool.true_and] at k
    (repeat array_get_dec)
    refine ⟨p, _, dx, fs, _, rfl, hp, T.clR, T.n_high, N.high, ?_⟩
    (repeat array_get_dec)
    refine ⟨p, _, dx, fs, _, rfl, hp, T.clR, T.n_low, N.low, ?_⟩
    (repeat array_get_dec)
    refine w_ite (fun z => ?_) (fun z => ?_)
    · (repeat array_get_dec)
      simpa [z] using k
    simp only [z, Bool.not_false, Bool.true_and] at k
    (repeat array_get_dec)
    refine ⟨p, _, dx, fs, _, rfl, hp, T.clR, T.n_base, N.base, ?_⟩
    (repeat array_get_dec)
    refine w_ite (fun z => ?_) (fun z => ?_)
    · (repeat array_get_dec)
      simpa [z] using k
    simp only [z, Bool.not_false, Bool.true_and] at k
    (repeat array_get_dec)
    refine ⟨p, _, dx, fs, _, rfl, hp, T.clR, T.n_first, N.first, ?_⟩
    (repeat array_get_dec)
    refine w_ite (fun z => ?_) (fun z => ?_)
    · (repeat array_get_dec)
      simpa [z] using k
    simp only [z, Bool.not_false, Bool.true_and] at k
    (repeat array_get_dec)
    refine ⟨p, _, dx, fs, _, rfl, hp, T.clR, T.n_last, N.last, ?_⟩
    (repeat array_get_dec)
    refine ⟨p, _, dx, fs, _, rfl, hp, T.clR, T.n_first, N.first, ?_⟩
    (repeat array_get_dec)
    refine w_ite (fun z => ?_) (fun z => ?_)
    · (repeat array_get_dec)
      simpa [z] using k
    simp only [z, Bool.not_false, Bool.true_and] at k
    (repeat array_get_dec)
    refine ⟨p, _, dx, fs, _, rfl, hp, T.clR, T.n_last, N.last, ?_⟩
    (repeat array_get_dec)
    refine ⟨p, _, dx, fs, _, rfl, hp, T.clR, T.n_base, N.base, ?_⟩
    (repeat array_get_dec)
    refine w_ite (fun z => ?_) (fun z => ?_)
    · (repeat array_get_dec)
      simpa [z] using k
    · (repeat array_get_dec)
      simpa [z] using k
/-! ### has_any, check_telling -/
abbrev DHas (K : PySem.W.Frag) (mg : Str → Option Value) := Df K mg "has_any" "has_any" (top 21) ["rule", "signs"]
def hasS (sg ys : List Str) : Bool := sg.any fun x => inV (.str x) (ys.map V.str)
theorem flat_strs (ys : List Str) : (ys.map V.str).all flatV = true := by
  rw [List.all_map]
  exact List.all_eq_true.mpr fun _ _ => rfl
def spHas (K : PySem.W.Frag) (a : Ad) : Sp := fun vs H Q _ => ∃ (p : Addr) (l h b f e : Int) (ps : Addr) (ys : List Str) (q : Addr) (sg : List Str), vs = [.ref p, .ref q] ∧ RuleAt a H p l h b f e ps ∧ H ps = some (.lst (ys.map .str)) ∧ (∀ H, SqT K H q (sV sg)) ∧ H a.tHA = some (Tb a.tHA) ∧ Q (.bl (hasS sg ys)) H
theorem scHas : FnScope ["rule", "signs"] ["rule", "signs"] (defScope (top 21)) := ⟨rfl, rfl, rfl, by decide +kernel, rfl, by decide +kernel, by decide +kernel⟩
theorem ok_has (D : DHas K mg) (cP : CodeK K D.cdv a.tHA) (hB : BltK base) (T : Txt K mg a) : FnOk P w K mg base CX0 2 D.f D.fd ["rule", "signs"] (spHas K a) := by
  refine Df.ok (k := 1) D.ex scHas (fun vs H Q E h => ?_) (fun A outer s H vs Q E hr h => ?_)
  · obtain ⟨p, l, h, b, f, e, ps, ys, q, sg, rfl, _⟩ := h; rfl
  · obtain ⟨p, l, h, b, f, e, ps, ys, q, sg, rfl, R, hys, hq, ht, k⟩ := h
    obtain ⟨dx, fs, hp, N, hps⟩ := R.ob
    refine ⟨_, (pss_one (ps_ret (pe_anyG (N := ["sign", "rule"]) (fs := [(1, 0)]) (⟨rfl, rfl, rfl, by rfl, by rfl, ⟨⟨_, rfl, rfl, rfl, Or.inl rfl⟩, trivial⟩⟩) hB cP (hr.mono (by decide) : Room (0 + 1) _) (by rfl) T.b_any (pi_tup (pv 1)) (fun _ _ _ _ _ _ _ => (pg_name (i := 0) (show List.Nodup (["sign", "rule"] : List Str) from by decide +kernel) rfl (Or.inl rfl))) (fun _ _ _ _ _ _ _ hr => (pe_cmpR (op_in_seqK K) (pv 0) (pe_fldK K (pv 1)) (by with_unfolding_all rfl)))))), ?_⟩
    (repeat array_get_dec)
    refine ⟨q, rfl, ⟨_, hq _⟩, any_t (fun v => inV v (ys.map V.str)) (hq _) ht rfl (fun v hv => ?_) ?_⟩
    · obtain ⟨x, _, rfl⟩ := List.mem_map.mp hv
      (repeat array_get_dec)
      refine ⟨p, _, dx, fs, _, rfl, hp, T.clR, T.n_pieces, hps, ?_⟩
      (repeat array_get_dec)
      exact ⟨_, _, rfl, .inl (SqL.of hys), rfl, flat_strs _, rfl, rfl⟩
    · have z : (sV sg).any (fun v => inV v (ys.map V.str)) = hasS sg ys := by
        unfold sV hasS
        rw [List.any_map]
        rfl
      rw [z]
      exact k
def tellOk (l h b f e : Int) (ys : List Str) : Bool := !(!decide (f = e) && !hasS ["R", "K"] ys) && !(!decide (l / b = h / b) && !hasS ["Q", "N", "W", "U"] ys)
abbrev DTell (K : PySem.W.Frag) (mg : Str → Option Value) := Df K mg "check_telling" "check_telling" (top 20) ["rule"]
def spTell (a : Ad) : Sp := fun vs H Q E => ∃ (p : Addr) (l h b f e : Int) (ps : Addr) (ys : List Str), vs = [.ref p] ∧ RuleAt a H p l h b f e ps ∧ H ps = some (.lst (ys.map .str)) ∧ H a.tHA = some (Tb a.tHA) ∧ 0 < b ∧ b.natAbs.log2 < 9000 ∧
  if tellOk l h b f e ys = true then Q .non H else E (.ref a.BadRule) none H
theorem scTell : FnScope ["rule"] ["rule"] (defScope (top 20)) := ⟨rfl, rfl, rfl, by decide +kernel, rfl, by decide +kernel, by decide +kernel⟩
theorem ok_tell (D : DTell K mg) (D_has_any : DHas K mg) (G_has_any : FnOk P w K mg base CX0 2 D_has_any.f D_has_any.fd ["rule", "signs"] (spHas K a)) (T : Txt K mg a) : FnOk P w K mg base (CXE P w) 3 D.f D.fd ["rule"] (spTell a) := by
  refine Df.okE (k := 2) D.ex scTell (fun vs H Q E h => ?_) (fun A outer s H vs Q E hr h => ?_)
  · obtain ⟨p, l, h, b, f, e, ps, ys, rfl, _⟩ := h; rfl
  · obtain ⟨p, l, h, b, f, e, ps, ys, rfl, R, hys, ht, hb, hl, k⟩ := h
    obtain ⟨dx, fs, hp, N, hps⟩ := id R.ob
    have hh : A.handled = none := hr.hd
    unfold tellOk at k
    refine ⟨_, (pss_cons (ps_if (pw_and (pt_cmpR op_ne (pe_fld (pv 0) (by rfl)) (pe_fld (pv 0) (by rfl)) (nomark _)) (pw_and1 (pt_not (pt_val (pe_call G_has_any (hr.mono (by decide)) (by rfl) D_has_any.mg D_has_any.kp D_has_any.bd .nil pass0 (pa_c (pv 0) (pa_c (pe_glob (v := .ref a.REST_SIGNS) (by rfl) T.c_REST_SIGNS rfl) pa_nil))))))).pt
 (pss_one (ps_raise PySem.F.excBase_ValueError T.x_BadRule.ex T.c_BadRule hh (by rfl) (pa_c pe_str pa_nil) (hl := fun _ _ _ z => ⟨by decide, z⟩)))
 pss_nil)
 (pss_one (ps_if (pw_and (pt_cmpR op_ne (pe_op op_fdivB (pe_fld (pv 0) (by rfl)) (pe_fld (pv 0) (by rfl))) (pe_op op_fdivB (pe_fld (pv 0) (by rfl)) (pe_fld (pv 0) (by rfl))) (nomark _)) (pw_and1 (pt_not (pt_val (pe_call G_has_any (hr.mono (by decide)) (by rfl) D_has_any.mg D_has_any.kp D_has_any.bd .nil pass0 (pa_c (pv 0) (pa_c (pe_glob (v := .ref a.TIMES_SIGNS) (by rfl) T.c_TIMES_SIGNS rfl) pa_nil))))))).pt
 (pss_one (ps_raise PySem.F.excBase_ValueError T.x_BadRule.ex T.c_BadRule hh (by rfl) (pa_c pe_str pa_nil) (hl := fun _ _ _ z => ⟨by decide, z⟩)))
 pss_nil))), ?_⟩
    (repeat array_get_dec)
    refine ⟨p, _, dx, fs, _, rfl, hp, T.clR, T.n_first, N.first, ?_⟩
    (repeat array_get_dec)
    refine ⟨p, _, dx, fs, _, rfl, hp, T.clR, T.n_last, N.last, ?_⟩
    (repeat array_get_dec)
    refine w_ite (fun z1 => ?_) (fun z1 => ?_)
    · (repeat array_get_dec)
      refine ⟨p, l, h, b, f, e, ps, ys, _, _, rfl, R, hys, T.s_REST, ht, ?_⟩
      (repeat array_get_dec)
      refine w_ite (fun z2 => ?_) (fun z2 => ?_)
      · (repeat array_get_dec)
        simpa [z1, z2] using k
      · simp only [z1, z2, Bool.and_false, Bool.not_false, Bool.true_and] at k
        ((repeat array_get_dec)
         refine ⟨p, _, dx, fs, _, rfl, hp, T.clR, T.n_low, N.low, ?_⟩
         (repeat array_get_dec)
         refine ⟨p, _, dx, fs, _, rfl, hp, T.clR, T.n_base, N.base, ?_⟩
         refine w_I ⟨hb, hl⟩ ?_
         (repeat array_get_dec)
         refine ⟨p, _, dx, fs, _, rfl, hp, T.clR, T.n_high, N.high, ?_⟩
         (repeat array_get_dec)
         refine ⟨p, _, dx, fs, _, rfl, hp, T.clR, T.n_base, N.base, ?_⟩
         refine w_I ⟨hb, hl⟩ ?_
         (repeat array_get_dec)
         refine w_ite (fun y1 => ?_) (fun y1 => ?_)
         · (repeat array_get_dec)
           refine ⟨p, l, h, b, f, e, ps, ys, _, _, rfl, R, hys, T.s_TIMES, ht, ?_⟩
           (repeat array_get_dec)
           refine w_ite (fun y2 => ?_) (fun y2 => ?_)
           · (repeat array_get_dec)
             simpa [y1, y2] using k
           · (repeat array_get_dec)
             simpa [y1, y2] using k
         · (repeat array_get_dec)
           simpa [y1] using k)
    · simp only [z1, Bool.false_and, Bool.not_false, Bool.true_and] at k
      ((repeat array_get_dec)
       refine ⟨p, _, dx, fs, _, rfl, hp, T.clR, T.n_low, N.low, ?_⟩
       (repeat array_get_dec)
       refine ⟨p, _, dx, fs, _, rfl, hp, T.clR, T.n_base, N.base, ?_⟩
       refine w_I ⟨hb, hl⟩ ?_
       (repeat array_get_dec)
       refine ⟨p, _, dx, fs, _, rfl, hp, T.clR, T.n_high, N.high, ?_⟩
       (repeat array_get_dec)
       refine ⟨p, _, dx, fs, _, rfl, hp, T.clR, T.n_base, N.base, ?_⟩
       refine w_I ⟨hb, hl⟩ ?_
       (repeat array_get_dec)
       refine w_ite (fun y1 => ?_) (fun y1 => ?_)
       · (repeat array_get_dec)
         refine ⟨p, l, h, b, f, e, ps, ys, _, _, rfl, R, hys, T.s_TIMES, ht, ?_⟩
         (repeat array_get_dec)
         refine w_ite (fun y2 => ?_) (fun y2 => ?_)
         · (repeat array_get_dec)
           simpa [y1, y2] using k
         · (repeat array_get_dec)
           simpa [y1, y2] using k
       · (repeat array_get_dec)
         simpa [y1] using k)
end
end K32

namespace K32
open PySem PySem.Spec PyProof.Rows L2
section
variable {P : Program} {w : World} {K : PySem.W.Frag} {mg : Str → Option Value} {base : Heap} {a : Ad}
/-! ### ties_fit -/
def isTie (o : Option Str) : Bool := match o with | some x => decide (x = "+") | none => false
def adjS (ys : List Str) : Bool := (List.range (ys.length - 1)).any fun i => isTie ys[i]? && isTie ys[i + 1]?
def tiesOk (ys : List Str) : Bool := !(isTie ys.head? || isTie ys.getLast?) && !adjS ys
theorem cut1 (xs : List V) : cutV xs (some 1) none = xs.drop 1 := by
  unfold cutV
  rw [HT.sIx_none, show HT.sIx xs.length 0 (some 1) = min 1 xs.length from HT.sIx_nat _ _ 1]
  cases xs with
  | nil => rfl
  | cons x r => simp
abbrev DTies (K : PySem.W.Frag) (mg : Str → Option Value) := Df K mg "ties_fit" "ties_fit" (top 19) ["pieces"]
def spTies (a : Ad) : Sp := fun vs H Q _ => ∃ (l : Addr) (ys : List Str), vs = [.ref l] ∧ H l = some (.lst (ys.map .str)) ∧ ys ≠ [] ∧ H a.tTF = some (Tb a.tTF) ∧ Pure (.bl (tiesOk ys)) H Q
theorem scTies : FnScope ["pieces"] ["pieces"] (defScope (top 19)) := ⟨rfl, rfl, rfl, by decide +kernel, rfl, by decide +kernel, by decide +kernel⟩
theorem atI_lastS {ys : List Str} (h : ys ≠ []) : atI (ys.map V.str) (-1) = some (.str (ys.getLast h)) := by
  have e : ys.map V.str = (ys.dropLast).map V.str ++ [.str (ys.getLast h)] := by
    conv => lhs; rw [← List.dropLast_concat_getLast h]
    rw [List.map_append]; rfl
  rw [e]
  exact atI_last _ _
theorem ok_ties (D : DTies K mg) (cP : CodeK K D.cdv a.tTF) (hB : BltK base) (T : Txt K mg a) : FnOk P w K mg base CX0 2 D.f D.fd ["pieces"] (spTies a) := by
  refine Df.ok (k := 1) D.ex scTies (fun vs H Q E h => ?_) (fun A outer s H vs Q E hr h => ?_)
  · obtain ⟨l, ys, rfl, _⟩ := h; rfl
  · obtain ⟨l, ys, rfl, hl, hne, ht, k⟩ := h
    obtain ⟨tt, hT⟩ := T.c_TIE'
    obtain ⟨y0, r, rfl⟩ : ∃ y0 r, ys = y0 :: r := by
      cases ys with
      | nil => exact absurd rfl hne
      | cons y r => exact ⟨y, r, rfl⟩
    refine ⟨_, (pss_cons (ps_if (pw_or (pt_cmpR op_eq (pe_ix ix_list (pv 0) pe_int (fun _ _ => rfl)) (pe_glob (v := .str "+") (by rfl) hT ⟨_, rfl⟩) (nomark _)) (pw_or1 (pt_cmpR op_eq (pe_ix ix_list (pv 0) (pe_un un_neg pe_int) (fun _ _ => rfl)) (pe_glob (v := .str "+") (by rfl) hT ⟨_, rfl⟩) (nomark _)))).pt
 (pss_one (ps_ret pe_bl))
 pss_nil)
 (pss_one (ps_ret (pe_not (pe_anyG (N := ["ahead", "behind"]) (fs := []) (⟨rfl, rfl, rfl, by rfl, by rfl, trivial⟩) hB cP (hr.mono (by decide) : Room (0 + 1) _) (by rfl) T.b_any (pi_zip (by rfl) T.b_zip boot_zip (pa_c (pv 0) (pa_c (pe_slice sl_list (pv 0) (po_some pe_int) po_none) pa_nil))) (fun _ _ _ _ _ _ _ => (pg_tupK K (n := 2) rfl (pgs_cons (pg_name (i := 0) (show List.Nodup (["ahead", "behind"] : List Str) from by decide +kernel) rfl (Or.inl rfl)) (pgs_cons (pg_name (i := 1) (show List.Nodup (["ahead", "behind"] : List Str) from by decide +kernel) rfl (Or.inl rfl)) pgs_nil)))) (fun _ _ _ _ _ _ _ hr => (pe_and (pe_cmpR op_eq (pv 0) (pe_glob (v := .str "+") (by rfl) hT ⟨_, rfl⟩) (nomark _)) (pe_one (pe_cmpR op_eq (pv 1) (pe_glob (v := .str "+") (by rfl) hT ⟨_, rfl⟩) (nomark _)))))))))), ?_⟩
    (repeat array_get_dec)
    refine ⟨l, _, 0, .str y0, rfl, rfl, SqL.of hl, atI_nat (j := 0) rfl, ?_⟩
    (repeat array_get_dec)
    have kF : decide (y0 = "+") = true ∨ decide ((y0 :: r).getLast hne = "+") = true → Q (.bl false) H := fun z => by
      have e : tiesOk (y0 :: r) = false := by
        unfold tiesOk
        rw [List.getLast?_eq_some_getLast hne]
        rcases z with z | z
        · simp [isTie, z, of_decide_eq_true z]
        · simp [isTie, of_decide_eq_true z]
      have := k H (Same.refl H)
      rw [e] at this
      exact this
    refine w_ite (fun z1 => ?_) (fun z1 => ?_)
    · (repeat array_get_dec)
      exact kF (.inl z1)
    (repeat array_get_dec)
    refine ⟨l, _, -1, _, rfl, rfl, SqL.of hl, atI_lastS hne, ?_⟩
    (repeat array_get_dec)
    refine w_ite (fun z2 => ?_) (fun z2 => ?_)
    · (repeat array_get_dec)
      exact kF (.inr z2)
    (repeat array_get_dec)
    refine ⟨l, _, rfl, SqL.of hl, fun p hp => ?_⟩
    (repeat array_get_dec)
    have s1 : Same H (upd H p (.lst (cutV ((y0 :: r).map V.str) (some 1) none))) := Same.upd hp
    refine ⟨l, p, rfl, ⟨_, SqL.of (s1 _ _ hl)⟩, ⟨_, SqL.of upd_same⟩, any_z (K := K) (Q := fun v H2 => ∃ c, v = .bl c ∧ Q (.bl !c) H2) (n := r.length) (fun i => isTie (y0 :: r)[i]? && isTie (y0 :: r)[i + 1]?) (SqL.of (s1 _ _ hl)) (SqL.of upd_same) (by simp) (by rw [cut1]; simp) (.inr (by rw [cut1]; simp)) (s1 _ _ ht) (fun i x y H5 hi e1 e2 s5 => ?_) (fun H2 s2 => ?_)⟩
    · rw [cut1, List.getElem?_drop, List.getElem?_map] at e2
      rw [List.getElem?_map] at e1
      obtain ⟨u, hu, rfl⟩ := Option.map_eq_some_iff.mp e1
      obtain ⟨v, hv, rfl⟩ := Option.map_eq_some_iff.mp e2
      have hv : (y0 :: r)[i + 1]? = some v := by rw [Nat.add_comm]; exact hv
      show tAndV _ _ _ _ _
      rw [hu, hv]
      (repeat array_get_dec)
      refine w_ite (fun z3 => ?_) (fun z3 => ?_)
      · (repeat array_get_dec)
        exact ⟨s5, by show V.bl _ = V.bl (decide (u = "+") && decide (v = "+")); rw [z3]; rfl⟩
      · exact ⟨s5, by show V.bl _ = V.bl (decide (u = "+") && decide (v = "+")); rw [z3]; rfl⟩
    · (repeat array_get_dec)
      have e : tiesOk (y0 :: r) = !anyN r.length (fun i => isTie (y0 :: r)[i]? && isTie (y0 :: r)[i + 1]?) := by
        have y1 : isTie (y0 :: r).head? = false := z1
        have y2 : isTie (y0 :: r).getLast? = false := by rw [List.getLast?_eq_some_getLast hne]; exact z2
        unfold tiesOk
        rw [y1, y2]
        rfl
      rw [← e]
      exact k H2 (s1.trans s2)
/-! ### check_pieces -/
def qP (v : V) : Bool := match v with | .str x => pieceS x | _ => false
def qW (v : V) : Bool := match v with | .str x => wordS x | _ => false
def qT (ys : List Str) (v : V) : Bool := decide ((1 : Int) < ((ys.map V.str).countP fun z => eqV z v : Nat))
def piecesOk (ys : List Str) : Bool := decide (1 ≤ ys.length) && decide (ys.length ≤ 8) && ys.all pieceS && ys.any wordS && !((sV sig).any (qT ys)) && tiesOk ys
abbrev DPieces (K : PySem.W.Frag) (mg : Str → Option Value) := Df K mg "check_pieces" "check_pieces" (top 17) ["pieces"]
def spPieces (a : Ad) : Sp := fun vs H Q E => ∃ (l : Addr) (ys : List Str), vs = [.ref l] ∧ H l = some (.lst (ys.map .str)) ∧ (∀ y ∈ ys, y.length ≤ sizeLine) ∧ Tabs a H ∧
  ∀ H', Same H H' → if piecesOk ys = true then Q .non H' else E (.ref a.BadRule) none H'
theorem scPieces : FnScope ["pieces"] ["pieces"] (defScope (top 17)) := ⟨rfl, rfl, rfl, by decide +kernel, rfl, by decide +kernel, by decide +kernel⟩
theorem ok_pieces (D : DPieces K mg) (cP : CodeK K D.cdv a.tCP) (hB : BltK base) (D_is_piece : DPiece K mg) (G_is_piece : FnOk P w K mg base CX0 4 D_is_piece.f D_is_piece.fd ["text"] (spPiece a.tSL)) (D_is_word : DWord K mg) (G_is_word : FnOk P w K mg base CX0 3 D_is_word.f D_is_word.fd ["text"] (spWord a.tSL))
    (D_ties_fit : DTies K mg) (G_ties_fit : FnOk P w K mg base CX0 2 D_ties_fit.f D_ties_fit.fd ["pieces"] (spTies a)) (T : Txt K mg a) : FnOk P w K mg base (CXE P w) 7 D.f D.fd ["pieces"] (spPieces a) := by
  refine Df.okE (k := 6) D.ex scPieces (fun vs H Q E h => ?_) (fun A outer s H vs Q E hr h => ?_)
  · obtain ⟨l, ys, rfl, _⟩ := h; rfl
  · obtain ⟨l, ys, rfl, hl, hz, ht, k0⟩ := h
    obtain ⟨tt, hM⟩ := T.c_MOST'
    have hh : A.handled = none := hr.hd
    have k := k0 H (Same.refl H)
    unfold piecesOk at k k0
    refine ⟨_, (pss_cons (ps_if (pt_not (pt_chain op_le op_le pe_int (pe_callB call_len_seq (by rfl) T.b_len boot_len (pa_c (pv 0) pa_nil)) (pe_glob (v := .int 8) (by rfl) hM ⟨_, rfl⟩)))
 (pss_one (ps_raise PySem.F.excBase_ValueError T.x_BadRule.ex T.c_BadRule hh (by rfl) (pa_c pe_str pa_nil) (hl := fun _ _ _ z => ⟨by decide, z⟩)))
 pss_nil)
 (pss_cons (ps_if (pt_not (pt_val (pe_allG (N := ["piece"]) (fs := []) (⟨rfl, rfl, rfl, by rfl, by rfl, trivial⟩) hB cP (hr.mono (by decide) : Room (5 + 1) _) (by rfl) T.b_all (pi_list (pv 0)) (fun _ _ _ _ _ _ _ => (pg_name (i := 0) (show List.Nodup (["piece"] : List Str) from by decide +kernel) rfl (Or.inl rfl))) (fun _ _ _ _ _ _ _ hr => (pe_call G_is_piece (hr.mono (by decide)) (by rfl) D_is_piece.mg D_is_piece.kp D_is_piece.bd .nil pass0 (pa_c (pv 0) pa_nil))))))
 (pss_one (ps_raise PySem.F.excBase_ValueError T.x_BadRule.ex T.c_BadRule hh (by rfl) (pa_c pe_str pa_nil) (hl := fun _ _ _ z => ⟨by decide, z⟩)))
 pss_nil)
 (pss_cons (ps_if (pt_not (pt_val (pe_anyG (N := ["piece"]) (fs := []) (⟨rfl, rfl, rfl, by rfl, by rfl, trivial⟩) hB cP (hr.mono (by decide) : Room (5 + 1) _) (by rfl) T.b_any (pi_list (pv 0)) (fun _ _ _ _ _ _ _ => (pg_name (i := 0) (show List.Nodup (["piece"] : List Str) from by decide +kernel) rfl (Or.inl rfl))) (fun _ _ _ _ _ _ _ hr => (pe_call G_is_word (hr.mono (by decide)) (by rfl) D_is_word.mg D_is_word.kp D_is_word.bd .nil pass0 (pa_c (pv 0) pa_nil))))))
 (pss_one (ps_raise PySem.F.excBase_ValueError T.x_BadRule.ex T.c_BadRule hh (by rfl) (pa_c pe_str pa_nil) (hl := fun _ _ _ z => ⟨by decide, z⟩)))
 pss_nil)
 (pss_cons (ps_if (pt_val (pe_anyG (N := ["sign", "pieces"]) (fs := [(1, 0)]) (⟨rfl, rfl, rfl, by rfl, by rfl, ⟨⟨_, rfl, rfl, rfl, Or.inl rfl⟩, trivial⟩⟩) hB cP (hr.mono (by decide) : Room (5 + 1) _) (by rfl) T.b_any (pi_tup (pe_glob (v := .ref a.SIGNS) (by rfl) T.c_SIGNS rfl)) (fun _ _ _ _ _ _ _ => (pg_name (i := 0) (show List.Nodup (["sign", "pieces"] : List Str) from by decide +kernel) rfl (Or.inl rfl))) (fun _ _ _ _ _ _ _ hr => (pe_cmpR op_gt (pe_bmK K PySem.F.plainAttrs_list PySem.F.slot_list_count PySem.F.type_list_count (mt_countK K) (pv 1) (pa_c (pv 0) pa_nil)) pe_int (nomark _)))))
 (pss_one (ps_raise PySem.F.excBase_ValueError T.x_BadRule.ex T.c_BadRule hh (by rfl) (pa_c pe_str pa_nil) (hl := fun _ _ _ z => ⟨by decide, z⟩)))
 pss_nil)
 (pss_one (ps_if (pt_not (pt_val (pe_call G_ties_fit (hr.mono (by decide)) (by rfl) D_ties_fit.mg D_ties_fit.kp D_ties_fit.bd .nil pass0 (pa_c (pv 0) pa_nil))))
 (pss_one (ps_raise PySem.F.excBase_ValueError T.x_BadRule.ex T.c_BadRule hh (by rfl) (pa_c pe_str pa_nil) (hl := fun _ _ _ z => ⟨by decide, z⟩)))
 pss_nil)))))), ?_⟩
    (repeat array_get_dec)
    refine ⟨l, _, rfl, .inl (SqL.of hl), ?_⟩
    (repeat array_get_dec)
    have e1 : decide ((1 : Int) ≤ ((ys.map V.str).length : Nat)) = decide (1 ≤ ys.length) := decide_eq_decide.mpr (by rw [List.length_map]; omega)
    have e2 : decide (((ys.map V.str).length : Int) ≤ 8) = decide (ys.length ≤ 8) := decide_eq_decide.mpr (by rw [List.length_map]; omega)
    rw [e1]
    refine w_ite (fun z1 => ?_) (fun z1 => ?_)
    case refine_2 =>
      (repeat array_get_dec)
      simpa [z1] using k
    (repeat array_get_dec)
    rw [e2]
    refine w_ite (fun z2 => ?_) (fun z2 => ?_)
    · (repeat array_get_dec)
      rw [Bool.not_eq_true'] at z2
      simpa [z1, z2] using k
    have z2 : decide (ys.length ≤ 8) = true := by simpa using z2
    simp only [z1, z2, Bool.true_and] at k k0
    (repeat array_get_dec)
    refine ⟨l, rfl, ⟨_, SqL.of hl⟩, all_lB (K := K) qP (SqL.of hl) ht.2.1 rfl (fun v hv => ?_) ?_⟩
    · obtain ⟨x, hx, rfl⟩ := List.mem_map.mp hv
      (repeat array_get_dec)
      exact ⟨x, rfl, hz x hx, ht.1, rfl, rfl⟩
    rw [show (ys.map V.str).all qP = ys.all pieceS by rw [List.all_map]; rfl]
    refine w_ite (fun z3 => ?_) (fun z3 => ?_)
    · (repeat array_get_dec)
      rw [Bool.not_eq_true'] at z3
      simpa [z3] using k
    have z3 : ys.all pieceS = true := by simpa using z3
    simp only [z3, Bool.true_and] at k k0
    (repeat array_get_dec)
    refine ⟨l, rfl, ⟨_, SqL.of hl⟩, any_lB (K := K) qW (SqL.of hl) ht.2.1 rfl (fun v hv => ?_) ?_⟩
    · obtain ⟨x, hx, rfl⟩ := List.mem_map.mp hv
      (repeat array_get_dec)
      exact ⟨x, rfl, hz x hx, ht.1, rfl, rfl⟩
    rw [show (ys.map V.str).any qW = ys.any wordS by rw [List.any_map]; rfl]
    refine w_ite (fun z4 => ?_) (fun z4 => ?_)
    · (repeat array_get_dec)
      rw [Bool.not_eq_true'] at z4
      simpa [z4] using k
    have z4 : ys.any wordS = true := by simpa using z4
    simp only [z4, Bool.true_and] at k k0
    (repeat array_get_dec)
    refine ⟨_, rfl, ⟨_, T.s_SIGNS _⟩, any_tB (K := K) (qT ys) (T.s_SIGNS _) ht.2.1 rfl (fun v hv => ?_) ?_⟩
    · obtain ⟨x, hx, rfl⟩ := List.mem_map.mp hv
      (repeat array_get_dec)
      refine ⟨.inl ⟨rfl, _, SqL.of hl⟩, ?_⟩
      (repeat array_get_dec)
      refine ⟨l, _, _, rfl, rfl, hl, flat_strs _, rfl, ?_⟩
      (repeat array_get_dec)
      exact ⟨rfl, rfl⟩
    refine w_ite (fun z5 => ?_) (fun z5 => ?_)
    · (repeat array_get_dec)
      have z5 : (sV sig).any (qT ys) = true := z5
      simpa [z5] using k
    have z5 : (sV sig).any (qT ys) = false := z5
    simp only [z5, Bool.not_false, Bool.true_and] at k k0
    (repeat array_get_dec)
    refine ⟨l, ys, rfl, hl, (fun z => by rw [z] at z1; exact absurd z1 (by decide)), ht.2.2.1, fun H' s' => ?_⟩
    (repeat array_get_dec)
    have k := k0 H' s'
    refine w_ite (fun z6 => ?_) (fun z6 => ?_)
    · (repeat array_get_dec)
      rw [Bool.not_eq_true'] at z6
      simpa [z6] using k
    · (repeat array_get_dec)
      have z6 : tiesOk ys = true := by simpa using z6
      simpa [z6] using k
/-! ### Rule.__init__ -/
def ruleOk (l h b f e : Int) (ys : List Str) : Bool := numsOk l h b f e && piecesOk ys && tellOk l h b f e ys
abbrev sInit : Stmt := inClass (top 15) 0
def spInit (a : Ad) : Sp := fun vs H Q E => ∃ (p dx : Addr) (l h b f e : Int) (q : Addr) (ys : List Str), vs = [.ref p, .int l, .int h, .int b, .int f, .int e, .ref q] ∧ H p = some (.ins a.Rule dx []) ∧ H q = some (.lst (ys.map .str)) ∧ (∀ y ∈ ys, y.length ≤ sizeLine) ∧ b.natAbs.log2 < 9000 ∧ Tabs a H ∧
  ∀ H' n, H n = none → (∀ c o, H c = some o → c ≠ p → H' c = some o) → RuleAt a H' p l h b f e n → H' n = some (.lst (ys.map .str)) → if ruleOk l h b f e ys = true then Q .non H' else E (.ref a.BadRule) none H'
theorem scInit : FnScope ["self", "low", "high", "base", "first", "last", "pieces"] ["self", "low", "high", "base", "first", "last", "pieces"] (defScope sInit) := ⟨rfl, rfl, rfl, by decide +kernel, rfl, by decide +kernel, by decide +kernel⟩
abbrev DInit (K : PySem.W.Frag) := DfM K "__init__" "Rule.__init__" sInit ["self", "low", "high", "base", "first", "last", "pieces"]
theorem ok_init (D : DInit K) (D_check_numbers : DNums K mg) (G_check_numbers : FnOk P w K mg base (CXE P w) 1 D_check_numbers.f D_check_numbers.fd ["rule"] (spNums a)) (D_check_pieces : DPieces K mg) (G_check_pieces : FnOk P w K mg base (CXE P w) 7 D_check_pieces.f D_check_pieces.fd ["pieces"] (spPieces a))
    (D_check_telling : DTell K mg) (G_check_telling : FnOk P w K mg base (CXE P w) 3 D_check_telling.f D_check_telling.fd ["rule"] (spTell a)) (T : Txt K mg a) : FnOk P w K mg base (CXE P w) 8 D.f D.fd ["self", "low", "high", "base", "first", "last", "pieces"] (spInit a) := by
  refine Df.okE (k := 7) D.ex scInit (fun vs H Q E h => ?_) (fun A outer s H vs Q E hr h => ?_)
  · obtain ⟨p, dx, l, h, b, f, e, q, ys, rfl, _⟩ := h; rfl
  · obtain ⟨p, dx, l, h, b, f, e, q, ys, rfl, hp, hq, hz, hb, ht, k⟩ := h
    have npq : q ≠ p := ne_of hq hp (by intro z; cases z)
    refine ⟨_, (pss_cons (ps_fld (pv 0) (pv 1) (by rfl))
 (pss_cons (ps_fld (pv 0) (pv 2) (by rfl))
 (pss_cons (ps_fld (pv 0) (pv 3) (by rfl))
 (pss_cons (ps_fld (pv 0) (pv 4) (by rfl))
 (pss_cons (ps_fld (pv 0) (pv 5) (by rfl))
 (pss_cons (ps_fld (pv 0) (pe_callTy call_list_of (by rfl) T.b_list boot_list (pa_c (pv 6) pa_nil)) (by rfl))
 (pss_cons (ps_expr (pe_call G_check_numbers (hr.mono (by decide)) (by rfl) D_check_numbers.mg D_check_numbers.kp D_check_numbers.bd .nil (passE fun _ _ _ z => z) (pa_c (pv 0) pa_nil)))
 (pss_cons (ps_expr (pe_call G_check_pieces (hr.mono (by decide)) (by rfl) D_check_pieces.mg D_check_pieces.kp D_check_pieces.bd .nil (passE fun _ _ _ z => z) (pa_c (pe_fld (pv 0) (by rfl)) pa_nil)))
 (pss_one (ps_expr (pe_call G_check_telling (hr.mono (by decide)) (by rfl) D_check_telling.mg D_check_telling.kp D_check_telling.bd .nil (passE fun _ _ _ z => z) (pa_c (pv 0) pa_nil)))))))))))), ?_⟩
    (repeat array_get_dec)
    refine ⟨p, a.Rule, dx, _, rfl, hp, T.clR, T.n_low, (by show 0 < 1000; decide), ?_⟩
    (repeat array_get_dec)
    refine ⟨p, a.Rule, dx, _, rfl, upd_same, T.clR, T.n_high, (by show 1 < 1000; decide), ?_⟩
    (repeat array_get_dec)
    refine ⟨p, a.Rule, dx, _, rfl, upd_same, T.clR, T.n_base, (by show 2 < 1000; decide), ?_⟩
    (repeat array_get_dec)
    refine ⟨p, a.Rule, dx, _, rfl, upd_same, T.clR, T.n_first, (by show 3 < 1000; decide), ?_⟩
    (repeat array_get_dec)
    refine ⟨p, a.Rule, dx, _, rfl, upd_same, T.clR, T.n_last, (by show 4 < 1000; decide), ?_⟩
    (repeat array_get_dec)
    generalize hH5 : upd (upd (upd (upd (upd H p _) p _) p _) p _) p _ = H5
    have k5 : ∀ c, c ≠ p → H5 c = H c := fun c hc => by rw [← hH5, upd_ne hc, upd_ne hc, upd_ne hc, upd_ne hc, upd_ne hc]
    have p5 : H5 p = some (.ins a.Rule dx (putF "last" (.int e) (putF "first" (.int f) (putF "base" (.int b) (putF "high" (.int h) (putF "low" (.int l) [])))))) := by rw [← hH5]; exact upd_same
    refine ⟨q, _, rfl, .inl (SqL.of ((k5 q npq).trans hq)), fun n hn => ?_⟩
    have npn : n ≠ p := fun z => by rw [z, p5] at hn; cases hn
    have hn0 : H n = none := (k5 n npn).symm.trans hn
    (repeat array_get_dec)
    refine ⟨p, a.Rule, dx, _, rfl, (by rw [upd_ne (Ne.symm npn)]; exact p5), T.clR, T.n_pieces, (by show 5 < 1000; decide), ?_⟩
    (repeat array_get_dec)
    generalize hH7 : upd (upd H5 n _) p _ = H7
    have k7 : ∀ c o, H c = some o → c ≠ p → H7 c = some o := fun c o hc hcp => by rw [← hH7, upd_ne hcp, upd_ne (ne_of_none hc hn0), k5 c hcp]; exact hc
    have R : RuleAt a H7 p l h b f e n := ⟨dx, _, by rw [← hH7]; exact upd_same, ⟨rfl, rfl, rfl, rfl, rfl⟩, rfl⟩
    have n7 : H7 n = some (.lst (ys.map .str)) := by rw [← hH7, upd_ne npn]; exact upd_same
    have nt : ∀ t, H t = some (Tb t) → t ≠ p := fun t e => ne_of e hp (by intro z; cases z)
    have t7 : Tabs a H7 := ⟨k7 _ _ ht.1 (nt _ ht.1), k7 _ _ ht.2.1 (nt _ ht.2.1), k7 _ _ ht.2.2.1 (nt _ ht.2.2.1), k7 _ _ ht.2.2.2 (nt _ ht.2.2.2)⟩
    have kk := k H7 n hn0 k7 R n7
    unfold ruleOk at k kk
    refine ⟨p, l, h, b, f, e, n, rfl, R, w_ite (fun z1 => ?_) (fun z1 => ?_)⟩
    case refine_2 => simpa [z1] using kk
    (repeat array_get_dec)
    obtain ⟨dx', fs, r1, r2, r3⟩ := id R.ob
    refine ⟨p, a.Rule, dx', fs, _, rfl, r1, T.clR, T.n_pieces, r3, ?_⟩
    (repeat array_get_dec)
    refine ⟨n, ys, rfl, n7, hz, t7, fun H8 s8 => w_ite (fun z2 => ?_) (fun z2 => ?_)⟩
    · have z2' : piecesOk ys = true := z2
      (repeat array_get_dec)
      have hb2 : 0 < b := by
        unfold numsOk at z1
        simp at z1
        omega
      have k8 := k H8 n hn0 (fun c o hc hcp => s8 _ _ (k7 c o hc hcp)) (R.same s8) (s8 _ _ n7)
      rw [z1, z2', Bool.true_and, Bool.true_and] at k8
      exact ⟨p, l, h, b, f, e, n, ys, rfl, R.same s8, s8 _ _ n7, s8 _ _ t7.2.2.2, hb2, hb, k8⟩
    · have k8 := k H8 n hn0 (fun c o hc hcp => s8 _ _ (k7 c o hc hcp)) (R.same s8) (s8 _ _ n7)
      simpa [z2] using k8
end
end K32

namespace K32
open PySem PySem.Spec PyProof.Rows L2
section
variable {P : Program} {w : World} {K : PySem.W.Frag} {mg : Str → Option Value} {base : Heap} {a : Ad}
/-! ### own_list -/
abbrev DOwn (K : PySem.W.Frag) (mg : Str → Option Value) := Df K mg "own_list" "own_list" (top 27) ["given"]
def spOwn (K : PySem.W.Frag) : Sp := fun vs H Q _ => ∃ (v : V) (xs : List V), vs = [v] ∧ ((v = .non ∧ xs = []) ∨ ∃ p, v = .ref p ∧ SqL K H p xs) ∧ ∀ l, H l = none → Q (.ref l) (upd H l (.lst xs))
theorem scOwn : FnScope ["given"] ["given"] (defScope (top 27)) := ⟨rfl, rfl, rfl, by decide +kernel, rfl, by decide +kernel, by decide +kernel⟩
theorem ok_own (D : DOwn K mg) (T : Txt K mg a) : FnOk P w K mg base CX0 1 D.f D.fd ["given"] (spOwn K) := by
  refine Df.ok (k := 0) D.ex scOwn (fun vs H Q E h => ?_) (fun A outer s H vs Q E hr h => ?_)
  · obtain ⟨v, xs, rfl, _⟩ := h; rfl
  · obtain ⟨v, xs, rfl, hv, k⟩ := h
    refine ⟨_, (pss_one (ps_ret (pe_ifExp (pt_cmpR op_isN (pv 0) pe_non (nomark _)) (pe_lst pa_nil) (pe_callTy call_list_of (by rfl) T.b_list boot_list (pa_c (pv 0) pa_nil))))), ?_⟩
    (repeat array_get_dec)
    refine ⟨rfl, ?_⟩
    rcases hv with ⟨rfl, rfl⟩ | ⟨p, rfl, hp⟩
    · rw [decide_eq_true rfl]
      (repeat array_get_dec)
      exact ⟨by show 0 ≤ sizeLine; decide, k⟩
    · rw [decide_eq_false (by intro z; cases z)]
      (repeat array_get_dec)
      exact ⟨p, xs, rfl, .inl hp, k⟩
/-! ### is_melt -/
def low (i j : Nat) (x : Str) : Bool := decide (i ≤ x.length) && decide (x.length ≤ j) && lowS x
def meltOk (m : Str × Str × Str) : Bool := low 1 3 m.1 && low 1 3 m.2.1 && low 1 6 m.2.2 && decide (m.1.length + m.2.1.length ≤ m.2.2.length + 1)
def tupM (m : Str × Str × Str) : HO := .tup [.str m.1, .str m.2.1, .str m.2.2]
abbrev DMelt (K : PySem.W.Frag) (mg : Str → Option Value) := Df K mg "is_melt" "is_melt" (top 28) ["melt"]
def spMelt (a : Ad) : Sp := fun vs H Q _ => ∃ (t : Addr) (m : Str × Str × Str), vs = [.ref t] ∧ H t = some (tupM m) ∧ meltOk m = true ∧ H a.tSL = some (Tb a.tSL) ∧ Q (.bl true) H
theorem scMelt : FnScope ["melt", "ahead", "behind", "made"] ["melt"] (defScope (top 28)) := ⟨rfl, rfl, rfl, by decide +kernel, rfl, by decide +kernel, by decide +kernel⟩
theorem low_small {i j : Nat} {x : Str} (h : low i j x = true) : (decide ((i : Int) ≤ x.length) && decide ((x.length : Int) ≤ j) && lowS x) = true := by
  unfold low at h
  simp only [Bool.and_eq_true, decide_eq_true_eq] at h ⊢
  exact ⟨⟨by omega, by omega⟩, h.2⟩
theorem low_len {i j : Nat} {x : Str} (h : low i j x = true) : i ≤ x.length ∧ x.length ≤ j := by
  unfold low at h
  simp only [Bool.and_eq_true, decide_eq_true_eq] at h
  exact h.1
theorem meltOk_ok {m : Str × Str × Str} (h : meltOk m = true) : low 1 3 m.1 = true ∧ low 1 3 m.2.1 = true ∧ low 1 6 m.2.2 = true ∧ m.1.length + m.2.1.length ≤ m.2.2.length + 1 := by
  unfold meltOk at h
  simp only [Bool.and_eq_true, decide_eq_true_eq] at h
  exact ⟨h.1.1.1, h.1.1.2, h.1.2, h.2⟩
theorem le_line {n : Nat} (h : n ≤ 10000) : n ≤ sizeLine := Nat.le_trans h (by decide)
theorem ok_melt (D : DMelt K mg) (D_small_letters : DSmall K mg) (G_small_letters : FnOk P w K mg base CX0 2 D_small_letters.f D_small_letters.fd ["text", "least", "most"] (spSmall a.tSL)) (T : Txt K mg a) : FnOk P w K mg base CX0 3 D.f D.fd ["melt"] (spMelt a) := by
  refine Df.ok (k := 2) D.ex scMelt (fun vs H Q E h => ?_) (fun A outer s H vs Q E hr h => ?_)
  · obtain ⟨t, m, rfl, _⟩ := h; rfl
  · obtain ⟨t, ⟨x, y, z⟩, rfl, ht, hm, tSL, k⟩ := h
    obtain ⟨m1, m2, m3, m4⟩ := meltOk_ok hm
    dsimp only at m1 m2 m3 m4
    have l1 := low_len m1
    have l2 := low_len m2
    have l3 := low_len m3
    have ht : H t = some (.tup [.str x, .str y, .str z]) := ht
    refine ⟨_, (pss_cons (ps_if (pw_or (pt_not (pt_val (pe_callB call_isi (by rfl) T.b_isinstance boot_isinstance (pa_c (pv 0) (pa_c (pe_bltn (v := .ty "tuple") (by rfl) T.b_tuple (by rfl) rfl) pa_nil))))) (pw_or1 (pt_cmpR op_ne (pe_callB call_len_seq (by rfl) T.b_len boot_len (pa_c (pv 0) pa_nil)) pe_int (nomark _)))).pt
 (pss_one (ps_ret pe_bl))
 pss_nil)
 (pss_cons (ps_asg (pv 0) (pg_tup (n := 3) rfl (pgs_cons (pg_name (i := 1) (show List.Nodup (["melt", "ahead", "behind", "made"] : List Str) from by decide +kernel) rfl (Or.inl rfl)) (pgs_cons (pg_name (i := 2) (show List.Nodup (["melt", "ahead", "behind", "made"] : List Str) from by decide +kernel) rfl (Or.inl rfl)) (pgs_cons (pg_name (i := 3) (show List.Nodup (["melt", "ahead", "behind", "made"] : List Str) from by decide +kernel) rfl (Or.inl rfl)) pgs_nil)))))
 (pss_cons (ps_if (pt_not (pw_and (pt_val (pe_call G_small_letters (hr.mono (by decide)) (by rfl) D_small_letters.mg D_small_letters.kp D_small_letters.bd .nil pass0 (pa_c (pv 1) (pa_c pe_int (pa_c pe_int pa_nil))))) (pw_and (pt_val (pe_call G_small_letters (hr.mono (by decide)) (by rfl) D_small_letters.mg D_small_letters.kp D_small_letters.bd .nil pass0 (pa_c (pv 2) (pa_c pe_int (pa_c pe_int pa_nil))))) (pw_and1 (pt_val (pe_call G_small_letters (hr.mono (by decide)) (by rfl) D_small_letters.mg D_small_letters.kp D_small_letters.bd .nil pass0 (pa_c (pv 3) (pa_c pe_int (pa_c pe_int pa_nil)))))))).pt)
 (pss_one (ps_ret pe_bl))
 pss_nil)
 (pss_one (ps_ret (pe_cmpR op_ge (pe_callB call_len_str (by rfl) T.b_len boot_len (pa_c (pv 3) pa_nil)) (pe_op op_sub (pe_op op_add (pe_callB call_len_str (by rfl) T.b_len boot_len (pa_c (pv 1) pa_nil)) (pe_callB call_len_str (by rfl) T.b_len boot_len (pa_c (pv 2) pa_nil))) pe_int) (nomark _))))))), ?_⟩
    (repeat array_get_dec)
    refine ⟨_, _, _, _, _, rfl, .v (.tup ht), rfl, T.k_tup, ?_⟩
    (repeat array_get_dec)
    refine ⟨t, _, rfl, .inr (SqT.of ht), ?_⟩
    (repeat array_get_dec)
    refine w_ite (fun e => absurd e (by simp)) (fun _ => ?_)
    (repeat array_get_dec)
    refine w_gTup' (SqT.of ht) rfl ?_
    refine ⟨_, _, rfl, _, _, rfl, _, _, rfl, rfl, ?_⟩
    show tSeq _ _ _ [some (V.ref t), some (V.str x), some (V.str y), some (V.str z)] H
    (repeat array_get_dec)
    refine ⟨x, 1, 3, rfl, le_line (by omega), tSL, ?_⟩
    rw [show (decide ((1 : Int) ≤ x.length) && decide ((x.length : Int) ≤ 3) && lowS x) = true from low_small m1]
    (repeat array_get_dec)
    refine ⟨y, 1, 3, rfl, le_line (by omega), tSL, ?_⟩
    rw [show (decide ((1 : Int) ≤ y.length) && decide ((y.length : Int) ≤ 3) && lowS y) = true from low_small m2]
    (repeat array_get_dec)
    refine ⟨z, 1, 6, rfl, le_line (by omega), tSL, ?_⟩
    rw [show (decide ((1 : Int) ≤ z.length) && decide ((z.length : Int) ≤ 6) && lowS z) = true from low_small m3]
    (repeat array_get_dec)
    refine ⟨z, rfl, le_line (by omega), ?_⟩
    (repeat array_get_dec)
    refine ⟨x, rfl, le_line (by omega), ?_⟩
    (repeat array_get_dec)
    refine ⟨y, rfl, le_line (by omega), ?_⟩
    (repeat array_get_dec)
    rw [decide_eq_true (show (x.length : Int) + y.length - 1 ≤ z.length by omega)]
    exact k
end
end K32

namespace K32
open PySem PySem.Spec PyProof.Rows L2
theorem eqL_refl {xs : List V} (h : xs.all flatV = true) : eqL xs xs = true := by
  unfold eqL
  rw [beq_self_eq_true, Bool.true_and, List.all_eq_true]
  intro p hp
  have e : p.1 = p.2 := by
    induction xs with
    | nil => cases hp
    | cons y r ih =>
      rw [List.zip_cons_cons] at hp
      rcases List.mem_cons.mp hp with e | hp
      · rw [e]
      · exact ih (by rw [List.all_cons, Bool.and_eq_true] at h; exact h.2) hp
  rw [← e]
  exact eqV_self (List.all_eq_true.mp h _ (List.of_mem_zip hp).1)
section
variable {P : Program} {w : World} {K : PySem.W.Frag} {mg : Str → Option Value} {base : Heap} {a : Ad}
/-! ### is_word_pair -/
def pairV (m : Str × Str) : HO := .tup [.str m.1, .str m.2]
def pairOk (m : Str × Str) : Bool := wordS m.1 && wordS m.2
abbrev DWPr (K : PySem.W.Frag) (mg : Str → Option Value) := Df K mg "is_word_pair" "is_word_pair" (top 24) ["pair"]
def spWPr (a : Ad) : Sp := fun vs H Q _ => ∃ (t : Addr) (m : Str × Str), vs = [.ref t] ∧ H t = some (pairV m) ∧ m.1.length ≤ 1000 ∧ m.2.length ≤ 1000 ∧ H a.tSL = some (Tb a.tSL) ∧ Q (.bl (pairOk m)) H
theorem scWPr : FnScope ["pair"] ["pair"] (defScope (top 24)) := ⟨rfl, rfl, rfl, by decide +kernel, rfl, by decide +kernel, by decide +kernel⟩
theorem ok_wpr (D : DWPr K mg) (D_is_word : DWord K mg) (G_is_word : FnOk P w K mg base CX0 3 D_is_word.f D_is_word.fd ["text"] (spWord a.tSL)) (T : Txt K mg a) : FnOk P w K mg base CX0 4 D.f D.fd ["pair"] (spWPr a) := by
  refine Df.ok (k := 3) D.ex scWPr (fun vs H Q E h => ?_) (fun A outer s H vs Q E hr h => ?_)
  · obtain ⟨t, m, rfl, _⟩ := h; rfl
  · obtain ⟨t, m, rfl, ht, l1, l2, tSL, q⟩ := h
    have nd := scWPr.nd
    obtain ⟨x, y⟩ := m
    have ht : H t = some (.tup [.str x, .str y]) := ht
    have l1 : x.length ≤ 1000 := l1
    have l2 : y.length ≤ 1000 := l2
    have line : 1000 < sizeLine := by decide
    refine ⟨_, (pss_one (ps_ret (pe_and (pe_callB call_isi (by rfl) T.b_isinstance boot_isinstance (pa_c (pv 0) (pa_c (pe_bltn (v := .ty "tuple") (by rfl) T.b_tuple (by rfl) rfl) pa_nil))) (pe_and (pe_cmpR op_eq (pe_callB call_len_seq (by rfl) T.b_len boot_len (pa_c (pv 0) pa_nil)) pe_int (nomark _)) (pe_and (pe_call G_is_word (hr.mono (by decide)) (by rfl) D_is_word.mg D_is_word.kp D_is_word.bd .nil pass0 (pa_c (pe_ix ix_tup (pv 0) pe_int (fun _ _ => rfl)) pa_nil)) (pe_one (pe_call G_is_word (hr.mono (by decide)) (by rfl) D_is_word.mg D_is_word.kp D_is_word.bd .nil pass0 (pa_c (pe_ix ix_tup (pv 0) pe_int (fun _ _ => rfl)) pa_nil)))))))), ?_⟩
    (repeat array_get_dec)
    refine ⟨_, _, _, _, _, rfl, .v (.tup ht), rfl, T.k_tup, ?_⟩
    (repeat array_get_dec)
    refine ⟨t, _, rfl, .inr (SqT.of ht), ?_⟩
    (repeat array_get_dec)
    refine w_ite (fun _ => ?_) (fun z => absurd z (by simp))
    (repeat array_get_dec)
    refine ⟨t, _, 0, _, rfl, rfl, SqT.of ht, atI_nat (j := 0) rfl, ?_⟩
    (repeat array_get_dec)
    refine ⟨x, rfl, by omega, tSL, ?_⟩
    (repeat array_get_dec)
    have e : pairOk (x, y) = (wordS x && wordS y) := rfl
    rw [e] at q
    refine w_ite (fun z => ?_) (fun z => ?_)
    · (repeat array_get_dec)
      refine ⟨t, _, 1, _, rfl, rfl, SqT.of ht, atI_nat (j := 1) rfl, ?_⟩
      (repeat array_get_dec)
      refine ⟨y, rfl, by omega, tSL, ?_⟩
      (repeat array_get_dec)
      rw [z, Bool.true_and] at q
      exact q
    · skip
      rw [z, Bool.false_and] at q
      exact q
end
end K32

namespace K32
open PySem PySem.Spec PyProof.Rows L2
theorem twice_split {α : Type} [DecidableEq α] : ∀ {l : List α}, ¬ l.Nodup → ∃ l1 k l2, l = l1 ++ k :: l2 ∧ k ∈ l2
  | [], h => absurd List.nodup_nil h
  | y :: r, h => by
    by_cases hy : y ∈ r
    · exact ⟨[], y, r, rfl, hy⟩
    · have : ¬ r.Nodup := fun z => h (List.nodup_cons.mpr ⟨hy, z⟩)
      obtain ⟨l1, k, l2, e, m⟩ := twice_split this
      exact ⟨y :: l1, k, l2, by rw [e]; rfl, m⟩
theorem metK_lt {ks : List Key} (h : ¬ ks.Nodup) : (metK ks).length < ks.length := by
  obtain ⟨l1, k, l2, e, m⟩ := twice_split h
  have : (metK ks).length ≤ (l1 ++ l2).length := nodup_len (nd_metK ks) fun x hx => by
    rw [mem_metK, e, List.mem_append, List.mem_cons] at hx
    rw [List.mem_append]
    rcases hx with z | z | z
    · exact .inl z
    · rw [z]; exact .inr m
    · exact .inr z
  have e2 := congrArg List.length e
  simp only [List.length_append, List.length_cons] at this e2
  omega
theorem metK_len (ks : List Key) : decide (((metK ks).length : Int) = ks.length) = decide ks.Nodup := by
  refine decide_eq_decide.mpr ⟨fun h => ?_, fun h => by rw [metK_nd h]⟩
  by_cases z : ks.Nodup
  · exact z
  · have := metK_lt z; omega
/-! ### pairs of texts -/
def PairsAt (H : Hp) (l : Addr) (ms : List (Str × Str)) : Prop := ∃ ts : List Addr, H l = some (.lst (ts.map .ref)) ∧ ts.length = ms.length ∧ ∀ (i : Nat) t m, ts[i]? = some t → ms[i]? = some m → H t = some (pairV m)
theorem PairsAt.same {H H' : Hp} {l : Addr} {ms : List (Str × Str)} (h : PairsAt H l ms) (s : Same H H') : PairsAt H' l ms := by
  obtain ⟨ts, h1, h2, h3⟩ := h
  exact ⟨ts, s _ _ h1, h2, fun i t m x y => s _ _ (h3 i t m x y)⟩
def fstK (ms : List (Str × Str)) : List Key := ms.map fun m => .inr m.1
def pairsOk (ms : List (Str × Str)) : Bool := ms.all pairOk && decide (fstK ms).Nodup
def qPair (H : Hp) : V → Bool
  | .ref t => match H t with
    | some (.tup [.str x, .str y]) => pairOk (x, y)
    | _ => false
  | _ => false
theorem qPair_at {H : Hp} {t : Addr} {m : Str × Str} (h : H t = some (pairV m)) : qPair H (.ref t) = pairOk m := by
  unfold qPair
  simp only [h, pairV]
theorem all_pairs {H : Hp} {ts : List Addr} {ms : List (Str × Str)} (hl : ts.length = ms.length) (h : ∀ (i : Nat) t m, ts[i]? = some t → ms[i]? = some m → H t = some (pairV m)) : (ts.map V.ref).all (qPair H) = ms.all pairOk := by
  rw [Bool.eq_iff_iff, List.all_eq_true, List.all_eq_true]
  constructor
  · intro z m hm
    obtain ⟨i, hi, e⟩ := List.mem_iff_getElem.mp hm
    have hi' : i < ts.length := by omega
    rw [← qPair_at (h i ts[i] m (List.getElem?_eq_getElem hi') (by rw [List.getElem?_eq_getElem hi, e]))]
    exact z _ (List.mem_map.mpr ⟨ts[i], List.getElem_mem hi', rfl⟩)
  · intro z v hv
    obtain ⟨t, ht, rfl⟩ := List.mem_map.mp hv
    obtain ⟨i, hi, e⟩ := List.mem_iff_getElem.mp ht
    have hi' : i < ms.length := by omega
    rw [qPair_at (h i t ms[i] (by rw [List.getElem?_eq_getElem hi, e]) (List.getElem?_eq_getElem hi'))]
    exact z _ (List.getElem_mem hi')
section
variable {P : Program} {w : World} {K : PySem.W.Frag} {mg : Str → Option Value} {base : Heap} {a : Ad}
/-! ### are_word_pairs -/
abbrev DWPs (K : PySem.W.Frag) (mg : Str → Option Value) := Df K mg "are_word_pairs" "are_word_pairs" (top 23) ["pairs"]
def spWPs (a : Ad) : Sp := fun vs H Q _ => ∃ (l : Addr) (ms : List (Str × Str)), vs = [.ref l] ∧ PairsAt H l ms ∧ ms.length ≤ 1000 ∧ (∀ m ∈ ms, m.1.length ≤ 1000 ∧ m.2.length ≤ 1000) ∧ H a.tSL = some (Tb a.tSL) ∧ H a.tWP = some (Tb a.tWP) ∧ Pure (.bl (pairsOk ms)) H Q
theorem scWPs : FnScope ["pairs"] ["pairs"] (defScope (top 23)) := ⟨rfl, rfl, rfl, by decide +kernel, rfl, by decide +kernel, by decide +kernel⟩
theorem ok_wps (D : DWPs K mg) (cP : CodeK K D.cdv a.tWP) (hB : BltK base) (D_is_word_pair : DWPr K mg) (G_is_word_pair : FnOk P w K mg base CX0 4 D_is_word_pair.f D_is_word_pair.fd ["pair"] (spWPr a)) (T : Txt K mg a) : FnOk P w K mg base CX0 6 D.f D.fd ["pairs"] (spWPs a) := by
  refine Df.ok (k := 5) D.ex scWPs (fun vs H Q E h => ?_) (fun A outer s H vs Q E hr h => ?_)
  · obtain ⟨l, ms, rfl, _⟩ := h; rfl
  · obtain ⟨l, ms, rfl, hp, hn, hm, tSL, tWP, q⟩ := h
    have nd := scWPs.nd
    obtain ⟨ts, h1, h2, h3⟩ := id hp
    have line : 1000 < sizeLine := by decide
    refine ⟨_, (pss_cons (ps_if (pt_not (pt_val (pe_allG (N := ["pair"]) (fs := []) (⟨rfl, rfl, rfl, by rfl, by rfl, trivial⟩) hB cP (hr.mono (by decide) : Room (4 + 1) _) (by rfl) T.b_all (pi_list (pv 0)) (fun _ _ _ _ _ _ _ => by exact (pg_name (i := 0) (show List.Nodup (["pair"] : List Str) from by decide +kernel) rfl (Or.inl rfl))) (fun _ _ _ _ _ _ _ hr => by exact (pe_call G_is_word_pair (hr.mono (by decide)) (by rfl) D_is_word_pair.mg D_is_word_pair.kp D_is_word_pair.bd .nil pass0 (pa_c (pv 0) pa_nil))))))
 (pss_one (ps_ret pe_bl))
 pss_nil)
 (pss_one (ps_ret (pe_cmpR op_eq (pe_callB (call_len_setK P w) (by rfl) T.b_len boot_len (pa_c (pe_sc (N := ["pair"]) (fs := []) (⟨rfl, by rfl, by rfl, by rfl, trivial⟩) rfl (pi_list (pv 0)) (fun _ _ _ _ _ => (pg_name (i := 0) (show List.Nodup (["pair"] : List Str) from by decide +kernel) rfl (Or.inl rfl))) (fun _ _ _ _ _ => by exact pts_nil) (fun _ _ _ _ _ => by exact (pe_ix (ix_tupK K) (pv 0) pe_int (fun _ _ => rfl))) P w) pa_nil)) (pe_callB call_len_seq (by rfl) T.b_len boot_len (pa_c (pv 0) pa_nil)) (nomark _))))), ?_⟩
    (repeat array_get_dec)
    refine ⟨l, rfl, ⟨_, SqL.of h1⟩, all_lB (qPair H) (SqL.of h1) tWP rfl (fun v hv => ?_) ?_⟩
    · obtain ⟨t, ht, rfl⟩ := List.mem_map.mp hv
      obtain ⟨i, hi, e⟩ := List.mem_iff_getElem.mp ht
      have hi' : i < ms.length := by omega
      have hp := h3 i t ms[i] (by rw [List.getElem?_eq_getElem hi, e]) (List.getElem?_eq_getElem hi')
      have hl := hm _ (List.getElem_mem hi')
      (repeat array_get_dec)
      exact ⟨t, ms[i], rfl, hp, hl.1, hl.2, tSL, rfl, by rw [qPair_at hp]⟩
    · rw [all_pairs h2 h3]
      (repeat array_get_dec)
      refine w_ite (fun z => ?_) (fun z => ?_)
      · rw [Bool.not_eq_true'] at z
        (repeat array_get_dec)
        unfold pairsOk at q
        rw [z, Bool.false_and] at q
        exact q H (Same.refl _)
      · have z : ms.all pairOk = true := by simpa using z
        (repeat array_get_dec)
        refine ⟨l, rfl, ⟨_, SqL.of h1⟩, scL (fun i => .inr (ms.getD i ("", "")).1) (SqL.of h1) (by rw [List.length_map]; show _ < 4096; omega) rfl (fun D' L i Qc hD hi hq => ?_) (fun D' hD => ?_)⟩
        · rw [List.length_map] at hi
          have hi' : i < ms.length := by omega
          have e1 : (ts.map V.ref).getD i .non = V.ref ts[i] := by simp [List.getD_eq_getElem?_getD, hi]
          have e2 : ms.getD i ("", "") = ms[i] := by simp [List.getD_eq_getElem?_getD, hi']
          have ht := h3 i ts[i] ms[i] (List.getElem?_eq_getElem hi) (List.getElem?_eq_getElem hi')
          rw [e1]
          rw [e2] at hq
          (repeat array_get_dec)
          refine ⟨ts[i], _, 0, _, rfl, rfl, SqT.of (show upd H D' _ ts[i] = _ by rw [upd_ne (ne_of_none ht hD)]; exact ht), atI_nat (j := 0) rfl, hq⟩
        · have ek : (List.range (ts.map V.ref).length).map (fun i => (Sum.inr (ms.getD i ("", "")).1 : Key)) = fstK ms := by
            rw [List.length_map, h2]
            refine List.ext_getElem (by simp [fstK]) fun i u1 u2 => ?_
            have : i < ms.length := by simpa using u1
            simp [fstK, List.getD_eq_getElem?_getD, this]
          rw [ek]
          have s1 : Same H (upd H D' (SetO P w D' (metK (fstK ms)))) := Same.upd hD
          (repeat array_get_dec)
          refine ⟨D', _, rfl, upd_same, ?_, ?_⟩
          · have := len_metK (fstK ms); have : (fstK ms).length = ms.length := by unfold fstK; rw [List.length_map]
            omega
          (repeat array_get_dec)
          refine ⟨l, _, rfl, .inl (SqL.of (s1 _ _ h1)), ?_⟩
          (repeat array_get_dec)
          unfold pairsOk at q
          rw [z, Bool.true_and, ← metK_len] at q
          have e : ((ts.map V.ref).length : Int) = (fstK ms).length := by unfold fstK; rw [List.length_map, List.length_map, h2]
          rw [e]
          exact q _ s1
end
section
variable {P : Program} {w : World} {K : PySem.W.Frag} {mg : Str → Option Value} {base : Heap} {a : Ad}
/-! ### a kind -/
structure FldK (fs : List (Str × V)) (t e : Str) (n : Addr) : Prop where
  title : fs.lookup ("title" : Str) = some (.str t)
  ending : fs.lookup ("ending" : Str) = some (.str e)
  turns : fs.lookup ("turns" : Str) = some (.ref n)
structure KindAt (a : Ad) (H : Hp) (p : Addr) (t e : Str) (n : Addr) : Prop where
  ob : ∃ dx fs, H p = some (.ins a.Kind dx fs) ∧ FldK fs t e n
theorem KindAt.same {H H' : Hp} {p : Addr} {t e : Str} {n : Addr} (R : KindAt a H p t e n) (s : Same H H') : KindAt a H' p t e n := by
  obtain ⟨dx, fs, h1, h2⟩ := R.ob
  exact ⟨dx, fs, s _ _ h1, h2⟩
def titleOk (t : Str) : Bool := decide ((1 : Int) ≤ t.length) && decide ((t.length : Int) ≤ 8) && lowS t
def kindOk (t e : Str) (ms : List (Str × Str)) : Bool := titleOk t && (wordS e && pairsOk ms)
abbrev sKI : Stmt := inClass (top 31) 0
abbrev pKI : List Str := ["self", "title", "ending", "turns"]
abbrev DKI (K : PySem.W.Frag) := DfM K "__init__" "Kind.__init__" sKI pKI
def Tabs2 (a : Ad) (H : Hp) : Prop := H a.tSL = some (Tb a.tSL) ∧ H a.tWP = some (Tb a.tWP)
theorem Tabs2.same {H H' : Hp} (t : Tabs2 a H) (s : Same H H') : Tabs2 a H' := ⟨s _ _ t.1, s _ _ t.2⟩
def Short (ms : List (Str × Str)) : Prop := ms.length ≤ 1000 ∧ ∀ m ∈ ms, m.1.length ≤ 1000 ∧ m.2.length ≤ 1000
def spKI (a : Ad) : Sp := fun vs H Q E => ∃ (p dx : Addr) (t e : Str) (q : Addr) (ts : List Addr) (ms : List (Str × Str)), vs = [.ref p, .str t, .str e, .ref q] ∧ H p = some (.ins a.Kind dx []) ∧ H q = some (.lst (ts.map .ref)) ∧ ts.length = ms.length ∧ (∀ (i : Nat) u m, ts[i]? = some u → ms[i]? = some m → H u = some (pairV m)) ∧
  t.length ≤ 1000 ∧ e.length ≤ 1000 ∧ Short ms ∧ Tabs2 a H ∧
  ∀ H' n, H n = none → (∀ c o, H c = some o → c ≠ p → H' c = some o) → KindAt a H' p t e n → H' n = some (.lst (ts.map .ref)) → if kindOk t e ms = true then Q .non H' else E (.ref a.BadKind) none H'
theorem scKI : FnScope pKI pKI (defScope sKI) := ⟨rfl, rfl, rfl, by decide +kernel, rfl, by decide +kernel, by decide +kernel⟩
theorem ok_ki (D : DKI K) (D_small_letters : DSmall K mg) (G_small_letters : FnOk P w K mg base CX0 2 D_small_letters.f D_small_letters.fd ["text", "least", "most"] (spSmall a.tSL)) (D_is_word : DWord K mg) (G_is_word : FnOk P w K mg base CX0 3 D_is_word.f D_is_word.fd ["text"] (spWord a.tSL))
    (D_are_word_pairs : DWPs K mg) (G_are_word_pairs : FnOk P w K mg base CX0 6 D_are_word_pairs.f D_are_word_pairs.fd ["pairs"] (spWPs a)) (T : Txt K mg a) : FnOk P w K mg base (CXE P w) 7 D.f D.fd pKI (spKI a) := by
  refine Df.okE (k := 6) D.ex scKI (fun vs H Q E h => ?_) (fun A outer s H vs Q E hr h => ?_)
  · obtain ⟨p, dx, t, e, q, ts, ms, rfl, _⟩ := h; rfl
  · obtain ⟨p, dx, t, e, q, ts, ms, rfl, hp, hq, hl, hm, lt, le, sh, tb, k⟩ := h
    have nd := scKI.nd
    have hh : A.handled = none := hr.hd
    have line : 1000 < sizeLine := by decide
    have npq : q ≠ p := ne_of hq hp (by intro z; cases z)
    refine ⟨_, (pss_cons (ps_fld (pv 0) (pv 1) (by rfl))
 (pss_cons (ps_fld (pv 0) (pv 2) (by rfl))
 (pss_cons (ps_fld (pv 0) (pe_callTy call_list_of (by rfl) T.b_list boot_list (pa_c (pv 3) pa_nil)) (by rfl))
 (pss_cons (ps_if (pt_not (pt_val (pe_call G_small_letters (hr.mono (by decide)) (by rfl) D_small_letters.mg D_small_letters.kp D_small_letters.bd .nil pass0 (pa_c (pv 1) (pa_c pe_int (pa_c pe_int pa_nil))))))
 (pss_one (ps_raise PySem.F.excBase_ValueError T.x_BadKind.ex T.c_BadKind hh (by rfl) (pa_c pe_str pa_nil) (hl := fun _ _ _ z => ⟨by decide, z⟩)))
 pss_nil)
 (pss_cons (ps_if (pt_not (pt_val (pe_call G_is_word (hr.mono (by decide)) (by rfl) D_is_word.mg D_is_word.kp D_is_word.bd .nil pass0 (pa_c (pv 2) pa_nil))))
 (pss_one (ps_raise PySem.F.excBase_ValueError T.x_BadKind.ex T.c_BadKind hh (by rfl) (pa_c pe_str pa_nil) (hl := fun _ _ _ z => ⟨by decide, z⟩)))
 pss_nil)
 (pss_one (ps_if (pt_not (pt_val (pe_call G_are_word_pairs (hr.mono (by decide)) (by rfl) D_are_word_pairs.mg D_are_word_pairs.kp D_are_word_pairs.bd .nil pass0 (pa_c (pe_fld (pv 0) (by rfl)) pa_nil))))
 (pss_one (ps_raise PySem.F.excBase_ValueError T.x_BadKind.ex T.c_BadKind hh (by rfl) (pa_c pe_str pa_nil) (hl := fun _ _ _ z => ⟨by decide, z⟩)))
 pss_nil))))))), ?_⟩
    (repeat array_get_dec)
    refine ⟨p, a.Kind, dx, _, rfl, hp, T.clK, T.n_title, (by show 0 < 1000; decide), ?_⟩
    (repeat array_get_dec)
    refine ⟨p, a.Kind, dx, _, rfl, upd_same, T.clK, T.n_ending, (by show 1 < 1000; decide), ?_⟩
    (repeat array_get_dec)
    generalize hH5 : upd (upd H p _) p _ = H5
    have k5 : ∀ c, c ≠ p → H5 c = H c := fun c hc => by rw [← hH5, upd_ne hc, upd_ne hc]
    have p5 : H5 p = some (.ins a.Kind dx (putF "ending" (.str e) (putF "title" (.str t) []))) := by rw [← hH5]; exact upd_same
    refine ⟨q, _, rfl, .inl (SqL.of ((k5 q npq).trans hq)), fun n hn => ?_⟩
    have npn : n ≠ p := fun z => by rw [z, p5] at hn; cases hn
    have hn0 : H n = none := (k5 n npn).symm.trans hn
    (repeat array_get_dec)
    refine ⟨p, a.Kind, dx, _, rfl, (by rw [upd_ne (Ne.symm npn)]; exact p5), T.clK, T.n_turns, (by show 2 < 1000; decide), ?_⟩
    (repeat array_get_dec)
    generalize hH7 : upd (upd H5 n _) p _ = H7
    have k7 : ∀ c o, H c = some o → c ≠ p → H7 c = some o := fun c o hc hcp => by rw [← hH7, upd_ne hcp, upd_ne (ne_of_none hc hn0), k5 c hcp]; exact hc
    have R : KindAt a H7 p t e n := ⟨dx, _, by rw [← hH7]; exact upd_same, ⟨rfl, rfl, rfl⟩⟩
    have n7 : H7 n = some (.lst (ts.map .ref)) := by rw [← hH7, upd_ne npn]; exact upd_same
    have nt : ∀ t, H t = some (Tb t) → t ≠ p := fun t e => ne_of e hp (by intro z; cases z)
    have t7 : Tabs2 a H7 := ⟨k7 _ _ tb.1 (nt _ tb.1), k7 _ _ tb.2 (nt _ tb.2)⟩
    have m7 : PairsAt H7 n ms := ⟨ts, n7, hl, fun i u m x y => k7 _ _ (hm i u m x y) (ne_of (hm i u m x y) hp (by intro z; cases z))⟩
    have kk : ∀ H8, Same H7 H8 → if kindOk t e ms = true then Q .non H8 else E (.ref a.BadKind) none H8 := fun H8 s8 => k H8 n hn0 (fun c o hc hcp => s8 _ _ (k7 c o hc hcp)) (R.same s8) (s8 _ _ n7)
    clear hH7 hH5 k5 p5 hn
    unfold kindOk at kk
    refine ⟨t, 1, 8, rfl, by omega, t7.1, ?_⟩
    show _
    rw [show (decide ((1 : Int) ≤ t.length) && decide ((t.length : Int) ≤ 8) && lowS t) = titleOk t from rfl]
    (repeat array_get_dec)
    refine w_ite (fun z1 => ?_) (fun z1 => ?_)
    · rw [Bool.not_eq_true'] at z1
      (repeat array_get_dec)
      have k7 := kk H7 (Same.refl _)
      rw [z1, Bool.false_and, if_neg Bool.false_ne_true] at k7
      exact k7
    · have z1 : titleOk t = true := by simpa using z1
      rw [z1, Bool.true_and] at kk
      (repeat array_get_dec)
      refine ⟨e, rfl, by omega, t7.1, ?_⟩
      (repeat array_get_dec)
      refine w_ite (fun z2 => ?_) (fun z2 => ?_)
      · rw [Bool.not_eq_true'] at z2
        (repeat array_get_dec)
        have k7 := kk H7 (Same.refl _)
        rw [z2, Bool.false_and, if_neg Bool.false_ne_true] at k7
        exact k7
      · have z2 : wordS e = true := by simpa using z2
        rw [z2, Bool.true_and] at kk
        (repeat array_get_dec)
        obtain ⟨dx', fs, r1, r2⟩ := id R.ob
        refine ⟨p, a.Kind, dx', fs, _, rfl, r1, T.clK, T.n_turns, r2.turns, ?_⟩
        (repeat array_get_dec)
        refine ⟨n, ms, rfl, m7, sh.1, sh.2, t7.1, t7.2, fun H8 s8 => ?_⟩
        have k8 := kk H8 s8
        (repeat array_get_dec)
        refine w_ite (fun z3 => ?_) (fun z3 => ?_)
        · rw [Bool.not_eq_true'] at z3
          (repeat array_get_dec)
          rw [z3, if_neg Bool.false_ne_true] at k8
          exact k8
        · have z3 : pairsOk ms = true := by simpa using z3
          rw [z3, if_pos rfl] at k8
          (repeat array_get_dec)
          exact k8
end
end K32

namespace K32
open PySem PySem.Spec PyProof.Rows L2
theorem inV_iff {x : Str} {l : List Str} : inV (.str x) (l.map V.str) = true ↔ x ∈ l := by
  unfold inV
  rw [List.any_map, List.any_eq_true]
  constructor
  · rintro ⟨y, hy, e⟩
    have e : (y == x) = true := e
    rw [← beq_iff_eq.mp e]; exact hy
  · intro h
    exact ⟨x, h, beq_self_eq_true x⟩
theorem inV_strs (x : Str) (l : List Str) : inV (.str x) (l.map V.str) = decide (x ∈ l) := by
  rw [Bool.eq_iff_iff, inV_iff, decide_eq_true_eq]
section
variable {P : Program} {w : World} {K : PySem.W.Frag} {mg : Str → Option Value} {base : Heap} {a : Ad}
def TitlesAt (a : Ad) (H : Hp) (zs : List Addr) (tt : List Str) : Prop := zs.length = tt.length ∧ ∀ (i : Nat) o t, zs[i]? = some o → tt[i]? = some t → ∃ e n, KindAt a H o t e n
theorem TitlesAt.same {H H' : Hp} {zs : List Addr} {tt : List Str} (h : TitlesAt a H zs tt) (s : Same H H') : TitlesAt a H' zs tt := ⟨h.1, fun i o t x y => by
  obtain ⟨e, n, k⟩ := h.2 i o t x y
  exact ⟨e, n, k.same s⟩⟩
abbrev DTit (K : PySem.W.Frag) (mg : Str → Option Value) := Df K mg "check_titles" "check_titles" (top 29) ["kinds"]
def spTit (a : Ad) : Sp := fun vs H Q _ => ∃ (l : Addr) (ts : List Addr) (ks : List Str), vs = [.ref l] ∧ H l = some (.lst (ts.map .ref)) ∧ TitlesAt a H ts ks ∧ ks.Nodup ∧ ks.length ≤ 1000 ∧ Pure .non H Q
theorem scTit : FnScope ["kinds", "titles", "kind"] ["kinds"] (defScope (top 29)) := ⟨rfl, rfl, rfl, by decide +kernel, rfl, by decide +kernel, by decide +kernel⟩
theorem ok_tit (D : DTit K mg) (T : Txt K mg a) : FnOk P w K mg base CX0 1 D.f D.fd ["kinds"] (spTit a) := by
  refine Df.ok (k := 0) D.ex scTit (fun vs H Q E h => ?_) (fun A outer s H vs Q E hr h => ?_)
  · obtain ⟨l, ts, ks, rfl, _⟩ := h; rfl
  · obtain ⟨l, ts, ks, rfl, h1, ⟨h2, h3⟩, hnd, hlen, k⟩ := h
    have nd := scTit.nd
    have line : 1000 < sizeLine := by decide
    refine ⟨_, (pss_cons (ps_set (i := 1) nd rfl (Or.inl rfl) (pe_lst pa_nil))
 (pss_one (ps_for PassesOwn.never rfl (pi_list (pv 0)) (pg_name (i := 2) (show List.Nodup (["kinds", "titles", "kind"] : List Str) from by decide +kernel) rfl (Or.inl rfl))
 (pss_cons (ps_if (pt_cmpR op_in_seq (pe_fld (pv 2) (by rfl)) (pv 1) (by with_unfolding_all rfl))
 (pss_one ps_never)
 pss_nil)
 (pss_one (ps_expr (pe_bm PySem.F.plainAttrs_list PySem.F.slot_list_append PySem.F.type_list_append mt_append (pv 1) (pa_c (pe_fld (pv 2) (by rfl)) pa_nil)))))))), ?_⟩
    (repeat array_get_dec)
    refine ⟨by show 0 ≤ sizeLine; decide, fun t ht => ?_⟩
    (repeat array_get_dec)
    have nlt : l ≠ t := ne_of_none h1 ht
    refine ⟨l, rfl, ⟨_, SqL.of (by rw [upd_ne nlt]; exact h1)⟩, forL (K := K) (a := l) (xs := ts.map V.ref) (fun i σ H2 => ∃ v2, σ = [some (V.ref l), some (V.ref t), v2] ∧ (∀ c o, H c = some o → H2 c = some o) ∧ H2 t = some (.lst ((ks.take i).map .str)))
      ⟨none, rfl, fun c o e => by rw [upd_ne (ne_of_none e ht)]; exact e, upd_same⟩ (fun i σ H2 _ ⟨_, _, e, _⟩ => SqL.of (e _ _ h1)) ?_ ?_⟩
    · rintro i v σ H2 hv ⟨v2, rfl, kp, g2⟩
      rw [List.getElem?_map] at hv
      obtain ⟨p, hp, rfl⟩ := Option.map_eq_some_iff.mp hv
      have hi : i < ts.length := (List.getElem?_eq_some_iff.mp hp).1
      have hi' : i < ks.length := by omega
      have hki : ks[i]? = some ks[i] := List.getElem?_eq_getElem hi'
      obtain ⟨_, n, kf⟩ := h3 i p ks[i] hp hki
      obtain ⟨dx, fs, r1, r2⟩ := (kf.same kp).ob
      (repeat array_get_dec)
      refine ⟨p, a.Kind, dx, fs, _, rfl, r1, T.clK, T.n_title, r2.title, ?_⟩
      (repeat array_get_dec)
      have nin : ks[i] ∉ ks.take i := fun z => by
        obtain ⟨j, hj, e2⟩ := List.mem_iff_getElem.mp z
        have hj1 : j < i := by rw [List.length_take] at hj; omega
        rw [List.getElem_take] at e2
        have := (List.getElem_inj (i := j) (j := i) (h₀ := by omega) (h₁ := by omega) hnd).mp e2
        omega
      refine ⟨t, _, rfl, .inl (SqL.of g2), rfl, flat_strs _, ?_⟩
      rw [if_neg Bool.false_ne_true, inV_strs, decide_eq_false nin]
      (repeat array_get_dec)
      refine ⟨.inl ⟨rfl, _, SqL.of g2⟩, ?_⟩
      (repeat array_get_dec)
      refine ⟨p, a.Kind, dx, fs, _, rfl, r1, T.clK, T.n_title, r2.title, ?_⟩
      (repeat array_get_dec)
      refine ⟨t, _, _, rfl, rfl, g2, by rw [List.length_map, List.length_take]; omega, ?_⟩
      refine ⟨_, rfl, fun c o e => by rw [upd_ne (ne_of_none e ht)]; exact kp c o e, ?_⟩
      rw [upd_same, List.take_succ, hki, List.map_append]
      rfl
    · rintro σ H2 ⟨v2, rfl, kp, g2⟩
      exact k H2 kp
structure FldT (fs : List (Str × V)) (b : Int) (r q k : Addr) : Prop where
  bound : fs.lookup ("bound" : Str) = some (.int b)
  rules : fs.lookup ("rules" : Str) = some (.ref r)
  melts : fs.lookup ("melts" : Str) = some (.ref q)
  kinds : fs.lookup ("kinds" : Str) = some (.ref k)
structure TongAt (a : Ad) (H : Hp) (p : Addr) (b : Int) (rs ms ks : List Addr) : Prop where
  ob : ∃ dx fs r q k, H p = some (.ins a.Tongue dx fs) ∧ FldT fs b r q k ∧ H r = some (.lst (rs.map .ref)) ∧ H q = some (.lst (ms.map .ref)) ∧ H k = some (.lst (ks.map .ref))
theorem TongAt.same {H H' : Hp} {p : Addr} {b : Int} {rs ms ks : List Addr} (R : TongAt a H p b rs ms ks) (s : Same H H') : TongAt a H' p b rs ms ks := by
  obtain ⟨dx, fs, r, q, k, h1, h2, h3, h4, h5⟩ := R.ob
  exact ⟨dx, fs, r, q, k, s _ _ h1, h2, s _ _ h3, s _ _ h4, s _ _ h5⟩
abbrev sTI : Stmt := inClass (top 26) 0
abbrev pTI : List Str := ["self", "bound", "rules", "melts", "kinds"]
abbrev DTong (K : PySem.W.Frag) := DfD K "__init__" "Tongue.__init__" sTI pTI
def spTong (a : Ad) : Sp := fun vs H Q _ => ∃ (p dx : Addr) (b : Int) (r q z : Addr) (rs ms ks : List Addr) (tt : List Str), vs = [.ref p, .int b, .ref r, .ref q, .ref z] ∧ H p = some (.ins a.Tongue dx []) ∧ 0 ≤ b ∧ H r = some (.lst (rs.map .ref)) ∧ H q = some (.lst (ms.map .ref)) ∧ (∀ t ∈ ms, ∃ m, H t = some (tupM m) ∧ meltOk m = true) ∧ H z = some (.lst (ks.map .ref)) ∧ TitlesAt a H ks tt ∧ tt.Nodup ∧ tt.length ≤ 1000 ∧ H a.tSL = some (Tb a.tSL) ∧ H a.tTI = some (Tb a.tTI) ∧
  ∀ H', (∀ c o, H c = some o → c ≠ p → H' c = some o) → TongAt a H' p b rs ms ks → Q .non H'
theorem scTong : FnScope pTI pTI (defScope sTI) := ⟨rfl, rfl, rfl, by decide +kernel, rfl, by decide +kernel, by decide +kernel⟩
theorem ok_tong (D : DTong K) (cP : CodeK K D.cdv a.tTI) (hB : BltK base) (D_own_list : DOwn K mg) (G_own_list : FnOk P w K mg base CX0 1 D_own_list.f D_own_list.fd ["given"] (spOwn K)) (D_is_melt : DMelt K mg) (G_is_melt : FnOk P w K mg base CX0 3 D_is_melt.f D_is_melt.fd ["melt"] (spMelt a))
    (D_check_titles : DTit K mg) (G_check_titles : FnOk P w K mg base CX0 1 D_check_titles.f D_check_titles.fd ["kinds"] (spTit a)) (T : Txt K mg a) : FnOk P w K mg base CX0 6 D.f D.fd pTI (spTong a) := by
  refine DfD.ok (k := 5) D scTong (fun vs H Q E h => ?_) (fun A outer s H vs Q E hr h => ?_)
  · obtain ⟨p, dx, b, r, q, z, rs, ms, ks, tt, rfl, _⟩ := h; rfl
  · obtain ⟨p, dx, b, r, q, z, rs, ms, ks, tt, rfl, hp, b0, hr0, hq1, hq3, hz1, ht, hnd, hlen, tSL, tTI, k⟩ := h
    have no : ∀ {c : Addr} {o : HO}, H c = some o → (o ≠ .ins a.Tongue dx []) → c ≠ p := fun e n => ne_of e hp n
    refine ⟨_, (pss_cons (ps_fld (pv 0) (pv 1) (by rfl))
 (pss_cons (ps_fld (pv 0) (pe_callTy call_list_of (by rfl) T.b_list boot_list (pa_c (pv 2) pa_nil)) (by rfl))
 (pss_cons (ps_fld (pv 0) (pe_call G_own_list (hr.mono (by decide)) (by rfl) D_own_list.mg D_own_list.kp D_own_list.bd .nil pass0 (pa_c (pv 3) pa_nil)) (by rfl))
 (pss_cons (ps_fld (pv 0) (pe_call G_own_list (hr.mono (by decide)) (by rfl) D_own_list.mg D_own_list.kp D_own_list.bd .nil pass0 (pa_c (pv 4) pa_nil)) (by rfl))
 (pss_cons (ps_if (pt_cmpR op_lt (pv 1) pe_int (nomark _))
 (pss_one ps_never)
 pss_nil)
 (pss_cons (ps_if (pt_not (pt_val (pe_allG (N := ["melt"]) (fs := []) (⟨rfl, rfl, rfl, by rfl, by rfl, trivial⟩) hB cP (hr.mono (by decide) : Room (4 + 1) _) (by rfl) T.b_all (pi_list (pe_fld (pv 0) (by rfl))) (fun _ _ _ _ _ _ _ => by exact (pg_name (i := 0) (show List.Nodup (["melt"] : List Str) from by decide +kernel) rfl (Or.inl rfl))) (fun _ _ _ _ _ _ _ hr => by exact (pe_call G_is_melt (hr.mono (by decide)) (by rfl) D_is_melt.mg D_is_melt.kp D_is_melt.bd .nil pass0 (pa_c (pv 0) pa_nil))))))
 (pss_one ps_never)
 pss_nil)
 (pss_one (ps_expr (pe_call G_check_titles (hr.mono (by decide)) (by rfl) D_check_titles.mg D_check_titles.kp D_check_titles.bd .nil pass0 (pa_c (pe_fld (pv 0) (by rfl)) pa_nil)))))))))), ?_⟩
    (repeat array_get_dec)
    refine ⟨p, a.Tongue, dx, _, rfl, hp, T.cl, T.n_bound, (by show 0 < 1000; decide), ?_⟩
    (repeat array_get_dec)
    generalize hH1 : upd H p _ = H1
    have k1 : ∀ c, c ≠ p → H1 c = H c := fun c hc => by rw [← hH1, upd_ne hc]
    have p1 : H1 p = some (.ins a.Tongue dx (putF "bound" (.int b) [])) := by rw [← hH1]; exact upd_same
    have r1 : H1 r = some (.lst (rs.map .ref)) := (k1 r (no hr0 (by intro z; cases z))).trans hr0
    refine ⟨r, _, rfl, .inl (SqL.of r1), fun n2 h2 => ?_⟩
    (repeat array_get_dec)
    have np2 : p ≠ n2 := ne_of_none p1 h2
    refine ⟨p, a.Tongue, dx, _, rfl, (by rw [upd_ne np2]; exact p1), T.cl, T.n_rules, (by show 1 < 1000; decide), ?_⟩
    (repeat array_get_dec)
    generalize hH2 : upd (upd H1 n2 _) p _ = H2
    have k2 : ∀ c o, H c = some o → c ≠ p → H2 c = some o := fun c o hc n => by
      have h1c : H1 c = some o := (k1 c n).trans hc
      rw [← hH2, upd_ne n, upd_ne (ne_of_none h1c h2)]; exact h1c
    have p2 : H2 p = some (.ins a.Tongue dx (putF "rules" (.ref n2) (putF "bound" (.int b) []))) := by rw [← hH2]; exact upd_same
    have g2 : H2 n2 = some (.lst (rs.map .ref)) := by rw [← hH2, upd_ne (Ne.symm np2)]; exact upd_same
    clear hH2 hH1 h2
    refine ⟨.ref q, _, rfl, .inr ⟨q, rfl, SqL.of (k2 _ _ hq1 (no hq1 (by intro z; cases z)))⟩, fun n3 h3 => ?_⟩
    (repeat array_get_dec)
    have np3 : p ≠ n3 := ne_of_none p2 h3
    refine ⟨p, a.Tongue, dx, _, rfl, (by rw [upd_ne np3]; exact p2), T.cl, T.n_melts, (by show 2 < 1000; decide), ?_⟩
    (repeat array_get_dec)
    generalize hH3 : upd (upd H2 n3 _) p _ = H3
    have k23 : ∀ c o, H2 c = some o → c ≠ p → H3 c = some o := fun c o hc n => by rw [← hH3, upd_ne n, upd_ne (ne_of_none hc h3)]; exact hc
    have p3 : H3 p = some (.ins a.Tongue dx (putF "melts" (.ref n3) (putF "rules" (.ref n2) (putF "bound" (.int b) [])))) := by rw [← hH3]; exact upd_same
    have g3 : H3 n3 = some (.lst (ms.map .ref)) := by rw [← hH3, upd_ne (Ne.symm np3)]; exact upd_same
    clear hH3 h3
    have nzp : z ≠ p := no hz1 (by intro z; cases z)
    refine ⟨.ref z, _, rfl, .inr ⟨z, rfl, SqL.of (k23 _ _ (k2 _ _ hz1 nzp) nzp)⟩, fun n4 h4 => ?_⟩
    (repeat array_get_dec)
    have np4 : p ≠ n4 := ne_of_none p3 h4
    refine ⟨p, a.Tongue, dx, _, rfl, (by rw [upd_ne np4]; exact p3), T.cl, T.n_kinds, (by show 3 < 1000; decide), ?_⟩
    generalize hH4 : upd (upd H3 n4 _) p _ = H4
    have k34 : ∀ c o, H3 c = some o → c ≠ p → H4 c = some o := fun c o hc n => by rw [← hH4, upd_ne n, upd_ne (ne_of_none hc h4)]; exact hc
    have p4 : H4 p = some (.ins a.Tongue dx (putF "kinds" (.ref n4) (putF "melts" (.ref n3) (putF "rules" (.ref n2) (putF "bound" (.int b) []))))) := by rw [← hH4]; exact upd_same
    have g4 : H4 n4 = some (.lst (ks.map .ref)) := by rw [← hH4, upd_ne (Ne.symm np4)]; exact upd_same
    clear hH4 h4
    have k04 : ∀ c o, H c = some o → c ≠ p → H4 c = some o := fun c o hc n => k34 _ _ (k23 _ _ (k2 _ _ hc n) n) n
    have g34 := k34 _ _ g3 (Ne.symm np3)
    have fl : FldT (putF "kinds" (.ref n4) (putF "melts" (.ref n3) (putF "rules" (.ref n2) (putF "bound" (.int b) [])))) b n2 n3 n4 := ⟨rfl, rfl, rfl, rfl⟩
    generalize putF "kinds" (.ref n4) (putF "melts" (.ref n3) (putF "rules" (.ref n2) (putF "bound" (.int b) []))) = fs at p4 fl
    have KA : TitlesAt a H4 ks tt := ⟨ht.1, fun i o t x y => by
      obtain ⟨e, n, kx⟩ := ht.2 i o t x y
      obtain ⟨dx', fs', r1', r2'⟩ := kx.ob
      exact ⟨e, n, ⟨dx', fs', k04 _ _ r1' (fun e => by rw [e, hp] at r1'; injection r1' with r1'; injection r1' with _ _ r3; rw [← r3] at r2'; cases r2'.title), r2'⟩⟩⟩
    have TA : TongAt a H4 p b rs ms ks := ⟨dx, fs, n2, n3, n4, p4, fl, k34 _ _ (k23 _ _ g2 (Ne.symm np2)) (Ne.symm np2), g34, g4⟩
    have t4 : H4 a.tTI = some (Tb a.tTI) := k04 _ _ tTI (no tTI (by intro z; cases z))
    have s4 : H4 a.tSL = some (Tb a.tSL) := k04 _ _ tSL (no tSL (by intro z; cases z))
    (repeat array_get_dec)
    rw [decide_eq_false (show ¬ b < 0 by omega)]
    (repeat array_get_dec)
    refine ⟨p, _, dx, fs, _, rfl, p4, T.cl, T.n_melts, fl.melts, ?_⟩
    refine ⟨n3, rfl, ⟨_, SqL.of g34⟩, all_lB (fun _ => true) (SqL.of g34) t4 rfl (fun v hv => ?_) ?_⟩
    · obtain ⟨t, ht, rfl⟩ := List.mem_map.mp hv
      obtain ⟨m, hm1, hm2⟩ := hq3 t ht
      (repeat array_get_dec)
      exact ⟨t, m, rfl, k04 _ _ hm1 (no hm1 (by intro z; cases z)), hm2, s4, rfl, rfl⟩
    rw [show ((ms.map V.ref).all fun _ => true) = true by simp]
    (repeat array_get_dec)
    refine ⟨p, _, dx, fs, _, rfl, p4, T.cl, T.n_kinds, fl.kinds, ?_⟩
    (repeat array_get_dec)
    exact ⟨n4, ks, tt, rfl, g4, KA, hnd, hlen, fun H5 s5 => k H5 (fun c o hc n => s5 _ _ (k04 _ _ hc n)) (TA.same s5)⟩
end
end K32

namespace K32
open PySem PySem.Spec PyProof.Rows L2
section
variable {P : Program} {w : World} {K : PySem.W.Frag} {mg : Str → Option Value} {base : Heap} {a : Ad}
theorem mod_ge (i : Int) {j : Int} (h : 0 < j) : 0 ≤ i % j := Int.emod_nonneg _ (by omega)
theorem mod_lt (i : Int) {j : Int} (h : 0 < j) : i % j < j := Int.emod_lt_of_pos _ h
/-! ### _law_begin -/
abbrev DBegin (K : PySem.W.Frag) (mg : Str → Option Value) := Df K mg "_law_begin" "_law_begin" (top 37) ["_law_script"]
def spBegin (K : PySem.W.Frag) : Sp := fun vs H Q _ => ∃ (p : Addr) (ns : List Int), vs = [.ref p] ∧ SqL K H p (ns.map .int) ∧ ∀ q, H q = none → ∀ n : Int, 0 ≤ n → n < 2 ^ 31 → Q (.ref q) (upd H q (.lst [.int 0, .int n]))
theorem scBegin : FnScope ["_law_script", "_law_number", "_law_cell"] ["_law_script"] (defScope (top 37)) := ⟨rfl, rfl, rfl, by decide +kernel, rfl, by decide +kernel, by decide +kernel⟩
theorem ok_begin (D : DBegin K mg) : FnOk P w K mg base CX0 1 D.f D.fd ["_law_script"] (spBegin K) := by
  refine Df.ok (k := 0) D.ex scBegin (fun vs H Q E h => ?_) (fun A outer s H vs Q E hr h => ?_)
  · obtain ⟨p, ns, rfl, _⟩ := h; rfl
  · obtain ⟨p, ns, rfl, hp, k⟩ := h
    have nd := scBegin.nd
    refine ⟨_, (pss_cons (ps_set (i := 1) nd rfl (Or.inl rfl) pe_int)
 (pss_cons (ps_for PassesOwn.never rfl (pi_list (pv 0)) (pg_name (i := 2) (show List.Nodup (["_law_script", "_law_number", "_law_cell"] : List Str) from by decide +kernel) rfl (Or.inl rfl))
 (pss_one (ps_set (i := 1) nd rfl (Or.inl rfl) (pe_op op_mod (pe_op op_add (pe_op op_add (pe_op op_mul (pv 1) pe_int) (pe_op op_mod (pv 2) pe_int)) pe_int) pe_int))))
 (pss_one (ps_ret (pe_lst (pa_c pe_int (pa_c (pv 1) pa_nil))))))), ?_⟩
    (repeat array_get_dec)
    refine ⟨p, rfl, ⟨_, hp⟩, forL (K := K) (a := p) (xs := ns.map V.int) (fun i σ H2 => ∃ (n : Int) (v2 : Option V), σ = [some (V.ref p), some (V.int n), v2] ∧ H = H2 ∧ 0 ≤ n ∧ n < 2 ^ 31) ⟨7, none, rfl, rfl, by decide, by decide⟩ (fun i σ H2 _ ⟨_, _, _, e, _⟩ => by rw [← e]; exact hp) ?_ ?_⟩
    · rintro i v σ _ hv ⟨n, v2, rfl, rfl, n0, n1⟩
      rw [List.getElem?_map] at hv
      obtain ⟨c, _, rfl⟩ := Option.map_eq_some_iff.mp hv
      (repeat array_get_dec)
      refine w_I (.inr ⟨by decide, by decide⟩) ?_
      (repeat array_get_dec)
      have m0 := mod_ge (n * 69621 + c % 2147483647 + 11) (show (0 : Int) < 2147483647 by decide)
      have m1 := mod_lt (n * 69621 + c % 2147483647 + 11) (show (0 : Int) < 2147483647 by decide)
      exact ⟨_, _, rfl, rfl, m0, by omega⟩
    · rintro σ _ ⟨n, v2, rfl, rfl, n0, n1⟩
      (repeat array_get_dec)
      exact ⟨by show 2 ≤ sizeLine; decide, fun q hq => k q hq n n0 n1⟩
/-! ### _law_next -/
abbrev DNext (K : PySem.W.Frag) (mg : Str → Option Value) := Df K mg "_law_next" "_law_next" (top 38) ["_law_script", "_law_at"]
def spNext (K : PySem.W.Frag) : Sp := fun vs H Q _ => ∃ (p q : Addr) (ns : List Int) (c : Nat), vs = [.ref p, .ref q] ∧ Scr K q H p ns ∧ ns.length ≤ 63 ∧ AtOk H q c ∧ c ≤ 1000000 ∧ ∀ H' (r : Int), 0 ≤ r → r < 2 ^ 30 → KB q H H' → AtOk H' q (c + 1) → Q (.int r) H'
theorem scNext : FnScope ["_law_script", "_law_at", "_law_cell"] ["_law_script", "_law_at"] (defScope (top 38)) := ⟨rfl, rfl, rfl, by decide +kernel, rfl, by decide +kernel, by decide +kernel⟩
theorem ok_next (D : DNext K mg) (T : Txt K mg a) : FnOk P w K mg base CX0 1 D.f D.fd ["_law_script", "_law_at"] (spNext K) := by
  refine Df.ok (k := 0) D.ex scNext (fun vs H Q E h => ?_) (fun A outer s H vs Q E hr h => ?_)
  · obtain ⟨p, q, ns, c, rfl, _⟩ := h; rfl
  · obtain ⟨p, q, ns, c, rfl, sc, hlen, ao, hc, k⟩ := h
    obtain ⟨i, n, hq, i0, i1, n0, n1⟩ := ao.ob
    have nd := scNext.nd
    refine ⟨_, (pss_cons (ps_asg (pe_op op_add (pe_ix ix_list (pv 1) pe_int (fun _ _ => rfl)) pe_int) (pg_sub (pv 1) pe_int set_list))
 (pss_cons (ps_set (i := 2) nd rfl (Or.inl rfl) pe_int)
 (pss_cons (ps_if (pt_cmpR op_gt (pe_callB call_len_seq (by rfl) T.b_len boot_len (pa_c (pv 0) pa_nil)) pe_int (nomark _))
 (pss_one (ps_set (i := 2) nd rfl (Or.inl rfl) (pe_ix ix_list (pv 0) (pe_op op_mod (pe_ix ix_list (pv 1) pe_int (fun _ _ => rfl)) (pe_callB call_len_seq (by rfl) T.b_len boot_len (pa_c (pv 0) pa_nil))) (fun _ _ => rfl))))
 pss_nil)
 (pss_cons (ps_asg (pe_op op_mod (pe_op op_mul (pe_op op_add (pe_op op_add (pe_ix ix_list (pv 1) pe_int (fun _ _ => rfl)) (pe_op op_mod (pv 2) pe_int)) (pe_op op_mul (pe_ix ix_list (pv 1) pe_int (fun _ _ => rfl)) (pe_ix ix_list (pv 1) pe_int (fun _ _ => rfl)))) pe_int) pe_int) (pg_sub (pv 1) pe_int set_list))
 (pss_one (ps_ret (pe_op op_fdiv (pe_ix ix_list (pv 1) pe_int (fun _ _ => rfl)) pe_int))))))), ?_⟩
    (repeat array_get_dec)
    refine ⟨q, _, 0, _, rfl, rfl, SqL.of hq, atI_nat (j := 0) rfl, ?_⟩
    (repeat array_get_dec)
    refine ⟨q, _, 0, 0, rfl, rfl, hq, rfl, ?_⟩
    have sc1 := sc.kb (KB.at (o := .lst [.int (i + 1), .int n]))
    have hq1 : (upd H q (.lst [.int (i + 1), .int n])) q = some (.lst [.int (i + 1), .int n]) := upd_same
    have kb1 : KB q H (upd H q (.lst [.int (i + 1), .int n])) := KB.at
    show tSeq _ _ _ _ (upd H q (.lst [.int (i + 1), .int n]))
    generalize upd H q (.lst [.int (i + 1), .int n]) = H1 at sc1 hq1 kb1 ⊢
    (repeat array_mem_dec)
    refine w_cut (fun σ2 H2 => ∃ ce : Int, σ2 = [some (V.ref p), some (V.ref q), some (V.int ce)] ∧ H1 = H2) (fun nx' hj => ?_) ?_
    · (repeat array_get_dec)
      refine ⟨p, _, rfl, .inl sc1.1, ?_⟩
      (repeat array_get_dec)
      refine w_ite (fun z => ?_) (fun z => ?_)
      · have z : (0 : Int) < ((ns.map V.int).length : Nat) := of_decide_eq_true z
        (repeat array_get_dec)
        refine ⟨q, _, 0, _, rfl, rfl, SqL.of hq1, atI_nat (j := 0) rfl, ?_⟩
        (repeat array_get_dec)
        refine ⟨p, _, rfl, .inl sc1.1, ?_⟩
        refine w_mod z ?_
        obtain ⟨v, hv, ev⟩ := atI_in (xs := ns.map V.int) (mod_ge (i + 1) z) (mod_lt (i + 1) z)
        obtain ⟨ce, _, rfl⟩ := List.mem_map.mp hv
        refine ⟨p, _, _, _, rfl, rfl, sc1.1, ev, ?_⟩
        (repeat array_get_dec)
        exact hj _ _ ⟨ce, rfl, rfl⟩
      · (repeat array_get_dec)
        exact hj _ _ ⟨0, rfl, rfl⟩
    · rintro σ2 _ ⟨ce, rfl, rfl⟩
      (repeat array_get_dec)
      refine ⟨q, _, 1, _, rfl, rfl, SqL.of hq1, atI_nat (j := 1) rfl, ?_⟩
      (repeat array_get_dec)
      refine ⟨q, _, 0, _, rfl, rfl, SqL.of hq1, atI_nat (j := 0) rfl, ?_⟩
      (repeat array_get_dec)
      refine ⟨q, _, 0, _, rfl, rfl, SqL.of hq1, atI_nat (j := 0) rfl, ?_⟩
      refine w_I (.inl ⟨by omega, by omega⟩) ?_
      (repeat array_get_dec)
      refine w_I (.inr ⟨by decide, by decide⟩) ?_
      (repeat array_get_dec)
      have m0 := mod_ge ((n + ce % 2147483647 + (i + 1) * (i + 1)) * 48271) (show (0 : Int) < 2147483629 by decide)
      have m1 := mod_lt ((n + ce % 2147483647 + (i + 1) * (i + 1)) * 48271) (show (0 : Int) < 2147483629 by decide)
      generalize (n + ce % 2147483647 + (i + 1) * (i + 1)) * 48271 % 2147483629 = m at m0 m1 ⊢
      refine ⟨q, _, 1, 1, rfl, rfl, hq1, rfl, ?_⟩
      have e2 : [V.int (i + 1), V.int n].set 1 (V.int m) = [V.int (i + 1), V.int m] := rfl
      rw [e2]
      (repeat array_get_dec)
      refine ⟨q, _, 1, _, rfl, rfl, SqL.of upd_same, atI_nat (j := 1) rfl, ?_⟩
      (repeat array_get_dec)
      have d0 : 0 ≤ m / 3 := Int.ediv_nonneg m0 (by decide)
      have d1 : m / 3 < 2 ^ 30 := by omega
      exact k _ _ d0 d1 (kb1.trans KB.at) ⟨i + 1, m, upd_same, by omega, by omega, m0, by omega⟩
end
end K32

namespace L2
open PySem PySem.Spec PyProof.Rows
theorem sl_mid (x : Str) {a b : Nat} (hab : a ≤ b) (hb : b ≤ x.length) : (Txt.slice x (some (a : Int)) (some (b : Int))).cps.toList = (x.cps.toList.drop a).take (b - a) := by
  unfold Txt.slice
  have e := StrLaws.sliced_plain x hab hb
  have el : (Builtin.Str.strSliceIndices (some (a : Int)) (some (b : Int)) 1 x.length).length = b - a := by
    rw [StrLaws.strSliceIndices_plain hab hb]; simp
  split
  · rename_i z
    rw [el] at z
    have z : b - a = x.length := by simpa using z
    rcases Nat.eq_zero_or_pos a with h | h
    · subst h
      rw [List.drop_zero, z, List.take_of_length_le (by rw [← sl_len]; exact Nat.le_refl _)]
    · have hz : x.length = 0 := by omega
      have : x.cps.toList = [] := List.length_eq_zero_iff.mp (by rw [← sl_len]; exact hz)
      rw [this]; simp
  · rw [e]
/-- a comprehension over a range, by what is known of the items made and of the heap -/
theorem lcR {nN : Nat} {fs : List (Nat × Nat)} {te : TE} {σ : St} {H : Hp} {QD : Addr → Hp → Prop} {lo : Int} {n : Nat} (W : Addr → Nat → List V → Hp → Prop) (hn : n ≤ sizeLine) (h1 : (tau nN fs σ)[0]? = some none) (h0 : ∀ D, H D = none → W D 0 [] (upd H D (.lst [])))
    (ht : ∀ D (i : Nat) ys H2, i < n → H D = none → W D i ys H2 → H2 D = some (.lst ys) → te ((tau nN fs σ).set 0 (some (.int (lo + i)))) H2 fun v H6 => H6 D = some (.lst ys) ∧ W D (i + 1) (ys ++ [v]) (upd H6 D (.lst (ys ++ [v]))))
    (hQ : ∀ D H2 ys, H D = none → W D n ys H2 → H2 D = some (.lst ys) → QD D H2) :
    ∀ D, H D = none → ∃ (n' : Nat) (W : Nat → List V → Hp → Prop), n' ≤ sizeLine ∧ W 0 [] (upd H D (.lst [])) ∧
      ∀ i ys H2, i ≤ n' → W i ys H2 → H2 D = some (.lst ys) → ((Itr lo n).stop i H2 ∧ QD D H2) ∨ (i < n' ∧ (Itr lo n).go i H2 ∧ ∀ x H3, (Itr lo n).yld i H2 x H3 → gName 0 x (tau nN fs σ) H3 fun τ4 H4 =>
        (∀ (j : Nat) v, (tau nN fs σ)[j]? = some (some v) → τ4[j]? = some (some v)) ∧ tYes τ4 H4 fun b H5 =>
          if b = true then te τ4 H5 fun v H6 => H6 D = some (.lst ys) ∧ W (i + 1) (ys ++ [v]) (upd H6 D (.lst (ys ++ [v]))) else H5 D = some (.lst ys) ∧ W (i + 1) ys H5) := by
  intro D hD
  refine ⟨n, W D, hn, h0 D hD, fun i ys H2 hi w2 e2 => ?_⟩
  rcases Nat.lt_or_ge i n with hlt | hge
  · refine .inr ⟨hlt, hlt, fun x H3 y => ?_⟩
    obtain ⟨e, y⟩ := y
    subst e y
    refine w_gName ⟨mono0 h1, ?_⟩
    refine w_yes ?_
    refine iteT ?_
    exact ht D i ys _ hlt hD w2 e2
  · have : i = n := by omega
    subst this
    exact .inl ⟨Nat.le_refl _, hQ D H2 ys hD w2 e2⟩
end L2
namespace K32
open PySem PySem.Spec PyProof.Rows L2
section
variable {P : Program} {w : World} {K : PySem.W.Frag} {mg : Str → Option Value} {base : Heap} {a : Ad}
theorem cut_to (x : Str) (i : Int) : (Txt.slice x none (some i)).length ≤ x.length := by rw [sl_len, sl_to, List.length_take, ← sl_len]; omega
theorem cut_from (x : Str) (i : Int) : (Txt.slice x (some i) none).length ≤ x.length := by rw [sl_len, sl_from, List.length_drop, ← sl_len]; omega
theorem low_letters : (("abcdefghijklmnopqrstuvwxyz" : Str).cps.toList.all lowC) = true := by decide +kernel
theorem word_of {x : Str} (h2 : 2 ≤ x.cps.toList.length) (h10 : x.cps.toList.length ≤ 10) (hl : ∀ c ∈ x.cps.toList, lowC c = true) : wordS x = true := by
  rw [← sl_len] at h2 h10
  unfold wordS lowS
  rw [decide_eq_true h2, decide_eq_true h10, List.all_eq_true.mpr hl]; rfl
theorem letter (i : Int) : ∃ c, lowC c = true ∧ L2.atI ("abcdefghijklmnopqrstuvwxyz" : Str).cps.toList (i % 26) = some c := by
  obtain ⟨c, hc, e⟩ := atI_in (xs := ("abcdefghijklmnopqrstuvwxyz" : Str).cps.toList) (mod_ge i (show (0 : Int) < 26 by decide)) (mod_lt i (show (0 : Int) < 26 by decide))
  exact ⟨c, List.all_eq_true.mp low_letters c hc, e⟩
theorem word_len {x : Str} (h : wordS x = true) : 2 ≤ x.length ∧ x.length ≤ 10 := by
  unfold wordS at h
  simp only [Bool.and_eq_true, decide_eq_true_eq] at h
  exact h.1
theorem word_low {x : Str} (h : wordS x = true) : ∀ c ∈ x.cps.toList, lowC c = true := by
  unfold wordS lowS at h
  simp only [Bool.and_eq_true] at h
  exact List.all_eq_true.mp h.2
/-- three letters at most -/
def Few (y : Str) : Prop := ∃ c1 c2 c3 : Nat, ∀ c ∈ y.cps.toList, c = c1 ∨ c = c2 ∨ c = c3
theorem letter_at : ∀ j : Fin 26, ("abcdefghijklmnopqrstuvwxyz" : Str).cps.toList[j.val]? = some (97 + j.val) := by decide +kernel
theorem letter' (i : Int) : ∃ c, c = 97 + (i % 26).toNat ∧ lowC c = true ∧ L2.atI ("abcdefghijklmnopqrstuvwxyz" : Str).cps.toList (i % 26) = some c := by
  have h0 := mod_ge i (show (0 : Int) < 26 by decide)
  have h1 := mod_lt i (show (0 : Int) < 26 by decide)
  have e := letter_at ⟨(i % 26).toNat, by omega⟩
  have e2 : L2.atI ("abcdefghijklmnopqrstuvwxyz" : Str).cps.toList (((i % 26).toNat : Nat) : Int) = some (97 + (i % 26).toNat) := atI_nat (j := (i % 26).toNat) e
  rw [show (((i % 26).toNat : Nat) : Int) = i % 26 by omega] at e2
  refine ⟨_, rfl, ?_, e2⟩
  unfold lowC
  rw [decide_eq_true (by omega), decide_eq_true (by omega)]; rfl
theorem unlike {ys : List Str} {sp : Nat} {sh : Int} (h20 : ys.length ≤ 20) (h : ∀ (j : Nat) y, ys[j]? = some y → y.cps.toList[sp]? = some (97 + ((sh + j) % 26).toNat)) : ys.Nodup := by
  refine List.pairwise_iff_getElem.mpr fun i j hi hj hij e => ?_
  have h1 := h i ys[i] (List.getElem?_eq_getElem hi)
  have h2 := h j ys[j] (List.getElem?_eq_getElem hj)
  rw [← e, h1] at h2
  injection h2 with h2
  omega
/-- a list of words -/
def Words (H : Hp) (q : Addr) (ys : List Str) : Prop := H q = some (.lst (ys.map .str)) ∧ 0 < ys.length ∧ ys.length ≤ 20 ∧ ∀ y ∈ ys, wordS y = true
/-! ### _law_words -/
abbrev DWords (K : PySem.W.Frag) (mg : Str → Option Value) := Df K mg "_law_words" "_law_words" (top 39) ["_law_script", "_law_at", "_law_many"]
def spWords (K : PySem.W.Frag) : Sp := fun vs H Q _ => ∃ (p q : Addr) (ns : List Int) (c : Nat) (m : Nat), vs = [.ref p, .ref q, .int m] ∧ Scr K q H p ns ∧ ns.length ≤ 63 ∧ AtOk H q c ∧ c ≤ 1000000 ∧ 0 < m ∧ m ≤ 20 ∧ ∀ H' l ys, H l = none → KB q H H' → AtOk H' q (c + 1) → Words H' l ys → ys.length = m → ys.Nodup → (∀ y ∈ ys, Few y) → Q (.ref l) H'
abbrev nWords : List Str := ["_law_script", "_law_at", "_law_many", "_law_letters", "_law_n", "_law_size", "_law_spot", "_law_stem", "_law_shift"]
theorem scWords : FnScope nWords ["_law_script", "_law_at", "_law_many"] (defScope (top 39)) := ⟨rfl, rfl, rfl, by decide +kernel, rfl, by decide +kernel, by decide +kernel⟩
theorem KB.free {q l : Addr} {H H' : Hp} {c : Nat} (k : KB q H H') (ao : AtOk H' q c) (h : H' l = none) : H l = none := by
  cases e : H l with
  | none => rfl
  | some o =>
    obtain ⟨i, n, a1, _⟩ := ao.ob
    have := k l o (ne_of_none a1 h).symm e
    rw [h] at this; cases this
theorem ok_words (D : DWords K mg) (D__law_next : DNext K mg) (G__law_next : FnOk P w K mg base CX0 1 D__law_next.f D__law_next.fd ["_law_script", "_law_at"] (spNext K)) (T : Txt K mg a) : FnOk P w K mg base CX0 2 D.f D.fd ["_law_script", "_law_at", "_law_many"] (spWords K) := by
  refine Df.ok (k := 1) D.ex scWords (fun vs H Q E h => ?_) (fun A outer s H vs Q E hr h => ?_)
  · obtain ⟨p, q, ns, c, m, rfl, _⟩ := h; rfl
  · obtain ⟨p, q, ns, c, m, rfl, sc, hlen, ao, hc, m0, m1, k⟩ := h
    have nd := scWords.nd
    refine ⟨_, (pss_cons (ps_set (i := 3) nd rfl (Or.inr rfl) pe_str)
 (pss_cons (ps_set (i := 4) nd rfl (Or.inl rfl) (pe_call G__law_next (hr.mono (by decide)) (by rfl) D__law_next.mg D__law_next.kp D__law_next.bd .nil pass0 (pa_c (pv 0) (pa_c (pv 1) pa_nil))))
 (pss_cons (ps_set (i := 5) nd rfl (Or.inl rfl) (pe_op op_add pe_int (pe_op op_mod (pv 4) pe_int)))
 (pss_cons (ps_set (i := 6) nd rfl (Or.inr rfl) (pe_op op_mod (pe_op op_fdiv (pv 4) pe_int) (pv 5)))
 (pss_cons (ps_set (i := 7) nd rfl (Or.inr rfl) (pe_slice sl_str (pe_op op_mul_strC (pe_op op_add_str (pe_ix ix_str (pv 3) (pe_op op_mod (pe_op op_fdiv (pv 4) pe_int) pe_int) (fun _ _ => rfl)) (pe_ix ix_str (pv 3) (pe_op op_mod (pe_op op_fdiv (pv 4) pe_int) pe_int) (fun _ _ => rfl))) pe_int) po_none (po_some (pv 5))))
 (pss_cons (ps_set (i := 8) nd rfl (Or.inr rfl) (pe_op op_mod (pe_op op_fdiv (pv 4) pe_int) pe_int))
 (pss_one (ps_ret (pe_lc (N := ["_law_k", "_law_stem", "_law_letters", "_law_spot", "_law_shift"]) (fs := [(1, 7), (2, 3), (3, 6), (4, 8)]) (⟨rfl, by rfl, by rfl, by rfl, ⟨⟨_, rfl, rfl, rfl, Or.inl rfl⟩, ⟨⟨_, rfl, rfl, rfl, Or.inl rfl⟩, ⟨⟨_, rfl, rfl, rfl, Or.inl rfl⟩, ⟨⟨_, rfl, rfl, rfl, Or.inl rfl⟩, trivial⟩⟩⟩⟩⟩) rfl (pi_range1 (by rfl) T.b_range (pa_c (pv 2) pa_nil)) (fun _ _ _ _ _ => (pg_name (i := 0) (show List.Nodup (["_law_k", "_law_stem", "_law_letters", "_law_spot", "_law_shift"] : List Str) from by decide +kernel) rfl (Or.inl rfl))) (fun _ _ _ _ _ => by exact pts_nil) (fun _ _ _ _ _ => by exact (pe_op op_add_str (pe_op op_add_str (pe_slice sl_str (pv 1) po_none (po_some (pv 3))) (pe_ix ix_str (pv 2) (pe_op op_mod (pe_op op_add (pv 4) (pv 0)) pe_int) (fun _ _ => rfl))) (pe_slice sl_str (pv 1) (po_some (pe_op op_add (pv 3) pe_int)) po_none)))))))))))), ?_⟩
    (repeat array_get_dec)
    refine ⟨p, q, ns, c, rfl, sc, hlen, ao, hc, fun H1 n n0 n1 kb1 ao1 => ?_⟩
    (repeat array_get_dec)
    have s0 := mod_ge n (show (0 : Int) < 9 by decide)
    have s1 := mod_lt n (show (0 : Int) < 9 by decide)
    generalize hsz : 2 + n % 9 = sz
    have hs2 : 2 ≤ sz := by omega
    have hs10 : sz ≤ 10 := by omega
    refine w_mod (by omega) ?_
    (repeat array_get_dec)
    have p0 := mod_ge (n / 9) (show (0 : Int) < sz by omega)
    have p1 := mod_lt (n / 9) (show (0 : Int) < sz by omega)
    generalize n / 9 % sz = sp at p0 p1 ⊢
    obtain ⟨c1, lc1, e1⟩ := letter (n / 81)
    obtain ⟨c2, lc2, e2⟩ := letter (n / 2106)
    refine ⟨_, _, c1, rfl, rfl, by decide, e1, ?_⟩
    (repeat array_get_dec)
    refine ⟨_, _, c2, rfl, rfl, by decide, e2, ?_⟩
    refine ⟨_, _, rfl, rfl, by show 1 + 1 ≤ sizeLine; decide, ?_⟩
    (repeat array_get_dec)
    refine ⟨_, 5, rfl, rfl, by decide, by decide, by rw [st_len]; show 1 + 1 ≤ 256; decide, fun r hr1 hr2 => ?_⟩
    rw [st_len] at hr1
    have hr1 : (r.length : Int) = (1 + 1 : Nat) * 5 := hr1
    have rl : r.length = 10 := by omega
    have rlow : ∀ c ∈ r.cps.toList, lowC c = true := fun c hc => by
      have := hr2 c hc
      rw [st_cps] at this
      rcases List.mem_append.mp this with h | h
      · have : c = c1 := by simpa using h
        rw [this]; exact lc1
      · have : c = c2 := by simpa using h
        rw [this]; exact lc2
    have rtwo : ∀ c ∈ r.cps.toList, c = c1 ∨ c = c2 := fun c hc => by
      have := hr2 c hc
      rw [st_cps] at this
      rcases List.mem_append.mp this with h | h
      · exact .inl (by simpa using h)
      · exact .inr (by simpa using h)
    clear hr1 hr2
    (repeat array_get_dec)
    refine ⟨r, rfl, le_line (by omega), ?_⟩
    generalize hst : Txt.slice r none (some sz) = st
    have stc : st.cps.toList = r.cps.toList.take sz.toNat := by
      rw [← hst, sl_to]
      unfold cl
      rw [if_neg (by omega), rl, Nat.min_eq_left (by omega)]
    have stl : st.cps.toList.length = sz.toNat := by rw [stc, List.length_take, ← sl_len, rl]; omega
    have stw : ∀ c ∈ st.cps.toList, lowC c = true := fun c hc => by rw [stc] at hc; exact rlow c (List.mem_of_mem_take hc)
    have sttwo : ∀ c ∈ st.cps.toList, c = c1 ∨ c = c2 := fun c hc => by rw [stc] at hc; exact rtwo c (List.mem_of_mem_take hc)
    clear hst stc rlow rl rtwo
    (repeat array_get_dec)
    generalize n / 54756 % 26 = sh
    refine ⟨_, rfl, by omega, by omega, lcG (fun i zs => ∃ ys : List Str, zs = ys.map V.str ∧ ys.length = i ∧ (∀ y ∈ ys, wordS y = true ∧ Few y) ∧ ∀ (j : Nat) y, ys[j]? = some y → y.cps.toList[sp.toNat]? = some (97 + ((sh + j) % 26).toNat)) (tells_r (lo := 0) (n := ((m : Nat) : Int).toNat)) (by rw [Int.toNat_natCast]; exact le_line (by omega)) ⟨[], rfl, rfl, fun _ h => (nomatch h), fun _ _ h => (nomatch h)⟩ (fun D i zs H2 hi hD s2 e2 r2 => ?_) (fun D H2 zs hD s2 e2 r2 => ?_)⟩
    · obtain ⟨ys, rfl, hl, hw, hpl⟩ := r2
      (repeat array_get_dec)
      refine ⟨mono0 rfl, ?_⟩
      (repeat array_get_dec)
      refine ⟨st, rfl, le_line (by rw [sl_len, stl]; omega), ?_⟩
      obtain ⟨c3, ec3, lc3, e3⟩ := letter' (sh + (0 + i))
      (repeat array_get_dec)
      refine ⟨_, _, c3, rfl, rfl, by decide, e3, ?_⟩
      have k1 := cut_to st sp
      have k2 := cut_from st (sp + 1)
      have stl' : st.length = sz.toNat := by rw [sl_len]; exact stl
      refine ⟨_, _, rfl, rfl, by show _ + 1 ≤ _; exact le_line (by omega), ?_⟩
      (repeat array_get_dec)
      refine ⟨st, rfl, le_line (by omega), ?_⟩
      refine ⟨_, _, rfl, rfl, by rw [st_len]; show _ + 1 + _ ≤ _; exact le_line (by omega), ?_⟩
      refine lcFin hD s2 e2 (Same.refl _) ?_
      generalize hy : Txt.slice st none (some sp) ++ _ ++ _ = y
      have ec : y.cps.toList = st.cps.toList.take sp.toNat ++ [c3] ++ st.cps.toList.drop (sp.toNat + 1) := by
        rw [← hy, st_cps, st_cps, sl_to, sl_from]
        have c1 : cl st.length sp = sp.toNat := by unfold cl; rw [if_neg (by omega), Nat.min_eq_left (by omega)]
        have c2 : cl st.length (sp + 1) = sp.toNat + 1 := by unfold cl; rw [if_neg (by omega), Nat.min_eq_left (by omega)]; omega
        rw [c1, c2]
      refine ⟨ys ++ [y], by rw [List.map_append]; rfl, by rw [List.length_append, hl]; rfl, fun y' hy' => ?_, fun j y' hy' => ?_⟩
      rotate_left
      · rcases Nat.lt_or_ge j ys.length with hj | hj
        · rw [List.getElem?_append_left hj] at hy'
          exact hpl j y' hy'
        · rw [List.getElem?_append_right hj] at hy'
          have hj0 : j = ys.length := by
            have := (List.getElem?_eq_some_iff.mp hy').1
            simp at this; omega
          subst hj0
          have : y' = y := by simpa using hy'.symm
          rw [this, ec, List.append_assoc, List.getElem?_append_right (by rw [List.length_take]; omega), List.length_take, stl, Nat.min_eq_left (by omega), Nat.sub_self]
          show some c3 = _
          rw [ec3, hl, Int.zero_add]
      rcases List.mem_append.mp hy' with hy' | hy'
      · exact hw y' hy'
      · rw [List.mem_singleton] at hy'
        subst hy'
        refine ⟨?_, c1, c2, c3, fun c hc => ?_⟩
        rotate_left
        · rw [ec] at hc
          rcases List.mem_append.mp hc with hc | hc
          · rcases List.mem_append.mp hc with hc | hc
            · exact (sttwo c (List.mem_of_mem_take hc)).elim .inl fun h => .inr (.inl h)
            · rw [List.mem_singleton] at hc; exact .inr (.inr hc)
          · exact (sttwo c (List.mem_of_mem_drop hc)).elim .inl fun h => .inr (.inl h)
        refine word_of ?_ ?_ fun c hc => ?_
        · rw [ec]; simp only [List.length_append, List.length_take, List.length_drop, List.length_singleton, stl]; omega
        · rw [ec]; simp only [List.length_append, List.length_take, List.length_drop, List.length_singleton, stl]; omega
        · rw [ec] at hc
          rcases List.mem_append.mp hc with hc | hc
          · rcases List.mem_append.mp hc with hc | hc
            · exact stw c (List.mem_of_mem_take hc)
            · rw [List.mem_singleton] at hc; rw [hc]; exact lc3
          · exact stw c (List.mem_of_mem_drop hc)
    · obtain ⟨ys, rfl, hl, hw, hpl⟩ := r2
      rw [Int.toNat_natCast] at hl
      exact k H2 D ys (KB.free kb1 ao1 hD) (kb1.trans (.of s2)) (ao1.same s2) ⟨e2, by omega, by omega, fun y hy => (hw y hy).1⟩ hl (unlike (by omega) hpl) fun y hy => (hw y hy).2
end
section
variable {P : Program} {w : World} {K : PySem.W.Frag} {mg : Str → Option Value} {base : Heap} {a : Ad}
theorem Words.ne {H : Hp} {l q : Addr} {ys : List Str} {c : Nat} (h : Words H l ys) (ao : AtOk H q c) : l ≠ q := fun e => by
  obtain ⟨i, n, hq, _⟩ := ao.ob
  obtain ⟨h1, h2, _⟩ := h
  rw [e, hq] at h1
  cases ys with
  | nil => exact absurd h2 (by decide)
  | cons y r => injection h1 with h1; injection h1 with h1; injection h1 with h1 _; cases h1
theorem Words.kb {H H' : Hp} {l q : Addr} {ys : List Str} {c : Nat} (h : Words H l ys) (ao : AtOk H q c) (k : KB q H H') : Words H' l ys := ⟨k _ _ (h.ne ao) h.1, h.2⟩
theorem Words.pick {H : Hp} {l : Addr} {ys : List Str} (h : Words H l ys) (i : Int) : ∃ y ∈ ys, atI (ys.map V.str) (i % ((ys.map V.str).length : Nat)) = some (.str y) := by
  have hp : (0 : Int) < ((ys.map V.str).length : Nat) := by rw [List.length_map]; have := h.2.1; omega
  obtain ⟨v, hv, e⟩ := atI_in (xs := ys.map V.str) (mod_ge i hp) (mod_lt i hp)
  obtain ⟨y, hy, rfl⟩ := List.mem_map.mp hv
  exact ⟨y, hy, e⟩
theorem Words.pos {H : Hp} {l : Addr} {ys : List Str} (h : Words H l ys) : (0 : Int) < ((ys.map V.str).length : Nat) := by rw [List.length_map]; have := h.2.1; omega
end
end K32

namespace K32
open PySem PySem.Spec PyProof.Rows L2
def MeltsAt (H : Hp) (p : Addr) (ms : List (Str × Str × Str)) : Prop := ∃ ts : List Addr, H p = some (.lst (ts.map .ref)) ∧ ts.length = ms.length ∧ ∀ (i : Nat) t m, ts[i]? = some t → ms[i]? = some m → H t = some (tupM m)
theorem MeltsAt.same {H H' : Hp} {p : Addr} {ms : List (Str × Str × Str)} (h : MeltsAt H p ms) (s : Same H H') : MeltsAt H' p ms := by
  obtain ⟨ts, h1, h2, h3⟩ := h
  exact ⟨ts, s _ _ h1, h2, fun i t m a b => s _ _ (h3 i t m a b)⟩
def AllM (ms : List (Str × Str × Str)) : Prop := ∀ m ∈ ms, meltOk m = true
section
variable {P : Program} {w : World} {K : PySem.W.Frag} {mg : Str → Option Value} {base : Heap} {a : Ad}
/-! ### _law_melt -/
abbrev DLM (K : PySem.W.Frag) (mg : Str → Option Value) := Df K mg "_law_melt" "_law_melt" (top 40) ["_law_script", "_law_at", "_law_words_here"]
def spLM (K : PySem.W.Frag) : Sp := fun vs H Q _ => ∃ (p q l : Addr) (ns : List Int) (c : Nat) (ys : List Str), vs = [.ref p, .ref q, .ref l] ∧ Scr K q H p ns ∧ ns.length ≤ 63 ∧ AtOk H q c ∧ c ≤ 900000 ∧ Words H l ys ∧ ∀ H' t m, H t = none → KB q H H' → AtOk H' q (c + 3) → H' t = some (tupM m) → meltOk m = true → Q (.ref t) H'
abbrev nLM : List Str := ["_law_script", "_law_at", "_law_words_here", "_law_n", "_law_one", "_law_other", "_law_ahead", "_law_behind", "_law_size"]
theorem scLM : FnScope nLM ["_law_script", "_law_at", "_law_words_here"] (defScope (top 40)) := ⟨rfl, rfl, rfl, by decide +kernel, rfl, by decide +kernel, by decide +kernel⟩
theorem low_of {i j : Nat} {x : Str} (h1 : i ≤ x.cps.toList.length) (h2 : x.cps.toList.length ≤ j) (hl : ∀ c ∈ x.cps.toList, lowC c = true) : low i j x = true := by
  rw [← sl_len] at h1 h2
  unfold low lowS
  rw [decide_eq_true h1, decide_eq_true h2, List.all_eq_true.mpr hl]; rfl
theorem first_low {y : Str} (h : wordS y = true) : ∃ c, lowC c = true ∧ L2.atI y.cps.toList 0 = some c := by
  have hl := (word_len h).1
  rw [sl_len] at hl
  obtain ⟨c, hc, e⟩ := atI_in (xs := y.cps.toList) (i := 0) (by decide) (by omega)
  exact ⟨c, word_low h c hc, e⟩
theorem ok_lm (D : DLM K mg) (D__law_next : DNext K mg) (G__law_next : FnOk P w K mg base CX0 1 D__law_next.f D__law_next.fd ["_law_script", "_law_at"] (spNext K)) (T : Txt K mg a) : FnOk P w K mg base CX0 2 D.f D.fd ["_law_script", "_law_at", "_law_words_here"] (spLM K) := by
  refine Df.ok (k := 1) D.ex scLM (fun vs H Q E h => ?_) (fun A outer s H vs Q E hr h => ?_)
  · obtain ⟨p, q, l, ns, c, ys, rfl, _⟩ := h; rfl
  · obtain ⟨p, q, l, ns, c, ys, rfl, sc, hlen, ao, hc, wd, k⟩ := h
    have nd := scLM.nd
    refine ⟨_, (pss_cons (ps_set (i := 3) nd rfl (Or.inl rfl) (pe_call G__law_next (hr.mono (by decide)) (by rfl) D__law_next.mg D__law_next.kp D__law_next.bd .nil pass0 (pa_c (pv 0) (pa_c (pv 1) pa_nil))))
 (pss_cons (ps_set (i := 4) nd rfl (Or.inl rfl) (pe_ix ix_list (pv 2) (pe_op op_mod (pe_op op_fdiv (pv 3) pe_int) (pe_callB call_len_seq (by rfl) T.b_len boot_len (pa_c (pv 2) pa_nil))) (fun _ _ => rfl)))
 (pss_cons (ps_set (i := 5) nd rfl (Or.inl rfl) (pe_ix ix_list (pv 2) (pe_op op_mod (pe_call G__law_next (hr.mono (by decide)) (by rfl) D__law_next.mg D__law_next.kp D__law_next.bd .nil pass0 (pa_c (pv 0) (pa_c (pv 1) pa_nil))) (pe_callB call_len_seq (by rfl) T.b_len boot_len (pa_c (pv 2) pa_nil))) (fun _ _ => rfl)))
 (pss_cons (ps_set (i := 6) nd rfl (Or.inl rfl) (pe_slice sl_str (pv 4) (po_some (pe_un un_neg (pe_op op_add pe_int (pe_op op_mod (pv 3) pe_int)))) po_none))
 (pss_cons (ps_set (i := 7) nd rfl (Or.inl rfl) (pe_slice sl_str (pv 5) po_none (po_some (pe_op op_add pe_int (pe_op op_mod (pe_op op_fdiv (pv 3) pe_int) pe_int)))))
 (pss_cons (ps_set (i := 8) nd rfl (Or.inl rfl) (pe_callB (call_min2 rfl) (by rfl) T.b_min boot_min (pa_c pe_int (pa_c (pe_op op_add (pe_callB (call_max2 rfl) (by rfl) T.b_max boot_max (pa_c pe_int (pa_c (pe_op op_sub (pe_op op_add (pe_callB call_len_str (by rfl) T.b_len boot_len (pa_c (pv 6) pa_nil)) (pe_callB call_len_str (by rfl) T.b_len boot_len (pa_c (pv 7) pa_nil))) pe_int) pa_nil))) (pe_op op_mod (pe_call G__law_next (hr.mono (by decide)) (by rfl) D__law_next.mg D__law_next.kp D__law_next.bd .nil pass0 (pa_c (pv 0) (pa_c (pv 1) pa_nil))) pe_int)) pa_nil))))
 (pss_one (ps_ret (pe_tup (pa_c (pv 6) (pa_c (pv 7) (pa_c (pe_slice sl_str (pe_op op_mul_strC (pe_op op_add_str (pe_op op_add_str (pe_op op_add_str (pe_ix ix_str (pv 5) pe_int (fun _ _ => rfl)) pe_str) (pe_ix ix_str (pv 4) pe_int (fun _ _ => rfl))) pe_str) pe_int) (po_some (pe_op op_mod (pv 3) pe_int)) (po_some (pe_op op_add (pe_op op_mod (pv 3) pe_int) (pv 8)))) pa_nil)))))))))))), ?_⟩
    (repeat array_get_dec)
    refine ⟨p, q, ns, c, rfl, sc, hlen, ao, by omega, fun H1 n n0 n1 kb1 ao1 => ?_⟩
    have wd1 := wd.kb ao kb1
    have sc1 := sc.kb kb1
    (repeat array_get_dec)
    refine ⟨l, _, rfl, .inl (SqL.of wd1.1), ?_⟩
    refine w_mod wd1.pos ?_
    obtain ⟨y1, hy1, e1⟩ := wd1.pick (n / 9)
    refine ⟨l, _, _, _, rfl, rfl, SqL.of wd1.1, e1, ?_⟩
    (repeat array_get_dec)
    refine ⟨p, q, ns, c + 1, rfl, sc1, hlen, ao1, by omega, fun H2 n2 n20 n21 kb2 ao2 => ?_⟩
    have wd2 := wd1.kb ao1 kb2
    have sc2 := sc1.kb kb2
    (repeat array_get_dec)
    refine ⟨l, _, rfl, .inl (SqL.of wd2.1), ?_⟩
    refine w_mod wd2.pos ?_
    obtain ⟨y2, hy2, e2⟩ := wd2.pick n2
    refine ⟨l, _, _, _, rfl, rfl, SqL.of wd2.1, e2, ?_⟩
    have array_get_dec := wd.2.2.2 y1 hy1
    have w2 := wd.2.2.2 y2 hy2
    have l1 := word_len array_get_dec
    have l2 := word_len w2
    (repeat array_get_dec)
    refine ⟨y1, rfl, le_line (by omega), ?_⟩
    have a0 := mod_ge n (show (0 : Int) < 3 by decide)
    have a1 := mod_lt n (show (0 : Int) < 3 by decide)
    have b0 := mod_ge (n / 3) (show (0 : Int) < 3 by decide)
    have b1 := mod_lt (n / 3) (show (0 : Int) < 3 by decide)
    generalize hA : Txt.slice y1 (some (-(1 + n % 3))) none = ah
    have ahc : ah.cps.toList = y1.cps.toList.drop (cl y1.length (-(1 + n % 3))) := by rw [← hA, sl_from]
    have ahl : 1 ≤ ah.cps.toList.length ∧ ah.cps.toList.length ≤ 3 := by
      rw [ahc, List.length_drop, ← sl_len]
      unfold cl
      rw [if_pos (by omega)]
      omega
    have ahw : ∀ c ∈ ah.cps.toList, lowC c = true := fun c hc => by rw [ahc] at hc; exact word_low array_get_dec c (List.mem_of_mem_drop hc)
    clear hA ahc
    (repeat array_get_dec)
    refine ⟨y2, rfl, le_line (by omega), ?_⟩
    generalize hB : Txt.slice y2 none (some (1 + n / 3 % 3)) = be
    have bec : be.cps.toList = y2.cps.toList.take (cl y2.length (1 + n / 3 % 3)) := by rw [← hB, sl_to]
    have bel : 1 ≤ be.cps.toList.length ∧ be.cps.toList.length ≤ 3 := by
      rw [bec, List.length_take, ← sl_len]
      unfold cl
      rw [if_neg (by omega)]
      omega
    have bew : ∀ c ∈ be.cps.toList, lowC c = true := fun c hc => by rw [bec] at hc; exact word_low w2 c (List.mem_of_mem_take hc)
    clear hB bec
    have ahl' := ahl
    have bel' := bel
    rw [← sl_len] at ahl' bel'
    (repeat array_get_dec)
    refine ⟨ah, rfl, le_line (by omega), ?_⟩
    (repeat array_get_dec)
    refine ⟨be, rfl, le_line (by omega), ?_⟩
    (repeat array_get_dec)
    refine ⟨_, _, rfl, ?_⟩
    (repeat array_get_dec)
    refine ⟨p, q, ns, c + 1 + 1, rfl, sc2, hlen, ao2, by omega, fun H3 n3 n30 n31 kb3 ao3 => ?_⟩
    (repeat array_get_dec)
    refine ⟨_, _, rfl, ?_⟩
    have d0 := mod_ge n3 (show (0 : Int) < 3 by decide)
    have d1 := mod_lt n3 (show (0 : Int) < 3 by decide)
    generalize hsz : (if (if (ah.length : Int) + be.length - 1 > 1 then (ah.length : Int) + be.length - 1 else 1) + n3 % 3 < 6 then (if (ah.length : Int) + be.length - 1 > 1 then (ah.length : Int) + be.length - 1 else 1) + n3 % 3 else 6) = sz
    have sz0 : 1 ≤ sz ∧ sz ≤ 6 ∧ (ah.length : Int) + be.length - 1 ≤ sz := by
      rw [← hsz]
      split <;> split <;> omega
    obtain ⟨c2, lc2, f2⟩ := first_low w2
    obtain ⟨c1, lc1, f1⟩ := first_low array_get_dec
    (repeat array_get_dec)
    refine ⟨y2, 0, c2, rfl, rfl, le_line (by omega), f2, ?_⟩
    (repeat array_get_dec)
    refine ⟨_, _, rfl, rfl, by show 1 + 1 ≤ sizeLine; decide, ?_⟩
    (repeat array_get_dec)
    refine ⟨y1, 0, c1, rfl, rfl, le_line (by omega), f1, ?_⟩
    refine ⟨_, _, rfl, rfl, by rw [st_len]; show 1 + 1 + 1 ≤ sizeLine; decide, ?_⟩
    (repeat array_get_dec)
    refine ⟨_, _, rfl, rfl, by rw [st_len, st_len]; show 1 + 1 + 1 + 1 ≤ sizeLine; decide, ?_⟩
    (repeat array_get_dec)
    refine ⟨_, 2, rfl, rfl, by decide, by decide, by rw [st_len, st_len, st_len]; show 1 + 1 + 1 + 1 ≤ 256; decide, fun r hr1 hr2 => ?_⟩
    have rl : r.length = 8 := by
      rw [st_len, st_len, st_len] at hr1
      have hr1 : (r.length : Int) = (1 + 1 + 1 + 1 : Nat) * 2 := hr1
      omega
    have rlow : ∀ c ∈ r.cps.toList, lowC c = true := fun c hc => by
      have := hr2 c hc
      rw [st_cps, st_cps, st_cps] at this
      have e117 : (("u" : Str)).cps.toList = [117] := by decide +kernel
      have e101 : (("e" : Str)).cps.toList = [101] := by decide +kernel
      rw [e117, e101] at this
      simp only [List.mem_append, List.mem_singleton] at this
      rcases this with ((h | h) | h) | h
      · have : c = c2 := by simpa using h
        rw [this]; exact lc2
      · rw [h]; decide
      · have : c = c1 := by simpa using h
        rw [this]; exact lc1
      · rw [h]; decide
    clear hr1 hr2
    (repeat array_get_dec)
    refine ⟨r, rfl, le_line (by omega), ?_⟩
    generalize hM : Txt.slice r (some (n % 3)) (some (n % 3 + sz)) = md
    have mdc : md.cps.toList = (r.cps.toList.drop (n % 3).toNat).take ((n % 3 + sz).toNat - (n % 3).toNat) := by
      rw [← hM]
      have e1 : (n % 3) = (((n % 3).toNat : Nat) : Int) := by omega
      have e2 : (n % 3 + sz) = (((n % 3 + sz).toNat : Nat) : Int) := by omega
      rw [e2, show (some (n % 3) : Option Int) = some (((n % 3).toNat : Nat) : Int) by rw [← e1], sl_mid r (by omega) (by omega)]
      simp only [Int.toNat_natCast]
    have mdl : md.cps.toList.length = sz.toNat := by rw [mdc, List.length_take, List.length_drop, ← sl_len, rl]; omega
    have mdw : ∀ c ∈ md.cps.toList, lowC c = true := fun c hc => by rw [mdc] at hc; exact rlow c (List.mem_of_mem_drop (List.mem_of_mem_take hc))
    clear hM mdc
    (repeat array_get_dec)
    refine ⟨by show 3 ≤ sizeLine; decide, fun t ht => ?_⟩
    have kb03 := kb1.trans (kb2.trans kb3)
    refine k _ t (ah, be, md) (KB.free kb03 ao3 ht) (kb03.trans (.put ht)) (ao3.same (Same.upd ht)) upd_same ?_
    unfold meltOk
    rw [low_of (i := 1) (j := 3) ahl.1 ahl.2 ahw, low_of (i := 1) (j := 3) bel.1 bel.2 bew, low_of (i := 1) (j := 6) (by rw [mdl]; omega) (by rw [mdl]; omega) mdw]
    have ml : md.length = sz.toNat := by rw [sl_len]; exact mdl
    rw [decide_eq_true (show ah.length + be.length ≤ md.length + 1 by omega)]
    rfl
/-! ### _law_melts -/
abbrev DLMs (K : PySem.W.Frag) (mg : Str → Option Value) := Df K mg "_law_melts" "_law_melts" (top 41) ["_law_script", "_law_at", "_law_words_here", "_law_most"]
def spLMs (K : PySem.W.Frag) : Sp := fun vs H Q _ => ∃ (p q l : Addr) (ns : List Int) (c : Nat) (ys : List Str), vs = [.ref p, .ref q, .ref l, .int 12] ∧ Scr K q H p ns ∧ ns.length ≤ 63 ∧ AtOk H q c ∧ c ≤ 800000 ∧ Words H l ys ∧ ∀ H' t ms, H t = none → KB q H H' → AtOk H' q (c + 40) → MeltsAt H' t ms → AllM ms → ms.length ≤ 12 → Q (.ref t) H'
abbrev nLMs : List Str := ["_law_script", "_law_at", "_law_words_here", "_law_most", "_law_many"]
theorem scLMs : FnScope nLMs ["_law_script", "_law_at", "_law_words_here", "_law_most"] (defScope (top 41)) := ⟨rfl, rfl, rfl, by decide +kernel, rfl, by decide +kernel, by decide +kernel⟩
theorem ok_lms (D : DLMs K mg) (D__law_next : DNext K mg) (G__law_next : FnOk P w K mg base CX0 1 D__law_next.f D__law_next.fd ["_law_script", "_law_at"] (spNext K)) (D__law_melt : DLM K mg) (G__law_melt : FnOk P w K mg base CX0 2 D__law_melt.f D__law_melt.fd ["_law_script", "_law_at", "_law_words_here"] (spLM K)) (T : Txt K mg a) :
    FnOk P w K mg base CX0 3 D.f D.fd ["_law_script", "_law_at", "_law_words_here", "_law_most"] (spLMs K) := by
  refine Df.ok (k := 2) D.ex scLMs (fun vs H Q E h => ?_) (fun A outer s H vs Q E hr h => ?_)
  · obtain ⟨p, q, l, ns, c, ys, rfl, _⟩ := h; rfl
  · obtain ⟨p, q, l, ns, c, ys, rfl, sc, hlen, ao, hc, wd, k⟩ := h
    have nd := scLMs.nd
    refine ⟨_, (pss_cons (ps_set (i := 4) nd rfl (Or.inl rfl) (pe_ix ix_list (pe_lst (pa_c pe_int (pa_c pe_int (pa_c pe_int (pa_c pe_int (pa_c (pv 3) pa_nil)))))) (pe_op op_mod (pe_call G__law_next (hr.mono (by decide)) (by rfl) D__law_next.mg D__law_next.kp D__law_next.bd .nil pass0 (pa_c (pv 0) (pa_c (pv 1) pa_nil))) pe_int) (fun _ _ => rfl)))
 (pss_one (ps_ret (pe_lc (N := ["_law_k", "_law_script", "_law_at", "_law_words_here"]) (fs := [(1, 0), (2, 1), (3, 2)]) (⟨rfl, by rfl, by rfl, by rfl, ⟨⟨_, rfl, rfl, rfl, Or.inl rfl⟩, ⟨⟨_, rfl, rfl, rfl, Or.inl rfl⟩, ⟨⟨_, rfl, rfl, rfl, Or.inl rfl⟩, trivial⟩⟩⟩⟩) rfl (pi_range1 (by rfl) T.b_range (pa_c (pe_callB (call_min2 rfl) (by rfl) T.b_min boot_min (pa_c (pv 4) (pa_c (pv 3) pa_nil))) pa_nil)) (fun _ _ _ _ _ => (pg_name (i := 0) (show List.Nodup (["_law_k", "_law_script", "_law_at", "_law_words_here"] : List Str) from by decide +kernel) rfl (Or.inl rfl))) (fun _ _ _ _ _ => by exact pts_nil) (fun _ _ _ _ _ => by exact (pe_call G__law_melt (hr.mono (by decide)) (by rfl) D__law_melt.mg D__law_melt.kp D__law_melt.bd .nil pass0 (pa_c (pv 1) (pa_c (pv 2) (pa_c (pv 3) pa_nil))))))))), ?_⟩
    (repeat array_get_dec)
    refine ⟨by show 5 ≤ sizeLine; decide, fun l1 h1 => ?_⟩
    have s1 : Same H _ := Same.upd (o := .lst [.int 0, .int 1, .int 2, .int 4, .int 12]) h1
    have g1 : (upd H l1 (.lst [.int 0, .int 1, .int 2, .int 4, .int 12])) l1 = some (.lst [.int 0, .int 1, .int 2, .int 4, .int 12]) := upd_same
    generalize upd H l1 _ = H1 at s1 g1 ⊢
    have kb01 : KB q H H1 := .of s1
    have ao1 := ao.same s1
    (repeat array_get_dec)
    refine ⟨p, q, ns, c, rfl, sc.kb kb01, hlen, ao1, by omega, fun H2 n n0 n1 kb2 ao2 => ?_⟩
    have n1q : l1 ≠ q := by
      obtain ⟨i, m, hq, _⟩ := ao1.ob
      exact ne_of g1 hq (by intro z; injection z with z; injection z with _ z; injection z with _ z; cases z)
    have g2 := kb2 _ _ n1q g1
    (repeat array_get_dec)
    obtain ⟨v, hv, ev⟩ := atI_in (xs := [V.int 0, .int 1, .int 2, .int 4, .int 12]) (mod_ge n (show (0 : Int) < 5 by decide)) (by exact mod_lt n (show (0 : Int) < 5 by decide))
    refine ⟨l1, _, _, _, rfl, rfl, SqL.of g2, ev, ?_⟩
    obtain ⟨m, rfl, m0, m12⟩ : ∃ m : Int, v = .int m ∧ 0 ≤ m ∧ m ≤ 12 := by
      simp only [List.mem_cons, List.not_mem_nil, or_false] at hv
      rcases hv with rfl | rfl | rfl | rfl | rfl
      all_goals exact ⟨_, rfl, by decide, by decide⟩
    have kb := kb01.trans kb2
    have wd2 := wd.kb ao kb
    have sc2 := sc.kb kb
    (repeat array_get_dec)
    refine ⟨_, _, rfl, ?_⟩
    generalize hm : (if (12 : Int) < m then (12 : Int) else m) = mm
    have mm0 : 0 ≤ mm ∧ mm ≤ 12 := by rw [← hm]; split <;> omega
    refine ⟨mm, rfl, by omega, by omega, lcR (fun D i zs H3 => KB q H2 H3 ∧ AtOk H3 q (c + 1 + 3 * i) ∧ ∃ (ts : List Addr) (ms : List (Str × Str × Str)), zs = ts.map V.ref ∧ ts.length = i ∧ ms.length = i ∧ AllM ms ∧ ∀ (j : Nat) t m, ts[j]? = some t → ms[j]? = some m → H3 t = some (tupM m)) (le_line (by omega)) rfl
      (fun D hD => ⟨.put hD, ao2.same (Same.upd hD), [], [], rfl, rfl, rfl, fun _ h => (nomatch h), fun j t m h => by cases h⟩) (fun D i zs H3 hi hD w3 e3 => ?_) (fun D H3 zs hD w3 e3 => ?_)⟩
    · obtain ⟨kb3, ao3, ts, ms, rfl, lt, lm, am, at3⟩ := w3
      (repeat array_get_dec)
      refine ⟨p, q, l, ns, _, ys, rfl, sc2.kb kb3, hlen, ao3, by omega, wd2.kb ao2 kb3, fun H4 t mt ht kb4 ao4 gt mo => ?_⟩
      have nDq : D ≠ q := fun e => by
        obtain ⟨i', n', hq, _⟩ := ao2.ob
        rw [e, hq] at hD; cases hD
      have e4 := kb4 _ _ nDq e3
      refine ⟨e4, fun c' o n' hc' => ?_, ?_, ts ++ [t], ms ++ [mt], by simp, by simp [lt], by simp [lm], fun x hx => ?_, fun j t' m' h1 h2 => ?_⟩
      · rw [upd_ne (ne_of_none hc' hD)]
        exact kb4 _ _ n' (kb3 _ _ n' hc')
      · obtain ⟨i', n', hq, r⟩ := ao4.ob
        exact ⟨i', n', by rw [upd_ne (Ne.symm nDq)]; exact hq, by omega⟩
      · rcases List.mem_append.mp hx with y | y
        · exact am x y
        · rw [List.mem_singleton] at y; rw [y]; exact mo
      · have hit : H4 t' = some (tupM m') := by
          rcases Nat.lt_trichotomy j i with h | h | h
          · rw [List.getElem?_append_left (by omega)] at h1 h2
            have a3 := at3 j t' m' h1 h2
            exact kb4 _ _ (fun e => by obtain ⟨i', n', hq, _⟩ := ao3.ob; rw [e, hq] at a3; cases a3) a3
          · subst h
            rw [List.getElem?_append_right (by omega), lt, Nat.sub_self] at h1
            rw [List.getElem?_append_right (by omega), lm, Nat.sub_self] at h2
            cases h1; cases h2; exact gt
          · rw [List.getElem?_eq_none (by simp [lt]; omega)] at h1; cases h1
        rw [upd_ne (ne_of hit e4 (by intro z; cases z))]
        exact hit
    · obtain ⟨kb3, ao3, ts, ms, rfl, lt, lm, am, at3⟩ := w3
      have kk := kb.trans kb3
      exact k H3 D ms (KB.free kb ao2 hD) kk (ao3.mono (by omega)) ⟨ts, e3, by omega, at3⟩ am (by omega)
end
end K32

namespace K32
open PySem PySem.Spec PyProof.Rows L2
section
variable {P : Program} {w : World} {K : PySem.W.Frag} {mg : Str → Option Value} {base : Heap} {a : Ad}
/-! ### _law_great -/
abbrev DGr (K : PySem.W.Frag) (mg : Str → Option Value) := Df K mg "_law_great" "_law_great" (top 42) ["_law_script", "_law_at"]
def spGr (K : PySem.W.Frag) : Sp := fun vs H Q _ => ∃ (p q : Addr) (ns : List Int) (c : Nat), vs = [.ref p, .ref q] ∧ Scr K q H p ns ∧ ns.length ≤ 63 ∧ AtOk H q c ∧ c ≤ 900000 ∧ ∀ H' (r : Int), 0 ≤ r → r < 10 ^ 60 → KB q H H' → AtOk H' q (c + 1) → Q (.int r) H'
abbrev nGr : List Str := ["_law_script", "_law_at", "_law_n"]
theorem scGr : FnScope nGr ["_law_script", "_law_at"] (defScope (top 42)) := ⟨rfl, rfl, rfl, by decide +kernel, rfl, by decide +kernel, by decide +kernel⟩
theorem ok_gr (D : DGr K mg) (D__law_next : DNext K mg) (G__law_next : FnOk P w K mg base CX0 1 D__law_next.f D__law_next.fd ["_law_script", "_law_at"] (spNext K)) (T : Txt K mg a) : FnOk P w K mg base CX0 2 D.f D.fd ["_law_script", "_law_at"] (spGr K) := by
  refine Df.ok (k := 1) D.ex scGr (fun vs H Q E h => ?_) (fun A outer s H vs Q E hr h => ?_)
  · obtain ⟨p, q, ns, c, rfl, _⟩ := h; rfl
  · obtain ⟨p, q, ns, c, rfl, sc, hlen, ao, hc, k⟩ := h
    have nd := scGr.nd
    refine ⟨_, (pss_cons (ps_set (i := 2) nd rfl (Or.inl rfl) (pe_call G__law_next (hr.mono (by decide)) (by rfl) D__law_next.mg D__law_next.kp D__law_next.bd .nil pass0 (pa_c (pv 0) (pa_c (pv 1) pa_nil))))
 (pss_cons (ps_if (pt_cmpR op_eq (pe_op op_mod (pv 2) pe_int) pe_int (nomark _))
 (pss_one (ps_ret (pe_op op_sub (pe_op op_sub (pe_op op_pow pe_int pe_int) pe_int) (pe_op op_mod (pe_op op_fdiv (pv 2) pe_int) pe_int))))
 pss_nil)
 (pss_one (ps_ret (pe_op op_mod (pe_op op_mul (pe_op op_mul (pe_op op_mul (pe_op op_mul (pe_op op_mul (pe_op op_mul (pe_op op_mul (pv 2) (pv 2)) (pv 2)) (pv 2)) (pv 2)) (pv 2)) (pv 2)) (pv 2)) (pe_ix ix_list (pe_lst (pa_c pe_int (pa_c (pe_op op_pow pe_int pe_int) (pa_c (pe_op op_pow pe_int pe_int) pa_nil)))) (pe_op op_mod (pv 2) pe_int) (fun _ _ => rfl))))))), ?_⟩
    (repeat array_get_dec)
    refine ⟨p, q, ns, c, rfl, sc, hlen, ao, by omega, fun H1 n n0 n1 kb1 ao1 => ?_⟩
    have nb : -(2 ^ 64) < n ∧ n < 2 ^ 64 := by omega
    (repeat array_get_dec)
    refine w_ite (fun _ => ?_) (fun _ => ?_)
    · (repeat array_get_dec)
      refine w_I (⟨by decide, by decide, by decide⟩) ?_
      (repeat array_get_dec)
      have m0 := mod_ge (n / 7) (show (0 : Int) < 3 by decide)
      have m1 := mod_lt (n / 7) (show (0 : Int) < 3 by decide)
      have e : (10 : Int) ^ (60 : Int).toNat = 10 ^ 60 := rfl
      rw [e]
      exact k H1 _ (by omega) (by omega) kb1 ao1
    · (repeat array_get_dec)
      iterate 7 (refine w_I (.inr nb) ?_; (repeat array_get_dec))
      refine w_I (⟨by decide, by decide, by decide⟩) ?_
      (repeat array_get_dec)
      refine w_I (⟨by decide, by decide, by decide⟩) ?_
      (repeat array_get_dec)
      refine ⟨by show 3 ≤ sizeLine; decide, fun l hl => ?_⟩
      (repeat array_get_dec)
      obtain ⟨v, hv, ev⟩ := atI_in (xs := [V.int 10, .int ((10 : Int) ^ (20 : Int).toNat), .int ((10 : Int) ^ (59 : Int).toNat)]) (mod_ge n (show (0 : Int) < 3 by decide)) (by exact mod_lt n (show (0 : Int) < 3 by decide))
      refine ⟨l, _, _, _, rfl, rfl, SqL.of upd_same, ev, ?_⟩
      obtain ⟨m, rfl, m0, m1⟩ : ∃ m : Int, v = .int m ∧ 0 < m ∧ m ≤ 10 ^ 59 := by
        simp only [List.mem_cons, List.not_mem_nil, or_false] at hv
        rcases hv with rfl | rfl | rfl
        all_goals exact ⟨_, rfl, by decide, by decide⟩
      refine w_mod m0 ?_
      have s1 := Same.upd (o := .lst [V.int 10, .int ((10 : Int) ^ (20 : Int).toNat), .int ((10 : Int) ^ (59 : Int).toNat)]) hl
      have r0 := mod_ge (n * n * n * n * n * n * n * n) m0
      have r1 := mod_lt (n * n * n * n * n * n * n * n) m0
      exact k _ _ r0 (by omega) (kb1.trans (.of s1)) (ao1.same s1)
end
end K32

namespace K32
open PySem PySem.Spec PyProof.Rows L2
theorem sig_len {x : Str} (h : x ∈ sig) : x.length = 1 := by
  unfold sig at h
  simp only [List.mem_cons, List.not_mem_nil, or_false] at h
  rcases h with rfl | rfl | rfl | rfl | rfl | rfl <;> decide +kernel
theorem tie_len : (("+" : Str)).length = 1 := by decide +kernel
theorem sig_tie : ¬ (("+" : Str)) ∈ sig := by unfold sig; decide +kernel
theorem word_tie {x : Str} (h : wordS x = true) : x ≠ "+" := fun e => by
  have := (word_len h).1
  rw [e, tie_len] at this
  omega
theorem word_sig {x : Str} (h : wordS x = true) : ¬ x ∈ sig := fun e => by
  have := (word_len h).1
  rw [sig_len e] at this
  omega
def Pc (x : Str) : Prop := wordS x = true ∨ x ∈ sig ∨ x = "+"
theorem Pc.piece {x : Str} (h : Pc x) : pieceS x = true := by
  unfold pieceS
  rcases h with h | h | h
  · rw [h]; simp
  · rw [show inV (.str x) (sV sig) = true from inV_iff.mpr h]; simp
  · rw [h]; simp
theorem Pc.len {x : Str} (h : Pc x) : x.length ≤ 10 := by
  rcases h with h | h | h
  · exact (word_len h).2
  · rw [sig_len h]; decide
  · rw [h, tie_len]; decide
theorem Pc.one {x : Str} (h : Pc x) (hn : x.length ≠ 1) : wordS x = true := by
  rcases h with h | h | h
  · exact h
  · exact absurd (sig_len h) hn
  · rw [h] at hn; exact absurd tie_len hn
structure Ok (ys : List Str) : Prop where
  pc : ∀ y ∈ ys, Pc y
  ct : ∀ s ∈ sig, ys.count s ≤ 1
  na : ∀ i : Nat, ys[i]? = some ("+" : Str) → ys[i + 1]? ≠ some ("+" : Str)
  hd : ys.head? ≠ some ("+" : Str)
theorem Ok.nil : Ok [] := ⟨fun _ h => (nomatch h), fun _ _ => by simp, fun _ h => by simp at h, by simp⟩
theorem Ok.snoc {ys : List Str} {x : Str} (h : Ok ys) (px : Pc x) (c : x ∈ sig → ¬ x ∈ ys) (t : x = "+" → ys ≠ [] ∧ ys.getLast? ≠ some ("+" : Str)) : Ok (ys ++ [x]) := by
  refine ⟨fun y hy => ?_, fun s hs => ?_, fun i hi => ?_, ?_⟩
  · rcases List.mem_append.mp hy with hy | hy
    · exact h.pc y hy
    · rw [List.mem_singleton.mp hy]; exact px
  · rw [List.count_append]
    by_cases e : x = s
    · subst e
      rw [List.count_eq_zero.mpr (c hs), List.count_singleton_self]
      decide
    · have : [x].count s = 0 := List.count_eq_zero.mpr fun m => e (List.mem_singleton.mp m).symm
      rw [this]; exact h.ct s hs
  · intro hi2
    rcases Nat.lt_trichotomy (i + 1) ys.length with z | z | z
    · rw [List.getElem?_append_left (by omega)] at hi
      rw [List.getElem?_append_left z] at hi2
      exact h.na i hi hi2
    · rw [List.getElem?_append_left (by omega)] at hi
      rw [z, List.getElem?_concat_length] at hi2
      have := (t (Option.some.inj hi2)).2
      rw [List.getLast?_eq_getElem?, show ys.length - 1 = i by omega] at this
      exact this hi
    · rw [List.getElem?_eq_none (by rw [List.length_append, List.length_singleton]; omega)] at hi2
      cases hi2
  · intro e
    cases ys with
    | nil =>
      have : x = "+" := Option.some.inj e
      exact (t this).1 rfl
    | cons y r => exact h.hd e
theorem Ok.cons {ys : List Str} {x : Str} (h : Ok ys) (px : Pc x) (c : x ∈ sig → ¬ x ∈ ys) (t : x ≠ "+") : Ok (x :: ys) := by
  refine ⟨fun y hy => ?_, fun s hs => ?_, fun i hi => ?_, ?_⟩
  · rcases List.mem_cons.mp hy with rfl | hy
    · exact px
    · exact h.pc y hy
  · rw [List.count_cons]
    by_cases e : x = s
    · subst e
      rw [List.count_eq_zero.mpr (c hs)]
      simp
    · rw [if_neg (by simpa using e)]; exact h.ct s hs
  · cases i with
    | zero => exact fun _ => t (Option.some.inj hi)
    | succ i => exact h.na i hi
  · exact fun e => t (Option.some.inj e)
theorem Ok.pop {ys : List Str} (h : Ok ys) : Ok ys.dropLast := by
  refine ⟨fun y hy => h.pc y ((List.dropLast_sublist ys).subset hy), fun s hs => Nat.le_trans ((List.dropLast_sublist ys).count_le s) (h.ct s hs), fun i hi hi2 => ?_, fun e => ?_⟩
  · have g : ∀ j, ys.dropLast[j]? = some ("+" : Str) → ys[j]? = some ("+" : Str) := fun j hj => by
      rw [List.dropLast_eq_take, List.getElem?_take] at hj
      split at hj
      · exact hj
      · cases hj
    exact h.na i (g _ hi) (g _ hi2)
  · cases ys with
    | nil => cases e
    | cons y r =>
      cases r with
      | nil => cases e
      | cons z r => exact h.hd e
/-- all that the making of a rule asks of its items -/
structure Its (ys : List Str) (n : Nat) : Prop where
  ok : Ok ys
  ne : ys ≠ []
  lt : ys.getLast? ≠ some ("+" : Str)
  wd : ∃ y ∈ ys, wordS y = true
  le : ys.length ≤ n
theorem cnt_eq (s : Str) : ∀ ys : List Str, ((ys.map V.str).countP fun z => eqV z (.str s)) = ys.count s
  | [] => rfl
  | y :: r => by
    rw [List.map_cons, List.countP_cons, List.count_cons, cnt_eq s r]
    rfl
theorem Its.pieces {ys : List Str} (h : Its ys 8) : piecesOk ys = true := by
  unfold piecesOk
  have h1 : decide (1 ≤ ys.length) = true := decide_eq_true (List.length_pos_iff.mpr h.ne)
  have h2 : decide (ys.length ≤ 8) = true := decide_eq_true h.le
  have h3 : ys.all pieceS = true := List.all_eq_true.mpr fun y hy => (h.ok.pc y hy).piece
  have h4 : ys.any wordS = true := List.any_eq_true.mpr (let ⟨y, a, b⟩ := h.wd; ⟨y, a, b⟩)
  have h5 : (sV sig).any (qT ys) = false := by
    rw [Bool.eq_false_iff]
    intro z
    obtain ⟨v, hv, e⟩ := List.any_eq_true.mp z
    obtain ⟨s, hs, rfl⟩ := List.mem_map.mp hv
    unfold qT at e
    rw [cnt_eq] at e
    have := h.ok.ct s hs
    have e := of_decide_eq_true e
    omega
  have h6 : tiesOk ys = true := by
    unfold tiesOk
    have g1 : isTie ys.head? = false := by
      have := h.ok.hd
      cases e : ys.head? with
      | none => rfl
      | some x =>
        rw [e] at this
        exact decide_eq_false fun z => this (by rw [z])
    have g2 : isTie ys.getLast? = false := by
      have := h.lt
      cases e : ys.getLast? with
      | none => rfl
      | some x =>
        rw [e] at this
        exact decide_eq_false fun z => this (by rw [z])
    have g3 : adjS ys = false := by
      unfold adjS
      rw [Bool.eq_false_iff]
      intro z
      obtain ⟨i, _, e⟩ := List.any_eq_true.mp z
      rw [Bool.and_eq_true] at e
      have tie : ∀ o : Option Str, isTie o = true → o = some ("+" : Str) := fun o ho => by
        cases o with
        | none => cases ho
        | some x => exact congrArg some (of_decide_eq_true ho)
      exact h.ok.na i (tie _ e.1) (tie _ e.2)
    rw [g1, g2, g3]; rfl
  rw [h1, h2, h3, h4, h5, h6]; rfl
end K32

namespace L2
open PySem PySem.Spec PyProof.Rows
theorem w_while {c : TT} {tb : TS} {nx bk ct : St → Hp → Prop} {rt : VK} {σ : St} {H : Hp} (q : ∃ W : Nat → St → Hp → Prop, (∃ m, W m σ H) ∧ ∀ m σ H, W m σ H →
  c σ H fun b H1 => if b = true then ∃ N : St → Hp → Prop, (∀ σ' H', N σ' H' → ∃ m', m' < m ∧ W m' σ' H') ∧ tb ⟨N, rt, nx, N⟩ σ H1 else nx σ H1) : tWhile c tb ⟨nx, rt, bk, ct⟩ σ H := q
end L2
local macro_rules | `(tactic| array_get_dec) => `(tactic| with_reducible refine L2.w_while ?_)
namespace L2
open PySem PySem.Spec PyProof.Rows
theorem perm_pop {α : Type} : ∀ {l : List α} {k : Nat} {x : α}, l[k]? = some x → (x :: l.eraseIdx k).Perm l
  | [], k, x, h => by simp at h
  | y :: r, 0, x, h => by
    have : y = x := by simpa using h
    rw [this]; exact .refl _
  | y :: r, k + 1, x, h => by
    have h : r[k]? = some x := by simpa using h
    exact (List.Perm.swap y x _).trans ((perm_pop h).cons y)
theorem map_erase {α β : Type} (f : α → β) : ∀ (l : List α) (k : Nat), (l.map f).eraseIdx k = (l.eraseIdx k).map f
  | [], k => by simp
  | y :: r, 0 => by simp
  | y :: r, k + 1 => by
    show f y :: (r.map f).eraseIdx k = f y :: (r.eraseIdx k).map f
    rw [map_erase f r k]
end L2
namespace K32
open PySem PySem.Spec PyProof.Rows L2
section
variable {P : Program} {w : World} {K : PySem.W.Frag} {mg : Str → Option Value} {base : Heap} {a : Ad}
/-! ### _law_items -/
theorem at_strs {H : Hp} {q l : Addr} {c : Nat} {zs : List Str} (ao : AtOk H q c) (h : H l = some (.lst (zs.map .str))) : l ≠ q := fun e => by
  obtain ⟨i, n, hq, _⟩ := ao.ob
  rw [e, hq] at h
  cases zs with
  | nil => injection h with h; injection h with h; cases h
  | cons y r => injection h with h; injection h with h; injection h with h _; cases h
theorem _root_.L2.KB.trans_new {H H' : Hp} {q l : Addr} {o : HO} (k : KB q H H') (hl : H l = none) : KB q H (upd H' l o) := fun c u n e => by rw [upd_ne (ne_of_none e hl)]; exact k c u n e
theorem at_put {H : Hp} {q l : Addr} {c : Nat} {o : HO} (ao : AtOk H q c) (n : l ≠ q) : AtOk (upd H l o) q c := by
  obtain ⟨i, n', hq, h⟩ := ao.ob
  exact ⟨i, n', by rw [upd_ne (Ne.symm n)]; exact hq, h⟩
/-- things that are left and items that are made -/
structure Th (ss ts zs : List Str) : Prop where
  ok : Ok zs
  lt : zs.getLast? ≠ some ("+" : Str)
  le : ts.length + zs.length ≤ 8
  wd : ∃ y, (y ∈ zs ∨ y ∈ ts) ∧ wordS y = true
  hs : ∀ s ∈ ss, s ∈ zs ∨ s ∈ ts
  ct : ∀ s ∈ sig, (zs ++ ts).count s ≤ 1
  th : ∀ t ∈ ts, wordS t = true ∨ t ∈ sig
theorem Th.tie {ss ts zs : List Str} (h : Th ss ts zs) (h0 : zs ≠ []) : Ok (zs ++ [("+" : Str)]) := h.ok.snoc (.inr (.inr rfl)) (fun z => absurd z sig_tie) fun _ => ⟨h0, h.lt⟩
theorem Th.go {ss ts zs zs' : List Str} {k : Nat} {x : Str} (h : Th ss ts zs) (hx : ts[k]? = some x) (hz : zs' = zs ∨ (zs' = zs ++ [("+" : Str)] ∧ zs ≠ [] ∧ ts.length + zs.length < 8)) : Th ss (ts.eraseIdx k) (zs' ++ [x]) := by
  obtain ⟨hk, ex⟩ := List.getElem?_eq_some_iff.mp hx
  have hp : (x :: ts.eraseIdx k).Perm ts := perm_pop hx
  have hm : x ∈ ts := by rw [← ex]; exact List.getElem_mem hk
  have hl : (ts.eraseIdx k).length + 1 = ts.length := hp.length_eq
  have xt : x ≠ "+" := (h.th x hm).elim word_tie fun z e => sig_tie (e ▸ z)
  have px : Pc x := (h.th x hm).elim .inl fun z => .inr (.inl z)
  have xc : x ∈ sig → ¬ x ∈ zs := fun z1 z2 => by
    have h1 := h.ct x z1
    rw [List.count_append] at h1
    have h2 := List.count_pos_iff.mpr z2
    have h3 := List.count_pos_iff.mpr hm
    omega
  have ok' : Ok zs' ∧ zs'.length + ts.length ≤ 8 ∧ (∀ y, y ∈ zs → y ∈ zs') ∧ ∀ y, y ∈ zs' → y ≠ "+" → y ∈ zs := by
    rcases hz with rfl | ⟨rfl, h0, h8⟩
    · exact ⟨h.ok, by have := h.le; omega, fun _ z => z, fun _ z _ => z⟩
    · refine ⟨h.tie h0, by rw [List.length_append, List.length_singleton]; omega, fun y z => List.mem_append_left _ z, fun y z n => ?_⟩
      rcases List.mem_append.mp z with z | z
      · exact z
      · exact absurd (List.mem_singleton.mp z) n
  refine ⟨ok'.1.snoc px (fun z1 z2 => xc z1 (ok'.2.2.2 x z2 xt)) fun z => absurd z xt, ?_, ?_, ?_, fun s hs => ?_, fun s hs => ?_, fun t ht => h.th t (hp.subset (List.mem_cons_of_mem _ ht))⟩
  · rw [List.getLast?_append, List.getLast?_singleton]
    exact fun e => xt (Option.some.inj e)
  · rw [List.length_append, List.length_singleton]
    omega
  · obtain ⟨y, hy, wy⟩ := h.wd
    refine ⟨y, ?_, wy⟩
    rcases hy with hy | hy
    · exact .inl (List.mem_append_left _ (ok'.2.2.1 y hy))
    · rcases List.mem_cons.mp (hp.symm.subset hy) with e | hy
      · exact .inl (by rw [e]; exact List.mem_append_right _ (List.mem_singleton.mpr rfl))
      · exact .inr hy
  · rcases h.hs s hs with hy | hy
    · exact .inl (List.mem_append_left _ (ok'.2.2.1 s hy))
    · rcases List.mem_cons.mp (hp.symm.subset hy) with e | hy
      · exact .inl (by rw [e]; exact List.mem_append_right _ (List.mem_singleton.mpr rfl))
      · exact .inr hy
  · have h1 := h.ct s hs
    rw [List.count_append] at h1
    have h2 := hp.count_eq s
    have h3 : zs'.count s = zs.count s := by
      rcases hz with rfl | ⟨rfl, _⟩
      · rfl
      · rw [List.count_append, show (["+"] : List Str).count s = 0 from List.count_eq_zero.mpr fun z => sig_tie (by rw [← List.mem_singleton.mp z]; exact hs)]; rfl
    rw [List.append_assoc, List.count_append, List.singleton_append, h2, h3]
    exact h1
theorem Th.its {ss zs : List Str} (h : Th ss [] zs) : Its zs 8 ∧ (∀ s ∈ ss, s ∈ zs) := by
  obtain ⟨y, hy, wy⟩ := h.wd
  have hy : y ∈ zs := hy.elim id fun z => (nomatch z)
  exact ⟨⟨h.ok, fun e => (by rw [e] at hy; cases hy), h.lt, ⟨y, hy, wy⟩, by have := h.le; simpa using this⟩, fun s hs => (h.hs s hs).elim id fun z => (nomatch z)⟩
abbrev DIt (K : PySem.W.Frag) (mg : Str → Option Value) := Df K mg "_law_items" "_law_items" (top 43) ["_law_script", "_law_at", "_law_words_here", "_law_signs"]
def spIt (K : PySem.W.Frag) : Sp := fun vs H Q _ => ∃ (p q l sg : Addr) (ns : List Int) (c : Nat) (ys ss : List Str), vs = [.ref p, .ref q, .ref l, .ref sg] ∧ Scr K q H p ns ∧ ns.length ≤ 63 ∧ AtOk H q c ∧ c ≤ 900000 ∧ Words H l ys ∧ H sg = some (.lst (ss.map .str)) ∧ ss.Nodup ∧ (∀ s ∈ ss, s ∈ sig) ∧ ss.length ≤ 6 ∧
  ∀ H' it zs, H it = none → KB q H H' → AtOk H' q (c + 40) → H' it = some (.lst (zs.map .str)) → Its zs 8 → (∀ s ∈ ss, s ∈ zs) → Q (.ref it) H'
abbrev nIt : List Str := ["_law_script", "_law_at", "_law_words_here", "_law_signs", "_law_things", "_law_k", "_law_items_here"]
theorem scIt : FnScope nIt ["_law_script", "_law_at", "_law_words_here", "_law_signs"] (defScope (top 43)) := ⟨rfl, rfl, rfl, by decide +kernel, rfl, by decide +kernel, by decide +kernel⟩
theorem ok_it (D : DIt K mg) (D__law_next : DNext K mg) (G__law_next : FnOk P w K mg base CX0 1 D__law_next.f D__law_next.fd ["_law_script", "_law_at"] (spNext K)) (T : Txt K mg a) : FnOk P w K mg base CX0 2 D.f D.fd ["_law_script", "_law_at", "_law_words_here", "_law_signs"] (spIt K) := by
  refine Df.ok (k := 1) D.ex scIt (fun vs H Q E h => ?_) (fun A outer s H vs Q E hr h => ?_)
  · obtain ⟨p, q, l, sg, ns, c, ys, ss, rfl, _⟩ := h; rfl
  · obtain ⟨p, q, l, sg, ns, c, ys, ss, rfl, sc, hlen, ao, hc, wd, hsg, snd, ssg, s6, k⟩ := h
    have nd := scIt.nd
    refine ⟨_, (pss_cons (ps_set (i := 4) nd rfl (Or.inl rfl) (pe_callTy call_list_of (by rfl) T.b_list boot_list (pa_c (pv 3) pa_nil)))
 (pss_cons (ps_for PassesOwn.never rfl (pi_range1 (by rfl) T.b_range (pa_c (pe_op op_add pe_int (pe_op op_mul (pe_op op_fdiv (pe_op op_mod (pe_call G__law_next (hr.mono (by decide)) (by rfl) D__law_next.mg D__law_next.kp D__law_next.bd .nil pass0 (pa_c (pv 0) (pa_c (pv 1) pa_nil))) pe_int) pe_int) (pe_op op_mod (pe_call G__law_next (hr.mono (by decide)) (by rfl) D__law_next.mg D__law_next.kp D__law_next.bd .nil pass0 (pa_c (pv 0) (pa_c (pv 1) pa_nil))) pe_int))) pa_nil)) (pg_name (i := 5) (show List.Nodup (["_law_script", "_law_at", "_law_words_here", "_law_signs", "_law_things", "_law_k", "_law_items_here"] : List Str) from by decide +kernel) rfl (Or.inl rfl))
 (pss_one (ps_if (pt_cmpR op_lt (pe_callB call_len_seq (by rfl) T.b_len boot_len (pa_c (pv 4) pa_nil)) pe_int (nomark _))
 (pss_one (ps_expr (pe_bm PySem.F.plainAttrs_list PySem.F.slot_list_append PySem.F.type_list_append mt_append (pv 4) (pa_c (pe_ix ix_list (pv 2) (pe_op op_mod (pe_call G__law_next (hr.mono (by decide)) (by rfl) D__law_next.mg D__law_next.kp D__law_next.bd .nil pass0 (pa_c (pv 0) (pa_c (pv 1) pa_nil))) (pe_callB call_len_seq (by rfl) T.b_len boot_len (pa_c (pv 2) pa_nil))) (fun _ _ => rfl)) pa_nil))))
 pss_nil)))
 (pss_cons (ps_set (i := 6) nd rfl (Or.inl rfl) (pe_lst pa_nil))
 (pss_cons (ps_while PassesOwn.never (pt_cmpR op_gt (pe_callB call_len_seq (by rfl) T.b_len boot_len (pa_c (pv 4) pa_nil)) pe_int (nomark _))
 (pss_cons (ps_if (pw_and (pt_chain op_lt op_lt pe_int (pe_callB call_len_seq (by rfl) T.b_len boot_len (pa_c (pv 6) pa_nil)) (pe_op op_sub pe_int (pe_callB call_len_seq (by rfl) T.b_len boot_len (pa_c (pv 4) pa_nil)))) (pw_and1 (pt_cmpR op_eq (pe_op op_mod (pe_call G__law_next (hr.mono (by decide)) (by rfl) D__law_next.mg D__law_next.kp D__law_next.bd .nil pass0 (pa_c (pv 0) (pa_c (pv 1) pa_nil))) pe_int) pe_int (nomark _)))).pt
 (pss_one (ps_expr (pe_bm PySem.F.plainAttrs_list PySem.F.slot_list_append PySem.F.type_list_append mt_append (pv 6) (pa_c pe_str pa_nil))))
 pss_nil)
 (pss_one (ps_expr (pe_bm PySem.F.plainAttrs_list PySem.F.slot_list_append PySem.F.type_list_append mt_append (pv 6) (pa_c (pe_bm PySem.F.plainAttrs_list PySem.F.slot_list_pop PySem.F.type_list_pop mt_popAt (pv 4) (pa_c (pe_op op_mod (pe_call G__law_next (hr.mono (by decide)) (by rfl) D__law_next.mg D__law_next.kp D__law_next.bd .nil pass0 (pa_c (pv 0) (pa_c (pv 1) pa_nil))) (pe_callB call_len_seq (by rfl) T.b_len boot_len (pa_c (pv 4) pa_nil))) pa_nil)) pa_nil))))))
 (pss_one (ps_ret (pv 6))))))), ?_⟩
    (repeat array_get_dec)
    refine ⟨sg, _, rfl, .inl (SqL.of hsg), fun th hth => ?_⟩
    (repeat array_get_dec)
    have sT := Same.upd (o := .lst (ss.map V.str)) hth
    have gT : (upd H th (.lst (ss.map V.str))) th = some (.lst (ss.map V.str)) := upd_same
    generalize upd H th _ = H1 at sT gT ⊢
    refine ⟨p, q, ns, c, rfl, sc.kb (.of sT), hlen, ao.same sT, by omega, fun H2 n n0 n1 kb2 ao2 => ?_⟩
    (repeat array_get_dec)
    refine ⟨p, q, ns, c + 1, rfl, (sc.kb (.of sT)).kb kb2, hlen, ao2, by omega, fun H3 m m0 m1 kb3 ao3 => ?_⟩
    (repeat array_get_dec)
    refine w_I (.inr ⟨by omega, by omega⟩) ?_
    (repeat array_get_dec)
    have nm : 0 ≤ n % 3 / 2 ∧ n % 3 / 2 ≤ 1 := by omega
    have mm : 0 ≤ m % 3 ∧ m % 3 ≤ 2 := by omega
    have jm : 1 ≤ 1 + n % 3 / 2 * (m % 3) ∧ 1 + n % 3 / 2 * (m % 3) ≤ 3 := by
      generalize n % 3 / 2 = u at nm ⊢
      rcases (show u = 0 ∨ u = 1 by omega) with rfl | rfl <;> omega
    generalize 1 + n % 3 / 2 * (m % 3) = j at jm ⊢
    have kb : KB q H H3 := (KB.of sT).trans (kb2.trans kb3)
    have tq : th ≠ q := at_strs (ao.same sT) gT
    have g3 : H3 th = some (.lst (ss.map V.str)) := kb3 _ _ tq (kb2 _ _ tq gT)
    clear nm mm kb3 kb2 ao2 sT gT
    refine ⟨j, rfl, by omega, by omega, ?_⟩
    refine forR (fun i σ H4 => ∃ v5 ws, σ = [some (V.ref p), some (V.ref q), some (V.ref l), some (V.ref sg), some (V.ref th), v5, none] ∧ KB q H H4 ∧ AtOk H4 q (c + 2 + i) ∧ H4 th = some (.lst ((ss ++ ws).map V.str)) ∧ (∀ y ∈ ws, wordS y = true) ∧ ws.length ≤ i ∧ ss.length + ws.length ≤ 8 ∧ (0 < i → ws ≠ [])) ⟨none, [], rfl, kb, ao3, by rw [List.append_nil]; exact g3, fun _ h => (nomatch h), Nat.le_refl _, by simp; omega, fun h => (absurd h (by decide))⟩ ?_ ?_
    · rintro i σ H4 hi ⟨v5, ws, rfl, kb4, ao4, g4, w4, l4, l8, n4⟩
      (repeat array_get_dec)
      refine ⟨th, _, rfl, .inl (SqL.of g4), ?_⟩
      (repeat array_get_dec)
      refine w_ite (fun z => ?_) (fun z => ?_)
      · have z := of_decide_eq_true z
        rw [List.length_map, List.length_append] at z
        (repeat array_get_dec)
        have wd4 := wd.kb ao kb4
        refine ⟨.inl ⟨rfl, _, SqL.of g4⟩, ?_⟩
        (repeat array_get_dec)
        refine ⟨p, q, ns, c + 2 + i, rfl, sc.kb kb4, hlen, ao4, by omega, fun H5 r r0 r1 kb5 ao5 => ?_⟩
        have wd5 := wd4.kb ao4 kb5
        have g5 := kb5 _ _ tq g4
        (repeat array_get_dec)
        refine ⟨l, _, rfl, .inl (SqL.of wd5.1), ?_⟩
        refine w_mod wd5.pos ?_
        obtain ⟨y, hy, ey⟩ := wd5.pick r
        refine ⟨l, _, _, _, rfl, rfl, SqL.of wd5.1, ey, ?_⟩
        (repeat array_get_dec)
        refine ⟨th, _, _, rfl, rfl, g5, by rw [List.length_map, List.length_append]; exact le_line (by omega), ?_⟩
        refine ⟨_, ws ++ [y], rfl, ?_, ?_, ?_, ?_, ?_, ?_, ?_⟩
        · exact (kb4.trans kb5).trans_new hth
        · exact at_put ao5 tq
        · rw [upd_same, ← List.append_assoc, List.map_append (l₁ := ss ++ ws)]; rfl
        · intro y' h
          rcases List.mem_append.mp h with h | h
          · exact w4 y' h
          · rw [List.mem_singleton.mp h]; exact wd5.2.2.2 y hy
        · rw [List.length_append, List.length_singleton]; omega
        · rw [List.length_append, List.length_singleton]; omega
        · intro _ e
          have := congrArg List.length e
          simp at this
      · have z := of_decide_eq_false z
        rw [List.length_map, List.length_append] at z
        (repeat array_get_dec)
        exact ⟨_, ws, rfl, kb4, ao4.mono (by omega), g4, w4, by omega, l8, fun _ e => by rw [e] at z; simp at z; omega⟩
    · rintro σ H4 ⟨v5, ws, rfl, kb4, ao4, g4, w4, l4, l8, n4⟩
      (repeat array_get_dec)
      refine ⟨by show 0 ≤ sizeLine; decide, fun it hit => ?_⟩
      (repeat array_get_dec)
      have ht0 : H it = none := KB.free kb4 ao4 hit
      have itq : it ≠ q := fun e => by
        obtain ⟨_, _, hq, _⟩ := ao4.ob
        rw [e, hq] at hit; cases hit
      have ith : th ≠ it := ne_of_none g4 hit
      have n4 := n4 (by omega)
      have ws3 : ws.length ≤ 3 := by omega
      refine ⟨fun m σ H5 => ∃ ts zs, m = ts.length ∧ σ = [some (V.ref p), some (V.ref q), some (V.ref l), some (V.ref sg), some (V.ref th), v5, some (V.ref it)] ∧ KB q H H5 ∧ AtOk H5 q (c + 5 + 2 * (9 - ts.length)) ∧ H5 th = some (.lst (ts.map V.str)) ∧ H5 it = some (.lst (zs.map V.str)) ∧ Th ss ts zs, ⟨_, ss ++ ws, [], rfl, rfl, ?_, ?_, ?_, upd_same, ?_⟩, ?_⟩
      · exact kb4.trans_new ht0
      · refine at_put (ao4.mono ?_) itq
        rw [List.length_append]; omega
      · rw [upd_ne ith]; exact g4
      · refine ⟨.nil, by simp, by rw [List.length_append]; simp; omega, ?_, fun s hs => .inr (List.mem_append_left _ hs), fun s hs => ?_, fun t ht => ?_⟩
        · obtain ⟨y, hy⟩ := List.exists_mem_of_ne_nil _ n4
          exact ⟨y, .inr (List.mem_append_right _ hy), w4 y hy⟩
        · rw [List.nil_append, List.count_append, show ws.count s = 0 from List.count_eq_zero.mpr fun z => word_sig (w4 s z) hs]
          exact List.nodup_iff_count.mp snd s
        · rcases List.mem_append.mp ht with ht | ht
          · exact .inr (ssg t ht)
          · exact .inl (w4 t ht)
      rintro m _ H5 ⟨ts, zs, rfl, rfl, kb5, ao5, g5, i5, th5⟩
      (repeat array_get_dec)
      refine ⟨th, _, rfl, .inl (SqL.of g5), ?_⟩
      (repeat array_get_dec)
      refine w_ite (fun z => ?_) (fun z => ?_)
      · have z := of_decide_eq_true z
        rw [List.length_map] at z
        refine ⟨fun σ' H' => ∃ m', m' < ts.length ∧ ∃ ts' zs, m' = ts'.length ∧ σ' = [some (V.ref p), some (V.ref q), some (V.ref l), some (V.ref sg), some (V.ref th), v5, some (V.ref it)] ∧ KB q H H' ∧ AtOk H' q (c + 5 + 2 * (9 - ts'.length)) ∧ H' th = some (.lst (ts'.map V.str)) ∧ H' it = some (.lst (zs.map V.str)) ∧ Th ss ts' zs, fun σ' H' h => h, ?_⟩
        have h8 := th5.le
        array_get_dec
        refine w_cut (fun σ2 H6 => ∃ zs', σ2 = [some (V.ref p), some (V.ref q), some (V.ref l), some (V.ref sg), some (V.ref th), v5, some (V.ref it)] ∧ KB q H H6 ∧ AtOk H6 q (c + 5 + 2 * (9 - ts.length) + 1) ∧ H6 th = some (.lst (ts.map V.str)) ∧ H6 it = some (.lst (zs'.map V.str)) ∧ (zs' = zs ∨ (zs' = zs ++ [("+" : Str)] ∧ zs ≠ [] ∧ ts.length + zs.length < 8))) (fun nx' hj => ?_) ?_
        · (repeat array_get_dec)
          refine ⟨it, _, rfl, .inl (SqL.of i5), ?_⟩
          (repeat array_get_dec)
          refine w_ite (fun z1 => ?_) (fun z1 => ?_)
          · have z1 := of_decide_eq_true z1
            rw [List.length_map] at z1
            (repeat array_get_dec)
            refine ⟨th, _, rfl, .inl (SqL.of g5), ?_⟩
            (repeat array_get_dec)
            refine w_ite (fun z2 => ?_) (fun z2 => ?_)
            · have z2 := of_decide_eq_true z2
              rw [List.length_map, List.length_map] at z2
              (repeat array_get_dec)
              refine ⟨p, q, ns, _, rfl, sc.kb kb5, hlen, ao5, by omega, fun H6 r r0 r1 kb6 ao6 => ?_⟩
              have g6 := kb6 _ _ tq g5
              have i6 := kb6 _ _ itq i5
              (repeat array_get_dec)
              refine w_ite (fun z3 => ?_) (fun z3 => ?_)
              · (repeat array_get_dec)
                refine ⟨.inl ⟨rfl, _, SqL.of i6⟩, ?_⟩
                (repeat array_get_dec)
                refine ⟨it, _, _, rfl, rfl, i6, by rw [List.length_map]; exact le_line (by omega), ?_⟩
                refine hj _ _ ⟨zs ++ [("+" : Str)], rfl, (kb5.trans kb6).trans_new ht0, at_put ao6 itq, by rw [upd_ne ith]; exact g6, by rw [upd_same, List.map_append]; rfl, .inr ⟨rfl, fun e => by rw [e] at z1; simp at z1, by omega⟩⟩
              · (repeat array_get_dec)
                exact hj _ _ ⟨zs, rfl, kb5.trans kb6, ao6, g6, i6, .inl rfl⟩
            · (repeat array_get_dec)
              exact hj _ _ ⟨zs, rfl, kb5, ao5.mono (by omega), g5, i5, .inl rfl⟩
          · (repeat array_get_dec)
            exact hj _ _ ⟨zs, rfl, kb5, ao5.mono (by omega), g5, i5, .inl rfl⟩
        · rintro _ H6 ⟨zs', rfl, kb6, ao6, g6, i6, hz⟩
          (repeat array_get_dec)
          refine ⟨.inl ⟨rfl, _, SqL.of i6⟩, ?_⟩
          (repeat array_get_dec)
          refine ⟨.inl ⟨rfl, _, SqL.of g6⟩, ?_⟩
          (repeat array_get_dec)
          refine ⟨p, q, ns, _, rfl, sc.kb kb6, hlen, ao6, by omega, fun H7 r r0 r1 kb7 ao7 => ?_⟩
          have g7 := kb7 _ _ tq g6
          have i7 := kb7 _ _ itq i6
          (repeat array_get_dec)
          refine ⟨th, _, rfl, .inl (SqL.of g7), ?_⟩
          have tp : (0 : Int) < ((ts.map V.str).length : Nat) := by rw [List.length_map]; exact z
          refine w_mod tp ?_
          (repeat array_get_dec)
          have r2 := mod_ge r tp
          have r3 := mod_lt r tp
          rw [List.length_map] at r2 r3 ⊢
          generalize r % (ts.length : Int) = u at r2 r3 ⊢
          have hk : u.toNat < ts.length := by omega
          have hx : ts[u.toNat]? = some ts[u.toNat] := List.getElem?_eq_getElem hk
          refine ⟨th, _, u, u.toNat, .str ts[u.toNat], rfl, rfl, g7, by omega, by omega, ?_, by rw [List.getElem?_map, hx]; rfl, ?_⟩
          · have e : (if u < 0 then u + ((ts.map V.str).length : Nat) else u) = u := if_neg (by omega)
            show (if (decide (0 ≤ (if u < 0 then u + ((ts.map V.str).length : Nat) else u)) && decide ((if u < 0 then u + ((ts.map V.str).length : Nat) else u) < ((ts.map V.str).length : Nat))) = true then some (if u < 0 then u + ((ts.map V.str).length : Nat) else u).toNat else none) = some u.toNat
            rw [e, decide_eq_true r2, decide_eq_true (by rw [List.length_map]; exact r3)]; rfl
          (repeat array_get_dec)
          refine ⟨it, _, _, rfl, rfl, by rw [upd_ne (Ne.symm ith)]; exact i7, ?_, ?_⟩
          · rw [List.length_map]
            rcases hz with rfl | ⟨rfl, _, h⟩
            · exact le_line (by omega)
            · rw [List.length_append, List.length_singleton]; exact le_line (by omega)
          have el : (ts.eraseIdx u.toNat).length + 1 = ts.length := (perm_pop hx).length_eq
          refine ⟨_, ?_, ts.eraseIdx u.toNat, zs' ++ [ts[u.toNat]], rfl, rfl, ?_, ?_, ?_, ?_, th5.go hx hz⟩
          · omega
          · exact KB.trans_new (KB.trans_new (kb6.trans kb7) hth) ht0
          · refine at_put (at_put (ao7.mono ?_) tq) itq
            omega
          · rw [upd_ne ith, upd_same, map_erase]
          · rw [upd_same, List.map_append]; rfl
      · have z := of_decide_eq_false z
        rw [List.length_map] at z
        obtain rfl : ts = [] := List.length_eq_zero_iff.mp (by omega)
        (repeat array_get_dec)
        obtain ⟨h1, h2⟩ := th5.its
        exact k H5 it zs ht0 kb5 (ao5.mono (by show c + 5 + 2 * (9 - 0) ≤ c + 40; omega)) i5 h1 h2
end
end K32

namespace L2
open PySem PySem.Spec PyProof.Rows
/-- a comprehension over a text, with a test, by what is known of the items made and of the heap -/
theorem lcS {nN : Nat} {fs : List (Nat × Nat)} {tc : TT} {te : TE} {σ : St} {H : Hp} {QD : Addr → Hp → Prop} {z : Str} (W : Addr → Nat → List V → Hp → Prop) (hn : z.cps.size ≤ sizeLine) (h1 : (tau nN fs σ)[0]? = some none) (h0 : ∀ D, H D = none → W D 0 [] (upd H D (.lst [])))
    (ht : ∀ D (i : Nat) c ys H2, z.cps[i]? = some c → H D = none → W D i ys H2 → H2 D = some (.lst ys) → tc ((tau nN fs σ).set 0 (some (.str ⟨#[c]⟩))) H2 fun b H5 => if b = true then te ((tau nN fs σ).set 0 (some (.str ⟨#[c]⟩))) H5 fun v H6 => H6 D = some (.lst ys) ∧ W D (i + 1) (ys ++ [v]) (upd H6 D (.lst (ys ++ [v]))) else H5 D = some (.lst ys) ∧ W D (i + 1) ys H5)
    (hQ : ∀ D H2 ys, H D = none → W D z.cps.size ys H2 → H2 D = some (.lst ys) → QD D H2) :
    ∀ D, H D = none → ∃ (n' : Nat) (W : Nat → List V → Hp → Prop), n' ≤ sizeLine ∧ W 0 [] (upd H D (.lst [])) ∧
      ∀ i ys H2, i ≤ n' → W i ys H2 → H2 D = some (.lst ys) → ((Its z).stop i H2 ∧ QD D H2) ∨ (i < n' ∧ (Its z).go i H2 ∧ ∀ x H3, (Its z).yld i H2 x H3 → gName 0 x (tau nN fs σ) H3 fun τ4 H4 =>
        (∀ (j : Nat) v, (tau nN fs σ)[j]? = some (some v) → τ4[j]? = some (some v)) ∧ tc τ4 H4 fun b H5 =>
          if b = true then te τ4 H5 fun v H6 => H6 D = some (.lst ys) ∧ W (i + 1) (ys ++ [v]) (upd H6 D (.lst (ys ++ [v]))) else H5 D = some (.lst ys) ∧ W (i + 1) ys H5) := by
  intro D hD
  refine ⟨z.cps.size, W D, hn, h0 D hD, fun i ys H2 hi w2 e2 => ?_⟩
  rcases Nat.lt_or_ge i z.cps.size with hlt | hge
  · refine .inr ⟨hlt, hlt, fun x H3 y => ?_⟩
    obtain ⟨e, c, hc, ex⟩ := y
    subst e ex
    refine w_gName ⟨mono0 h1, ?_⟩
    exact ht D i c ys _ hc hD w2 e2
  · have : i = z.cps.size := by omega
    subst this
    exact .inl ⟨Nat.le_refl _, hQ D H2 ys hD w2 e2⟩
end L2
namespace K32
open PySem PySem.Spec PyProof.Rows L2
/-- a rule's numbers and items, where its tuple and its items lie -/
structure RD where
  l : Int
  h : Int
  b : Int
  f : Int
  e : Int
  ys : List Str
  t : Addr
  it : Addr
def RD.at (r : RD) (H : Hp) : Prop := H r.t = some (.tup [.int r.l, .int r.h, .int r.b, .int r.f, .int r.e, .ref r.it]) ∧ H r.it = some (.lst (r.ys.map .str))
structure RD.ok (r : RD) : Prop where
  ro : ruleOk r.l r.h r.b r.f r.e r.ys = true
  it : Its r.ys 8
  l : 0 ≤ r.l ∧ r.l < 10 ^ 61
  h : 0 ≤ r.h ∧ r.h < 10 ^ 61
  b : 2 ≤ r.b ∧ r.b < 10 ^ 61
  f : 0 ≤ r.f ∧ r.f < 10 ^ 61
  e : 0 ≤ r.e ∧ r.e < 10 ^ 61
theorem RD.at.same {r : RD} {H H' : Hp} (h : r.at H) (s : Same H H') : r.at H' := ⟨s _ _ h.1, s _ _ h.2⟩
theorem at_ne {H : Hp} {q c : Addr} {n : Nat} {o : HO} (ao : AtOk H q n) (h : H c = some o) (ho : ∀ i j : Int, o ≠ .lst [.int i, .int j]) : c ≠ q := fun e => by
  obtain ⟨i, j, hq, _⟩ := ao.ob
  rw [e, hq] at h
  exact ho i j (Option.some.inj h).symm
theorem refs_ne {ts : List Addr} (i j : Int) : HO.lst (ts.map .ref) ≠ .lst [.int i, .int j] := fun e => by
  cases ts with
  | nil => injection e with e; cases e
  | cons t r => injection e with e; injection e with e _; cases e
theorem RD.at.kb {r : RD} {H H' : Hp} {q : Addr} {c : Nat} (h : r.at H) (ao : AtOk H q c) (k : KB q H H') : r.at H' := ⟨k _ _ (at_ne ao h.1 fun _ _ z => by cases z) h.1, k _ _ (at_strs ao h.2) h.2⟩
theorem has_of {sg ys : List Str} {s : Str} (h1 : s ∈ sg) (h2 : s ∈ ys) : hasS sg ys = true := List.any_eq_true.mpr ⟨s, h1, inV_iff.mpr h2⟩
theorem rule_is {l h b f e : Int} {ys : List Str} (i : Its ys 8) (h1 : 0 ≤ l) (h2 : l ≤ h) (h3 : 2 ≤ b) (h4 : 0 ≤ f) (h5 : f ≤ e) (h6 : e < b) (t1 : f ≠ e → hasS ["R", "K"] ys = true) (t2 : l / b ≠ h / b → hasS ["Q", "N", "W", "U"] ys = true) : ruleOk l h b f e ys = true := by
  unfold ruleOk numsOk tellOk
  rw [i.pieces, decide_eq_false (show ¬ l < 0 by omega), decide_eq_false (show ¬ h < l by omega), decide_eq_false (show ¬ b < 2 by omega), decide_eq_false (show ¬ f < 0 by omega), decide_eq_false (show ¬ e < f by omega), decide_eq_false (show ¬ b ≤ e by omega)]
  by_cases z1 : f = e
  · rw [decide_eq_true z1]
    by_cases z2 : l / b = h / b
    · rw [decide_eq_true z2]; rfl
    · rw [decide_eq_false z2, t2 z2]; rfl
  · rw [decide_eq_false z1, t1 z1]
    by_cases z2 : l / b = h / b
    · rw [decide_eq_true z2]; rfl
    · rw [decide_eq_false z2, t2 z2]; rfl
theorem rd_ok {l h b f e : Int} {ys : List Str} {t it : Addr} (i : Its ys 8) (h1 : 0 ≤ l) (h2 : l ≤ h) (h3 : 2 ≤ b) (h4 : 0 ≤ f) (h5 : f ≤ e) (h6 : e < b) (h7 : h < 10 ^ 61) (h8 : b < 10 ^ 61) (t1 : f ≠ e → hasS ["R", "K"] ys = true) (t2 : l / b ≠ h / b → hasS ["Q", "N", "W", "U"] ys = true) : RD.ok ⟨l, h, b, f, e, ys, t, it⟩ :=
  ⟨rule_is i h1 h2 h3 h4 h5 h6 t1 t2, i, ⟨h1, Int.lt_of_le_of_lt h2 h7⟩, ⟨Int.le_trans h1 h2, h7⟩, ⟨h3, h8⟩, ⟨h4, Int.lt_of_le_of_lt h5 (Int.lt_trans h6 h8)⟩, ⟨Int.le_trans h4 h5, Int.lt_trans h6 h8⟩⟩
def four : List Str := ["Q", "N", "W", "U"]
theorem four_at : ∀ (i c : Nat), ("QNWU" : Str).cps[i]? = some c → four[i]? = some ⟨#[c]⟩
  | 0, c, h => by have : (81 : Nat) = c := Option.some.inj ((show ("QNWU" : Str).cps[0]? = some 81 by decide +kernel).symm.trans h); subst this; rfl
  | 1, c, h => by have : (78 : Nat) = c := Option.some.inj ((show ("QNWU" : Str).cps[1]? = some 78 by decide +kernel).symm.trans h); subst this; rfl
  | 2, c, h => by have : (87 : Nat) = c := Option.some.inj ((show ("QNWU" : Str).cps[2]? = some 87 by decide +kernel).symm.trans h); subst this; rfl
  | 3, c, h => by have : (85 : Nat) = c := Option.some.inj ((show ("QNWU" : Str).cps[3]? = some 85 by decide +kernel).symm.trans h); subst this; rfl
  | i + 4, c, h => by
    have e4 : ("QNWU" : Str).cps.size = 4 := by decide +kernel
    have e : ("QNWU" : Str).cps[i + 4]? = none := Array.getElem?_eq_none (by omega)
    rw [e] at h; cases h
theorem cut_RK {k : Int} (h0 : 0 ≤ k) (h3 : k < 3) : ∃ ss : List Str, cutV [V.str "R", .str "K"] none (some k) = ss.map V.str ∧ ss.Nodup ∧ ∀ s ∈ ss, s ∈ (["R", "K"] : List Str) := by
  rcases (show k = 0 ∨ k = 1 ∨ k = 2 by omega) with rfl | rfl | rfl
  · exact ⟨[], rfl, by simp, fun _ h => (nomatch h)⟩
  · exact ⟨["R"], rfl, by simp, fun s h => by rw [List.mem_singleton.mp h]; simp⟩
  · exact ⟨["R", "K"], rfl, by decide +kernel, fun s h => h⟩
theorem pick_RK (i : Int) : ∃ c, atI ("RK" : Str).cps.toList (i % 2) = some c ∧ (⟨#[c]⟩ : Str) ∈ (["R", "K"] : List Str) := by
  rcases (show i % 2 = 0 ∨ i % 2 = 1 by omega) with h | h <;> rw [h]
  · exact ⟨82, by decide +kernel, by decide +kernel⟩
  · exact ⟨75, by decide +kernel, by decide +kernel⟩
theorem pick_four (i : Int) : ∃ c, atI ("QNWU" : Str).cps.toList (i % 4) = some c ∧ (⟨#[c]⟩ : Str) ∈ four := by
  rcases (show i % 4 = 0 ∨ i % 4 = 1 ∨ i % 4 = 2 ∨ i % 4 = 3 by omega) with h | h | h | h <;> rw [h]
  · exact ⟨81, by decide +kernel, by decide +kernel⟩
  · exact ⟨78, by decide +kernel, by decide +kernel⟩
  · exact ⟨87, by decide +kernel, by decide +kernel⟩
  · exact ⟨85, by decide +kernel, by decide +kernel⟩
theorem log_ok {x : Int} (h0 : 0 ≤ x) (h : x < 10 ^ 62) : x.natAbs.log2 < 250 := by
  rcases Nat.eq_zero_or_pos x.natAbs with z | z
  · rw [z]; decide
  · refine (Nat.log2_lt (by omega)).mpr ?_
    have : (10 : Nat) ^ 62 < 2 ^ 250 := by decide
    omega
theorem rk_four {s : Str} (h1 : s ∈ (["R", "K"] : List Str)) (h2 : s ∈ four) : False := by
  unfold four at h2
  simp only [List.mem_cons, List.not_mem_nil, or_false] at h1
  rcases h1 with rfl | rfl
  · exact absurd h2 (by decide +kernel)
  · exact absurd h2 (by decide +kernel)
theorem rk_sig {s : Str} (h : s ∈ (["R", "K"] : List Str)) : s ∈ sig := by
  simp only [List.mem_cons, List.not_mem_nil, or_false] at h
  rcases h with rfl | rfl <;> decide +kernel
theorem four_sig {s : Str} (h : s ∈ four) : s ∈ sig := by
  unfold four at h
  simp only [List.mem_cons, List.not_mem_nil, or_false] at h
  rcases h with rfl | rfl | rfl | rfl <;> decide +kernel
theorem its_one {y : Str} (h : wordS y = true) : Its [y] 8 := ⟨by have := Ok.nil.snoc (x := y) (.inl h) (fun z => absurd z (word_sig h)) (fun z => absurd z (word_tie h)); exact this, by simp, fun e => word_tie h (Option.some.inj e), ⟨y, List.mem_singleton.mpr rfl, h⟩, by simp⟩
section
variable {P : Program} {w : World} {K : PySem.W.Frag} {mg : Str → Option Value} {base : Heap} {a : Ad}
/-! ### _law_rule -/
abbrev DRu (K : PySem.W.Frag) (mg : Str → Option Value) := Df K mg "_law_rule" "_law_rule" (top 44) ["_law_script", "_law_at", "_law_words_here", "_law_small"]
def spRu (K : PySem.W.Frag) : Sp := fun vs H Q _ => ∃ (p q l : Addr) (b : Bool) (ns : List Int) (c : Nat) (ys : List Str), vs = [.ref p, .ref q, .ref l, .bl b] ∧ Scr K q H p ns ∧ ns.length ≤ 63 ∧ AtOk H q c ∧ c ≤ 800000 ∧ Words H l ys ∧
  ∀ H' r, H r.t = none → KB q H H' → AtOk H' q (c + 60) → RD.at r H' → RD.ok r → Q (.ref r.t) H'
abbrev nRu : List Str := ["_law_script", "_law_at", "_law_words_here", "_law_small", "_law_n", "_law_low", "_law_base", "_law_high", "_law_first", "_law_last", "_law_signs", "_law_more"]
theorem scRu : FnScope nRu ["_law_script", "_law_at", "_law_words_here", "_law_small"] (defScope (top 44)) := ⟨rfl, rfl, rfl, by decide +kernel, rfl, by decide +kernel, by decide +kernel⟩
theorem ok_ru (D : DRu K mg) (D__law_next : DNext K mg) (G__law_next : FnOk P w K mg base CX0 1 D__law_next.f D__law_next.fd ["_law_script", "_law_at"] (spNext K)) (D__law_great : DGr K mg) (G__law_great : FnOk P w K mg base CX0 2 D__law_great.f D__law_great.fd ["_law_script", "_law_at"] (spGr K))
    (D__law_items : DIt K mg) (G__law_items : FnOk P w K mg base CX0 2 D__law_items.f D__law_items.fd ["_law_script", "_law_at", "_law_words_here", "_law_signs"] (spIt K)) (T : Txt K mg a) : FnOk P w K mg base CX0 3 D.f D.fd ["_law_script", "_law_at", "_law_words_here", "_law_small"] (spRu K) := by
  refine Df.ok (k := 2) D.ex scRu (fun vs H Q E h => ?_) (fun A outer s H vs Q E hr h => ?_)
  · obtain ⟨p, q, l, b, ns, c, ys, rfl, _⟩ := h; rfl
  · obtain ⟨p, q, l, b, ns, c, ys, rfl, sc, hlen, ao, hc, wd, k⟩ := h
    have nd := scRu.nd
    have hu := Nat.lt_of_succ_lt (hu_of hr)
    refine ⟨_, (pss_cons (ps_set (i := 4) nd rfl (Or.inl rfl) (pe_call G__law_next (hr.mono (by decide)) (by rfl) D__law_next.mg D__law_next.kp D__law_next.bd .nil pass0 (pa_c (pv 0) (pa_c (pv 1) pa_nil))))
 (pss_cons (ps_set (i := 5) nd rfl (Or.inl rfl) (pe_op op_mod (pe_op op_fdiv (pv 4) pe_int) pe_int))
 (pss_cons (ps_set (i := 6) nd rfl (Or.inl rfl) (pe_op op_add pe_int (pe_op op_mod (pe_op op_fdiv (pv 4) pe_int) pe_int)))
 (pss_cons (ps_if (pw_and (pt_not (pt_val (pv 3))) (pw_and1 (pt_cmpR op_gt (pe_op op_mod (pv 4) pe_int) pe_int (nomark _)))).pt
 (pss_cons (ps_set (i := 5) nd rfl (Or.inl rfl) (pe_op op_fdiv (pe_op op_mul (pe_call G__law_great (hr.mono (by decide)) (by rfl) D__law_great.mg D__law_great.kp D__law_great.bd .nil pass0 (pa_c (pv 0) (pa_c (pv 1) pa_nil))) pe_int) pe_int))
 (pss_one (ps_set (i := 6) nd rfl (Or.inl rfl) (pe_op op_add pe_int (pe_op op_fdiv (pe_op op_mul (pe_call G__law_great (hr.mono (by decide)) (by rfl) D__law_great.mg D__law_great.kp D__law_great.bd .nil pass0 (pa_c (pv 0) (pa_c (pv 1) pa_nil))) pe_int) pe_int)))))
 pss_nil)
 (pss_cons (ps_if (pt_cmpR op_eq (pe_op op_mod (pv 4) pe_int) pe_int (nomark _))
 (pss_one (ps_ret (pe_tup (pa_c (pv 5) (pa_c (pv 5) (pa_c pe_int (pa_c (pe_op op_mod (pv 5) pe_int) (pa_c (pe_op op_mod (pv 5) pe_int) (pa_c (pe_lst (pa_c (pe_ix ix_list (pv 2) (pe_op op_mod (pe_op op_fdiv (pv 4) pe_int) (pe_callB call_len_seq (by rfl) T.b_len boot_len (pa_c (pv 2) pa_nil))) (fun _ _ => rfl)) pa_nil)) pa_nil)))))))))
 pss_nil)
 (pss_cons (ps_set (i := 7) nd rfl (Or.inl rfl) (pe_op op_add (pv 5) (pe_ix ix_list (pe_lst (pa_c pe_int (pa_c pe_int (pa_c (pe_op op_mod (pv 4) pe_int) pa_nil)))) (pe_op op_mod (pe_op op_fdiv (pv 4) pe_int) pe_int) (fun _ _ => rfl))))
 (pss_cons (ps_set (i := 8) nd rfl (Or.inl rfl) (pe_op op_mod (pv 5) (pv 6)))
 (pss_cons (ps_set (i := 9) nd rfl (Or.inl rfl) (pv 8))
 (pss_cons (ps_if (pt_cmpR op_gt (pe_op op_mod (pe_op op_fdiv (pv 4) pe_int) pe_int) pe_int (nomark _))
 (pss_cons (ps_set (i := 8) nd rfl (Or.inl rfl) (pe_op op_mod (pe_call G__law_next (hr.mono (by decide)) (by rfl) D__law_next.mg D__law_next.kp D__law_next.bd .nil pass0 (pa_c (pv 0) (pa_c (pv 1) pa_nil))) (pv 6)))
 (pss_one (ps_set (i := 9) nd rfl (Or.inl rfl) (pe_op op_add (pv 8) (pe_op op_mod (pe_ix ix_list (pe_lst (pa_c pe_int (pa_c (pe_op op_mod (pv 4) pe_int) pa_nil))) (pe_op op_mod (pe_op op_fdiv (pv 4) pe_int) pe_int) (fun _ _ => rfl)) (pe_op op_sub (pv 6) (pv 8)))))))
 pss_nil)
 (pss_cons (ps_set (i := 10) nd rfl (Or.inl rfl) (pe_slice sl_list (pe_lst (pa_c pe_str (pa_c pe_str pa_nil))) po_none (po_some (pe_op op_mod (pe_op op_fdiv (pv 4) pe_int) pe_int))))
 (pss_cons (ps_if (pw_and (pt_cmpR op_ne (pv 8) (pv 9) (nomark _)) (pw_and1 (pt_cmpR (op_eqL hu) (pv 10) (pe_lst pa_nil) (nomark _)))).pt
 (pss_one (ps_set (i := 10) nd rfl (Or.inl rfl) (pe_lst (pa_c (pe_ix ix_str pe_str (pe_op op_mod (pe_op op_fdiv (pv 4) pe_int) pe_int) (fun _ _ => rfl)) pa_nil))))
 pss_nil)
 (pss_cons (ps_setLC (i := 11) nd rfl (Or.inl rfl) (N := ["_law_sign", "_law_script", "_law_at"]) (fs := [(1, 0), (2, 1)]) (⟨rfl, by rfl, by rfl, by rfl, ⟨⟨_, rfl, rfl, rfl, Or.inl rfl⟩, ⟨⟨_, rfl, rfl, rfl, Or.inl rfl⟩, trivial⟩⟩⟩) rfl (pi_str pe_str) (fun _ _ _ _ _ => (pg_name (i := 0) (show List.Nodup (["_law_sign", "_law_script", "_law_at"] : List Str) from by decide +kernel) rfl (Or.inl rfl))) (fun _ _ _ _ _ => by exact (pts_one (pt_cmpR op_eq (pe_op op_mod (pe_call G__law_next (hr.mono (by decide)) (by rfl) D__law_next.mg D__law_next.kp D__law_next.bd .nil pass0 (pa_c (pv 1) (pa_c (pv 2) pa_nil))) pe_int) pe_int (nomark _)))) (fun _ _ _ _ _ => by exact (pv 0)))
 (pss_cons (ps_if (pw_and (pt_cmpR op_ne (pe_op op_fdivB (pv 5) (pv 6)) (pe_op op_fdivB (pv 7) (pv 6)) (nomark _)) (pw_and1 (pt_cmpR (op_eqL hu) (pv 11) (pe_lst pa_nil) (nomark _)))).pt
 (pss_one (ps_set (i := 11) nd rfl (Or.inl rfl) (pe_lst (pa_c (pe_ix ix_str pe_str (pe_op op_mod (pe_op op_fdiv (pv 4) pe_int) pe_int) (fun _ _ => rfl)) pa_nil))))
 pss_nil)
 (pss_one (ps_ret (pe_tup (pa_c (pv 5) (pa_c (pv 7) (pa_c (pv 6) (pa_c (pv 8) (pa_c (pv 9) (pa_c (pe_call G__law_items (hr.mono (by decide)) (by rfl) D__law_items.mg D__law_items.kp D__law_items.bd .nil pass0 (pa_c (pv 0) (pa_c (pv 1) (pa_c (pv 2) (pa_c (pe_op op_cat (pv 10) (pv 11)) pa_nil))))) pa_nil)))))))))))))))))))))), ?_⟩
    (repeat array_get_dec)
    refine ⟨p, q, ns, c, rfl, sc, hlen, ao, by omega, fun H1 n n0 n1 kb1 ao1 => ?_⟩
    (repeat array_mem_dec)
    have hA : 0 ≤ n / 9 % 100 ∧ n / 9 % 100 < 10 ^ 60 := by omega
    have hB : 2 ≤ 2 + n / 900 % 30 ∧ 2 + n / 900 % 30 ≤ 10 ^ 60 + 1 := by omega
    generalize n / 9 % 100 = low0 at hA ⊢
    generalize 2 + n / 900 % 30 = base0 at hB ⊢
    show tIfS _ _ _ _ [some (V.ref p), some (V.ref q), some (V.ref l), some (V.bl b), some (V.int n), some (V.int low0), some (V.int base0), none, none, none, none, none] H1
    refine w_cut (fun σ2 H2 => ∃ low bs : Int, σ2 = [some (V.ref p), some (V.ref q), some (V.ref l), some (V.bl b), some (V.int n), some (V.int low), some (V.int bs), none, none, none, none, none] ∧ KB q H H2 ∧ AtOk H2 q (c + 3) ∧ 0 ≤ low ∧ low < 10 ^ 60 ∧ 2 ≤ bs ∧ bs ≤ 10 ^ 60 + 1) (fun nx' hj => ?_) ?_
    · (repeat array_get_dec)
      refine w_ite (fun _ => ?_) (fun _ => ?_)
      · (repeat array_get_dec)
        refine w_ite (fun _ => ?_) (fun _ => ?_)
        · (repeat array_get_dec)
          refine ⟨p, q, ns, _, rfl, sc.kb kb1, hlen, ao1, by omega, fun H2 r r0 r1 kb2 ao2 => ?_⟩
          (repeat array_get_dec)
          refine w_I (.inr ⟨by omega, by omega⟩) ?_
          (repeat array_get_dec)
          refine ⟨p, q, ns, _, rfl, (sc.kb kb1).kb kb2, hlen, ao2, by omega, fun H3 r' r0' r1' kb3 ao3 => ?_⟩
          (repeat array_get_dec)
          refine w_I (.inr ⟨by omega, by omega⟩) ?_
          (repeat array_get_dec)
          exact hj _ _ ⟨_, _, rfl, kb1.trans (kb2.trans kb3), ao3, by omega, by omega, by omega, by omega⟩
        · (repeat array_get_dec)
          exact hj _ _ ⟨_, _, rfl, kb1, ao1.mono (by omega), hA.1, hA.2, hB.1, hB.2⟩
      · (repeat array_get_dec)
        exact hj _ _ ⟨_, _, rfl, kb1, ao1.mono (by omega), hA.1, hA.2, hB.1, hB.2⟩
    rintro _ H2 ⟨low, bs, rfl, kb2, ao2, la, lb, ba, bb⟩
    clear kb1 ao1 hA hB
    have wd2 := wd.kb ao kb2
    have sc2 := sc.kb kb2
    (repeat array_mem_dec)
    (repeat array_get_dec)
    refine w_ite (fun _ => ?_) (fun _ => ?_)
    · (repeat array_get_dec)
      refine ⟨l, _, rfl, .inl (SqL.of wd2.1), ?_⟩
      refine w_mod wd2.pos ?_
      obtain ⟨y, hy, ey⟩ := wd2.pick (n / 36)
      refine ⟨l, _, _, _, rfl, rfl, SqL.of wd2.1, ey, ?_⟩
      (repeat array_get_dec)
      refine ⟨by show 1 ≤ sizeLine; decide, fun it hit => ?_⟩
      (repeat array_get_dec)
      refine ⟨by show 6 ≤ sizeLine; decide, fun t ht => ?_⟩
      have s1 := Same.upd (o := .lst [V.str y]) hit
      have s2 := Same.upd (o := .tup [.int low, .int low, .int 2, .int (low % 2), .int (low % 2), .ref it]) ht
      have wy := wd2.2.2.2 y hy
      have it0 : Its [y] 8 := its_one wy
      exact k _ ⟨low, low, 2, low % 2, low % 2, [y], t, it⟩ (KB.free (kb2.trans (.of s1)) (ao2.same s1) ht) (kb2.trans (.of (s1.trans s2))) ((ao2.same (s1.trans s2)).mono (by omega)) ⟨upd_same, s2 _ _ upd_same⟩
        (rd_ok it0 la (by omega) (by omega) (by omega) (by omega) (by omega) (by omega) (by omega) (fun z => absurd rfl z) fun z => absurd rfl z)
    (repeat array_get_dec)
    refine ⟨by show 3 ≤ sizeLine; decide, fun l3 h3 => ?_⟩
    (repeat array_get_dec)
    obtain ⟨v, hv, ev⟩ := atI_in (xs := [V.int 0, .int 1, .int (n % 50)]) (mod_ge (n / 4) (show (0 : Int) < 3 by decide)) (by exact mod_lt (n / 4) (show (0 : Int) < 3 by decide))
    refine ⟨l3, _, _, _, rfl, rfl, SqL.of upd_same, ev, ?_⟩
    obtain ⟨m, rfl, m0, m1⟩ : ∃ m : Int, v = .int m ∧ 0 ≤ m ∧ m < 50 := by
      simp only [List.mem_cons, List.not_mem_nil, or_false] at hv
      rcases hv with rfl | rfl | rfl
      · exact ⟨0, rfl, by decide, by decide⟩
      · exact ⟨1, rfl, by decide, by decide⟩
      · exact ⟨_, rfl, by omega, by omega⟩
    have s3 := Same.upd (o := .lst [V.int 0, .int 1, .int (n % 50)]) h3
    generalize upd H2 l3 _ = H3 at s3 ⊢
    have kb3 : KB q H H3 := kb2.trans (.of s3)
    have ao3 := ao2.same s3
    (repeat array_get_dec)
    refine w_mod (by omega) ?_
    (repeat array_mem_dec)
    have f0 := mod_ge low (show (0 : Int) < bs by omega)
    have f1 := mod_lt low (show (0 : Int) < bs by omega)
    generalize low % bs = fi at f0 f1 ⊢
    show tIfS _ _ _ _ [some (V.ref p), some (V.ref q), some (V.ref l), some (V.bl b), some (V.int n), some (V.int low), some (V.int bs), some (V.int (low + m)), some (V.int fi), some (V.int fi), none, none] H3
    refine w_cut (fun σ2 H4 => ∃ fi la : Int, σ2 = [some (V.ref p), some (V.ref q), some (V.ref l), some (V.bl b), some (V.int n), some (V.int low), some (V.int bs), some (V.int (low + m)), some (V.int fi), some (V.int la), none, none] ∧ KB q H H4 ∧ AtOk H4 q (c + 4) ∧ 0 ≤ fi ∧ fi ≤ la ∧ la < bs) (fun nx' hj => ?_) ?_
    · (repeat array_get_dec)
      refine w_ite (fun _ => ?_) (fun _ => ?_)
      · (repeat array_get_dec)
        refine ⟨p, q, ns, _, rfl, sc.kb kb3, hlen, ao3, by omega, fun H4 r r0 r1 kb4 ao4 => ?_⟩
        (repeat array_get_dec)
        refine w_mod (by omega) ?_
        (repeat array_get_dec)
        have g0 := mod_ge r (show (0 : Int) < bs by omega)
        have g1 := mod_lt r (show (0 : Int) < bs by omega)
        generalize r % bs = fj at g0 g1 ⊢
        refine ⟨by show 2 ≤ sizeLine; decide, fun l4 h4 => ?_⟩
        (repeat array_get_dec)
        obtain ⟨v, hv, ev⟩ := atI_in (xs := [V.int 0, .int (n % 40)]) (mod_ge (n / 36) (show (0 : Int) < 2 by decide)) (by exact mod_lt (n / 36) (show (0 : Int) < 2 by decide))
        refine ⟨l4, _, _, _, rfl, rfl, SqL.of upd_same, ev, ?_⟩
        obtain ⟨u, rfl⟩ : ∃ u : Int, v = .int u := by
          simp only [List.mem_cons, List.not_mem_nil, or_false] at hv
          rcases hv with rfl | rfl
          all_goals exact ⟨_, rfl⟩
        (repeat array_get_dec)
        refine w_mod (by omega) ?_
        (repeat array_get_dec)
        have s4 := Same.upd (o := .lst [V.int 0, .int (n % 40)]) h4
        have e0 := mod_ge u (show (0 : Int) < bs - fj by omega)
        have e1 := mod_lt u (show (0 : Int) < bs - fj by omega)
        exact hj _ _ ⟨_, _, rfl, kb3.trans (kb4.trans (.of s4)), ao4.same s4, g0, by omega, by omega⟩
      · (repeat array_get_dec)
        exact hj _ _ ⟨_, _, rfl, kb3, ao3.mono (by omega), f0, by omega, f1⟩
    clear f0 f1 fi kb3 ao3 s3 H3 ev
    rintro _ H3 ⟨fi, la', rfl, kb3, ao3, f0, f1, f2⟩
    (repeat array_mem_dec)
    refine ⟨by show 2 ≤ sizeLine; decide, fun l4 h4 => ?_⟩
    (repeat array_mem_dec)
    obtain ⟨ss0, es0, nd0, sb0⟩ := cut_RK (mod_ge (n / 72) (show (0 : Int) < 3 by decide)) (mod_lt (n / 72) (show (0 : Int) < 3 by decide))
    refine ⟨l4, _, rfl, SqL.of upd_same, fun l5 h5 => ?_⟩
    have s4 := Same.upd (o := .lst [V.str "R", .str "K"]) h4
    generalize upd H3 l4 _ = H4 at s4 h5 ⊢
    have g5 : (upd H4 l5 (.lst (cutV [V.str "R", .str "K"] none (some (n / 72 % 3))))) l5 = some (.lst (cutV [V.str "R", .str "K"] none (some (n / 72 % 3)))) := upd_same
    have s5 := Same.upd (o := .lst (cutV [V.str "R", .str "K"] none (some (n / 72 % 3)))) h5
    generalize upd H4 l5 _ = H5 at s5 g5 ⊢
    rw [es0] at g5
    have kb5 : KB q H H5 := kb3.trans (.of (s4.trans s5))
    have ao5 := ao3.same (s4.trans s5)
    have hl5 : H l5 = none := KB.free (kb3.trans (.of s4)) (ao3.same s4) h5
    clear s4 s5 es0 kb3 ao3 h4 h5
    (repeat array_mem_dec)
    show tIfS _ _ _ _ [some (V.ref p), some (V.ref q), some (V.ref l), some (V.bl b), some (V.int n), some (V.int low), some (V.int bs), some (V.int (low + m)), some (V.int fi), some (V.int la'), some (V.ref l5), none] H5
    refine w_cut (fun σ2 H6 => ∃ (sg : Addr) (ss : List Str), σ2 = [some (V.ref p), some (V.ref q), some (V.ref l), some (V.bl b), some (V.int n), some (V.int low), some (V.int bs), some (V.int (low + m)), some (V.int fi), some (V.int la'), some (V.ref sg), none] ∧ KB q H H6 ∧ AtOk H6 q (c + 4) ∧ H6 sg = some (.lst (ss.map V.str)) ∧ ss.Nodup ∧ (∀ s ∈ ss, s ∈ (["R", "K"] : List Str)) ∧ (fi ≠ la' → ss ≠ [])) (fun nx' hj => ?_) ?_
    · (repeat array_get_dec)
      refine w_ite (fun z1 => ?_) (fun z1 => ?_)
      · (repeat array_get_dec)
        refine ⟨by show 0 ≤ sizeLine; decide, fun l6 h6 => ?_⟩
        have s6 := Same.upd (o := .lst []) h6
        have g6 : (upd H5 l6 (.lst [])) l6 = some (.lst []) := upd_same
        generalize upd H5 l6 _ = H6 at s6 g6 ⊢
        refine ⟨l5, l6, _, _, rfl, rfl, .inl ⟨SqL.of (s6 _ _ g5), SqL.of g6⟩, flat_strs _, rfl, ?_⟩
        (repeat array_get_dec)
        refine w_ite (fun z2 => ?_) (fun z2 => ?_)
        · (repeat array_get_dec)
          obtain ⟨ch, ech, mch⟩ := pick_RK (n / 216)
          refine ⟨_, _, ch, rfl, rfl, by decide, ech, ?_⟩
          (repeat array_get_dec)
          refine ⟨by show 1 ≤ sizeLine; decide, fun l7 h7 => ?_⟩
          (repeat array_get_dec)
          have s7 := Same.upd (o := .lst [V.str ⟨#[ch]⟩]) h7
          exact hj _ _ ⟨l7, [⟨#[ch]⟩], rfl, kb5.trans (.of (s6.trans s7)), ao5.same (s6.trans s7), upd_same, by simp, fun s h => by rw [List.mem_singleton.mp h]; exact mch, fun _ => by simp⟩
        · (repeat array_get_dec)
          refine hj _ _ ⟨l5, ss0, rfl, kb5.trans (.of s6), ao5.same s6, s6 _ _ g5, nd0, sb0, fun _ e => ?_⟩
          rw [e] at z2
          exact absurd z2 (by decide)
      · (repeat array_get_dec)
        have z1 : fi = la' := by simpa using z1
        exact hj _ _ ⟨l5, ss0, rfl, kb5, ao5, g5, nd0, sb0, fun h => absurd z1 h⟩
    clear g5 hl5 kb5 ao5 nd0 sb0 ss0
    rintro _ H4 ⟨sg, ss, rfl, kb4, ao4, g4, nds, sbs, nes⟩
    have sgq : sg ≠ q := at_strs ao4 g4
    (repeat array_mem_dec)
    refine ⟨_, rfl, ?_⟩
    refine lcS (fun D i zs H5 => ∃ s2 : List Str, zs = s2.map V.str ∧ KB q H4 H5 ∧ AtOk H5 q (c + 4 + i) ∧ s2.Sublist (four.take i)) (by decide +kernel) rfl (fun D hD => ⟨[], rfl, .put hD, at_put ao4 (fun e => by obtain ⟨_, _, hq, _⟩ := ao4.ob; rw [e, hq] at hD; cases hD), List.Sublist.refl _⟩) (fun D i ch zs H5 hi hD w5 e5 => ?_) (fun D H5 zs hD w5 e5 => ?_)
    · obtain ⟨s2, rfl, kb5, ao5, sb5⟩ := w5
      have dq : D ≠ q := at_strs ao5 e5
      have hf := four_at i ch hi
      have hi4 : i < 4 := (List.getElem?_eq_some_iff.mp hf).1
      (repeat array_get_dec)
      refine ⟨p, q, ns, _, rfl, (sc.kb kb4).kb kb5, hlen, ao5, by omega, fun H6 r r0 r1 kb6 ao6 => ?_⟩
      have e6 := kb6 _ _ dq e5
      (repeat array_get_dec)
      have tk : four.take (i + 1) = four.take i ++ [⟨#[ch]⟩] := by rw [List.take_succ, hf]; rfl
      refine w_ite (fun _ => ?_) (fun _ => ?_)
      · (repeat array_get_dec)
        exact ⟨e6, s2 ++ [⟨#[ch]⟩], by rw [List.map_append]; rfl, (kb5.trans kb6).trans_new hD, at_put ao6 dq, by rw [tk]; exact sb5.append (List.Sublist.refl _)⟩
      · exact ⟨e6, s2, rfl, kb5.trans kb6, ao6, by rw [tk]; exact sb5.trans (List.sublist_append_left _ _)⟩
    obtain ⟨s2, rfl, kb5, ao5, sb5⟩ := w5
    have sb5 : s2.Sublist four := by rw [show four.take ("QNWU" : Str).cps.size = four from by decide +kernel] at sb5; exact sb5
    have ao5 : AtOk H5 q (c + 8) := ao5.mono (by have : ("QNWU" : Str).cps.size = 4 := by decide +kernel
                                                 omega)
    have g5 := kb5 _ _ sgq g4
    have nd5 : s2.Nodup := sb5.nodup (by decide +kernel)
    have kbA := kb4.trans kb5
    (repeat array_mem_dec)
    show tIfS _ _ _ _ [some (V.ref p), some (V.ref q), some (V.ref l), some (V.bl b), some (V.int n), some (V.int low), some (V.int bs), some (V.int (low + m)), some (V.int fi), some (V.int la'), some (V.ref sg), some (V.ref D)] H5
    refine w_cut (fun σ2 H6 => ∃ (mo : Addr) (s3 : List Str), σ2 = [some (V.ref p), some (V.ref q), some (V.ref l), some (V.bl b), some (V.int n), some (V.int low), some (V.int bs), some (V.int (low + m)), some (V.int fi), some (V.int la'), some (V.ref sg), some (V.ref mo)] ∧ KB q H H6 ∧ AtOk H6 q (c + 8) ∧ H6 sg = some (.lst (ss.map V.str)) ∧ H6 mo = some (.lst (s3.map V.str)) ∧ s3.Nodup ∧ (∀ s ∈ s3, s ∈ four) ∧ (low / bs ≠ (low + m) / bs → s3 ≠ [])) (fun nx' hj => ?_) ?_
    · have dv : CDivB low bs := ⟨by omega, Nat.lt_trans (log_ok (by omega) (by omega)) (by decide)⟩
      have dv2 : CDivB (low + m) bs := dv
      (repeat array_get_dec)
      refine w_I dv ?_
      (repeat array_get_dec)
      refine w_I dv2 ?_
      (repeat array_get_dec)
      refine w_ite (fun z1 => ?_) (fun z1 => ?_)
      · (repeat array_get_dec)
        refine ⟨by show 0 ≤ sizeLine; decide, fun l6 h6 => ?_⟩
        have s6 := Same.upd (o := .lst []) h6
        have g6 : (upd H5 l6 (.lst [])) l6 = some (.lst []) := upd_same
        generalize upd H5 l6 _ = H6 at s6 g6 ⊢
        refine ⟨D, l6, _, _, rfl, rfl, .inl ⟨SqL.of (s6 _ _ e5), SqL.of g6⟩, flat_strs _, rfl, ?_⟩
        (repeat array_get_dec)
        refine w_ite (fun z2 => ?_) (fun z2 => ?_)
        · (repeat array_get_dec)
          obtain ⟨ch, ech, mch⟩ := pick_four (n / 432)
          refine ⟨_, _, ch, rfl, rfl, by decide, ech, ?_⟩
          (repeat array_get_dec)
          refine ⟨by show 1 ≤ sizeLine; decide, fun l7 h7 => ?_⟩
          (repeat array_get_dec)
          have s7 := Same.upd (o := .lst [V.str ⟨#[ch]⟩]) h7
          exact hj _ _ ⟨l7, [⟨#[ch]⟩], rfl, kbA.trans (.of (s6.trans s7)), ao5.same (s6.trans s7), s7 _ _ (s6 _ _ g5), upd_same, by simp, fun s h => by rw [List.mem_singleton.mp h]; exact mch, fun _ => by simp⟩
        · (repeat array_get_dec)
          refine hj _ _ ⟨D, s2, rfl, kbA.trans (.of s6), ao5.same s6, s6 _ _ g5, s6 _ _ e5, nd5, fun s h => sb5.subset h, fun _ e => ?_⟩
          rw [e] at z2
          exact absurd z2 (by decide)
      · (repeat array_get_dec)
        have z1 : low / bs = (low + m) / bs := by simpa using z1
        exact hj _ _ ⟨D, s2, rfl, kbA, ao5, g5, e5, nd5, fun s h => sb5.subset h, fun h => absurd z1 h⟩
    rintro _ H6 ⟨mo, s3, rfl, kb6, ao6, g6, m6, nd3, sb3, ne3⟩
    (repeat array_get_dec)
    have l2 : ss.length ≤ 2 := nodup_len nds sbs
    have l4' : s3.length ≤ 4 := nodup_len nd3 sb3
    refine ⟨sg, mo, _, _, rfl, rfl, g6, m6, by rw [List.length_map, List.length_map]; exact le_line (by omega), fun l7 h7 => ?_⟩
    rw [← List.map_append]
    have s7 := Same.upd (o := .lst ((ss ++ s3).map V.str)) h7
    have g7 : (upd H6 l7 (.lst ((ss ++ s3).map V.str))) l7 = some (.lst ((ss ++ s3).map V.str)) := upd_same
    generalize upd H6 l7 _ = H7 at s7 g7 ⊢
    have kb7 := kb6.trans (.of s7)
    have ao7 := ao6.same s7
    (repeat array_get_dec)
    refine ⟨p, q, l, l7, ns, c + 8, ys, ss ++ s3, rfl, sc.kb kb7, hlen, ao7, by omega, wd.kb ao kb7, g7, ?_, ?_, ?_, fun H8 it zs hit kb8 ao8 g8 it8 in8 => ?_⟩
    · exact List.nodup_append.mpr ⟨nds, nd3, fun x hx y hy e => rk_four (sbs x hx) (e ▸ sb3 y hy)⟩
    · intro s hs
      rcases List.mem_append.mp hs with hs | hs
      · exact rk_sig (sbs s hs)
      · exact four_sig (sb3 s hs)
    · rw [List.length_append]; omega
    · (repeat array_get_dec)
      refine ⟨by show 6 ≤ sizeLine; decide, fun t ht => ?_⟩
      have s9 := Same.upd (o := .tup [.int low, .int (low + m), .int bs, .int fi, .int la', .ref it]) ht
      refine k _ ⟨low, low + m, bs, fi, la', zs, t, it⟩ (KB.free (kb7.trans kb8) ao8 ht) (kb7.trans (kb8.trans (.of s9))) ((ao8.same s9).mono (by omega)) ⟨upd_same, s9 _ _ g8⟩ ?_
      refine rd_ok it8 la (by omega) ba f0 f1 f2 (by omega) (by omega) (fun z => ?_) fun z => ?_
      · obtain ⟨s, hs⟩ := List.exists_mem_of_ne_nil _ (nes z)
        exact has_of (sbs s hs) (in8 s (List.mem_append_left _ hs))
      · obtain ⟨s, hs⟩ := List.exists_mem_of_ne_nil _ (ne3 z)
        exact has_of (sb3 s hs) (in8 s (List.mem_append_right _ hs))
end
end K32

namespace K32
open PySem PySem.Spec PyProof.Rows L2
/-- a pair of words, where it lies -/
structure PD where
  m : Str × Str
  t : Addr
/-- a kind's title, ending and turns, where they lie -/
structure KDD where
  ti : Str
  en : Str
  ps : List PD
  t : Addr
  n : Addr
def pRefs (ps : List PD) : List V := (ps.map (·.t)).map .ref
def KDD.at (k : KDD) (H : Hp) : Prop := H k.t = some (.tup [.str k.ti, .str k.en, .ref k.n]) ∧ H k.n = some (.lst (pRefs k.ps)) ∧ ∀ p ∈ k.ps, H p.t = some (pairV p.m)
structure KDD.ok (k : KDD) : Prop where
  ko : kindOk k.ti k.en (k.ps.map (·.m)) = true
  le : k.ps.length ≤ 12
theorem KDD.at.same {k : KDD} {H H' : Hp} (h : k.at H) (s : Same H H') : k.at H' := ⟨s _ _ h.1, s _ _ h.2.1, fun p hp => s _ _ (h.2.2 p hp)⟩
theorem KDD.at.kb {k : KDD} {H H' : Hp} {q : Addr} {c : Nat} (h : k.at H) (ao : AtOk H q c) (kb : KB q H H') : k.at H' :=
  ⟨kb _ _ (at_ne ao h.1 fun _ _ z => by cases z) h.1, kb _ _ (at_ne ao h.2.1 refs_ne) h.2.1, fun p hp => kb _ _ (at_ne ao (h.2.2 p hp) fun _ _ z => by cases z) (h.2.2 p hp)⟩
def titlesA : List Str := ["a", "which", "partsofa", "share"]
def titlesB : List Str := ["kind", "turn", "rule", "bound"]
def titleOf (ys : List Str) (k : Nat) : Str := (if ys.head? = some "rule" then titlesB else titlesA).getD k ""
theorem title_ok (ys : List Str) {k : Nat} (h : k < 4) : titleOk (titleOf ys k) = true := by
  unfold titleOf
  rcases (show k = 0 ∨ k = 1 ∨ k = 2 ∨ k = 3 by omega) with rfl | rfl | rfl | rfl <;> split <;> decide +kernel
theorem titles_nd (ys : List Str) {m : Nat} (h : m ≤ 4) : ((List.range m).map (titleOf ys)).Nodup := by
  have e : ((List.range 4).map (titleOf ys)).Nodup := by
    have : (List.range 4).map (titleOf ys) = if ys.head? = some "rule" then titlesB else titlesA := by
      unfold titleOf
      split <;> rfl
    rw [this]
    split <;> decide +kernel
  have : ((List.range m).map (titleOf ys)).Sublist ((List.range 4).map (titleOf ys)) := List.Sublist.map _ (by
    rcases (show m = 0 ∨ m = 1 ∨ m = 2 ∨ m = 3 ∨ m = 4 by omega) with rfl | rfl | rfl | rfl | rfl <;> decide)
  exact this.nodup e
/-- the words one behind the other, in a ring -/
def ring (ys : List Str) (a : Int) (i : Nat) : List Str := (List.range i).map fun (j : Nat) => ys.getD ((a + j) % (ys.length : Int)).toNat ""
theorem ring_nd {ys : List Str} (nd : ys.Nodup) (a : Int) {i : Nat} (h : i ≤ ys.length) : (ring ys a i).Nodup := by
  refine List.pairwise_iff_getElem.mpr fun x y hx hy hxy e => ?_
  have lx : x < i := by simpa [ring] using hx
  have ly : y < i := by simpa [ring] using hy
  have hp : (0 : Int) < (ys.length : Int) := by omega
  have e : ys.getD ((a + x) % (ys.length : Int)).toNat "" = ys.getD ((a + y) % (ys.length : Int)).toNat "" := by simpa [ring] using e
  have x0 := mod_ge (a + x) hp
  have x1 := mod_lt (a + x) hp
  have y0 := mod_ge (a + y) hp
  have y1 := mod_lt (a + y) hp
  have k1 : ((a + x) % (ys.length : Int)).toNat < ys.length := by omega
  have k2 : ((a + y) % (ys.length : Int)).toNat < ys.length := by omega
  rw [List.getD_eq_getElem?_getD, List.getD_eq_getElem?_getD, List.getElem?_eq_getElem k1, List.getElem?_eq_getElem k2] at e
  have e : ys[((a + x) % (ys.length : Int)).toNat] = ys[((a + y) % (ys.length : Int)).toNat] := e
  have := (List.getElem_inj nd).mp e
  have e3 : (a + x) % (ys.length : Int) = (a + y) % (ys.length : Int) := by omega
  have d : ((a + y) - (a + x)) % (ys.length : Int) = 0 := Int.emod_eq_emod_iff_emod_sub_eq_zero.mp e3.symm
  rw [show (a + (y : Int)) - (a + x) = (y : Int) - x by omega, Int.emod_eq_of_lt (by omega) (by omega)] at d
  omega
theorem pickD {ys : List Str} (h : 0 < ys.length) (x : Int) : atI (ys.map V.str) (x % ((ys.map V.str).length : Nat)) = some (.str (ys.getD (x % (ys.length : Int)).toNat "")) ∧ ys.getD (x % (ys.length : Int)).toNat "" ∈ ys := by
  have hp : (0 : Int) < (ys.length : Int) := by omega
  have x0 := mod_ge x hp
  have x1 := mod_lt x hp
  have k1 : (x % (ys.length : Int)).toNat < ys.length := by omega
  have e : ys.getD (x % (ys.length : Int)).toNat "" = ys[(x % (ys.length : Int)).toNat] := by rw [List.getD_eq_getElem?_getD, List.getElem?_eq_getElem k1]; rfl
  rw [e]
  refine ⟨?_, List.getElem_mem k1⟩
  rw [List.length_map]
  have := atI_nat (xs := ys.map V.str) (j := (x % (ys.length : Int)).toNat) (v := V.str ys[(x % (ys.length : Int)).toNat]) (by rw [List.getElem?_map, List.getElem?_eq_getElem k1]; rfl)
  rw [show (((x % (ys.length : Int)).toNat : Nat) : Int) = x % (ys.length : Int) by omega] at this
  exact this
section
variable {P : Program} {w : World} {K : PySem.W.Frag} {mg : Str → Option Value} {base : Heap} {a : Ad}
/-! ### _law_kind -/
abbrev DKd (K : PySem.W.Frag) (mg : Str → Option Value) := Df K mg "_law_kind" "_law_kind" (top 45) ["_law_script", "_law_at", "_law_words_here", "_law_k"]
def spKd (K : PySem.W.Frag) : Sp := fun vs H Q _ => ∃ (p q l : Addr) (k : Nat) (ns : List Int) (c : Nat) (ys : List Str), vs = [.ref p, .ref q, .ref l, .int k] ∧ k < 4 ∧ Scr K q H p ns ∧ ns.length ≤ 63 ∧ AtOk H q c ∧ c ≤ 800000 ∧ Words H l ys ∧ ys.length = 16 ∧ ys.Nodup ∧
  ∀ H' d, H d.t = none → H d.n = none → KB q H H' → AtOk H' q (c + 13) → KDD.at d H' → KDD.ok d → d.ti = titleOf ys k → Q (.ref d.t) H'
abbrev nKd : List Str := ["_law_script", "_law_at", "_law_words_here", "_law_k", "_law_n", "_law_title", "_law_turns", "_law_j"]
theorem scKd : FnScope nKd ["_law_script", "_law_at", "_law_words_here", "_law_k"] (defScope (top 45)) := ⟨rfl, rfl, rfl, by decide +kernel, rfl, by decide +kernel, by decide +kernel⟩
theorem ok_kd (D : DKd K mg) (D__law_next : DNext K mg) (G__law_next : FnOk P w K mg base CX0 1 D__law_next.f D__law_next.fd ["_law_script", "_law_at"] (spNext K)) (T : Txt K mg a) : FnOk P w K mg base CX0 2 D.f D.fd ["_law_script", "_law_at", "_law_words_here", "_law_k"] (spKd K) := by
  refine Df.ok (k := 1) D.ex scKd (fun vs H Q E h => ?_) (fun A outer s H vs Q E hr h => ?_)
  · obtain ⟨p, q, l, k, ns, c, ys, rfl, _⟩ := h; rfl
  · obtain ⟨p, q, l, kk, ns, c, ys, rfl, hk, sc, hlen, ao, hc, wd, y16, ynd, k⟩ := h
    have nd := scKd.nd
    refine ⟨_, (pss_cons (ps_set (i := 4) nd rfl (Or.inl rfl) (pe_call G__law_next (hr.mono (by decide)) (by rfl) D__law_next.mg D__law_next.kp D__law_next.bd .nil pass0 (pa_c (pv 0) (pa_c (pv 1) pa_nil))))
 (pss_cons (ps_set (i := 5) nd rfl (Or.inl rfl) (pe_ix ix_list (pe_ix ix_list (pe_lst (pa_c (pe_lstK [.str "a", .str "which", .str "partsofa", .str "share"]) (pa_c (pe_lstK [.str "kind", .str "turn", .str "rule", .str "bound"]) pa_nil))) (pe_callTy call_intB (by rfl) T.b_int (by decide +kernel) (pa_c (pe_cmpR op_eq (pe_ix ix_list (pv 2) pe_int (fun _ _ => rfl)) pe_str (nomark _)) pa_nil)) (fun _ _ => rfl)) (pv 3) (fun _ _ => rfl)))
 (pss_cons (ps_set (i := 6) nd rfl (Or.inl rfl) (pe_lst pa_nil))
 (pss_cons (ps_for PassesOwn.never rfl (pi_range1 (by rfl) T.b_range (pa_c (pe_ix ix_list (pe_lstK [.int 0, .int 1, .int 2, .int 12]) (pe_op op_mod (pv 4) pe_int) (fun _ _ => rfl)) pa_nil)) (pg_name (i := 7) (show List.Nodup (["_law_script", "_law_at", "_law_words_here", "_law_k", "_law_n", "_law_title", "_law_turns", "_law_j"] : List Str) from by decide +kernel) rfl (Or.inl rfl))
 (pss_one (ps_expr (pe_bm PySem.F.plainAttrs_list PySem.F.slot_list_append PySem.F.type_list_append mt_append (pv 6) (pa_c (pe_tup (pa_c (pe_ix ix_list (pv 2) (pe_op op_mod (pe_op op_add (pe_op op_fdiv (pv 4) pe_int) (pv 7)) (pe_callB call_len_seq (by rfl) T.b_len boot_len (pa_c (pv 2) pa_nil))) (fun _ _ => rfl)) (pa_c (pe_ix ix_list (pv 2) (pe_op op_mod (pe_call G__law_next (hr.mono (by decide)) (by rfl) D__law_next.mg D__law_next.kp D__law_next.bd .nil pass0 (pa_c (pv 0) (pa_c (pv 1) pa_nil))) (pe_callB call_len_seq (by rfl) T.b_len boot_len (pa_c (pv 2) pa_nil))) (fun _ _ => rfl)) pa_nil))) pa_nil)))))
 (pss_one (ps_ret (pe_tup (pa_c (pv 5) (pa_c (pe_ix ix_list (pv 2) (pe_op op_mod (pe_op op_fdiv (pv 4) pe_int) (pe_callB call_len_seq (by rfl) T.b_len boot_len (pa_c (pv 2) pa_nil))) (fun _ _ => rfl)) (pa_c (pv 6) pa_nil)))))))))), ?_⟩
    (repeat array_get_dec)
    refine ⟨p, q, ns, c, rfl, sc, hlen, ao, by omega, fun H1 n n0 n1 kb1 ao1 => ?_⟩
    have wd1 := wd.kb ao kb1
    have sc1 := sc.kb kb1
    (repeat array_get_dec)
    refine ⟨by show 4 ≤ sizeLine; decide, fun la hla => ?_⟩
    (repeat array_get_dec)
    refine ⟨by show 4 ≤ sizeLine; decide, fun lb hlb => ?_⟩
    (repeat array_get_dec)
    refine ⟨by show 2 ≤ sizeLine; decide, fun lc hlc => ?_⟩
    have s1 := Same.upd (o := .lst [V.str "a", .str "which", .str "partsofa", .str "share"]) hla
    have ga : (upd H1 la (.lst [V.str "a", .str "which", .str "partsofa", .str "share"])) la = some (.lst (titlesA.map V.str)) := upd_same
    generalize upd H1 la _ = H2 at s1 ga hlb hlc ⊢
    have s2 := Same.upd (o := .lst [V.str "kind", .str "turn", .str "rule", .str "bound"]) hlb
    have gb : (upd H2 lb (.lst [V.str "kind", .str "turn", .str "rule", .str "bound"])) lb = some (.lst (titlesB.map V.str)) := upd_same
    generalize upd H2 lb _ = H3 at s2 gb hlc ⊢
    have s3 := Same.upd (o := .lst [V.ref la, .ref lb]) hlc
    have gc : (upd H3 lc (.lst [V.ref la, .ref lb])) lc = some (.lst [V.ref la, .ref lb]) := upd_same
    generalize upd H3 lc _ = H4 at s3 gc ⊢
    have sA := s1.trans (s2.trans s3)
    have wd4 := wd1.kb ao1 (.of sA)
    obtain ⟨y0, yr, ey⟩ : ∃ y0 yr, ys = y0 :: yr := by
      cases ys with
      | nil => simp at y16
      | cons y r => exact ⟨y, r, rfl⟩
    (repeat array_get_dec)
    refine ⟨l, _, 0, _, rfl, rfl, SqL.of wd4.1, atI_nat (j := 0) (by rw [ey]; rfl), ?_⟩
    (repeat array_get_dec)
    refine ⟨_, rfl, ?_⟩
    obtain ⟨lt, tt, glt, ett, pick⟩ : ∃ (lt : Addr) (tt : List Str), H4 lt = some (.lst (tt.map V.str)) ∧ tt = (if ys.head? = some "rule" then titlesB else titlesA) ∧ atI [V.ref la, .ref lb] (if decide (y0 = "rule") = true then 1 else 0) = some (.ref lt) := by
      by_cases z : y0 = "rule"
      · exact ⟨lb, titlesB, s3 _ _ gb, by rw [ey, if_pos (by rw [z]; rfl)], by rw [decide_eq_true z]; rfl⟩
      · exact ⟨la, titlesA, s3 _ _ (s2 _ _ ga), by rw [ey, if_neg (by intro e; exact z (Option.some.inj e))], by rw [decide_eq_false z]; rfl⟩
    refine ⟨lc, _, _, _, rfl, rfl, SqL.of gc, pick, ?_⟩
    (repeat array_get_dec)
    have t4 : tt.length = 4 := by rw [ett]; split <;> rfl
    have ht : tt[kk]? = some (titleOf ys kk) := by
      unfold titleOf
      rw [← ett, List.getD_eq_getElem?_getD, List.getElem?_eq_getElem (by omega)]; rfl
    refine ⟨lt, _, kk, _, rfl, rfl, SqL.of glt, atI_nat (j := kk) (by rw [List.getElem?_map, ht]; rfl), ?_⟩
    have kb4 : KB q H H4 := kb1.trans (.of sA)
    have ao4 := ao1.same sA
    have tok := title_ok ys hk
    generalize titleOf ys kk = ti at tok k ⊢
    clear sA s1 s2 s3 ga gb gc pick glt ett t4 ht hla hlb hlc wd1 sc1 kb1 ao1 wd4
    (repeat array_get_dec)
    refine ⟨by show 0 ≤ sizeLine; decide, fun tl htl => ?_⟩
    have s5 := Same.upd (o := .lst []) htl
    have g5 : (upd H4 tl (.lst [])) tl = some (.lst []) := upd_same
    have htl0 : H tl = none := KB.free kb4 ao4 htl
    generalize upd H4 tl _ = H5 at s5 g5 ⊢
    have kb5 : KB q H H5 := kb4.trans (.of s5)
    have ao5 := ao4.same s5
    clear s5 htl kb4 ao4
    (repeat array_get_dec)
    refine ⟨by show 4 ≤ sizeLine; decide, fun l6 h6 => ?_⟩
    (repeat array_get_dec)
    obtain ⟨v, hv, ev⟩ := atI_in (xs := [V.int 0, .int 1, .int 2, .int 12]) (mod_ge n (show (0 : Int) < 4 by decide)) (by exact mod_lt n (show (0 : Int) < 4 by decide))
    refine ⟨l6, _, _, _, rfl, rfl, SqL.of upd_same, ev, ?_⟩
    obtain ⟨m, rfl, m0, m1⟩ : ∃ m : Int, v = .int m ∧ 0 ≤ m ∧ m ≤ 12 := by
      simp only [List.mem_cons, List.not_mem_nil, or_false] at hv
      rcases hv with rfl | rfl | rfl | rfl
      all_goals exact ⟨_, rfl, by decide, by decide⟩
    have s6 := Same.upd (o := .lst [V.int 0, .int 1, .int 2, .int 12]) h6
    generalize upd H5 l6 _ = H6 at s6 ⊢
    have kb6 : KB q H H6 := kb5.trans (.of s6)
    have ao6 := ao5.same s6
    have g6 := s6 _ _ g5
    clear s6 kb5 ao5 g5 ev hv h6
    (repeat array_get_dec)
    refine ⟨m, rfl, by omega, by omega, ?_⟩
    have tlq : tl ≠ q := at_ne ao6 g6 (refs_ne (ts := []))
    refine forR (fun i σ H7 => ∃ v7 ps, σ = [some (V.ref p), some (V.ref q), some (V.ref l), some (V.int kk), some (V.int n), some (V.str ti), some (V.ref tl), v7] ∧ KB q H H7 ∧ AtOk H7 q (c + 1 + i) ∧ H7 tl = some (.lst (pRefs ps)) ∧ (∀ x ∈ ps, H7 x.t = some (pairV x.m) ∧ wordS x.m.1 = true ∧ wordS x.m.2 = true) ∧ ps.length = i ∧ ps.map (·.m.1) = ring ys (n / 4) i) ⟨none, [], rfl, kb6, ao6, g6, fun _ h => (nomatch h), rfl, rfl⟩ ?_ ?_
    · rintro i σ H7 hi ⟨v7, ps, rfl, kb7, ao7, g7, p7, l7, r7⟩
      have wd7 := wd.kb ao kb7
      (repeat array_get_dec)
      refine ⟨.inl ⟨rfl, _, SqL.of g7⟩, ?_⟩
      (repeat array_get_dec)
      refine ⟨l, _, rfl, .inl (SqL.of wd7.1), ?_⟩
      refine w_mod wd7.pos ?_
      obtain ⟨ea, ma⟩ := pickD (ys := ys) (by omega) (n / 4 + (0 + i))
      refine ⟨l, _, _, _, rfl, rfl, SqL.of wd7.1, ea, ?_⟩
      (repeat array_get_dec)
      refine ⟨p, q, ns, _, rfl, sc.kb kb7, hlen, ao7, by omega, fun H8 r r0 r1 kb8 ao8 => ?_⟩
      have wd8 := wd7.kb ao7 kb8
      have g8 := kb8 _ _ tlq g7
      have p8 : ∀ x ∈ ps, H8 x.t = some (pairV x.m) := fun x hx => kb8 _ _ (at_ne ao7 (p7 x hx).1 fun _ _ z => by cases z) (p7 x hx).1
      (repeat array_get_dec)
      refine ⟨l, _, rfl, .inl (SqL.of wd8.1), ?_⟩
      refine w_mod wd8.pos ?_
      obtain ⟨eb, mb⟩ := pickD (ys := ys) (by omega) r
      refine ⟨l, _, _, _, rfl, rfl, SqL.of wd8.1, eb, ?_⟩
      (repeat array_get_dec)
      refine ⟨by show 2 ≤ sizeLine; decide, fun t ht => ?_⟩
      rw [show n / 4 + (0 + (i : Int)) = n / 4 + i by omega] at ma ⊢
      generalize hfa : ys.getD ((n / 4 + i) % (ys.length : Int)).toNat "" = fa at ma ⊢
      generalize ys.getD (r % (ys.length : Int)).toNat "" = fb at mb ⊢
      have s9 := Same.upd (o := .tup [V.str fa, .str fb]) ht
      have g9 : (upd H8 t (.tup [V.str fa, .str fb])) t = some (pairV (fa, fb)) := upd_same
      generalize upd H8 t _ = H9 at s9 g9 ⊢
      (repeat array_get_dec)
      have ntl : ∀ {c : Addr} {m : Str × Str}, H9 c = some (pairV m) → tl ≠ c := fun h e => by rw [← e, s9 _ _ g8] at h; cases h
      refine ⟨tl, _, _, rfl, rfl, s9 _ _ g8, by unfold pRefs; rw [List.length_map, List.length_map]; exact le_line (by omega), ?_⟩
      refine ⟨_, ps ++ [⟨(fa, fb), t⟩], rfl, ((kb7.trans kb8).trans (.of s9)).trans_new htl0, at_put (ao8.same s9) tlq, ?_, ?_, ?_, ?_⟩
      · rw [upd_same]; unfold pRefs; rw [List.map_append, List.map_append]; rfl
      · intro x hx
        rcases List.mem_append.mp hx with hx | hx
        · have h9 := s9 _ _ (p8 x hx)
          exact ⟨by rw [upd_ne (Ne.symm (ntl h9))]; exact h9, (p7 x hx).2⟩
        · rw [List.mem_singleton.mp hx]
          exact ⟨by rw [upd_ne (Ne.symm (ntl g9))]; exact g9, wd.2.2.2 _ ma, wd.2.2.2 _ mb⟩
      · rw [List.length_append, l7]; rfl
      · rw [List.map_append, r7]
        unfold ring
        rw [List.range_succ, List.map_append, ← hfa]; rfl
    · rintro σ H7 ⟨v7, ps, rfl, kb7, ao7, g7, p7, l7, r7⟩
      have wd7 := wd.kb ao kb7
      (repeat array_get_dec)
      refine ⟨l, _, rfl, .inl (SqL.of wd7.1), ?_⟩
      refine w_mod wd7.pos ?_
      obtain ⟨y, hy, ey⟩ := wd7.pick (n / 100)
      refine ⟨l, _, _, _, rfl, rfl, SqL.of wd7.1, ey, ?_⟩
      (repeat array_get_dec)
      refine ⟨by show 3 ≤ sizeLine; decide, fun t ht => ?_⟩
      have s8 := Same.upd (o := .tup [V.str ti, .str y, .ref tl]) ht
      refine k _ ⟨ti, y, ps, t, tl⟩ (KB.free kb7 ao7 ht) htl0 (kb7.trans (.of s8)) ((ao7.same s8).mono (by omega)) ⟨upd_same, s8 _ _ g7, fun x hx => s8 _ _ (p7 x hx).1⟩ ⟨?_, by show ps.length ≤ 12; omega⟩ rfl
      show (titleOk ti && (wordS y && pairsOk (ps.map (·.m)))) = true
      rw [tok, wd.2.2.2 y hy]
      unfold pairsOk
      have e1 : (ps.map (·.m)).all pairOk = true := by
        refine List.all_eq_true.mpr fun z hz => ?_
        obtain ⟨x, hx, rfl⟩ := List.mem_map.mp hz
        unfold pairOk
        rw [(p7 x hx).2.1, (p7 x hx).2.2]; rfl
      have e2 : (fstK (ps.map (·.m))).Nodup := by
        have e3 : fstK (ps.map (·.m)) = (ring ys (n / 4) m.toNat).map Sum.inr := by
          unfold fstK
          rw [← r7, List.map_map, List.map_map]; rfl
        rw [e3]
        exact List.Pairwise.map _ (fun a b h e => h (Sum.inr.inj e)) (ring_nd ynd _ (by omega))
      rw [e1, decide_eq_true e2]; rfl
end
end K32

namespace K32
open PySem PySem.Spec PyProof.Rows L2
/-- a melt, where it lies -/
structure MD where
  m : Str × Str × Str
  t : Addr
/-- a tongue's bound, rules, melts and kinds, where they lie -/
structure DD where
  b : Int
  rs : List RD
  ms : List MD
  ks : List KDD
  t : Addr
  rl : Addr
  ml : Addr
  kl : Addr
def rRefs (rs : List RD) : List V := (rs.map (·.t)).map .ref
def mRefs (ms : List MD) : List V := (ms.map (·.t)).map .ref
def kRefs (ks : List KDD) : List V := (ks.map (·.t)).map .ref
structure DD.at (d : DD) (H : Hp) : Prop where
  t : H d.t = some (.tup [.int d.b, .ref d.rl, .ref d.ml, .ref d.kl])
  rl : H d.rl = some (.lst (rRefs d.rs))
  ml : H d.ml = some (.lst (mRefs d.ms))
  kl : H d.kl = some (.lst (kRefs d.ks))
  rs : ∀ r ∈ d.rs, r.at H
  ms : ∀ m ∈ d.ms, H m.t = some (tupM m.m)
  ks : ∀ k ∈ d.ks, k.at H
theorem DD.at.same {d : DD} {H H' : Hp} (h : d.at H) (s : Same H H') : d.at H' := ⟨s _ _ h.t, s _ _ h.rl, s _ _ h.ml, s _ _ h.kl, fun r x => (h.rs r x).same s, fun m x => s _ _ (h.ms m x), fun k x => (h.ks k x).same s⟩
structure DD.ok (d : DD) : Prop where
  b : 0 ≤ d.b ∧ d.b < 10 ^ 60
  rs : ∀ r ∈ d.rs, r.ok
  rn : d.rs.length ≤ 40
  ms : ∀ m ∈ d.ms, meltOk m.m = true
  mn : d.ms.length ≤ 12
  ks : ∀ k ∈ d.ks, k.ok
  kn : d.ks.length ≤ 4
  nd : (d.ks.map (·.ti)).Nodup
theorem strs_refs {H : Hp} {a b : Addr} {ys : List Str} {ts : List Addr} (h : H a = some (.lst (ys.map .str))) (h0 : ys ≠ []) (g : H b = some (.lst (ts.map .ref))) : a ≠ b := fun e => by
  rw [e, g] at h
  cases ys with
  | nil => exact h0 rfl
  | cons y r =>
    cases ts with
    | nil => injection h with h; injection h with h; cases h
    | cons t r => injection h with h; injection h with h; injection h with h _; cases h
theorem RD.at.put {r : RD} {H : Hp} {l : Addr} {ts : List Addr} {o : HO} (h : r.at H) (k : r.ok) (g : H l = some (.lst (ts.map .ref))) : r.at (upd H l o) := by
  refine ⟨?_, ?_⟩
  · rw [upd_ne (ne_of h.1 g (by intro z; cases z))]; exact h.1
  · rw [upd_ne (strs_refs h.2 k.it.ne g)]; exact h.2
theorem KDD.at.put {k : KDD} {H : Hp} {l : Addr} {ts : List Addr} {o : HO} (h : k.at H) (g : H l = some (.lst (ts.map .ref))) (n : k.n ≠ l) : k.at (upd H l o) := by
  refine ⟨?_, by rw [upd_ne n]; exact h.2.1, fun p hp => ?_⟩
  · rw [upd_ne (ne_of h.1 g (by intro z; cases z))]; exact h.1
  · rw [upd_ne (ne_of (h.2.2 p hp) g (by intro z; cases z))]; exact h.2.2 p hp
theorem melts_of {H : Hp} {p : Addr} {ms : List (Str × Str × Str)} (h : MeltsAt H p ms) : ∃ ds : List MD, H p = some (.lst (mRefs ds)) ∧ ds.map (·.m) = ms ∧ ∀ d ∈ ds, H d.t = some (tupM d.m) := by
  obtain ⟨ts, h1, h2, h3⟩ := h
  refine ⟨List.zipWith MD.mk ms ts, ?_, ?_, fun d hd => ?_⟩
  · have : (List.zipWith MD.mk ms ts).map (·.t) = ts := by
      rw [List.map_zipWith]
      exact List.ext_getElem (by simp; omega) fun i h4 h5 => by simp
    unfold mRefs
    rw [this]; exact h1
  · rw [List.map_zipWith]
    exact List.ext_getElem (by simp; omega) fun i h4 h5 => by simp
  · obtain ⟨i, hi, e⟩ := List.mem_iff_getElem.mp hd
    rw [List.length_zipWith] at hi
    rw [List.getElem_zipWith] at e
    subst e
    exact h3 i _ _ (List.getElem?_eq_getElem (by omega)) (List.getElem?_eq_getElem (by omega))
theorem cut_from6 (xs : List V) (h : 6 ≤ xs.length) : cutV xs (some 6) none = xs.drop 6 := by
  unfold cutV
  rw [HT.sIx_none, show HT.sIx xs.length 0 (some 6) = min 6 xs.length from HT.sIx_nat _ _ 6, Nat.min_eq_left h]
  exact List.take_of_length_le (by rw [List.length_drop]; exact Nat.le_refl _)
/-! ### words among which the rows' own stand -/
def six : List Str := ["rule", "word", "melt", "kind", "turn", "bound"]
theorem few_six {y : Str} (h : Few y) : ¬ y ∈ six := fun hy => by
  obtain ⟨c1, c2, c3, h⟩ := h
  unfold six at hy
  simp only [List.mem_cons, List.not_mem_nil, or_false] at hy
  rcases hy with rfl | rfl | rfl | rfl | rfl | rfl
  · have h1 := h 114 (by decide +kernel)
    have h2 := h 117 (by decide +kernel)
    have h3 := h 108 (by decide +kernel)
    have h4 := h 101 (by decide +kernel)
    omega
  · have h1 := h 119 (by decide +kernel)
    have h2 := h 111 (by decide +kernel)
    have h3 := h 114 (by decide +kernel)
    have h4 := h 100 (by decide +kernel)
    omega
  · have h1 := h 109 (by decide +kernel)
    have h2 := h 101 (by decide +kernel)
    have h3 := h 108 (by decide +kernel)
    have h4 := h 116 (by decide +kernel)
    omega
  · have h1 := h 107 (by decide +kernel)
    have h2 := h 105 (by decide +kernel)
    have h3 := h 110 (by decide +kernel)
    have h4 := h 100 (by decide +kernel)
    omega
  · have h1 := h 116 (by decide +kernel)
    have h2 := h 117 (by decide +kernel)
    have h3 := h 114 (by decide +kernel)
    have h4 := h 110 (by decide +kernel)
    omega
  · have h1 := h 98 (by decide +kernel)
    have h2 := h 111 (by decide +kernel)
    have h3 := h 117 (by decide +kernel)
    have h4 := h 110 (by decide +kernel)
    omega
theorem six_words {ys : List Str} (h16 : ys.length = 16) (nd : ys.Nodup) (wd : ∀ y ∈ ys, wordS y = true) (fw : ∀ y ∈ ys, Few y) : (six ++ ys.drop 6).length = 16 ∧ (six ++ ys.drop 6).Nodup ∧ ∀ y ∈ six ++ ys.drop 6, wordS y = true := by
  refine ⟨by rw [List.length_append, List.length_drop, h16]; rfl, List.nodup_append.mpr ⟨by decide +kernel, nd.sublist (List.drop_sublist 6 ys), fun x hx y hy e => few_six (fw y (List.mem_of_mem_drop hy)) (e ▸ hx)⟩, fun y hy => ?_⟩
  rcases List.mem_append.mp hy with hy | hy
  · exact List.all_eq_true.mp (show six.all wordS = true by decide +kernel) y hy
  · exact wd y (List.mem_of_mem_drop hy)
section
variable {P : Program} {w : World} {K : PySem.W.Frag} {mg : Str → Option Value} {base : Heap} {a : Ad}
/-! ### _law_data -/
abbrev DDa (K : PySem.W.Frag) (mg : Str → Option Value) := Df K mg "_law_data" "_law_data" (top 46) ["_law_script", "_law_at"]
def spDa (K : PySem.W.Frag) : Sp := fun vs H Q _ => ∃ (p q : Addr) (ns : List Int) (c : Nat), vs = [.ref p, .ref q] ∧ Scr K q H p ns ∧ ns.length ≤ 63 ∧ AtOk H q c ∧ c ≤ 700000 ∧
  ∀ H' d, KB q H H' → AtOk H' q (c + 3000) → DD.at d H' → DD.ok d → Q (.ref d.t) H'
abbrev nDa : List Str := ["_law_script", "_law_at", "_law_words_here", "_law_n", "_law_rules", "_law_k", "_law_melts_here", "_law_kinds"]
theorem scDa : FnScope nDa ["_law_script", "_law_at"] (defScope (top 46)) := ⟨rfl, rfl, rfl, by decide +kernel, rfl, by decide +kernel, by decide +kernel⟩
theorem ok_da (D : DDa K mg) (D__law_next : DNext K mg) (G__law_next : FnOk P w K mg base CX0 1 D__law_next.f D__law_next.fd ["_law_script", "_law_at"] (spNext K)) (D__law_words : DWords K mg) (G__law_words : FnOk P w K mg base CX0 2 D__law_words.f D__law_words.fd ["_law_script", "_law_at", "_law_many"] (spWords K))
    (D__law_great : DGr K mg) (G__law_great : FnOk P w K mg base CX0 2 D__law_great.f D__law_great.fd ["_law_script", "_law_at"] (spGr K)) (D__law_rule : DRu K mg) (G__law_rule : FnOk P w K mg base CX0 3 D__law_rule.f D__law_rule.fd ["_law_script", "_law_at", "_law_words_here", "_law_small"] (spRu K))
    (D__law_melts : DLMs K mg) (G__law_melts : FnOk P w K mg base CX0 3 D__law_melts.f D__law_melts.fd ["_law_script", "_law_at", "_law_words_here", "_law_most"] (spLMs K)) (D__law_kind : DKd K mg) (G__law_kind : FnOk P w K mg base CX0 2 D__law_kind.f D__law_kind.fd ["_law_script", "_law_at", "_law_words_here", "_law_k"] (spKd K)) (T : Txt K mg a) : FnOk P w K mg base CX0 4 D.f D.fd ["_law_script", "_law_at"] (spDa K) := by
  refine Df.ok (k := 3) D.ex scDa (fun vs H Q E h => ?_) (fun A outer s H vs Q E hr h => ?_)
  · obtain ⟨p, q, ns, c, rfl, _⟩ := h; rfl
  · obtain ⟨p, q, ns, c, rfl, sc, hlen, ao, hc, k⟩ := h
    have nd := scDa.nd
    refine ⟨_, (pss_cons (ps_set (i := 2) nd rfl (Or.inr rfl) (pe_call G__law_words (hr.mono (by decide)) (by rfl) D__law_words.mg D__law_words.kp D__law_words.bd .nil pass0 (pa_c (pv 0) (pa_c (pv 1) (pa_c pe_int pa_nil)))))
 (pss_cons (ps_if (pt_cmpR op_eq (pe_op op_mod (pe_call G__law_next (hr.mono (by decide)) (by rfl) D__law_next.mg D__law_next.kp D__law_next.bd .nil pass0 (pa_c (pv 0) (pa_c (pv 1) pa_nil))) pe_int) pe_int (nomark _))
 (pss_one (ps_set (i := 2) nd rfl (Or.inr rfl) (pe_op op_cat (pe_lstK [.str "rule", .str "word", .str "melt", .str "kind", .str "turn", .str "bound"]) (pe_slice sl_list (pv 2) (po_some pe_int) po_none))))
 pss_nil)
 (pss_cons (ps_set (i := 3) nd rfl (Or.inl rfl) (pe_call G__law_next (hr.mono (by decide)) (by rfl) D__law_next.mg D__law_next.kp D__law_next.bd .nil pass0 (pa_c (pv 0) (pa_c (pv 1) pa_nil))))
 (pss_cons (ps_set (i := 4) nd rfl (Or.inl rfl) (pe_lst pa_nil))
 (pss_cons (ps_for PassesOwn.never rfl (pi_range1 (by rfl) T.b_range (pa_c (pe_ix ix_list (pe_lst (pa_c (pe_op op_mod (pe_op op_fdiv (pv 3) pe_int) pe_int) (pa_c (pe_op op_mod (pe_op op_fdiv (pv 3) pe_int) pe_int) (pa_c (pe_op op_add pe_int (pe_op op_mod (pe_op op_fdiv (pv 3) pe_int) pe_int)) (pa_c pe_int pa_nil))))) (pe_op op_mod (pv 3) pe_int) (fun _ _ => rfl)) pa_nil)) (pg_name (i := 5) (show List.Nodup (["_law_script", "_law_at", "_law_words_here", "_law_n", "_law_rules", "_law_k", "_law_melts_here", "_law_kinds"] : List Str) from by decide +kernel) rfl (Or.inl rfl))
 (pss_one (ps_expr (pe_bm PySem.F.plainAttrs_list PySem.F.slot_list_append PySem.F.type_list_append mt_append (pv 4) (pa_c (pe_call G__law_rule (hr.mono (by decide)) (by rfl) D__law_rule.mg D__law_rule.kp D__law_rule.bd .nil pass0 (pa_c (pv 0) (pa_c (pv 1) (pa_c (pv 2) (pa_c (pe_cmpR op_eq (pe_op op_mod (pv 3) pe_int) pe_int (nomark _)) pa_nil))))) pa_nil)))))
 (pss_cons (ps_set (i := 6) nd rfl (Or.inl rfl) (pe_call G__law_melts (hr.mono (by decide)) (by rfl) D__law_melts.mg D__law_melts.kp D__law_melts.bd .nil pass0 (pa_c (pv 0) (pa_c (pv 1) (pa_c (pv 2) (pa_c pe_int pa_nil))))))
 (pss_cons (ps_setLC (i := 7) nd rfl (Or.inl rfl) (N := ["_law_k", "_law_script", "_law_at", "_law_words_here"]) (fs := [(1, 0), (2, 1), (3, 2)]) (⟨rfl, by rfl, by rfl, by rfl, ⟨⟨_, rfl, rfl, rfl, Or.inl rfl⟩, ⟨⟨_, rfl, rfl, rfl, Or.inl rfl⟩, ⟨⟨_, rfl, rfl, rfl, Or.inl rfl⟩, trivial⟩⟩⟩⟩) rfl (pi_range1 (by rfl) T.b_range (pa_c (pe_op op_mod (pe_op op_fdiv (pv 3) pe_int) pe_int) pa_nil)) (fun _ _ _ _ _ => (pg_name (i := 0) (show List.Nodup (["_law_k", "_law_script", "_law_at", "_law_words_here"] : List Str) from by decide +kernel) rfl (Or.inl rfl))) (fun _ _ _ _ _ => by exact pts_nil) (fun _ _ _ _ _ => by exact (pe_call G__law_kind (hr.mono (by decide)) (by rfl) D__law_kind.mg D__law_kind.kp D__law_kind.bd .nil pass0 (pa_c (pv 1) (pa_c (pv 2) (pa_c (pv 3) (pa_c (pv 0) pa_nil)))))))
 (pss_one (ps_ret (pe_tup (pa_c (pe_call G__law_great (hr.mono (by decide)) (by rfl) D__law_great.mg D__law_great.kp D__law_great.bd .nil pass0 (pa_c (pv 0) (pa_c (pv 1) pa_nil))) (pa_c (pv 4) (pa_c (pv 6) (pa_c (pv 7) pa_nil)))))))))))))), ?_⟩
    (repeat array_get_dec)
    refine ⟨p, q, ns, c, 16, rfl, sc, hlen, ao, by omega, by decide, by decide, fun H1 l ys hl kb1 ao1 wd1 y16 ynd yfew => ?_⟩
    (repeat array_mem_dec)
    show tIfS _ _ _ _ [some (V.ref p), some (V.ref q), some (V.ref l), none, none, none, none, none] H1
    refine w_cut (fun σ2 H2 => ∃ l ys, σ2 = [some (V.ref p), some (V.ref q), some (V.ref l), none, none, none, none, none] ∧ KB q H H2 ∧ AtOk H2 q (c + 2) ∧ Words H2 l ys ∧ ys.length = 16 ∧ ys.Nodup) (fun nx' hj => ?_) ?_
    · (repeat array_get_dec)
      refine ⟨p, q, ns, _, rfl, sc.kb kb1, hlen, ao1, by omega, fun H2 r r0 r1 kb2 ao2 => ?_⟩
      have wd2 := wd1.kb ao1 kb2
      (repeat array_get_dec)
      refine w_ite (fun _ => ?_) (fun _ => ?_)
      · (repeat array_get_dec)
        refine ⟨by show 6 ≤ sizeLine; decide, fun l3 h3 => ?_⟩
        have s3 := Same.upd (o := .lst (six.map V.str)) h3
        have g3 : (upd H2 l3 (.lst (six.map V.str))) l3 = some (.lst (six.map V.str)) := upd_same
        show tSl _ _ _ _ _ (upd H2 l3 (.lst (six.map V.str))) _
        generalize upd H2 l3 _ = H3 at s3 g3 ⊢
        have wd3 := wd2.kb ao2 (.of s3)
        (repeat array_get_dec)
        refine ⟨l, _, rfl, SqL.of wd3.1, fun l4 h4 => ?_⟩
        rw [cut_from6 _ (by rw [List.length_map, y16]; decide), ← List.map_drop]
        have s4 := Same.upd (o := .lst ((ys.drop 6).map V.str)) h4
        have g4 : (upd H3 l4 (.lst ((ys.drop 6).map V.str))) l4 = some (.lst ((ys.drop 6).map V.str)) := upd_same
        generalize upd H3 l4 _ = H4 at s4 g4 ⊢
        refine ⟨l3, l4, _, _, rfl, rfl, s4 _ _ g3, g4, by rw [List.length_map, List.length_map, List.length_drop, y16]; decide, fun l5 h5 => ?_⟩
        rw [← List.map_append]
        have s5 := Same.upd (o := .lst ((six ++ ys.drop 6).map V.str)) h5
        obtain ⟨a1, a2, a3⟩ := six_words y16 ynd wd1.2.2.2 yfew
        have sA := s3.trans (s4.trans s5)
        exact hj _ _ ⟨l5, six ++ ys.drop 6, rfl, kb1.trans (kb2.trans (.of sA)), ao2.same sA, ⟨upd_same, by omega, by omega, a3⟩, a1, a2⟩
      · (repeat array_get_dec)
        exact hj _ _ ⟨l, ys, rfl, kb1.trans kb2, ao2, wd2, y16, ynd⟩
    clear kb1 ao1 wd1 y16 ynd yfew hl
    rintro _ H2 ⟨l, ys, rfl, kb2, ao2, wd2, y16, ynd⟩
    (repeat array_get_dec)
    refine ⟨p, q, ns, _, rfl, sc.kb kb2, hlen, ao2, by omega, fun H3 n n0 n1 kb3 ao3 => ?_⟩
    have wd3 := wd2.kb ao2 kb3
    have kbA := kb2.trans kb3
    clear kb2 ao2 wd2 kb3
    (repeat array_get_dec)
    refine ⟨by show 0 ≤ sizeLine; decide, fun rl hrl => ?_⟩
    have s4 := Same.upd (o := .lst []) hrl
    have g4 : (upd H3 rl (.lst [])) rl = some (.lst []) := upd_same
    have hrl0 : H rl = none := KB.free kbA ao3 hrl
    generalize upd H3 rl _ = H4 at s4 g4 ⊢
    (repeat array_get_dec)
    refine ⟨by show 4 ≤ sizeLine; decide, fun l5 h5 => ?_⟩
    (repeat array_get_dec)
    obtain ⟨v, hv, ev⟩ := atI_in (xs := [V.int (n / 9 % 10), .int (n / 9 % 4), .int (1 + n / 9 % 9), .int 40]) (mod_ge n (show (0 : Int) < 4 by decide)) (by exact mod_lt n (show (0 : Int) < 4 by decide))
    refine ⟨l5, _, _, _, rfl, rfl, SqL.of upd_same, ev, ?_⟩
    obtain ⟨m, rfl, m0, m1⟩ : ∃ m : Int, v = .int m ∧ 0 ≤ m ∧ m ≤ 40 := by
      simp only [List.mem_cons, List.not_mem_nil, or_false] at hv
      rcases hv with rfl | rfl | rfl | rfl
      all_goals exact ⟨_, rfl, by omega, by omega⟩
    have s5 := Same.upd (o := .lst [V.int (n / 9 % 10), .int (n / 9 % 4), .int (1 + n / 9 % 9), .int 40]) h5
    generalize upd H4 l5 _ = H5 at s5 ⊢
    have sA := s4.trans s5
    have kb5 : KB q H H5 := kbA.trans (.of sA)
    have ao5 := ao3.same sA
    have g5 := s5 _ _ g4
    have wd5 := wd3.kb ao3 (.of sA)
    have kb35 : KB q H3 H5 := .of sA
    clear s4 s5 sA g4 h5 ev hv
    (repeat array_get_dec)
    refine ⟨m, rfl, by omega, by omega, ?_⟩
    have rlq : rl ≠ q := at_ne ao5 g5 (refs_ne (ts := []))
    refine forR (fun i σ H6 => ∃ v5 rs, σ = [some (V.ref p), some (V.ref q), some (V.ref l), some (V.int n), some (V.ref rl), v5, none, none] ∧ KB q H H6 ∧ KB q H3 H6 ∧ AtOk H6 q (c + 3 + 60 * i) ∧ H6 rl = some (.lst (rRefs rs)) ∧ (∀ x ∈ rs, x.at H6 ∧ x.ok) ∧ rs.length = i) ⟨none, [], rfl, kb5, kb35, ao5, g5, fun _ h => (nomatch h), rfl⟩ ?_ ?_
    · rintro i σ H6 hi ⟨v5, rs, rfl, kb6, kb36, ao6, g6, r6, l6⟩
      have wd6 := wd3.kb ao3 kb36
      (repeat array_get_dec)
      refine ⟨.inl ⟨rfl, _, SqL.of g6⟩, ?_⟩
      (repeat array_get_dec)
      refine ⟨p, q, l, _, ns, _, ys, rfl, sc.kb kb6, hlen, ao6, by omega, wd6, fun H7 r hr0 kb7 ao7 ra ro => ?_⟩
      have g7 := kb7 _ _ rlq g6
      (repeat array_get_dec)
      refine ⟨rl, _, _, rfl, rfl, g7, by unfold rRefs; rw [List.length_map, List.length_map]; exact le_line (by omega), ?_⟩
      refine ⟨_, rs ++ [r], rfl, (kb6.trans kb7).trans_new hrl0, (kb36.trans kb7).trans_new hrl, at_put (ao7.mono (by omega)) rlq, ?_, ?_, ?_⟩
      · rw [upd_same]; unfold rRefs; rw [List.map_append, List.map_append]; rfl
      · intro x hx
        rcases List.mem_append.mp hx with hx | hx
        · exact ⟨((r6 x hx).1.kb ao6 kb7).put (r6 x hx).2 g7, (r6 x hx).2⟩
        · rw [List.mem_singleton.mp hx]
          exact ⟨ra.put ro g7, ro⟩
      · rw [List.length_append, l6]; rfl
    · rintro σ H6 ⟨v5, rs, rfl, kb6, kb36, ao6, g6, r6, l6⟩
      have wd6 := wd3.kb ao3 kb36
      have ao6 : AtOk H6 q (c + 2403) := ao6.mono (by omega)
      clear kb5 kb35 ao5 g5 wd5 kb36
      (repeat array_get_dec)
      refine ⟨p, q, l, ns, _, ys, rfl, sc.kb kb6, hlen, ao6, by omega, wd6, fun H7 ml ms hml kb7 ao7 ma am ml12 => ?_⟩
      obtain ⟨ds, gm, edm, gd⟩ := melts_of ma
      have g7 := kb7 _ _ rlq g6
      have r7 : ∀ x ∈ rs, x.at H7 := fun x hx => (r6 x hx).1.kb ao6 kb7
      have wd7 := wd6.kb ao6 kb7
      have kbB := kb6.trans kb7
      (repeat array_get_dec)
      refine ⟨_, rfl, by omega, by omega, ?_⟩
      have mm : 0 ≤ n / 90 % 5 ∧ n / 90 % 5 ≤ 4 := by omega
      generalize n / 90 % 5 = mk at mm ⊢
      have nq : ∀ {D : Addr}, H7 D = none → D ≠ q := fun h e => by
        obtain ⟨_, _, hq, _⟩ := ao7.ob
        rw [e, hq] at h; cases h
      refine lcR (fun D i zs H8 => ∃ ks : List KDD, zs = kRefs ks ∧ KB q H7 H8 ∧ AtOk H8 q (c + 2443 + 13 * i) ∧ (∀ x ∈ ks, x.at H8 ∧ x.ok ∧ x.n ≠ D) ∧ ks.map (·.ti) = (List.range i).map (titleOf ys)) (le_line (by omega)) rfl (fun D hD => ⟨[], rfl, .put hD, at_put ao7 (nq hD), fun _ h => (nomatch h), rfl⟩) (fun D i zs H8 hi hD w8 e8 => ?_) (fun D H8 zs hD w8 e8 => ?_)
      · obtain ⟨ks, rfl, kb8, ao8, k8, t8⟩ := w8
        have dq := nq hD
        (repeat array_get_dec)
        refine ⟨p, q, l, i, ns, _, ys, by rw [Int.zero_add]; rfl, by omega, (sc.kb kbB).kb kb8, hlen, ao8, by omega, wd7.kb ao7 kb8, y16, ynd, fun H9 d hd hn kb9 ao9 da do_ dt => ?_⟩
        have e9 := kb9 _ _ dq e8
        have ndn : d.n ≠ D := fun e => by rw [e, e8] at hn; cases hn
        refine ⟨e9, ks ++ [d], by unfold kRefs; rw [List.map_append, List.map_append]; rfl, (kb8.trans kb9).trans_new hD, at_put (ao9.mono (by omega)) dq, fun x hx => ?_, ?_⟩
        · rcases List.mem_append.mp hx with hx | hx
          · obtain ⟨x1, x2, x3⟩ := k8 x hx
            exact ⟨(x1.kb ao8 kb9).put e9 x3, x2, x3⟩
          · rw [List.mem_singleton.mp hx]
            exact ⟨da.put e9 ndn, do_, ndn⟩
        · rw [List.map_append, t8, List.range_succ, List.map_append]
          show _ ++ [d.ti] = _ ++ [titleOf ys i]
          rw [dt]
      · obtain ⟨ks, rfl, kb8, ao8, k8, t8⟩ := w8
        have dq := nq hD
        (repeat array_get_dec)
        refine ⟨p, q, ns, _, rfl, (sc.kb kbB).kb kb8, hlen, ao8, by omega, fun H9 b b0 b1 kb9 ao9 => ?_⟩
        (repeat array_get_dec)
        refine ⟨by show 4 ≤ sizeLine; decide, fun t ht => ?_⟩
        have s9 := Same.upd (o := .tup [.int b, .ref rl, .ref ml, .ref D]) ht
        have kb79 := kb8.trans kb9
        have mq : ml ≠ q := at_ne ao7 gm refs_ne
        refine k _ ⟨b, rs, ds, ks, t, rl, ml, D⟩ (kbB.trans (kb79.trans (.of s9))) ((ao9.same s9).mono (by omega)) ⟨upd_same, s9 _ _ (kb79 _ _ rlq g7), s9 _ _ (kb79 _ _ mq gm), s9 _ _ (kb9 _ _ dq e8), fun r x => ((r7 r x).kb ao7 kb79).same s9, fun m x => s9 _ _ (kb79 _ _ (at_ne ao7 (gd m x) fun _ _ z => by cases z) (gd m x)), fun d x => ((k8 d x).1.kb ao8 kb9).same s9⟩ ⟨⟨b0, b1⟩, fun r x => (r6 r x).2, by show rs.length ≤ 40; omega, fun m x => ?_, ?_, fun d x => (k8 d x).2.1, ?_, ?_⟩
        · exact am _ (by rw [← edm]; exact List.mem_map.mpr ⟨m, x, rfl⟩)
        · show ds.length ≤ 12
          have := congrArg List.length edm
          rw [List.length_map] at this; omega
        · show ks.length ≤ 4
          have := congrArg List.length t8
          rw [List.length_map, List.length_map, List.length_range] at this; omega
        · show (ks.map (·.ti)).Nodup
          rw [t8]; exact titles_nd ys (by omega)
end
end K32

namespace L2
open PySem PySem.Spec PyProof.Rows
theorem call_list_ofK {X : Cx} (K : PySem.W.Frag) (hK : X.K = K := by rfl) : CallR X (.type "list") (fun xs H Q => ∃ p ys, xs = [.ref p] ∧ (SqL K H p ys ∨ SqT K H p ys) ∧ ∀ l, H l = none → Q (.ref l) (upd H l (.lst ys))) := by subst hK; exact call_list_of
end L2
namespace K32
open PySem PySem.Spec PyProof.Rows L2
theorem passN {X : Cx} {P : Program} {w : World} : Passes (CXE P w) X E0 := fun _ _ _ _ _ _ _ h => by
  obtain ⟨_, _, _, _, _, _, _, _, _, _, _, _, _, _, q⟩ := h
  exact q.elim
theorem mono3 {σ : L2.St} {x y z : Option V} : ∀ (j : Nat) v, (tau 3 [] σ)[j]? = some (some v) → ([x, y, z] : L2.St)[j]? = some (some v) := fun j v h => by
  match j, h with
  | 0, h => cases h
  | 1, h => cases h
  | 2, h => cases h
  | j + 3, h => cases h
theorem mono6 {σ : L2.St} {x1 x2 x3 x4 x5 x6 : Option V} : ∀ (j : Nat) v, (tau 6 [] σ)[j]? = some (some v) → ([x1, x2, x3, x4, x5, x6] : L2.St)[j]? = some (some v) := fun j v h => by
  match j, h with
  | 0, h => cases h
  | 1, h => cases h
  | 2, h => cases h
  | 3, h => cases h
  | 4, h => cases h
  | 5, h => cases h
  | j + 6, h => cases h
/-- a rule made of r whose list of pieces is not D -/
def RuleOff (a : Ad) (D : Addr) (H : Hp) (o : Addr) (r : RD) : Prop := ∃ n, n ≠ D ∧ RuleAt a H o r.l r.h r.b r.f r.e n ∧ H n = some (.lst (r.ys.map .str))
theorem RuleOff.same {a : Ad} {D o : Addr} {H H' : Hp} {r : RD} (h : RuleOff a D H o r) (s : Same H H') : RuleOff a D H' o r := by
  obtain ⟨n, h1, h2, h3⟩ := h
  exact ⟨n, h1, h2.same s, s _ _ h3⟩
theorem RuleOff.put {a : Ad} {D u : Addr} {H : Hp} {r : RD} {xs : List V} {o : HO} (h : RuleOff a D H u r) (hD : H D = some (.lst xs)) : RuleOff a D (upd H D o) u r := by
  obtain ⟨n, h1, h2, h3⟩ := h
  obtain ⟨dx, fs, r1, r2⟩ := h2.ob
  exact ⟨n, h1, ⟨dx, fs, by rw [upd_ne (ne_of r1 hD (by intro z; cases z))]; exact r1, r2⟩, by rw [upd_ne h1]; exact h3⟩
/-- a kind made of k whose list of turns is not D -/
def KindOff (a : Ad) (D : Addr) (H : Hp) (o : Addr) (k : KDD) : Prop := ∃ n, n ≠ D ∧ KindAt a H o k.ti k.en n ∧ H n = some (.lst (pRefs k.ps))
theorem KindOff.same {a : Ad} {D o : Addr} {H H' : Hp} {k : KDD} (h : KindOff a D H o k) (s : Same H H') : KindOff a D H' o k := by
  obtain ⟨n, h1, h2, h3⟩ := h
  exact ⟨n, h1, h2.same s, s _ _ h3⟩
theorem KindOff.put {a : Ad} {D u : Addr} {H : Hp} {k : KDD} {xs : List V} {o : HO} (h : KindOff a D H u k) (hD : H D = some (.lst xs)) : KindOff a D (upd H D o) u k := by
  obtain ⟨n, h1, h2, h3⟩ := h
  obtain ⟨dx, fs, r1, r2⟩ := h2.ob
  exact ⟨n, h1, ⟨dx, fs, by rw [upd_ne (ne_of r1 hD (by intro z; cases z))]; exact r1, r2⟩, by rw [upd_ne h1]; exact h3⟩
/-- a tongue made of d -/
structure TD (a : Ad) (H : Hp) (x : Addr) (d : DD) (os zs : List Addr) : Prop where
  tg : TongAt a H x d.b os (d.ms.map (·.t)) zs
  rn : os.length = d.rs.length
  rs : ∀ (i : Nat) o r, os[i]? = some o → d.rs[i]? = some r → ∃ n, RuleAt a H o r.l r.h r.b r.f r.e n ∧ H n = some (.lst (r.ys.map .str))
  kn : zs.length = d.ks.length
  ks : ∀ (i : Nat) o k, zs[i]? = some o → d.ks[i]? = some k → ∃ n, KindAt a H o k.ti k.en n ∧ H n = some (.lst (pRefs k.ps))
theorem TD.same {a : Ad} {H H' : Hp} {x : Addr} {d : DD} {os zs : List Addr} (h : TD a H x d os zs) (s : Same H H') : TD a H' x d os zs :=
  ⟨h.tg.same s, h.rn, fun i o r x y => let ⟨n, a, b⟩ := h.rs i o r x y; ⟨n, a.same s, s _ _ b⟩, h.kn, fun i o k x y => let ⟨n, a, b⟩ := h.ks i o k x y; ⟨n, a.same s, s _ _ b⟩⟩
def TabsA (a : Ad) (H : Hp) : Prop := Tabs a H ∧ Tabs2 a H ∧ H a.tTI = some (Tb a.tTI)
theorem TabsA.same {a : Ad} {H H' : Hp} (t : TabsA a H) (s : Same H H') : TabsA a H' := ⟨t.1.same s, t.2.1.same s, s _ _ t.2.2⟩
theorem its_line {ys : List Str} (h : Its ys 8) : ∀ y ∈ ys, y.length ≤ sizeLine := fun y hy => le_line (by have := (h.ok.pc y hy).len; omega)
theorem kd_short {k : KDD} (h : k.ok) : k.ti.length ≤ 8 ∧ k.en.length ≤ 10 ∧ (∀ p ∈ k.ps, p.m.1.length ≤ 10 ∧ p.m.2.length ≤ 10) := by
  have h0 := h.ko
  unfold kindOk pairsOk titleOk at h0
  simp only [Bool.and_eq_true, decide_eq_true_eq] at h0
  refine ⟨by have := h0.1.1.2; omega, (word_len h0.2.1).2, fun p hp => ?_⟩
  have := List.all_eq_true.mp h0.2.2.1 p.m (List.mem_map.mpr ⟨p, hp, rfl⟩)
  unfold pairOk at this
  rw [Bool.and_eq_true] at this
  exact ⟨(word_len this.1).2, (word_len this.2).2⟩
section
variable {P : Program} {w : World} {K : PySem.W.Frag} {mg : Str → Option Value} {base : Heap} {a : Ad}
/-! ### _law_tongue -/
abbrev DTg (K : PySem.W.Frag) (mg : Str → Option Value) := Df K mg "_law_tongue" "_law_tongue" (top 47) ["_law_data_here"]
def spTg (a : Ad) : Sp := fun vs H Q _ => ∃ (d : DD), vs = [.ref d.t] ∧ d.at H ∧ d.ok ∧ TabsA a H ∧ ∀ H' x os zs, Same H H' → TD a H' x d os zs → Q (.ref x) H'
abbrev nTg : List Str := ["_law_data_here", "_law_bound", "_law_rules", "_law_melts_here", "_law_kinds", "_law_made"]
theorem scTg : FnScope nTg ["_law_data_here"] (defScope (top 47)) := ⟨rfl, rfl, rfl, by decide +kernel, rfl, by decide +kernel, by decide +kernel⟩
theorem ok_tg (D : DTg K mg) (D_Rule : DInit K) (M_Rule : Mk K a.Rule D_Rule.f) (G_Rule : FnOk P w K mg base (CXE P w) 8 D_Rule.f D_Rule.fd ["self", "low", "high", "base", "first", "last", "pieces"] (spInit a)) (D_Kind : DKI K) (M_Kind : Mk K a.Kind D_Kind.f) (G_Kind : FnOk P w K mg base (CXE P w) 7 D_Kind.f D_Kind.fd pKI (spKI a))
    (D_Tongue : DTong K) (M_Tongue : Mk K a.Tongue D_Tongue.f) (bdT : Binds K D_Tongue.fd pTI []) (G_Tongue : FnOk P w K mg base CX0 6 D_Tongue.f D_Tongue.fd pTI (spTong a)) (T : Txt K mg a) : FnOk P w K mg base CX0 10 D.f D.fd ["_law_data_here"] (spTg a) := by
  refine Df.ok (k := 9) D.ex scTg (fun vs H Q E h => ?_) (fun A outer s H vs Q E hr h => ?_)
  · obtain ⟨d, rfl, _⟩ := h; rfl
  · obtain ⟨d, rfl, da, do_, tb, k⟩ := h
    have nd := scTg.nd
    refine ⟨_, (pss_cons (ps_asg (pv 0) (pg_tup (n := 4) rfl (pgs_cons (pg_name (i := 1) (show List.Nodup (["_law_data_here", "_law_bound", "_law_rules", "_law_melts_here", "_law_kinds", "_law_made"] : List Str) from by decide +kernel) rfl (Or.inl rfl)) (pgs_cons (pg_name (i := 2) (show List.Nodup (["_law_data_here", "_law_bound", "_law_rules", "_law_melts_here", "_law_kinds", "_law_made"] : List Str) from by decide +kernel) rfl (Or.inl rfl)) (pgs_cons (pg_name (i := 3) (show List.Nodup (["_law_data_here", "_law_bound", "_law_rules", "_law_melts_here", "_law_kinds", "_law_made"] : List Str) from by decide +kernel) rfl (Or.inl rfl)) (pgs_cons (pg_name (i := 4) (show List.Nodup (["_law_data_here", "_law_bound", "_law_rules", "_law_melts_here", "_law_kinds", "_law_made"] : List Str) from by decide +kernel) rfl (Or.inl rfl)) pgs_nil))))))
 (pss_cons (ps_setLC (i := 5) nd rfl (Or.inl rfl) (N := ["_law_low", "_law_high", "_law_base", "_law_first", "_law_last", "_law_items_here"]) (fs := []) (⟨rfl, by rfl, by rfl, by rfl, trivial⟩) rfl (pi_list (pv 2)) (fun _ _ _ _ _ => (pg_tupK K (n := 6) rfl (pgs_cons (pg_name (i := 0) (show List.Nodup (["_law_low", "_law_high", "_law_base", "_law_first", "_law_last", "_law_items_here"] : List Str) from by decide +kernel) rfl (Or.inl rfl)) (pgs_cons (pg_name (i := 1) (show List.Nodup (["_law_low", "_law_high", "_law_base", "_law_first", "_law_last", "_law_items_here"] : List Str) from by decide +kernel) rfl (Or.inl rfl)) (pgs_cons (pg_name (i := 2) (show List.Nodup (["_law_low", "_law_high", "_law_base", "_law_first", "_law_last", "_law_items_here"] : List Str) from by decide +kernel) rfl (Or.inl rfl)) (pgs_cons (pg_name (i := 3) (show List.Nodup (["_law_low", "_law_high", "_law_base", "_law_first", "_law_last", "_law_items_here"] : List Str) from by decide +kernel) rfl (Or.inl rfl)) (pgs_cons (pg_name (i := 4) (show List.Nodup (["_law_low", "_law_high", "_law_base", "_law_first", "_law_last", "_law_items_here"] : List Str) from by decide +kernel) rfl (Or.inl rfl)) (pgs_cons (pg_name (i := 5) (show List.Nodup (["_law_low", "_law_high", "_law_base", "_law_first", "_law_last", "_law_items_here"] : List Str) from by decide +kernel) rfl (Or.inl rfl)) pgs_nil)))))))) (fun _ _ _ _ _ => by exact pts_nil) (fun _ _ _ _ _ => by exact (pe_make M_Rule G_Rule (hr.mono (by decide)) (by rfl) T.c_Rule D_Rule.bd .nil passN (pa_c (pv 0) (pa_c (pv 1) (pa_c (pv 2) (pa_c (pv 3) (pa_c (pv 4) (pa_c (pe_callTy (call_list_ofK K) (by rfl) T.b_list boot_list (pa_c (pv 5) pa_nil)) pa_nil)))))))))
 (pss_one (ps_ret (pe_make M_Tongue G_Tongue (hr.mono (by decide)) (by rfl) T.c_Tongue bdT .nil pass0 (pa_c (pv 1) (pa_c (pv 5) (pa_c (pe_callTy call_list_of (by rfl) T.b_list boot_list (pa_c (pv 3) pa_nil)) (pa_c (pe_lc (N := ["_law_title", "_law_ending", "_law_turns"]) (fs := []) (⟨rfl, by rfl, by rfl, by rfl, trivial⟩) rfl (pi_list (pv 4)) (fun _ _ _ _ _ => (pg_tupK K (n := 3) rfl (pgs_cons (pg_name (i := 0) (show List.Nodup (["_law_title", "_law_ending", "_law_turns"] : List Str) from by decide +kernel) rfl (Or.inl rfl)) (pgs_cons (pg_name (i := 1) (show List.Nodup (["_law_title", "_law_ending", "_law_turns"] : List Str) from by decide +kernel) rfl (Or.inl rfl)) (pgs_cons (pg_name (i := 2) (show List.Nodup (["_law_title", "_law_ending", "_law_turns"] : List Str) from by decide +kernel) rfl (Or.inl rfl)) pgs_nil))))) (fun _ _ _ _ _ => by exact pts_nil) (fun _ _ _ _ _ => by exact (pe_make M_Kind G_Kind (hr.mono (by decide)) (by rfl) T.c_Kind D_Kind.bd .nil passN (pa_c (pv 0) (pa_c (pv 1) (pa_c (pe_callTy (call_list_ofK K) (by rfl) T.b_list boot_list (pa_c (pv 2) pa_nil)) pa_nil)))))) pa_nil))))))))), ?_⟩
    (repeat array_get_dec)
    refine w_gTup' (SqT.of da.t) rfl ?_
    refine ⟨_, _, rfl, _, _, rfl, _, _, rfl, _, _, rfl, rfl, ?_⟩
    (repeat array_get_dec)
    have r40 := do_.rn
    have rlr : H d.rl = some (.lst ((d.rs.map (·.t)).map .ref)) := da.rl
    refine ⟨d.rl, rfl, ⟨_, SqL.of rlr⟩, lcH (fun D7 n zs H7 => ∃ ts : List Addr, zs = ts.map V.ref ∧ ts.length = n ∧ ∀ (i : Nat) u r, ts[i]? = some u → d.rs[i]? = some r → RuleOff a D7 H7 u r) (tells_l (SqL.of rlr)) (by rw [List.length_map, List.length_map]; exact le_line (by omega)) (fun D7 hD7 => ⟨[], rfl, rfl, fun i u k x => by cases x⟩) (fun D7 j zs H7 hj hD7 s7 e7 r7 => ?_) (fun D7 H7 zs hD7 s7 e7 r7 => ?_)⟩
    · obtain ⟨ts, rfl, tl7, tk⟩ := r7
      rw [List.length_map, List.length_map] at hj
      have ej : ((d.rs.map (·.t)).map V.ref).getD j .non = V.ref d.rs[j].t := by simp [List.getD_eq_getElem?_getD, hj]
      have ra := (da.rs d.rs[j] (List.getElem_mem hj)).same s7
      have ro := do_.rs d.rs[j] (List.getElem_mem hj)
      rw [ej]
      generalize hrj : d.rs[j] = r at ra ro ⊢
      have hr? : d.rs[j]? = some r := by rw [List.getElem?_eq_getElem hj, hrj]
      refine w_gTup' (SqT.of ra.1) rfl ?_
      refine ⟨_, _, rfl, _, _, rfl, _, _, rfl, _, _, rfl, _, _, rfl, _, _, rfl, rfl, ?_⟩
      refine ⟨mono6, ?_⟩
      (repeat array_get_dec)
      refine w_make ?_
      (repeat array_get_dec)
      refine ⟨r.it, _, rfl, .inl (SqL.of ra.2), fun l8 h8 => ?_⟩
      have s8 : Same H7 _ := Same.upd (o := .lst (r.ys.map .str)) h8
      have g8 : (upd H7 l8 (.lst (r.ys.map .str))) l8 = some (.lst (r.ys.map .str)) := upd_same
      generalize upd H7 l8 _ = H8 at s8 g8 ⊢
      (repeat array_get_dec)
      intro x dx nx ndx nex
      have s0 : Same H8 (upd (upd H8 dx (.own x)) x (.ins a.Rule dx [])) := fun c' o hc' => by rw [upd_ne (ne_of_none hc' nx), upd_ne (ne_of_none hc' ndx)]; exact hc'
      refine ⟨x, dx, r.l, r.h, r.b, r.f, r.e, l8, r.ys, rfl, upd_same, s0 _ _ g8, its_line ro.it, Nat.lt_trans (log_ok (by have := ro.b.1; omega) (by have := ro.b.2; omega)) (by decide), (((tb.1.same s7).same s8).same s0), fun H9 n hn kp9 R hn9 => ?_⟩
      rw [if_pos ro.ro]
      have s79 : Same H7 H9 := fun c' o h => kp9 c' o (s0 _ _ (s8 _ _ h)) (ne_of_none (s8 _ _ h) nx)
      have e9 := s79 _ _ e7
      have nn : n ≠ D7 := fun e => by rw [e, s0 _ _ (s8 _ _ e7)] at hn; cases hn
      have kx : RuleOff a D7 H9 x r := ⟨n, nn, R, hn9⟩
      refine ⟨rfl, e9, fun c' o h => by rw [upd_ne (ne_of_none h hD7)]; exact s79 _ _ (s7 _ _ h), ts ++ [x], by simp, by simp [tl7], fun i u k x' y' => ?_⟩
      rcases Nat.lt_trichotomy i ts.length with z | z | z
      · rw [List.getElem?_append_left z] at x'
        exact ((tk i u k x' y').same s79).put e9
      · subst z
        rw [List.getElem?_append_right (Nat.le_refl _), Nat.sub_self] at x'
        cases x'
        rw [tl7, hr?] at y'
        cases y'
        exact kx.put e9
      · rw [List.getElem?_eq_none (by simp; omega)] at x'; cases x'
    obtain ⟨os, rfl, ol, ok⟩ := r7
    rw [List.length_map, List.length_map] at ol
    have da7 := da.same s7
    have tb7 := tb.same s7
    (repeat array_get_dec)
    refine w_make ?_
    (repeat array_get_dec)
    have mlr : H7 d.ml = some (.lst ((d.ms.map (·.t)).map .ref)) := da7.ml
    refine ⟨d.ml, _, rfl, .inl (SqL.of mlr), fun l8 h8 => ?_⟩
    have s8 := Same.upd (o := .lst ((d.ms.map (·.t)).map .ref)) h8
    have g8 : (upd H7 l8 (.lst ((d.ms.map (·.t)).map .ref))) l8 = some (.lst ((d.ms.map (·.t)).map .ref)) := upd_same
    generalize upd H7 l8 _ = H8 at s8 g8 ⊢
    have k4 := do_.kn
    have klr : H8 d.kl = some (.lst ((d.ks.map (·.t)).map .ref)) := s8 _ _ da7.kl
    (repeat array_get_dec)
    refine ⟨d.kl, rfl, ⟨_, SqL.of klr⟩, lcH (fun D9 n zs H9 => ∃ ts : List Addr, zs = ts.map V.ref ∧ ts.length = n ∧ ∀ (i : Nat) u r, ts[i]? = some u → d.ks[i]? = some r → KindOff a D9 H9 u r) (tells_l (SqL.of klr)) (by rw [List.length_map, List.length_map]; exact le_line (by omega)) (fun D7 hD7 => ⟨[], rfl, rfl, fun i u k x => by cases x⟩) (fun D9 j zs H9 hj hD9 s9 e9 r9 => ?_) (fun D9 H9 zs hD9 s9 e9 r9 => ?_)⟩
    · obtain ⟨ts, rfl, tl7, tk⟩ := r9
      rw [List.length_map, List.length_map] at hj
      have ej : ((d.ks.map (·.t)).map V.ref).getD j .non = V.ref d.ks[j].t := by simp [List.getD_eq_getElem?_getD, hj]
      have ka := ((da7.ks d.ks[j] (List.getElem_mem hj)).same s8).same s9
      have ko := do_.ks d.ks[j] (List.getElem_mem hj)
      rw [ej]
      generalize hkj : d.ks[j] = kd at ka ko ⊢
      have hk? : d.ks[j]? = some kd := by rw [List.getElem?_eq_getElem hj, hkj]
      refine w_gTup' (SqT.of ka.1) rfl ?_
      refine ⟨_, _, rfl, _, _, rfl, _, _, rfl, rfl, ?_⟩
      refine ⟨mono3, ?_⟩
      (repeat array_get_dec)
      refine w_make ?_
      (repeat array_get_dec)
      refine ⟨kd.n, _, rfl, .inl (SqL.of ka.2.1), fun l10 h10 => ?_⟩
      have s10 : Same H9 _ := Same.upd (o := .lst (pRefs kd.ps)) h10
      have g10 : (upd H9 l10 (.lst (pRefs kd.ps))) l10 = some (.lst ((kd.ps.map (·.t)).map .ref)) := upd_same
      generalize upd H9 l10 _ = H10 at s10 g10 ⊢
      (repeat array_get_dec)
      intro x dx nx ndx nex
      have s0 : Same H10 (upd (upd H10 dx (.own x)) x (.ins a.Kind dx [])) := fun c' o hc' => by rw [upd_ne (ne_of_none hc' nx), upd_ne (ne_of_none hc' ndx)]; exact hc'
      obtain ⟨k1, k2, k3⟩ := kd_short ko
      have k12 := ko.le
      refine ⟨x, dx, kd.ti, kd.en, l10, kd.ps.map (·.t), kd.ps.map (·.m), rfl, upd_same, s0 _ _ g10, by rw [List.length_map, List.length_map], ?_, by omega, by omega, ⟨by rw [List.length_map]; omega, ?_⟩, ((((tb7.2.1.same s8).same s9).same s10).same s0), fun H11 n hn kp9 R hn9 => ?_⟩
      · intro i u m hu hm
        rw [List.getElem?_map] at hu hm
        obtain ⟨pd, hpd, rfl⟩ := Option.map_eq_some_iff.mp hu
        rw [hpd] at hm
        cases hm
        exact s0 _ _ (s10 _ _ (ka.2.2 pd (List.mem_of_getElem? hpd)))
      · intro m hm
        obtain ⟨pd, hpd, rfl⟩ := List.mem_map.mp hm
        have := k3 pd hpd
        omega
      rw [if_pos ko.ko]
      have s79 : Same H9 H11 := fun c' o h => kp9 c' o (s0 _ _ (s10 _ _ h)) (ne_of_none (s10 _ _ h) nx)
      have e11 := s79 _ _ e9
      have nn : n ≠ D9 := fun e => by rw [e, s0 _ _ (s10 _ _ e9)] at hn; cases hn
      have kx : KindOff a D9 H11 x kd := ⟨n, nn, R, hn9⟩
      refine ⟨rfl, e11, fun c' o h => by rw [upd_ne (ne_of_none h hD9)]; exact s79 _ _ (s9 _ _ h), ts ++ [x], by simp, by simp [tl7], fun i u k x' y' => ?_⟩
      rcases Nat.lt_trichotomy i ts.length with z | z | z
      · rw [List.getElem?_append_left z] at x'
        exact ((tk i u k x' y').same s79).put e11
      · subst z
        rw [List.getElem?_append_right (Nat.le_refl _), Nat.sub_self] at x'
        cases x'
        rw [tl7, hk?] at y'
        cases y'
        exact kx.put e11
      · rw [List.getElem?_eq_none (by simp; omega)] at x'; cases x'
    obtain ⟨zs', rfl, zl, zk⟩ := r9
    rw [List.length_map, List.length_map] at zl
    (repeat array_get_dec)
    intro x dx nx ndx nex
    have s0 : Same H9 (upd (upd H9 dx (.own x)) x (.ins a.Tongue dx [])) := fun c' o hc' => by rw [upd_ne (ne_of_none hc' nx), upd_ne (ne_of_none hc' ndx)]; exact hc'
    have s70 := s8.trans (s9.trans s0)
    refine ⟨x, dx, d.b, D7, l8, D9, os, d.ms.map (·.t), zs', d.ks.map (·.ti), rfl, upd_same, do_.b.1, s70 _ _ e7, s0 _ _ (s9 _ _ g8), ?_, s0 _ _ e9, ?_, do_.nd, by rw [List.length_map]; omega, s70 _ _ tb7.1.1, s70 _ _ tb7.2.2, fun H11 kp9 R9 => ⟨rfl, ?_⟩⟩
    · intro t ht
      obtain ⟨m, hm, rfl⟩ := List.mem_map.mp ht
      exact ⟨m.m, s70 _ _ (da7.ms m hm), do_.ms m hm⟩
    · refine ⟨by rw [zl, List.length_map], fun i o t ho ht => ?_⟩
      rw [List.getElem?_map] at ht
      obtain ⟨kd, hkd, rfl⟩ := Option.map_eq_some_iff.mp ht
      obtain ⟨n, _, R, _⟩ := zk i o kd ho hkd
      exact ⟨_, n, R.same s0⟩
    · have s911 : Same H9 H11 := fun c' o h => kp9 c' o (s0 _ _ h) (ne_of_none h nx)
      have s711 := s8.trans (s9.trans s911)
      exact k H11 x os zs' (s7.trans s711) ⟨R9, ol, fun i o r x y => let ⟨n, _, b, c⟩ := ok i o r x y; ⟨n, b.same s711, s711 _ _ c⟩, zl, fun i o r x y => let ⟨n, _, b, c⟩ := zk i o r x y; ⟨n, b.same s911, s911 _ _ c⟩⟩
end
end K32

namespace K32
open PySem PySem.Spec PyProof.Rows L2
/-! ### rows of words, and their texts -/
def sp : Str := " "
def lf : Str := "\n"
def figs (i : Int) : Str := Str.ofString (toString i)
theorem figs_len {i : Int} (h0 : 0 ≤ i) (h : i < 10 ^ 62) : (figs i).length ≤ 63 := by
  have e := PySem.int_text_length_le10 (a := i) (k := 62) (by decide) (by omega)
  unfold figs
  rw [PySem.ofString_length]
  omega
/-- words with a blank between two -/
def J (row : List Str) : Str := Txt.join sp row
theorem join_two (z x y : Str) (r : List Str) : Txt.join z (x :: y :: r) = x ++ z ++ Txt.join z (y :: r) := by
  show Builtin.Str.glued z (x :: y :: r) = x ++ z ++ Builtin.Str.glued z (y :: r)
  rw [StrLaws.glued_eq_join, StrLaws.glued_eq_join]; rfl
theorem join_one (z x : Str) : Txt.join z [x] = x := by
  show Builtin.Str.glued z [x] = x
  rw [StrLaws.glued_eq_join]; rfl
theorem join_nil (z : Str) : Txt.join z [] = "" := by
  show Builtin.Str.glued z [] = ""
  rw [StrLaws.glued_eq_join]; rfl
theorem J_cons {x : Str} {r : List Str} (h : r ≠ []) : J (x :: r) = x ++ sp ++ J r := by
  cases r with
  | nil => exact absurd rfl h
  | cons y r => exact join_two sp x y r
theorem app_assoc (x y z : Str) : x ++ y ++ z = x ++ (y ++ z) := st_ext (by rw [st_cps, st_cps, st_cps, st_cps, List.append_assoc])
theorem empty_app (x : Str) : Str.empty ++ x = x := st_ext (by rw [st_cps]; rfl)
theorem app_nil (x : Str) : x ++ ("" : Str) = x := st_ext (by rw [st_cps]; exact List.append_nil _)
theorem join_len (z : Str) : ∀ r : List Str, (Txt.join z r).length ≤ (r.map (·.length)).sum + r.length * z.length
  | [] => by rw [join_nil]; simp; decide
  | [x] => by rw [join_one]; simp
  | x :: y :: r => by
    have := join_len z (y :: r)
    rw [join_two, st_len, st_len]
    simp only [List.map_cons, List.sum_cons, List.length_cons, Nat.succ_mul] at this ⊢
    omega
theorem sum_le {l : List Str} {b : Nat} (h : ∀ t ∈ l, t.length ≤ b) : (l.map (·.length)).sum ≤ l.length * b := by
  induction l with
  | nil => simp
  | cons x r ih =>
    have h1 := h x (.head _)
    have h2 := ih fun t ht => h t (.tail _ ht)
    rw [List.map_cons, List.sum_cons, List.length_cons, Nat.succ_mul]
    omega
theorem J_room {r : List Str} {n b : Nat} (hn : r.length ≤ n) (hb : ∀ t ∈ r, t.length ≤ b) : (r.map (·.length)).sum + r.length * sp.length ≤ n * b + n := by
  have h1 := sum_le hb
  have h2 : sp.length = 1 := by decide
  have h3 : r.length * b ≤ n * b := Nat.mul_le_mul_right b hn
  rw [h2]; omega
theorem J_len {r : List Str} {n b : Nat} (hn : r.length ≤ n) (hb : ∀ t ∈ r, t.length ≤ b) : (J r).length ≤ n * b + n := Nat.le_trans (join_len sp r) (J_room hn hb)
/-- rows with a line feed behind each -/
theorem join_lf : ∀ (x : Str) (r : List Str), Txt.join lf (x :: r) ++ lf = Txt.join "" ((x :: r).map (· ++ lf))
  | x, [] => by rw [List.map_cons, List.map_nil, join_one, join_one]
  | x, y :: r => by
    rw [join_two, List.map_cons, List.map_cons, join_two, ← List.map_cons (f := (· ++ lf)), ← join_lf y r, app_nil, app_assoc]
/-- is_word_rule -/
def wr (r : RD) : Bool := decide (r.ys.length = 1) && decide (r.l = r.h) && decide (r.b = 2) && decide (r.f = r.l % 2)
/-- the row of a rule -/
def rowR (r : RD) : List Str := if wr r = true then "word" :: figs r.l :: r.ys else "rule" :: figs r.l :: figs r.h :: figs r.b :: figs r.f :: figs r.e :: ":" :: r.ys
theorem wr_last {r : RD} (h : r.ok) (h1 : r.ys.length = 1) : r.f = r.e := by
  obtain ⟨y, hy, wy⟩ := h.it.wd
  obtain ⟨z, ez⟩ := List.length_eq_one_iff.mp h1
  have hz : y = z := by rw [ez] at hy; exact List.mem_singleton.mp hy
  have ro := h.ro
  unfold ruleOk tellOk at ro
  simp only [Bool.and_eq_true] at ro
  by_cases z1 : r.f = r.e
  · exact z1
  · have hs : hasS ["R", "K"] r.ys = false := by
      rw [Bool.eq_false_iff]
      intro z2
      obtain ⟨s, hs, e⟩ := List.any_eq_true.mp z2
      rw [inV_iff, ez, List.mem_singleton, ← hz] at e
      subst e
      exact word_sig wy (rk_sig hs)
    have := ro.2.1
    rw [decide_eq_false z1, hs] at this
    cases this
section
variable {P : Program} {w : World} {K : PySem.W.Frag} {mg : Str → Option Value} {base : Heap} {a : Ad}
/-- a rule object made of r -/
def RuleOf (a : Ad) (H : Hp) (o : Addr) (r : RD) : Prop := ∃ n, RuleAt a H o r.l r.h r.b r.f r.e n ∧ H n = some (.lst (r.ys.map .str))
/-! ### is_word_rule -/
abbrev DWR (K : PySem.W.Frag) (mg : Str → Option Value) := Df K mg "is_word_rule" "is_word_rule" (top 35) ["rule"]
def spWR (a : Ad) : Sp := fun vs H Q _ => ∃ (o : Addr) (r : RD), vs = [.ref o] ∧ RuleOf a H o r ∧ Q (.bl (wr r)) H
theorem scWR : FnScope ["rule"] ["rule"] (defScope (top 35)) := ⟨rfl, rfl, rfl, by decide +kernel, rfl, by decide +kernel, by decide +kernel⟩
theorem ok_wr (D : DWR K mg) (T : Txt K mg a) : FnOk P w K mg base CX0 1 D.f D.fd ["rule"] (spWR a) := by
  refine Df.ok (k := 0) D.ex scWR (fun vs H Q E h => ?_) (fun A outer s H vs Q E hr h => ?_)
  · obtain ⟨o, r, rfl, _⟩ := h; rfl
  · obtain ⟨o, r, rfl, ⟨n, R, hn⟩, k⟩ := h
    obtain ⟨dx, fs, ho, N, hps⟩ := id R.ob
    have nd := scWR.nd
    refine ⟨_, (pss_cons (ps_if (pw_or (pt_cmpR op_ne (pe_callB call_len_seq (by rfl) T.b_len boot_len (pa_c (pe_fld (pv 0) (by rfl)) pa_nil)) pe_int (nomark _)) (pw_or (pt_cmpR op_ne (pe_fld (pv 0) (by rfl)) (pe_fld (pv 0) (by rfl)) (nomark _)) (pw_or1 (pt_cmpR op_ne (pe_fld (pv 0) (by rfl)) pe_int (nomark _))))).pt
 (pss_one (ps_ret pe_bl))
 pss_nil)
 (pss_one (ps_ret (pe_cmpR op_eq (pe_fld (pv 0) (by rfl)) (pe_op op_mod (pe_fld (pv 0) (by rfl)) pe_int) (nomark _))))), ?_⟩
    unfold wr at k
    (repeat array_get_dec)
    refine ⟨o, _, dx, fs, _, rfl, ho, T.clR, T.n_pieces, hps, ?_⟩
    (repeat array_get_dec)
    refine ⟨n, _, rfl, .inl (SqL.of hn), ?_⟩
    (repeat array_get_dec)
    rw [List.length_map]
    refine w_ite (fun z => ?_) (fun z => ?_)
    · have z : ¬ r.ys.length = 1 := by
        intro e; rw [e] at z; exact absurd z (by decide)
      (repeat array_get_dec)
      rw [decide_eq_false z] at k
      exact k
    have z : r.ys.length = 1 := by
      by_cases e : r.ys.length = 1
      · exact e
      · have : ¬ ((r.ys.length : Nat) : Int) = 1 := by omega
        rw [decide_eq_false this] at z; cases z
    rw [decide_eq_true z, Bool.true_and] at k
    (repeat array_get_dec)
    refine ⟨o, _, dx, fs, _, rfl, ho, T.clR, T.n_low, N.low, ?_⟩
    (repeat array_get_dec)
    refine ⟨o, _, dx, fs, _, rfl, ho, T.clR, T.n_high, N.high, ?_⟩
    (repeat array_get_dec)
    refine w_ite (fun z1 => ?_) (fun z1 => ?_)
    · have z1 : decide (r.l = r.h) = false := by simpa using z1
      (repeat array_get_dec)
      rw [z1] at k
      exact k
    have z1 : decide (r.l = r.h) = true := by simpa using z1
    rw [z1, Bool.true_and] at k
    (repeat array_get_dec)
    refine ⟨o, _, dx, fs, _, rfl, ho, T.clR, T.n_base, N.base, ?_⟩
    (repeat array_get_dec)
    refine w_ite (fun z2 => ?_) (fun z2 => ?_)
    · have z2 : decide (r.b = 2) = false := by simpa using z2
      (repeat array_get_dec)
      rw [z2] at k
      exact k
    have z2 : decide (r.b = 2) = true := by simpa using z2
    rw [z2, Bool.true_and] at k
    (repeat array_get_dec)
    refine ⟨o, _, dx, fs, _, rfl, ho, T.clR, T.n_first, N.first, ?_⟩
    (repeat array_get_dec)
    refine ⟨o, _, dx, fs, _, rfl, ho, T.clR, T.n_low, N.low, ?_⟩
    (repeat array_get_dec)
    exact k
/-! ### rule_text -/
abbrev DRTx (K : PySem.W.Frag) (mg : Str → Option Value) := Df K mg "rule_text" "rule_text" (top 34) ["rule"]
def spRTx (a : Ad) : Sp := fun vs H Q _ => ∃ (o : Addr) (r : RD), vs = [.ref o] ∧ RuleOf a H o r ∧ r.ok ∧ Q (.str (J (rowR r))) H
theorem scRTx : FnScope ["rule", "pieces"] ["rule"] (defScope (top 34)) := ⟨rfl, rfl, rfl, by decide +kernel, rfl, by decide +kernel, by decide +kernel⟩
theorem ok_rtx (D : DRTx K mg) (D_is_word_rule : DWR K mg) (G_is_word_rule : FnOk P w K mg base CX0 1 D_is_word_rule.f D_is_word_rule.fd ["rule"] (spWR a)) (T : Txt K mg a) : FnOk P w K mg base CX0 2 D.f D.fd ["rule"] (spRTx a) := by
  refine Df.ok (k := 1) D.ex scRTx (fun vs H Q E h => ?_) (fun A outer s H vs Q E hr h => ?_)
  · obtain ⟨o, r, rfl, _⟩ := h; rfl
  · obtain ⟨o, r, rfl, ⟨n, R, hn⟩, ro, k⟩ := h
    obtain ⟨dx, fs, ho, N, hps⟩ := id R.ob
    have nd := scRTx.nd
    refine ⟨_, (pss_cons (ps_set (i := 1) nd rfl (Or.inl rfl) (pe_bm PySem.F.plainAttrs_str PySem.F.slot_str_join PySem.F.type_str_join mt_join pe_str (pa_c (pe_fld (pv 0) (by rfl)) pa_nil)))
 (pss_cons (ps_if (pt_val (pe_call G_is_word_rule (hr.mono (by decide)) (by rfl) D_is_word_rule.mg D_is_word_rule.kp D_is_word_rule.bd .nil pass0 (pa_c (pv 0) pa_nil)))
 (pss_one (ps_ret (pe_js (pj_c pe_str (pj_c (pe_fvI (pe_fld (pv 0) (by rfl))) (pj_c pe_str (pj_c (pe_fvS (pv 1)) pj_nil)))))))
 pss_nil)
 (pss_one (ps_ret (pe_js (pj_c pe_str (pj_c (pe_fvI (pe_fld (pv 0) (by rfl))) (pj_c pe_str (pj_c (pe_fvI (pe_fld (pv 0) (by rfl))) (pj_c pe_str (pj_c (pe_fvI (pe_fld (pv 0) (by rfl))) (pj_c pe_str (pj_c (pe_fvI (pe_fld (pv 0) (by rfl))) (pj_c pe_str (pj_c (pe_fvI (pe_fld (pv 0) (by rfl))) (pj_c pe_str (pj_c (pe_fvS (pv 1)) pj_nil))))))))))))))))), ?_⟩
    have le8 := ro.it.le
    have len10 : ∀ y ∈ r.ys, y.length ≤ 10 := fun y hy => (ro.it.ok.pc y hy).len
    have jr := J_room le8 len10
    have jl := J_len le8 len10
    (repeat array_get_dec)
    refine ⟨rfl, ?_⟩
    (repeat array_get_dec)
    refine ⟨o, _, dx, fs, _, rfl, ho, T.clR, T.n_pieces, hps, ?_⟩
    (repeat array_get_dec)
    refine ⟨sp, n, r.ys, rfl, rfl, SqL.of hn, by omega, ?_⟩
    (repeat array_get_dec)
    refine ⟨o, r, rfl, ⟨n, R, hn⟩, ?_⟩
    (repeat array_get_dec)
    unfold rowR at k
    have e0 : Str.empty.length = 0 := rfl
    have e1 : (" " : Str).length = 1 := by decide
    have e5 : ("word " : Str).length = 5 := by decide
    have e6 : ("rule " : Str).length = 5 := by decide
    have e3 : (" : " : Str).length = 3 := by decide
    have fl : (Str.ofString (toString r.l)).length ≤ 63 := figs_len ro.l.1 (by have := ro.l.2; omega)
    have fh : (Str.ofString (toString r.h)).length ≤ 63 := figs_len ro.h.1 (by have := ro.h.2; omega)
    have fb : (Str.ofString (toString r.b)).length ≤ 63 := figs_len (by have := ro.b.1; omega) (by have := ro.b.2; omega)
    have ff : (Str.ofString (toString r.f)).length ≤ 63 := figs_len ro.f.1 (by have := ro.f.2; omega)
    have fe : (Str.ofString (toString r.e)).length ≤ 63 := figs_len ro.e.1 (by have := ro.e.2; omega)
    have gl : r.l.natAbs.log2 < 1920 := Nat.lt_trans (log_ok ro.l.1 (by have := ro.l.2; omega)) (by decide)
    have gh : r.h.natAbs.log2 < 1920 := Nat.lt_trans (log_ok ro.h.1 (by have := ro.h.2; omega)) (by decide)
    have gb : r.b.natAbs.log2 < 1920 := Nat.lt_trans (log_ok (by have := ro.b.1; omega) (by have := ro.b.2; omega)) (by decide)
    have gf : r.f.natAbs.log2 < 1920 := Nat.lt_trans (log_ok ro.f.1 (by have := ro.f.2; omega)) (by decide)
    have ge : r.e.natAbs.log2 < 1920 := Nat.lt_trans (log_ok ro.e.1 (by have := ro.e.2; omega)) (by decide)
    have ne := ro.it.ne
    change (Txt.join sp r.ys).length ≤ _ at jl
    refine w_ite (fun z => ?_) (fun z => ?_)
    · rw [if_pos z] at k
      (repeat array_get_dec)
      refine ⟨_, rfl, by (refine le_line ?_; (try simp only [st_len]); omega), ?_⟩
      (repeat array_get_dec)
      refine ⟨o, _, dx, fs, _, rfl, ho, T.clR, T.n_low, N.low, ?_⟩
      refine ⟨_, rfl, gl, ?_⟩
      refine ⟨_, rfl, by (refine le_line ?_; (try simp only [st_len]); omega), ?_⟩
      (repeat array_get_dec)
      refine ⟨_, rfl, by (refine le_line ?_; (try simp only [st_len]); omega), ?_⟩
      (repeat array_get_dec)
      refine ⟨_, rfl, by (refine le_line ?_; (try simp only [st_len]); omega), ?_⟩
      refine ⟨_, rfl, by (refine le_line ?_; (try simp only [st_len]); omega), ?_⟩
      refine ⟨by (refine le_line ?_; (try simp only [st_len]); omega), ?_⟩
      refine Eq.mpr (congrArg (fun x => Q (V.str x) H) ?_) k
      rw [J_cons (by simp), J_cons ne, empty_app, show ("word " : Str) = "word" ++ sp from by decide +kernel]
      simp only [app_assoc]; rfl
    · rw [if_neg (by rw [z]; exact Bool.false_ne_true)] at k
      (repeat array_get_dec)
      refine ⟨_, rfl, by (refine le_line ?_; (try simp only [st_len]); omega), ?_⟩
      (repeat array_get_dec)
      refine ⟨o, _, dx, fs, _, rfl, ho, T.clR, T.n_low, N.low, ?_⟩
      refine ⟨_, rfl, gl, ?_⟩
      refine ⟨_, rfl, by (refine le_line ?_; (try simp only [st_len]); omega), ?_⟩
      (repeat array_get_dec)
      refine ⟨_, rfl, by (refine le_line ?_; (try simp only [st_len]); omega), ?_⟩
      (repeat array_get_dec)
      refine ⟨o, _, dx, fs, _, rfl, ho, T.clR, T.n_high, N.high, ?_⟩
      refine ⟨_, rfl, gh, ?_⟩
      refine ⟨_, rfl, by (refine le_line ?_; (try simp only [st_len]); omega), ?_⟩
      (repeat array_get_dec)
      refine ⟨_, rfl, by (refine le_line ?_; (try simp only [st_len]); omega), ?_⟩
      (repeat array_get_dec)
      refine ⟨o, _, dx, fs, _, rfl, ho, T.clR, T.n_base, N.base, ?_⟩
      refine ⟨_, rfl, gb, ?_⟩
      refine ⟨_, rfl, by (refine le_line ?_; (try simp only [st_len]); omega), ?_⟩
      (repeat array_get_dec)
      refine ⟨_, rfl, by (refine le_line ?_; (try simp only [st_len]); omega), ?_⟩
      (repeat array_get_dec)
      refine ⟨o, _, dx, fs, _, rfl, ho, T.clR, T.n_first, N.first, ?_⟩
      refine ⟨_, rfl, gf, ?_⟩
      refine ⟨_, rfl, by (refine le_line ?_; (try simp only [st_len]); omega), ?_⟩
      (repeat array_get_dec)
      refine ⟨_, rfl, by (refine le_line ?_; (try simp only [st_len]); omega), ?_⟩
      (repeat array_get_dec)
      refine ⟨o, _, dx, fs, _, rfl, ho, T.clR, T.n_last, N.last, ?_⟩
      refine ⟨_, rfl, ge, ?_⟩
      refine ⟨_, rfl, by (refine le_line ?_; (try simp only [st_len]); omega), ?_⟩
      (repeat array_get_dec)
      refine ⟨_, rfl, by (refine le_line ?_; (try simp only [st_len]); omega), ?_⟩
      (repeat array_get_dec)
      refine ⟨_, rfl, by (refine le_line ?_; (try simp only [st_len]); omega), ?_⟩
      refine ⟨_, rfl, by (refine le_line ?_; (try simp only [st_len]); omega), ?_⟩
      refine ⟨by (refine le_line ?_; (try simp only [st_len]); omega), ?_⟩
      refine Eq.mpr (congrArg (fun x => Q (V.str x) H) ?_) k
      rw [J_cons (by simp), J_cons (by simp), J_cons (by simp), J_cons (by simp), J_cons (by simp), J_cons (by simp), J_cons ne, empty_app, show ("rule " : Str) = "rule" ++ sp from by decide +kernel, show (" : " : Str) = sp ++ (":" ++ sp) from by decide +kernel]
      simp only [app_assoc]; rfl
end
end K32

namespace K32
open PySem PySem.Spec PyProof.Rows L2
theorem mono2 {σ : L2.St} {x y : Option V} : ∀ (j : Nat) v, (tau 2 [] σ)[j]? = some (some v) → ([x, y] : L2.St)[j]? = some (some v) := fun j v h => by
  match j, h with
  | 0, h => cases h
  | 1, h => cases h
  | j + 2, h => cases h
/-! ### the rows of a tongue -/
def rowM (m : MD) : List Str := ["melt", m.m.1, m.m.2.1, m.m.2.2]
def rowT (p : PD) : List Str := ["turn", p.m.1, p.m.2]
def rowsK (k : KDD) : List (List Str) := ["kind", k.ti, k.en] :: k.ps.map rowT
def rowsOf (d : DD) : List (List Str) := ["bound", figs d.b] :: (d.rs.map rowR ++ d.ms.map rowM ++ d.ks.flatMap rowsK)
def textOf (d : DD) : Str := Txt.join lf ((rowsOf d).map J) ++ lf
theorem low_le {i j : Nat} {x : Str} (h : low i j x = true) : x.length ≤ j := by
  unfold low at h
  simp only [Bool.and_eq_true, decide_eq_true_eq] at h
  exact h.1.2
theorem melt_len {m : Str × Str × Str} (h : meltOk m = true) : m.1.length ≤ 6 ∧ m.2.1.length ≤ 6 ∧ m.2.2.length ≤ 6 := by
  unfold meltOk at h
  simp only [Bool.and_eq_true] at h
  exact ⟨by have := low_le h.1.1.1; omega, by have := low_le h.1.1.2; omega, low_le h.1.2⟩
/-- a row is short -/
def Sh (r : List Str) : Prop := r.length ≤ 15 ∧ ∀ t ∈ r, t.length ≤ 63
theorem Sh.len {r : List Str} (h : Sh r) : (J r).length ≤ 1000 := Nat.le_trans (J_len h.1 h.2) (by decide)
theorem sh_rule {r : RD} (h : r.ok) : Sh (rowR r) := by
  have le8 := h.it.le
  have yl : ∀ y ∈ r.ys, y.length ≤ 63 := fun y hy => by have := (h.it.ok.pc y hy).len; omega
  have fl : (figs r.l).length ≤ 63 := figs_len h.l.1 (by have := h.l.2; omega)
  have fh : (figs r.h).length ≤ 63 := figs_len h.h.1 (by have := h.h.2; omega)
  have fb : (figs r.b).length ≤ 63 := figs_len (by have := h.b.1; omega) (by have := h.b.2; omega)
  have ff : (figs r.f).length ≤ 63 := figs_len h.f.1 (by have := h.f.2; omega)
  have fe : (figs r.e).length ≤ 63 := figs_len h.e.1 (by have := h.e.2; omega)
  unfold rowR
  split
  · refine ⟨by simp only [List.length_cons]; omega, fun t ht => ?_⟩
    simp only [List.mem_cons] at ht
    rcases ht with rfl | rfl | ht
    · decide
    · exact fl
    · exact yl t ht
  · refine ⟨by simp only [List.length_cons]; omega, fun t ht => ?_⟩
    simp only [List.mem_cons] at ht
    rcases ht with rfl | rfl | rfl | rfl | rfl | rfl | rfl | ht
    · decide
    · exact fl
    · exact fh
    · exact fb
    · exact ff
    · exact fe
    · decide
    · exact yl t ht
theorem sh_melt {m : MD} (h : meltOk m.m = true) : Sh (rowM m) := by
  obtain ⟨h1, h2, h3⟩ := melt_len h
  refine ⟨by unfold rowM; simp, fun t ht => ?_⟩
  unfold rowM at ht
  simp only [List.mem_cons, List.not_mem_nil, or_false] at ht
  rcases ht with rfl | rfl | rfl | rfl
  · decide
  all_goals omega
theorem sh_kind {k : KDD} (h : k.ok) : ∀ r ∈ rowsK k, Sh r := fun r hr => by
  obtain ⟨h1, h2, h3⟩ := kd_short h
  unfold rowsK at hr
  rcases List.mem_cons.mp hr with rfl | hr
  · refine ⟨by simp, fun t ht => ?_⟩
    simp only [List.mem_cons, List.not_mem_nil, or_false] at ht
    rcases ht with rfl | rfl | rfl
    · decide
    all_goals omega
  · obtain ⟨p, hp, rfl⟩ := List.mem_map.mp hr
    obtain ⟨g1, g2⟩ := h3 p hp
    refine ⟨by unfold rowT; simp, fun t ht => ?_⟩
    unfold rowT at ht
    simp only [List.mem_cons, List.not_mem_nil, or_false] at ht
    rcases ht with rfl | rfl | rfl
    · decide
    all_goals omega
theorem sh_rows {d : DD} (h : d.ok) : ∀ r ∈ rowsOf d, Sh r := fun r hr => by
  unfold rowsOf at hr
  rcases List.mem_cons.mp hr with rfl | hr
  · have fb : (figs d.b).length ≤ 63 := figs_len h.b.1 (by have := h.b.2; omega)
    refine ⟨by simp, fun t ht => ?_⟩
    simp only [List.mem_cons, List.not_mem_nil, or_false] at ht
    rcases ht with rfl | rfl
    · decide
    · exact fb
  rcases List.mem_append.mp hr with hr | hr
  · rcases List.mem_append.mp hr with hr | hr
    · obtain ⟨x, hx, rfl⟩ := List.mem_map.mp hr
      exact sh_rule (h.rs x hx)
    · obtain ⟨x, hx, rfl⟩ := List.mem_map.mp hr
      exact sh_melt (h.ms x hx)
  · obtain ⟨x, hx, hr⟩ := List.mem_flatMap.mp hr
    exact sh_kind (h.ks x hx) r hr
theorem kinds_len : ∀ {ks : List KDD}, (∀ k ∈ ks, k.ok) → (ks.flatMap rowsK).length ≤ 13 * ks.length
  | [], _ => by simp
  | k :: r, h => by
    have h1 := kinds_len (ks := r) fun x hx => h x (.tail _ hx)
    have h2 := (h k (.head _)).le
    rw [List.flatMap_cons, List.length_append, List.length_cons]
    have h3 : (rowsK k).length = k.ps.length + 1 := by unfold rowsK; simp
    omega
theorem rows_len {d : DD} (h : d.ok) : (rowsOf d).length ≤ 105 := by
  have h1 := kinds_len h.ks
  have h2 := h.rn
  have h3 := h.mn
  have h4 := h.kn
  unfold rowsOf
  simp only [List.length_cons, List.length_append, List.length_map]
  omega
section
variable {P : Program} {w : World} {K : PySem.W.Frag} {mg : Str → Option Value} {base : Heap} {a : Ad}
/-! ### tongue_text -/
abbrev DTT (K : PySem.W.Frag) (mg : Str → Option Value) := Df K mg "tongue_text" "tongue_text" (top 33) ["tongue"]
def spTT (a : Ad) : Sp := fun vs H Q _ => ∃ (x : Addr) (d : DD) (os zs : List Addr), vs = [.ref x] ∧ TD a H x d os zs ∧ d.at H ∧ d.ok ∧ ∀ H', Same H H' → Q (.str (textOf d)) H'
abbrev nTT : List Str := ["tongue", "rows", "kind"]
theorem scTT : FnScope nTT ["tongue"] (defScope (top 33)) := ⟨rfl, rfl, rfl, by decide +kernel, rfl, by decide +kernel, by decide +kernel⟩
theorem ok_tt (D : DTT K mg) (D_rule_text : DRTx K mg) (G_rule_text : FnOk P w K mg base CX0 2 D_rule_text.f D_rule_text.fd ["rule"] (spRTx a)) (T : Txt K mg a) : FnOk P w K mg base CX0 3 D.f D.fd ["tongue"] (spTT a) := by
  refine Df.ok (k := 2) D.ex scTT (fun vs H Q E h => ?_) (fun A outer s H vs Q E hr h => ?_)
  · obtain ⟨x, d, os, zs, rfl, _⟩ := h; rfl
  · obtain ⟨x, d, os, zs, rfl, td, da, do_, k⟩ := h
    obtain ⟨dx, fs, ra, qa, ka, hx, fl, hra, hqa, hka⟩ := id td.tg.ob
    have nd := scTT.nd
    have gb : d.b.natAbs.log2 < 1920 := Nat.lt_trans (log_ok do_.b.1 (by have := do_.b.2; omega)) (by decide)
    have fb : (Str.ofString (toString d.b)).length ≤ 63 := figs_len do_.b.1 (by have := do_.b.2; omega)
    have e0 : Str.empty.length = 0 := rfl
    have e1 : (" " : Str).length = 1 := by decide
    have e6 : ("bound " : Str).length = 6 := by decide
    have e5 : ("melt " : Str).length = 5 := by decide
    have e5' : ("kind " : Str).length = 5 := by decide
    have e5'' : ("turn " : Str).length = 5 := by decide
    refine ⟨_, (pss_cons (ps_set (i := 1) nd rfl (Or.inl rfl) (pe_lst (pa_c (pe_js (pj_c pe_str (pj_c (pe_fvI (pe_fld (pv 0) (by rfl))) pj_nil))) pa_nil)))
 (pss_cons (ps_expr (pe_bm PySem.F.plainAttrs_list PySem.F.slot_list_extend PySem.F.type_list_extend mt_extend (pv 1) (pa_c (pe_lc (N := ["rule"]) (fs := []) (⟨rfl, by rfl, by rfl, by rfl, trivial⟩) rfl (pi_list (pe_fld (pv 0) (by rfl))) (fun _ _ _ _ _ => (pg_name (i := 0) (show List.Nodup (["rule"] : List Str) from by decide +kernel) rfl (Or.inl rfl))) (fun _ _ _ _ _ => by exact pts_nil) (fun _ _ _ _ _ => by exact (pe_call G_rule_text (hr.mono (by decide)) (by rfl) D_rule_text.mg D_rule_text.kp D_rule_text.bd .nil pass0 (pa_c (pv 0) pa_nil)))) pa_nil)))
 (pss_cons (ps_expr (pe_bm PySem.F.plainAttrs_list PySem.F.slot_list_extend PySem.F.type_list_extend mt_extend (pv 1) (pa_c (pe_lc (N := ["ahead", "behind", "made"]) (fs := []) (⟨rfl, by rfl, by rfl, by rfl, trivial⟩) rfl (pi_list (pe_fld (pv 0) (by rfl))) (fun _ _ _ _ _ => (pg_tupK K (n := 3) rfl (pgs_cons (pg_name (i := 0) (show List.Nodup (["ahead", "behind", "made"] : List Str) from by decide +kernel) rfl (Or.inl rfl)) (pgs_cons (pg_name (i := 1) (show List.Nodup (["ahead", "behind", "made"] : List Str) from by decide +kernel) rfl (Or.inl rfl)) (pgs_cons (pg_name (i := 2) (show List.Nodup (["ahead", "behind", "made"] : List Str) from by decide +kernel) rfl (Or.inl rfl)) pgs_nil))))) (fun _ _ _ _ _ => by exact pts_nil) (fun _ _ _ _ _ => by exact (pe_js (pj_c pe_str (pj_c (pe_fvS (pv 0)) (pj_c pe_str (pj_c (pe_fvS (pv 1)) (pj_c pe_str (pj_c (pe_fvS (pv 2)) pj_nil))))))))) pa_nil)))
 (pss_cons (ps_for PassesOwn.never rfl (pi_list (pe_fld (pv 0) (by rfl))) (pg_name (i := 2) (show List.Nodup (["tongue", "rows", "kind"] : List Str) from by decide +kernel) rfl (Or.inl rfl))
 (pss_cons (ps_expr (pe_bm PySem.F.plainAttrs_list PySem.F.slot_list_append PySem.F.type_list_append mt_append (pv 1) (pa_c (pe_js (pj_c pe_str (pj_c (pe_fvS (pe_fld (pv 2) (by rfl))) (pj_c pe_str (pj_c (pe_fvS (pe_fld (pv 2) (by rfl))) pj_nil))))) pa_nil)))
 (pss_one (ps_expr (pe_bm PySem.F.plainAttrs_list PySem.F.slot_list_extend PySem.F.type_list_extend mt_extend (pv 1) (pa_c (pe_lc (N := ["first", "second"]) (fs := []) (⟨rfl, by rfl, by rfl, by rfl, trivial⟩) rfl (pi_list (pe_fld (pv 2) (by rfl))) (fun _ _ _ _ _ => (pg_tupK K (n := 2) rfl (pgs_cons (pg_name (i := 0) (show List.Nodup (["first", "second"] : List Str) from by decide +kernel) rfl (Or.inl rfl)) (pgs_cons (pg_name (i := 1) (show List.Nodup (["first", "second"] : List Str) from by decide +kernel) rfl (Or.inl rfl)) pgs_nil)))) (fun _ _ _ _ _ => by exact pts_nil) (fun _ _ _ _ _ => by exact (pe_js (pj_c pe_str (pj_c (pe_fvS (pv 0)) (pj_c pe_str (pj_c (pe_fvS (pv 1)) pj_nil))))))) pa_nil))))))
 (pss_one (ps_ret (pe_op op_add_str (pe_bm PySem.F.plainAttrs_str PySem.F.slot_str_join PySem.F.type_str_join mt_join pe_str (pa_c (pv 1) pa_nil)) pe_str))))))), ?_⟩
    (repeat array_get_dec)
    refine ⟨_, rfl, by (refine le_line ?_; (try simp only [st_len]); omega), ?_⟩
    (repeat array_get_dec)
    refine ⟨x, _, dx, fs, _, rfl, hx, T.cl, T.n_bound, fl.bound, ?_⟩
    refine ⟨_, rfl, gb, ?_⟩
    refine ⟨_, rfl, by (refine le_line ?_; (try simp only [st_len]); omega), ?_⟩
    refine ⟨by (refine le_line ?_; (try simp only [st_len]); omega), ?_⟩
    (repeat array_get_dec)
    refine ⟨by show 1 ≤ sizeLine; decide, fun rw' hrw => ?_⟩
    have eb : Str.empty ++ ("bound " : Str) ++ Str.ofString (toString d.b) = J ["bound", figs d.b] := by
      rw [J_cons (by simp), empty_app, show ("bound " : Str) = "bound" ++ sp from by decide +kernel]
      show _ = "bound" ++ sp ++ Txt.join sp [figs d.b]
      rw [join_one]; rfl
    rw [eb]
    have s1 := Same.upd (o := .lst [V.str (J ["bound", figs d.b])]) hrw
    have g1 : (upd H rw' (.lst [V.str (J ["bound", figs d.b])])) rw' = some (.lst (([J ["bound", figs d.b]]).map V.str)) := upd_same
    generalize upd H rw' _ = H1 at s1 g1 ⊢
    (repeat array_get_dec)
    refine ⟨.inl ⟨rfl, _, SqL.of g1⟩, ?_⟩
    (repeat array_get_dec)
    refine ⟨x, _, dx, fs, _, rfl, s1 _ _ hx, T.cl, T.n_rules, fl.rules, ?_⟩
    have r40 := do_.rn
    have rn := td.rn
    have hra1 := s1 _ _ hra
    refine ⟨ra, rfl, ⟨_, SqL.of hra1⟩, lcG (fun n ws => ws = ((d.rs.take n).map fun r => J (rowR r)).map V.str) (tells_l (SqL.of hra1)) (by rw [List.length_map]; exact le_line (by omega)) rfl (fun D2 j ws H2 hj hD2 s2 e2 r2 => ?_) (fun D2 H2 ws hD2 s2 e2 r2 => ?_)⟩
    · rw [List.length_map] at hj
      have hj' : j < d.rs.length := by omega
      have ej : (os.map V.ref).getD j .non = V.ref os[j] := by simp [List.getD_eq_getElem?_getD, hj]
      rw [ej]
      (repeat array_get_dec)
      refine ⟨mono0 rfl, ?_⟩
      (repeat array_get_dec)
      obtain ⟨n, R, hn⟩ := td.rs j os[j] d.rs[j] (List.getElem?_eq_getElem hj) (List.getElem?_eq_getElem hj')
      have s12 := s1.trans s2
      refine ⟨os[j], d.rs[j], rfl, ⟨n, R.same s12, s12 _ _ hn⟩, do_.rs _ (List.getElem_mem hj'), ?_⟩
      exact lcFin hD2 s2 e2 (Same.refl _) (by rw [r2, List.take_succ, List.getElem?_eq_getElem hj', List.map_append, List.map_append]; rfl)
    have r2 : ws = (d.rs.map fun r => J (rowR r)).map V.str := by rw [r2, List.length_map, rn, List.take_of_length_le (Nat.le_refl _)]
    subst r2
    have g2 := s2 _ _ g1
    (repeat array_get_dec)
    refine ⟨rw', D2, _, _, rfl, rfl, g2, e2, by simp only [List.length_map, List.length_cons, List.length_nil]; exact le_line (by omega), ?_⟩
    rw [← List.map_append]
    have s3 : Same H (upd H2 rw' (.lst ((([J ["bound", figs d.b]]) ++ d.rs.map fun r => J (rowR r)).map V.str))) := fun c o h => by rw [upd_ne (ne_of_none h hrw)]; exact s2 _ _ (s1 _ _ h)
    have g3 : (upd H2 rw' (.lst ((([J ["bound", figs d.b]]) ++ d.rs.map fun r => J (rowR r)).map V.str))) rw' = some (.lst ((([J ["bound", figs d.b]]) ++ d.rs.map fun r => J (rowR r)).map V.str)) := upd_same
    show tSeq _ _ _ _ (upd H2 rw' (.lst ((([J ["bound", figs d.b]]) ++ d.rs.map fun r => J (rowR r)).map V.str)))
    generalize upd H2 rw' _ = H3 at s3 g3 ⊢
    clear e2 hD2 g2 g1 s1 s2 hra1
    generalize hL3 : ([J ["bound", figs d.b]]) ++ d.rs.map (fun r => J (rowR r)) = L3 at g3
    have l3 : L3.length ≤ 41 := by rw [← hL3]; simp only [List.length_append, List.length_cons, List.length_nil, List.length_map]; omega
    (repeat array_get_dec)
    refine ⟨.inl ⟨rfl, _, SqL.of g3⟩, ?_⟩
    (repeat array_get_dec)
    refine ⟨x, _, dx, fs, _, rfl, s3 _ _ hx, T.cl, T.n_melts, fl.melts, ?_⟩
    have m12 := do_.mn
    have hqa3 := s3 _ _ hqa
    refine ⟨qa, rfl, ⟨_, SqL.of hqa3⟩, lcG (fun n ws => ws = ((d.ms.take n).map fun r => J (rowM r)).map V.str) (tells_l (SqL.of hqa3)) (by rw [List.length_map, List.length_map]; exact le_line (by omega)) rfl (fun D4 j ws H4 hj hD4 s4 e4 r4 => ?_) (fun D4 H4 ws hD4 s4 e4 r4 => ?_)⟩
    · rw [List.length_map, List.length_map] at hj
      have ej : ((d.ms.map (·.t)).map V.ref).getD j .non = V.ref d.ms[j].t := by simp [List.getD_eq_getElem?_getD, hj]
      have hm := s4 _ _ (s3 _ _ (da.ms d.ms[j] (List.getElem_mem hj)))
      obtain ⟨ml1, ml2, ml3⟩ := melt_len (do_.ms d.ms[j] (List.getElem_mem hj))
      rw [ej]
      refine w_gTup' (SqT.of hm) rfl ?_
      refine ⟨_, _, rfl, _, _, rfl, _, _, rfl, rfl, ?_⟩
      refine ⟨mono3, ?_⟩
      (repeat array_get_dec)
      refine ⟨_, rfl, by (refine le_line ?_; (try simp only [st_len]); omega), ?_⟩
      (repeat array_get_dec)
      refine ⟨_, rfl, by (refine le_line ?_; (try simp only [st_len]); omega), ?_⟩
      refine ⟨_, rfl, by (refine le_line ?_; (try simp only [st_len]); omega), ?_⟩
      (repeat array_get_dec)
      refine ⟨_, rfl, by (refine le_line ?_; (try simp only [st_len]); omega), ?_⟩
      (repeat array_get_dec)
      refine ⟨_, rfl, by (refine le_line ?_; (try simp only [st_len]); omega), ?_⟩
      refine ⟨_, rfl, by (refine le_line ?_; (try simp only [st_len]); omega), ?_⟩
      (repeat array_get_dec)
      refine ⟨_, rfl, by (refine le_line ?_; (try simp only [st_len]); omega), ?_⟩
      (repeat array_get_dec)
      refine ⟨_, rfl, by (refine le_line ?_; (try simp only [st_len]); omega), ?_⟩
      refine ⟨_, rfl, by (refine le_line ?_; (try simp only [st_len]); omega), ?_⟩
      refine ⟨by (refine le_line ?_; (try simp only [st_len]); omega), ?_⟩
      refine lcFin hD4 s4 e4 (Same.refl _) ?_
      rw [r4, List.take_succ, List.getElem?_eq_getElem hj, List.map_append, List.map_append]
      refine congrArg (_ ++ ·) ?_
      show [V.str _] = [V.str (J (rowM d.ms[j]))]
      refine congrArg (fun z => [V.str z]) ?_
      unfold rowM
      rw [J_cons (by simp), J_cons (by simp), J_cons (by simp), empty_app, show ("melt " : Str) = "melt" ++ sp from by decide +kernel, show J [d.ms[j].m.2.2] = d.ms[j].m.2.2 from join_one _ _]
      simp only [app_assoc]; rfl
    have r4 : ws = (d.ms.map fun r => J (rowM r)).map V.str := by rw [r4, List.length_map, List.length_map, List.take_of_length_le (Nat.le_refl _)]
    subst r4
    have g4 := s4 _ _ g3
    (repeat array_get_dec)
    refine ⟨rw', D4, _, _, rfl, rfl, g4, e4, by simp only [List.length_map]; exact le_line (by omega), ?_⟩
    rw [← List.map_append]
    have s5 : Same H (upd H4 rw' (.lst ((L3 ++ d.ms.map fun r => J (rowM r)).map V.str))) := fun c o h => by rw [upd_ne (ne_of_none h hrw)]; exact s4 _ _ (s3 _ _ h)
    have g5 : (upd H4 rw' (.lst ((L3 ++ d.ms.map fun r => J (rowM r)).map V.str))) rw' = some (.lst ((L3 ++ d.ms.map fun r => J (rowM r)).map V.str)) := upd_same
    show tSeq _ _ _ _ (upd H4 rw' (.lst ((L3 ++ d.ms.map fun r => J (rowM r)).map V.str)))
    generalize upd H4 rw' _ = H5 at s5 g5 ⊢
    clear e4 hD4 g4 g3 s3 s4 hqa3
    generalize hL5 : L3 ++ d.ms.map (fun r => J (rowM r)) = L5 at g5
    have l5 : L5.length ≤ 53 := by rw [← hL5]; simp only [List.length_append, List.length_map]; omega
    (repeat array_get_dec)
    refine ⟨x, _, dx, fs, _, rfl, s5 _ _ hx, T.cl, T.n_kinds, fl.kinds, ?_⟩
    have k4 := do_.kn
    have zn := td.kn
    have hka5 := s5 _ _ hka
    refine ⟨ka, rfl, ⟨_, SqL.of hka5⟩, forL (K := K) (a := ka) (xs := zs.map V.ref) (fun i σ H6 => ∃ v2, σ = [some (V.ref x), some (V.ref rw'), v2] ∧ Same H H6 ∧ H6 rw' = some (.lst ((L5 ++ ((d.ks.take i).flatMap rowsK).map J).map V.str))) ⟨none, rfl, s5, by rw [List.take_zero, List.flatMap_nil, List.map_nil, List.append_nil]; exact g5⟩ (fun i σ H6 _ ⟨_, _, s6, _⟩ => SqL.of (s6 _ _ hka)) ?_ ?_⟩
    · rintro i v σ H6 hv ⟨v2, rfl, s6, g6⟩
      rw [List.getElem?_map] at hv
      obtain ⟨o, ho, rfl⟩ := Option.map_eq_some_iff.mp hv
      have hi : i < zs.length := (List.getElem?_eq_some_iff.mp ho).1
      have hi' : i < d.ks.length := by omega
      have hki : d.ks[i]? = some d.ks[i] := List.getElem?_eq_getElem hi'
      obtain ⟨n, R, hn⟩ := td.ks i o d.ks[i] ho hki
      have ko := do_.ks d.ks[i] (List.getElem_mem hi')
      have kat := da.ks d.ks[i] (List.getElem_mem hi')
      generalize d.ks[i] = kd at hki R hn ko kat
      obtain ⟨k1, k2, k3⟩ := kd_short ko
      have k12 := ko.le
      have kl := kinds_len (ks := d.ks.take i) fun y hy => do_.ks y (List.mem_of_mem_take hy)
      rw [List.length_take] at kl
      obtain ⟨kx, kf, r1, r2⟩ := (R.same s6).ob
      (repeat array_get_dec)
      refine ⟨.inl ⟨rfl, _, SqL.of g6⟩, ?_⟩
      (repeat array_get_dec)
      refine ⟨_, rfl, by (refine le_line ?_; (try simp only [st_len]); omega), ?_⟩
      (repeat array_get_dec)
      refine ⟨o, _, kx, kf, _, rfl, r1, T.clK, T.n_title, r2.title, ?_⟩
      refine ⟨_, rfl, by (refine le_line ?_; (try simp only [st_len]); omega), ?_⟩
      refine ⟨_, rfl, by (refine le_line ?_; (try simp only [st_len]); omega), ?_⟩
      (repeat array_get_dec)
      refine ⟨_, rfl, by (refine le_line ?_; (try simp only [st_len]); omega), ?_⟩
      (repeat array_get_dec)
      refine ⟨o, _, kx, kf, _, rfl, r1, T.clK, T.n_ending, r2.ending, ?_⟩
      refine ⟨_, rfl, by (refine le_line ?_; (try simp only [st_len]); omega), ?_⟩
      refine ⟨_, rfl, by (refine le_line ?_; (try simp only [st_len]); omega), ?_⟩
      refine ⟨by (refine le_line ?_; (try simp only [st_len]); omega), ?_⟩
      (repeat array_get_dec)
      have ek : Str.empty ++ ("kind " : Str) ++ kd.ti ++ (" " : Str) ++ kd.en = J ["kind", kd.ti, kd.en] := by
        rw [J_cons (by simp), J_cons (by simp), empty_app, show ("kind " : Str) = "kind" ++ sp from by decide +kernel, show J [kd.en] = kd.en from join_one _ _]
        simp only [app_assoc]; rfl
      rw [ek]
      refine ⟨rw', _, _, rfl, rfl, g6, by simp only [List.length_map, List.length_append]; exact le_line (by omega), ?_⟩
      generalize hL6 : L5 ++ ((d.ks.take i).flatMap rowsK).map J = L6 at g6 ⊢
      have l6 : L6.length ≤ 53 + 13 * 4 := by rw [← hL6]; simp only [List.length_append, List.length_map]; omega
      have es : L6.map V.str ++ [V.str (J ["kind", kd.ti, kd.en])] = (L6 ++ [J ["kind", kd.ti, kd.en]]).map V.str := by rw [List.map_append]; rfl
      rw [es]
      have s7 : Same H (upd H6 rw' (.lst ((L6 ++ [J ["kind", kd.ti, kd.en]]).map V.str))) := fun c o h => by rw [upd_ne (ne_of_none h hrw)]; exact s6 _ _ h
      have g7 : (upd H6 rw' (.lst ((L6 ++ [J ["kind", kd.ti, kd.en]]).map V.str))) rw' = some (.lst ((L6 ++ [J ["kind", kd.ti, kd.en]]).map V.str)) := upd_same
      show tDrop _ _ _ (upd H6 rw' (.lst ((L6 ++ [J ["kind", kd.ti, kd.en]]).map V.str)))
      generalize upd H6 rw' _ = H7 at s7 g7 ⊢
      obtain ⟨kx, kf, r1, r2⟩ := (R.same s7).ob
      have hn7 : H7 n = some (.lst ((kd.ps.map (·.t)).map .ref)) := s7 _ _ hn
      (repeat array_get_dec)
      refine ⟨.inl ⟨rfl, _, SqL.of g7⟩, ?_⟩
      (repeat array_get_dec)
      refine ⟨o, _, kx, kf, _, rfl, r1, T.clK, T.n_turns, r2.turns, ?_⟩
      refine ⟨n, rfl, ⟨_, SqL.of hn7⟩, lcG (fun m ws => ws = ((kd.ps.take m).map fun r => J (rowT r)).map V.str) (tells_l (SqL.of hn7)) (by rw [List.length_map, List.length_map]; exact le_line (by omega)) rfl (fun D8 j ws H8 hj hD8 s8 e8 r8 => ?_) (fun D8 H8 ws hD8 s8 e8 r8 => ?_)⟩
      · rw [List.length_map, List.length_map] at hj
        have ej : ((kd.ps.map (·.t)).map V.ref).getD j .non = V.ref kd.ps[j].t := by simp [List.getD_eq_getElem?_getD, hj]
        have hm := s8 _ _ (s7 _ _ (kat.2.2 kd.ps[j] (List.getElem_mem hj)))
        obtain ⟨ml1, ml2⟩ := k3 kd.ps[j] (List.getElem_mem hj)
        rw [ej]
        refine w_gTup' (SqT.of hm) rfl ?_
        refine ⟨_, _, rfl, _, _, rfl, rfl, ?_⟩
        refine ⟨mono2, ?_⟩
        (repeat array_get_dec)
        refine ⟨_, rfl, by (refine le_line ?_; (try simp only [st_len]); omega), ?_⟩
        (repeat array_get_dec)
        refine ⟨_, rfl, by (refine le_line ?_; (try simp only [st_len]); omega), ?_⟩
        refine ⟨_, rfl, by (refine le_line ?_; (try simp only [st_len]); omega), ?_⟩
        (repeat array_get_dec)
        refine ⟨_, rfl, by (refine le_line ?_; (try simp only [st_len]); omega), ?_⟩
        (repeat array_get_dec)
        refine ⟨_, rfl, by (refine le_line ?_; (try simp only [st_len]); omega), ?_⟩
        refine ⟨_, rfl, by (refine le_line ?_; (try simp only [st_len]); omega), ?_⟩
        refine ⟨by (refine le_line ?_; (try simp only [st_len]); omega), ?_⟩
        refine lcFin hD8 s8 e8 (Same.refl _) ?_
        rw [r8, List.take_succ, List.getElem?_eq_getElem hj, List.map_append, List.map_append]
        refine congrArg (_ ++ ·) ?_
        show [V.str _] = [V.str (J (rowT kd.ps[j]))]
        refine congrArg (fun z => [V.str z]) ?_
        unfold rowT
        rw [J_cons (by simp), J_cons (by simp), empty_app, show ("turn " : Str) = "turn" ++ sp from by decide +kernel, show J [kd.ps[j].m.2] = kd.ps[j].m.2 from join_one _ _]
        simp only [app_assoc]; rfl
      have r8 : ws = (kd.ps.map fun r => J (rowT r)).map V.str := by rw [r8, List.length_map, List.length_map, List.take_of_length_le (Nat.le_refl _)]
      subst r8
      have g8 := s8 _ _ g7
      (repeat array_get_dec)
      refine ⟨rw', D8, _, _, rfl, rfl, g8, e8, by simp only [List.length_map, List.length_append, List.length_cons, List.length_nil]; exact le_line (by omega), ?_⟩
      refine ⟨_, rfl, fun c o h => by rw [upd_ne (ne_of_none h hrw)]; exact s8 _ _ (s7 _ _ h), ?_⟩
      rw [upd_same, ← List.map_append, ← hL6, List.take_succ, hki, List.flatMap_append, List.map_append (f := J)]
      show _ = some (HO.lst (List.map V.str (_ ++ (_ ++ List.map J (List.flatMap rowsK [kd])))))
      rw [List.flatMap_singleton]
      unfold rowsK
      rw [List.map_cons (f := J), List.map_map]
      simp only [List.append_assoc]; rfl
    · rintro σ H6 ⟨v2, rfl, s6, g6⟩
      have eL : L5 ++ ((d.ks.take (zs.map V.ref).length).flatMap rowsK).map J = (rowsOf d).map J := by
        rw [List.length_map, zn, List.take_of_length_le (Nat.le_refl _), ← hL5, ← hL3]
        unfold rowsOf
        simp only [List.map_cons, List.map_append, List.map_map, List.append_assoc]; rfl
      rw [eL] at g6
      have sh := sh_rows do_
      have n105 := rows_len do_
      have hb : ∀ t ∈ (rowsOf d).map J, t.length ≤ 1000 := fun t ht => by
        obtain ⟨r, hr, rfl⟩ := List.mem_map.mp ht
        exact (sh r hr).len
      have hs := sum_le hb
      rw [List.length_map] at hs
      have e9 : lf.length = 1 := by decide
      have room : (((rowsOf d).map J).map (·.length)).sum + ((rowsOf d).map J).length * lf.length ≤ 16777216 := by
        rw [List.length_map, e9]
        have : (rowsOf d).length * 1000 ≤ 105 * 1000 := Nat.mul_le_mul_right _ n105
        omega
      have jlen := join_len lf ((rowsOf d).map J)
      (repeat array_get_dec)
      refine ⟨rfl, ?_⟩
      (repeat array_get_dec)
      refine ⟨lf, rw', (rowsOf d).map J, rfl, rfl, SqL.of g6, room, ?_⟩
      (repeat array_get_dec)
      refine ⟨_, _, rfl, rfl, ?_, ?_⟩
      · rw [List.length_map, e9] at jlen
        have : (rowsOf d).length * 1000 ≤ 105 * 1000 := Nat.mul_le_mul_right _ n105
        have e10 : ("\n" : Str).length = 1 := by decide
        rw [e10]
        have : sizeLine = 2 ^ 24 := rfl
        omega
      · exact k H6 s6
end
end K32

namespace K32
open PySem PySem.Spec PyProof.Rows L2
theorem eqL_ints (a b c d e f g h : Int) : eqL [V.int a, .int b, .int c, .int d] [V.int e, .int f, .int g, .int h] = (decide (a = e) && decide (b = f) && decide (c = g) && decide (d = h)) := by
  unfold eqL
  simp only [List.length_cons, List.length_nil, List.zip_cons_cons, List.zip_nil_left, List.all_cons, List.all_nil, eqV, Bool.and_true]
  simp only [Bool.and_assoc, beq_self_eq_true, Bool.true_and]
  rfl
theorem wr_law {r : RD} (h : r.ok) : (decide (r.ys.length = 1) && eqL [V.int r.h, .int r.b, .int r.f, .int r.e] [V.int r.l, .int 2, .int (r.l % 2), .int (r.l % 2)]) = wr r := by
  rw [eqL_ints]
  unfold wr
  by_cases z : r.ys.length = 1
  · have := wr_last h z
    rw [← this, decide_eq_true z]
    simp only [Bool.true_and]
    rw [show decide (r.h = r.l) = decide (r.l = r.h) from decide_eq_decide.mpr ⟨fun e => e.symm, fun e => e.symm⟩]
    cases decide (r.l = r.h) <;> cases decide (r.b = 2) <;> cases decide (r.f = r.l % 2) <;> rfl
  · rw [decide_eq_false z]; rfl
section
variable {P : Program} {w : World} {K : PySem.W.Frag} {mg : Str → Option Value} {base : Heap} {a : Ad}
/-! ### _law_rule_row -/
abbrev DRR (K : PySem.W.Frag) (mg : Str → Option Value) := Df K mg "_law_rule_row" "_law_rule_row" (top 48) ["_law_rule_here"]
def spRR : Sp := fun vs H Q _ => ∃ (r : RD), vs = [.ref r.t] ∧ r.at H ∧ r.ok ∧ ∀ H' l, Same H H' → H' l = some (.lst ((rowR r).map .str)) → Q (.ref l) H'
abbrev nRR : List Str := ["_law_rule_here", "_law_low", "_law_high", "_law_base", "_law_first", "_law_last", "_law_items_here"]
theorem scRR : FnScope nRR ["_law_rule_here"] (defScope (top 48)) := ⟨rfl, rfl, rfl, by decide +kernel, rfl, by decide +kernel, by decide +kernel⟩
theorem ok_rr (D : DRR K mg) (T : Txt K mg a) : FnOk P w K mg base CX0 1 D.f D.fd ["_law_rule_here"] spRR := by
  refine Df.ok (k := 0) D.ex scRR (fun vs H Q E h => ?_) (fun A outer s H vs Q E hr h => ?_)
  · obtain ⟨r, rfl, _⟩ := h; rfl
  · obtain ⟨r, rfl, ra, ro, k⟩ := h
    have nd := scRR.nd
    have hu := Nat.lt_of_succ_lt (hu_of hr)
    refine ⟨_, (pss_cons (ps_asg (pv 0) (pg_tup (n := 6) rfl (pgs_cons (pg_name (i := 1) (show List.Nodup (["_law_rule_here", "_law_low", "_law_high", "_law_base", "_law_first", "_law_last", "_law_items_here"] : List Str) from by decide +kernel) rfl (Or.inl rfl)) (pgs_cons (pg_name (i := 2) (show List.Nodup (["_law_rule_here", "_law_low", "_law_high", "_law_base", "_law_first", "_law_last", "_law_items_here"] : List Str) from by decide +kernel) rfl (Or.inl rfl)) (pgs_cons (pg_name (i := 3) (show List.Nodup (["_law_rule_here", "_law_low", "_law_high", "_law_base", "_law_first", "_law_last", "_law_items_here"] : List Str) from by decide +kernel) rfl (Or.inl rfl)) (pgs_cons (pg_name (i := 4) (show List.Nodup (["_law_rule_here", "_law_low", "_law_high", "_law_base", "_law_first", "_law_last", "_law_items_here"] : List Str) from by decide +kernel) rfl (Or.inl rfl)) (pgs_cons (pg_name (i := 5) (show List.Nodup (["_law_rule_here", "_law_low", "_law_high", "_law_base", "_law_first", "_law_last", "_law_items_here"] : List Str) from by decide +kernel) rfl (Or.inl rfl)) (pgs_cons (pg_name (i := 6) (show List.Nodup (["_law_rule_here", "_law_low", "_law_high", "_law_base", "_law_first", "_law_last", "_law_items_here"] : List Str) from by decide +kernel) rfl (Or.inl rfl)) pgs_nil))))))))
 (pss_cons (ps_if (pw_and (pt_cmpR op_eq (pe_callB call_len_seq (by rfl) T.b_len boot_len (pa_c (pv 6) pa_nil)) pe_int (nomark _)) (pw_and1 (pt_cmpR (op_eqL hu) (pe_tup (pa_c (pv 2) (pa_c (pv 3) (pa_c (pv 4) (pa_c (pv 5) pa_nil))))) (pe_tup (pa_c (pv 1) (pa_c pe_int (pa_c (pe_op op_mod (pv 1) pe_int) (pa_c (pe_op op_mod (pv 1) pe_int) pa_nil))))) (nomark _)))).pt
 (pss_one (ps_ret (pe_op op_cat (pe_lst (pa_c pe_str (pa_c (pe_callTy call_strI (by rfl) T.b_str (by decide +kernel) (pa_c (pv 1) pa_nil)) pa_nil))) (pv 6))))
 pss_nil)
 (pss_one (ps_ret (pe_op op_cat (pe_op op_cat (pe_op op_cat (pe_lst (pa_c pe_str pa_nil)) (pe_lc (N := ["_law_number"]) (fs := []) (⟨rfl, by rfl, by rfl, by rfl, trivial⟩) rfl (pi_tup (pe_slice sl_tup (pv 0) po_none (po_some pe_int))) (fun _ _ _ _ _ => (pg_name (i := 0) (show List.Nodup (["_law_number"] : List Str) from by decide +kernel) rfl (Or.inl rfl))) (fun _ _ _ _ _ => by exact pts_nil) (fun _ _ _ _ _ => by exact (pe_callTy call_strI (by rfl) T.b_str (by decide +kernel) (pa_c (pv 0) pa_nil))))) (pe_lst (pa_c pe_str pa_nil))) (pv 6)))))), ?_⟩
    have le8 := ro.it.le
    have gl : r.l.natAbs.log2 < 1920 := Nat.lt_trans (log_ok ro.l.1 (by have := ro.l.2; omega)) (by decide)
    (repeat array_get_dec)
    refine w_gTup' (SqT.of ra.1) rfl ?_
    refine ⟨_, _, rfl, _, _, rfl, _, _, rfl, _, _, rfl, _, _, rfl, _, _, rfl, rfl, ?_⟩
    have wl := wr_law ro
    unfold rowR at k
    (repeat array_mem_dec)
    show tIfS _ _ _ _ [some (V.ref r.t), some (V.int r.l), some (V.int r.h), some (V.int r.b), some (V.int r.f), some (V.int r.e), some (V.ref r.it)] H
    have len1 : decide (((r.ys.map V.str).length : Int) = 1) = decide (r.ys.length = 1) := by rw [List.length_map]; exact decide_eq_decide.mpr ⟨fun h => by omega, fun h => by omega⟩
    refine w_cut (fun σ2 H2 => σ2 = [some (V.ref r.t), some (V.int r.l), some (V.int r.h), some (V.int r.b), some (V.int r.f), some (V.int r.e), some (V.ref r.it)] ∧ Same H H2 ∧ wr r = false) (fun nx' hj => ?_) ?_
    · (repeat array_get_dec)
      refine ⟨r.it, _, rfl, .inl (SqL.of ra.2), ?_⟩
      (repeat array_get_dec)
      rw [len1]
      refine w_ite (fun z => ?_) (fun z => ?_)
      · rw [z, Bool.true_and] at wl
        (repeat array_get_dec)
        refine ⟨by show 4 ≤ sizeLine; decide, fun t1 h1 => ?_⟩
        have s1 := Same.upd (o := .tup [V.int r.h, .int r.b, .int r.f, .int r.e]) h1
        have g1 : (upd H t1 (.tup [V.int r.h, .int r.b, .int r.f, .int r.e])) t1 = some (.tup [V.int r.h, .int r.b, .int r.f, .int r.e]) := upd_same
        generalize upd H t1 _ = H1 at s1 g1 ⊢
        (repeat array_get_dec)
        refine ⟨by show 4 ≤ sizeLine; decide, fun t2 h2 => ?_⟩
        have s2 := Same.upd (o := .tup [V.int r.l, .int 2, .int (r.l % 2), .int (r.l % 2)]) h2
        have g2 : (upd H1 t2 (.tup [V.int r.l, .int 2, .int (r.l % 2), .int (r.l % 2)])) t2 = some (.tup [V.int r.l, .int 2, .int (r.l % 2), .int (r.l % 2)]) := upd_same
        generalize upd H1 t2 _ = H2 at s2 g2 ⊢
        have s12 := s1.trans s2
        refine ⟨t1, t2, _, _, rfl, rfl, .inr ⟨SqT.of (s2 _ _ g1), SqT.of g2⟩, rfl, rfl, ?_⟩
        rw [if_neg Bool.false_ne_true, wl]
        (repeat array_get_dec)
        refine w_ite (fun z1 => ?_) (fun z1 => ?_)
        · rw [if_pos z1] at k
          (repeat array_get_dec)
          refine ⟨_, rfl, gl, ?_⟩
          (repeat array_get_dec)
          refine ⟨by show 2 ≤ sizeLine; decide, fun l3 h3 => ?_⟩
          have s3 := Same.upd (o := .lst [V.str "word", .str (figs r.l)]) h3
          have g3 : (upd H2 l3 (.lst [V.str "word", .str (figs r.l)])) l3 = some (.lst [V.str "word", .str (figs r.l)]) := upd_same
          show tVar _ _ (upd H2 l3 (.lst [V.str "word", .str (figs r.l)])) _
          generalize upd H2 l3 _ = H3 at s3 g3 ⊢
          (repeat array_get_dec)
          refine ⟨l3, r.it, _, _, rfl, rfl, g3, s3 _ _ (s12 _ _ ra.2), by rw [List.length_map]; exact le_line (by show 2 + _ ≤ _; omega), fun l4 h4 => ?_⟩
          exact k _ l4 (s12.trans (s3.trans (Same.upd h4))) upd_same
        · (repeat array_get_dec)
          exact hj _ _ ⟨rfl, s12, z1⟩
      · rw [z, Bool.false_and] at wl
        (repeat array_get_dec)
        exact hj _ _ ⟨rfl, Same.refl _, wl.symm⟩
    rintro _ H2 ⟨rfl, s2, z2⟩
    rw [if_neg (by rw [z2]; exact Bool.false_ne_true)] at k
    have ra2 := ra.same s2
    (repeat array_get_dec)
    refine ⟨by show 1 ≤ sizeLine; decide, fun l3 h3 => ?_⟩
    have s3 := Same.upd (o := .lst [V.str "rule"]) h3
    have g3 : (upd H2 l3 (.lst [V.str "rule"])) l3 = some (.lst [V.str "rule"]) := upd_same
    generalize upd H2 l3 _ = H3 at s3 g3 ⊢
    have ra3 := ra2.same s3
    (repeat array_get_dec)
    refine ⟨r.t, _, rfl, SqT.of ra3.1, (fun h => absurd h.2 (by show ¬ HT.sIx 6 6 (some 5) = 6; decide +kernel)), fun t4 h4 => ?_⟩
    have c5 : cutV [V.int r.l, .int r.h, .int r.b, .int r.f, .int r.e, .ref r.it] none (some 5) = [V.int r.l, .int r.h, .int r.b, .int r.f, .int r.e] := rfl
    rw [c5]
    have s4 := Same.upd (o := .tup [V.int r.l, .int r.h, .int r.b, .int r.f, .int r.e]) h4
    have g4 : (upd H3 t4 (.tup [V.int r.l, .int r.h, .int r.b, .int r.f, .int r.e])) t4 = some (.tup [V.int r.l, .int r.h, .int r.b, .int r.f, .int r.e]) := upd_same
    generalize upd H3 t4 _ = H4 at s4 g4 ⊢
    have lg : ∀ x ∈ [r.l, r.h, r.b, r.f, r.e], x.natAbs.log2 < 1920 := fun x hx => by
      simp only [List.mem_cons, List.not_mem_nil, or_false] at hx
      rcases hx with rfl | rfl | rfl | rfl | rfl
      · exact gl
      · exact Nat.lt_trans (log_ok ro.h.1 (by have := ro.h.2; omega)) (by decide)
      · exact Nat.lt_trans (log_ok (by have := ro.b.1; omega) (by have := ro.b.2; omega)) (by decide)
      · exact Nat.lt_trans (log_ok ro.f.1 (by have := ro.f.2; omega)) (by decide)
      · exact Nat.lt_trans (log_ok ro.e.1 (by have := ro.e.2; omega)) (by decide)
    have g4 : H4 t4 = some (.tup ([r.l, r.h, r.b, r.f, r.e].map V.int)) := g4
    refine ⟨t4, rfl, ⟨_, SqT.of g4⟩, lcG (fun n ws => ws = (([r.l, r.h, r.b, r.f, r.e].take n).map figs).map V.str) (tells_t (SqT.of g4)) (by rw [List.length_map]; show 5 ≤ sizeLine; decide) rfl (fun D5 j ws H5 hj hD5 s5 e5 r5 => ?_) (fun D5 H5 ws hD5 s5 e5 r5 => ?_)⟩
    · rw [List.length_map] at hj
      have ej : (([r.l, r.h, r.b, r.f, r.e]).map V.int).getD j .non = V.int ([r.l, r.h, r.b, r.f, r.e])[j] := by rw [List.getD_eq_getElem?_getD, List.getElem?_map, List.getElem?_eq_getElem hj]; rfl
      rw [ej]
      (repeat array_get_dec)
      refine ⟨mono0 rfl, ?_⟩
      (repeat array_get_dec)
      refine ⟨_, rfl, lg _ (List.getElem_mem hj), ?_⟩
      exact lcFin hD5 s5 e5 (Same.refl _) (by rw [r5, List.take_succ, List.getElem?_eq_getElem hj, List.map_append, List.map_append]; rfl)
    have r5 : ws = [V.str (figs r.l), .str (figs r.h), .str (figs r.b), .str (figs r.f), .str (figs r.e)] := r5
    subst r5
    refine ⟨l3, D5, _, _, rfl, rfl, s5 _ _ (s4 _ _ g3), e5, by show 1 + 5 ≤ sizeLine; decide, fun l6 h6 => ?_⟩
    have s6 := Same.upd (o := .lst ([V.str "rule"] ++ [V.str (figs r.l), .str (figs r.h), .str (figs r.b), .str (figs r.f), .str (figs r.e)])) h6
    have g6 : (upd H5 l6 (.lst ([V.str "rule"] ++ [V.str (figs r.l), .str (figs r.h), .str (figs r.b), .str (figs r.f), .str (figs r.e)]))) l6 = some (.lst ([V.str "rule"] ++ [V.str (figs r.l), .str (figs r.h), .str (figs r.b), .str (figs r.f), .str (figs r.e)])) := upd_same
    generalize upd H5 l6 _ = H6 at s6 g6 ⊢
    (repeat array_get_dec)
    refine ⟨by show 1 ≤ sizeLine; decide, fun l7 h7 => ?_⟩
    have s7 := Same.upd (o := .lst [V.str ":"]) h7
    have g7 : (upd H6 l7 (.lst [V.str ":"])) l7 = some (.lst [V.str ":"]) := upd_same
    generalize upd H6 l7 _ = H7 at s7 g7 ⊢
    refine ⟨l6, l7, _, _, rfl, rfl, s7 _ _ g6, g7, by show 6 + 1 ≤ sizeLine; decide, fun l8 h8 => ?_⟩
    have s8 := Same.upd (o := .lst ([V.str "rule"] ++ [V.str (figs r.l), .str (figs r.h), .str (figs r.b), .str (figs r.f), .str (figs r.e)] ++ [V.str ":"])) h8
    have g8 : (upd H7 l8 (.lst ([V.str "rule"] ++ [V.str (figs r.l), .str (figs r.h), .str (figs r.b), .str (figs r.f), .str (figs r.e)] ++ [V.str ":"]))) l8 = some (.lst ([V.str "rule"] ++ [V.str (figs r.l), .str (figs r.h), .str (figs r.b), .str (figs r.f), .str (figs r.e)] ++ [V.str ":"])) := upd_same
    generalize upd H7 l8 _ = H8 at s8 g8 ⊢
    (repeat array_get_dec)
    have sA := s3.trans (s4.trans (s5.trans (s6.trans (s7.trans s8))))
    refine ⟨l8, r.it, _, _, rfl, rfl, g8, sA _ _ ra2.2, by rw [List.length_map]; exact le_line (by show 7 + _ ≤ _; omega), fun l9 h9 => ?_⟩
    exact k _ l9 (s2.trans (sA.trans (Same.upd h9))) upd_same
end
end K32

namespace K32
open PySem PySem.Spec PyProof.Rows L2
/-- a row of words, where it lies -/
structure LR where
  row : List Str
  t : Addr
def lRefs (ls : List LR) : List V := (ls.map (·.t)).map .ref
def LAt (H : Hp) (ls : List LR) : Prop := ∀ x ∈ ls, H x.t = some (.lst (x.row.map .str)) ∧ x.row ≠ []
theorem LAt.same {H H' : Hp} {ls : List LR} (h : LAt H ls) (s : Same H H') : LAt H' ls := fun x hx => ⟨s _ _ (h x hx).1, (h x hx).2⟩
theorem LAt.put {H : Hp} {ls : List LR} {l : Addr} {ts : List Addr} {o : HO} (h : LAt H ls) (g : H l = some (.lst (ts.map .ref))) : LAt (upd H l o) ls := fun x hx => ⟨by rw [upd_ne (strs_refs (h x hx).1 (h x hx).2 g)]; exact (h x hx).1, (h x hx).2⟩
theorem LAt.app {H : Hp} {ls ms : List LR} (h : LAt H ls) (g : LAt H ms) : LAt H (ls ++ ms) := fun x hx => (List.mem_append.mp hx).elim (h x) (g x)
theorem LAt.one {H : Hp} {row : List Str} {t : Addr} (h : H t = some (.lst (row.map .str))) (n : row ≠ []) : LAt H [⟨row, t⟩] := fun x hx => by rw [List.mem_singleton.mp hx]; exact ⟨h, n⟩
theorem lRefs_app (ls ms : List LR) : lRefs (ls ++ ms) = lRefs ls ++ lRefs ms := by unfold lRefs; rw [List.map_append, List.map_append]
theorem rowR_ne (r : RD) : rowR r ≠ [] := by unfold rowR; split <;> simp
section
variable {P : Program} {w : World} {K : PySem.W.Frag} {mg : Str → Option Value} {base : Heap} {a : Ad}
/-! ### _law_rows -/
abbrev DRs (K : PySem.W.Frag) (mg : Str → Option Value) := Df K mg "_law_rows" "_law_rows" (top 49) ["_law_data_here"]
def spRs : Sp := fun vs H Q _ => ∃ (d : DD), vs = [.ref d.t] ∧ d.at H ∧ d.ok ∧ ∀ H' l ls, Same H H' → H' l = some (.lst (lRefs ls)) → LAt H' ls → ls.map (·.row) = rowsOf d → Q (.ref l) H'
abbrev nRs : List Str := ["_law_data_here", "_law_bound", "_law_rules", "_law_melts_here", "_law_kinds", "_law_rows_here", "_law_title", "_law_ending", "_law_turns"]
theorem scRs : FnScope nRs ["_law_data_here"] (defScope (top 49)) := ⟨rfl, rfl, rfl, by decide +kernel, rfl, by decide +kernel, by decide +kernel⟩
theorem ok_rs (D : DRs K mg) (D__law_rule_row : DRR K mg) (G__law_rule_row : FnOk P w K mg base CX0 1 D__law_rule_row.f D__law_rule_row.fd ["_law_rule_here"] spRR) (T : Txt K mg a) : FnOk P w K mg base CX0 2 D.f D.fd ["_law_data_here"] spRs := by
  refine Df.ok (k := 1) D.ex scRs (fun vs H Q E h => ?_) (fun A outer s H vs Q E hr h => ?_)
  · obtain ⟨d, rfl, _⟩ := h; rfl
  · obtain ⟨d, rfl, da, do_, k⟩ := h
    have nd := scRs.nd
    have gb : d.b.natAbs.log2 < 1920 := Nat.lt_trans (log_ok do_.b.1 (by have := do_.b.2; omega)) (by decide)
    have r40 := do_.rn
    have m12 := do_.mn
    have k4 := do_.kn
    refine ⟨_, (pss_cons (ps_asg (pv 0) (pg_tup (n := 4) rfl (pgs_cons (pg_name (i := 1) (show List.Nodup (["_law_data_here", "_law_bound", "_law_rules", "_law_melts_here", "_law_kinds", "_law_rows_here", "_law_title", "_law_ending", "_law_turns"] : List Str) from by decide +kernel) rfl (Or.inl rfl)) (pgs_cons (pg_name (i := 2) (show List.Nodup (["_law_data_here", "_law_bound", "_law_rules", "_law_melts_here", "_law_kinds", "_law_rows_here", "_law_title", "_law_ending", "_law_turns"] : List Str) from by decide +kernel) rfl (Or.inl rfl)) (pgs_cons (pg_name (i := 3) (show List.Nodup (["_law_data_here", "_law_bound", "_law_rules", "_law_melts_here", "_law_kinds", "_law_rows_here", "_law_title", "_law_ending", "_law_turns"] : List Str) from by decide +kernel) rfl (Or.inl rfl)) (pgs_cons (pg_name (i := 4) (show List.Nodup (["_law_data_here", "_law_bound", "_law_rules", "_law_melts_here", "_law_kinds", "_law_rows_here", "_law_title", "_law_ending", "_law_turns"] : List Str) from by decide +kernel) rfl (Or.inl rfl)) pgs_nil))))))
 (pss_cons (ps_set (i := 5) nd rfl (Or.inl rfl) (pe_op op_cat (pe_lst (pa_c (pe_lst (pa_c pe_str (pa_c (pe_callTy call_strI (by rfl) T.b_str (by decide +kernel) (pa_c (pv 1) pa_nil)) pa_nil))) pa_nil)) (pe_lc (N := ["_law_rule_here"]) (fs := []) (⟨rfl, by rfl, by rfl, by rfl, trivial⟩) rfl (pi_list (pv 2)) (fun _ _ _ _ _ => (pg_name (i := 0) (show List.Nodup (["_law_rule_here"] : List Str) from by decide +kernel) rfl (Or.inl rfl))) (fun _ _ _ _ _ => by exact pts_nil) (fun _ _ _ _ _ => by exact (pe_call G__law_rule_row (hr.mono (by decide)) (by rfl) D__law_rule_row.mg D__law_rule_row.kp D__law_rule_row.bd .nil pass0 (pa_c (pv 0) pa_nil))))))
 (pss_cons (ps_expr (pe_bm PySem.F.plainAttrs_list PySem.F.slot_list_extend PySem.F.type_list_extend mt_extend (pv 5) (pa_c (pe_lc (N := ["_law_melt_here"]) (fs := []) (⟨rfl, by rfl, by rfl, by rfl, trivial⟩) rfl (pi_list (pv 3)) (fun _ _ _ _ _ => (pg_name (i := 0) (show List.Nodup (["_law_melt_here"] : List Str) from by decide +kernel) rfl (Or.inl rfl))) (fun _ _ _ _ _ => by exact pts_nil) (fun _ _ _ _ _ => by exact (pe_op op_cat (pe_lst (pa_c pe_str pa_nil)) (pe_callTy (call_list_ofK K) (by rfl) T.b_list boot_list (pa_c (pv 0) pa_nil))))) pa_nil)))
 (pss_cons (ps_for PassesOwn.never rfl (pi_list (pv 4)) (pg_tup (n := 3) rfl (pgs_cons (pg_name (i := 6) (show List.Nodup (["_law_data_here", "_law_bound", "_law_rules", "_law_melts_here", "_law_kinds", "_law_rows_here", "_law_title", "_law_ending", "_law_turns"] : List Str) from by decide +kernel) rfl (Or.inl rfl)) (pgs_cons (pg_name (i := 7) (show List.Nodup (["_law_data_here", "_law_bound", "_law_rules", "_law_melts_here", "_law_kinds", "_law_rows_here", "_law_title", "_law_ending", "_law_turns"] : List Str) from by decide +kernel) rfl (Or.inl rfl)) (pgs_cons (pg_name (i := 8) (show List.Nodup (["_law_data_here", "_law_bound", "_law_rules", "_law_melts_here", "_law_kinds", "_law_rows_here", "_law_title", "_law_ending", "_law_turns"] : List Str) from by decide +kernel) rfl (Or.inl rfl)) pgs_nil))))
 (pss_cons (ps_expr (pe_bm PySem.F.plainAttrs_list PySem.F.slot_list_append PySem.F.type_list_append mt_append (pv 5) (pa_c (pe_lst (pa_c pe_str (pa_c (pv 6) (pa_c (pv 7) pa_nil)))) pa_nil)))
 (pss_one (ps_expr (pe_bm PySem.F.plainAttrs_list PySem.F.slot_list_extend PySem.F.type_list_extend mt_extend (pv 5) (pa_c (pe_lc (N := ["_law_pair"]) (fs := []) (⟨rfl, by rfl, by rfl, by rfl, trivial⟩) rfl (pi_list (pv 8)) (fun _ _ _ _ _ => (pg_name (i := 0) (show List.Nodup (["_law_pair"] : List Str) from by decide +kernel) rfl (Or.inl rfl))) (fun _ _ _ _ _ => by exact pts_nil) (fun _ _ _ _ _ => by exact (pe_op op_cat (pe_lst (pa_c pe_str pa_nil)) (pe_callTy (call_list_ofK K) (by rfl) T.b_list boot_list (pa_c (pv 0) pa_nil))))) pa_nil))))))
 (pss_one (ps_ret (pv 5))))))), ?_⟩
    (repeat array_get_dec)
    refine w_gTup' (SqT.of da.t) rfl ?_
    refine ⟨_, _, rfl, _, _, rfl, _, _, rfl, _, _, rfl, rfl, ?_⟩
    (repeat array_get_dec)
    refine ⟨_, rfl, gb, ?_⟩
    (repeat array_get_dec)
    refine ⟨by show 2 ≤ sizeLine; decide, fun l1 h1 => ?_⟩
    have s1 := Same.upd (o := .lst ((["bound", figs d.b] : List Str).map V.str)) h1
    have g1 : (upd H l1 (.lst ((["bound", figs d.b] : List Str).map V.str))) l1 = some (.lst ((["bound", figs d.b] : List Str).map V.str)) := upd_same
    show tNil _ (upd H l1 (.lst ((["bound", figs d.b] : List Str).map V.str))) _
    generalize upd H l1 _ = H1 at s1 g1 ⊢
    (repeat array_get_dec)
    refine ⟨by show 1 ≤ sizeLine; decide, fun l2 h2 => ?_⟩
    have s2 := Same.upd (o := .lst [V.ref l1]) h2
    have g2 : (upd H1 l2 (.lst [V.ref l1])) l2 = some (.lst (lRefs [⟨["bound", figs d.b], l1⟩])) := upd_same
    generalize upd H1 l2 _ = H2 at s2 g2 ⊢
    have s12 := s1.trans s2
    have a2 : LAt H2 [⟨["bound", figs d.b], l1⟩] := .one (s2 _ _ g1) (by simp)
    have da2 := da.same s12
    (repeat array_get_dec)
    have rlr : H2 d.rl = some (.lst ((d.rs.map (·.t)).map .ref)) := da2.rl
    refine ⟨d.rl, rfl, ⟨_, SqL.of rlr⟩, lcH (fun D3 n zs H3 => ∃ ls : List LR, zs = lRefs ls ∧ ls.map (·.row) = (d.rs.take n).map rowR ∧ LAt H3 ls) (tells_l (SqL.of rlr)) (by rw [List.length_map, List.length_map]; exact le_line (by omega)) (fun D7 hD7 => ⟨[], rfl, rfl, fun _ h => (nomatch h)⟩) (fun D3 j zs H3 hj hD3 s3 e3 r3 => ?_) (fun D3 H3 zs hD3 s3 e3 r3 => ?_)⟩
    · obtain ⟨ls, rfl, lr, la⟩ := r3
      rw [List.length_map, List.length_map] at hj
      have ej : ((d.rs.map (·.t)).map V.ref).getD j .non = V.ref d.rs[j].t := by simp [List.getD_eq_getElem?_getD, hj]
      rw [ej]
      (repeat array_get_dec)
      refine ⟨mono0 rfl, ?_⟩
      (repeat array_get_dec)
      refine ⟨d.rs[j], rfl, (da2.rs _ (List.getElem_mem hj)).same s3, do_.rs _ (List.getElem_mem hj), fun H4 l4 s4 g4 => ?_⟩
      have e4 := s4 _ _ e3
      refine ⟨e4, fun c o h => by rw [upd_ne (ne_of_none h hD3)]; exact s4 _ _ (s3 _ _ h), ls ++ [⟨rowR d.rs[j], l4⟩], by rw [lRefs_app]; rfl, ?_, ?_⟩
      · rw [List.map_append, lr, List.take_succ, List.getElem?_eq_getElem hj, List.map_append]; rfl
      · exact ((la.same s4).app (.one g4 (rowR_ne _))).put e4
    obtain ⟨ls3, rfl, lr3, la3⟩ := r3
    rw [List.length_map, List.length_map, List.take_of_length_le (Nat.le_refl _)] at lr3
    have ll3 : ls3.length ≤ 40 := by have := congrArg List.length lr3; rw [List.length_map, List.length_map] at this; omega
    refine ⟨l2, D3, _, _, rfl, rfl, s3 _ _ g2, e3, by unfold lRefs; simp only [List.length_map, List.length_cons, List.length_nil]; exact le_line (by omega), fun rw' hrw => ?_⟩
    rw [← lRefs_app]
    have s4 := Same.upd (o := .lst (lRefs ([⟨["bound", figs d.b], l1⟩] ++ ls3))) hrw
    have g4 : (upd H3 rw' (.lst (lRefs ([⟨["bound", figs d.b], l1⟩] ++ ls3)))) rw' = some (.lst (lRefs ([⟨["bound", figs d.b], l1⟩] ++ ls3))) := upd_same
    have hrw0 : H rw' = none := by
      cases e : H rw' with
      | none => rfl
      | some o => rw [s3 _ _ (s12 _ _ e)] at hrw; cases hrw
    generalize upd H3 rw' _ = H4 at s4 g4 ⊢
    have sA : Same H H4 := s12.trans (s3.trans s4)
    have a4 : LAt H4 ([⟨["bound", figs d.b], l1⟩] ++ ls3) := ((a2.same s3).app la3).same s4
    generalize hL4 : [⟨["bound", figs d.b], l1⟩] ++ ls3 = L4 at g4 a4
    have l4 : L4.length ≤ 41 := by rw [← hL4]; simp only [List.length_append, List.length_cons, List.length_nil]; omega
    have m4 : L4.map (·.row) = (["bound", figs d.b] : List Str) :: d.rs.map rowR := by rw [← hL4, List.map_append, lr3]; rfl
    clear s4 e3 s3 hD3 la3 da2 a2 s12 g2 s2 g1 s1 h1 h2 rlr
    (repeat array_get_dec)
    refine ⟨.inl ⟨rfl, _, SqL.of g4⟩, ?_⟩
    (repeat array_get_dec)
    have da4 := da.same sA
    have mlr : H4 d.ml = some (.lst ((d.ms.map (·.t)).map .ref)) := da4.ml
    refine ⟨d.ml, rfl, ⟨_, SqL.of mlr⟩, lcH (fun D5 n zs H5 => ∃ ls : List LR, zs = lRefs ls ∧ ls.map (·.row) = (d.ms.take n).map rowM ∧ LAt H5 ls) (tells_l (SqL.of mlr)) (by rw [List.length_map, List.length_map]; exact le_line (by omega)) (fun D7 hD7 => ⟨[], rfl, rfl, fun _ h => (nomatch h)⟩) (fun D5 j zs H5 hj hD5 s5 e5 r5 => ?_) (fun D5 H5 zs hD5 s5 e5 r5 => ?_)⟩
    · obtain ⟨ls, rfl, lr, la⟩ := r5
      rw [List.length_map, List.length_map] at hj
      have ej : ((d.ms.map (·.t)).map V.ref).getD j .non = V.ref d.ms[j].t := by simp [List.getD_eq_getElem?_getD, hj]
      have hm := s5 _ _ (da4.ms d.ms[j] (List.getElem_mem hj))
      rw [ej]
      (repeat array_get_dec)
      refine ⟨mono0 rfl, ?_⟩
      (repeat array_get_dec)
      refine ⟨by show 1 ≤ sizeLine; decide, fun l6 h6 => ?_⟩
      have s6 := Same.upd (o := .lst [V.str "melt"]) h6
      have g6 : (upd H5 l6 (.lst [V.str "melt"])) l6 = some (.lst [V.str "melt"]) := upd_same
      generalize upd H5 l6 _ = H6 at s6 g6 ⊢
      (repeat array_get_dec)
      refine ⟨d.ms[j].t, _, rfl, .inr (SqT.of (s6 _ _ hm)), fun l7 h7 => ?_⟩
      have s7 := Same.upd (o := .lst [V.str d.ms[j].m.1, .str d.ms[j].m.2.1, .str d.ms[j].m.2.2]) h7
      have g7 : (upd H6 l7 (.lst [V.str d.ms[j].m.1, .str d.ms[j].m.2.1, .str d.ms[j].m.2.2])) l7 = some (.lst [V.str d.ms[j].m.1, .str d.ms[j].m.2.1, .str d.ms[j].m.2.2]) := upd_same
      show rCat _ _ (upd H6 l7 (.lst [V.str d.ms[j].m.1, .str d.ms[j].m.2.1, .str d.ms[j].m.2.2])) _
      generalize upd H6 l7 _ = H7 at s7 g7 ⊢
      refine ⟨l6, l7, _, _, rfl, rfl, s7 _ _ g6, g7, by show 1 + 3 ≤ sizeLine; decide, fun l8 h8 => ?_⟩
      have s8 := Same.upd (o := .lst ((rowM d.ms[j]).map V.str)) h8
      have g8 : (upd H7 l8 (.lst ((rowM d.ms[j]).map V.str))) l8 = some (.lst ((rowM d.ms[j]).map V.str)) := upd_same
      rw [show [V.str "melt"] ++ [V.str d.ms[j].m.1, .str d.ms[j].m.2.1, .str d.ms[j].m.2.2] = (rowM d.ms[j]).map V.str from rfl]
      generalize upd H7 l8 _ = H8 at s8 g8 ⊢
      have s58 := s6.trans (s7.trans s8)
      have e8 := s58 _ _ e5
      refine ⟨e8, fun c o h => by rw [upd_ne (ne_of_none h hD5)]; exact s58 _ _ (s5 _ _ h), ls ++ [⟨rowM d.ms[j], l8⟩], by rw [lRefs_app]; rfl, ?_, ?_⟩
      · rw [List.map_append, lr, List.take_succ, List.getElem?_eq_getElem hj, List.map_append]; rfl
      · exact ((la.same s58).app (.one g8 (by unfold rowM; simp))).put e8
    obtain ⟨ls5, rfl, lr5, la5⟩ := r5
    rw [List.length_map, List.length_map, List.take_of_length_le (Nat.le_refl _)] at lr5
    have ll5 : ls5.length ≤ 12 := by have := congrArg List.length lr5; rw [List.length_map, List.length_map] at this; omega
    have g5 := s5 _ _ g4
    (repeat array_get_dec)
    refine ⟨rw', D5, _, _, rfl, rfl, g5, e5, by unfold lRefs; simp only [List.length_map]; exact le_line (by omega), ?_⟩
    rw [← lRefs_app]
    have s6 : Same H (upd H5 rw' (.lst (lRefs (L4 ++ ls5)))) := fun c o h => by rw [upd_ne (ne_of_none h hrw0)]; exact s5 _ _ (sA _ _ h)
    have g6 : (upd H5 rw' (.lst (lRefs (L4 ++ ls5)))) rw' = some (.lst (lRefs (L4 ++ ls5))) := upd_same
    have a6 : LAt (upd H5 rw' (.lst (lRefs (L4 ++ ls5)))) (L4 ++ ls5) := ((a4.same s5).app la5).put g5
    show tSeq _ _ _ _ (upd H5 rw' (.lst (lRefs (L4 ++ ls5))))
    generalize upd H5 rw' _ = H6 at s6 g6 a6 ⊢
    generalize hL6 : L4 ++ ls5 = L6 at g6 a6
    have l6 : L6.length ≤ 53 := by rw [← hL6]; simp only [List.length_append]; omega
    have m6 : L6.map (·.row) = (["bound", figs d.b] : List Str) :: (d.rs.map rowR ++ d.ms.map rowM) := by rw [← hL6, List.map_append, m4, lr5]; rfl
    clear g5 la5 e5 s5 hD5 mlr da4 a4 g4 sA
    (repeat array_get_dec)
    have klr : H d.kl = some (.lst ((d.ks.map (·.t)).map .ref)) := da.kl
    refine ⟨d.kl, rfl, ⟨_, SqL.of (s6 _ _ klr)⟩, forL (K := K) (a := d.kl) (xs := (d.ks.map (·.t)).map V.ref) (fun i σ H7 => ∃ v6 v7 v8 ls, σ = [some (V.ref d.t), some (V.int d.b), some (V.ref d.rl), some (V.ref d.ml), some (V.ref d.kl), some (V.ref rw'), v6, v7, v8] ∧ Same H H7 ∧ H7 rw' = some (.lst (lRefs (L6 ++ ls))) ∧ LAt H7 (L6 ++ ls) ∧ ls.map (·.row) = (d.ks.take i).flatMap rowsK) ⟨none, none, none, [], rfl, s6, by rw [List.append_nil]; exact g6, by rw [List.append_nil]; exact a6, rfl⟩ (fun i σ H7 _ ⟨_, _, _, _, _, s7, _⟩ => SqL.of (s7 _ _ klr)) ?_ ?_⟩
    · rintro i v σ H7 hv ⟨v6, v7, v8, ls, rfl, s7, g7, a7, m7⟩
      rw [List.getElem?_map, List.getElem?_map] at hv
      obtain ⟨t, ht, rfl⟩ := Option.map_eq_some_iff.mp hv
      obtain ⟨kd, hki, rfl⟩ := Option.map_eq_some_iff.mp ht
      have hmem := List.mem_of_getElem? hki
      have ko := do_.ks kd hmem
      have kat := (da.ks kd hmem).same s7
      have k12 := ko.le
      have hi : i < d.ks.length := (List.getElem?_eq_some_iff.mp hki).1
      have kl := kinds_len (ks := d.ks.take i) fun y hy => do_.ks y (List.mem_of_mem_take hy)
      rw [List.length_take] at kl
      have ll : ls.length ≤ 52 := by have := congrArg List.length m7; rw [List.length_map] at this; omega
      refine w_gTup' (SqT.of kat.1) rfl ?_
      refine ⟨_, _, rfl, _, _, rfl, _, _, rfl, rfl, ?_⟩
      (repeat array_get_dec)
      refine ⟨.inl ⟨rfl, _, SqL.of g7⟩, ?_⟩
      (repeat array_get_dec)
      refine ⟨by show 3 ≤ sizeLine; decide, fun l8 h8 => ?_⟩
      have s8 := Same.upd (o := .lst ((["kind", kd.ti, kd.en] : List Str).map V.str)) h8
      have g8 : (upd H7 l8 (.lst ((["kind", kd.ti, kd.en] : List Str).map V.str))) l8 = some (.lst ((["kind", kd.ti, kd.en] : List Str).map V.str)) := upd_same
      show tNil _ (upd H7 l8 (.lst ((["kind", kd.ti, kd.en] : List Str).map V.str))) _
      generalize upd H7 l8 _ = H8 at s8 g8 ⊢
      (repeat array_get_dec)
      have g78 := s8 _ _ g7
      refine ⟨rw', _, _, rfl, rfl, g78, by unfold lRefs; simp only [List.length_map, List.length_append]; exact le_line (by omega), ?_⟩
      have es : lRefs (L6 ++ ls) ++ [V.ref l8] = lRefs (L6 ++ (ls ++ [⟨["kind", kd.ti, kd.en], l8⟩])) := by rw [← List.append_assoc, lRefs_app (L6 ++ ls)]; rfl
      rw [es]
      have s9 : Same H (upd H8 rw' (.lst (lRefs (L6 ++ (ls ++ [⟨["kind", kd.ti, kd.en], l8⟩]))))) := fun c o h => by rw [upd_ne (ne_of_none h hrw0)]; exact s8 _ _ (s7 _ _ h)
      have g9 : (upd H8 rw' (.lst (lRefs (L6 ++ (ls ++ [⟨["kind", kd.ti, kd.en], l8⟩]))))) rw' = some (.lst (lRefs (L6 ++ (ls ++ [⟨["kind", kd.ti, kd.en], l8⟩])))) := upd_same
      have a9 : LAt (upd H8 rw' (.lst (lRefs (L6 ++ (ls ++ [⟨["kind", kd.ti, kd.en], l8⟩]))))) (L6 ++ (ls ++ [⟨["kind", kd.ti, kd.en], l8⟩])) := by
        rw [← List.append_assoc]
        exact ((a7.same s8).app (.one g8 (by simp))).put g78
      show tDrop _ _ _ (upd H8 rw' (.lst (lRefs (L6 ++ (ls ++ [⟨["kind", kd.ti, kd.en], l8⟩])))))
      generalize upd H8 rw' _ = H9 at s9 g9 a9 ⊢
      have kat9 := (da.ks kd hmem).same s9
      have kn9 : H9 kd.n = some (.lst ((kd.ps.map (·.t)).map .ref)) := kat9.2.1
      (repeat array_get_dec)
      refine ⟨.inl ⟨rfl, _, SqL.of g9⟩, ?_⟩
      (repeat array_get_dec)
      refine ⟨kd.n, rfl, ⟨_, SqL.of kn9⟩, lcH (fun D10 n zs H10 => ∃ ls : List LR, zs = lRefs ls ∧ ls.map (·.row) = (kd.ps.take n).map rowT ∧ LAt H10 ls) (tells_l (SqL.of kn9)) (by rw [List.length_map, List.length_map]; exact le_line (by omega)) (fun D7 hD7 => ⟨[], rfl, rfl, fun _ h => (nomatch h)⟩) (fun D10 j zs H10 hj hD10 s10 e10 r10 => ?_) (fun D10 H10 zs hD10 s10 e10 r10 => ?_)⟩
      · obtain ⟨ls', rfl, lr, la⟩ := r10
        rw [List.length_map, List.length_map] at hj
        have ej : ((kd.ps.map (·.t)).map V.ref).getD j .non = V.ref kd.ps[j].t := by simp [List.getD_eq_getElem?_getD, hj]
        have hm := s10 _ _ (kat9.2.2 kd.ps[j] (List.getElem_mem hj))
        rw [ej]
        (repeat array_get_dec)
        refine ⟨mono0 rfl, ?_⟩
        (repeat array_get_dec)
        refine ⟨by show 1 ≤ sizeLine; decide, fun l11 h11 => ?_⟩
        have s11 := Same.upd (o := .lst [V.str "turn"]) h11
        have g11 : (upd H10 l11 (.lst [V.str "turn"])) l11 = some (.lst [V.str "turn"]) := upd_same
        generalize upd H10 l11 _ = H11 at s11 g11 ⊢
        (repeat array_get_dec)
        refine ⟨kd.ps[j].t, _, rfl, .inr (SqT.of (s11 _ _ hm)), fun l12 h12 => ?_⟩
        have s12 := Same.upd (o := .lst [V.str kd.ps[j].m.1, .str kd.ps[j].m.2]) h12
        have g12 : (upd H11 l12 (.lst [V.str kd.ps[j].m.1, .str kd.ps[j].m.2])) l12 = some (.lst [V.str kd.ps[j].m.1, .str kd.ps[j].m.2]) := upd_same
        show rCat _ _ (upd H11 l12 (.lst [V.str kd.ps[j].m.1, .str kd.ps[j].m.2])) _
        generalize upd H11 l12 _ = H12 at s12 g12 ⊢
        refine ⟨l11, l12, _, _, rfl, rfl, s12 _ _ g11, g12, by show 1 + 2 ≤ sizeLine; decide, fun l13 h13 => ?_⟩
        have s13 := Same.upd (o := .lst ((rowT kd.ps[j]).map V.str)) h13
        have g13 : (upd H12 l13 (.lst ((rowT kd.ps[j]).map V.str))) l13 = some (.lst ((rowT kd.ps[j]).map V.str)) := upd_same
        rw [show [V.str "turn"] ++ [V.str kd.ps[j].m.1, .str kd.ps[j].m.2] = (rowT kd.ps[j]).map V.str from rfl]
        generalize upd H12 l13 _ = H13 at s13 g13 ⊢
        have s1013 := s11.trans (s12.trans s13)
        have e13 := s1013 _ _ e10
        refine ⟨e13, fun c o h => by rw [upd_ne (ne_of_none h hD10)]; exact s1013 _ _ (s10 _ _ h), ls' ++ [⟨rowT kd.ps[j], l13⟩], by rw [lRefs_app]; rfl, ?_, ?_⟩
        · rw [List.map_append, lr, List.take_succ, List.getElem?_eq_getElem hj, List.map_append]; rfl
        · exact ((la.same s1013).app (.one g13 (by unfold rowT; simp))).put e13
      obtain ⟨ls10, rfl, lr10, la10⟩ := r10
      rw [List.length_map, List.length_map, List.take_of_length_le (Nat.le_refl _)] at lr10
      have ll10 : ls10.length ≤ 12 := by have := congrArg List.length lr10; rw [List.length_map, List.length_map] at this; omega
      have g10 := s10 _ _ g9
      (repeat array_get_dec)
      refine ⟨rw', D10, _, _, rfl, rfl, g10, e10, by unfold lRefs; simp only [List.length_map, List.length_append, List.length_cons, List.length_nil]; exact le_line (by omega), ?_⟩
      rw [← lRefs_app]
      refine ⟨_, _, _, ls ++ [⟨["kind", kd.ti, kd.en], l8⟩] ++ ls10, rfl, fun c o h => by rw [upd_ne (ne_of_none h hrw0)]; exact s10 _ _ (s9 _ _ h), by rw [upd_same, List.append_assoc L6], ?_, ?_⟩
      · refine Eq.mpr (congrArg (LAt _) (List.append_assoc L6 _ ls10).symm) ?_
        exact ((a9.same s10).app la10).put g10
      · rw [List.map_append, List.map_append, m7, lr10, List.take_succ, hki, List.flatMap_append]
        show _ = _ ++ List.flatMap rowsK [kd]
        rw [List.flatMap_singleton]
        unfold rowsK
        rw [List.append_assoc]; rfl
    · rintro σ H7 ⟨v6, v7, v8, ls, rfl, s7, g7, a7, m7⟩
      rw [List.length_map, List.length_map, List.take_of_length_le (Nat.le_refl _)] at m7
      (repeat array_get_dec)
      refine k H7 rw' (L6 ++ ls) s7 g7 a7 ?_
      rw [List.map_append, m6, m7]; rfl
end
end K32

namespace K32
open PySem PySem.Spec PyProof.Rows L2
section
variable {P : Program} {w : World} {K : PySem.W.Frag} {mg : Str → Option Value} {base : Heap} {a : Ad}
/-! ### _law_whole -/
abbrev DWhole (K : PySem.W.Frag) (mg : Str → Option Value) := Df K mg "_law_whole" "_law_whole" (top 50) ["_law_found"]
def spWhole : Sp := fun vs H Q _ => ∃ (i : Int), vs = [.int i] ∧ Q (.bl true) H
theorem scWhole : FnScope ["_law_found"] ["_law_found"] (defScope (top 50)) := ⟨rfl, rfl, rfl, by decide +kernel, rfl, by decide +kernel, by decide +kernel⟩
theorem ok_whole (D : DWhole K mg) (T : Txt K mg a) : FnOk P w K mg base CX0 1 D.f D.fd ["_law_found"] spWhole := by
  refine Df.ok (k := 0) D.ex scWhole (fun vs H Q E h => ?_) (fun A outer s H vs Q E hr h => ?_)
  · obtain ⟨c, rfl, _⟩ := h; rfl
  · obtain ⟨i, rfl, q⟩ := h
    refine ⟨_, (pss_one (ps_ret (pe_and (pe_callB call_isi (by rfl) T.b_isinstance boot_isinstance (pa_c (pv 0) (pa_c (pe_bltn (v := .ty "int") (by rfl) T.b_int (by rfl) rfl) pa_nil))) (pe_one (pe_not (pe_callB call_isi (by rfl) T.b_isinstance boot_isinstance (pa_c (pv 0) (pa_c (pe_bltn (v := .ty "bool") (by rfl) T.b_bool (by rfl) rfl) pa_nil)))))))), ?_⟩
    (repeat array_get_dec)
    refine ⟨_, _, _, _, _, rfl, .v (.int i), rfl, T.k_ii, ?_⟩
    (repeat array_get_dec)
    refine ⟨_, _, _, _, _, rfl, .v (.int i), rfl, T.k_ib, ?_⟩
    (repeat array_get_dec)
    exact q
/-! ### _law_is_rule -/
abbrev DIR (K : PySem.W.Frag) (mg : Str → Option Value) := Df K mg "_law_is_rule" "_law_is_rule" (top 51) ["_law_rule_here", "_law_due"]
def spIR (a : Ad) : Sp := fun vs H Q _ => ∃ (o : Addr) (r : RD), vs = [.ref o, .ref r.t] ∧ RuleOf a H o r ∧ r.at H ∧ Pure (.bl true) H Q
abbrev nIR : List Str := ["_law_rule_here", "_law_due", "_law_numbers"]
theorem scIR : FnScope nIR ["_law_rule_here", "_law_due"] (defScope (top 51)) := ⟨rfl, rfl, rfl, by decide +kernel, rfl, by decide +kernel, by decide +kernel⟩
theorem ok_ir (D : DIR K mg) (D__law_whole : DWhole K mg) (G__law_whole : FnOk P w K mg base CX0 1 D__law_whole.f D__law_whole.fd ["_law_found"] spWhole) (T : Txt K mg a) : FnOk P w K mg base CX0 2 D.f D.fd ["_law_rule_here", "_law_due"] (spIR a) := by
  refine Df.ok (k := 1) D.ex scIR (fun vs H Q E h => ?_) (fun A outer s H vs Q E hr h => ?_)
  · obtain ⟨o, r, rfl, _⟩ := h; rfl
  · obtain ⟨o, r, rfl, ⟨n, R, hn⟩, ra, k⟩ := h
    obtain ⟨dx, fs, ho, N, hps⟩ := id R.ob
    have nd := scIR.nd
    have hu := Nat.lt_of_succ_lt (hu_of hr)
    refine ⟨_, (pss_cons (ps_set (i := 2) nd rfl (Or.inl rfl) (pe_lst (pa_c (pe_fld (pv 0) (by rfl)) (pa_c (pe_fld (pv 0) (by rfl)) (pa_c (pe_fld (pv 0) (by rfl)) (pa_c (pe_fld (pv 0) (by rfl)) (pa_c (pe_fld (pv 0) (by rfl)) pa_nil)))))))
 (pss_cons (ps_if (pw_or (pt_not (pt_val (pe_callB call_isi (by rfl) T.b_isinstance boot_isinstance (pa_c (pv 0) (pa_c (pe_glob (v := .ref a.Rule) (by rfl) T.c_Rule rfl) pa_nil))))) (pw_or1 (pt_not (pt_val (pe_callB (call_allL rfl) (by rfl) T.b_all boot_all (pa_c (pe_lc (N := ["_law_number"]) (fs := []) (⟨rfl, by rfl, by rfl, by rfl, trivial⟩) rfl (pi_list (pv 2)) (fun _ _ _ _ _ => (pg_name (i := 0) (show List.Nodup (["_law_number"] : List Str) from by decide +kernel) rfl (Or.inl rfl))) (fun _ _ _ _ _ => by exact pts_nil) (fun _ _ _ _ _ => by exact (pe_call G__law_whole (hr.mono (by decide)) (by rfl) D__law_whole.mg D__law_whole.kp D__law_whole.bd .nil pass0 (pa_c (pv 0) pa_nil)))) pa_nil)))))).pt
 (pss_one (ps_ret pe_bl))
 pss_nil)
 (pss_one (ps_ret (pe_and (pe_cmpR (op_eqL hu) (pv 2) (pe_callTy call_list_of (by rfl) T.b_list boot_list (pa_c (pe_slice sl_tup (pv 1) po_none (po_some pe_int)) pa_nil)) (nomark _)) (pe_and (pe_callB call_isi (by rfl) T.b_isinstance boot_isinstance (pa_c (pe_fld (pv 0) (by rfl)) (pa_c (pe_bltn (v := .ty "list") (by rfl) T.b_list (by rfl) rfl) pa_nil))) (pe_one (pe_cmpR (op_eqL hu) (pe_fld (pv 0) (by rfl)) (pe_ix ix_tup (pv 1) pe_int (fun _ _ => rfl)) (nomark _))))))))), ?_⟩
    (repeat array_get_dec)
    refine ⟨o, _, dx, fs, _, rfl, ho, T.clR, T.n_low, N.low, ?_⟩
    (repeat array_get_dec)
    refine ⟨o, _, dx, fs, _, rfl, ho, T.clR, T.n_high, N.high, ?_⟩
    (repeat array_get_dec)
    refine ⟨o, _, dx, fs, _, rfl, ho, T.clR, T.n_base, N.base, ?_⟩
    (repeat array_get_dec)
    refine ⟨o, _, dx, fs, _, rfl, ho, T.clR, T.n_first, N.first, ?_⟩
    (repeat array_get_dec)
    refine ⟨o, _, dx, fs, _, rfl, ho, T.clR, T.n_last, N.last, ?_⟩
    (repeat array_get_dec)
    refine ⟨by show 5 ≤ sizeLine; decide, fun l1 h1 => ?_⟩
    have s1 := Same.upd (o := .lst ([r.l, r.h, r.b, r.f, r.e].map V.int)) h1
    have g1 : (upd H l1 (.lst ([r.l, r.h, r.b, r.f, r.e].map V.int))) l1 = some (.lst ([r.l, r.h, r.b, r.f, r.e].map V.int)) := upd_same
    rw [show [V.int r.l, V.int r.h, V.int r.b, V.int r.f, V.int r.e] = [r.l, r.h, r.b, r.f, r.e].map V.int from rfl]
    generalize upd H l1 _ = H1 at s1 g1 ⊢
    (repeat array_get_dec)
    refine ⟨_, _, _, _, _, rfl, .v (.ins (s1 _ _ ho) T.clR T.clRc T.x_BadRule.gs T.x_BadRule.tk T.clRm), rfl, T.k_rule, ?_⟩
    (repeat array_get_dec)
    refine ⟨l1, rfl, ⟨_, SqL.of g1⟩, lcG (fun n ws => ws = (List.replicate n true).map V.bl) (tells_l (SqL.of g1)) (by rw [List.length_map]; show 5 ≤ sizeLine; decide) rfl (fun D2 j ws H2 hj hD2 s2 e2 r2 => ?_) (fun D2 H2 ws hD2 s2 e2 r2 => ?_)⟩
    · rw [List.length_map] at hj
      have ej : (([r.l, r.h, r.b, r.f, r.e]).map V.int).getD j .non = V.int ([r.l, r.h, r.b, r.f, r.e])[j] := by rw [List.getD_eq_getElem?_getD, List.getElem?_map, List.getElem?_eq_getElem hj]; rfl
      rw [ej]
      (repeat array_get_dec)
      refine ⟨mono0 rfl, ?_⟩
      (repeat array_get_dec)
      refine ⟨_, rfl, ?_⟩
      exact lcFin hD2 s2 e2 (Same.refl _) (by rw [r2, List.replicate_succ', List.map_append]; rfl)
    subst r2
    (repeat array_get_dec)
    refine ⟨D2, _, rfl, SqL.of e2, ?_⟩
    rw [show (List.replicate ([r.l, r.h, r.b, r.f, r.e].map V.int).length true).all id = true from rfl]
    (repeat array_get_dec)
    have s12 := s1.trans s2
    have ra2 := ra.same s12
    refine ⟨r.t, _, rfl, SqT.of ra2.1, (fun h => absurd h.2 (by show ¬ HT.sIx 6 6 (some 5) = 6; decide +kernel)), fun t4 h4 => ?_⟩
    have c5 : cutV [V.int r.l, .int r.h, .int r.b, .int r.f, .int r.e, .ref r.it] none (some 5) = [r.l, r.h, r.b, r.f, r.e].map V.int := rfl
    rw [c5]
    have s4 := Same.upd (o := .tup ([r.l, r.h, r.b, r.f, r.e].map V.int)) h4
    have g4 : (upd H2 t4 (.tup ([r.l, r.h, r.b, r.f, r.e].map V.int))) t4 = some (.tup ([r.l, r.h, r.b, r.f, r.e].map V.int)) := upd_same
    generalize upd H2 t4 _ = H4 at s4 g4 ⊢
    (repeat array_get_dec)
    refine ⟨t4, _, rfl, .inr (SqT.of g4), fun l5 h5 => ?_⟩
    have s5 := Same.upd (o := .lst ([r.l, r.h, r.b, r.f, r.e].map V.int)) h5
    have g5 : (upd H4 l5 (.lst ([r.l, r.h, r.b, r.f, r.e].map V.int))) l5 = some (.lst ([r.l, r.h, r.b, r.f, r.e].map V.int)) := upd_same
    generalize upd H4 l5 _ = H5 at s5 g5 ⊢
    have s15 := s2.trans (s4.trans s5)
    have sA := s1.trans s15
    refine ⟨l1, l5, _, _, rfl, rfl, .inl ⟨SqL.of (s15 _ _ g1), SqL.of g5⟩, rfl, rfl, ?_⟩
    rw [if_neg Bool.false_ne_true, eqL_refl (show ([r.l, r.h, r.b, r.f, r.e].map V.int).all flatV = true from rfl)]
    refine ⟨true, rfl, ?_⟩
    rw [if_pos rfl]
    (repeat array_get_dec)
    refine ⟨o, _, dx, fs, _, rfl, sA _ _ ho, T.clR, T.n_pieces, hps, ?_⟩
    (repeat array_get_dec)
    refine ⟨_, _, _, _, _, rfl, .v (.lst (sA _ _ hn)), rfl, T.k_list, ?_⟩
    (repeat array_get_dec)
    refine ⟨o, _, dx, fs, _, rfl, sA _ _ ho, T.clR, T.n_pieces, hps, ?_⟩
    (repeat array_get_dec)
    have raA := ra.same sA
    refine ⟨r.t, _, 5, _, rfl, rfl, SqT.of raA.1, atI_nat (j := 5) rfl, ?_⟩
    refine ⟨n, r.it, _, _, rfl, rfl, .inl ⟨SqL.of (sA _ _ hn), SqL.of raA.2⟩, flat_strs _, flat_strs _, ?_⟩
    rw [if_neg Bool.false_ne_true, eqL_refl (flat_strs _)]
    exact k _ sA
/-! ### _law_is_tongue -/
abbrev DIT (K : PySem.W.Frag) (mg : Str → Option Value) := Df K mg "_law_is_tongue" "_law_is_tongue" (top 52) ["_law_tongue_here", "_law_data_here"]
def spIT (a : Ad) : Sp := fun vs H Q _ => ∃ (x : Addr) (d : DD) (os zs : List Addr), vs = [.ref x, .ref d.t] ∧ TD a H x d os zs ∧ d.at H ∧ d.ok ∧ Pure (.bl true) H Q
abbrev nIT : List Str := ["_law_tongue_here", "_law_data_here", "_law_bound", "_law_rules", "_law_melts_here", "_law_kinds", "_law_k", "_law_kind_here"]
theorem scIT : FnScope nIT ["_law_tongue_here", "_law_data_here"] (defScope (top 52)) := ⟨rfl, rfl, rfl, by decide +kernel, rfl, by decide +kernel, by decide +kernel⟩
theorem ok_it2 (D : DIT K mg) (D__law_whole : DWhole K mg) (G__law_whole : FnOk P w K mg base CX0 1 D__law_whole.f D__law_whole.fd ["_law_found"] spWhole) (D__law_is_rule : DIR K mg) (G__law_is_rule : FnOk P w K mg base CX0 2 D__law_is_rule.f D__law_is_rule.fd ["_law_rule_here", "_law_due"] (spIR a)) (T : Txt K mg a) : FnOk P w K mg base CX0 3 D.f D.fd ["_law_tongue_here", "_law_data_here"] (spIT a) := by
  refine Df.ok (k := 2) D.ex scIT (fun vs H Q E h => ?_) (fun A outer s H vs Q E hr h => ?_)
  · obtain ⟨x, d, os, zs, rfl, _⟩ := h; rfl
  · obtain ⟨x, d, os, zs, rfl, td, da, do_, k⟩ := h
    obtain ⟨dx, fs, ra, qa, ka, hx, fl, hra, hqa, hka⟩ := id td.tg.ob
    have nd := scIT.nd
    have hu2 := hu_of hr
    have hu := Nat.lt_of_succ_lt hu2
    have r40 := do_.rn
    have rn := td.rn
    have zn := td.kn
    have k4 := do_.kn
    have rlr : H d.rl = some (.lst ((d.rs.map (·.t)).map .ref)) := da.rl
    have mlr : H d.ml = some (.lst ((d.ms.map (·.t)).map .ref)) := da.ml
    have klr : H d.kl = some (.lst ((d.ks.map (·.t)).map .ref)) := da.kl
    refine ⟨_, (pss_cons (ps_asg (pv 1) (pg_tup (n := 4) rfl (pgs_cons (pg_name (i := 2) (show List.Nodup (["_law_tongue_here", "_law_data_here", "_law_bound", "_law_rules", "_law_melts_here", "_law_kinds", "_law_k", "_law_kind_here"] : List Str) from by decide +kernel) rfl (Or.inl rfl)) (pgs_cons (pg_name (i := 3) (show List.Nodup (["_law_tongue_here", "_law_data_here", "_law_bound", "_law_rules", "_law_melts_here", "_law_kinds", "_law_k", "_law_kind_here"] : List Str) from by decide +kernel) rfl (Or.inr rfl)) (pgs_cons (pg_name (i := 4) (show List.Nodup (["_law_tongue_here", "_law_data_here", "_law_bound", "_law_rules", "_law_melts_here", "_law_kinds", "_law_k", "_law_kind_here"] : List Str) from by decide +kernel) rfl (Or.inl rfl)) (pgs_cons (pg_name (i := 5) (show List.Nodup (["_law_tongue_here", "_law_data_here", "_law_bound", "_law_rules", "_law_melts_here", "_law_kinds", "_law_k", "_law_kind_here"] : List Str) from by decide +kernel) rfl (Or.inl rfl)) pgs_nil))))))
 (pss_cons (ps_if (pw_or (pt_not (pt_val (pe_callB call_isi (by rfl) T.b_isinstance boot_isinstance (pa_c (pv 0) (pa_c (pe_glob (v := .ref a.Tongue) (by rfl) T.c_Tongue rfl) pa_nil))))) (pw_or (pt_not (pt_val (pe_call G__law_whole (hr.mono (by decide)) (by rfl) D__law_whole.mg D__law_whole.kp D__law_whole.bd .nil pass0 (pa_c (pe_fld (pv 0) (by rfl)) pa_nil)))) (pw_or1 (pt_cmpR op_ne (pe_fld (pv 0) (by rfl)) (pv 2) (nomark _))))).pt
 (pss_one (ps_ret pe_bl))
 pss_nil)
 (pss_cons (ps_if (pw_or (pt_cmpR op_ne (pe_callB call_len_seq (by rfl) T.b_len boot_len (pa_c (pe_fld (pv 0) (by rfl)) pa_nil)) (pe_callB call_len_seq (by rfl) T.b_len boot_len (pa_c (pv 3) pa_nil)) (nomark _)) (pw_or (pt_cmpR op_ne (pe_callB call_len_seq (by rfl) T.b_len boot_len (pa_c (pe_fld (pv 0) (by rfl)) pa_nil)) (pe_callB call_len_seq (by rfl) T.b_len boot_len (pa_c (pv 5) pa_nil)) (nomark _)) (pw_or1 (pt_cmpR (op_neI K hu) (pe_fld (pv 0) (by rfl)) (pv 4) (nomark _))))).pt
 (pss_one (ps_ret pe_bl))
 pss_nil)
 (pss_cons (ps_if (pt_not (pt_val (pe_callB (call_allL rfl) (by rfl) T.b_all boot_all (pa_c (pe_lc (N := ["_law_k", "_law_rules", "_law_tongue_here"]) (fs := [(1, 3), (2, 0)]) (⟨rfl, by rfl, by rfl, by rfl, ⟨⟨_, rfl, rfl, rfl, Or.inl rfl⟩, ⟨⟨_, rfl, rfl, rfl, Or.inl rfl⟩, trivial⟩⟩⟩) rfl (pi_range1 (by rfl) T.b_range (pa_c (pe_callB call_len_seq (by rfl) T.b_len boot_len (pa_c (pv 3) pa_nil)) pa_nil)) (fun _ _ _ _ _ => (pg_name (i := 0) (show List.Nodup (["_law_k", "_law_rules", "_law_tongue_here"] : List Str) from by decide +kernel) rfl (Or.inl rfl))) (fun _ _ _ _ _ => by exact pts_nil) (fun _ _ _ _ _ => by exact (pe_call G__law_is_rule (hr.mono (by decide)) (by rfl) D__law_is_rule.mg D__law_is_rule.kp D__law_is_rule.bd .nil pass0 (pa_c (pe_ix (ix_listK K) (pe_fldK K (pv 2)) (pv 0) (fun _ _ => rfl)) (pa_c (pe_ix (ix_listK K) (pv 1) (pv 0) (fun _ _ => rfl)) pa_nil))))) pa_nil))))
 (pss_one (ps_ret pe_bl))
 pss_nil)
 (pss_cons (ps_for PassesOwn.never rfl (pi_range1 (by rfl) T.b_range (pa_c (pe_callB call_len_seq (by rfl) T.b_len boot_len (pa_c (pv 5) pa_nil)) pa_nil)) (pg_name (i := 6) (show List.Nodup (["_law_tongue_here", "_law_data_here", "_law_bound", "_law_rules", "_law_melts_here", "_law_kinds", "_law_k", "_law_kind_here"] : List Str) from by decide +kernel) rfl (Or.inl rfl))
 (pss_cons (ps_set (i := 7) nd rfl (Or.inl rfl) (pe_ix ix_list (pe_fld (pv 0) (by rfl)) (pv 6) (fun _ _ => rfl)))
 (pss_one (ps_if (pw_or (pt_not (pt_val (pe_callB call_isi (by rfl) T.b_isinstance boot_isinstance (pa_c (pv 7) (pa_c (pe_glob (v := .ref a.Kind) (by rfl) T.c_Kind rfl) pa_nil))))) (pw_or1 (pt_cmpR (op_neK3 K hu2) (pe_tup (pa_c (pe_fld (pv 7) (by rfl)) (pa_c (pe_fld (pv 7) (by rfl)) (pa_c (pe_fld (pv 7) (by rfl)) pa_nil)))) (pe_ix ix_list (pv 5) (pv 6) (fun _ _ => rfl)) (nomark _)))).pt
 (pss_one (ps_ret pe_bl))
 pss_nil))))
 (pss_one (ps_ret pe_bl))))))), ?_⟩
    (repeat array_get_dec)
    refine w_gTup' (SqT.of da.t) rfl ?_
    refine ⟨_, _, rfl, _, _, rfl, _, _, rfl, _, _, rfl, rfl, ?_⟩
    (repeat array_get_dec)
    refine ⟨_, _, _, _, _, rfl, .v (.ins hx T.cl T.clc T.x_BadRule.gs T.x_BadRule.tk T.clm), rfl, T.k_tong, ?_⟩
    (repeat array_get_dec)
    refine ⟨x, _, dx, fs, _, rfl, hx, T.cl, T.n_bound, fl.bound, ?_⟩
    (repeat array_get_dec)
    refine ⟨_, rfl, ?_⟩
    (repeat array_get_dec)
    refine ⟨x, _, dx, fs, _, rfl, hx, T.cl, T.n_bound, fl.bound, ?_⟩
    (repeat array_get_dec)
    rw [decide_eq_true (show d.b = d.b from rfl)]
    (repeat array_get_dec)
    refine ⟨x, _, dx, fs, _, rfl, hx, T.cl, T.n_rules, fl.rules, ?_⟩
    (repeat array_get_dec)
    refine ⟨ra, _, rfl, .inl (SqL.of hra), ?_⟩
    (repeat array_get_dec)
    refine ⟨d.rl, _, rfl, .inl (SqL.of rlr), ?_⟩
    (repeat array_get_dec)
    have en1 : decide (((os.map V.ref).length : Int) = (((d.rs.map (·.t)).map V.ref).length : Nat)) = true := decide_eq_true (by rw [List.length_map, List.length_map, List.length_map, rn])
    rw [en1]
    (repeat array_get_dec)
    refine ⟨x, _, dx, fs, _, rfl, hx, T.cl, T.n_kinds, fl.kinds, ?_⟩
    (repeat array_get_dec)
    refine ⟨ka, _, rfl, .inl (SqL.of hka), ?_⟩
    (repeat array_get_dec)
    refine ⟨d.kl, _, rfl, .inl (SqL.of klr), ?_⟩
    (repeat array_get_dec)
    have en2 : decide (((zs.map V.ref).length : Int) = (((d.ks.map (·.t)).map V.ref).length : Nat)) = true := decide_eq_true (by rw [List.length_map, List.length_map, List.length_map, zn])
    rw [en2]
    (repeat array_get_dec)
    refine ⟨x, _, dx, fs, _, rfl, hx, T.cl, T.n_melts, fl.melts, ?_⟩
    (repeat array_get_dec)
    refine ⟨qa, d.ml, d.ms.map (·.t), rfl, rfl, SqL.of hqa, SqL.of mlr, ?_⟩
    (repeat array_get_dec)
    refine ⟨d.rl, _, rfl, .inl (SqL.of rlr), ?_⟩
    (repeat array_get_dec)
    rw [List.length_map, List.length_map]
    refine ⟨_, rfl, by omega, by omega, ?_⟩
    have lcS2 : ((d.rs.length : Nat) : Int).toNat = d.rs.length := Int.toNat_natCast _
    refine lcG (fun n ws => ws = (List.replicate n true).map V.bl) (tells_r (lo := 0) (n := ((d.rs.length : Nat) : Int).toNat)) (by rw [lcS2]; exact le_line (by omega)) rfl (fun D2 j ws H2 hj hD2 s2 e2 r2 => ?_) (fun D2 H2 ws hD2 s2 e2 r2 => ?_)
    · rw [lcS2] at hj
      have hj' : j < os.length := by omega
      (repeat array_get_dec)
      refine ⟨mono0 rfl, ?_⟩
      (repeat array_get_dec)
      refine ⟨x, _, dx, fs, _, rfl, s2 _ _ hx, T.cl, T.n_rules, fl.rules, ?_⟩
      (repeat array_get_dec)
      refine ⟨ra, _, _, .ref os[j], rfl, rfl, SqL.of (s2 _ _ hra), (by rw [Int.zero_add]; exact atI_nat (j := j) (by rw [List.getElem?_map, List.getElem?_eq_getElem hj']; rfl)), ?_⟩
      (repeat array_get_dec)
      refine ⟨d.rl, _, _, .ref d.rs[j].t, rfl, rfl, SqL.of (s2 _ _ rlr), (by rw [Int.zero_add]; exact atI_nat (j := j) (by rw [List.getElem?_map, List.getElem?_map, List.getElem?_eq_getElem hj]; rfl)), ?_⟩
      (repeat array_get_dec)
      obtain ⟨n, R, hn⟩ := td.rs j os[j] d.rs[j] (List.getElem?_eq_getElem hj') (List.getElem?_eq_getElem hj)
      refine ⟨os[j], d.rs[j], rfl, ⟨n, R.same s2, s2 _ _ hn⟩, (da.rs _ (List.getElem_mem hj)).same s2, fun H3 s3 => ?_⟩
      exact lcFin hD2 s2 e2 s3 (by rw [r2, List.replicate_succ', List.map_append]; rfl)
    subst r2
    (repeat array_get_dec)
    refine ⟨D2, _, rfl, SqL.of e2, ?_⟩
    refine ⟨_, rfl, ?_⟩
    rw [show (List.replicate ((d.rs.length : Nat) : Int).toNat true).all id = true by simp]
    (repeat array_get_dec)
    refine ⟨d.kl, _, rfl, .inl (SqL.of (s2 _ _ klr)), ?_⟩
    (repeat array_get_dec)
    rw [List.length_map, List.length_map]
    refine ⟨_, rfl, by omega, by omega, ?_⟩
    refine forR (fun i σ H3 => ∃ v6 v7, σ = [some (V.ref x), some (V.ref d.t), some (V.int d.b), some (V.ref d.rl), some (V.ref d.ml), some (V.ref d.kl), v6, v7] ∧ Same H H3) ⟨_, _, rfl, s2⟩ ?_ ?_
    · rintro i σ H3 hi ⟨v6, v7, rfl, s3⟩
      rw [Int.toNat_natCast] at hi
      have hi' : i < zs.length := by omega
      have ko := do_.ks d.ks[i] (List.getElem_mem hi)
      have kat := (da.ks d.ks[i] (List.getElem_mem hi)).same s3
      obtain ⟨n, R, hn⟩ := td.ks i zs[i] d.ks[i] (List.getElem?_eq_getElem hi') (List.getElem?_eq_getElem hi)
      have ek : (d.ks.map (·.t))[i]? = some d.ks[i].t := by rw [List.getElem?_map, List.getElem?_eq_getElem hi]; rfl
      generalize d.ks[i] = kd at ko kat R ek hn
      obtain ⟨kx, kf, r1, r2⟩ := (R.same s3).ob
      have hn3 := s3 _ _ hn
      (repeat array_get_dec)
      refine ⟨x, _, dx, fs, _, rfl, s3 _ _ hx, T.cl, T.n_kinds, fl.kinds, ?_⟩
      (repeat array_get_dec)
      refine ⟨ka, _, _, .ref zs[i], rfl, rfl, SqL.of (s3 _ _ hka), (by rw [Int.zero_add]; exact atI_nat (j := i) (by rw [List.getElem?_map, List.getElem?_eq_getElem hi']; rfl)), ?_⟩
      (repeat array_get_dec)
      refine ⟨_, _, _, _, _, rfl, .v (.ins r1 T.clK T.clKc T.x_BadRule.gs T.x_BadRule.tk T.clKm), rfl, T.k_kind, ?_⟩
      (repeat array_get_dec)
      refine ⟨zs[i], _, kx, kf, _, rfl, r1, T.clK, T.n_title, r2.title, ?_⟩
      (repeat array_get_dec)
      refine ⟨zs[i], _, kx, kf, _, rfl, r1, T.clK, T.n_ending, r2.ending, ?_⟩
      (repeat array_get_dec)
      refine ⟨zs[i], _, kx, kf, _, rfl, r1, T.clK, T.n_turns, r2.turns, ?_⟩
      (repeat array_get_dec)
      refine ⟨by show 3 ≤ sizeLine; decide, fun t4 h4 => ?_⟩
      have s4 := Same.upd (o := .tup [V.str kd.ti, .str kd.en, .ref n]) h4
      have g4 : (upd H3 t4 (.tup [V.str kd.ti, .str kd.en, .ref n])) t4 = some (.tup [V.str kd.ti, .str kd.en, .ref n]) := upd_same
      generalize upd H3 t4 _ = H4 at s4 g4 ⊢
      (repeat array_get_dec)
      refine ⟨d.kl, _, _, .ref kd.t, rfl, rfl, SqL.of (s4 _ _ (s3 _ _ klr)), (by rw [Int.zero_add]; exact atI_nat (j := i) (by rw [List.getElem?_map, ek]; rfl)), ?_⟩
      refine ⟨t4, kd.t, n, kd.n, kd.ti, kd.en, kd.ps.map PD.t, rfl, rfl, SqT.of g4, SqT.of (s4 _ _ kat.1), SqL.of (s4 _ _ hn3), SqL.of (s4 _ _ kat.2.1), ?_⟩
      (repeat array_get_dec)
      exact ⟨_, _, rfl, s3.trans s4⟩
    · rintro σ H3 ⟨v6, v7, rfl, s3⟩
      (repeat array_get_dec)
      exact k H3 s3
end
end K32

namespace K32
open PySem PySem.Spec PyProof.Rows L2
theorem tab_kb {H H' : Hp} {q t : Addr} {c : Nat} (ao : AtOk H q c) (k : KB q H H') (h : H t = some (Tb t)) : H' t = some (Tb t) := k _ _ (at_ne ao h (fun _ _ z => by cases z)) h
theorem TabsA.kb {a : Ad} {H H' : Hp} {q : Addr} {c : Nat} (t : TabsA a H) (ao : AtOk H q c) (k : KB q H H') : TabsA a H' :=
  ⟨⟨tab_kb ao k t.1.1, tab_kb ao k t.1.2.1, tab_kb ao k t.1.2.2.1, tab_kb ao k t.1.2.2.2⟩, ⟨tab_kb ao k t.2.1.1, tab_kb ao k t.2.1.2⟩, tab_kb ao k t.2.2⟩
section
variable {P : Program} {w : World} {K : PySem.W.Frag} {mg : Str → Option Value} {base : Heap} {a : Ad}
/-! ### law -/
abbrev DLaw (K : PySem.W.Frag) (mg : Str → Option Value) := Df K mg "law" "law" (top 53) ["_law_script"]
def spLaw (K : PySem.W.Frag) (a : Ad) : Sp := fun vs H Q _ => ∃ (p : Addr) (ns : List Int), vs = [.ref p] ∧ SqL K H p (ns.map .int) ∧ ns.length ≤ 63 ∧ TabsA a H ∧ ∀ H', Same H H' → Q (.bl true) H'
abbrev nLaw : List Str := ["_law_script", "_law_at", "_law_k", "_law_data_here", "_law_tongue_here", "_law_due", "_law_turn", "_law_found"]
theorem scLaw : FnScope nLaw ["_law_script"] (defScope (top 53)) := ⟨rfl, rfl, rfl, by decide +kernel, rfl, by decide +kernel, by decide +kernel⟩
structure Gs (P : Program) (w : World) (K : PySem.W.Frag) (mg : Str → Option Value) (base : Heap) (a : Ad) where
  D__law_begin : DBegin K mg
  G__law_begin : FnOk P w K mg base CX0 1 D__law_begin.f D__law_begin.fd ["_law_script"] (spBegin K)
  D__law_data : DDa K mg
  G__law_data : FnOk P w K mg base CX0 4 D__law_data.f D__law_data.fd ["_law_script", "_law_at"] (spDa K)
  D__law_tongue : DTg K mg
  G__law_tongue : FnOk P w K mg base CX0 10 D__law_tongue.f D__law_tongue.fd ["_law_data_here"] (spTg a)
  D__law_rows : DRs K mg
  G__law_rows : FnOk P w K mg base CX0 2 D__law_rows.f D__law_rows.fd ["_law_data_here"] spRs
  D_tongue_text : DTT K mg
  G_tongue_text : FnOk P w K mg base CX0 3 D_tongue_text.f D_tongue_text.fd ["tongue"] (spTT a)
  D__law_is_tongue : DIT K mg
  G__law_is_tongue : FnOk P w K mg base CX0 3 D__law_is_tongue.f D__law_is_tongue.fd ["_law_tongue_here", "_law_data_here"] (spIT a)
theorem ok_law (D : DLaw K mg) (g : Gs P w K mg base a) (T : Txt K mg a) : FnOk P w K mg base CX0 11 D.f D.fd ["_law_script"] (spLaw K a) := by
  obtain ⟨D__law_begin, G__law_begin, D__law_data, G__law_data, D__law_tongue, G__law_tongue, D__law_rows, G__law_rows, D_tongue_text, G_tongue_text, D__law_is_tongue, G__law_is_tongue⟩ := g
  refine Df.ok (k := 10) D.ex scLaw (fun vs H Q E h => ?_) (fun A outer s H vs Q E hr h => ?_)
  · obtain ⟨p, ns, rfl, _⟩ := h; rfl
  · obtain ⟨p, ns, rfl, hp, hlen, tb, k⟩ := h
    have nd := scLaw.nd
    refine ⟨_, (pss_cons (ps_set (i := 1) nd rfl (Or.inl rfl) (pe_call G__law_begin (hr.mono (by decide)) (by rfl) D__law_begin.mg D__law_begin.kp D__law_begin.bd .nil pass0 (pa_c (pv 0) pa_nil)))
 (pss_cons (ps_for PassesOwn.never rfl (pi_range1 (by rfl) T.b_range (pa_c pe_int pa_nil)) (pg_name (i := 2) (show List.Nodup (["_law_script", "_law_at", "_law_k", "_law_data_here", "_law_tongue_here", "_law_due", "_law_turn", "_law_found"] : List Str) from by decide +kernel) rfl (Or.inl rfl))
 (pss_cons (ps_set (i := 3) nd rfl (Or.inl rfl) (pe_call G__law_data (hr.mono (by decide)) (by rfl) D__law_data.mg D__law_data.kp D__law_data.bd .nil pass0 (pa_c (pv 0) (pa_c (pv 1) pa_nil))))
 (pss_cons (ps_set (i := 4) nd rfl (Or.inl rfl) (pe_call G__law_tongue (hr.mono (by decide)) (by rfl) D__law_tongue.mg D__law_tongue.kp D__law_tongue.bd .nil pass0 (pa_c (pv 3) pa_nil)))
 (pss_cons (ps_set (i := 5) nd rfl (Or.inl rfl) (pe_bm PySem.F.plainAttrs_str PySem.F.slot_str_join PySem.F.type_str_join mt_join pe_str (pa_c (pe_lc (N := ["_law_row"]) (fs := []) (⟨rfl, by rfl, by rfl, by rfl, trivial⟩) rfl (pi_list (pe_call G__law_rows (hr.mono (by decide)) (by rfl) D__law_rows.mg D__law_rows.kp D__law_rows.bd .nil pass0 (pa_c (pv 3) pa_nil))) (fun _ _ _ _ _ => (pg_name (i := 0) (show List.Nodup (["_law_row"] : List Str) from by decide +kernel) rfl (Or.inl rfl))) (fun _ _ _ _ _ => by exact pts_nil) (fun _ _ _ _ _ => by exact (pe_op op_add_str (pe_bmK K PySem.F.plainAttrs_str PySem.F.slot_str_join PySem.F.type_str_join (mt_joinK K) pe_str (pa_c (pv 0) pa_nil)) pe_str))) pa_nil)))
 (pss_cons (ps_for PassesOwn.never rfl (pi_range1 (by rfl) T.b_range (pa_c pe_int pa_nil)) (pg_name (i := 6) (show List.Nodup (["_law_script", "_law_at", "_law_k", "_law_data_here", "_law_tongue_here", "_law_due", "_law_turn", "_law_found"] : List Str) from by decide +kernel) rfl (Or.inl rfl))
 (pss_cons (ps_set (i := 7) nd rfl (Or.inl rfl) (pe_call G_tongue_text (hr.mono (by decide)) (by rfl) D_tongue_text.mg D_tongue_text.kp D_tongue_text.bd .nil pass0 (pa_c (pv 4) pa_nil)))
 (pss_one (ps_if (pw_or (pt_not (pt_val (pe_callB call_isi (by rfl) T.b_isinstance boot_isinstance (pa_c (pv 7) (pa_c (pe_bltn (v := .ty "str") (by rfl) T.b_str (by rfl) rfl) pa_nil))))) (pw_or1 (pt_cmpR op_ne (pv 7) (pv 5) (nomark _)))).pt
 (pss_one (ps_ret pe_bl))
 pss_nil))))
 (pss_one (ps_if (pt_not (pt_val (pe_call G__law_is_tongue (hr.mono (by decide)) (by rfl) D__law_is_tongue.mg D__law_is_tongue.kp D__law_is_tongue.bd .nil pass0 (pa_c (pv 4) (pa_c (pv 3) pa_nil)))))
 (pss_one (ps_ret pe_bl))
 pss_nil)))))))
 (pss_one (ps_ret pe_bl)))), ?_⟩
    (repeat array_get_dec)
    refine ⟨p, ns, rfl, hp, fun q hq n n0 n1 => ?_⟩
    have s1 : Same H (upd H q (.lst [.int 0, .int n])) := Same.upd hq
    have sc1 : Scr K q (upd H q (.lst [.int 0, .int n])) p ns := Scr.of hp hq s1
    have ao1 : AtOk (upd H q (.lst [.int 0, .int n])) q 0 := ⟨0, n, upd_same, by omega, by omega, n0, n1⟩
    have fin : ∀ H', KB q (upd H q (.lst [.int 0, .int n])) H' → Same H H' := fun H' kb c o h => kb c o (ne_of_none h hq) (s1 c o h)
    have tb1 := tb.same s1
    generalize upd H q _ = H1 at s1 sc1 ao1 fin tb1 ⊢
    (repeat array_get_dec)
    refine ⟨_, rfl, by omega, by omega, ?_⟩
    refine forR (fun i σ H2 => ∃ v2 v3 v4 v5 v6 v7, σ = [some (V.ref p), some (V.ref q), v2, v3, v4, v5, v6, v7] ∧ KB q H1 H2 ∧ AtOk H2 q (3000 * i)) ⟨none, none, none, none, none, none, rfl, .refl _ _, ao1⟩ ?_ ?_
    · rintro i σ H2 hi ⟨v2, v3, v4, v5, v6, v7, rfl, kb2, ao2⟩
      (repeat array_get_dec)
      refine ⟨p, q, ns, _, rfl, sc1.kb kb2, hlen, ao2, by omega, fun H3 d kb3 ao3 da do_ => ?_⟩
      (repeat array_get_dec)
      have kb13 := kb2.trans kb3
      refine ⟨d, rfl, da, do_, tb1.kb ao1 kb13, fun H4 x os zs s4 td => ?_⟩
      have da4 := da.same s4
      (repeat array_get_dec)
      refine ⟨rfl, ?_⟩
      (repeat array_get_dec)
      refine ⟨d, rfl, da4, do_, fun H5 l ls s5 g5 la5 m5 => ?_⟩
      have shA := sh_rows do_
      have n105 := rows_len do_
      have lsl : ls.length = (rowsOf d).length := by have := congrArg List.length m5; rw [List.length_map] at this; exact this
      have shl : ∀ y ∈ ls, Sh y.row := fun y hy => shA _ (by rw [← m5]; exact List.mem_map.mpr ⟨y, hy, rfl⟩)
      have g5 : H5 l = some (.lst ((ls.map (·.t)).map .ref)) := g5
      refine ⟨l, rfl, ⟨_, SqL.of g5⟩, lcG (fun n ws => ws = ((ls.take n).map fun y => J y.row ++ lf).map V.str) (tells_l (SqL.of g5)) (by rw [List.length_map, List.length_map]; exact le_line (by omega)) rfl (fun D6 j ws H6 hj hD6 s6 e6 r6 => ?_) (fun D6 H6 ws hD6 s6 e6 r6 => ?_)⟩
      · rw [List.length_map, List.length_map] at hj
        have ej : ((ls.map (·.t)).map V.ref).getD j .non = V.ref ls[j].t := by simp [List.getD_eq_getElem?_getD, hj]
        have hm := s6 _ _ (la5 ls[j] (List.getElem_mem hj)).1
        have shj := shl ls[j] (List.getElem_mem hj)
        rw [ej]
        (repeat array_get_dec)
        refine ⟨mono0 rfl, ?_⟩
        (repeat array_get_dec)
        refine ⟨rfl, ?_⟩
        (repeat array_get_dec)
        refine ⟨sp, ls[j].t, ls[j].row, rfl, rfl, SqL.of hm, Nat.le_trans (J_room shj.1 shj.2) (by decide), ?_⟩
        (repeat array_get_dec)
        refine ⟨_, _, rfl, rfl, ?_, ?_⟩
        · have := shj.len
          change (Txt.join sp ls[j].row).length ≤ _ at this
          have e10 : ("\n" : Str).length = 1 := by decide
          rw [e10]
          exact le_line (by omega)
        · exact lcFin hD6 s6 e6 (Same.refl _) (by rw [r6, List.take_succ, List.getElem?_eq_getElem hj, List.map_append, List.map_append]; rfl)
      have r6 : ws = (((rowsOf d).map J).map (· ++ lf)).map V.str := by
        rw [r6, List.length_map, List.length_map, List.take_of_length_le (Nat.le_refl _), ← m5]; simp only [List.map_map]; rfl
      subst r6
      have hb : ∀ t ∈ ((rowsOf d).map J).map (· ++ lf), t.length ≤ 1001 := fun t ht => by
        obtain ⟨z, hz, rfl⟩ := List.mem_map.mp ht
        obtain ⟨r, hr, rfl⟩ := List.mem_map.mp hz
        have := (shA r hr).len
        rw [st_len, show lf.length = 1 from by decide]
        omega
      have hs := sum_le hb
      rw [List.length_map, List.length_map] at hs
      (repeat array_get_dec)
      refine ⟨"", D6, ((rowsOf d).map J).map (· ++ lf), rfl, rfl, SqL.of e6, ?_, ?_⟩
      · rw [show ("" : Str).length = 0 from by decide, Nat.mul_zero]
        have : (rowsOf d).length * 1001 ≤ 105 * 1001 := Nat.mul_le_mul_right _ n105
        omega
      have et : Txt.join "" (((rowsOf d).map J).map (· ++ lf)) = textOf d := by
        unfold textOf rowsOf
        rw [List.map_cons, join_lf]
      rw [et]
      have s46 := s5.trans s6
      have td6 := td.same s46
      have da6 := da4.same s46
      have kb16 : KB q H1 H6 := kb13.trans (.of (s4.trans s46))
      have ao6 := ao3.same (s4.trans s46)
      (repeat array_get_dec)
      refine ⟨_, rfl, by omega, by omega, ?_⟩
      refine forR (fun j σ H7 => ∃ v6 v7, σ = [some (V.ref p), some (V.ref q), some (V.int (0 + i)), some (V.ref d.t), some (V.ref x), some (V.str (textOf d)), v6, v7] ∧ Same H6 H7) ⟨_, _, rfl, .refl _⟩ ?_ ?_
      · rintro j σ H7 hj ⟨v6, v7, rfl, s7⟩
        (repeat array_get_dec)
        refine ⟨x, d, os, zs, rfl, td6.same s7, da6.same s7, do_, fun H8 s8 => ?_⟩
        (repeat array_get_dec)
        refine ⟨_, _, _, _, _, rfl, .v (.str _), rfl, T.k_str, ?_⟩
        (repeat array_get_dec)
        rw [decide_eq_true (show textOf d = textOf d from rfl)]
        (repeat array_get_dec)
        exact ⟨_, _, rfl, s7.trans s8⟩
      · rintro σ H7 ⟨v6, v7, rfl, s7⟩
        (repeat array_get_dec)
        refine ⟨x, d, os, zs, rfl, td6.same s7, da6.same s7, do_, fun H8 s8 => ?_⟩
        (repeat array_get_dec)
        exact ⟨_, _, _, _, _, _, rfl, kb16.trans (.of (s7.trans s8)), (ao6.same (s7.trans s8)).mono (by omega)⟩
    · rintro σ H2 ⟨v2, v3, v4, v5, v6, v7, rfl, kb2, ao2⟩
      (repeat array_get_dec)
      exact k H2 (fin H2 kb2)
end
end K32

namespace K32
open PySem PySem.Spec PyProof.Rows L2
def mkDf {K : PySem.W.Frag} {mg : Str → Option Value} {h : Heap} {x qual : Str} {st : Stmt} (ps : List Str) {f : Addr} {oc kV doc pm cdv ct : Value} {od an : Option Addr} {osl : Array (Option Value)} (X : K.In h) (G : h.Ns mainGlobals mg) (a : PySem.W.nsIn K mainGlobals x = some (some (.ref f)))
    (l : K.lookup f = some ⟨oc, od, .func (PySem.W.fnOf x qual (defArgs st) (defBody st) (defScope st) .none kV doc pm an cdv ct), osl⟩) (c : PySem.W.codeIn K cdv qual = true) (k : PySem.W.keepIn K (.ref f) = true)
    (b : ∀ us : List Value, us.length = ps.length → bindArgs (PySem.W.fnOf x qual (defArgs st) (defBody st) (defScope st) .none kV doc pm an cdv ct) ⟨us, []⟩ = pure (ps.zip us)) : Df K mg x qual st ps :=
  ⟨f, _, cdv, ⟨oc, od, kV, doc, pm, an, ct, osl, rfl, l, c⟩, k, PySem.W.mg_of X G a, .all b⟩
theorem codeK_mk {K : PySem.W.Frag} {c t : Addr} (e : PySem.W.codeHdIn K c t = true) : CodeK K (.ref c) t := ⟨c, rfl, fun _ X => PySem.W.codeHd_of_K X e⟩
theorem sq_mk {K : PySem.W.Frag} {p : Addr} {r : Array Value} {n : Nat} {od : Option Addr} {sl : Array (Option Value)} {xs : List V} (l : K.lookup p = some ⟨.type "tuple", od, .seq r n, sl⟩) (hs : xs.length ≤ sizeLine) (v : Vals xs r.toList) (H : Hp) : SqT K H p xs :=
  .inr ⟨_, r, _, l, rfl, rfl, by rw [← Array.length_toList, ← v.length]; exact hs, v⟩
theorem bd_tong {K : PySem.W.Frag} {dT : Addr} {odT anI : Option Addr} {nT : Nat} {slT : Array (Option Value)} {kV doc pm cdv ct : Value} (lk : K.lookup dT = some ⟨.type "tuple", odT, .seq #[.none, .none] nT, slT⟩) :
    Binds K (PySem.W.fnOf "__init__" "Tongue.__init__" (defArgs sTI) (defBody sTI) (defScope sTI) (.ref dT) kV doc pm anI cdv ct) pTI [] := fun s us X hl => by
  rw [List.append_nil] at hl ⊢
  match us, hl with
  | [u0, u1, u2, u3, u4], _ => exact BindsTo.of_defaults rfl (X _ _ lk) rfl rfl rfl
/-- what the top has written, and the law's promise from it -/
theorem all_mk {P : Program} {w : World} {K : PySem.W.Frag} {h : Heap} {mg : Str → Option Value} {fa : Addr} (X : K.In h) (G : h.Ns mainGlobals mg) (hfa : mg "law" = some (.ref fa))
    {tT tM : Tok}
    {aRule : Addr}
    {aTongue : Addr}
    {aKind : Addr}
    {aSayError : Addr}
    {aBadRule : Addr}
    {aBadBound : Addr}
    {aBadMelt : Addr}
    {aTwice : Addr}
    {aBadKind : Addr}
    {aSIGNS : Addr} {rSIGNS : Array Value} {nSIGNS : Nat} {odSIGNS : Option Addr} {slSIGNS : Array (Option Value)} {tSIGNSQ tSIGNSN tSIGNSW tSIGNSU tSIGNSR tSIGNSK : Tok}
    {aTIMES_SIGNS : Addr} {rTIMES_SIGNS : Array Value} {nTIMES_SIGNS : Nat} {odTIMES_SIGNS : Option Addr} {slTIMES_SIGNS : Array (Option Value)} {tTIMES_SIGNSQ tTIMES_SIGNSN tTIMES_SIGNSW tTIMES_SIGNSU : Tok}
    {aREST_SIGNS : Addr} {rREST_SIGNS : Array Value} {nREST_SIGNS : Nat} {odREST_SIGNS : Option Addr} {slREST_SIGNS : Array (Option Value)} {tREST_SIGNSR tREST_SIGNSK : Tok}
    {f13 : Addr} {od13 an13 : Option Addr} {sl13 : Array (Option Value)} {oc13 kV13 dc13 pm13 ct13 : Value}{cc13 : Addr} {t13 : Addr}
    {f14 : Addr} {od14 an14 : Option Addr} {sl14 : Array (Option Value)} {oc14 kV14 dc14 pm14 ct14 : Value}{cd14 : Value}
    {f16 : Addr} {od16 an16 : Option Addr} {sl16 : Array (Option Value)} {oc16 kV16 dc16 pm16 ct16 : Value}{cd16 : Value}
    {f17 : Addr} {od17 an17 : Option Addr} {sl17 : Array (Option Value)} {oc17 kV17 dc17 pm17 ct17 : Value}{cc17 : Addr} {t17 : Addr}
    {f18 : Addr} {od18 an18 : Option Addr} {sl18 : Array (Option Value)} {oc18 kV18 dc18 pm18 ct18 : Value}{cd18 : Value}
    {f19 : Addr} {od19 an19 : Option Addr} {sl19 : Array (Option Value)} {oc19 kV19 dc19 pm19 ct19 : Value}{cc19 : Addr} {t19 : Addr}
    {f20 : Addr} {od20 an20 : Option Addr} {sl20 : Array (Option Value)} {oc20 kV20 dc20 pm20 ct20 : Value}{cd20 : Value}
    {f21 : Addr} {od21 an21 : Option Addr} {sl21 : Array (Option Value)} {oc21 kV21 dc21 pm21 ct21 : Value}{cc21 : Addr} {t21 : Addr}
    {f23 : Addr} {od23 an23 : Option Addr} {sl23 : Array (Option Value)} {oc23 kV23 dc23 pm23 ct23 : Value}{cc23 : Addr} {t23 : Addr}
    {f24 : Addr} {od24 an24 : Option Addr} {sl24 : Array (Option Value)} {oc24 kV24 dc24 pm24 ct24 : Value}{cd24 : Value}
    {f27 : Addr} {od27 an27 : Option Addr} {sl27 : Array (Option Value)} {oc27 kV27 dc27 pm27 ct27 : Value}{cd27 : Value}
    {f28 : Addr} {od28 an28 : Option Addr} {sl28 : Array (Option Value)} {oc28 kV28 dc28 pm28 ct28 : Value}{cd28 : Value}
    {f29 : Addr} {od29 an29 : Option Addr} {sl29 : Array (Option Value)} {oc29 kV29 dc29 pm29 ct29 : Value}{cd29 : Value}
    {f33 : Addr} {od33 an33 : Option Addr} {sl33 : Array (Option Value)} {oc33 kV33 dc33 pm33 ct33 : Value}{cd33 : Value}
    {f34 : Addr} {od34 an34 : Option Addr} {sl34 : Array (Option Value)} {oc34 kV34 dc34 pm34 ct34 : Value}{cd34 : Value}
    {f35 : Addr} {od35 an35 : Option Addr} {sl35 : Array (Option Value)} {oc35 kV35 dc35 pm35 ct35 : Value}{cd35 : Value}
    {f37 : Addr} {od37 an37 : Option Addr} {sl37 : Array (Option Value)} {oc37 kV37 dc37 pm37 ct37 : Value}{cd37 : Value}
    {f38 : Addr} {od38 an38 : Option Addr} {sl38 : Array (Option Value)} {oc38 kV38 dc38 pm38 ct38 : Value}{cd38 : Value}
    {f39 : Addr} {od39 an39 : Option Addr} {sl39 : Array (Option Value)} {oc39 kV39 dc39 pm39 ct39 : Value}{cd39 : Value}
    {f40 : Addr} {od40 an40 : Option Addr} {sl40 : Array (Option Value)} {oc40 kV40 dc40 pm40 ct40 : Value}{cd40 : Value}
    {f41 : Addr} {od41 an41 : Option Addr} {sl41 : Array (Option Value)} {oc41 kV41 dc41 pm41 ct41 : Value}{cd41 : Value}
    {f42 : Addr} {od42 an42 : Option Addr} {sl42 : Array (Option Value)} {oc42 kV42 dc42 pm42 ct42 : Value}{cd42 : Value}
    {f43 : Addr} {od43 an43 : Option Addr} {sl43 : Array (Option Value)} {oc43 kV43 dc43 pm43 ct43 : Value}{cd43 : Value}
    {f44 : Addr} {od44 an44 : Option Addr} {sl44 : Array (Option Value)} {oc44 kV44 dc44 pm44 ct44 : Value}{cd44 : Value}
    {f45 : Addr} {od45 an45 : Option Addr} {sl45 : Array (Option Value)} {oc45 kV45 dc45 pm45 ct45 : Value}{cd45 : Value}
    {f46 : Addr} {od46 an46 : Option Addr} {sl46 : Array (Option Value)} {oc46 kV46 dc46 pm46 ct46 : Value}{cd46 : Value}
    {f47 : Addr} {od47 an47 : Option Addr} {sl47 : Array (Option Value)} {oc47 kV47 dc47 pm47 ct47 : Value}{cd47 : Value}
    {f48 : Addr} {od48 an48 : Option Addr} {sl48 : Array (Option Value)} {oc48 kV48 dc48 pm48 ct48 : Value}{cd48 : Value}
    {f49 : Addr} {od49 an49 : Option Addr} {sl49 : Array (Option Value)} {oc49 kV49 dc49 pm49 ct49 : Value}{cd49 : Value}
    {f50 : Addr} {od50 an50 : Option Addr} {sl50 : Array (Option Value)} {oc50 kV50 dc50 pm50 ct50 : Value}{cd50 : Value}
    {f51 : Addr} {od51 an51 : Option Addr} {sl51 : Array (Option Value)} {oc51 kV51 dc51 pm51 ct51 : Value}{cd51 : Value}
    {f52 : Addr} {od52 an52 : Option Addr} {sl52 : Array (Option Value)} {oc52 kV52 dc52 pm52 ct52 : Value}{cd52 : Value}
    {f53 : Addr} {od53 an53 : Option Addr} {sl53 : Array (Option Value)} {oc53 kV53 dc53 pm53 ct53 : Value}{cd53 : Value}
    {fR : Addr} {odR anR : Option Addr} {slR : Array (Option Value)} {ocR kVR dcR pmR ctR : Value}{cdR : Value}
    {fJ : Addr} {odJ anJ : Option Addr} {slJ : Array (Option Value)} {ocJ kVJ dcJ pmJ ctJ : Value}{cdJ : Value}
    {dT : Addr} {odT : Option Addr} {rT : Array Value} {nT : Nat} {slT : Array (Option Value)}
    {fI : Addr} {odI anI : Option Addr} {slI : Array (Option Value)} {ocI kVI dcI pmI ctI : Value}{ccI : Addr} {tI : Addr}
    (b_len : PySem.W.nsIn K mainGlobals "len" = some none)
    (b_isinstance : PySem.W.nsIn K mainGlobals "isinstance" = some none)
    (b_str : PySem.W.nsIn K mainGlobals "str" = some none)
    (b_int : PySem.W.nsIn K mainGlobals "int" = some none)
    (b_bool : PySem.W.nsIn K mainGlobals "bool" = some none)
    (b_list : PySem.W.nsIn K mainGlobals "list" = some none)
    (b_tuple : PySem.W.nsIn K mainGlobals "tuple" = some none)
    (b_all : PySem.W.nsIn K mainGlobals "all" = some none)
    (b_any : PySem.W.nsIn K mainGlobals "any" = some none)
    (b_range : PySem.W.nsIn K mainGlobals "range" = some none)
    (b_zip : PySem.W.nsIn K mainGlobals "zip" = some none)
    (b_max : PySem.W.nsIn K mainGlobals "max" = some none)
    (b_min : PySem.W.nsIn K mainGlobals "min" = some none)
    (b_set : PySem.W.nsIn K mainGlobals "set" = some none)
    (cTIE : PySem.W.nsIn K mainGlobals "TIE" = some (some (.str "+" tT)))
    (cMOST : PySem.W.nsIn K mainGlobals "MOST_PIECES" = some (some (.int 8 tM)))
    (c_Rule : PySem.W.nsIn K mainGlobals "Rule" = some (some (.ref aRule)))
    (c_Tongue : PySem.W.nsIn K mainGlobals "Tongue" = some (some (.ref aTongue)))
    (c_Kind : PySem.W.nsIn K mainGlobals "Kind" = some (some (.ref aKind)))
    (c_SayError : PySem.W.nsIn K mainGlobals "SayError" = some (some (.ref aSayError)))
    (c_BadRule : PySem.W.nsIn K mainGlobals "BadRule" = some (some (.ref aBadRule)))
    (c_BadBound : PySem.W.nsIn K mainGlobals "BadBound" = some (some (.ref aBadBound)))
    (c_BadMelt : PySem.W.nsIn K mainGlobals "BadMelt" = some (some (.ref aBadMelt)))
    (c_Twice : PySem.W.nsIn K mainGlobals "Twice" = some (some (.ref aTwice)))
    (c_BadKind : PySem.W.nsIn K mainGlobals "BadKind" = some (some (.ref aBadKind)))
    (c_SIGNS : PySem.W.nsIn K mainGlobals "SIGNS" = some (some (.ref aSIGNS)))
    (l_SIGNS : K.lookup aSIGNS = some ⟨.type "tuple", odSIGNS, .seq rSIGNS nSIGNS, slSIGNS⟩)
    (v_SIGNS : rSIGNS.toList = [.str "Q" tSIGNSQ, .str "N" tSIGNSN, .str "W" tSIGNSW, .str "U" tSIGNSU, .str "R" tSIGNSR, .str "K" tSIGNSK])
    (c_TIMES_SIGNS : PySem.W.nsIn K mainGlobals "TIMES_SIGNS" = some (some (.ref aTIMES_SIGNS)))
    (l_TIMES_SIGNS : K.lookup aTIMES_SIGNS = some ⟨.type "tuple", odTIMES_SIGNS, .seq rTIMES_SIGNS nTIMES_SIGNS, slTIMES_SIGNS⟩)
    (v_TIMES_SIGNS : rTIMES_SIGNS.toList = [.str "Q" tTIMES_SIGNSQ, .str "N" tTIMES_SIGNSN, .str "W" tTIMES_SIGNSW, .str "U" tTIMES_SIGNSU])
    (c_REST_SIGNS : PySem.W.nsIn K mainGlobals "REST_SIGNS" = some (some (.ref aREST_SIGNS)))
    (l_REST_SIGNS : K.lookup aREST_SIGNS = some ⟨.type "tuple", odREST_SIGNS, .seq rREST_SIGNS nREST_SIGNS, slREST_SIGNS⟩)
    (v_REST_SIGNS : rREST_SIGNS.toList = [.str "R" tREST_SIGNSR, .str "K" tREST_SIGNSK])
    (gs : PySem.W.specialIn K (.builtin "object.__class__") "__get__" = some (some (.builtin "getset_descriptor.__get__")))
    (tk : PySem.W.takesIn K (.builtin "object.__class__") = some true)
    (xeBadRule : PySem.W.excIn K aBadRule [.type "ValueError", .type "Exception", .type "BaseException", .type "object"] "ValueError.__new__" = true)
    (gaBadRule : PySem.W.findIn K (.ref aBadRule) "__getattribute__" = some (some (.builtin "BaseException.__getattribute__")))
    (gtBadRule : PySem.W.findIn K (.ref aBadRule) "__getattr__" = some none)
    (gcBadRule : PySem.W.findIn K (.ref aBadRule) "__class__" = some (some (.builtin "object.__class__")))
    (obBadRule : PySem.W.mroIn K aBadRule (.type "object") = some true)
    (xeBadKind : PySem.W.excIn K aBadKind [.type "ValueError", .type "Exception", .type "BaseException", .type "object"] "ValueError.__new__" = true)
    (gaBadKind : PySem.W.findIn K (.ref aBadKind) "__getattribute__" = some (some (.builtin "BaseException.__getattribute__")))
    (gtBadKind : PySem.W.findIn K (.ref aBadKind) "__getattr__" = some none)
    (gcBadKind : PySem.W.findIn K (.ref aBadKind) "__class__" = some (some (.builtin "object.__class__")))
    (obBadKind : PySem.W.mroIn K aBadKind (.type "object") = some true)
    (k1 : PySem.W.kitOne K (.type "list") (.type "list") = some true)
    (k2 : PySem.W.kitOne K (.type "tuple") (.type "tuple") = some true)
    (k3 : PySem.W.kitOne K (.type "str") (.type "str") = some true)
    (k4 : PySem.W.kitOne K (.type "int") (.type "int") = some true)
    (k5 : PySem.W.kitOne K (.type "int") (.type "bool") = some false)
    (kkRule : PySem.W.kitOne K (.ref aRule) (.ref aRule) = some true)
    (pgRule : PySem.W.plainGet K aRule Str.empty = true)
    (hdRule : PySem.W.hasDictIn K aRule = true)
    (poRule : PySem.W.plainOver K aRule = true)
    (saRule : PySem.W.findIn K (.ref aRule) "__setattr__" = some (some (.builtin "object.__setattr__")))
    (rcRule : PySem.W.findIn K (.ref aRule) "__class__" = some (some (.builtin "object.__class__")))
    (rmRule : PySem.W.mroIn K aRule (.type "object") = some true)
    (n_low : PySem.W.findIn K (.ref aRule) "low" = some none)
    (n_high : PySem.W.findIn K (.ref aRule) "high" = some none)
    (n_base : PySem.W.findIn K (.ref aRule) "base" = some none)
    (n_first : PySem.W.findIn K (.ref aRule) "first" = some none)
    (n_last : PySem.W.findIn K (.ref aRule) "last" = some none)
    (n_pieces : PySem.W.findIn K (.ref aRule) "pieces" = some none)
    (mkRule : PySem.W.makesIn K aRule = true)
    (kcRule : PySem.W.keepIn K (.ref aRule) = true)
    (kkTongue : PySem.W.kitOne K (.ref aTongue) (.ref aTongue) = some true)
    (pgTongue : PySem.W.plainGet K aTongue Str.empty = true)
    (hdTongue : PySem.W.hasDictIn K aTongue = true)
    (poTongue : PySem.W.plainOver K aTongue = true)
    (saTongue : PySem.W.findIn K (.ref aTongue) "__setattr__" = some (some (.builtin "object.__setattr__")))
    (rcTongue : PySem.W.findIn K (.ref aTongue) "__class__" = some (some (.builtin "object.__class__")))
    (rmTongue : PySem.W.mroIn K aTongue (.type "object") = some true)
    (n_bound : PySem.W.findIn K (.ref aTongue) "bound" = some none)
    (n_rules : PySem.W.findIn K (.ref aTongue) "rules" = some none)
    (n_melts : PySem.W.findIn K (.ref aTongue) "melts" = some none)
    (n_kinds : PySem.W.findIn K (.ref aTongue) "kinds" = some none)
    (mkTongue : PySem.W.makesIn K aTongue = true)
    (kcTongue : PySem.W.keepIn K (.ref aTongue) = true)
    (kkKind : PySem.W.kitOne K (.ref aKind) (.ref aKind) = some true)
    (pgKind : PySem.W.plainGet K aKind Str.empty = true)
    (hdKind : PySem.W.hasDictIn K aKind = true)
    (poKind : PySem.W.plainOver K aKind = true)
    (saKind : PySem.W.findIn K (.ref aKind) "__setattr__" = some (some (.builtin "object.__setattr__")))
    (rcKind : PySem.W.findIn K (.ref aKind) "__class__" = some (some (.builtin "object.__class__")))
    (rmKind : PySem.W.mroIn K aKind (.type "object") = some true)
    (n_title : PySem.W.findIn K (.ref aKind) "title" = some none)
    (n_ending : PySem.W.findIn K (.ref aKind) "ending" = some none)
    (n_turns : PySem.W.findIn K (.ref aKind) "turns" = some none)
    (mkKind : PySem.W.makesIn K aKind = true)
    (kcKind : PySem.W.keepIn K (.ref aKind) = true)
    (a13 : PySem.W.nsIn K mainGlobals "small_letters" = some (some (.ref f13)))
    (l13 : K.lookup f13 = some ⟨oc13, od13, .func (PySem.W.fnOf "small_letters" "small_letters" (defArgs (top 13)) (defBody (top 13)) (defScope (top 13)) .none kV13 dc13 pm13 an13 (.ref cc13) ct13), sl13⟩)
    (c13 : PySem.W.codeIn K (.ref cc13) "small_letters" = true)
    (k13_ : PySem.W.keepIn K (.ref f13) = true)
    (t13_ : PySem.W.tabIn K "small_letters" = some (cc13, t13))
    (d13 : PySem.W.codeHdIn K cc13 t13 = true)
    (a14 : PySem.W.nsIn K mainGlobals "is_word" = some (some (.ref f14)))
    (l14 : K.lookup f14 = some ⟨oc14, od14, .func (PySem.W.fnOf "is_word" "is_word" (defArgs (top 14)) (defBody (top 14)) (defScope (top 14)) .none kV14 dc14 pm14 an14 cd14 ct14), sl14⟩)
    (c14 : PySem.W.codeIn K cd14 "is_word" = true)
    (k14_ : PySem.W.keepIn K (.ref f14) = true)
    (a16 : PySem.W.nsIn K mainGlobals "check_numbers" = some (some (.ref f16)))
    (l16 : K.lookup f16 = some ⟨oc16, od16, .func (PySem.W.fnOf "check_numbers" "check_numbers" (defArgs (top 16)) (defBody (top 16)) (defScope (top 16)) .none kV16 dc16 pm16 an16 cd16 ct16), sl16⟩)
    (c16 : PySem.W.codeIn K cd16 "check_numbers" = true)
    (k16_ : PySem.W.keepIn K (.ref f16) = true)
    (a17 : PySem.W.nsIn K mainGlobals "check_pieces" = some (some (.ref f17)))
    (l17 : K.lookup f17 = some ⟨oc17, od17, .func (PySem.W.fnOf "check_pieces" "check_pieces" (defArgs (top 17)) (defBody (top 17)) (defScope (top 17)) .none kV17 dc17 pm17 an17 (.ref cc17) ct17), sl17⟩)
    (c17 : PySem.W.codeIn K (.ref cc17) "check_pieces" = true)
    (k17_ : PySem.W.keepIn K (.ref f17) = true)
    (t17_ : PySem.W.tabIn K "check_pieces" = some (cc17, t17))
    (d17 : PySem.W.codeHdIn K cc17 t17 = true)
    (a18 : PySem.W.nsIn K mainGlobals "is_piece" = some (some (.ref f18)))
    (l18 : K.lookup f18 = some ⟨oc18, od18, .func (PySem.W.fnOf "is_piece" "is_piece" (defArgs (top 18)) (defBody (top 18)) (defScope (top 18)) .none kV18 dc18 pm18 an18 cd18 ct18), sl18⟩)
    (c18 : PySem.W.codeIn K cd18 "is_piece" = true)
    (k18_ : PySem.W.keepIn K (.ref f18) = true)
    (a19 : PySem.W.nsIn K mainGlobals "ties_fit" = some (some (.ref f19)))
    (l19 : K.lookup f19 = some ⟨oc19, od19, .func (PySem.W.fnOf "ties_fit" "ties_fit" (defArgs (top 19)) (defBody (top 19)) (defScope (top 19)) .none kV19 dc19 pm19 an19 (.ref cc19) ct19), sl19⟩)
    (c19 : PySem.W.codeIn K (.ref cc19) "ties_fit" = true)
    (k19_ : PySem.W.keepIn K (.ref f19) = true)
    (t19_ : PySem.W.tabIn K "ties_fit" = some (cc19, t19))
    (d19 : PySem.W.codeHdIn K cc19 t19 = true)
    (a20 : PySem.W.nsIn K mainGlobals "check_telling" = some (some (.ref f20)))
    (l20 : K.lookup f20 = some ⟨oc20, od20, .func (PySem.W.fnOf "check_telling" "check_telling" (defArgs (top 20)) (defBody (top 20)) (defScope (top 20)) .none kV20 dc20 pm20 an20 cd20 ct20), sl20⟩)
    (c20 : PySem.W.codeIn K cd20 "check_telling" = true)
    (k20_ : PySem.W.keepIn K (.ref f20) = true)
    (a21 : PySem.W.nsIn K mainGlobals "has_any" = some (some (.ref f21)))
    (l21 : K.lookup f21 = some ⟨oc21, od21, .func (PySem.W.fnOf "has_any" "has_any" (defArgs (top 21)) (defBody (top 21)) (defScope (top 21)) .none kV21 dc21 pm21 an21 (.ref cc21) ct21), sl21⟩)
    (c21 : PySem.W.codeIn K (.ref cc21) "has_any" = true)
    (k21_ : PySem.W.keepIn K (.ref f21) = true)
    (t21_ : PySem.W.tabIn K "has_any" = some (cc21, t21))
    (d21 : PySem.W.codeHdIn K cc21 t21 = true)
    (a23 : PySem.W.nsIn K mainGlobals "are_word_pairs" = some (some (.ref f23)))
    (l23 : K.lookup f23 = some ⟨oc23, od23, .func (PySem.W.fnOf "are_word_pairs" "are_word_pairs" (defArgs (top 23)) (defBody (top 23)) (defScope (top 23)) .none kV23 dc23 pm23 an23 (.ref cc23) ct23), sl23⟩)
    (c23 : PySem.W.codeIn K (.ref cc23) "are_word_pairs" = true)
    (k23_ : PySem.W.keepIn K (.ref f23) = true)
    (t23_ : PySem.W.tabIn K "are_word_pairs" = some (cc23, t23))
    (d23 : PySem.W.codeHdIn K cc23 t23 = true)
    (a24 : PySem.W.nsIn K mainGlobals "is_word_pair" = some (some (.ref f24)))
    (l24 : K.lookup f24 = some ⟨oc24, od24, .func (PySem.W.fnOf "is_word_pair" "is_word_pair" (defArgs (top 24)) (defBody (top 24)) (defScope (top 24)) .none kV24 dc24 pm24 an24 cd24 ct24), sl24⟩)
    (c24 : PySem.W.codeIn K cd24 "is_word_pair" = true)
    (k24_ : PySem.W.keepIn K (.ref f24) = true)
    (a27 : PySem.W.nsIn K mainGlobals "own_list" = some (some (.ref f27)))
    (l27 : K.lookup f27 = some ⟨oc27, od27, .func (PySem.W.fnOf "own_list" "own_list" (defArgs (top 27)) (defBody (top 27)) (defScope (top 27)) .none kV27 dc27 pm27 an27 cd27 ct27), sl27⟩)
    (c27 : PySem.W.codeIn K cd27 "own_list" = true)
    (k27_ : PySem.W.keepIn K (.ref f27) = true)
    (a28 : PySem.W.nsIn K mainGlobals "is_melt" = some (some (.ref f28)))
    (l28 : K.lookup f28 = some ⟨oc28, od28, .func (PySem.W.fnOf "is_melt" "is_melt" (defArgs (top 28)) (defBody (top 28)) (defScope (top 28)) .none kV28 dc28 pm28 an28 cd28 ct28), sl28⟩)
    (c28 : PySem.W.codeIn K cd28 "is_melt" = true)
    (k28_ : PySem.W.keepIn K (.ref f28) = true)
    (a29 : PySem.W.nsIn K mainGlobals "check_titles" = some (some (.ref f29)))
    (l29 : K.lookup f29 = some ⟨oc29, od29, .func (PySem.W.fnOf "check_titles" "check_titles" (defArgs (top 29)) (defBody (top 29)) (defScope (top 29)) .none kV29 dc29 pm29 an29 cd29 ct29), sl29⟩)
    (c29 : PySem.W.codeIn K cd29 "check_titles" = true)
    (k29_ : PySem.W.keepIn K (.ref f29) = true)
    (a33 : PySem.W.nsIn K mainGlobals "tongue_text" = some (some (.ref f33)))
    (l33 : K.lookup f33 = some ⟨oc33, od33, .func (PySem.W.fnOf "tongue_text" "tongue_text" (defArgs (top 33)) (defBody (top 33)) (defScope (top 33)) .none kV33 dc33 pm33 an33 cd33 ct33), sl33⟩)
    (c33 : PySem.W.codeIn K cd33 "tongue_text" = true)
    (k33_ : PySem.W.keepIn K (.ref f33) = true)
    (a34 : PySem.W.nsIn K mainGlobals "rule_text" = some (some (.ref f34)))
    (l34 : K.lookup f34 = some ⟨oc34, od34, .func (PySem.W.fnOf "rule_text" "rule_text" (defArgs (top 34)) (defBody (top 34)) (defScope (top 34)) .none kV34 dc34 pm34 an34 cd34 ct34), sl34⟩)
    (c34 : PySem.W.codeIn K cd34 "rule_text" = true)
    (k34_ : PySem.W.keepIn K (.ref f34) = true)
    (a35 : PySem.W.nsIn K mainGlobals "is_word_rule" = some (some (.ref f35)))
    (l35 : K.lookup f35 = some ⟨oc35, od35, .func (PySem.W.fnOf "is_word_rule" "is_word_rule" (defArgs (top 35)) (defBody (top 35)) (defScope (top 35)) .none kV35 dc35 pm35 an35 cd35 ct35), sl35⟩)
    (c35 : PySem.W.codeIn K cd35 "is_word_rule" = true)
    (k35_ : PySem.W.keepIn K (.ref f35) = true)
    (a37 : PySem.W.nsIn K mainGlobals "_law_begin" = some (some (.ref f37)))
    (l37 : K.lookup f37 = some ⟨oc37, od37, .func (PySem.W.fnOf "_law_begin" "_law_begin" (defArgs (top 37)) (defBody (top 37)) (defScope (top 37)) .none kV37 dc37 pm37 an37 cd37 ct37), sl37⟩)
    (c37 : PySem.W.codeIn K cd37 "_law_begin" = true)
    (k37_ : PySem.W.keepIn K (.ref f37) = true)
    (a38 : PySem.W.nsIn K mainGlobals "_law_next" = some (some (.ref f38)))
    (l38 : K.lookup f38 = some ⟨oc38, od38, .func (PySem.W.fnOf "_law_next" "_law_next" (defArgs (top 38)) (defBody (top 38)) (defScope (top 38)) .none kV38 dc38 pm38 an38 cd38 ct38), sl38⟩)
    (c38 : PySem.W.codeIn K cd38 "_law_next" = true)
    (k38_ : PySem.W.keepIn K (.ref f38) = true)
    (a39 : PySem.W.nsIn K mainGlobals "_law_words" = some (some (.ref f39)))
    (l39 : K.lookup f39 = some ⟨oc39, od39, .func (PySem.W.fnOf "_law_words" "_law_words" (defArgs (top 39)) (defBody (top 39)) (defScope (top 39)) .none kV39 dc39 pm39 an39 cd39 ct39), sl39⟩)
    (c39 : PySem.W.codeIn K cd39 "_law_words" = true)
    (k39_ : PySem.W.keepIn K (.ref f39) = true)
    (a40 : PySem.W.nsIn K mainGlobals "_law_melt" = some (some (.ref f40)))
    (l40 : K.lookup f40 = some ⟨oc40, od40, .func (PySem.W.fnOf "_law_melt" "_law_melt" (defArgs (top 40)) (defBody (top 40)) (defScope (top 40)) .none kV40 dc40 pm40 an40 cd40 ct40), sl40⟩)
    (c40 : PySem.W.codeIn K cd40 "_law_melt" = true)
    (k40_ : PySem.W.keepIn K (.ref f40) = true)
    (a41 : PySem.W.nsIn K mainGlobals "_law_melts" = some (some (.ref f41)))
    (l41 : K.lookup f41 = some ⟨oc41, od41, .func (PySem.W.fnOf "_law_melts" "_law_melts" (defArgs (top 41)) (defBody (top 41)) (defScope (top 41)) .none kV41 dc41 pm41 an41 cd41 ct41), sl41⟩)
    (c41 : PySem.W.codeIn K cd41 "_law_melts" = true)
    (k41_ : PySem.W.keepIn K (.ref f41) = true)
    (a42 : PySem.W.nsIn K mainGlobals "_law_great" = some (some (.ref f42)))
    (l42 : K.lookup f42 = some ⟨oc42, od42, .func (PySem.W.fnOf "_law_great" "_law_great" (defArgs (top 42)) (defBody (top 42)) (defScope (top 42)) .none kV42 dc42 pm42 an42 cd42 ct42), sl42⟩)
    (c42 : PySem.W.codeIn K cd42 "_law_great" = true)
    (k42_ : PySem.W.keepIn K (.ref f42) = true)
    (a43 : PySem.W.nsIn K mainGlobals "_law_items" = some (some (.ref f43)))
    (l43 : K.lookup f43 = some ⟨oc43, od43, .func (PySem.W.fnOf "_law_items" "_law_items" (defArgs (top 43)) (defBody (top 43)) (defScope (top 43)) .none kV43 dc43 pm43 an43 cd43 ct43), sl43⟩)
    (c43 : PySem.W.codeIn K cd43 "_law_items" = true)
    (k43_ : PySem.W.keepIn K (.ref f43) = true)
    (a44 : PySem.W.nsIn K mainGlobals "_law_rule" = some (some (.ref f44)))
    (l44 : K.lookup f44 = some ⟨oc44, od44, .func (PySem.W.fnOf "_law_rule" "_law_rule" (defArgs (top 44)) (defBody (top 44)) (defScope (top 44)) .none kV44 dc44 pm44 an44 cd44 ct44), sl44⟩)
    (c44 : PySem.W.codeIn K cd44 "_law_rule" = true)
    (k44_ : PySem.W.keepIn K (.ref f44) = true)
    (a45 : PySem.W.nsIn K mainGlobals "_law_kind" = some (some (.ref f45)))
    (l45 : K.lookup f45 = some ⟨oc45, od45, .func (PySem.W.fnOf "_law_kind" "_law_kind" (defArgs (top 45)) (defBody (top 45)) (defScope (top 45)) .none kV45 dc45 pm45 an45 cd45 ct45), sl45⟩)
    (c45 : PySem.W.codeIn K cd45 "_law_kind" = true)
    (k45_ : PySem.W.keepIn K (.ref f45) = true)
    (a46 : PySem.W.nsIn K mainGlobals "_law_data" = some (some (.ref f46)))
    (l46 : K.lookup f46 = some ⟨oc46, od46, .func (PySem.W.fnOf "_law_data" "_law_data" (defArgs (top 46)) (defBody (top 46)) (defScope (top 46)) .none kV46 dc46 pm46 an46 cd46 ct46), sl46⟩)
    (c46 : PySem.W.codeIn K cd46 "_law_data" = true)
    (k46_ : PySem.W.keepIn K (.ref f46) = true)
    (a47 : PySem.W.nsIn K mainGlobals "_law_tongue" = some (some (.ref f47)))
    (l47 : K.lookup f47 = some ⟨oc47, od47, .func (PySem.W.fnOf "_law_tongue" "_law_tongue" (defArgs (top 47)) (defBody (top 47)) (defScope (top 47)) .none kV47 dc47 pm47 an47 cd47 ct47), sl47⟩)
    (c47 : PySem.W.codeIn K cd47 "_law_tongue" = true)
    (k47_ : PySem.W.keepIn K (.ref f47) = true)
    (a48 : PySem.W.nsIn K mainGlobals "_law_rule_row" = some (some (.ref f48)))
    (l48 : K.lookup f48 = some ⟨oc48, od48, .func (PySem.W.fnOf "_law_rule_row" "_law_rule_row" (defArgs (top 48)) (defBody (top 48)) (defScope (top 48)) .none kV48 dc48 pm48 an48 cd48 ct48), sl48⟩)
    (c48 : PySem.W.codeIn K cd48 "_law_rule_row" = true)
    (k48_ : PySem.W.keepIn K (.ref f48) = true)
    (a49 : PySem.W.nsIn K mainGlobals "_law_rows" = some (some (.ref f49)))
    (l49 : K.lookup f49 = some ⟨oc49, od49, .func (PySem.W.fnOf "_law_rows" "_law_rows" (defArgs (top 49)) (defBody (top 49)) (defScope (top 49)) .none kV49 dc49 pm49 an49 cd49 ct49), sl49⟩)
    (c49 : PySem.W.codeIn K cd49 "_law_rows" = true)
    (k49_ : PySem.W.keepIn K (.ref f49) = true)
    (a50 : PySem.W.nsIn K mainGlobals "_law_whole" = some (some (.ref f50)))
    (l50 : K.lookup f50 = some ⟨oc50, od50, .func (PySem.W.fnOf "_law_whole" "_law_whole" (defArgs (top 50)) (defBody (top 50)) (defScope (top 50)) .none kV50 dc50 pm50 an50 cd50 ct50), sl50⟩)
    (c50 : PySem.W.codeIn K cd50 "_law_whole" = true)
    (k50_ : PySem.W.keepIn K (.ref f50) = true)
    (a51 : PySem.W.nsIn K mainGlobals "_law_is_rule" = some (some (.ref f51)))
    (l51 : K.lookup f51 = some ⟨oc51, od51, .func (PySem.W.fnOf "_law_is_rule" "_law_is_rule" (defArgs (top 51)) (defBody (top 51)) (defScope (top 51)) .none kV51 dc51 pm51 an51 cd51 ct51), sl51⟩)
    (c51 : PySem.W.codeIn K cd51 "_law_is_rule" = true)
    (k51_ : PySem.W.keepIn K (.ref f51) = true)
    (a52 : PySem.W.nsIn K mainGlobals "_law_is_tongue" = some (some (.ref f52)))
    (l52 : K.lookup f52 = some ⟨oc52, od52, .func (PySem.W.fnOf "_law_is_tongue" "_law_is_tongue" (defArgs (top 52)) (defBody (top 52)) (defScope (top 52)) .none kV52 dc52 pm52 an52 cd52 ct52), sl52⟩)
    (c52 : PySem.W.codeIn K cd52 "_law_is_tongue" = true)
    (k52_ : PySem.W.keepIn K (.ref f52) = true)
    (a53 : PySem.W.nsIn K mainGlobals "law" = some (some (.ref f53)))
    (l53 : K.lookup f53 = some ⟨oc53, od53, .func (PySem.W.fnOf "law" "law" (defArgs (top 53)) (defBody (top 53)) (defScope (top 53)) .none kV53 dc53 pm53 an53 cd53 ct53), sl53⟩)
    (c53 : PySem.W.codeIn K cd53 "law" = true)
    (k53_ : PySem.W.keepIn K (.ref f53) = true)
    (aR : PySem.W.findIn K (.ref aRule) "__init__" = some (some (.ref fR)))
    (lR : K.lookup fR = some ⟨ocR, odR, .func (PySem.W.fnOf "__init__" "Rule.__init__" (defArgs sInit) (defBody sInit) (defScope sInit) .none kVR dcR pmR anR cdR ctR), slR⟩)
    (cR : PySem.W.codeIn K cdR "Rule.__init__" = true)
    (kR_ : PySem.W.keepIn K (.ref fR) = true)
    (iR : PySem.W.isFn K (.ref fR) = true)
    (aJ : PySem.W.findIn K (.ref aKind) "__init__" = some (some (.ref fJ)))
    (lJ : K.lookup fJ = some ⟨ocJ, odJ, .func (PySem.W.fnOf "__init__" "Kind.__init__" (defArgs sKI) (defBody sKI) (defScope sKI) .none kVJ dcJ pmJ anJ cdJ ctJ), slJ⟩)
    (cJ : PySem.W.codeIn K cdJ "Kind.__init__" = true)
    (kJ_ : PySem.W.keepIn K (.ref fJ) = true)
    (iJ : PySem.W.isFn K (.ref fJ) = true)
    (aI : PySem.W.findIn K (.ref aTongue) "__init__" = some (some (.ref fI)))
    (lI : K.lookup fI = some ⟨ocI, odI, .func (PySem.W.fnOf "__init__" "Tongue.__init__" (defArgs sTI) (defBody sTI) (defScope sTI) (.ref dT) kVI dcI pmI anI (.ref ccI) ctI), slI⟩)
    (cI : PySem.W.codeIn K (.ref ccI) "Tongue.__init__" = true)
    (kI_ : PySem.W.keepIn K (.ref fI) = true)
    (dI : PySem.W.codeHdIn K ccI tI = true)
    (lT : K.lookup dT = some ⟨.type "tuple", odT, .seq rT nT, slT⟩)
    (vT : rT = #[Value.none, Value.none])
    (iI : PySem.W.isFn K (.ref fI) = true) :
    ∃ fd : FuncData, (∀ (s : Shared) (v : Value), BindsTo s fd ⟨[v], []⟩ [("_law_script", v)]) ∧ ∀ base : Heap, K.In base → base.Ns mainGlobals mg → BltK base →
      FnOk P w K mg base CX0 11 fa fd ["_law_script"] (spLaw K ⟨aRule, aTongue, aKind, aSayError, aBadRule, aBadBound, aBadMelt, aTwice, aBadKind, aSIGNS, aTIMES_SIGNS, aREST_SIGNS, t13, t17, t19, t21, tI, t23⟩) := by
  have e := hfa.symm.trans (PySem.W.mg_of X G a53)
  cases e
  generalize hA : (⟨aRule, aTongue, aKind, aSayError, aBadRule, aBadBound, aBadMelt, aTwice, aBadKind, aSIGNS, aTIMES_SIGNS, aREST_SIGNS, t13, t17, t19, t21, tI, t23⟩ : Ad) = A
  have T : Txt K mg A := by
    subst hA
    exact {
      b_len := PySem.W.mg_none_of X G b_len
      b_isinstance := PySem.W.mg_none_of X G b_isinstance
      b_str := PySem.W.mg_none_of X G b_str
      b_int := PySem.W.mg_none_of X G b_int
      b_bool := PySem.W.mg_none_of X G b_bool
      b_list := PySem.W.mg_none_of X G b_list
      b_tuple := PySem.W.mg_none_of X G b_tuple
      b_all := PySem.W.mg_none_of X G b_all
      b_any := PySem.W.mg_none_of X G b_any
      b_range := PySem.W.mg_none_of X G b_range
      b_zip := PySem.W.mg_none_of X G b_zip
      b_max := PySem.W.mg_none_of X G b_max
      b_min := PySem.W.mg_none_of X G b_min
      b_set := PySem.W.mg_none_of X G b_set
      c_TIE' := ⟨_, PySem.W.mg_of X G cTIE⟩
      c_MOST' := ⟨_, PySem.W.mg_of X G cMOST⟩
      c_SIGNS := PySem.W.mg_of X G c_SIGNS
      c_TIMES_SIGNS := PySem.W.mg_of X G c_TIMES_SIGNS
      c_REST_SIGNS := PySem.W.mg_of X G c_REST_SIGNS
      s_SIGNS := sq_mk l_SIGNS (by decide) (by rw [v_SIGNS]; exact .cons ⟨_, rfl⟩ (.cons ⟨_, rfl⟩ (.cons ⟨_, rfl⟩ (.cons ⟨_, rfl⟩ (.cons ⟨_, rfl⟩ (.cons ⟨_, rfl⟩ (.nil)))))))
      s_TIMES := sq_mk l_TIMES_SIGNS (by decide) (by rw [v_TIMES_SIGNS]; exact .cons ⟨_, rfl⟩ (.cons ⟨_, rfl⟩ (.cons ⟨_, rfl⟩ (.cons ⟨_, rfl⟩ (.nil)))))
      s_REST := sq_mk l_REST_SIGNS (by decide) (by rw [v_REST_SIGNS]; exact .cons ⟨_, rfl⟩ (.cons ⟨_, rfl⟩ (.nil)))
      c_Rule := PySem.W.mg_of X G c_Rule
      c_Tongue := PySem.W.mg_of X G c_Tongue
      c_Kind := PySem.W.mg_of X G c_Kind
      c_SayError := PySem.W.mg_of X G c_SayError
      c_BadRule := PySem.W.mg_of X G c_BadRule
      c_BadBound := PySem.W.mg_of X G c_BadBound
      c_BadMelt := PySem.W.mg_of X G c_BadMelt
      c_Twice := PySem.W.mg_of X G c_Twice
      c_BadKind := PySem.W.mg_of X G c_BadKind
      x_BadRule := ⟨xeBadRule, gaBadRule, gtBadRule, gcBadRule, gs, tk, obBadRule⟩
      x_BadKind := ⟨xeBadKind, gaBadKind, gtBadKind, gcBadKind, gs, tk, obBadKind⟩
      k_rule := kkRule
      k_kind := kkKind
      k_tong := kkTongue
      k_list := k1
      k_tup := k2
      k_str := k3
      k_ii := k4
      k_ib := k5
      clR := ⟨pgRule, hdRule, poRule, saRule⟩
      clRc := rcRule
      clRm := rmRule
      cl := ⟨pgTongue, hdTongue, poTongue, saTongue⟩
      clc := rcTongue
      clm := rmTongue
      clK := ⟨pgKind, hdKind, poKind, saKind⟩
      clKc := rcKind
      clKm := rmKind
      n_low := n_low
      n_high := n_high
      n_base := n_base
      n_first := n_first
      n_last := n_last
      n_pieces := n_pieces
      n_bound := n_bound
      n_rules := n_rules
      n_melts := n_melts
      n_kinds := n_kinds
      n_title := n_title
      n_ending := n_ending
      n_turns := n_turns }
  let D13 : DSmall K mg := mkDf ["text", "least", "most"] X G a13 l13 c13 k13_ (fun us hl => match us, hl with | [_, _, _], _ => rfl)
  let D14 : DWord K mg := mkDf ["text"] X G a14 l14 c14 k14_ (fun us hl => match us, hl with | [_], _ => rfl)
  let D16 : DNums K mg := mkDf ["rule"] X G a16 l16 c16 k16_ (fun us hl => match us, hl with | [_], _ => rfl)
  let D17 : DPieces K mg := mkDf ["pieces"] X G a17 l17 c17 k17_ (fun us hl => match us, hl with | [_], _ => rfl)
  let D18 : DPiece K mg := mkDf ["text"] X G a18 l18 c18 k18_ (fun us hl => match us, hl with | [_], _ => rfl)
  let D19 : DTies K mg := mkDf ["pieces"] X G a19 l19 c19 k19_ (fun us hl => match us, hl with | [_], _ => rfl)
  let D20 : DTell K mg := mkDf ["rule"] X G a20 l20 c20 k20_ (fun us hl => match us, hl with | [_], _ => rfl)
  let D21 : DHas K mg := mkDf ["rule", "signs"] X G a21 l21 c21 k21_ (fun us hl => match us, hl with | [_, _], _ => rfl)
  let D23 : DWPs K mg := mkDf ["pairs"] X G a23 l23 c23 k23_ (fun us hl => match us, hl with | [_], _ => rfl)
  let D24 : DWPr K mg := mkDf ["pair"] X G a24 l24 c24 k24_ (fun us hl => match us, hl with | [_], _ => rfl)
  let D27 : DOwn K mg := mkDf ["given"] X G a27 l27 c27 k27_ (fun us hl => match us, hl with | [_], _ => rfl)
  let D28 : DMelt K mg := mkDf ["melt"] X G a28 l28 c28 k28_ (fun us hl => match us, hl with | [_], _ => rfl)
  let D29 : DTit K mg := mkDf ["kinds"] X G a29 l29 c29 k29_ (fun us hl => match us, hl with | [_], _ => rfl)
  let D33 : DTT K mg := mkDf ["tongue"] X G a33 l33 c33 k33_ (fun us hl => match us, hl with | [_], _ => rfl)
  let D34 : DRTx K mg := mkDf ["rule"] X G a34 l34 c34 k34_ (fun us hl => match us, hl with | [_], _ => rfl)
  let D35 : DWR K mg := mkDf ["rule"] X G a35 l35 c35 k35_ (fun us hl => match us, hl with | [_], _ => rfl)
  let D37 : DBegin K mg := mkDf ["_law_script"] X G a37 l37 c37 k37_ (fun us hl => match us, hl with | [_], _ => rfl)
  let D38 : DNext K mg := mkDf ["_law_script", "_law_at"] X G a38 l38 c38 k38_ (fun us hl => match us, hl with | [_, _], _ => rfl)
  let D39 : DWords K mg := mkDf ["_law_script", "_law_at", "_law_many"] X G a39 l39 c39 k39_ (fun us hl => match us, hl with | [_, _, _], _ => rfl)
  let D40 : DLM K mg := mkDf ["_law_script", "_law_at", "_law_words_here"] X G a40 l40 c40 k40_ (fun us hl => match us, hl with | [_, _, _], _ => rfl)
  let D41 : DLMs K mg := mkDf ["_law_script", "_law_at", "_law_words_here", "_law_most"] X G a41 l41 c41 k41_ (fun us hl => match us, hl with | [_, _, _, _], _ => rfl)
  let D42 : DGr K mg := mkDf ["_law_script", "_law_at"] X G a42 l42 c42 k42_ (fun us hl => match us, hl with | [_, _], _ => rfl)
  let D43 : DIt K mg := mkDf ["_law_script", "_law_at", "_law_words_here", "_law_signs"] X G a43 l43 c43 k43_ (fun us hl => match us, hl with | [_, _, _, _], _ => rfl)
  let D44 : DRu K mg := mkDf ["_law_script", "_law_at", "_law_words_here", "_law_small"] X G a44 l44 c44 k44_ (fun us hl => match us, hl with | [_, _, _, _], _ => rfl)
  let D45 : DKd K mg := mkDf ["_law_script", "_law_at", "_law_words_here", "_law_k"] X G a45 l45 c45 k45_ (fun us hl => match us, hl with | [_, _, _, _], _ => rfl)
  let D46 : DDa K mg := mkDf ["_law_script", "_law_at"] X G a46 l46 c46 k46_ (fun us hl => match us, hl with | [_, _], _ => rfl)
  let D47 : DTg K mg := mkDf ["_law_data_here"] X G a47 l47 c47 k47_ (fun us hl => match us, hl with | [_], _ => rfl)
  let D48 : DRR K mg := mkDf ["_law_rule_here"] X G a48 l48 c48 k48_ (fun us hl => match us, hl with | [_], _ => rfl)
  let D49 : DRs K mg := mkDf ["_law_data_here"] X G a49 l49 c49 k49_ (fun us hl => match us, hl with | [_], _ => rfl)
  let D50 : DWhole K mg := mkDf ["_law_found"] X G a50 l50 c50 k50_ (fun us hl => match us, hl with | [_], _ => rfl)
  let D51 : DIR K mg := mkDf ["_law_rule_here", "_law_due"] X G a51 l51 c51 k51_ (fun us hl => match us, hl with | [_, _], _ => rfl)
  let D52 : DIT K mg := mkDf ["_law_tongue_here", "_law_data_here"] X G a52 l52 c52 k52_ (fun us hl => match us, hl with | [_, _], _ => rfl)
  let D53 : DLaw K mg := mkDf ["_law_script"] X G a53 l53 c53 k53_ (fun us hl => match us, hl with | [_], _ => rfl)
  let DI : DTong K := ⟨fI, _, .ref ccI, ⟨ocI, odI, .ref dT, kVI, dcI, pmI, anI, ctI, slI, rfl, lI, cI⟩, kI_⟩
  let DJ : DKI K := ⟨fJ, _, cdJ, ⟨ocJ, odJ, kVJ, dcJ, pmJ, anJ, ctJ, slJ, rfl, lJ, cJ⟩, kJ_, .all (fun us hl => match us, hl with | [_, _, _, _], _ => rfl)⟩
  let DR : DInit K := ⟨fR, _, cdR, ⟨ocR, odR, kVR, dcR, pmR, anR, ctR, slR, rfl, lR, cR⟩, kR_, .all (fun us hl => match us, hl with | [_, _, _, _, _, _, _], _ => rfl)⟩
  refine ⟨D53.fd, fun s v => .of_eq rfl, fun base _ _ hB => ?_⟩
  have e1 : A.tSL = t13 := by rw [← hA]
  have ctSL_ : CodeK K D13.cdv A.tSL := by rw [e1]; exact codeK_mk d13
  have e2 : A.tCP = t17 := by rw [← hA]
  have ctCP_ : CodeK K D17.cdv A.tCP := by rw [e2]; exact codeK_mk d17
  have e3 : A.tTF = t19 := by rw [← hA]
  have ctTF_ : CodeK K D19.cdv A.tTF := by rw [e3]; exact codeK_mk d19
  have e4 : A.tHA = t21 := by rw [← hA]
  have ctHA_ : CodeK K D21.cdv A.tHA := by rw [e4]; exact codeK_mk d21
  have e5 : A.tTI = tI := by rw [← hA]
  have ctTI_ : CodeK K DI.cdv A.tTI := by rw [e5]; exact codeK_mk dI
  have e6 : A.tWP = t23 := by rw [← hA]
  have ctWP_ : CodeK K D23.cdv A.tWP := by rw [e6]; exact codeK_mk d23
  have eR : A.Rule = aRule := by rw [← hA]
  have eT : A.Tongue = aTongue := by rw [← hA]
  have eK : A.Kind = aKind := by rw [← hA]
  have MR : Mk K A.Rule DR.f := by rw [eR]; exact ⟨mkRule, aR, iR, kcRule⟩
  have MT : Mk K A.Tongue DI.f := by rw [eT]; exact ⟨mkTongue, aI, iI, kcTongue⟩
  have MK : Mk K A.Kind DJ.f := by rw [eK]; exact ⟨mkKind, aJ, iJ, kcKind⟩
  have bd : Binds K DI.fd pTI [] := by subst vT; exact bd_tong lT
  have G13 : FnOk P w K mg base CX0 2 D13.f D13.fd ["text", "least", "most"] (spSmall A.tSL) := ok_small D13 ctSL_ hB T
  have G14 : FnOk P w K mg base CX0 3 D14.f D14.fd ["text"] (spWord A.tSL) := ok_word D14 D13 G13
  have G18 : FnOk P w K mg base CX0 4 D18.f D18.fd ["text"] (spPiece A.tSL) := ok_piece D18 D14 G14 T
  have G16 : FnOk P w K mg base (CXE P w) 1 D16.f D16.fd ["rule"] (spNums A) := ok_nums D16 T
  have G21 : FnOk P w K mg base CX0 2 D21.f D21.fd ["rule", "signs"] (spHas K A) := ok_has D21 ctHA_ hB T
  have G20 : FnOk P w K mg base (CXE P w) 3 D20.f D20.fd ["rule"] (spTell A) := ok_tell D20 D21 G21 T
  have G19 : FnOk P w K mg base CX0 2 D19.f D19.fd ["pieces"] (spTies A) := ok_ties D19 ctTF_ hB T
  have G17 : FnOk P w K mg base (CXE P w) 7 D17.f D17.fd ["pieces"] (spPieces A) := ok_pieces D17 ctCP_ hB D18 G18 D14 G14 D19 G19 T
  have GR : FnOk P w K mg base (CXE P w) 8 DR.f DR.fd ["self", "low", "high", "base", "first", "last", "pieces"] (spInit A) := ok_init DR D16 G16 D17 G17 D20 G20 T
  have G27 : FnOk P w K mg base CX0 1 D27.f D27.fd ["given"] (spOwn K) := ok_own D27 T
  have G28 : FnOk P w K mg base CX0 3 D28.f D28.fd ["melt"] (spMelt A) := ok_melt D28 D13 G13 T
  have G29 : FnOk P w K mg base CX0 1 D29.f D29.fd ["kinds"] (spTit A) := ok_tit D29 T
  have GI : FnOk P w K mg base CX0 6 DI.f DI.fd pTI (spTong A) := ok_tong DI ctTI_ hB D27 G27 D28 G28 D29 G29 T
  have G24 : FnOk P w K mg base CX0 4 D24.f D24.fd ["pair"] (spWPr A) := ok_wpr D24 D14 G14 T
  have G23 : FnOk P w K mg base CX0 6 D23.f D23.fd ["pairs"] (spWPs A) := ok_wps D23 ctWP_ hB D24 G24 T
  have GJ : FnOk P w K mg base (CXE P w) 7 DJ.f DJ.fd pKI (spKI A) := ok_ki DJ D13 G13 D14 G14 D23 G23 T
  have G35 : FnOk P w K mg base CX0 1 D35.f D35.fd ["rule"] (spWR A) := ok_wr D35 T
  have G34 : FnOk P w K mg base CX0 2 D34.f D34.fd ["rule"] (spRTx A) := ok_rtx D34 D35 G35 T
  have G33 : FnOk P w K mg base CX0 3 D33.f D33.fd ["tongue"] (spTT A) := ok_tt D33 D34 G34 T
  have G37 : FnOk P w K mg base CX0 1 D37.f D37.fd ["_law_script"] (spBegin K) := ok_begin D37
  have G38 : FnOk P w K mg base CX0 1 D38.f D38.fd ["_law_script", "_law_at"] (spNext K) := ok_next D38 T
  have G39 : FnOk P w K mg base CX0 2 D39.f D39.fd ["_law_script", "_law_at", "_law_many"] (spWords K) := ok_words D39 D38 G38 T
  have G40 : FnOk P w K mg base CX0 2 D40.f D40.fd ["_law_script", "_law_at", "_law_words_here"] (spLM K) := ok_lm D40 D38 G38 T
  have G41 : FnOk P w K mg base CX0 3 D41.f D41.fd ["_law_script", "_law_at", "_law_words_here", "_law_most"] (spLMs K) := ok_lms D41 D38 G38 D40 G40 T
  have G42 : FnOk P w K mg base CX0 2 D42.f D42.fd ["_law_script", "_law_at"] (spGr K) := ok_gr D42 D38 G38 T
  have G43 : FnOk P w K mg base CX0 2 D43.f D43.fd ["_law_script", "_law_at", "_law_words_here", "_law_signs"] (spIt K) := ok_it D43 D38 G38 T
  have G44 : FnOk P w K mg base CX0 3 D44.f D44.fd ["_law_script", "_law_at", "_law_words_here", "_law_small"] (spRu K) := ok_ru D44 D38 G38 D42 G42 D43 G43 T
  have G45 : FnOk P w K mg base CX0 2 D45.f D45.fd ["_law_script", "_law_at", "_law_words_here", "_law_k"] (spKd K) := ok_kd D45 D38 G38 T
  have G46 : FnOk P w K mg base CX0 4 D46.f D46.fd ["_law_script", "_law_at"] (spDa K) := ok_da D46 D38 G38 D39 G39 D42 G42 D44 G44 D41 G41 D45 G45 T
  have G47 : FnOk P w K mg base CX0 10 D47.f D47.fd ["_law_data_here"] (spTg A) := ok_tg D47 DR MR GR DJ MK GJ DI MT bd GI T
  have G48 : FnOk P w K mg base CX0 1 D48.f D48.fd ["_law_rule_here"] spRR := ok_rr D48 T
  have G49 : FnOk P w K mg base CX0 2 D49.f D49.fd ["_law_data_here"] spRs := ok_rs D49 D48 G48 T
  have G50 : FnOk P w K mg base CX0 1 D50.f D50.fd ["_law_found"] spWhole := ok_whole D50 T
  have G51 : FnOk P w K mg base CX0 2 D51.f D51.fd ["_law_rule_here", "_law_due"] (spIR A) := ok_ir D51 D50 G50 T
  have G52 : FnOk P w K mg base CX0 3 D52.f D52.fd ["_law_tongue_here", "_law_data_here"] (spIT A) := ok_it2 D52 D50 G50 D51 G51 T
  exact ok_law D53 ⟨D37, G37, D46, G46, D47, G47, D49, G49, D33, G33, D52, G52⟩ T
theorem walk {l : PySem.W.OpenLaw} {q : Program} {loose : List Str} {XP : (Str → Option Value) → Heap → Prop} {YP : World → Heap → Prop} {d : DefRec} {K : Params → PySem.W.Frag} (ad : Ad) (hn : l.most = some 63) (hdf : d.params.defaults = [])
    (hY : ∀ (w : World) (h : Heap), YP w h → (K w.params).In h ∧ ∀ t ∈ [ad.tTI], h.get? t = some (PySem.W.tabObj #[]))
    (F : ∀ (w : World) (mg : Str → Option Value) (fa : Addr) (h : Heap), (K w.params).In h → h.Ns mainGlobals mg → mg d.name = some (.ref fa) →
      ∃ fd : FuncData, (∀ (s : Shared) (u : Value), BindsTo s fd ⟨[u], []⟩ [("_law_script", u)]) ∧ ∀ base : Heap, (K w.params).In base → base.Ns mainGlobals mg → BltK base → FnOk l.prog w (K w.params) mg base CX0 11 fa fd ["_law_script"] (spLaw (K w.params) ad))
    (hK : ∀ w : World, PySem.W.noTabs (K w.params) = true)
    (r0 : ∃ d', (recsOf q).find? (fun e => e.name == ("small_letters" : Str)) = some d') (t0 : ∀ w : World, ∃ c, PySem.W.tabIn (K w.params) "small_letters" = some (c, ad.tSL)) (r1 : ∃ d', (recsOf q).find? (fun e => e.name == ("check_pieces" : Str)) = some d') (t1 : ∀ w : World, ∃ c, PySem.W.tabIn (K w.params) "check_pieces" = some (c, ad.tCP)) (r2 : ∃ d', (recsOf q).find? (fun e => e.name == ("ties_fit" : Str)) = some d') (t2 : ∀ w : World, ∃ c, PySem.W.tabIn (K w.params) "ties_fit" = some (c, ad.tTF)) (r3 : ∃ d', (recsOf q).find? (fun e => e.name == ("has_any" : Str)) = some d') (t3 : ∀ w : World, ∃ c, PySem.W.tabIn (K w.params) "has_any" = some (c, ad.tHA)) (r4 : ∃ d', (recsOf q).find? (fun e => e.name == ("are_word_pairs" : Str)) = some d') (t4 : ∀ w : World, ∃ c, PySem.W.tabIn (K w.params) "are_word_pairs" = some (c, ad.tWP)) (tq : ∀ w : World, ∃ c, PySem.W.codeHdIn (K w.params) c ad.tTI = true) :
    PySem.W.WalkO q loose XP YP l.row.toRowW d [] (fun f vs => PySem.call f vs) := by
  refine walk_M (n := 63) (k := 11) (x := "_law_script") (CX := fun _ => CX0) (sp := fun w => spLaw (K w.params) ad) (fun _ => [ad.tSL, ad.tCP, ad.tTF, ad.tHA, ad.tWP, ad.tTI]) [ad.tTI] hn (by decide) hdf ⟨rfl, by decide, by decide⟩ hY hK (fun w t ht => ?_) F (fun w H a ns hl h1 hS => ?_) fun _ _ _ _ _ z => z
  · simp only [List.mem_cons, List.not_mem_nil, or_false] at ht
    rcases ht with rfl | rfl | rfl | rfl | rfl | rfl
    · obtain ⟨d', e⟩ := r0; obtain ⟨c, e2⟩ := t0 w; exact .inl ⟨_, c, d', e, e2⟩
    · obtain ⟨d', e⟩ := r1; obtain ⟨c, e2⟩ := t1 w; exact .inl ⟨_, c, d', e, e2⟩
    · obtain ⟨d', e⟩ := r2; obtain ⟨c, e2⟩ := t2 w; exact .inl ⟨_, c, d', e, e2⟩
    · obtain ⟨d', e⟩ := r3; obtain ⟨c, e2⟩ := t3 w; exact .inl ⟨_, c, d', e, e2⟩
    · obtain ⟨d', e⟩ := r4; obtain ⟨c, e2⟩ := t4 w; exact .inl ⟨_, c, d', e, e2⟩
    · exact .inr ⟨by simp, tq w⟩
  · exact ⟨a, ns, rfl, hS, hl, ⟨⟨h1 _ (by simp), h1 _ (by simp), h1 _ (by simp), h1 _ (by simp)⟩, ⟨h1 _ (by simp), h1 _ (by simp)⟩, h1 _ (by simp)⟩, fun H' s => ⟨rfl, fun t ht => s _ _ (h1 t ht)⟩⟩
end K32

/-! The twins of the heads' heaps and trees are not wanted (the compiled text grows past 64 MiB by them): their names are taken. -/
def PySem.W.Fast.tw1058584024901101081 : Nat := 0
def PySem.W.Fast.tw14619104128573647195 : Nat := 0
def PySem.W.Fast.tw14792556636477463987 : Nat := 0
def PySem.W.Fast.tw17101136707658260166 : Nat := 0
def PySem.W.Fast.tw8918922847399679405 : Nat := 0
def PySem.W.Fast.tw2662635228098611082 : Nat := 0
def PySem.W.Fast.tw13920104635475339609 : Nat := 0
def PySem.W.Fast.tw15934377479069831239 : Nat := 0
def PySem.W.Fast.tw7348344835626552856 : Nat := 0
def PySem.W.Fast.tw17492566070724771313 : Nat := 0
def PySem.W.Fast.tw18024471737349342186 : Nat := 0
def PySem.W.Fast.tw3401343505754179312 : Nat := 0
def PySem.W.Fast.tw7414703988305212654 : Nat := 0
def PySem.W.Fast.tw782022670158453297 : Nat := 0
def PySem.W.Fast.tw5761352157621784547 : Nat := 0
def PySem.W.Fast.tw9005064774271974596 : Nat := 0
def PySem.W.Fast.tw4630380331930923496 : Nat := 0
def PySem.W.Fast.tw1183205144031782510 : Nat := 0
def PySem.W.Fast.tw1500023984280877981 : Nat := 0
def PySem.W.Fast.tw13174085778815306569 : Nat := 0
def PySem.W.Fast.tw10483589914471652548 : Nat := 0
def PySem.W.Fast.tw12413953629450726267 : Nat := 0
def PySem.W.Fast.tw12256964493166455443 : Nat := 0
def PySem.W.Fast.tw8702372020044146056 : Nat := 0
def PySem.W.Fast.tw14262186455076676689 : Nat := 0
def PySem.W.Fast.tw17546249111529068850 : Nat := 0
def PySem.W.Fast.tw16845006493487321995 : Nat := 0
def PySem.W.Fast.tw13235494532004213861 : Nat := 0
def PySem.W.Fast.tw17225549809838943388 : Nat := 0
def PySem.W.Fast.tw15629506774688028057 : Nat := 0
def PySem.W.Fast.tw16781172667170090968 : Nat := 0
def PySem.W.Fast.tw6833453726095879258 : Nat := 0
def PySem.W.Fast.tw12814542615858913872 : Nat := 0
def PySem.W.Fast.tw16973115387915449058 : Nat := 0
def PySem.W.Fast.tw4034051272088023936 : Nat := 0
def PySem.W.Fast.tw14578741910994851536 : Nat := 0
def PySem.W.Fast.tw15686229584941720720 : Nat := 0
def PySem.W.Fast.tw1403579561603800621 : Nat := 0
def PySem.W.Fast.tw13600875073683860432 : Nat := 0
def PySem.W.Fast.tw6504599086329286100 : Nat := 0
def PySem.W.Fast.tw14373075078786461253 : Nat := 0
def PySem.W.Fast.tw9948437001501244460 : Nat := 0
def PySem.W.Fast.tw14163432095022022389 : Nat := 0
def PySem.W.Fast.tw14416500762033065926 : Nat := 0
def PySem.W.Fast.tw3946423982204214374 : Nat := 0
def PySem.W.Fast.tw14747529735656998795 : Nat := 0
def PySem.W.Fast.tw5494375506916221404 : Nat := 0
def PySem.W.Fast.tw3382172210750151899 : Nat := 0
def PySem.W.Fast.tw1872523458172340368 : Nat := 0
def PySem.W.Fast.tw7476468859306697217 : Nat := 0
def PySem.W.Fast.tw12179130669105426092 : Nat := 0
def PySem.W.Fast.tw8491558984040370416 : Nat := 0
def PySem.W.Fast.tw13531311827713519474 : Nat := 0
def PySem.W.Fast.tw3934009422076057918 : Nat := 0
def PySem.W.Fast.tw3826684108334152318 : Nat := 0
def PySem.W.Fast.tw2677547202603846858 : Nat := 0
def PySem.W.Fast.tw2303136814657142103 : Nat := 0
def PySem.W.Fast.tw2340479465880678082 : Nat := 0
def PySem.W.Fast.tw2075815600082894709 : Nat := 0
def PySem.W.Fast.tw11200848976566873587 : Nat := 0
def PySem.W.Fast.tw3967311905883037861 : Nat := 0
def PySem.W.Fast.tw8729032569847700112 : Nat := 0
def PySem.W.Fast.tw12002406586819731667 : Nat := 0
def PySem.W.Fast.tw3718359216473833453 : Nat := 0
def PySem.W.Fast.tw16002159476595972383 : Nat := 0
def PySem.W.Fast.tw5729414137901187790 : Nat := 0
def PySem.W.Fast.tw2186106440928412988 : Nat := 0
def PySem.W.Fast.tw12669542708498515075 : Nat := 0
def PySem.W.Fast.tw17922500013356354566 : Nat := 0
def PySem.W.Fast.tw10478798540261015917 : Nat := 0
def PySem.W.Fast.tw2427029301700872928 : Nat := 0
def PySem.W.Fast.tw11875772510841765754 : Nat := 0
def PySem.W.Fast.tw2875959598979332780 : Nat := 0
def PySem.W.Fast.tw15570536674429526908 : Nat := 0
def PySem.W.Fast.tw2360491575672708606 : Nat := 0
def PySem.W.Fast.tw960776014660928455 : Nat := 0
def PySem.W.Fast.tw13537264496397581514 : Nat := 0
def PySem.W.Fast.tw5633260258151436639 : Nat := 0
def PySem.W.Fast.tw16270154999684302009 : Nat := 0
def PySem.W.Fast.tw13787642002111019082 : Nat := 0
def PySem.W.Fast.tw7156225329305986811 : Nat := 0
def PySem.W.Fast.tw4389138243660341876 : Nat := 0
def PySem.W.Fast.tw13474490655983624101 : Nat := 0
def PySem.W.Fast.tw7547682069269499147 : Nat := 0
def PySem.W.Fast.tw6946841005619208181 : Nat := 0
def PySem.W.Fast.tw2584424121848630773 : Nat := 0
def PySem.W.Fast.tw551290808716637488 : Nat := 0
def PySem.W.Fast.tw10102044537790738678 : Nat := 0
def PySem.W.Fast.tw3088546092525803210 : Nat := 0
def PySem.W.Fast.tw13211828722503822406 : Nat := 0
def PySem.W.Fast.tw4933351538479782610 : Nat := 0
def PySem.W.Fast.tw17365927041123638441 : Nat := 0
def PySem.W.Fast.tw15260670091532536565 : Nat := 0
def PySem.W.Fast.tw7162147610356606703 : Nat := 0
def PySem.W.Fast.tw4844741836323544164 : Nat := 0
def PySem.W.Fast.tw18116454215235189771 : Nat := 0
def PySem.W.Fast.tw13129200557069488192 : Nat := 0
def PySem.W.Fast.tw11660576997976568287 : Nat := 0
def PySem.W.Fast.tw7617440569794480597 : Nat := 0
def PySem.W.Fast.tw14967354191526761935 : Nat := 0
def PySem.W.Fast.tw8166630504834078270 : Nat := 0
def PySem.W.Fast.tw1309594479377659707 : Nat := 0
def PySem.W.Fast.tw11221533990470235954 : Nat := 0
def PySem.W.Fast.tw10688787016930017275 : Nat := 0
def PySem.W.Fast.tw16288162311842815757 : Nat := 0
def PySem.W.Fast.tw5384375598847036817 : Nat := 0
def PySem.W.Fast.tw294231160746754899 : Nat := 0
def PySem.W.Fast.tw17105636238282989420 : Nat := 0
def PySem.W.Fast.tw17410490912922200901 : Nat := 0
def PySem.W.Fast.tw12097544853279762409 : Nat := 0
def PySem.W.Fast.tw8331627215149051403 : Nat := 0
def PySem.W.Fast.tw9881371542780431140 : Nat := 0
def PySem.W.Fast.tw16370257375179878407 : Nat := 0
def PySem.W.Fast.tw15261410263018785537 : Nat := 0
def PySem.W.Fast.tw14027711599299578877 : Nat := 0
def PySem.W.Fast.tw2060394677227992301 : Nat := 0
def PySem.W.Fast.tw9815639853018307018 : Nat := 0
def PySem.W.Fast.tw3447627067699595433 : Nat := 0
def PySem.W.Fast.tw18393159913206487946 : Nat := 0
def PySem.W.Fast.tw11687956377629914793 : Nat := 0
def PySem.W.Fast.tw14322706895597375908 : Nat := 0
def PySem.W.Fast.tw7221319776343887055 : Nat := 0
def PySem.W.Fast.tw3836682232660724056 : Nat := 0
def PySem.W.Fast.tw3568510818583370719 : Nat := 0
def PySem.W.Fast.tw11834403271388104185 : Nat := 0
def PySem.W.Fast.tw15780987990331177288 : Nat := 0
def PySem.W.Fast.tw10717583500585973216 : Nat := 0
def PySem.W.Fast.tw1413765249638479433 : Nat := 0
def PySem.W.Fast.tw5684058557598434221 : Nat := 0
def PySem.W.Fast.tw8683014971621760033 : Nat := 0
def PySem.W.Fast.tw18436776727760655156 : Nat := 0
def PySem.W.Fast.tw5760117702956175734 : Nat := 0
def PySem.W.Fast.tw3013545037785099546 : Nat := 0
def PySem.W.Fast.tw8519043443867223387 : Nat := 0
def PySem.W.Fast.tw1122732517190456724 : Nat := 0
def PySem.W.Fast.tw14983321831797018244 : Nat := 0
def PySem.W.Fast.tw8674674665552860132 : Nat := 0
def PySem.W.Fast.tw13884268695580793580 : Nat := 0
def PySem.W.Fast.tw17475127371389269307 : Nat := 0
def PySem.W.Fast.tw1534356370382745193 : Nat := 0
def PySem.W.Fast.tw6212947541077110905 : Nat := 0
def PySem.W.Fast.tw9891552584801495868 : Nat := 0
def PySem.W.Fast.tw15385958316846600396 : Nat := 0
def PySem.W.Fast.tw7008152241033195990 : Nat := 0
def PySem.W.Fast.tw6949888855542811367 : Nat := 0
def PySem.W.Fast.tw428707244614265840 : Nat := 0
def PySem.W.Fast.tw11230230552859542767 : Nat := 0
def PySem.W.Fast.tw6874871982289460188 : Nat := 0
def PySem.W.Fast.tw17045100854042674117 : Nat := 0
def PySem.W.Fast.tw470264725406132444 : Nat := 0
def PySem.W.Fast.tw2364201284892047503 : Nat := 0
def PySem.W.Fast.tw13444802045320447592 : Nat := 0
def PySem.W.Fast.tw11227440066761827082 : Nat := 0
def PySem.W.Fast.tw5756682848991442691 : Nat := 0
def PySem.W.Fast.tw8380214999265225675 : Nat := 0
def PySem.W.Fast.tw920591975980357386 : Nat := 0
def PySem.W.Fast.tw6674140284254642757 : Nat := 0
def PySem.W.Fast.tw11252885347685201572 : Nat := 0
def PySem.W.Fast.tw15932103867334004248 : Nat := 0
def PySem.W.Fast.tw3597892427163198936 : Nat := 0
def PySem.W.Fast.tw12479612850031069444 : Nat := 0
def PySem.W.Fast.tw17905426008962069531 : Nat := 0
def PySem.W.Fast.tw8126359926418279411 : Nat := 0
def PySem.W.Fast.tw13279992299003037199 : Nat := 0
def PySem.W.Fast.tw7264832990124817826 : Nat := 0
open PySem PySem.W PyProof.Rows
local macro_rules
  | `(tactic| o_head ($x : $t)) => Lean.Macro.throwUnsupported
  | `(tactic| o_head $H) => `(tactic| o_head (L2.withTabs $H [199] : PySem.W.Hook))
set_option maxRecDepth 100000 in
set_option maxHeartbeats 0 in
theorem PySem.Challenge.cw_numbersay_k32_tongues_written_holds : PySem.Challenge.rw_numbersay_k32_tongues_written.Holds := by
  w_on; o_law; k_head; (case hw => w_witness2)
  k_fill
  refine' K32.walk (l := PySem.Challenge.rw_numbersay_k32_tongues_written) ⟨_, _, _, _, _, _, _, _, _, _, _, _, _, _, _, _, 199, _⟩ rfl rfl (fun w h Y => ⟨PySem.W.kIn_of Y.1, Y.2⟩) ?F ?NT ?R0 ?T0 ?R1 ?T1 ?R2 ?T2 ?R3 ?T3 ?R4 ?T4 ?TQ
  case F =>
    intro w mg fa h KX G hmg
    refine' K32.all_mk KX G hmg ?b_len ?b_isinstance ?b_str ?b_int ?b_bool ?b_list ?b_tuple ?b_all ?b_any ?b_range ?b_zip ?b_max ?b_min ?b_set ?cTIE ?cMOST ?c_Rule ?c_Tongue ?c_Kind ?c_SayError ?c_BadRule ?c_BadBound ?c_BadMelt ?c_Twice ?c_BadKind ?c_SIGNS ?l_SIGNS ?v_SIGNS ?c_TIMES_SIGNS ?l_TIMES_SIGNS ?v_TIMES_SIGNS ?c_REST_SIGNS ?l_REST_SIGNS ?v_REST_SIGNS ?gs ?tk ?xeBadRule ?gaBadRule ?gtBadRule ?gcBadRule ?obBadRule ?xeBadKind ?gaBadKind ?gtBadKind ?gcBadKind ?obBadKind ?k1 ?k2 ?k3 ?k4 ?k5 ?kkRule ?pgRule ?hdRule ?poRule ?saRule ?rcRule ?rmRule ?n_low ?n_high ?n_base ?n_first ?n_last ?n_pieces ?mkRule ?kcRule ?kkTongue ?pgTongue ?hdTongue ?poTongue ?saTongue ?rcTongue ?rmTongue ?n_bound ?n_rules ?n_melts ?n_kinds ?mkTongue ?kcTongue ?kkKind ?pgKind ?hdKind ?poKind ?saKind ?rcKind ?rmKind ?n_title ?n_ending ?n_turns ?mkKind ?kcKind ?a13 ?l13 ?c13 ?k13_ ?t13_ ?d13 ?a14 ?l14 ?c14 ?k14_ ?a16 ?l16 ?c16 ?k16_ ?a17 ?l17 ?c17 ?k17_ ?t17_ ?d17 ?a18 ?l18 ?c18 ?k18_ ?a19 ?l19 ?c19 ?k19_ ?t19_ ?d19 ?a20 ?l20 ?c20 ?k20_ ?a21 ?l21 ?c21 ?k21_ ?t21_ ?d21 ?a23 ?l23 ?c23 ?k23_ ?t23_ ?d23 ?a24 ?l24 ?c24 ?k24_ ?a27 ?l27 ?c27 ?k27_ ?a28 ?l28 ?c28 ?k28_ ?a29 ?l29 ?c29 ?k29_ ?a33 ?l33 ?c33 ?k33_ ?a34 ?l34 ?c34 ?k34_ ?a35 ?l35 ?c35 ?k35_ ?a37 ?l37 ?c37 ?k37_ ?a38 ?l38 ?c38 ?k38_ ?a39 ?l39 ?c39 ?k39_ ?a40 ?l40 ?c40 ?k40_ ?a41 ?l41 ?c41 ?k41_ ?a42 ?l42 ?c42 ?k42_ ?a43 ?l43 ?c43 ?k43_ ?a44 ?l44 ?c44 ?k44_ ?a45 ?l45 ?c45 ?k45_ ?a46 ?l46 ?c46 ?k46_ ?a47 ?l47 ?c47 ?k47_ ?a48 ?l48 ?c48 ?k48_ ?a49 ?l49 ?c49 ?k49_ ?a50 ?l50 ?c50 ?k50_ ?a51 ?l51 ?c51 ?k51_ ?a52 ?l52 ?c52 ?k52_ ?a53 ?l53 ?c53 ?k53_ ?aR ?lR ?cR ?kR_ ?iR ?aJ ?lJ ?cJ ?kJ_ ?iJ ?aI ?lI ?cI ?kI_ ?dI ?lT ?vT ?iI
    (case b_len => k_is)
    (case b_isinstance => k_is)
    (case b_str => k_is)
    (case b_int => k_is)
    (case b_bool => k_is)
    (case b_list => k_is)
    (case b_tuple => k_is)
    (case b_all => k_is)
    (case b_any => k_is)
    (case b_range => k_is)
    (case b_zip => k_is)
    (case b_max => k_is)
    (case b_min => k_is)
    (case b_set => k_is)
    (case cTIE => k_is)
    (case cMOST => k_is)
    (case c_Rule => k_is)
    (case c_Tongue => k_is)
    (case c_Kind => k_is)
    (case c_SayError => k_is)
    (case c_BadRule => k_is)
    (case c_BadBound => k_is)
    (case c_BadMelt => k_is)
    (case c_Twice => k_is)
    (case c_BadKind => k_is)
    (case c_SIGNS => k_is)
    (case l_SIGNS => k_is)
    (case v_SIGNS => exact rfl)
    (case c_TIMES_SIGNS => k_is)
    (case l_TIMES_SIGNS => k_is)
    (case v_TIMES_SIGNS => exact rfl)
    (case c_REST_SIGNS => k_is)
    (case l_REST_SIGNS => k_is)
    (case v_REST_SIGNS => exact rfl)
    (case gs => k_is)
    (case tk => k_is)
    (case xeBadRule => k_exc)
    (case gaBadRule => k_is)
    (case gtBadRule => k_is)
    (case gcBadRule => k_is)
    (case obBadRule => k_is)
    (case xeBadKind => k_exc)
    (case gaBadKind => k_is)
    (case gtBadKind => k_is)
    (case gcBadKind => k_is)
    (case obBadKind => k_is)
    (case k1 => kit_is)
    (case k2 => kit_is)
    (case k3 => kit_is)
    (case k4 => kit_is)
    (case k5 => kit_is)
    (case kkRule => kit_is)
    (case pgRule => k_is)
    (case hdRule => k_is)
    (case poRule => k_is)
    (case saRule => k_is)
    (case rcRule => k_is)
    (case rmRule => k_is)
    (case n_low => k_is)
    (case n_high => k_is)
    (case n_base => k_is)
    (case n_first => k_is)
    (case n_last => k_is)
    (case n_pieces => k_is)
    (case mkRule => k_is)
    (case kcRule => k_is)
    (case kkTongue => kit_is)
    (case pgTongue => k_is)
    (case hdTongue => k_is)
    (case poTongue => k_is)
    (case saTongue => k_is)
    (case rcTongue => k_is)
    (case rmTongue => k_is)
    (case n_bound => k_is)
    (case n_rules => k_is)
    (case n_melts => k_is)
    (case n_kinds => k_is)
    (case mkTongue => k_is)
    (case kcTongue => k_is)
    (case kkKind => kit_is)
    (case pgKind => k_is)
    (case hdKind => k_is)
    (case poKind => k_is)
    (case saKind => k_is)
    (case rcKind => k_is)
    (case rmKind => k_is)
    (case n_title => k_is)
    (case n_ending => k_is)
    (case n_turns => k_is)
    (case mkKind => k_is)
    (case kcKind => k_is)
    (case a13 => k_is)
    (case l13 => k_is)
    (case c13 => k_is)
    (case k13_ => k_is)
    (case t13_ => exact rfl)
    (case d13 => exact rfl)
    (case a14 => k_is)
    (case l14 => k_is)
    (case c14 => k_is)
    (case k14_ => k_is)
    (case a16 => k_is)
    (case l16 => k_is)
    (case c16 => k_is)
    (case k16_ => k_is)
    (case a17 => k_is)
    (case l17 => k_is)
    (case c17 => k_is)
    (case k17_ => k_is)
    (case t17_ => exact rfl)
    (case d17 => exact rfl)
    (case a18 => k_is)
    (case l18 => k_is)
    (case c18 => k_is)
    (case k18_ => k_is)
    (case a19 => k_is)
    (case l19 => k_is)
    (case c19 => k_is)
    (case k19_ => k_is)
    (case t19_ => exact rfl)
    (case d19 => exact rfl)
    (case a20 => k_is)
    (case l20 => k_is)
    (case c20 => k_is)
    (case k20_ => k_is)
    (case a21 => k_is)
    (case l21 => k_is)
    (case c21 => k_is)
    (case k21_ => k_is)
    (case t21_ => exact rfl)
    (case d21 => exact rfl)
    (case a23 => k_is)
    (case l23 => k_is)
    (case c23 => k_is)
    (case k23_ => k_is)
    (case t23_ => exact rfl)
    (case d23 => exact rfl)
    (case a24 => k_is)
    (case l24 => k_is)
    (case c24 => k_is)
    (case k24_ => k_is)
    (case a27 => k_is)
    (case l27 => k_is)
    (case c27 => k_is)
    (case k27_ => k_is)
    (case a28 => k_is)
    (case l28 => k_is)
    (case c28 => k_is)
    (case k28_ => k_is)
    (case a29 => k_is)
    (case l29 => k_is)
    (case c29 => k_is)
    (case k29_ => k_is)
    (case a33 => k_is)
    (case l33 => k_is)
    (case c33 => k_is)
    (case k33_ => k_is)
    (case a34 => k_is)
    (case l34 => k_is)
    (case c34 => k_is)
    (case k34_ => k_is)
    (case a35 => k_is)
    (case l35 => k_is)
    (case c35 => k_is)
    (case k35_ => k_is)
    (case a37 => k_is)
    (case l37 => k_is)
    (case c37 => k_is)
    (case k37_ => k_is)
    (case a38 => k_is)
    (case l38 => k_is)
    (case c38 => k_is)
    (case k38_ => k_is)
    (case a39 => k_is)
    (case l39 => k_is)
    (case c39 => k_is)
    (case k39_ => k_is)
    (case a40 => k_is)
    (case l40 => k_is)
    (case c40 => k_is)
    (case k40_ => k_is)
    (case a41 => k_is)
    (case l41 => k_is)
    (case c41 => k_is)
    (case k41_ => k_is)
    (case a42 => k_is)
    (case l42 => k_is)
    (case c42 => k_is)
    (case k42_ => k_is)
    (case a43 => k_is)
    (case l43 => k_is)
    (case c43 => k_is)
    (case k43_ => k_is)
    (case a44 => k_is)
    (case l44 => k_is)
    (case c44 => k_is)
    (case k44_ => k_is)
    (case a45 => k_is)
    (case l45 => k_is)
    (case c45 => k_is)
    (case k45_ => k_is)
    (case a46 => k_is)
    (case l46 => k_is)
    (case c46 => k_is)
    (case k46_ => k_is)
    (case a47 => k_is)
    (case l47 => k_is)
    (case c47 => k_is)
    (case k47_ => k_is)
    (case a48 => k_is)
    (case l48 => k_is)
    (case c48 => k_is)
    (case k48_ => k_is)
    (case a49 => k_is)
    (case l49 => k_is)
    (case c49 => k_is)
    (case k49_ => k_is)
    (case a50 => k_is)
    (case l50 => k_is)
    (case c50 => k_is)
    (case k50_ => k_is)
    (case a51 => k_is)
    (case l51 => k_is)
    (case c51 => k_is)
    (case k51_ => k_is)
    (case a52 => k_is)
    (case l52 => k_is)
    (case c52 => k_is)
    (case k52_ => k_is)
    (case a53 => k_is)
    (case l53 => k_is)
    (case c53 => k_is)
    (case k53_ => k_is)
    (case aR => k_is)
    (case lR => k_is)
    (case cR => k_is)
    (case kR_ => k_is)
    (case iR => k_is)
    (case aJ => k_is)
    (case lJ => k_is)
    (case cJ => k_is)
    (case kJ_ => k_is)
    (case iJ => k_is)
    (case aI => k_is)
    (case lI => k_is)
    (case cI => k_is)
    (case kI_ => k_is)
    (case dI => exact rfl)
    (case lT => k_is)
    (case vT => exact rfl)
    (case iI => k_is)
  (case NT => exact fun w => rfl)
  (case R0 => exact ⟨_, rfl⟩); (case T0 => exact fun w => ⟨_, rfl⟩)
  (case R1 => exact ⟨_, rfl⟩); (case T1 => exact fun w => ⟨_, rfl⟩)
  (case R2 => exact ⟨_, rfl⟩); (case T2 => exact fun w => ⟨_, rfl⟩)
  (case R3 => exact ⟨_, rfl⟩); (case T3 => exact fun w => ⟨_, rfl⟩)
  (case R4 => exact ⟨_, rfl⟩); (case T4 => exact fun w => ⟨_, rfl⟩)
  (case TQ => exact fun w => ⟨203, rfl⟩)
