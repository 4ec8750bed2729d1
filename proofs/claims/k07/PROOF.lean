import PyProof.Rows.All
import Wide.All
import OpenK.AllK
import Wide.FinOn
import Lean
import PyProof.EqAt
import PyProof.EqKinds
import PyProof.TupleCall
import PyProof.Rows.SortRuns
import PyProof.Rows.SortShell
import KE.KSortTup
import PySem.SetTable
import PySem.Value
import PySem.Challenge.RW_squarewalk_k07_answers_by_hand
set_option Elab.async false
set_option linter.all false
set_option maxRecDepth 100000
/-! THE HAND LAYER, for ints, bools, texts, own classes, DICTS (int and text keys), calls, loops. Paste it whole ahead of your own text; what your proof does not reach may be deleted. -/
namespace L2
open PySem PySem.Spec PyProof.Rows

/-- a key: an int or a str -/
abbrev Key := Sum Int Str
def keyIs : Key → Value → Bool
  | .inl k, v => Value.isInt k v
  | .inr x, v => Value.isStrOf x v
def keyH (w : World) : Key → Int
  | .inl k => hashInt k
  | .inr x => hashStr w x
theorem keyIs_shape : ∀ {k : Key} {v : Value}, keyIs k v = true → (∃ i t, k = Sum.inl i ∧ v = Value.int i t) ∨ (∃ x t, k = Sum.inr x ∧ v = Value.str x t)
  | .inl i, v, h => by
    obtain ⟨t, e⟩ := Value.isInt_shape (k := i) (v := v) h
    exact .inl ⟨i, t, rfl, e⟩
  | .inr x, v, h => by
    obtain ⟨t, e⟩ := Value.isStrOf_shape (x := x) (v := v) h
    exact .inr ⟨x, t, rfl, e⟩
theorem keyIs_int (i : Int) (t : Tok) : keyIs (.inl i) (.int i t) = true := by simp [keyIs, Value.isInt]
theorem keyIs_str (x : Str) (t : Tok) : keyIs (.inr x) (.str x t) = true := by simp [keyIs, Value.isStrOf]
theorem key_ll (a b : Int) : decide ((Sum.inl a : Key) = Sum.inl b) = (a == b) := by
  by_cases e : a = b
  · subst e; simp
  · have h : ¬ (Sum.inl a : Key) = Sum.inl b := fun q => e (Sum.inl.inj q)
    rw [decide_eq_false h]
    exact (beq_eq_false_iff_ne.mpr e).symm
theorem key_rr (a b : Str) : decide ((Sum.inr a : Key) = Sum.inr b) = decide (a = b) := by
  by_cases e : a = b
  · subst e; simp
  · have h : ¬ (Sum.inr a : Key) = Sum.inr b := fun q => e (Sum.inr.inj q)
    rw [decide_eq_false h, decide_eq_false e]
theorem key_lr (a : Int) (b : Str) : decide ((Sum.inl a : Key) = Sum.inr b) = false := decide_eq_false (fun q => nomatch q)
theorem key_rl (a : Str) (b : Int) : decide ((Sum.inr a : Key) = Sum.inl b) = false := decide_eq_false (fun q => nomatch q)

def mixKind (prog : Program) (w : World) : PySem.KeyKind prog w Key where
  is := keyIs
  hash := keyH w
  inj := fun v a b ha hb => by
    rcases keyIs_shape ha with ⟨i, t, rfl, rfl⟩ | ⟨x, t, rfl, rfl⟩
    · rcases keyIs_shape hb with ⟨j, u, rfl, e⟩ | ⟨y, u, rfl, e⟩
      · injection e with e1 _; rw [e1]
      · exact nomatch e
    · rcases keyIs_shape hb with ⟨j, u, rfl, e⟩ | ⟨y, u, rfl, e⟩
      · exact nomatch e
      · injection e with e1 _; rw [e1]
  byValue := fun k v h => by
    rcases keyIs_shape h with ⟨i, t, rfl, rfl⟩ | ⟨x, t, rfl, rfl⟩ <;> rfl
  pyHash := fun hv h => by
    rcases keyIs_shape hv with ⟨i, t, rfl, rfl⟩ | ⟨x, t, rfl, rfl⟩
    · exact wpAny_pyHash_int h
    · exact wpAny_pyHash_str h
  eqBool := fun hu hv h => by
    rcases keyIs_shape hu with ⟨i, t, rfl, rfl⟩ | ⟨x, t, rfl, rfl⟩
    · rcases keyIs_shape hv with ⟨j, u, rfl, rfl⟩ | ⟨y, u, rfl, rfl⟩
      · rw [key_ll] at h; exact wpAny_eqBool_int h
      · rw [key_lr] at h; exact SeqAt.EqAt.int_str i t y u _ _ _ _ h
    · rcases keyIs_shape hv with ⟨j, u, rfl, rfl⟩ | ⟨y, u, rfl, rfl⟩
      · rw [key_rl] at h; exact SeqAt.EqAt.str_int x t j u _ _ _ _ h
      · rw [key_rr] at h; exact wpAny_eqBool_str h
  «strs» := fun k x t v h => by
    rcases keyIs_shape h with ⟨i, u, rfl, e⟩ | ⟨y, u, rfl, e⟩
    · exact nomatch e
    · injection e with e1 _
      subst e1
      cases v <;> rfl

theorem mixKind_int (prog : Program) (w : World) (i : Int) (t : Tok) : (mixKind prog w).is (.inl i) (.int i t) = true := keyIs_int i t
theorem mixKind_str (prog : Program) (w : World) (x : Str) (t : Tok) : (mixKind prog w).is (.inr x) (.str x t) = true := keyIs_str x t
end L2

namespace L2
open PySem PySem.Spec PyProof.Rows

/-- a value, without the heap -/
inductive V where
  | non | bl (b : Bool) | int (i : Int) | str (x : Str) | byt (b : Array UInt8) | flt (b : UInt64) | ref (a : Addr) | ty (n : String)
  deriving DecidableEq

def RelV : V → Value → Prop
  | .non, u => u = Value.none
  | .bl b, u => u = Value.bool b
  | .int i, u => ∃ t, u = Value.int i t
  | .str x, u => ∃ t, u = Value.str x t
  | .byt b, u => ∃ t, u = Value.bytes b t
  | .flt b, u => ∃ t, u = Value.float b t
  | .ref a, u => u = Value.ref a
  | .ty n, u => u = Value.type n

abbrev Vals : List V → List Value → Prop := Paired RelV
theorem Vals.length {xs : List V} {us : List Value} (r : Vals xs us) : xs.length = us.length := Paired.length r
theorem Vals.get : ∀ {xs : List V} {us : List Value} {i : Nat} {x : V}, Vals xs us → xs[i]? = some x → ∃ u, us[i]? = some u ∧ RelV x u
  | _, _, _, _, .nil, e => by simp at e
  | _, _, 0, _, .cons r _, e => by simp at e; subst e; exact ⟨_, rfl, r⟩
  | _, _, i + 1, x, .cons _ t, e => by
    obtain ⟨u, h1, h2⟩ := Vals.get (i := i) (x := x) t (by simpa using e)
    exact ⟨u, by simpa using h1, h2⟩
theorem Vals.set {x : V} {u : Value} (r : RelV x u) : ∀ {xs : List V} {us : List Value} (i : Nat), Vals xs us → Vals (xs.set i x) (us.set i u)
  | _, _, _, .nil => .nil
  | _, _, 0, .cons _ t => .cons r t
  | _, _, i + 1, .cons q t => .cons q (Vals.set r i t)
theorem Vals.append : ∀ {xs ys : List V} {us ws : List Value}, Vals xs us → Vals ys ws → Vals (xs ++ ys) (us ++ ws)
  | _, _, _, _, .nil, s => s
  | _, _, _, _, .cons r t, s => .cons r (Vals.append t s)
theorem Vals.take : ∀ {xs : List V} {us : List Value} (n : Nat), Vals xs us → Vals (xs.take n) (us.take n)
  | _, _, 0, _ => .nil
  | _, _, _ + 1, .nil => .nil
  | _, _, n + 1, .cons r t => .cons r (Vals.take n t)
theorem Vals.drop : ∀ {xs : List V} {us : List Value} (n : Nat), Vals xs us → Vals (xs.drop n) (us.drop n)
  | _, _, 0, r => r
  | _, _, _ + 1, .nil => .nil
  | _, _, n + 1, .cons _ t => Vals.drop n t
theorem Vals.none_of : ∀ {xs : List V} {us : List Value} {i : Nat}, Vals xs us → xs[i]? = none → us[i]? = none := fun {xs us i} r e => by
  have h1 := r.length
  have h2 : xs.length ≤ i := List.getElem?_eq_none_iff.mp e
  exact List.getElem?_eq_none_iff.mpr (by (first | lia | omega))

def RelO : Option V → Option Value → Prop
  | some v, some u => RelV v u
  | none, none => True
  | _, _ => False
def KV {κ : Type} : List (κ × V) → List (κ × Value) → Prop := Paired fun (p : κ × V) (q : κ × Value) => p.1 = q.1 ∧ RelV p.2 q.2

/-- a key of a dict (00_mix): an int or a text -/
def kV : Key → V
  | .inl i => .int i
  | .inr x => .str x

/-- what stands at a tracked address -/
inductive HO where
  /-- a list -/
  | lst (xs : List V)
  /-- a tuple (never changes) -/
  | tup (xs : List V)
  /-- a dict whose keys are ints and texts; one whose keys are tuples of ints and texts (the empty one is both) -/
  | dK (kvs : List (Key × V)) | dT (kvs : List (List Key × V))
  /-- a set of ints: its members, its size -/
  | set (S : Int → Bool) (n : Nat)
  /-- an instance of the class at C, its dict at dx, its attributes -/
  | ins (C dx : Addr) (fs : List (Str × V))
  /-- the dict of the instance at x -/
  | own (x : Addr)
  /-- the dict of an exception -/
  | xd (fs : List (Str × V))
  /-- a bound method, f of x -/
  | met (f x : Addr)
  /-- a range object lo, lo + 1, .. below hi -/
  | rng (lo hi : Int)
  /-- a thing that is known to the object (the script; a dict while a loop walks it): read, never written while it is so -/
  | frz (o : Obj) (u : HO)
  /-- a code object's table -/
  | tbl (ps : Array Value)
  /-- any other thing, by what is true of its one object (a def of one's own: SetO a S n := HO.ext fun h => ..) -/
  | ext (φ : Heap → Prop)

abbrev Hp := Addr → Option HO
def upd (H : Hp) (a : Addr) (o : HO) : Hp := fun b => if b = a then some o else H b
theorem upd_same {H : Hp} {a : Addr} {o : HO} : upd H a o a = some o := by unfold upd; rw [if_pos rfl]
theorem upd_ne {H : Hp} {a b : Addr} {o : HO} (h : b ≠ a) : upd H a o b = H b := by unfold upd; rw [if_neg h]
/-- two objects of different content stand apart -/
theorem ne_of {H : Hp} {a b : Addr} {o u : HO} (h : H a = some o) (h' : H b = some u) (d : o ≠ u) : a ≠ b := by
  intro e; subst e; rw [h] at h'; exact d (Option.some.inj h')
theorem ne_of_none {H : Hp} {a b : Addr} {o : HO} (h : H a = some o) (h' : H b = none) : a ≠ b := by
  intro e; subst e; rw [h] at h'; cases h'

section
variable (P : Program) (w : World)
def ObjOk (H : Hp) (h : Heap) (a : Addr) : HO → Prop
  | .lst xs => xs.length ≤ sizeLine ∧ ∃ (its : List Value) (n : Nat), Vals xs its ∧ h.get? a = some { cls := .type "list", data := .seq its.toArray n }
  | .tup xs => xs.length ≤ sizeLine ∧ ∃ its : List Value, Vals xs its ∧ IsTup h a its.toArray
  | .dK kvs => kvs.length ≤ sizeLine ∧ (a == sysModules) = false ∧ ∃ vs, KV kvs vs ∧ h.DictOf (mixKind P w) a vs
  | .dT kvs => kvs.length ≤ sizeLine ∧ (a == sysModules) = false ∧ ∃ xs : List (List Key × Addr × Value),
      Paired (fun (p : List Key × V) (q : List Key × Addr × Value) => p.1 = q.1 ∧ H q.2.1 = some (.tup (p.1.map kV)) ∧ RelV p.2 q.2.2) kvs xs ∧
      ∃ o es ep, h.get? a = some o ∧ o.ExactDict ∧ o.data = .dict es ep ∧ es.toList = xs.map (entryOfKey (tupleKind (mixKind P w))) ∧ (xs.map (·.1)).Nodup
  | .set S n => h.SetOf (intKind P w) a S n
  | .ins C dx fs => H dx = some (.own a) ∧ fs.length ≤ 1000 ∧ dx ≠ a ∧ h.get? a = some (PySem.W.instObj C dx) ∧
      ∃ mA, h.Ns1 dx mA ∧ (∀ f, RelO (fs.lookup f) (mA f)) ∧ PySem.Within mA (fs.map (·.1))
  | .own _ => ∃ o, h.get? a = some o
  | .xd fs => ∃ mA, h.Ns1 a mA ∧ ∀ f, RelO (fs.lookup f) (mA f)
  | .rng lo hi => ∃ t u v, h.get? a = some { cls := .type "range", data := .fields #[.int lo t, .int hi u, .int 1 v] }
  | .frz o u => h.get? a = some o ∧ ObjOk H h a u
  | .tbl ps => h.get? a = some { cls := .none, data := .fields ps }
  | .met f x => h.get? a = some (PySem.W.methodObj (.ref f) (.ref x))
  | .ext φ => φ h ∧ (∃ o, h.get? a = some o) ∧ ∀ h1 h2 : Heap, φ h1 → (∀ o, h1.get? a = some o → h2.get? a = some o) → φ h2
/-- the abstract heap is held -/
def HOk (H : Hp) (h : Heap) : Prop := ∀ a o, H a = some o → ObjOk P w H h a o
end

section
variable {P : Program} {w : World} {H H' : Hp} {h h' : Heap} {a : Addr} {o : HO}
theorem ObjOk.lt (x : ObjOk P w H h a o) : a < h.objs.size := by
  cases o with
  | lst xs => obtain ⟨_, _, _, _, e⟩ := x; exact Heap.lt_size e
  | tup xs => obtain ⟨_, _, _, p⟩ := x; exact p.lt
  | dK kvs => obtain ⟨_, _, _, _, o, _, _, e, _⟩ := x; exact Heap.lt_size e
  | dT kvs => obtain ⟨_, _, _, _, o, _, _, e, _⟩ := x; exact Heap.lt_size e
  | set S n => obtain ⟨o, _, _, _, e, _⟩ := x; exact Heap.lt_size e
  | ins C dx fs => obtain ⟨_, _, _, e, _⟩ := x; exact Heap.lt_size e
  | own y => obtain ⟨_, e⟩ := x; exact Heap.lt_size e
  | xd fs => obtain ⟨_, ⟨_, _, _, e, _⟩, _⟩ := x; exact Heap.lt_size e
  | rng lo hi => obtain ⟨_, _, _, e⟩ := x; exact Heap.lt_size e
  | frz ob u => obtain ⟨e, _⟩ := x; exact Heap.lt_size e
  | tbl ps => exact Heap.lt_size (show h.get? a = some _ from x)
  | met f y => exact Heap.lt_size (show h.get? a = some _ from x)
  | ext φ => obtain ⟨_, ⟨_, e⟩, _⟩ := x; exact Heap.lt_size e
theorem Paired.mapP {α β : Type} {F G : α → β → Prop} : ∀ {l₁ : List α} {l₂ : List β}, Paired F l₁ l₂ → (∀ a b, F a b → G a b) → Paired G l₁ l₂
  | _, _, .nil, _ => .nil
  | _, _, .cons r t, f => .cons (f _ _ r) (Paired.mapP t f)
/-- what an object's description leans on: its own object, its own dict, the tuples -/
theorem ObjOk.stay (x : ObjOk P w H h a o) (k : ∀ b u, (b = a ∨ H b = some (.own a)) → h.get? b = some u → h'.get? b = some u)
    (ho : ∀ b, H b = some (.own a) → H' b = some (.own a)) (ht : ∀ b xs, H b = some (.tup xs) → H' b = some (.tup xs)) : ObjOk P w H' h' a o := by
  induction o with
  | lst xs => obtain ⟨z, its, n, r, e⟩ := x; exact ⟨z, its, n, r, k _ _ (.inl rfl) e⟩
  | tup xs => obtain ⟨z, its, r, ob, e, c⟩ := x; exact ⟨z, its, r, ob, k _ _ (.inl rfl) e, c⟩
  | dK kvs => obtain ⟨z, y, vs, r, ob, es, ep, e, c⟩ := x; exact ⟨z, y, vs, r, ob, es, ep, k _ _ (.inl rfl) e, c⟩
  | dT kvs =>
    obtain ⟨z, y, xs, r, ob, es, ep, e, c⟩ := x
    exact ⟨z, y, xs, Paired.mapP r fun p q z => ⟨z.1, ht _ _ z.2.1, z.2.2⟩, ob, es, ep, k _ _ (.inl rfl) e, c⟩
  | set S n => obtain ⟨ob, es, ep, t, e, c⟩ := x; exact ⟨ob, es, ep, t, k _ _ (.inl rfl) e, c⟩
  | ins C dx fs =>
    obtain ⟨d, z, ne, e, mA, ⟨od, es, ep, e2, c⟩, r⟩ := x
    exact ⟨ho _ d, z, ne, k _ _ (.inl rfl) e, mA, ⟨od, es, ep, k _ _ (.inr d) e2, c⟩, r⟩
  | own y => obtain ⟨ob, e⟩ := x; exact ⟨ob, k _ _ (.inl rfl) e⟩
  | xd fs => obtain ⟨mA, ⟨od, es, ep, e, c⟩, r⟩ := x; exact ⟨mA, ⟨od, es, ep, k _ _ (.inl rfl) e, c⟩, r⟩
  | rng lo hi => obtain ⟨t, u, v, e⟩ := x; exact ⟨t, u, v, k _ _ (.inl rfl) e⟩
  | frz ob u ih => obtain ⟨e, q⟩ := x; exact ⟨k _ _ (.inl rfl) e, ih q⟩
  | tbl ps =>
    have e : h.get? a = some { cls := .none, data := .fields ps } := x
    show h'.get? a = some { cls := .none, data := .fields ps }
    exact k a _ (.inl rfl) e
  | met f y =>
    have e : h.get? a = some (PySem.W.methodObj (.ref f) (.ref y)) := x
    show h'.get? a = some (PySem.W.methodObj (.ref f) (.ref y))
    exact k a _ (.inl rfl) e
  | ext φ => obtain ⟨p, ⟨o, e⟩, st⟩ := x; exact ⟨st _ _ p fun o q => k _ _ (.inl rfl) q, ⟨o, k _ _ (.inl rfl) e⟩, st⟩
theorem HOk.lt (x : HOk P w H h) (e : H a = some o) : a < h.objs.size := (x a o e).lt
theorem HOk.fresh (x : HOk P w H h) (e : h.objs.size ≤ a) : H a = none := by
  cases q : H a with
  | none => rfl
  | some u => exact absurd (Nat.lt_of_lt_of_le (x.lt q) e) (Nat.lt_irrefl _)
/-- every object of the heap is kept -/
theorem HOk.kept (x : HOk P w H h) (k : ∀ b u, h.get? b = some u → h'.get? b = some u) : HOk P w H h' := fun a o e =>
  (x a o e).stay (fun b u _ q => k b u q) (fun _ q => q) fun _ _ q => q
/-- a new object is laid and tracked -/
theorem HOk.laid (x : HOk P w H h) (k : ∀ b u, h.get? b = some u → h'.get? b = some u) (hp : h.objs.size ≤ a) (new : ObjOk P w (upd H a o) h' a o) : HOk P w (upd H a o) h' := fun b u e => by
  have hn := x.fresh hp
  by_cases hb : b = a
  · subst hb; rw [upd_same] at e; cases e; exact new
  · rw [upd_ne hb] at e
    exact (x b u e).stay (fun c v _ q => k c v q) (fun c q => by rw [upd_ne (ne_of_none q hn)]; exact q) fun c xs q => by rw [upd_ne (ne_of_none q hn)]; exact q
end

/-- what may be read as u: it is u, or a known u -/
def Rd (H : Hp) (a : Addr) (u : HO) : Prop := H a = some u ∨ ∃ o, H a = some (.frz o u)
theorem Rd.ok {P : Program} {w : World} {H : Hp} {h : Heap} {a : Addr} {u : HO} (r : Rd H a u) (x : HOk P w H h) : ObjOk P w H h a u := by
  rcases r with r | ⟨o, r⟩
  · exact x a u r
  · obtain ⟨_, q⟩ := x a _ r
    exact q
/-- what may be written -/
def Mut : Option HO → Prop
  | some (.lst _) => True
  | some (.dK _) => True
  | some (.dT _) => True
  | some (.set _ _) => True
  | some (.ins _ _ _) => True
  | some (.ext _) => True
  | _ => False
section
variable {P : Program} {w : World} {H : Hp} {h h' : Heap} {x e : Addr} {o' : HO}
/-- the object at e is changed: x itself, or the dict of the instance x -/
theorem HOk.write (ok : HOk P w H h) (mu : Mut (H x)) (he : e = x ∨ H e = some (.own x)) (k : ∀ b u, b ≠ e → h.get? b = some u → h'.get? b = some u) (heo : ∃ u, h'.get? e = some u)
    (new : ObjOk P w (upd H x o') h' x o') : HOk P w (upd H x o') h' := fun b u q => by
  have nown : ∀ c y, H c = some (.own y) → c ≠ x := fun c y r z => by subst z; rw [r] at mu; exact mu
  have ntup : ∀ c xs, H c = some (.tup xs) → c ≠ x := fun c xs r z => by subst z; rw [r] at mu; exact mu
  by_cases hb : b = x
  · subst hb; rw [upd_same] at q; cases q; exact new
  · rw [upd_ne hb] at q
    by_cases hbe : b = e
    · have q' : H b = some (.own x) := by
        rcases he with z | z
        · exact absurd (hbe.trans z) hb
        · rw [hbe]; exact z
      rw [q] at q'; cases q'
      obtain ⟨v, hv⟩ := heo
      exact ⟨v, by rw [hbe]; exact hv⟩
    · refine (ok b u q).stay (fun c v hc r => k c v ?_ r) (fun c r => by rw [upd_ne (nown c b r)]; exact r) fun c xs r => by rw [upd_ne (ntup c xs r)]; exact r
      rcases hc with rfl | hc
      · exact hbe
      · rintro rfl
        rcases he with z | z
        · exact nown c b hc z
        · rw [hc] at z; cases z; exact hb rfl
end

/-! ### kept unless tracked; of the frames at fs (the callers') the slots may change (an exception that passes writes there); of the records at ex (iterators) nothing is said -/
structure Un (fs ex : List Addr) (H H' : Hp) (h h' : Heap) : Prop where
  keep : ∀ b o, h.get? b = some o → H b = none → b ∉ fs → b ∉ ex → h'.get? b = some o
  slot : ∀ b o, h.get? b = some o → H b = none → b ∈ fs → b ∉ ex → ∃ sl, h'.get? b = some { o with slots := sl }
  free : ∀ b o, h.get? b = some o → H b = none → b ∉ ex → H' b = none
  there : ∀ b o, h.get? b = some o → b ∉ ex → ∃ o', h'.get? b = some o'
  tups : ∀ b xs, H b = some (.tup xs) → H' b = some (.tup xs)
  frzs : ∀ b o u, H b = some (.frz o u) → H' b = some (.frz o u)
  tbls : ∀ b ps, H b = some (.tbl ps) → ∃ more, H' b = some (.tbl (ps ++ more))
section
variable {fs fs' ex ex' : List Addr} {H H1 H2 : Hp} {h h1 h2 h' : Heap} {a x e : Addr} {o : HO}
theorem Un.any (u : Un fs ex H H1 h h1) {b : Addr} {ob : Obj} (q : h.get? b = some ob) (n : H b = none) (hx : b ∉ ex) : ∃ sl, h1.get? b = some { ob with slots := sl } := by
  by_cases hb : b ∈ fs
  · exact u.slot b ob q n hb hx
  · exact ⟨ob.slots, u.keep b ob q n hb hx⟩
theorem Un.kept (k : ∀ b u, h.get? b = some u → h'.get? b = some u) : Un fs ex H H h h' :=
  ⟨fun b ob q _ _ _ => k b ob q, fun b ob q _ _ _ => ⟨ob.slots, k b ob q⟩, fun _ _ _ n _ => n, fun b ob q _ => ⟨ob, k b ob q⟩, fun _ _ q => q, fun _ _ _ q => q, fun _ ps q => ⟨#[], by rw [q]; simp⟩⟩
theorem Un.refl : Un fs ex H H h h := Un.kept fun _ _ q => q
theorem Un.laid (k : ∀ b u, h.get? b = some u → h'.get? b = some u) (hp : h.objs.size ≤ a) (hn : H a = none) : Un fs ex H (upd H a o) h h' where
  keep := fun b u q _ _ _ => k b u q
  slot := fun b u q _ _ _ => ⟨u.slots, k b u q⟩
  free := fun b u q n _ => by rw [upd_ne (Nat.ne_of_lt (Nat.lt_of_lt_of_le (Heap.lt_size q) hp))]; exact n
  there := fun b u q _ => ⟨u, k b u q⟩
  tups := fun b xs q => by rw [upd_ne (ne_of_none q hn)]; exact q
  frzs := fun b u xs q => by rw [upd_ne (ne_of_none q hn)]; exact q
  tbls := fun b ps q => ⟨#[], by rw [upd_ne (ne_of_none q hn), q]; simp⟩
theorem Un.write (mu : Mut (H x)) (he : e = x ∨ H e = some (.own x)) (k : ∀ b u, b ≠ e → h.get? b = some u → h'.get? b = some u) (heo : ∃ u, h'.get? e = some u) : Un fs ex H (upd H x o) h h' := by
  have hx : ∀ b, H b = none → b ≠ x := fun b n z => by subst z; rw [n] at mu; exact mu
  have hb : ∀ b, H b = none → b ≠ e := fun b n z => by
    subst z
    rcases he with r | r
    · exact hx b n r
    · rw [n] at r; cases r
  have hm : ∀ b u, H b = some u → ¬ Mut (some u) → b ≠ x := fun b u q nm z => by subst z; rw [q] at mu; exact nm mu
  refine ⟨fun b u q n _ _ => k b u (hb b n) q, fun b u q n _ _ => ⟨u.slots, k b u (hb b n) q⟩, fun b u q n _ => by rw [upd_ne (hx b n)]; exact n, fun b u q _ => ?_,
    fun b xs q => by rw [upd_ne (hm b _ q fun z => z)]; exact q, fun b u xs q => by rw [upd_ne (hm b _ q fun z => z)]; exact q, fun b ps q => ⟨#[], by rw [upd_ne (hm b _ q fun z => z), q]; simp⟩⟩
  by_cases hbe : b = e
  · subst hbe; exact heo
  · exact ⟨u, k b u hbe q⟩
end

/-! ### the heap without what is tracked -/
def trk (h : Heap) (H : Hp) : List Addr := (List.range h.objs.size).filter fun a => (H a).isSome
def hidT (h : Heap) (H : Hp) : Heap := PySem.W.hideAll h (trk h H)
theorem hidT_size (h : Heap) (H : Hp) : (hidT h H).objs.size = h.objs.size := PySem.W.hideAll_size _ _
theorem hidT_get {h : Heap} {H : Hp} {b : Addr} {o : Obj} (e : h.get? b = some o) (n : H b = none) : (hidT h H).get? b = some o :=
  PySem.W.hideAll_get _ e fun hm => by
    have q : (H b).isSome = true := (List.mem_filter.mp hm).2
    rw [n] at q; simp at q
theorem of_hidT {h : Heap} {H : Hp} {b : Addr} {o : Obj} (e : (hidT h H).get? b = some o) : h.get? b = some o ∧ H b = none := by
  have e' : h.get? b = some o := PySem.W.of_hideAll (trk h H) e
  refine ⟨e', ?_⟩
  cases q : H b with
  | none => rfl
  | some x =>
    have hm : b ∈ trk h H := List.mem_filter.mpr ⟨List.mem_range.mpr (Heap.lt_size e'), by simp [q]⟩
    have z : (hidT h H).get? b = none := PySem.W.hideAll_none (trk h H) hm
    rw [z] at e; cases e

/-! ### OpenK's ledger, filled with every new object but one -/
end L2

namespace L2
open PySem PySem.Spec PyProof.Rows

/-- the module's facts, over the base: the heap at the law's entry without what is tracked there -/
structure Mod (K : PySem.W.Frag) (mg : Str → Option Value) (base : Heap) : Prop where
  kin : K.In base
  glob : base.Ns mainGlobals mg
  blt : ∃ mb, base.Ns builtinsNs mb ∧ ∀ x : Str, x ≠ "__name__" → mb x = bootBuiltins x
  nolimit : base.NoLimit

/-- the context: a def's body (or a comprehension's block) running. base: fixed through the whole law; s₀, H₀: the entry; outer: the frames whose slots others may change (a def's callers); stack: all frames that run;
   ex: iterators that were made ahead of the entry and are walked here (a comprehension's); fn: the names whose cells were made at the entry (a def: all; a comprehension's block: its own); calm: not within an except suite; pn: pins that every state bears; xe: what is wanted of an exception that leaves the code -/
structure Cx where
  prog : Program
  w : World
  K : PySem.W.Frag
  mg : Str → Option Value
  base : Heap
  A : Around
  N : List Str
  s₀ : Shared
  H₀ : Hp
  env : Env
  outer : List Env
  stack : List Env
  ex : List Addr
  fn : Str → Bool
  calm : Bool
  pn : List (Addr × Obj)
  xe : Value → Shared → Prop
/-- the callers' frames -/
def frs (l : List Env) : List Addr := l.filterMap (·.frame)
abbrev Cx.fs (X : Cx) : List Addr := frs X.outer

def Vis (sc : Scope) (x : Str) : Prop := sc.names.lookup x = some .local ∨ sc.names.lookup x = some .cell ∨ sc.names.lookup x = some .free
def Loc (sc : Scope) (x : Str) : Prop := sc.names.lookup x = some .local ∨ sc.names.lookup x = some .cell
def Look (env : Env) (h : Heap) (m : Str → Option Value) (x : Str) (u : Value) : Prop :=
  (env.kindOf x = some .local ∧ m x = some u) ∨ ((env.kindOf x = some .cell ∨ env.kindOf x = some .free) ∧ ∃ c, env.cells.lookup x = some c ∧ h.IsCell c (some u))

structure Cx.Ok (X : Cx) : Prop where
  mod : Mod X.K X.mg X.base
  kind : X.env.scope.kind = .function
  glob : X.env.globals = mainGlobals
  blt : X.env.builtins = builtinsNs
  above : X.s₀.heap.objs.size ≤ X.env.locals
  inj : ∀ x y c, X.env.cells.lookup x = some c → X.env.cells.lookup y = some c → x = y
  has : ∀ x, (X.env.kindOf x = some .cell ∨ X.env.kindOf x = some .free) → ∃ c, X.env.cells.lookup x = some c
  cab : ∀ x c, X.fn x = true → X.env.cells.lookup x = some c → X.s₀.heap.objs.size ≤ c
  hd : X.calm = true → X.A.handled = none
  frames : X.A.frames = some X.stack
  stk : X.stack = X.outer ∨ (X.stack = X.env :: X.outer ∧ X.env.frame = some X.env.locals)
  exf : ∀ b ∈ X.ex, b ≠ X.env.locals ∧ ∀ x c, X.env.cells.lookup x = some c → c ≠ b
  bs : ∀ b o, X.base.get? b = some o → X.s₀.heap.get? b = some o ∧ X.H₀ b = none
  bsz : X.base.objs.size ≤ X.s₀.heap.objs.size
  noex : ∀ b o, X.base.get? b = some o → b ∉ X.ex
  exfs : ∀ b ∈ X.ex, b ∉ X.fs
  funs : X.s₀.heap.FunFrames X.base X.outer
  frf : ∀ b ∈ X.fs, X.H₀ b = none

structure Inv (X : Cx) (pins : List (Addr × Obj)) (σ : List (Option V)) (H : Hp) (s : Shared) : Prop where
  ok : X.Ok
  os : s.os = X.s₀.os
  bare : AllBare s.gens
  base : Un X.fs X.ex X.H₀ H X.s₀.heap s.heap
  loc : ∃ m, s.heap.Ns X.env.locals m ∧ ∀ (i : Nat) (x : Str) (v : V), X.N[i]? = some x → σ[i]? = some (some v) → Vis X.env.scope x → ∃ u, RelV v u ∧ Look X.env s.heap m x u
  cell : ∀ x c, X.env.cells.lookup x = some c → ∃ v, s.heap.IsCell c v
  free : H X.env.locals = none
  freeC : ∀ x c, X.env.cells.lookup x = some c → H c = none
  pin : ∀ p ∈ X.pn ++ pins, s.heap.get? p.1 = some p.2 ∧ H p.1 = none ∧ p.1 ≠ X.env.locals ∧ p.1 ∉ X.fs ∧ ∀ v, p.2.data ≠ .cell v
  hok : HOk X.prog X.w H s.heap
  len : σ.length = X.N.length

section
variable {X : Cx} {pins : List (Addr × Obj)} {σ : List (Option V)} {H H' : Hp} {s : Shared} {h' : Heap}

theorem Cx.Ok.nofr (ok : X.Ok) {b : Addr} {o : Obj} (e : X.base.get? b = some o) : b ∉ X.fs := fun hb => by
  have := (ok.funs.mem hb).1
  rw [e] at this; cases this
theorem Inv.bs (I : Inv X pins σ H s) : ∀ b o, X.base.get? b = some o → s.heap.get? b = some o ∧ H b = none := fun b o e =>
  ⟨I.base.keep b o (I.ok.bs b o e).1 (I.ok.bs b o e).2 (I.ok.nofr e) (I.ok.noex b o e), I.base.free b o (I.ok.bs b o e).1 (I.ok.bs b o e).2 (I.ok.noex b o e)⟩
theorem Inv.bk (I : Inv X pins σ H s) : ∀ b o, X.base.get? b = some o → s.heap.get? b = some o := fun b o e => (I.bs b o e).1
theorem Inv.mod (I : Inv X pins σ H s) : Mod X.K X.mg X.base := I.ok.mod
theorem Inv.kIn (I : Inv X pins σ H s) : X.K.In s.heap := I.ok.mod.kin.keeps I.bk
theorem Inv.lt (I : Inv X pins σ H s) : X.env.locals < s.heap.objs.size := let ⟨_, hn, _⟩ := I.loc; hn.lt
theorem Inv.sz (I : Inv X pins σ H s) : X.s₀.heap.objs.size ≤ s.heap.objs.size := Nat.le_trans I.ok.above (Nat.le_of_lt I.lt)
theorem Inv.nofs (I : Inv X pins σ H s) {a : Addr} (h : s.heap.objs.size ≤ a) : a ∉ X.fs := fun hb => by
  obtain ⟨_, o, ho, _⟩ := I.ok.funs.mem hb
  exact absurd (Nat.lt_of_lt_of_le (Heap.lt_size ho) (Nat.le_trans I.sz h)) (Nat.lt_irrefl _)
theorem Inv.cne (I : Inv X pins σ H s) : ∀ x c, X.env.cells.lookup x = some c → c ≠ X.env.locals := fun x c e z => by
  obtain ⟨v, o, ho, hd⟩ := I.cell x c e
  obtain ⟨m, ⟨o', es, ep, ho', hd', _⟩, _⟩ := I.loc
  rw [z, ho'] at ho; cases ho; rw [hd'] at hd; cases hd
theorem Inv.funs (I : Inv X pins σ H s) : s.heap.FunFrames X.base X.outer := by
  have all : ∀ (l : List Env), (∀ b ∈ frs l, b ∈ X.fs) → X.s₀.heap.FunFrames X.base l → s.heap.FunFrames X.base l := by
    intro l
    induction l with
    | nil => intro _ _; trivial
    | cons env r ih =>
      intro hs hl
      obtain ⟨hk, ⟨L, o, hf, hn, ho, hd⟩, hr⟩ := hl
      have hL : L ∈ X.fs := hs L (by unfold frs; rw [List.filterMap_cons, hf]; exact List.mem_cons_self)
      obtain ⟨sl, e⟩ := I.base.slot L o ho (I.ok.frf L hL) hL fun z => I.ok.exfs L z hL
      exact ⟨hk, ⟨L, _, hf, hn, e, hd⟩, ih (fun b hb => hs b (by unfold frs; rw [List.filterMap_cons, hf]; exact List.mem_cons_of_mem _ hb)) hr⟩
  exact all X.outer (fun _ hb => hb) I.ok.funs

/-- the frames that run, for a call -/
theorem Inv.stack (I : Inv X pins σ H s) : s.heap.FunFrames X.base X.stack := by
  rcases I.ok.stk with e | ⟨e, hf⟩
  · rw [e]; exact I.funs
  · rw [e]
    obtain ⟨m, hn, _⟩ := I.loc
    refine .cons (by rw [I.ok.kind]; decide) hf hn ?_ I.funs
    exact Heap.get?_none_of_le (Nat.le_trans I.ok.bsz I.ok.above)
theorem Inv.stkSub (I : Inv X pins σ H s) : ∀ b ∈ frs X.stack, b ∈ X.env.locals :: X.fs := fun b hb => by
  rcases I.ok.stk with e | ⟨e, hf⟩
  · rw [e] at hb; exact List.mem_cons_of_mem _ hb
  · rw [e] at hb
    unfold frs at hb
    rw [List.filterMap_cons, hf] at hb
    exact hb
theorem Inv.stkFree (I : Inv X pins σ H s) : ∀ b ∈ frs X.stack, H b = none := fun b hb => by
  rcases List.mem_cons.mp (I.stkSub b hb) with e | hb
  · rw [e]; exact I.free
  · obtain ⟨_, o, ho, _⟩ := I.ok.funs.mem hb
    exact I.base.free b o ho (I.ok.frf b hb) fun z => I.ok.exfs b z hb

/-- THE STEP: the untracked objects but the frame and the records at ch are kept (the callers' frames up to slots), the frame's map is kept, the new abstract heap is held -/
theorem Inv.step {g' : Array GenState} {t' : Nat} {d' : Drawn} {ch : List Addr} (I : Inv X pins σ H s)
    (hch : ∀ b ∈ ch, (b ∈ X.ex ∨ X.s₀.heap.objs.size ≤ b) ∧ b ≠ X.env.locals ∧ (∀ x c, X.env.cells.lookup x = some c → c ≠ b) ∧ ∀ p ∈ X.pn ++ pins, p.1 ≠ b)
    (keep : ∀ b o, b ≠ X.env.locals → b ∉ X.fs → b ∉ ch → s.heap.get? b = some o → H b = none → h'.get? b = some o)
    (slot : ∀ b o, b ≠ X.env.locals → b ∈ X.fs → b ∉ ch → s.heap.get? b = some o → H b = none → ∃ sl, h'.get? b = some { o with slots := sl }) (free : ∀ b o, b ∉ ch → s.heap.get? b = some o → H b = none → H' b = none)
    (there : ∀ b o, b ∉ ch → s.heap.get? b = some o → ∃ o', h'.get? b = some o')
    (tups : ∀ b xs, H b = some (.tup xs) → H' b = some (.tup xs)) (frzs : ∀ b o u, H b = some (.frz o u) → H' b = some (.frz o u)) (tbls : ∀ b ps, H b = some (.tbl ps) → ∃ more, H' b = some (.tbl (ps ++ more)))
    (ns : ∀ m, s.heap.Ns X.env.locals m → h'.Ns X.env.locals m) (hok : HOk X.prog X.w H' h') (hg : AllBare g') :
    Inv X pins σ H' { s with heap := h', gens := g', drawn := d', toks := t' } := by
  have neL : ∀ b o, X.s₀.heap.get? b = some o → b ≠ X.env.locals := fun b o e => Nat.ne_of_lt (Nat.lt_of_lt_of_le (Heap.lt_size e) I.ok.above)
  have neC : ∀ b o, X.s₀.heap.get? b = some o → b ∉ X.ex → b ∉ ch := fun b o e hx hb => by
    rcases (hch b hb).1 with z | z
    · exact hx z
    · exact absurd (Nat.lt_of_lt_of_le (Heap.lt_size e) z) (Nat.lt_irrefl _)
  have cellK : ∀ x c, X.env.cells.lookup x = some c → ∀ v, s.heap.IsCell c v → h'.IsCell c v := fun x c e v ⟨o, ho, hd⟩ => by
    have nch : c ∉ ch := fun z => (hch c z).2.2.1 x c e rfl
    by_cases hc : c ∈ X.fs
    · obtain ⟨sl, q⟩ := slot c o (I.cne x c e) hc nch ho (I.freeC x c e)
      exact ⟨_, q, hd⟩
    · exact ⟨o, keep c o (I.cne x c e) hc nch ho (I.freeC x c e), hd⟩
  refine ⟨I.ok, I.os, hg, ⟨fun b o e n hb hx => ?_, fun b o e n hb hx => ?_, fun b o e n hx => ?_, fun b o e hx => ?_, fun b xs e => tups b xs (I.base.tups b xs e), fun b o xs e => frzs b o xs (I.base.frzs b o xs e), fun b ps e => ?_⟩, ?_, fun x c e => ?_, ?_, fun x c e => ?_, fun p hp => ?_, hok, I.len⟩
  · exact keep b o (neL b o e) hb (neC b o e hx) (I.base.keep b o e n hb hx) (I.base.free b o e n hx)
  · obtain ⟨sl, e1⟩ := I.base.slot b o e n hb hx
    obtain ⟨sl', e2⟩ := slot b _ (neL b o e) hb (neC b o e hx) e1 (I.base.free b o e n hx)
    exact ⟨sl', e2⟩
  · obtain ⟨o', e1⟩ := I.base.there b o e hx
    exact free b o' (neC b o e hx) e1 (I.base.free b o e n hx)
  · obtain ⟨o', e1⟩ := I.base.there b o e hx
    exact there b o' (neC b o e hx) e1
  · obtain ⟨m1, e1⟩ := I.base.tbls b ps e
    obtain ⟨m2, e2⟩ := tbls b _ e1
    exact ⟨m1 ++ m2, by rw [e2, Array.append_assoc]⟩
  · obtain ⟨m, hn, hl⟩ := I.loc
    refine ⟨m, ns m hn, fun i x v e1 e2 e3 => ?_⟩
    obtain ⟨u, r, l⟩ := hl i x v e1 e2 e3
    refine ⟨u, r, ?_⟩
    rcases l with l | ⟨k, c, e, z⟩
    · exact .inl l
    · exact .inr ⟨k, c, e, cellK x c e _ z⟩
  · obtain ⟨v, z⟩ := I.cell x c e
    exact ⟨v, cellK x c e v z⟩
  · obtain ⟨m, ⟨o, _, _, ho, _⟩, _⟩ := I.loc
    exact free _ o (fun z => (hch _ z).2.1 rfl) ho I.free
  · obtain ⟨v, o, ho, hd⟩ := I.cell x c e
    exact free c o (fun z => (hch c z).2.2.1 x c e rfl) ho (I.freeC x c e)
  · obtain ⟨e, n, ne, nf, d⟩ := I.pin p hp
    have nch : p.1 ∉ ch := fun z => (hch p.1 z).2.2.2 p hp rfl
    exact ⟨keep p.1 p.2 ne nf nch e n, free p.1 p.2 nch e n, ne, nf, d⟩
/-- .. where the frame's own object is kept too -/
theorem Inv.un {t' : Nat} (I : Inv X pins σ H s) (u : Un X.fs [] H H' s.heap h') (hok : HOk X.prog X.w H' h') : Inv X pins σ H' { s with heap := h', toks := t' } := by
  obtain ⟨m, ⟨o, es, ep, ho, r⟩, _⟩ := id I.loc
  obtain ⟨sl, hL⟩ := u.any ho I.free (by simp)
  exact I.step (g' := s.gens) (d' := s.drawn) (ch := []) (fun _ z => nomatch z) (fun b o _ hb _ e n => u.keep b o e n hb (by simp)) (fun b o _ hb _ e n => u.slot b o e n hb (by simp)) (fun b o _ e n => u.free b o e n (by simp)) (fun b o _ e => u.there b o e (by simp)) u.tups u.frzs u.tbls (fun m' hm => by
    obtain ⟨o', es', ep', ho', r'⟩ := hm
    rw [ho] at ho'; cases ho'
    exact ⟨_, es', ep', hL, r'⟩) hok I.bare
/-- behind a call (or a comprehension's block): the slots of this frame may have changed too, the records at ch may have turned -/
theorem Inv.call {g' : Array GenState} {t' : Nat} {d' : Drawn} {ch : List Addr} (I : Inv X pins σ H s) (u : Un (frs X.stack) ch H H' s.heap h') (hok : HOk X.prog X.w H' h') (hg : AllBare g')
    (hch : ∀ b ∈ ch, (b ∈ X.ex ∨ X.s₀.heap.objs.size ≤ b) ∧ b ≠ X.env.locals ∧ (∀ x c, X.env.cells.lookup x = some c → c ≠ b) ∧ ∀ p ∈ X.pn ++ pins, p.1 ≠ b) :
    Inv X pins σ H' { s with heap := h', gens := g', drawn := d', toks := t' } := by
  obtain ⟨m, ⟨o, es, ep, ho, r⟩, _⟩ := id I.loc
  obtain ⟨sl, hL⟩ := u.any ho I.free fun z => (hch _ z).2.1 rfl
  exact I.step (ch := ch) hch (fun b o hL hb hc e n => u.keep b o e n (fun z => (List.mem_cons.mp (I.stkSub b z)).elim hL hb) hc) (fun b o _ _ hc e n => u.any e n hc) (fun b o hc e n => u.free b o e n hc) (fun b o hc e => u.there b o e hc) u.tups u.frzs u.tbls (fun m' hm => by
    obtain ⟨o', es', ep', ho', r'⟩ := hm
    rw [ho] at ho'; cases ho'
    exact ⟨_, es', ep', hL, r'⟩) hok hg
/-- an untracked record of ours (an iterator) has turned -/
theorem Inv.turned {t' : Nat} {it : Addr} (I : Inv X pins σ H s) (k : ∀ b o, b ≠ it → s.heap.get? b = some o → h'.get? b = some o) (hn : H it = none) (hL : it ≠ X.env.locals)
    (h1 : it ∈ X.ex ∨ X.s₀.heap.objs.size ≤ it) (h2 : ∀ x c, X.env.cells.lookup x = some c → c ≠ it) (h3 : ∀ p ∈ X.pn ++ pins, p.1 ≠ it) : Inv X pins σ H { s with heap := h', toks := t' } := by
  have nit : ∀ b u, H b = some u → b ≠ it := fun b u e z => by rw [z, hn] at e; cases e
  refine I.step (g' := s.gens) (d' := s.drawn) (ch := [it]) (fun b hb => ?_) (fun b o _ _ hc e _ => k b o (fun z => hc (by simp [z])) e) (fun b o _ _ hc e _ => ⟨o.slots, k b o (fun z => hc (by simp [z])) e⟩) (fun _ _ _ _ n => n)
    (fun b o hc e => ⟨o, k b o (fun z => hc (by simp [z])) e⟩) (fun _ _ e => e) (fun _ _ _ e => e) (fun b ps e => ⟨#[], by rw [e]; simp⟩) (fun m hm => ?_) (fun b u e => ?_) I.bare
  · have e : b = it := by simpa using hb
    subst e
    exact ⟨h1, hL, h2, h3⟩
  · obtain ⟨o, es, ep, ho, r⟩ := hm
    exact ⟨o, es, ep, k _ o (Ne.symm hL) ho, r⟩
  · refine (I.hok b u e).stay (fun c v hc q => k c v ?_ q) (fun _ q => q) fun _ _ q => q
    rcases hc with z | z
    · rw [z]; exact nit b u e
    · exact nit c _ z
theorem Inv.tok (I : Inv X pins σ H s) (t : Nat) : Inv X pins σ H { s with toks := t } := I.un (h' := s.heap) (t' := t) Un.refl I.hok
/-- all objects kept -/
theorem Inv.kept {t' : Nat} (I : Inv X pins σ H s) (k : ∀ b u, s.heap.get? b = some u → h'.get? b = some u) : Inv X pins σ H { s with heap := h', toks := t' } := I.un (Un.kept k) (I.hok.kept k)
/-- a new object laid and tracked -/
theorem Inv.laid {a : Addr} {o : HO} {t' : Nat} (I : Inv X pins σ H s) (k : ∀ b u, s.heap.get? b = some u → h'.get? b = some u) (hp : s.heap.objs.size ≤ a) (new : ObjOk X.prog X.w (upd H a o) h' a o) :
    Inv X pins σ (upd H a o) { s with heap := h', toks := t' } := I.un (Un.laid k hp (I.hok.fresh hp)) (I.hok.laid k hp new)
/-- an object written -/
theorem Inv.write {x e : Addr} {o : HO} {t' : Nat} (I : Inv X pins σ H s) (mu : Mut (H x)) (he : e = x ∨ H e = some (.own x)) (k : ∀ b u, b ≠ e → s.heap.get? b = some u → h'.get? b = some u) (heo : ∃ u, h'.get? e = some u)
    (new : ObjOk X.prog X.w (upd H x o) h' x o) : Inv X pins σ (upd H x o) { s with heap := h', toks := t' } := I.un (Un.write mu he k heo) (I.hok.write mu he k heo new)
/-- forgetting slots, pins -/
theorem Inv.weak {σ' : List (Option V)} (I : Inv X pins σ H s) (hl : σ'.length = σ.length) (w : ∀ (i : Nat) v, σ'[i]? = some (some v) → σ[i]? = some (some v)) : Inv X pins σ' H s :=
  ⟨I.ok, I.os, I.bare, I.base, let ⟨m, hn, hl'⟩ := I.loc; ⟨m, hn, fun i x v e1 e2 e3 => hl' i x v e1 (w i v e2) e3⟩, I.cell, I.free, I.freeC, I.pin, I.hok, hl.trans I.len⟩
theorem Inv.pins_of {pins' : List (Addr × Obj)} (I : Inv X pins σ H s) (h : ∀ p ∈ pins', s.heap.get? p.1 = some p.2 ∧ H p.1 = none ∧ p.1 ≠ X.env.locals ∧ p.1 ∉ X.fs ∧ ∀ v, p.2.data ≠ .cell v) : Inv X pins' σ H s :=
  ⟨I.ok, I.os, I.bare, I.base, I.loc, I.cell, I.free, I.freeC, fun p hp => (List.mem_append.mp hp).elim (fun z => I.pin p (List.mem_append_left _ z)) (h p), I.hok, I.len⟩

theorem nodup_ix {N : List Str} (hN : N.Nodup) {i j : Nat} {x : Str} (a : N[i]? = some x) (b : N[j]? = some x) : i = j := by
  obtain ⟨h1, e1⟩ := List.getElem?_eq_some_iff.mp a
  obtain ⟨h2, e2⟩ := List.getElem?_eq_some_iff.mp b
  exact (List.getElem_inj hN).mp (e1.trans e2.symm)

/-- a name is stored; what changed -/
theorem store_ok2 {M : Model} {A : Around} {E : Value → Shared → Prop} {i : Nat} {x : Str} {v : V} {u : Value} {Q : Unit → Shared → Prop} (I : Inv X pins σ H s) (hN : X.N.Nodup) (hi : X.N[i]? = some x) (hx : Loc X.env.scope x) (r : RelV v u)
    (h : ∀ s', Inv X pins (σ.set i (some v)) H s' → (∃ a, Heap.SameBut a s.heap s'.heap ∧ (a = X.env.locals ∨ X.env.cells.lookup x = some a)) → Q () s') (hf : X.fn x = true ∨ X.env.scope.names.lookup x = some .local := by first | exact .inl rfl | exact .inr rfl | assumption) : wpAny M A (storeName X.env x u) Q E s := by
  obtain ⟨m, hn, hl⟩ := id I.loc
  have hcls : (X.env.scope.kind == .class || (X.env.scope.kind == .module && X.env.locals != X.env.globals)) = false := by rw [I.ok.kind]; rfl
  have hiσ : i < σ.length := by rw [I.len]; exact (List.getElem?_eq_some_iff.mp hi).1
  have cne := I.cne
  have tracked : ∀ {a : Addr} {h' : Heap}, (∃ o, s.heap.get? a = some o ∧ H a = none) → Heap.SameBut a s.heap h' → HOk X.prog X.w H h' := fun {a h'} ha hs b ob e => by
    obtain ⟨_, _, hfree⟩ := ha
    refine (I.hok b ob e).stay (fun c w' hc q => (hs.2 c ?_).trans q) (fun _ q => q) fun _ _ q => q
    rintro rfl
    rcases hc with rfl | hc
    · rw [hfree] at e; cases e
    · rw [hfree] at hc; cases hc
  rcases hx with hk | hk
  · refine wpAny_storeName_local hk hn (fun h' hn' hs => ?_) hcls
    obtain ⟨oL, _, _, hoL, _⟩ := id hn
    refine h _ ⟨I.ok, I.os, I.bare, ⟨fun b o e n hb hx => ?_, fun b o e n hb hx => ?_, I.base.free, fun b o e hx => ?_, I.base.tups, I.base.frzs, I.base.tbls⟩, ⟨_, hn', fun j y v' e1 e2 e3 => ?_⟩, fun y c e => ?_, I.free, I.freeC, fun p hp => ?_, tracked ⟨oL, hoL, I.free⟩ hs, by simpa using I.len⟩ ⟨_, hs, .inl rfl⟩
    · exact (hs.2 b (Nat.ne_of_lt (Nat.lt_of_lt_of_le (Heap.lt_size e) I.ok.above))).trans (I.base.keep b o e n hb hx)
    · obtain ⟨sl, e1⟩ := I.base.slot b o e n hb hx
      exact ⟨sl, (hs.2 b (Nat.ne_of_lt (Nat.lt_of_lt_of_le (Heap.lt_size e) I.ok.above))).trans e1⟩
    · obtain ⟨o', e1⟩ := I.base.there b o e hx
      exact ⟨o', (hs.2 b (Nat.ne_of_lt (Nat.lt_of_lt_of_le (Heap.lt_size e) I.ok.above))).trans e1⟩
    · by_cases hj : j = i
      · subst hj
        rw [hi] at e1; cases e1
        rw [List.getElem?_set_self hiσ] at e2
        cases e2
        exact ⟨u, r, .inl ⟨hk, by simp⟩⟩
      · rw [List.getElem?_set_ne (Ne.symm hj)] at e2
        obtain ⟨u', r', q⟩ := hl j y v' e1 e2 e3
        refine ⟨u', r', ?_⟩
        rcases q with ⟨k, e⟩ | ⟨k, c, e, z⟩
        · refine .inl ⟨k, ?_⟩
          have : y ≠ x := fun e => hj (nodup_ix hN e1 (e ▸ hi))
          simp [this, e]
        · exact .inr ⟨k, c, e, z.sameBut hs (cne y c e)⟩
    · obtain ⟨w', z⟩ := I.cell y c e
      exact ⟨w', z.sameBut hs (cne y c e)⟩
    · obtain ⟨e, n, ne, nf, d⟩ := I.pin p hp
      exact ⟨(hs.2 p.1 ne).trans e, n, ne, nf, d⟩
  · have hfn : X.fn x = true := by
      rcases hf with z | z
      · exact z
      · rw [z] at hk; cases hk
    obtain ⟨c, hc⟩ := I.ok.has x (.inl hk)
    obtain ⟨w', z⟩ := I.cell x c hc
    refine wpAny_storeName_cell I.ok.kind hk hc z (fun h' hc' hs => ?_)
    obtain ⟨oc, hoc, hocd⟩ := id z
    refine h { s with heap := h' } ⟨I.ok, I.os, I.bare, ⟨fun b o e n hb hx => ?_, fun b o e n hb hx => ?_, I.base.free, fun b o e hx => ?_, I.base.tups, I.base.frzs, I.base.tbls⟩, ⟨m, hn.sameBut hs (Ne.symm (cne x c hc)), fun j y v' e1 e2 e3 => ?_⟩, fun y c' e => ?_, I.free, I.freeC, fun p hp => ?_, tracked ⟨oc, hoc, I.freeC x c hc⟩ hs, by simpa using I.len⟩ ⟨c, hs, .inr hc⟩
    · exact (hs.2 b (Nat.ne_of_lt (Nat.lt_of_lt_of_le (Heap.lt_size e) (I.ok.cab x c hfn hc)))).trans (I.base.keep b o e n hb hx)
    · obtain ⟨sl, e1⟩ := I.base.slot b o e n hb hx
      exact ⟨sl, (hs.2 b (Nat.ne_of_lt (Nat.lt_of_lt_of_le (Heap.lt_size e) (I.ok.cab x c hfn hc)))).trans e1⟩
    · obtain ⟨o', e1⟩ := I.base.there b o e hx
      exact ⟨o', (hs.2 b (Nat.ne_of_lt (Nat.lt_of_lt_of_le (Heap.lt_size e) (I.ok.cab x c hfn hc)))).trans e1⟩
    · by_cases hj : j = i
      · subst hj
        rw [hi] at e1; cases e1
        rw [List.getElem?_set_self hiσ] at e2
        cases e2
        exact ⟨u, r, .inr ⟨.inl hk, c, hc, hc'⟩⟩
      · rw [List.getElem?_set_ne (Ne.symm hj)] at e2
        obtain ⟨u', r', q⟩ := hl j y v' e1 e2 e3
        refine ⟨u', r', ?_⟩
        rcases q with q | ⟨k, c', e, z'⟩
        · exact .inl q
        · refine .inr ⟨k, c', e, z'.sameBut hs ?_⟩
          rintro rfl
          exact hj (nodup_ix hN e1 (I.ok.inj _ _ _ e hc ▸ hi))
    · by_cases hcc : c' = c
      · subst hcc; exact ⟨_, hc'⟩
      · obtain ⟨w2, z2⟩ := I.cell y c' e
        exact ⟨w2, z2.sameBut hs hcc⟩
    · obtain ⟨e, n, ne, nf, d⟩ := I.pin p hp
      refine ⟨(hs.2 p.1 ?_).trans e, n, ne, nf, d⟩
      intro q
      rw [q, hoc] at e
      have q' : oc = p.2 := Option.some.inj e
      exact d w' (by rw [← q']; exact hocd)
theorem store_ok {M : Model} {A : Around} {E : Value → Shared → Prop} {i : Nat} {x : Str} {v : V} {u : Value} {Q : Unit → Shared → Prop} (I : Inv X pins σ H s) (hN : X.N.Nodup) (hi : X.N[i]? = some x) (hx : Loc X.env.scope x) (r : RelV v u)
    (h : ∀ s', Inv X pins (σ.set i (some v)) H s' → Q () s') (hf : X.fn x = true ∨ X.env.scope.names.lookup x = some .local := by first | exact .inl rfl | exact .inr rfl | assumption) : wpAny M A (storeName X.env x u) Q E s :=
  store_ok2 I hN hi hx r (fun s' I' _ => h s' I') hf
/-- behind a call or a block, the state as it is -/
theorem Inv.call' {s' : Shared} {ch : List Addr} (I : Inv X pins σ H s) (ho : s'.os = s.os) (u : Un (frs X.stack) ch H H' s.heap s'.heap) (hok : HOk X.prog X.w H' s'.heap) (hg : AllBare s'.gens)
    (hch : ∀ b ∈ ch, (b ∈ X.ex ∨ X.s₀.heap.objs.size ≤ b) ∧ b ≠ X.env.locals ∧ (∀ x c, X.env.cells.lookup x = some c → c ≠ b) ∧ ∀ p ∈ X.pn ++ pins, p.1 ≠ b) : Inv X pins σ H' s' := by
  obtain ⟨h', g', d', t', o'⟩ := s'
  have e : o' = s.os := ho
  subst e
  exact I.call (g' := g') (t' := t') (d' := d') u hok hg hch
end

/-! ### the judgements -/
/-- an exception: its class, its own dict's address (where it has one), the abstract heap behind it -/
abbrev XK := Value → Option Addr → Hp → Prop
abbrev St := List (Option V)
abbrev VK := V → Hp → Prop
/-- an expression's reading; a test's; an argument list's -/
abbrev TE := St → Hp → VK → Prop
abbrev TT := St → Hp → (Bool → Hp → Prop) → Prop
abbrev TA := St → Hp → (List V → Hp → Prop) → Prop
/-- what is wanted behind a statement -/
structure Ends where
  nx : St → Hp → Prop
  rt : VK
  bk : St → Hp → Prop := fun _ _ => False
  ct : St → Hp → Prop := fun _ _ => False
abbrev TS := Ends → St → Hp → Prop

def EP (X : Cx) (pins : List (Addr × Obj)) (σ : St) (Q : VK) (u : Value) (s' : Shared) : Prop := ∃ v H', Inv X pins σ H' s' ∧ RelV v u ∧ Q v H'
def TP (X : Cx) (pins : List (Addr × Obj)) (σ : St) (Q : Bool → Hp → Prop) (b : Bool) (s' : Shared) : Prop := ∃ H', Inv X pins σ H' s' ∧ Q b H'
def AP (X : Cx) (pins : List (Addr × Obj)) (σ : St) (Q : List V → Hp → Prop) (us : List Value) (s' : Shared) : Prop := ∃ vs H', Inv X pins σ H' s' ∧ Vals vs us ∧ Q vs H'
def SP (X : Cx) (pins : List (Addr × Obj)) (D : Ends) (f : Flow) (s' : Shared) : Prop :=
  match f with
  | .next => ∃ σ' H', Inv X pins σ' H' s' ∧ D.nx σ' H'
  | .brk => ∃ σ' H', Inv X pins σ' H' s' ∧ D.bk σ' H'
  | .cont => ∃ σ' H', Inv X pins σ' H' s' ∧ D.ct σ' H'
  | .ret u => ∃ v σ' H', Inv X pins σ' H' s' ∧ RelV v u ∧ D.rt v H'

def PE (X : Cx) (e : Expr) (t : TE) : Prop :=
  ∀ (pins : List (Addr × Obj)) (s : Shared) (σ : St) (H : Hp) (Q : VK), Inv X pins σ H s → t σ H Q → wpAny (model X.prog X.w) X.A (eval e X.env) (EP X pins σ Q) X.xe s
def PT (X : Cx) (e : Expr) (t : TT) : Prop :=
  ∀ (pins : List (Addr × Obj)) (s : Shared) (σ : St) (H : Hp) (Q : Bool → Hp → Prop), Inv X pins σ H s → t σ H Q → wpAny (model X.prog X.w) X.A (isTrue e X.env (eval e X.env)) (TP X pins σ Q) X.xe s
/-- a test whatever its 'whole' is (and, or) -/
def PW (X : Cx) (e : Expr) (t : TT) : Prop :=
  ∀ (whole : Sem Value) (pins : List (Addr × Obj)) (s : Shared) (σ : St) (H : Hp) (Q : Bool → Hp → Prop), Inv X pins σ H s → t σ H Q → wpAny (model X.prog X.w) X.A (isTrue e X.env whole) (TP X pins σ Q) X.xe s
theorem PW.pt {X : Cx} {e : Expr} {t : TT} (h : PW X e t) : PT X e t := h _
/-- an argument list (no star), from the left -/
def PA (X : Cx) (es : List Expr) (t : TA) : Prop :=
  ∀ (pos : Pos) (pins : List (Addr × Obj)) (s : Shared) (σ : St) (H : Hp) (Q : List V → Hp → Prop), Inv X pins σ H s → t σ H Q → wpAny (model X.prog X.w) X.A (spliced (backTo pos (starEach es X.env))) (AP X pins σ Q) X.xe s
def PS (X : Cx) (st : Stmt) (t : TS) : Prop :=
  ∀ (pins : List (Addr × Obj)) (s : Shared) (σ : St) (H : Hp) (D : Ends), Inv X pins σ H s → t D σ H → wpAny (model X.prog X.w) X.A (exec st X.env) (SP X pins D) X.xe s
def PSs (X : Cx) (st : List Stmt) (t : TS) : Prop :=
  ∀ (pins : List (Addr × Obj)) (s : Shared) (σ : St) (H : Hp) (D : Ends), Inv X pins σ H s → t D σ H → wpAny (model X.prog X.w) X.A (execs st X.env) (SP X pins D) X.xe s
/-- weaken the end -/
theorem thn {α : Type} {t : Sem α} {Q Q' : α → Shared → Prop} {M : Model} {A : Around} {E : Value → Shared → Prop} {s : Shared} (h : wpAny M A t Q E s) (hQ : ∀ a s, Q a s → Q' a s) : wpAny M A t Q' E s := wpAny_mono h hQ fun _ _ x => x
end L2

namespace L2
open PySem PySem.Spec PyProof.Rows
section
variable {X : Cx}


/-! ### names and constants -/
def tVar (i : Nat) : TE := fun σ H Q => ∃ v, σ[i]? = some (some v) ∧ Q v H
def tC (v : V) : TE := fun _ H Q => Q v H
theorem pe_var {i : Nat} {x : Str} {pos : Pos} (hN : X.N[i]? = some x) (hv : Vis X.env.scope x) (hd : (x == ("__debug__" : Str)) = false := by decide) (hcd : (x == ("__classdict__" : Str)) = false := by decide) : PE X (.Name x pos) (tVar i) := by
  intro pins s σ H Q I h
  obtain ⟨v, e, h⟩ := h
  obtain ⟨m, hn, hl⟩ := I.loc
  obtain ⟨u, r, l⟩ := hl i x v hN e hv
  have fin : EP X pins σ Q u s := ⟨v, H, I, r, h⟩
  rcases l with ⟨hk, hm⟩ | ⟨hk, c, hc, hcell⟩
  · exact wpAny_Name (wpAny_loadName_local I.ok.kind hk hn hm fin) hd
  · rcases hk with hk | hk
    · exact wpAny_Name (wpAny_loadName_cell I.ok.kind hk hc hcell fin) hd
    · exact wpAny_Name (wpAny_loadName_free I.ok.kind hk hc hcell fin hcd) hd
theorem pe_int {i j pos} : PE X (.Constant (.int i) j pos) (tC (.int i)) := fun _ _ _ H _ I h => wpAny_Constant_int ⟨.int i, H, I.tok _, ⟨_, rfl⟩, h⟩
theorem pe_bl {b j pos} : PE X (.Constant (.bool b) j pos) (tC (.bl b)) := fun _ _ _ H _ I h => Constant_bool ⟨.bl b, H, I, rfl, h⟩
theorem pe_str {x j pos} : PE X (.Constant (.str x) j pos) (tC (.str x)) := fun _ _ _ H _ I h => Calls.Constant_str ⟨.str x, H, I.tok _, ⟨_, rfl⟩, h⟩

/-- a global name of the def -/
def Gl (X : Cx) (x : Str) : Prop := X.env.kindOf x = some .globalImplicit
theorem ld_glob {E : Value → Shared → Prop} {pins : List (Addr × Obj)} {s : Shared} {σ : St} {H : Hp} {x : Str} {u : Value} {pos : Pos} {Q : Value → Shared → Prop} (I : Inv X pins σ H s) (hg : Gl X x) (hm : X.mg x = some u) (h : Q u s)
    (hd : (x == ("__debug__" : Str)) = false := by decide) : wpAny (model X.prog X.w) X.A (eval (.Name x pos) X.env) Q E s :=
  Calls.Name_function_global I.ok.kind hg (Calls.loadGlobal_global (by rw [I.ok.glob]; exact I.mod.glob.keeps I.bk) hm h) hd
theorem ld_blt {E : Value → Shared → Prop} {pins : List (Addr × Obj)} {s : Shared} {σ : St} {H : Hp} {x : Str} {u : Value} {pos : Pos} {Q : Value → Shared → Prop} (I : Inv X pins σ H s) (hg : Gl X x) (hm : X.mg x = none) (hv : bootBuiltins x = some u) (h : Q u s)
    (hn : x ≠ "__name__" := by decide) (hd : (x == ("__debug__" : Str)) = false := by decide) : wpAny (model X.prog X.w) X.A (eval (.Name x pos) X.env) Q E s := by
  obtain ⟨mb, h1, h2⟩ := I.mod.blt
  exact Calls.Name_function_global I.ok.kind hg (Calls.loadGlobal_builtin (by rw [I.ok.glob]; exact I.mod.glob.keeps I.bk) hm (by rw [I.ok.blt]; exact h1.keeps I.bk) ((h2 x hn).trans hv) h) hd
/-- a module's constant, a class, a function, as a value -/
theorem pe_glob {x : Str} {v : V} {u : Value} {pos : Pos} (hg : Gl X x) (hm : X.mg x = some u) (r : RelV v u) (hd : (x == ("__debug__" : Str)) = false := by decide) : PE X (.Name x pos) (tC v) :=
  fun _ _ _ H _ I h => ld_glob I hg hm ⟨v, H, I, r, h⟩ hd
theorem pe_bltn {x : Str} {v : V} {u : Value} {pos : Pos} (hg : Gl X x) (hm : X.mg x = none) (hv : bootBuiltins x = some u) (r : RelV v u) (hn : x ≠ "__name__" := by decide) (hd : (x == ("__debug__" : Str)) = false := by decide) : PE X (.Name x pos) (tC v) :=
  fun _ _ _ H _ I h => ld_blt I hg hm hv ⟨v, H, I, r, h⟩ hn hd

/-! ### arithmetic -/
variable {a b : Expr} {ta tb : TE} {pos : Pos}

/-! ### comparisons -/
/-- a comparison as a value, as a test -/
def tB (t : TE) : TT := fun σ H Q => t σ H fun x H1 => ∃ c, x = .bl c ∧ Q c H1
/-- an expression whose value is a bool, as a test -/
theorem pt_val {e : Expr} {t : TE} (h : PE X e t) (he : ∀ whole, isTrue e X.env whole = (do let v ← whole; standAt e.pos; holding [v] (truthy v)) := by intro _; rfl) : PT X e (tB t) := by
  intro pins s σ H Q I hw
  refine isTrue_plain (thn (h pins s σ H _ I hw) fun v s1 ⟨x, H1, I1, r1, q1⟩ => ?_) (he _)
  obtain ⟨d, rfl, q⟩ := q1
  cases r1
  exact wpAny_truthy_bool ⟨H1, I1, q⟩

/-! ### and, or, not -/
variable {tA tB' : TT} {rest : List Expr}
def tAnd (t u : TT) : TT := fun σ H Q => t σ H fun c H1 => if c = true then u σ H1 Q else Q false H1
def tOr (t u : TT) : TT := fun σ H Q => t σ H fun c H1 => if c = true then Q true H1 else u σ H1 Q
def tNot (t : TT) : TT := fun σ H Q => t σ H fun c H1 => Q (!c) H1
theorem pw_and1 (ha : PT X a tA) : PW X (.BoolOp .And [a] pos) tA := by
  intro wh pins s σ H Q I h
  refine isTrue_and (thn (ha pins s σ H Q I h) fun c s1 e => ?_)
  cases c with
  | true => exact isTrue_and_nil e
  | false => exact e
theorem pw_or1 (ha : PT X a tA) : PW X (.BoolOp .Or [a] pos) tA := by
  intro wh pins s σ H Q I h
  refine isTrue_or (thn (ha pins s σ H Q I h) fun c s1 e => ?_)
  cases c with
  | false => exact isTrue_or_nil e
  | true => exact e
theorem pw_and (ha : PT X a tA) (hb : PW X (.BoolOp .And (b :: rest) pos) tB') : PW X (.BoolOp .And (a :: b :: rest) pos) (tAnd tA tB') := by
  intro wh pins s σ H Q I h
  refine isTrue_and (thn (ha pins s σ H _ I h) fun c s1 ⟨H1, I1, q1⟩ => ?_)
  cases c with
  | true => exact hb wh pins s1 σ H1 Q I1 q1
  | false => exact ⟨H1, I1, q1⟩
theorem pw_or (ha : PT X a tA) (hb : PW X (.BoolOp .Or (b :: rest) pos) tB') : PW X (.BoolOp .Or (a :: b :: rest) pos) (tOr tA tB') := by
  intro wh pins s σ H Q I h
  refine isTrue_or (thn (ha pins s σ H _ I h) fun c s1 ⟨H1, I1, q1⟩ => ?_)
  cases c with
  | true => exact ⟨H1, I1, q1⟩
  | false => exact hb wh pins s1 σ H1 Q I1 q1
theorem pt_not (ha : PT X a tA) : PT X (.UnaryOp .Not a pos) (tNot tA) := by
  intro pins s σ H Q I h
  exact isTrue_not (ha pins s σ H (fun c H1 => Q (!c) H1) I h)
/-- .. as values (bools) -/
def tAndV (ta tb : TE) : TE := fun σ H Q => ta σ H fun x H1 => ∃ c, x = .bl c ∧ if c = true then tb σ H1 Q else Q (.bl false) H1
def tNotV (ta : TE) : TE := fun σ H Q => ta σ H fun x H1 => ∃ c, x = .bl c ∧ Q (.bl (!c)) H1
theorem pe_one {op} {t : TE} (h : PE X a t) : PE X (.BoolOp op [a] pos) t := fun pins s σ H Q I hw => BoolOp_one (h pins s σ H Q I hw)
theorem pe_and (ha : PE X a ta) (hb : PE X (.BoolOp .And (b :: rest) pos) tb) : PE X (.BoolOp .And (a :: b :: rest) pos) (tAndV ta tb) := by
  intro pins s σ H Q I h
  refine BoolOp_and (thn (ha pins s σ H _ I h) fun v s1 ⟨x, H1, I1, r1, q1⟩ => ?_)
  obtain ⟨c, rfl, q1⟩ := q1
  cases r1
  refine wpAny_truthy_bool ?_
  cases c with
  | true => exact hb pins s1 σ H1 Q I1 q1
  | false => exact ⟨.bl false, H1, I1, rfl, q1⟩
theorem pe_not (ha : PE X a ta) : PE X (.UnaryOp .Not a pos) (tNotV ta) := by
  intro pins s σ H Q I h
  refine UnaryOp_ (thn (ha pins s σ H _ I h) fun v s1 ⟨x, H1, I1, r1, q1⟩ => ?_)
  obtain ⟨c, rfl, q1⟩ := q1
  cases r1
  exact not_of (wpAny_truthy_bool ⟨.bl (!c), H1, I1, rfl, q1⟩)
/-- a if t else b -/
def tIf (t : TT) (ta tb : TE) : TE := fun σ H Q => t σ H fun c H1 => if c = true then ta σ H1 Q else tb σ H1 Q
theorem pe_ifExp {c : Expr} (hc : PT X c tA) (ha : PE X a ta) (hb : PE X b tb) : PE X (.IfExp c a b pos) (tIf tA ta tb) := by
  intro pins s σ H Q I h
  refine wpAny_IfExp (thn (hc pins s σ H _ I h) fun d s1 ⟨H1, I1, q1⟩ => ?_)
  cases d with
  | true => exact ha pins s1 σ H1 Q I1 q1
  | false => exact hb pins s1 σ H1 Q I1 q1
end
end L2

namespace L2
open PySem PySem.Spec PyProof.Rows

/-! ### a list, a tuple that is read: tracked, frozen, or an object of the module -/
def SqL (K : PySem.W.Frag) (H : Hp) (a : Addr) (xs : List V) : Prop :=
  Rd H a (.lst xs) ∨
    ∃ (o : Obj) (its : Array Value) (n : Nat), K.lookup a = some o ∧ o.cls = .type "list" ∧ o.dict = none ∧ o.data = .seq its n ∧ its.size ≤ sizeLine ∧ Vals xs its.toList
def SqT (K : PySem.W.Frag) (H : Hp) (a : Addr) (xs : List V) : Prop :=
  Rd H a (.tup xs) ∨
    ∃ (o : Obj) (its : Array Value) (n : Nat), K.lookup a = some o ∧ o.cls = .type "tuple" ∧ o.data = .seq its n ∧ its.size ≤ sizeLine ∧ Vals xs its.toList
def absV : Value → Option V
  | .none => some .non
  | .bool b => some (.bl b)
  | .int i _ => some (.int i)
  | .str x _ => some (.str x)
  | .bytes b _ => some (.byt b)
  | .float b _ => some (.flt b)
  | .ref a => some (.ref a)
  | .type n => some (.ty n)
  | _ => none
theorem RelV.abs {x : V} {u : Value} (r : RelV x u) : absV u = some x := by
  cases x with
  | non => cases r; rfl
  | bl _ => cases r; rfl
  | int _ => obtain ⟨t, rfl⟩ := r; rfl
  | str _ => obtain ⟨t, rfl⟩ := r; rfl
  | byt _ => obtain ⟨t, rfl⟩ := r; rfl
  | flt _ => obtain ⟨t, rfl⟩ := r; rfl
  | ref _ => cases r; rfl
  | ty _ => cases r; rfl
theorem RelV.inj {x y : V} {u : Value} (r : RelV x u) (q : RelV y u) : x = y := Option.some.inj (r.abs.symm.trans q.abs)
theorem Vals.inj : ∀ {xs ys : List V} {us : List Value}, Vals xs us → Vals ys us → xs = ys
  | _, _, _, .nil, .nil => rfl
  | _, _, _, .cons r t, .cons r' t' => by rw [r.inj r', Vals.inj t t']
section
variable {X : Cx} {pins : List (Addr × Obj)} {σ : St} {H : Hp} {s : Shared} {a : Addr} {xs ys : List V}
theorem SqL.of {K : PySem.W.Frag} (h : H a = some (.lst xs)) : SqL K H a xs := .inl (.inl h)
theorem SqT.of {K : PySem.W.Frag} (h : H a = some (.tup xs)) : SqT K H a xs := .inl (.inl h)
theorem Inv.list (I : Inv X pins σ H s) (h : SqL X.K H a xs) : ∃ its : List Value, Vals xs its ∧ PlainL s.heap a its.toArray ∧ xs.length ≤ sizeLine := by
  rcases h with h | ⟨o, its, n, hk, hc, hd, hs, hz, r⟩
  · obtain ⟨z, its, n, r, e⟩ := h.ok I.hok
    exact ⟨its, r, ⟨_, n, e, rfl, rfl, rfl⟩, z⟩
  · refine ⟨its.toList, r, ⟨o, n, I.kIn a o hk, hc, hd, by simpa using hs⟩, ?_⟩
    have e := r.length
    simp only [Array.length_toList] at e
    (first | lia | omega)
theorem Inv.tuple (I : Inv X pins σ H s) (h : SqT X.K H a xs) : ∃ its : List Value, Vals xs its ∧ IsTup s.heap a its.toArray ∧ xs.length ≤ sizeLine := by
  rcases h with h | ⟨o, its, n, hk, hc, hs, hz, r⟩
  · obtain ⟨z, its, r, p⟩ := h.ok I.hok
    exact ⟨its, r, p, z⟩
  · refine ⟨its.toList, r, ⟨o, I.kIn a o hk, hc, n, by simpa using hs⟩, ?_⟩
    have e := r.length
    simp only [Array.length_toList] at e
    (first | lia | omega)
theorem Inv.list_inj (I : Inv X pins σ H s) (h : SqL X.K H a xs) (h' : SqL X.K H a ys) : xs = ys := by
  obtain ⟨its, r, ⟨o, n, e, _, _, d⟩, _⟩ := I.list h
  obtain ⟨its', r', ⟨o', n', e', _, _, d'⟩, _⟩ := I.list h'
  rw [e] at e'; cases e'
  rw [d] at d'
  injection d' with d1 _
  have : its = its' := by simpa using congrArg Array.toList d1
  subst this
  exact r.inj r'
end

/-! ### another wish about exceptions -/
abbrev Cx.wish (X : Cx) (E : Value → Shared → Prop) : Cx := { X with xe := E }
/-- no exception leaves -/
abbrev Cx.nox (X : Cx) : Cx := X.wish fun _ _ => False
theorem Cx.Ok.wish {X : Cx} (ok : X.Ok) (E : Value → Shared → Prop) : (X.wish E).Ok :=
  ⟨ok.mod, ok.kind, ok.glob, ok.blt, ok.above, ok.inj, ok.has, ok.cab, ok.hd, ok.frames, ok.stk, ok.exf, ok.bs, ok.bsz, ok.noex, ok.exfs, ok.funs, ok.frf⟩
theorem Cx.Ok.unwish {X : Cx} {E : Value → Shared → Prop} (ok : (X.wish E).Ok) : X.Ok :=
  ⟨ok.mod, ok.kind, ok.glob, ok.blt, ok.above, ok.inj, ok.has, ok.cab, ok.hd, ok.frames, ok.stk, ok.exf, ok.bs, ok.bsz, ok.noex, ok.exfs, ok.funs, ok.frf⟩
section
variable {X : Cx} {pins : List (Addr × Obj)} {σ : St} {H : Hp} {s : Shared} {E : Value → Shared → Prop}
theorem Inv.wish (I : Inv X pins σ H s) (E : Value → Shared → Prop) : Inv (X.wish E) pins σ H s := ⟨I.ok.wish E, I.os, I.bare, I.base, I.loc, I.cell, I.free, I.freeC, I.pin, I.hok, I.len⟩
theorem Inv.unwish (I : Inv (X.wish E) pins σ H s) : Inv X pins σ H s := ⟨I.ok.unwish, I.os, I.bare, I.base, I.loc, I.cell, I.free, I.freeC, I.pin, I.hok, I.len⟩
theorem SP.unwish {D : Ends} {f : Flow} {s' : Shared} (h : SP (X.wish E) pins D f s') : SP X pins D f s' := by
  cases f with
  | next => obtain ⟨σ', H', I, q⟩ := h; exact ⟨σ', H', I.unwish, q⟩
  | brk => obtain ⟨σ', H', I, q⟩ := h; exact ⟨σ', H', I.unwish, q⟩
  | cont => obtain ⟨σ', H', I, q⟩ := h; exact ⟨σ', H', I.unwish, q⟩
  | ret u => obtain ⟨v, σ', H', I, r, q⟩ := h; exact ⟨v, σ', H', I.unwish, r, q⟩
theorem PSs.nox {st : List Stmt} {t : TS} (h : PSs X.nox st t) : PSs X st t := fun pins s σ H D I hw =>
  wpAny_mono (h pins s σ H D (I.wish _) hw) (fun _ _ q => q.unwish) fun _ _ z => False.elim z
end

/-! ### blocks and small statements -/
section
variable {X : Cx} {st : Stmt} {rest : List Stmt} {t u : TS} {e : Expr} {te : TE} {pos : Pos}
def tNext : TS := fun D σ H => D.nx σ H
def tSeq (t u : TS) : TS := fun D σ H => t { D with nx := u D } σ H
theorem pss_nil : PSs X [] tNext := fun _ _ σ H _ I h => wpAny_execs_nil ⟨σ, H, I, h⟩
theorem pss_cons (h1 : PS X st t) (h2 : PSs X rest u) : PSs X (st :: rest) (tSeq t u) := by
  intro pins s σ H D I h
  refine wpAny_execs_cons (thn (h1 pins s σ H { D with nx := u D } I h) fun f s1 q => ?_)
  cases f with
  | next =>
    obtain ⟨σ', H', I', q⟩ := q
    exact h2 pins s1 σ' H' D I' q
  | ret v => exact q
  | brk => exact q
  | cont => exact q
theorem pss_one (h1 : PS X st t) : PSs X [st] t := by
  intro pins s σ H D I h
  refine wpAny_execs_cons (thn (h1 pins s σ H D I h) fun f s1 q => ?_)
  cases f with
  | next => exact wpAny_execs_nil q
  | ret v => exact q
  | brk => exact q
  | cont => exact q
/-- in a def's body nothing is shown -/
theorem Inv.quiet {pins : List (Addr × Obj)} {σ : St} {H : Hp} {s : Shared} (I : Inv X pins σ H s) : interactive X.env = false := by simp [interactive, I.ok.kind]
/-- an expression whose value is dropped -/
def tDrop (te : TE) : TS := fun D σ H => te σ H fun _ H1 => D.nx σ H1
theorem ps_expr (he : PE X e te) (hs : swapsWith e none pos.line X.env = pure false := by rfl) : PS X (.Expr e pos) (tDrop te) := by
  intro pins s σ H D I h
  exact wpAny_Expr_any (thn (he pins s σ H _ I h) fun v s1 ⟨x, H1, I1, r1, q1⟩ => ⟨σ, H1, I1, q1⟩) I.quiet hs
def tRet (te : TE) : TS := fun D σ H => te σ H D.rt
theorem ps_ret (he : PE X e te) : PS X (.Return (some e) pos) (tRet te) := by
  intro pins s σ H D I h
  exact wpAny_Return_some (thn (he pins s σ H _ I h) fun v s1 ⟨x, H1, I1, r1, q1⟩ => ⟨x, σ, H1, I1, r1, q1⟩)
def tIfS (c : TT) (t u : TS) : TS := fun D σ H => c σ H fun b H1 => if b = true then t D σ H1 else u D σ H1
theorem ps_if {c : Expr} {a b : List Stmt} {tc : TT} (hc : PT X c tc) (ha : PSs X a t) (hb : PSs X b u) : PS X (.If c a b pos) (tIfS tc t u) := by
  intro pins s σ H D I h
  refine wpAny_If (thn (hc pins s σ H _ I h) fun d s1 ⟨H1, I1, q1⟩ => ?_)
  cases d with
  | true => exact ha pins s1 σ H1 D I1 q1
  | false => exact hb pins s1 σ H1 D I1 q1
/-- code that the proof never comes to -/
def tNever : TS := fun _ _ _ => False
theorem pss_never {sts : List Stmt} : PSs X sts tNever := fun _ _ _ _ _ _ h => h.elim
end

/-! ### targets -/
abbrev TG := V → St → Hp → (St → Hp → Prop) → Prop
abbrev TGs := List V → St → Hp → (St → Hp → Prop) → Prop
def PG (X : Cx) (target : Expr) (t : TG) : Prop :=
  ∀ (pins : List (Addr × Obj)) (s : Shared) (σ : St) (H : Hp) (v : V) (u : Value) (Q : St → Hp → Prop), Inv X pins σ H s → RelV v u → t v σ H Q →
    wpAny (model X.prog X.w) X.A (assign target X.env u) (fun _ s' => ∃ σ' H', Inv X pins σ' H' s' ∧ Q σ' H') X.xe s
/-- several targets, one after another -/
def PGs (X : Cx) (ts : List Expr) (t : TGs) : Prop :=
  ∀ (pins : List (Addr × Obj)) (s : Shared) (σ : St) (H : Hp) (vs : List V) (us : List Value) (Q : St → Hp → Prop), Inv X pins σ H s → Vals vs us → t vs σ H Q →
    wpAny (model X.prog X.w) X.A (assignInOrder ((assignEach ts X.env).map (·.2)) us) (fun _ s' => ∃ σ' H', Inv X pins σ' H' s' ∧ Q σ' H') X.xe s
/-- o[i] = v, by values -/
abbrev TSet := V → V → V → Hp → (Hp → Prop) → Prop
def PSet (X : Cx) (t : TSet) : Prop :=
  ∀ (pins : List (Addr × Obj)) (s : Shared) (σ : St) (H : Hp) (o i v : V) (ov iv u : Value) (Q : Hp → Prop), Inv X pins σ H s → RelV o ov → RelV i iv → RelV v u → t o i v H Q →
    wpAny (model X.prog X.w) X.A (setItem ov iv u) (fun _ s' => ∃ H', Inv X pins σ H' s' ∧ Q H') X.xe s
section
variable {X : Cx} {pos : Pos}
def gName (i : Nat) : TG := fun v σ H Q => Q (σ.set i (some v)) H
theorem pg_name {i : Nat} {x : Str} (hN : X.N.Nodup) (hi : X.N[i]? = some x) (hx : Loc X.env.scope x) (hf : X.fn x = true ∨ X.env.scope.names.lookup x = some .local := by first | exact .inl rfl | exact .inr rfl | assumption) : PG X (.Name x pos) (gName i) := by
  intro pins s σ H v u Q I r h
  exact wpAny_assign_Name (store_ok I hN hi hx r (fun s' I' => ⟨_, H, I', h⟩) hf)
def gNil : TGs := fun vs σ H Q => vs = [] ∧ Q σ H
def gCons (t : TG) (u : TGs) : TGs := fun vs σ H Q => ∃ v r, vs = v :: r ∧ t v σ H fun σ' H' => u r σ' H' Q
theorem pgs_nil : PGs X [] gNil := by
  intro pins s σ H vs us Q I r h
  obtain ⟨e, h⟩ := h
  subst e
  cases r
  exact assignInOrder_nil ⟨σ, H, I, h⟩
theorem pgs_cons {e : Expr} {es : List Expr} {t : TG} {u : TGs} (h1 : PG X e t) (h2 : PGs X es u)
    (hs : (assignEach (e :: es) X.env).map (·.2) = assign e X.env :: (assignEach es X.env).map (·.2) := by rfl) : PGs X (e :: es) (gCons t u) := by
  intro pins s σ H vs us Q I r h
  obtain ⟨v, vr, e1, h⟩ := h
  subst e1
  cases r with
  | cons r rr =>
    rw [hs]
    refine assignInOrder_cons (thn (h1 pins s σ H _ _ _ I r h) fun _ s1 ⟨σ1, H1, I1, q1⟩ => ?_)
    exact h2 pins s1 σ1 H1 _ _ Q I1 rr q1
/-- (a, b, ..) = a tuple of that length -/
def gTup (K : PySem.W.Frag) (n : Nat) (t : TGs) : TG := fun v σ H Q => ∃ a xs, v = .ref a ∧ SqT K H a xs ∧ xs.length = n ∧ t xs σ H Q
theorem pg_tup {es : List Expr} {k : Nat} {t : TGs} {n : Nat} (hc : X.calm = true) (h : PGs X es t)
    (hn : (assignEach es X.env).length = n := by rfl) (hst : (assignEach es X.env).findIdx? (·.1) = none := by rfl) : PG X (.Tuple es k pos) (gTup X.K n t) := by
  intro pins s σ H v u Q I r hw
  obtain ⟨a, xs, e1, hq, hl, hw⟩ := hw
  subst e1
  cases r
  obtain ⟨its, rv, ht, hz⟩ := I.tuple hq
  refine assign_Tuple_tuple (I.ok.hd hc) ht (by simp [hn, ← hl, rv.length]) hst fun h' hx => ?_
  have I1 : Inv X pins σ H { s with heap := h' } := I.kept (t' := s.toks) fun b o e => hx b o (Nat.ne_of_lt (Heap.lt_size e)) e
  exact h pins _ σ H xs _ Q I1 (by simpa using rv) hw
/-- o[i] = .. -/
def gSub (to ti : TE) (t : TSet) : TG := fun v σ H Q => to σ H fun o H1 => ti σ H1 fun i H2 => t o i v H2 fun H3 => Q σ H3
theorem pg_sub {o i : Expr} {to ti : TE} {t : TSet} (ho : PE X o to) (hi : PE X i ti) (hs : PSet X t)
    (ha : ∀ v, assign (.Subscript o i pos) X.env v = (do
      let ov ← holding [v] (eval o X.env)
      let iv ← holding [v, ov] (eval i X.env)
      standAt pos
      holding [v, ov, iv] (setItem ov iv v)
      release [v, ov, iv] []) := by intro _; rfl) : PG X (.Subscript o i pos) (gSub to ti t) := by
  intro pins s σ H v u Q I r h
  rw [ha]
  refine wpAny_bind (wpAny_holding (thn (ho pins s σ H _ I h) fun ov s1 ⟨x, H1, I1, r1, q1⟩ => ?_))
  refine wpAny_bind (wpAny_holding (thn (hi pins s1 σ H1 _ I1 q1) fun iv s2 ⟨y, H2, I2, r2, q2⟩ => ?_))
  refine wpAny_bind (wpAny_standAt (wpAny_bind (wpAny_holding (thn (hs pins s2 σ H2 x y v ov iv u _ I2 r1 r2 r q2) fun _ s3 ⟨H3, I3, q3⟩ => ?_))))
  exact wpAny_release ⟨σ, H3, I3, q3⟩
/-- target = value -/
def tAsg (te : TE) (g : TG) : TS := fun D σ H => te σ H fun x H1 => g x σ H1 D.nx
theorem ps_asg {tg e : Expr} {te : TE} {g : TG} (he : PE X e te) (hg : PG X tg g) (hs : swapsWithSole [tg] e pos.line X.env = pure false := by rfl) (hw : swappedStores [tg] e X.env = pure none := by rfl)
    (h1 : (assignEach [tg] X.env).map (·.2) = [assign tg X.env] := by rfl) : PS X (.Assign [tg] e pos) (tAsg te g) := by
  intro pins s σ H D I h
  refine wpAny_Assign_stores (thn (he pins s σ H _ I h) fun v s1 ⟨x, H1, I1, r1, q1⟩ => ?_) hs hw
  rw [h1]
  exact thn (hg pins s1 σ H1 x v _ I1 r1 q1) fun _ s2 q => q
/-- name = value -/
theorem ps_set {i : Nat} {x : Str} {e : Expr} {te : TE} {pos' : Pos} (hN : X.N.Nodup) (hi : X.N[i]? = some x) (hx : Loc X.env.scope x) (he : PE X e te) (hs : swapsWith e (some (.Name x pos')) pos.line X.env = pure false := by rfl) (hf : X.fn x = true ∨ X.env.scope.names.lookup x = some .local := by first | exact .inl rfl | exact .inr rfl | assumption) :
    PS X (.Assign [.Name x pos'] e pos) (tAsg te (gName i)) := by
  intro pins s σ H D I h
  refine wpAny_Assign_Name (thn (he pins s σ H _ I h) fun v s1 ⟨y, H1, I1, r1, q1⟩ => ?_) hs
  exact store_ok I1 hN hi hx r1 (fun s2 I2 => ⟨_, H1, I2, q1⟩) hf
end

/-! ### while -/
section
variable {X : Cx} {pos : Pos}
end

/-! ### what a loop or a comprehension walks -/
/-- at turn i: it yields x (the heap may grow), or it stops -/
structure It where
  go : Nat → Hp → Prop
  yld : Nat → Hp → V → Hp → Prop
  stop : Nat → Hp → Prop
/-- the iterator's own objects may turn: they are not the frame's, not pinned, younger than the entry (or a comprehension's own) -/
def FpOk (X : Cx) (pins : List (Addr × Obj)) (H : Hp) (b : Addr) : Prop :=
  H b = none ∧ b ≠ X.env.locals ∧ b ∉ X.fs ∧ (b ∈ X.ex ∨ X.s₀.heap.objs.size ≤ b) ∧ (∀ x c, X.env.cells.lookup x = some c → c ≠ b) ∧ ∀ p ∈ X.pn ++ pins, p.1 ≠ b
theorem Inv.fpOk {X : Cx} {pins : List (Addr × Obj)} {σ : St} {H H' : Hp} {s : Shared} {b : Addr} (I : Inv X pins σ H s) (hb : s.heap.objs.size ≤ b) (hn : H' b = none) : FpOk X pins H' b := by
  refine ⟨hn, Nat.ne_of_gt (Nat.lt_of_lt_of_le I.lt hb), I.nofs hb, .inr (Nat.le_trans I.sz hb), fun x c e z => ?_, fun p hp z => ?_⟩
  · obtain ⟨v, q⟩ := I.cell x c e
    exact absurd (Nat.lt_of_lt_of_le q.lt (by rw [z]; exact hb)) (Nat.lt_irrefl _)
  · exact absurd (Nat.lt_of_lt_of_le (Heap.lt_size (I.pin p hp).1) (by rw [z]; exact hb)) (Nat.lt_irrefl _)
structure Turn (P : Program) (w : World) (K : PySem.W.Frag) (tg : Expr) (J : It) (fp : List Addr) (it : Addr) (tn : Nat → Heap → Prop) : Prop where
  mem : it ∈ fp
  obj : ∀ i h, tn i h → ∀ b ∈ fp, ∃ o, h.get? b = some o ∧ ∀ v, o.data ≠ .cell v
  keep : ∀ i h h', tn i h → (∀ b ∈ fp, ∀ o, h.get? b = some o → h'.get? b = some o) → tn i h'
  item : ∀ (X : Cx), X.prog = P → X.w = w → X.K = K → X.calm = true → ∀ (i : Nat) (pins : List (Addr × Obj)) (s : Shared) (σ : St) (H : Hp) (E : Value → Shared → Prop), Inv X pins σ H s → (∀ b ∈ fp, FpOk X pins H b) → tn i s.heap → J.go i H →
    wpAny (model P w) X.A (pyNext (.ref it)) (fun r s1 => ∃ u, r = some u ∧
      wpAny (model P w) X.A (letOwnedTupleGo tg (.ref it) u) (fun _ s2 => ∃ x H', Inv X pins σ H' s2 ∧ RelV x u ∧ J.yld i H x H' ∧ tn (i + 1) s2.heap ∧ ∀ b ∈ fp, H' b = none) E s1) E s
  done : ∀ (X : Cx), X.prog = P → X.w = w → X.K = K → X.calm = true → ∀ (i : Nat) (pins : List (Addr × Obj)) (s : Shared) (σ : St) (H : Hp) (E : Value → Shared → Prop), Inv X pins σ H s → (∀ b ∈ fp, FpOk X pins H b) → tn i s.heap → J.stop i H →
    wpAny (model P w) X.A (pyNext (.ref it)) (fun r s1 => r = none ∧ Inv X pins σ H s1) E s
  self : ∀ (A : Around) (i : Nat) (s : Shared) (Q : Value → Shared → Prop) (E : Value → Shared → Prop), tn i s.heap → Q (.ref it) s → wpAny (model P w) A (pyIter (.ref it)) Q E s
abbrev TI := St → Hp → (It → Hp → Prop) → Prop
/-- an iterator has come -/
def PIE (X : Cx) (pins : List (Addr × Obj)) (σ : St) (tg : Expr) (R : It → Hp → Prop) (itv : Value) (s2 : Shared) : Prop :=
  ∃ (it : Addr) (fp : List Addr) (tn : Nat → Heap → Prop) (J : It) (H' : Hp), itv = .ref it ∧ Inv X pins σ H' s2 ∧ Turn X.prog X.w X.K tg J fp it tn ∧ tn 0 s2.heap ∧ (∀ b ∈ fp, FpOk X pins H' b) ∧ R J H'
def PI (X : Cx) (tg iter : Expr) (wi : TI) : Prop :=
  ∀ (pins : List (Addr × Obj)) (s : Shared) (σ : St) (H : Hp) (R : It → Hp → Prop), Inv X pins σ H s → wi σ H R →
    wpAny (model X.prog X.w) X.A (eval iter X.env) (fun v s1 => wpAny (model X.prog X.w) X.A (pyIter v) (PIE X pins σ tg R) X.xe s1) X.xe s

/-- the step ahead of the store is nothing for an iterator that keeps no tuple -/
theorem go_of {M : Model} {A : Around} {E : Value → Shared → Prop} {s : Shared} {tg : Expr} {it : Addr} {u : Value} {o : Obj} {n : String} {vs : Array Value} {Q : Unit → Shared → Prop} (ho : s.heap.get? it = some o) (hc : o.cls = .type n) (hd : o.data = .fields vs)
    (hn : ["enumerate", "zip", "dict_itemiterator", "dict_reverseitemiterator", "odict_iterator", "itertools.zip_longest", "itertools.pairwise"].contains n = false) (hQ : Q () s) : wpAny M A (letOwnedTupleGo tg (.ref it) u) Q E s := by
  unfold letOwnedTupleGo
  cases tg <;> first
    | exact wpAny_pure hQ
    | (cases u <;> first
        | exact wpAny_pure hQ
        | (refine wpAny_bind (wpAny_load ho ?_)
           rw [hc, hd]
           show wpAny M A (if (["enumerate", "zip", "dict_itemiterator", "dict_reverseitemiterator", "odict_iterator", "itertools.zip_longest", "itertools.pairwise"].contains n && vs[0]? == some (rawInt _)) = true then _ else _) Q E s
           rw [if_neg (by intro h; rw [hn, Bool.false_and] at h; cases h)]
           exact wpAny_pure hQ))

/-- the list at a, as it stands at each turn (a loop may append to it) -/
def Itl (K : PySem.W.Frag) (a : Addr) : It :=
  ⟨fun i H => ∃ xs x, SqL K H a xs ∧ xs[i]? = some x, fun i H x H' => H' = H ∧ ∀ xs, SqL K H a xs → xs[i]? = some x, fun i H => ∃ xs, SqL K H a xs ∧ xs.length ≤ i⟩
theorem turn_list {P : Program} {w : World} {K : PySem.W.Frag} {tg : Expr} (a it : Addr) : Turn P w K tg (Itl K a) [it] it (fun i h => h.IsListIter it a i) where
  mem := by simp
  obj := fun i h st b hb => by
    have e : b = it := by simpa using hb
    subst e
    obtain ⟨o, e, c, d⟩ := st
    exact ⟨o, e, fun v z => by rw [d] at z; cases z⟩
  keep := fun i h h' st k => st.at fun o e => k it (by simp) o e
  item := by
    intro X hP hw hK hc i pins s σ H E I hf st hg
    subst hP hw hK
    obtain ⟨xs, x, hq, hx⟩ := hg
    obtain ⟨its, rv, p, hz⟩ := I.list hq
    obtain ⟨u, hu, ru⟩ := rv.get hx
    obtain ⟨f0, f1, f2, f3, f4, f5⟩ := hf it (by simp)
    refine wpAny_pyNext_list_item st p.isList (x := u) (by simpa using hu) fun h' st' sb => ?_
    have I1 : Inv X pins σ H { s with heap := h' } := I.turned (t' := s.toks) (fun b o hb e => (sb.2 b hb).trans e) f0 f1 f3 f4 f5
    obtain ⟨o, e, c, d⟩ := id st'
    exact ⟨u, rfl, go_of (s := { s with heap := h' }) e c d (by decide) ⟨x, H, I1, ru, ⟨rfl, fun ys hy => by rw [I.list_inj hy hq]; exact hx⟩, st', fun b hb => (hf b hb).1⟩⟩
  done := by
    intro X hP hw hK hc i pins s σ H E I hf st hg
    subst hP hw hK
    obtain ⟨xs, hq, hx⟩ := hg
    obtain ⟨its, rv, p, hz⟩ := I.list hq
    obtain ⟨f0, f1, f2, f3, f4, f5⟩ := hf it (by simp)
    have hl := rv.length
    exact wpAny_pyNext_list_end (I.ok.hd hc) st p.isList (by simp; (first | lia | omega)) fun h' eb => ⟨rfl, I.turned (t' := s.toks) (fun b o hb e => eb b o hb e) f0 f1 f3 f4 f5⟩
  self := fun _ _ _ _ _ st h => wpAny_pyIter_listiter st h
end L2

namespace L2
open PySem PySem.Spec PyProof.Rows
section
variable {X : Cx} {tg : Expr}
def iList (K : PySem.W.Frag) (tl : TE) : TI := fun σ H R => tl σ H fun x H1 => ∃ a, x = .ref a ∧ (∃ xs, SqL K H1 a xs) ∧ R (Itl K a) H1
theorem pi_list {l : Expr} {tl : TE} (hl : PE X l tl) : PI X tg l (iList X.K tl) := by
  intro pins s σ H R I h
  refine thn (hl pins s σ H _ I h) fun v s1 ⟨x, H1, I1, r1, q1⟩ => ?_
  obtain ⟨a, e, ⟨xs, hq⟩, q⟩ := q1
  subst e
  cases r1
  obtain ⟨its, rv, p, hz⟩ := I1.list hq
  refine wpAny_pyIter_list p.isList ?_
  refine ⟨s1.heap.objs.size, [s1.heap.objs.size], _, _, H1, rfl, I1.kept (t' := s1.toks) fun b o e => Heap.get?_push_of_some _ e, turn_list a _, ⟨_, Heap.get?_push_size _ rfl, rfl, rfl⟩, fun b hb => ?_, q⟩
  have e : b = s1.heap.objs.size := by simpa using hb
  subst e
  exact I1.fpOk (Nat.le_refl _) (I1.hok.fresh (Nat.le_refl _))

/-! ### for -/
/-- W: the invariant by the turn and a measure; N: what the body is to reach -/
def tFor (wi : TI) (g : TG) (tb : TS) : TS := fun D σ H => wi σ H fun J H1 => ∃ W : Nat → Nat → St → Hp → Prop, (∃ m, W 0 m σ H1) ∧ ∀ i m σ H, W i m σ H →
  (J.stop i H ∧ D.nx σ H) ∨ (J.go i H ∧ ∃ N : St → Hp → Prop, (∀ σ' H', N σ' H' → ∃ m', m' < m ∧ W (i + 1) m' σ' H') ∧ ∀ x H', J.yld i H x H' → g x σ H' fun σ2 H2 => tb { D with nx := N, ct := N, bk := D.nx } σ2 H2)
/-- the records at fp as they stand -/
def pinsAt (fp : List Addr) (h : Heap) : List (Addr × Obj) := fp.filterMap fun b => (h.get? b).map fun o => (b, o)
theorem mem_pinsAt {fp : List Addr} {h : Heap} {b : Addr} {o : Obj} (hb : b ∈ fp) (e : h.get? b = some o) : (b, o) ∈ pinsAt fp h := List.mem_filterMap.mpr ⟨b, hb, by rw [e]; rfl⟩
theorem of_pinsAt {fp : List Addr} {h : Heap} {p : Addr × Obj} (hp : p ∈ pinsAt fp h) : p.1 ∈ fp ∧ h.get? p.1 = some p.2 := by
  obtain ⟨b, hb, e⟩ := List.mem_filterMap.mp hp
  cases q : h.get? b with
  | none => rw [q] at e; cases e
  | some o =>
    rw [q] at e
    have e' : (b, o) = p := Option.some.inj e
    subst e'
    exact ⟨hb, q⟩
theorem Inv.pinned {pins : List (Addr × Obj)} {σ : St} {H : Hp} {s : Shared} {fp : List Addr} (I : Inv X pins σ H s) (hf : ∀ b ∈ fp, FpOk X pins H b) (ho : ∀ b ∈ fp, ∃ o, s.heap.get? b = some o ∧ ∀ v, o.data ≠ .cell v) : Inv X (pins ++ pinsAt fp s.heap) σ H s :=
  I.pins_of fun p hp => (List.mem_append.mp hp).elim (fun z => I.pin p (List.mem_append_right _ z)) fun z => by
    obtain ⟨hb, e⟩ := of_pinsAt z
    obtain ⟨f0, f1, f2, _⟩ := hf p.1 hb
    obtain ⟨o, e', d⟩ := ho p.1 hb
    rw [e] at e'; cases e'
    exact ⟨e, f0, f1, f2, d⟩
theorem Inv.unpinned {pins pl : List (Addr × Obj)} {σ : St} {H : Hp} {s : Shared} (I : Inv X (pins ++ pl) σ H s) : Inv X pins σ H s := I.pins_of fun p hp => I.pin p (List.mem_append_right _ (List.mem_append_left _ hp))
theorem ps_for {iter : Expr} {body : List Stmt} {wi : TI} {g : TG} {tb : TS} {pos : Pos} (hp : PassesOwn (model X.prog X.w) X.A X.env X.xe) (hc : X.calm = true) (hi : PI X tg iter wi) (hg : PG X tg g) (hb : PSs X body tb)
    (hs : ∀ x, foldedSetIterable iter X.env x = pure x := by intro _; rfl) : PS X (.For tg iter body [] pos) (tFor wi g tb) := by
  intro pins s σ H D I h
  refine wpAny_For (thn (hi pins s σ H _ I h) fun v s1 h1 => thn h1 fun itv s2 h2 => ?_) hs
  obtain ⟨it, fp, tn, J, H2, e, I2, T, st2, f2, W, ⟨m0, w0⟩, turn⟩ := h2
  subst e
  -- what stays true of the iterator's objects through the loop
  have stat : ∀ {H' : Hp}, (∀ b ∈ fp, H' b = none) → ∀ b ∈ fp, FpOk X pins H' b := fun hn b hb => ⟨hn b hb, (f2 b hb).2⟩
  refine codeAny_forLoop_any (fun n s' => ∃ i σ' H', Inv X pins σ' H' s' ∧ tn i s'.heap ∧ (∀ b ∈ fp, H' b = none) ∧ W i n σ' H') ?_ m0 ⟨0, σ, H2, I2, st2, fun b hb => (f2 b hb).1, w0⟩
  rintro n s3 ⟨i, σ3, H3, I3, st3, fr3, w3⟩
  rcases turn i n σ3 H3 w3 with ⟨stop, qn⟩ | ⟨go, N, hN, step⟩
  · refine wpAny_passesOwn hp (thn (T.done X rfl rfl rfl hc i pins s3 σ3 H3 X.xe I3 (stat fr3) st3 stop) fun r s4 ⟨hr, I4⟩ => ?_)
    subst hr
    exact wpAny_execs_nil ⟨σ3, H3, I4, qn⟩
  · refine wpAny_passesOwn hp (thn (T.item X rfl rfl rfl hc i pins s3 σ3 H3 X.xe I3 (stat fr3) st3 go) fun r s4 ⟨u, hr, h4⟩ => ?_)
    subst hr
    refine wpAny_passesOwn hp (thn h4 fun _ s5 ⟨x, H5, I5, r5, y5, st5, fr5⟩ => ?_)
    have I5' := I5.pinned (stat fr5) (T.obj _ _ st5)
    refine wpAny_passesOwn hp (thn (hg _ s5 σ3 H5 x u _ I5' r5 (step x H5 y5)) fun _ s6 ⟨σ6, H6, I6, q6⟩ => ?_)
    refine wpAny_passesOwn hp (thn (hb _ s6 σ6 H6 _ I6 q6) fun f s7 q7 => ?_)
    have again : ∀ {σ7 : St} {H7 : Hp}, Inv X (pins ++ pinsAt fp s5.heap) σ7 H7 s7 → N σ7 H7 → ∃ m, m < n ∧ ∃ i σ' H', Inv X pins σ' H' s7 ∧ tn i s7.heap ∧ (∀ b ∈ fp, H' b = none) ∧ W i m σ' H' := fun {σ7 H7} I7 n7 => by
      obtain ⟨m', hm, w7⟩ := hN σ7 H7 n7
      refine ⟨m', hm, i + 1, σ7, H7, I7.unpinned, T.keep _ _ _ st5 fun b hb o e => (I7.pin (b, o) (List.mem_append_right _ (List.mem_append_right _ (mem_pinsAt hb e)))).1, fun b hb => ?_, w7⟩
      obtain ⟨o, e, d⟩ := T.obj _ _ st5 b hb
      exact (I7.pin (b, o) (List.mem_append_right _ (List.mem_append_right _ (mem_pinsAt hb e)))).2.1
    cases f with
    | next => obtain ⟨σ7, H7, I7, n7⟩ := q7; exact again I7 n7
    | cont => obtain ⟨σ7, H7, I7, n7⟩ := q7; exact again I7 n7
    | brk => obtain ⟨σ7, H7, I7, q7⟩ := q7; exact ⟨σ7, H7, I7.unpinned, q7⟩
    | ret v => obtain ⟨x7, σ7, H7, I7, r7, q7⟩ := q7; exact ⟨x7, σ7, H7, I7.unpinned, r7, q7⟩
end

/-! ### the forms one uses -/
/-- over a list that the body leaves as it is -/
theorem for_list {K : PySem.W.Frag} {a : Addr} {xs : List V} {g : TG} {tb : TS} {D : Ends} {σ : St} {H : Hp} (Pv : Nat → St → Hp → Prop) (h0 : Pv 0 σ H) (hl : ∀ i σ H, i ≤ xs.length → Pv i σ H → SqL K H a xs)
    (hs : ∀ i x σ H, xs[i]? = some x → Pv i σ H → g x σ H fun σ2 H2 => tb { D with nx := Pv (i + 1), ct := Pv (i + 1), bk := D.nx } σ2 H2) (hd : ∀ σ H, Pv xs.length σ H → D.nx σ H) :
    ∃ W : Nat → Nat → St → Hp → Prop, (∃ m, W 0 m σ H) ∧ ∀ i m σ H, W i m σ H →
      ((Itl K a).stop i H ∧ D.nx σ H) ∨ ((Itl K a).go i H ∧ ∃ N : St → Hp → Prop, (∀ σ' H', N σ' H' → ∃ m', m' < m ∧ W (i + 1) m' σ' H') ∧ ∀ x H', (Itl K a).yld i H x H' → g x σ H' fun σ2 H2 => tb { D with nx := N, ct := N, bk := D.nx } σ2 H2) := by
  refine ⟨fun i m σ H => m = xs.length - i ∧ i ≤ xs.length ∧ Pv i σ H, ⟨xs.length, by simp, Nat.zero_le _, h0⟩, ?_⟩
  rintro i m σ H ⟨rfl, hi, p⟩
  have q := hl i σ H hi p
  by_cases hlt : i < xs.length
  · refine .inr ⟨⟨xs, xs[i], q, by simp [hlt]⟩, Pv (i + 1), fun σ' H' p' => ⟨xs.length - (i + 1), by (first | lia | omega), rfl, hlt, p'⟩, fun x H' y => ?_⟩
    obtain ⟨e, y⟩ := y
    subst e
    exact hs i x σ _ (y xs q) p
  · have e : i = xs.length := by (first | lia | omega)
    subst e
    exact .inl ⟨⟨xs, q, Nat.le_refl _⟩, hd σ H p⟩
end L2

namespace L2
open PySem PySem.Spec PyProof.Rows

abbrev R2 := V → V → Hp → VK → Prop
/-- a two-place operation on values: f is binaryOp op, inplaceOp op or compareOp op -/
def OpR (X : Cx) (f : Value → Value → Sem Value) (r : R2) : Prop :=
  ∀ (pins : List (Addr × Obj)) (s : Shared) (σ : St) (H : Hp) (x y : V) (v u : Value) (Q : VK), Inv X pins σ H s → RelV x v → RelV y u → r x y H Q →
    wpAny (model X.prog X.w) X.A (f v u) (EP X pins σ Q) X.xe s
/-- a one-place operation -/
def UnR (X : Cx) (f : Value → Sem Value) (r : V → Hp → VK → Prop) : Prop :=
  ∀ (pins : List (Addr × Obj)) (s : Shared) (σ : St) (H : Hp) (x : V) (v : Value) (Q : VK), Inv X pins σ H s → RelV x v → r x H Q →
    wpAny (model X.prog X.w) X.A (f v) (EP X pins σ Q) X.xe s
/-- a call of a value that is known (a builtin, a type) with values -/
def CallR (X : Cx) (f : Value) (r : List V → Hp → VK → Prop) : Prop :=
  ∀ (pins : List (Addr × Obj)) (s : Shared) (σ : St) (H : Hp) (xs : List V) (us : List Value) (Q : VK), Inv X pins σ H s → Vals xs us → r xs H Q →
    wpAny (model X.prog X.w) X.A (call f us) (EP X pins σ Q) X.xe s

def tOp (r : R2) (ta tb : TE) : TE := fun σ H Q => ta σ H fun x H1 => tb σ H1 fun y H2 => r x y H2 Q
def tUn (r : V → Hp → VK → Prop) (ta : TE) : TE := fun σ H Q => ta σ H fun x H1 => r x H1 Q
/-- ints in, under C, and a value out -/
def rI (C : Int → Int → Prop) (g : Int → Int → V) : R2 := fun x y H Q => ∃ i j, x = .int i ∧ y = .int j ∧ C i j ∧ Q (g i j) H
def rI0 (g : Int → Int → V) : R2 := fun x y H Q => ∃ i j, x = .int i ∧ y = .int j ∧ Q (g i j) H
def rU (g : Int → V) : V → Hp → VK → Prop := fun x H Q => ∃ i, x = .int i ∧ Q (g i) H

section
variable {X : Cx} {a b c : Expr} {ta tb tc : TE} {pos : Pos}

theorem binT (ha : PE X a ta) (hb : PE X b tb) {pins : List (Addr × Obj)} {s : Shared} {σ : St} {H : Hp} {R : V → V → Hp → Prop} (I : Inv X pins σ H s)
    (h : ta σ H fun x H1 => tb σ H1 fun y H2 => R x y H2) {Q : Value → Shared → Prop} {f : Value → Value → Sem Value}
    (hf : ∀ v u s2 x y H2, Inv X pins σ H2 s2 → RelV x v → RelV y u → R x y H2 → wpAny (model X.prog X.w) X.A (f v u) Q X.xe s2) :
    wpAny (model X.prog X.w) X.A (eval a X.env) (fun v s₁ => wpAny (model X.prog X.w) X.A (eval b X.env) (fun u s₂ => wpAny (model X.prog X.w) X.A (f v u) Q X.xe s₂) X.xe s₁) X.xe s := by
  refine thn (ha pins s σ H _ I h) fun v s1 ⟨x, H1, I1, r1, q1⟩ => ?_
  refine thn (hb pins s1 σ H1 _ I1 q1) fun u s2 ⟨y, H2, I2, r2, q2⟩ => ?_
  exact hf v u s2 x y H2 I2 r1 r2 q2

theorem pe_op {op : Operator} {r : R2} (ho : OpR X (binaryOp op) r) (ha : PE X a ta) (hb : PE X b tb) : PE X (.BinOp a op b pos) (tOp r ta tb) := by
  intro pins s σ H Q I h
  exact wpAny_BinOp (binT ha hb I h fun v u s2 x y H2 I2 rx ry q => ho pins s2 σ H2 x y v u Q I2 rx ry q)
theorem pe_un {op : UnaryOp} {r : V → Hp → VK → Prop} (ho : UnR X (unaryOp op) r) (ha : PE X a ta) : PE X (.UnaryOp op a pos) (tUn r ta) := by
  intro pins s σ H Q I h
  exact UnaryOp_ (thn (ha pins s σ H _ I h) fun v s1 ⟨x, H1, I1, r1, q1⟩ => ho pins s1 σ H1 x v Q I1 r1 q1)

/-! ### ints -/
theorem opI {f : Value → Value → Sem Value} {C : Int → Int → Prop} {g : Int → Int → Int}
    (rule : ∀ (i j : Int) (t u : Tok) (s : Shared) (Q : Value → Shared → Prop) (E : Value → Shared → Prop), C i j → Q (.int (g i j) s.toks) { s with toks := s.toks + 1 } → wpAny (model X.prog X.w) X.A (f (.int i t) (.int j u)) Q E s) :
    OpR X f (rI C fun i j => .int (g i j)) := by
  intro pins s σ H x y v u Q I rx ry h
  obtain ⟨i, j, rfl, rfl, hc, q⟩ := h
  obtain ⟨t, rfl⟩ := rx
  obtain ⟨t', rfl⟩ := ry
  exact rule i j t t' s _ _ hc ⟨.int (g i j), H, I.tok _, ⟨_, rfl⟩, q⟩
theorem opI0 {f : Value → Value → Sem Value} {g : Int → Int → Int}
    (rule : ∀ (i j : Int) (t u : Tok) (s : Shared) (Q : Value → Shared → Prop) (E : Value → Shared → Prop), Q (.int (g i j) s.toks) { s with toks := s.toks + 1 } → wpAny (model X.prog X.w) X.A (f (.int i t) (.int j u)) Q E s) :
    OpR X f (rI0 fun i j => .int (g i j)) := by
  intro pins s σ H x y v u Q I rx ry h
  obtain ⟨i, j, rfl, rfl, q⟩ := h
  obtain ⟨t, rfl⟩ := rx
  obtain ⟨t', rfl⟩ := ry
  exact rule i j t t' s _ _ ⟨.int (g i j), H, I.tok _, ⟨_, rfl⟩, q⟩
theorem opB0 {f : Value → Value → Sem Value} {g : Int → Int → Bool}
    (rule : ∀ (i j : Int) (t u : Tok) (s : Shared) (Q : Value → Shared → Prop) (E : Value → Shared → Prop), Q (.bool (g i j)) s → wpAny (model X.prog X.w) X.A (f (.int i t) (.int j u)) Q E s) :
    OpR X f (rI0 fun i j => .bl (g i j)) := by
  intro pins s σ H x y v u Q I rx ry h
  obtain ⟨i, j, rfl, rfl, q⟩ := h
  obtain ⟨t, rfl⟩ := rx
  obtain ⟨t', rfl⟩ := ry
  exact rule i j t t' s _ _ ⟨.bl (g i j), H, I, rfl, q⟩

def CDiv (i j : Int) : Prop := 0 < j ∧ j < 1073741824

theorem op_add : OpR X (binaryOp .Add) (rI0 fun i j => .int (i + j)) := opI0 fun _ _ _ _ _ _ _ q => add_int q
theorem op_sub : OpR X (binaryOp .Sub) (rI0 fun i j => .int (i - j)) := opI0 fun _ _ _ _ _ _ _ q => sub_int q
/-- // by a positive divisor -/
theorem op_fdiv : OpR X (binaryOp .FloorDiv) (rI CDiv fun i j => .int (i / j)) := opI fun i j _ _ _ _ _ hc q => by
  have h1 : (0 : Int) < j := hc.1
  have h2 : j < 1073741824 := hc.2
  exact floordiv_int (by (first | lia | omega)) (by rw [Int.fdiv_eq_ediv_of_nonneg i (by (first | lia | omega))]; exact q) (.inl (PyProof.noPylong_small (by (first | lia | omega))))
/-- % by a positive divisor of any size -/
theorem op_mod : OpR X (binaryOp .Mod) (rI (fun _ j => 0 < j) fun i j => .int (i % j)) := opI fun i j _ _ _ _ _ hc q => by
  have h1 : (0 : Int) < j := hc
  exact mod_int' (by (first | lia | omega)) (by rw [Int.fmod_eq_emod_of_nonneg i (by (first | lia | omega))]; exact q)


theorem unI {f : Value → Sem Value} {g : Int → Int}
    (rule : ∀ (i : Int) (t : Tok) (s : Shared) (Q : Value → Shared → Prop) (E : Value → Shared → Prop), Q (.int (g i) s.toks) { s with toks := s.toks + 1 } → wpAny (model X.prog X.w) X.A (f (.int i t)) Q E s) :
    UnR X f (rU fun i => .int (g i)) := by
  intro pins s σ H x v Q I rx h
  obtain ⟨i, rfl, q⟩ := h
  obtain ⟨t, rfl⟩ := rx
  exact rule i t s _ _ ⟨.int (g i), H, I.tok _, ⟨_, rfl⟩, q⟩
theorem un_neg : UnR X (unaryOp .USub) (rU fun i => .int (-i)) := unI fun _ _ _ _ _ q => neg_int q

/-! ### bools among ints: n += (a < b) -/
end

/-! ### comparisons -/
/-- the scalars that == tells apart as data does -/
def scal : V → V → Bool
  | .non, .non => true | .non, .int _ => true | .int _, .non => true | .non, .bl _ => true | .bl _, .non => true | .non, .str _ => true | .str _, .non => true
  | .int _, .int _ => true | .bl _, .bl _ => true | .str _, .str _ => true | .byt _, .byt _ => true
  | .int _, .str _ => true | .str _, .int _ => true | .bl _, .str _ => true | .str _, .bl _ => true
  | _, _ => false
def rEq : R2 := fun x y H Q => scal x y = true ∧ Q (.bl (decide (x = y))) H

theorem dec_int {i j : Int} : decide (V.int i = V.int j) = (i == j) := by
  rw [Bool.eq_iff_iff]
  simp
theorem dec_bl {i j : Bool} : decide (V.bl i = V.bl j) = (i == j) := by
  rw [Bool.eq_iff_iff]
  simp
theorem dec_str {i j : Str} : decide (V.str i = V.str j) = (i == j) := by
  rw [Bool.eq_iff_iff]
  simp
theorem dec_byt {i j : Array UInt8} : decide (V.byt i = V.byt j) = (i.toList == j.toList) := by
  rw [Bool.eq_iff_iff]
  cases i
  cases j
  simp

section
variable {X : Cx} {a b c : Expr} {ta tb tc : TE} {pos : Pos}
theorem fin_bl {pins : List (Addr × Obj)} {σ : St} {H : Hp} {s : Shared} {Q : VK} {k k' : Bool} (I : Inv X pins σ H s) (q : Q (.bl k) H) (e : k = k') : EP X pins σ Q (.bool k') s := by
  subst e
  exact ⟨.bl k, H, I, rfl, q⟩
theorem op_eq : OpR X (compareOp .Eq) rEq := by
  intro pins s σ H x y v u Q I rx ry h
  obtain ⟨hs, q⟩ := h
  cases x with
  | non =>
    cases rx
    cases y with
    | non => cases ry; exact PySem.EqNone.eq_none_none (fin_bl I q (by simp))
    | bl j => cases ry; exact PySem.EqNone.eq_none_bool (fin_bl I q (by simp))
    | int j => obtain ⟨t', rfl⟩ := ry; exact PySem.EqNone.eq_none_int (fin_bl I q (by simp))
    | str j => obtain ⟨t', rfl⟩ := ry; exact PySem.EqNone.eq_none_str (fin_bl I q (by simp))
    | _ => exact absurd (show false = true from hs) Bool.false_ne_true
  | bl i =>
    cases rx
    cases y with
    | non => cases ry; exact PySem.EqNone.eq_bool_none (fin_bl I q (by simp))
    | bl j => cases ry; exact eq_bool (fin_bl I q dec_bl)
    | str j => obtain ⟨t', rfl⟩ := ry; exact PySem.EqMixed.eq_bool_str (fin_bl I q (by simp))
    | _ => exact absurd (show false = true from hs) Bool.false_ne_true
  | int i =>
    obtain ⟨t, rfl⟩ := rx
    cases y with
    | non => cases ry; exact PySem.EqNone.eq_int_none (fin_bl I q (by simp))
    | int j => obtain ⟨t', rfl⟩ := ry; exact eq_int (fin_bl I q dec_int)
    | str j => obtain ⟨t', rfl⟩ := ry; exact PySem.EqMixed.eq_int_str (fin_bl I q (by simp))
    | _ => exact absurd (show false = true from hs) Bool.false_ne_true
  | str i =>
    obtain ⟨t, rfl⟩ := rx
    cases y with
    | non => cases ry; exact PySem.EqNone.eq_str_none (fin_bl I q (by simp))
    | bl j => cases ry; exact PySem.EqMixed.eq_str_bool (fin_bl I q (by simp))
    | int j => obtain ⟨t', rfl⟩ := ry; exact PySem.EqMixed.eq_str_int (fin_bl I q (by simp))
    | str j => obtain ⟨t', rfl⟩ := ry; exact eq_str (fin_bl I q dec_str)
    | _ => exact absurd (show false = true from hs) Bool.false_ne_true
  | byt i =>
    obtain ⟨t, rfl⟩ := rx
    cases y with
    | byt j => obtain ⟨t', rfl⟩ := ry; exact PySem.W.eq_bytes (fin_bl I q dec_byt)
    | _ => exact absurd (show false = true from hs) Bool.false_ne_true
  | _ => cases y <;> exact absurd (show false = true from hs) Bool.false_ne_true

theorem op_lt : OpR X (compareOp .Lt) (rI0 fun i j => .bl (decide (i < j))) := opB0 fun _ _ _ _ _ _ _ q => lt_int q
theorem op_le : OpR X (compareOp .LtE) (rI0 fun i j => .bl (decide (i ≤ j))) := opB0 fun _ _ _ _ _ _ _ q => le_int q
theorem op_gt : OpR X (compareOp .Gt) (rI0 fun i j => .bl (decide (j < i))) := opB0 fun _ _ _ _ _ _ _ q => gt_int q


theorem op_notin_str : OpR X (compareOp .NotIn) (fun x y H Q => ∃ i j, x = .str i ∧ y = .str j ∧ Q (.bl (!(!(Builtin.Str.occurrences j i 0 j.length 1).isEmpty))) H) := by
  intro pins s σ H x y v u Q I rx ry h
  obtain ⟨i, j, rfl, rfl, q⟩ := h
  obtain ⟨t, rfl⟩ := rx
  obtain ⟨t', rfl⟩ := ry
  exact notIn_str (fin_bl I q rfl)


theorem nomark (b : Expr) {op : CmpOp} (h : op ≠ .In := by decide) (h2 : op ≠ .NotIn := by decide) : behindInMarks op b = false := by
  have e1 : (op == CmpOp.In) = false := by cases op <;> first | rfl | exact absurd rfl h
  have e2 : (op == CmpOp.NotIn) = false := by cases op <;> first | rfl | exact absurd rfl h2
  cases b <;> simp [behindInMarks, e1, e2]
/-- a comparison as a value; hm: nomark b, or (for in, not in) by with_unfolding_all rfl -/
theorem pe_cmpR {op : CmpOp} {r : R2} (ho : OpR X (compareOp op) r) (ha : PE X a ta) (hb : PE X b tb) (hm : behindInMarks op b = false) : PE X (.Compare a [op] [b] pos) (tOp r ta tb) := by
  intro pins s σ H Q I h
  exact wpAny_Compare1 (binT ha hb I h fun v u s2 x y H2 I2 rx ry q => ho pins s2 σ H2 x y v u Q I2 rx ry q) hm
/-- a reading of a value as a test -/
def tTest (t : TE) : TT := fun σ H Q => t σ H fun x H' => ∃ k, x = .bl k ∧ Q k H'
theorem pt_cmpR {op : CmpOp} {r : R2} (ho : OpR X (compareOp op) r) (ha : PE X a ta) (hb : PE X b tb) (hm : behindInMarks op b = false) : PT X (.Compare a [op] [b] pos) (tTest (tOp r ta tb)) := by
  intro pins s σ H Q I h
  refine wpAny_isTrue_Compare1 (thn (ha pins s σ H _ I h) fun v s1 ⟨x, H1, I1, r1, q1⟩ => thn (hb pins s1 σ H1 _ I1 q1) fun u s2 ⟨y, H2, I2, r2, q2⟩ =>
    thn (ho pins s2 σ H2 x y v u _ I2 r1 r2 q2) fun c s3 ⟨z, H3, I3, r3, k, e, q3⟩ => ?_) hm
  subst e
  cases r3
  exact wpAny_truthy_bool ⟨H3, I3, q3⟩

/-! ### truth -/
theorem line63 : (sizeLine : Nat) < 2 ^ 63 := by rw [sizeLine_eq]; decide

/-! ### strs and bytes -/
theorem op_add_str : OpR X (binaryOp .Add) (fun x y H Q => ∃ i j, x = .str i ∧ y = .str j ∧ i.length + j.length ≤ sizeLine ∧ Q (.str (i ++ j)) H) := by
  intro pins s σ H x y v u Q I rx ry h
  obtain ⟨i, j, rfl, rfl, hz, q⟩ := h
  obtain ⟨t, rfl⟩ := rx
  obtain ⟨t', rfl⟩ := ry
  exact add_str (fun t' tk => ⟨.str (i ++ j), H, I.tok _, ⟨_, rfl⟩, q⟩) hz


/-! ### scalar builtins, by CallR -/
theorem vals1 {x : V} {us : List Value} (r : Vals [x] us) : ∃ u, us = [u] ∧ RelV x u := by
  cases r with
  | cons r1 r2 => cases r2; exact ⟨_, rfl, r1⟩
theorem vals2 {x y : V} {us : List Value} (r : Vals [x, y] us) : ∃ u w', us = [u, w'] ∧ RelV x u ∧ RelV y w' := by
  cases r with
  | cons r1 r2 =>
    cases r2 with
    | cons r3 r4 => cases r4; exact ⟨_, _, rfl, r1, r3⟩
theorem call_abs : CallR X (.builtin "abs") (fun xs H Q => ∃ i, xs = [.int i] ∧ Q (.int (if i < 0 then -i else i)) H) := by
  intro pins s σ H xs us Q I r h
  obtain ⟨i, rfl, q⟩ := h
  obtain ⟨u, rfl, t, rfl⟩ := vals1 r
  exact call_abs_int fun u tk => ⟨.int (if i < 0 then -i else i), H, I.tok _, ⟨_, rfl⟩, q⟩
end
end L2

namespace L2
open PySem PySem.Spec PyProof.Rows

/-! ### an instance, its attributes a map -/
structure ObjM (h : Heap) (x dx C : Addr) (mA : Str → Option Value) : Prop where
  obj : h.get? x = some (PySem.W.instObj C dx)
  ns : h.Ns1 dx mA
  ne : dx ≠ x

theorem lookIn_ns {h : Heap} {dx : Addr} {mA : Str → Option Value} (n : h.Ns1 dx mA) : ∃ od, h.get? dx = some od ∧ ∀ name, PySem.W.lookIn name od = some (mA name) := by
  obtain ⟨o, es, ep, ho, hd, hk, _, hm⟩ := n
  refine ⟨o, ho, fun name => ?_⟩
  have e := hm name
  unfold nsFind findBy at e
  rw [← Array.find?_toList] at e
  unfold PySem.W.lookIn
  rw [hd]
  dsimp only
  split
  · rename_i y q
    rw [q] at e
    exact congrArg some e
  · rename_i q
    rw [q] at e
    have a : es.toList.any (·.refKey) = false := by
      rw [List.any_eq_false]
      intro y hy
      obtain ⟨z, t, hkey⟩ := hk y (Array.mem_toList_iff.mp hy)
      simp [DictEntry.refKey, hkey]
    have a' : ¬ es.toList.any (·.refKey) = true := by rw [a]; exact Bool.false_ne_true
    rw [if_neg a']
    exact congrArg some e

theorem ObjM.look {h : Heap} {x dx C : Addr} {mA : Str → Option Value} (I : ObjM h x dx C mA) : ∃ od, PySem.W.InstAt h x (PySem.W.instObj C dx) C (some od) ∧ ∀ name, PySem.W.lookIn name od = some (mA name) :=
  let ⟨od, ho, hl⟩ := lookIn_ns I.ns
  ⟨od, ⟨I.obj, rfl, rfl, ho⟩, hl⟩

section
variable {prog : Program} {w : World} {A : Around} {E : Value → Shared → Prop} {s : Shared} {K : PySem.W.Frag} {x dx C f : Addr} {mA : Str → Option Value} {name : Str} {v : Value}

theorem get_map {expr : Bool} {Q : Value → Shared → Prop} (X : K.In s.heap) (I : ObjM s.heap x dx C mA) (hg : PySem.W.plainGet K C name = true) (hh : PySem.W.hasDictIn K C = true)
    (ha : PySem.W.findIn K (.ref C) name = some none) (hv : mA name = some v) (hv' : PySem.W.handedIn v = true) (h : Q v { s with toks := s.toks + 1 }) :
    wpAny (model prog w) A (getAttr (.ref x) name expr) Q E s := by
  obtain ⟨od, J, hl⟩ := I.look
  exact PySem.W.get_value X J (PySem.W.plainGet_of hg).1 (PySem.W.findObj_own hh ha rfl (by rw [hl, hv])) hv' h


theorem get_meth {pl : Sem Bool} {Q : Value × List Value → Shared → Prop} (X : K.In s.heap) (I : ObjM s.heap x dx C mA) (hg : PySem.W.plainGet K C name = true)
    (hf : PySem.W.findIn K (.ref C) name = some (some (.ref f))) (ht : PySem.W.isFn K (.ref f) = true) (hv : mA name = none) (h : Q (.ref f, [.ref x]) s) :
    wpAny (model prog w) A (getMethod (.ref x) name pl) Q E s := by
  obtain ⟨od, J, hl⟩ := I.look
  exact PySem.W.method_fn X J (PySem.W.plainGet_of hg).1 (PySem.W.plainGet_of hg).2 hf (beq_iff_eq.mp ht) (by show (PySem.W.lookIn name od).map (·.isSome) = some false; rw [hl, hv]; rfl) h

theorem set_map {ns : List Str} {Q : Unit → Shared → Prop} (X : K.In s.heap) (I : ObjM s.heap x dx C mA)
    (hs : PySem.W.findIn K (.ref C) "__setattr__" = some (some (.builtin "object.__setattr__"))) (hp : PySem.W.plainOver K C = true) (ht : PySem.W.takerIn K C name = some none) (hh : PySem.W.hasDictIn K C = true)
    (hw : PySem.Within mA ns) (hsz : ns.length ≤ sizeLine)
    (h : ∀ h', ObjM h' x dx C (fun y => if y = name then some v else mA y) → Heap.SameBut dx s.heap h' → Q () { s with heap := h', toks := s.toks + 2 }) :
    wpAny (model prog w) A (setAttr (.ref x) name v) Q E s := by
  obtain ⟨od, J, hl⟩ := I.look
  refine PySem.W.set_plain X J hs (PySem.W.osa_open (s := { s with toks := s.toks + 1 }) (r := none) X J hp ht fun b => ?_)
  obtain ⟨cd, hc, hd'⟩ := PySem.W.any_some hh
  have hx : s.heap.get? x = some ⟨.ref C, some dx, .plain, #[]⟩ := I.obj
  refine wpAny_bind (wpAny_pure (wpAny_bind (wpAny_bind (wpAny_loadPart hx (wpAny_bind (PySem.W.Looks.here (s := { s with toks := s.toks + 1 }) (PySem.W.looks_clsIn X hc) ?_))))))
  rw [hd']
  refine wpAny_pure (a := some dx) (wpAny_bind (wpAny_pure (wpAny_bind ?_)))
  refine wpAny_nsSet1 (s := { s with toks := s.toks + 1 }) I.ns fun h' hn2 hs2 => ?_
  obtain ⟨oD, esD, epD, hoD, hdD, hcD⟩ := hn2.count (PySem.Within.cons name v hw)
  refine wpAny_bind (wpAny_lookBehind hoD (by rw [hdD]; exact pastItsLine_dict (Nat.le_trans hcD (by rw [List.length_cons]; (first | lia | omega)))) ?_)
  exact wpAny_pure (h _ ⟨(hs2.2 _ (Ne.symm I.ne)).trans I.obj, hn2, I.ne⟩ hs2)

/-- C(..): the dict at the heap's end, the instance behind it; then its __init__ -/
theorem make_map {R : Result → Shared → Prop} {vs : List Value} {kw : List (Str × Value)} (X : K.In s.heap) (hm : PySem.W.makesIn K C = true)
    (hi : PySem.W.findIn K (.ref C) "__init__" = some (some (.ref f))) (hf : PySem.W.typeIn K (.ref f) = some (.type "function"))
    (h : codeAny (model prog w) (A.under (.builtin "type.__call__" ⟨.ref C :: vs, kw⟩)) (.call (.ref f) ⟨.ref (s.heap.objs.size + 1) :: vs, kw⟩) (PySem.W.InitBack (s.heap.objs.size + 1) R)
      { s with heap := (s.heap.push PySem.W.emptyDict).push (PySem.W.instObj C s.heap.objs.size) }) :
    codeAny (model prog w) A (.call (.ref C) ⟨vs, kw⟩) R s := by
  obtain ⟨hh, g, d, t, os⟩ := s
  exact PySem.W.make_core (PySem.W.makes_of X hm) (PySem.W.looks_findIn X hi) (fun self => PySem.W.bind_fn X self hf) (.inl rfl) h
end

/-! ### the attributes as a list of pairs -/
def putF (f : Str) (v : V) : List (Str × V) → List (Str × V)
  | [] => [(f, v)]
  | (g, x) :: r => if g = f then (g, v) :: r else (g, x) :: putF f v r
theorem lookup_putF (f g : Str) (v : V) : ∀ fs : List (Str × V), (putF f v fs).lookup g = if g = f then some v else fs.lookup g
  | [] => by
    show List.lookup g [(f, v)] = _
    by_cases h : g = f
    · have hb : (g == f) = true := beq_iff_eq.mpr h
      simp only [List.lookup, hb, if_pos h]
    · have hb : (g == f) = false := beq_eq_false_iff_ne.mpr h
      simp only [List.lookup, hb, if_neg h]
  | (k, x) :: r => by
    have ih := lookup_putF f g v r
    rw [show putF f v ((k, x) :: r) = (if k = f then (k, v) :: r else (k, x) :: putF f v r) from rfl]
    by_cases hk : k = f
    · rw [if_pos hk]
      by_cases h : g = k
      · have hb : (g == k) = true := beq_iff_eq.mpr h
        simp only [List.lookup, hb, if_pos (h.trans hk)]
      · have hb : (g == k) = false := beq_eq_false_iff_ne.mpr h
        simp only [List.lookup, hb, if_neg (fun e : g = f => h (e.trans hk.symm))]
    · rw [if_neg hk]
      by_cases h : g = k
      · have hb : (g == k) = true := beq_iff_eq.mpr h
        simp only [List.lookup, hb, if_neg (fun e : g = f => hk (h.symm.trans e))]
      · have hb : (g == k) = false := beq_eq_false_iff_ne.mpr h
        simp only [List.lookup, hb]
        exact ih
theorem keys_putF (f : Str) (v : V) : ∀ fs : List (Str × V), f ∈ (putF f v fs).map (·.1) ∧ ∀ g, g ∈ fs.map (·.1) → g ∈ (putF f v fs).map (·.1)
  | [] => ⟨by simp [putF], fun g h => by simp at h⟩
  | (k, x) :: r => by
    obtain ⟨i1, i2⟩ := keys_putF f v r
    rw [show putF f v ((k, x) :: r) = (if k = f then (k, v) :: r else (k, x) :: putF f v r) from rfl]
    by_cases hk : k = f
    · rw [if_pos hk]
      subst hk
      exact ⟨by simp, fun g h => by simpa using h⟩
    · rw [if_neg hk]
      refine ⟨?_, fun g h => ?_⟩
      · rw [List.map_cons]
        exact List.mem_cons_of_mem _ i1
      · rw [List.map_cons] at h ⊢
        rcases List.mem_cons.mp h with e | e
        · exact List.mem_cons.mpr (.inl e)
        · exact List.mem_cons_of_mem _ (i2 g e)
theorem length_putF (f : Str) (v : V) : ∀ fs : List (Str × V), (putF f v fs).length ≤ fs.length + 1
  | [] => by simp [putF]
  | (k, x) :: r => by
    have ih := length_putF f v r
    rw [show putF f v ((k, x) :: r) = (if k = f then (k, v) :: r else (k, x) :: putF f v r) from rfl]
    by_cases hk : k = f
    · rw [if_pos hk, List.length_cons, List.length_cons]; (first | lia | omega)
    · rw [if_neg hk, List.length_cons, List.length_cons]; (first | lia | omega)

theorem RelO.some_of {v : V} {o : Option Value} (r : RelO (some v) o) : ∃ u, o = some u ∧ RelV v u := by
  cases o with
  | none => exact (show False from r).elim
  | some u => exact ⟨u, rfl, r⟩
theorem RelO.none_of {o : Option Value} (r : RelO none o) : o = none := by
  cases o with
  | none => rfl
  | some u => exact (show False from r).elim
theorem handed_of {v : V} {u : Value} (r : RelV v u) : PySem.W.handedIn u = true := by
  cases v with
  | non => cases (show u = Value.none from r); rfl
  | bl b => cases (show u = Value.bool b from r); rfl
  | int i => obtain ⟨t, e⟩ := (show ∃ t, u = Value.int i t from r); cases e; rfl
  | str x => obtain ⟨t, e⟩ := (show ∃ t, u = Value.str x t from r); cases e; rfl
  | byt b => obtain ⟨t, e⟩ := (show ∃ t, u = Value.bytes b t from r); cases e; rfl
  | flt b => obtain ⟨t, e⟩ := (show ∃ t, u = Value.float b t from r); cases e; rfl
  | ref a => cases (show u = Value.ref a from r); rfl
  | ty n => cases (show u = Value.type n from r); rfl

section
variable {P : Program} {w : World} {H H' : Hp} {h h' : Heap} {a C dx : Addr} {fs fs' : List (Str × V)}
theorem ins_get (hok : HOk P w H h) (e : H a = some (.ins C dx fs)) : ∃ mA, ObjM h a dx C mA ∧ (∀ f, RelO (fs.lookup f) (mA f)) ∧ PySem.Within mA (fs.map (·.1)) ∧ fs.length ≤ 1000 ∧ H dx = some (.own a) := by
  obtain ⟨d, z, ne, ob, mA, n, r, q⟩ := (show ObjOk P w H h a (.ins C dx fs) from hok a _ e)
  exact ⟨mA, ⟨ob, n, ne⟩, r, q, z, d⟩
end

/-! ### what of the text a class must have -/
structure Cls (K : PySem.W.Frag) (C : Addr) : Prop where
  pg : PySem.W.plainGet K C Str.empty = true
  hd : PySem.W.hasDictIn K C = true
  po : PySem.W.plainOver K C = true
  sa : PySem.W.findIn K (.ref C) "__setattr__" = some (some (.builtin "object.__setattr__"))
theorem Cls.get {K : PySem.W.Frag} {C : Addr} (c : Cls K C) (f : Str) : PySem.W.plainGet K C f = true := c.pg
/-- no class of it has the name -/
def NoAttr (K : PySem.W.Frag) (C : Addr) (f : Str) : Prop := PySem.W.findIn K (.ref C) f = some none
theorem NoAttr.taker {K : PySem.W.Frag} {C : Addr} {f : Str} (n : NoAttr K C f) : PySem.W.takerIn K C f = some none := by
  unfold PySem.W.takerIn
  rw [show PySem.W.findIn K (.ref C) f = some none from n]
  rfl
/-- a method: a plain def of the class or of one above it -/
structure Meth (K : PySem.W.Frag) (C : Addr) (m : Str) (f : Addr) : Prop where
  at_ : PySem.W.findIn K (.ref C) m = some (some (.ref f))
  fn : PySem.W.isFn K (.ref f) = true
  kp : PySem.W.keepIn K (.ref f) = true

section
variable {X : Cx} {pins : List (Addr × Obj)} {σ : St} {H : Hp} {s : Shared} {a C dx : Addr} {fs : List (Str × V)} {f : Str} {v : V} {A : Around} {E : Value → Shared → Prop}

theorem getattr_ok {b : Bool} {Q : Value → Shared → Prop} (I : Inv X pins σ H s) (e : H a = some (.ins C dx fs)) (c : Cls X.K C) (n : NoAttr X.K C f) (l : fs.lookup f = some v)
    (h : ∀ u s', Inv X pins σ H s' → RelV v u → Q u s') : wpAny (model X.prog X.w) A (getAttr (.ref a) f b) Q E s := by
  obtain ⟨mA, O, r, _, _, _⟩ := ins_get I.hok e
  obtain ⟨u, hu, ru⟩ := RelO.some_of (v := v) (o := mA f) (by rw [← l]; exact r f)
  exact get_map I.kIn O (c.get f) c.hd n hu (handed_of ru) (h u _ (I.tok _) ru)


theorem getmeth_ok {m : Str} {g : Addr} {pl : Sem Bool} {Q : Value × List Value → Shared → Prop} (I : Inv X pins σ H s) (e : H a = some (.ins C dx fs)) (c : Cls X.K C) (k : Meth X.K C m g) (l : fs.lookup m = none)
    (h : Q (.ref g, [.ref a]) s) : wpAny (model X.prog X.w) A (getMethod (.ref a) m pl) Q E s := by
  obtain ⟨mA, O, r, _, _, _⟩ := ins_get I.hok e
  have hn : mA m = none := RelO.none_of (by rw [← l]; exact r m)
  exact get_meth I.kIn O (c.get m) k.at_ k.fn hn h

theorem setattr_ok {y : V} {u : Value} {Q : Unit → Shared → Prop} (I : Inv X pins σ H s) (e : H a = some (.ins C dx fs)) (c : Cls X.K C) (n : NoAttr X.K C f) (hl : fs.length < 1000) (ry : RelV y u)
    (h : ∀ s', Inv X pins σ (upd H a (.ins C dx (putF f y fs))) s' → Q () s') : wpAny (model X.prog X.w) A (setAttr (.ref a) f u) Q E s := by
  obtain ⟨mA, O, r, wi, _, ho⟩ := ins_get I.hok e
  have hz : (fs.map (·.1)).length ≤ sizeLine := by rw [List.length_map, sizeLine_eq]; (first | lia | omega)
  refine set_map I.kIn O c.sa c.po n.taker c.hd wi hz fun h' O' sb => h _ ?_
  have hd : ∃ o, h'.get? dx = some o := let ⟨o, _, _, e', _⟩ := O'.ns; ⟨o, e'⟩
  refine I.write (x := a) (e := dx) (by rw [e]; exact True.intro) (.inr ho) (fun b q hb z => (sb.2 b hb).trans z) hd ?_
  refine ⟨by rw [upd_ne O.ne]; exact ho, ?_, O.ne, O'.obj, _, O'.ns, fun g => ?_, fun g hg => ?_⟩
  · have := length_putF f y fs; (first | lia | omega)
  · show RelO ((putF f y fs).lookup g) (if g = f then some u else mA g)
    rw [lookup_putF]
    by_cases q : g = f
    · rw [if_pos q, if_pos q]; exact ry
    · rw [if_neg q, if_neg q]; exact r g
  · by_cases q : g = f
    · rw [q]; exact (keys_putF f y fs).1
    · refine (keys_putF f y fs).2 g (wi g fun z => hg ?_)
      show (if g = f then some u else mA g) = none
      rw [if_neg q]; exact z

/-- a new instance, tracked, without attributes -/
theorem Inv.made (I : Inv X pins σ H s) : Inv X pins σ (upd (upd H s.heap.objs.size (.own (s.heap.objs.size + 1))) (s.heap.objs.size + 1) (.ins C s.heap.objs.size []))
    { s with heap := (s.heap.push PySem.W.emptyDict).push (PySem.W.instObj C s.heap.objs.size) } := by
  have e1 : (s.heap.push PySem.W.emptyDict).get? s.heap.objs.size = some PySem.W.emptyDict := Heap.get?_push_size s.heap rfl
  have e2 : ((s.heap.push PySem.W.emptyDict).push (PySem.W.instObj C s.heap.objs.size)).get? (s.heap.objs.size + 1) = some (PySem.W.instObj C s.heap.objs.size) := by
    have := Heap.get?_push_size (s.heap.push PySem.W.emptyDict) (o := PySem.W.instObj C s.heap.objs.size) rfl
    rwa [Heap.size_push] at this
  have e3 : (s.heap.push PySem.W.emptyDict).Ns s.heap.objs.size (fun _ => none) := ⟨PySem.W.emptyDict, #[], _, e1, rfl, (fun e he => absurd he (by simp)), fun _ => rfl⟩
  have I1 := I.laid (a := s.heap.objs.size) (o := .own (s.heap.objs.size + 1)) (h' := s.heap.push PySem.W.emptyDict) (t' := s.toks) (fun b u q => Heap.get?_push_of_some _ q) (Nat.le_refl _) ⟨_, e1⟩
  refine I1.laid (a := s.heap.objs.size + 1) (o := .ins C s.heap.objs.size []) (t' := s.toks) (fun b u q => Heap.get?_push_of_some _ q) (Nat.le_of_eq (Heap.size_push _ _)) ?_
  have ne : s.heap.objs.size ≠ s.heap.objs.size + 1 := Nat.ne_of_lt (Nat.lt_succ_self _)
  refine ⟨by rw [upd_ne ne, upd_same], Nat.zero_le _, ne, e2, fun _ => none, (Heap.Ns1.of_empty e3).at fun o q => Heap.get?_push_of_some _ q, fun _ => True.intro, fun y hy => absurd rfl hy⟩

/-- e.f where nothing but the object is asked: through attributeBase (super) and the last hold -/
theorem attr_of {prog : Program} {w : World} {env : Env} {e : Expr} {f : Str} {pos : Pos} {s : Shared} {Q : Value → Shared → Prop} (hb : attributeBase e f env (eval e env) = eval e env)
    (h : wpAny (model prog w) A (eval e env) (fun o s₁ => wpAny (model prog w) A (getAttr o f true) Q E s₁) E s) : wpAny (model prog w) A (eval (.Attribute e f pos) env) Q E s :=
  Attribute_any_ h (by rw [arm_eval_Attribute, hb])
end

/-! ### readings and rules -/
/-- e.f, an attribute of the instance -/
def tFld (K : PySem.W.Frag) (ta : TE) (f : Str) : TE := fun σ H Q => ta σ H fun x H1 => ∃ a C dx fs v, x = .ref a ∧ H1 a = some (.ins C dx fs) ∧ Cls K C ∧ NoAttr K C f ∧ fs.lookup f = some v ∧ Q v H1
/-- e.f = value -/
def sFld (K : PySem.W.Frag) (ta tv : TE) (f : Str) : TS := fun D σ H => tv σ H fun y H1 => ta σ H1 fun x H2 => ∃ a C dx fs, x = .ref a ∧ H2 a = some (.ins C dx fs) ∧ Cls K C ∧ NoAttr K C f ∧ fs.length < 1000 ∧
  D.nx σ (upd H2 a (.ins C dx (putF f y fs)))

section
variable {X : Cx} {o e value : Expr} {f : Str} {pos pos' tpos : Pos} {ta tv : TE}
theorem pe_fld (he : PE X e ta) (hb : attributeBase e f X.env (eval e X.env) = eval e X.env) : PE X (.Attribute e f pos) (tFld X.K ta f) := by
  intro pins s σ H Q I h
  refine attr_of hb (thn (he pins s σ H _ I h) fun u s1 ⟨x, H1, I1, rx, a, C, dx, fs, v, ex, ea, c, n, l, q⟩ => ?_)
  subst ex
  obtain rfl : u = Value.ref a := rx
  exact getattr_ok I1 ea c n l fun u' s2 I2 ru => ⟨v, H1, I2, ru, q⟩
theorem ps_fld (ha : PE X o ta) (hv : PE X value tv) (hs : swapsWith value (some (.Attribute o f pos')) pos.line X.env = pure false) : PS X (.Assign [.Attribute o f pos'] value pos) (sFld X.K ta tv f) := by
  intro pins s σ H D I h
  refine plainObj_wpAny_Assign_Attribute (thn (hv pins s σ H _ I h) fun u s1 ⟨y, H1, I1, ry, q⟩ => thn (ha pins s1 σ H1 _ I1 q) fun ov s2 ⟨x, H2, I2, rx, a, C, dx, fs, ex, ea, c, n, l, q2⟩ => ?_) hs
  subst ex
  obtain rfl : ov = Value.ref a := rx
  exact setattr_ok I2 ea c n l ry fun s3 I3 => ⟨σ, _, I3, q2⟩

end

/-! ### isinstance -/
section
variable {X : Cx} {pins : List (Addr × Obj)} {σ : St} {H : Hp} {s : Shared} {A : Around} {E : Value → Shared → Prop} {Q : Value → Shared → Prop} {c : Value} {b : Bool}
/-- the type of a value, as the fragment's deciders take it; for an instance its class -/
inductive TyOf (K : PySem.W.Frag) (H : Hp) : V → Value → Prop where
  | non : TyOf K H .non (.type "NoneType")
  | bl (x : Bool) : TyOf K H (.bl x) (.type "bool")
  | int (i : Int) : TyOf K H (.int i) (.type "int")
  | str (x : Str) : TyOf K H (.str x) (.type "str")
  | flt (x : UInt64) : TyOf K H (.flt x) (.type "float")
  | lst {a : Addr} {xs : List V} (e : H a = some (.lst xs)) : TyOf K H (.ref a) (.type "list")
  | frz {a : Addr} {o : Obj} {xs : List V} (e : H a = some (.frz o (.lst xs))) : TyOf K H (.ref a) (.type "list")
  | tup {a : Addr} {xs : List V} (e : H a = some (.tup xs)) : TyOf K H (.ref a) (.type "tuple")
  | dK {a : Addr} {kvs : List (Key × V)} (e : H a = some (.dK kvs)) : TyOf K H (.ref a) (.type "dict")
  | dT {a : Addr} {kvs : List (List Key × V)} (e : H a = some (.dT kvs)) : TyOf K H (.ref a) (.type "dict")
  | ins {a C dx : Addr} {fs : List (Str × V)} (e : H a = some (.ins C dx fs)) (cl : Cls K C) (ha : PySem.W.findIn K (.ref C) "__class__" = some (some (.builtin "object.__class__")))
      (hn : PySem.W.specialIn K (.builtin "object.__class__") "__get__" = some (some (.builtin "getset_descriptor.__get__"))) (htk : PySem.W.takesIn K (.builtin "object.__class__") = some true)
      (hm : PySem.W.mroIn K C (.type "object") = some true) : TyOf K H (.ref a) (.ref C)
/-- isinstance(x, c) for one class c, a built-in or an own one: kitOne's answer -/
theorem isinst_ok {x : V} {u t : Value} (I : Inv X pins σ H s) (rx : RelV x u) (ty : TyOf X.K H x t) (e : PySem.W.kitOne X.K t c = some b) (h : ∀ tk, Q (.bool b) { s with toks := tk }) :
    wpAny (model X.prog X.w) A (call (.builtin "isinstance") [u, c]) Q E s := by
  cases ty with
  | non => cases (show u = Value.none from rx); exact PySem.W.kia_one PySem.W.kitx_none I.kIn True.intro e (fun z => nomatch z) h
  | bl y => cases (show u = Value.bool y from rx); exact PySem.W.kia_one PySem.W.kitx_bool I.kIn True.intro e (fun z => nomatch z) h
  | int i => obtain ⟨t, q⟩ := (show ∃ t, u = Value.int i t from rx); cases q; exact PySem.W.kia_one PySem.W.kitx_int I.kIn True.intro e (fun z => nomatch z) h
  | str y => obtain ⟨t, q⟩ := (show ∃ t, u = Value.str y t from rx); cases q; exact PySem.W.kia_one PySem.W.kitx_str I.kIn True.intro e (fun z => nomatch z) h
  | flt y => obtain ⟨t, q⟩ := (show ∃ t, u = Value.float y t from rx); cases q; exact PySem.W.kia_one PySem.W.kitx_float I.kIn True.intro e (fun z => nomatch z) h
  | @lst a xs ea =>
    cases (show u = Value.ref a from rx)
    obtain ⟨_, _, n, _, h1⟩ := (show ObjOk X.prog X.w H s.heap a (.lst xs) from I.hok a _ ea)
    exact PySem.W.kia_one PySem.W.kitx_list I.kIn ⟨_, h1, rfl⟩ e (fun z => nomatch z) h
  | @frz a ob xs ea =>
    cases (show u = Value.ref a from rx)
    obtain ⟨_, _, _, n, _, h1⟩ := (show ObjOk X.prog X.w H s.heap a (.frz ob (.lst xs)) from I.hok a _ ea)
    exact PySem.W.kia_one PySem.W.kitx_list I.kIn ⟨_, h1, rfl⟩ e (fun z => nomatch z) h
  | @tup a xs ea =>
    cases (show u = Value.ref a from rx)
    obtain ⟨_, _, _, p⟩ := (show ObjOk X.prog X.w H s.heap a (.tup xs) from I.hok a _ ea)
    obtain ⟨o, h1, h2, _⟩ := p
    exact PySem.W.kia_one PySem.W.kitx_tuple I.kIn ⟨o, h1, h2⟩ e (fun z => nomatch z) h
  | @dK a kvs ea =>
    cases (show u = Value.ref a from rx)
    obtain ⟨_, _, vs, _, p⟩ := (show ObjOk X.prog X.w H s.heap a (.dK kvs) from I.hok a _ ea)
    obtain ⟨o, es, ep, h1, h2, _⟩ := p
    exact PySem.W.kia_one PySem.W.kitx_dict I.kIn ⟨o, h1, h2.1⟩ e (fun z => nomatch z) h
  | @dT a kvs ea =>
    cases (show u = Value.ref a from rx)
    obtain ⟨_, _, xs, _, o, es, ep, h1, h2, _⟩ := (show ObjOk X.prog X.w H s.heap a (.dT kvs) from I.hok a _ ea)
    exact PySem.W.kia_one PySem.W.kitx_dict I.kIn ⟨o, h1, h2.1⟩ e (fun z => nomatch z) h
  | @ins a C dx fs ea cl ha hn htk hm =>
    cases (show u = Value.ref a from rx)
    obtain ⟨mA, O, _⟩ := ins_get I.hok ea
    obtain ⟨od, J, _⟩ := O.look
    exact PySem.W.kia_one (PySem.W.kitx_own (cl.get _) cl.hd ha hn htk hm) I.kIn J e (fun z => nomatch z) h
end
end L2

namespace L2
open PySem PySem.Spec PyProof.Rows

/-! ### room -/
structure Room (k : Nat) (A : Around) : Prop where
  hd : A.handled = none
  dp : A.depth + 3 * k + 5 < recursionLimit
  un : A.units + 16 * k + 200 < cLine
theorem Room.mono {j k : Nat} {A : Around} (r : Room k A) (h : j ≤ k) : Room j A := ⟨r.hd, by have := r.dp; (first | lia | omega), by have := r.un; (first | lia | omega)⟩
theorem Room.deeper {k : Nat} {A : Around} (r : Room (k + 1) A) (env : Env) : Room k (A.deeper env) :=
  ⟨r.hd, by have := r.dp; show A.depth + 1 + 3 * k + 5 < _; (first | lia | omega), by have := r.un; show A.units + 3 + 16 * k + 200 < _; (first | lia | omega)⟩
theorem make_depth {A : Around} {C : Addr} {us : List Value} {kw : List (Str × Value)} : (A.under (.builtin "type.__call__" ⟨.ref C :: us, kw⟩)).depth = A.depth + 1 := by
  first | rfl | simp [Around.under, Code.weight, Code.isCreation, Code.isGuard, Code.isCaller, Code.frames, Code.isFrame, guardIds]
theorem make_units {A : Around} {C : Addr} {us : List Value} {kw : List (Str × Value)} : (A.under (.builtin "type.__call__" ⟨.ref C :: us, kw⟩)).units = A.units + 1 := by
  first | rfl | simp [Around.under, Code.cUnits, Code.frames, Code.isFrame]
theorem Room.make {k : Nat} {A : Around} (r : Room (k + 1) A) (C : Addr) (us : List Value) (kw : List (Str × Value)) : Room k (A.under (.builtin "type.__call__" ⟨.ref C :: us, kw⟩)) :=
  ⟨r.hd, by have := r.dp; rw [make_depth]; (first | lia | omega), by have := r.un; rw [make_units]; (first | lia | omega)⟩
theorem Room.depth {k : Nat} {A : Around} (r : Room k A) : A.depth < recursionLimit := by have := r.dp; (first | lia | omega)
theorem Room.units {k : Nat} {A : Around} (r : Room k A) : A.units + 64 < cLine := by have := r.un; (first | lia | omega)

/-! ### argument lists and displays -/
def tNil : TA := fun _ H Q => Q [] H
def tCons (ta : TE) (tr : TA) : TA := fun σ H Q => ta σ H fun x H1 => tr σ H1 fun xs H2 => Q (x :: xs) H2
section
variable {X : Cx} {e : Expr} {es : List Expr} {te : TE} {t : TA} {pos : Pos}
theorem pa_nil : PA X [] tNil := fun _ _ _ _ H Q I h => Calls.spliced_nil ⟨[], H, I, .nil, h⟩
theorem pa_cons (ha : PE X e te) (hr : PA X es t) (hs : starEach (e :: es) X.env = (false, eval e X.env) :: starEach es X.env := by rfl) : PA X (e :: es) (tCons te t) := by
  intro pos pins s σ H Q I h
  rw [hs]
  show wpAny _ _ (spliced ((false, eval e X.env) :: backTo pos (starEach es X.env))) _ _ s
  refine Calls.spliced_cons (thn (ha pins s σ H _ I h) fun u s1 ⟨x, H1, I1, r1, q1⟩ => ?_)
  exact thn (hr pos pins s1 σ H1 _ I1 q1) fun us s2 ⟨xs, H2, I2, r2, q2⟩ => ⟨x :: xs, H2, I2, .cons r1 r2, q2⟩

/-- a tuple, a list of written items -/
def tTup (t : TA) : TE := fun σ H Q => t σ H fun xs H1 => xs.length ≤ sizeLine ∧ ∀ p, H1 p = none → Q (.ref p) (upd H1 p (.tup xs))
def tLst (t : TA) : TE := fun σ H Q => t σ H fun xs H1 => xs.length ≤ sizeLine ∧ ∀ p, H1 p = none → Q (.ref p) (upd H1 p (.lst xs))
theorem pe_tup {x1} (h : PA X es t) : PE X (.Tuple es x1 pos) (tTup t) := by
  intro pins s σ H Q I hq
  refine wpAny_Tuple_spliced (thn (h pos pins s σ H _ I hq) fun us s1 ⟨xs, H1, I1, r, z, q⟩ => ⟨by rw [← r.length]; exact z, ?_⟩)
  have hf : H1 s1.heap.objs.size = none := I1.hok.fresh (Nat.le_refl _)
  refine ⟨.ref s1.heap.objs.size, upd H1 s1.heap.objs.size (.tup xs), I1.laid (t' := s1.toks) (fun b u e => Heap.get?_push_of_some _ e) (Nat.le_refl _) ?_, rfl, q _ hf⟩
  exact ⟨z, us, r, ⟨_, Heap.get?_push_size _ rfl, rfl, _, rfl⟩⟩
theorem pe_lst (h : PA X es t) : PE X (.List es pos) (tLst t) := by
  intro pins s σ H Q I hq
  refine wpAny_List_spliced (thn (h pos pins s σ H _ I hq) fun us s1 ⟨xs, H1, I1, r, z, q⟩ => ⟨by rw [← r.length]; exact z, ?_⟩)
  have hf : H1 s1.heap.objs.size = none := I1.hok.fresh (Nat.le_refl _)
  refine ⟨.ref s1.heap.objs.size, upd H1 s1.heap.objs.size (.lst xs), I1.laid (t' := s1.toks) (fun b u e => Heap.get?_push_of_some _ e) (Nat.le_refl _) ?_, rfl, q _ hf⟩
  exact ⟨z, us, 0, r, Heap.get?_push_size _ rfl⟩
end

/-! ### what a def promises -/
/-- a def's promise: the bound arguments in the parameters' order, the heap, the wanted end, the wanted exception -/
abbrev Sp := List V → Hp → VK → XK → Prop
/-- how an exception lies behind a call (file 08 gives it): the callers' frames, abstract heap and state ahead of the call, the wish, the exception, the state -/
abbrev CXT := List Env → Hp → Shared → XK → Value → Shared → Prop

/-- the state at a call -/
structure Env0 (P : Program) (w : World) (K : PySem.W.Frag) (mg : Str → Option Value) (base : Heap) (A : Around) (outer : List Env) (s : Shared) (H : Hp) : Prop where
  frames : A.frames = some outer
  mod : Mod K mg base
  bs : ∀ b o, base.get? b = some o → s.heap.get? b = some o ∧ H b = none
  bsz : base.objs.size ≤ s.heap.objs.size
  funs : s.heap.FunFrames base outer
  frf : ∀ b ∈ frs outer, H b = none
  hok : HOk P w H s.heap
  bare : AllBare s.gens
/-- a call's end -/
def CE (outer : List Env) (P : Program) (w : World) (H : Hp) (s : Shared) (Q : VK) (u : Value) (s' : Shared) : Prop :=
  ∃ v H', s'.os = s.os ∧ AllBare s'.gens ∧ Un (frs outer) [] H H' s.heap s'.heap ∧ HOk P w H' s'.heap ∧ RelV v u ∧ Q v H'
def CR (CX : CXT) (outer : List Env) (P : Program) (w : World) (H : Hp) (s : Shared) (Q : VK) (E : XK) (r : Result) (s' : Shared) : Prop :=
  match r with
  | .ok (.ret u) => CE outer P w H s Q u s'
  | .ok _ => False
  | .error e => CX outer H s E e s'
structure FnOk (P : Program) (w : World) (K : PySem.W.Frag) (mg : Str → Option Value) (base : Heap) (CX : CXT) (k : Nat) (f : Addr) (fd : FuncData) (ps : List Str) (sp : Sp) : Prop where
  len : ∀ vs H Q E, sp vs H Q E → vs.length = ps.length
  run : ∀ (A : Around) (outer : List Env) (s : Shared) (H : Hp) (args : Args) (us : List Value) (vs : List V) (Q : VK) (E : XK), Room k A → Env0 P w K mg base A outer s H → BindsTo s fd args (ps.zip us) → Vals vs us → sp vs H Q E →
    codeAny (model P w) A (.call (.ref f) args) (CR CX outer P w H s Q E) s

theorem Env0.make {P : Program} {w : World} {K : PySem.W.Frag} {mg : Str → Option Value} {base : Heap} {A : Around} {outer : List Env} {s : Shared} {H : Hp} (e : Env0 P w K mg base A outer s H) (C : Addr) (us : List Value) (kw : List (Str × Value)) :
    Env0 P w K mg base (A.under (.builtin "type.__call__" ⟨.ref C :: us, kw⟩)) outer s H := ⟨by first | exact e.frames | (simpa [Around.under, Code.envs, Code.isFrame, pushEnvs] using e.frames), e.mod, e.bs, e.bsz, e.funs, e.frf, e.hok, e.bare⟩

section
variable {X : Cx} {pins : List (Addr × Obj)} {σ : St} {H : Hp} {s s' : Shared}
/-- from a body: what a callee wants -/
theorem Inv.env0 (I : Inv X pins σ H s) : Env0 X.prog X.w X.K X.mg X.base X.A X.stack s H :=
  ⟨I.ok.frames, I.ok.mod, I.bs, Nat.le_trans I.ok.bsz I.sz, I.stack, I.stkFree, I.hok, I.bare⟩
/-- behind a call -/
theorem Inv.after {Q : VK} {u : Value} (I : Inv X pins σ H s) (h : CE X.stack X.prog X.w H s Q u s') : EP X pins σ Q u s' := by
  obtain ⟨v, H', os, bare, un, hok, r, q⟩ := h
  obtain ⟨hh, g, d, t, os'⟩ := s'
  obtain rfl : os' = s.os := os
  exact ⟨v, H', I.call (h' := hh) (g' := g) (d' := d) (t' := t) (ch := []) un hok bare (fun b z => absurd z (by simp)), r, q⟩
end

/-! ### calls -/
/-- f(..): the written arguments, then the defaults dvs; E: what is wanted of an exception -/
def tCall (sp : Sp) (dvs : List V) (E : XK) (t : TA) : TE := fun σ H Q => t σ H fun vs H1 => sp (vs ++ dvs) H1 Q E
/-- o.m(..) of an instance of the class at C -/
def tMeth (C : Addr) (m : Str) (sp : Sp) (dvs : List V) (E : XK) (ta : TE) (t : TA) : TE := fun σ H Q => ta σ H fun x H1 => ∃ a dx fs, x = .ref a ∧ H1 a = some (.ins C dx fs) ∧ fs.lookup m = none ∧
  t σ H1 fun vs H2 => sp (x :: (vs ++ dvs)) H2 Q E
/-- C(..): a new instance and its dict, then __init__ -/
def tMake (C : Addr) (sp : Sp) (dvs : List V) (E : XK) (t : TA) : TE := fun σ H Q => t σ H fun vs H1 => ∀ x dx, H1 x = none → H1 dx = none → dx ≠ x →
  sp (.ref x :: (vs ++ dvs)) (upd (upd H1 dx (.own x)) x (.ins C dx [])) (fun v H2 => v = .non ∧ Q (.ref x) H2) E

/-- how the parameters are bound: us the positional arguments, kw the keywords' values by name, ds the defaults that fill up -/
def Binds (K : PySem.W.Frag) (fd : FuncData) (ps : List Str) (ds : List Value) : Prop :=
  ∀ (s : Shared) (us : List Value), K.In s.heap → (us ++ ds).length = ps.length → BindsTo s fd ⟨us, []⟩ (ps.zip (us ++ ds))
/-- every parameter is given -/
theorem Binds.all {K : PySem.W.Frag} {fd : FuncData} {ps : List Str} (h : ∀ us : List Value, us.length = ps.length → bindArgs fd ⟨us, []⟩ = pure (ps.zip us)) : Binds K fd ps [] := fun s us _ hl => by
  rw [List.append_nil] at hl ⊢
  exact .of_eq (h us hl)

/-- an exception of a callee reaches what this body wants of exceptions -/
def Passes (CX : CXT) (X : Cx) (E : XK) : Prop := ∀ (pins : List (Addr × Obj)) (σ : St) (H : Hp) (s : Shared) (e : Value) (s' : Shared), Inv X pins σ H s → CX X.stack H s E e s' → X.xe e s'

section
variable {X : Cx} {CX : CXT} {k : Nat} {f C : Addr} {fd : FuncData} {ps : List Str} {sp : Sp} {dvs : List V} {ds : List Value} {E : XK} {x m : Str} {p pos apos : Pos} {e o : Expr} {es : List Expr} {ta : TE} {t : TA}

/-- the callee runs -/
theorem run_fn {pins : List (Addr × Obj)} {σ : St} {H : Hp} {s : Shared} {Q : VK} {us : List Value} {vs : List V} (F : FnOk X.prog X.w X.K X.mg X.base CX k f fd ps sp) (hr : Room k X.A) (hb : Binds X.K fd ps ds) (hd : Vals dvs ds) (hx : Passes CX X E)
    (I : Inv X pins σ H s) (r : Vals vs us) (h : sp (vs ++ dvs) H Q E) : wpAny (model X.prog X.w) X.A (call (.ref f) us) (EP X pins σ Q) X.xe s := by
  have r2 : Vals (vs ++ dvs) (us ++ ds) := r.append hd
  have hl : (us ++ ds).length = ps.length := by rw [← r2.length]; exact F.len _ _ _ _ h
  refine wpAny_call (codeAny_mono (F.run X.A X.stack s H ⟨us, []⟩ (us ++ ds) (vs ++ dvs) Q E hr I.env0 (hb s us I.kIn hl) r2 h) fun r s' hq => ?_)
  cases r with
  | error e => exact hx pins σ H s e s' I hq
  | ok fl =>
    cases fl with
    | ret u => exact I.after hq
    | next => exact False.elim hq
    | brk => exact False.elim hq
    | cont => exact False.elim hq

theorem pe_call (F : FnOk X.prog X.w X.K X.mg X.base CX k f fd ps sp) (hr : Room k X.A) (hg : Gl X x) (hm : X.mg x = some (.ref f)) (hk : PySem.W.keepIn X.K (.ref f) = true) (hb : Binds X.K fd ps ds) (hd : Vals dvs ds) (hx : Passes CX X E)
    (ha : PA X (e :: es) t) (hdb : (x == ("__debug__" : Str)) = false := by decide) (he : starEach (e :: es) X.env = (false, eval e X.env) :: starEach es X.env := by rfl) (hpl : (backTo pos (starEach es X.env)).any (·.1) = false := by rfl) :
    PE X (.Call (.Name x p) (e :: es) [] pos) (tCall sp dvs E t) := by
  intro pins s σ H Q I h
  refine wpAny_Call_Name_kw (ld_glob I hg hm ?_ hdb)
  refine PySem.W.callWith_K (h₀ := X.base) I.ok.mod.kin hk (thn (ha pos pins s σ H _ I h) fun us s1 ⟨vs, H1, I1, r, q⟩ => ⟨I1.kIn, ?_⟩) he hpl
  exact run_fn F hr hb hd hx I1 r q

/-- o.m(e, ..) -/
theorem pe_meth {pl : Sem Bool} (he : PE X o ta) (c : Cls X.K C) (hm : Meth X.K C m f) (F : FnOk X.prog X.w X.K X.mg X.base CX k f fd ps sp) (hr : Room k X.A) (hb : Binds X.K fd ps ds) (hd : Vals dvs ds) (hx : Passes CX X E) (ha : PA X (e :: es) t)
    (hst : starEach (e :: es) X.env = (false, eval e X.env) :: starEach es X.env := by rfl) (hpl : (backTo pos (starEach es X.env)).any (·.1) = false := by rfl)
    (ht : eval (.Call (.Attribute o m apos) (e :: es) [] pos) X.env = (do
      let ov ← eval o X.env
      standAt apos.atName
      let (f, first) ← holding [ov] (getMethod ov m pl)
      callWith pos f first (backTo pos (starEach (e :: es) X.env)) (backToKw pos (keywordEach [] X.env))) := by rfl) :
    PE X (.Call (.Attribute o m apos) (e :: es) [] pos) (tMeth C m sp dvs E ta t) := by
  intro pins s σ H Q I h
  refine PySem.W.methodCall_KW (pl := pl) (thn (he pins s σ H _ I h) fun u s1 ⟨x, H1, I1, rx, a, dx, fs, ex, ea, l, q⟩ => ?_) ht
  subst ex
  obtain rfl : u = Value.ref a := rx
  refine getmeth_ok I1 ea c hm l ?_
  refine PySem.W.callWith_K (first := [.ref a]) (h₀ := X.base) I.ok.mod.kin hm.kp (thn (ha pos pins s1 σ H1 _ I1 q) fun us s2 ⟨vs, H2, I2, r, q2⟩ => ⟨I2.kIn, ?_⟩) hst hpl
  exact run_fn (us := .ref a :: us) (vs := .ref a :: vs) F hr hb hd hx I2 (.cons rfl r) q2

/-- what a class must have to be made -/
structure Mk (K : PySem.W.Frag) (C f : Addr) : Prop where
  makes : PySem.W.makesIn K C = true
  init : PySem.W.findIn K (.ref C) "__init__" = some (some (.ref f))
  fn : PySem.W.isFn K (.ref f) = true
  kp : PySem.W.keepIn K (.ref C) = true

theorem run_make {pins : List (Addr × Obj)} {σ : St} {H : Hp} {s : Shared} {Q : VK} {us : List Value} {vs : List V} (M : Mk X.K C f) (F : FnOk X.prog X.w X.K X.mg X.base CX k f fd ps sp) (hr : Room (k + 1) X.A) (hb : Binds X.K fd ps ds) (hd : Vals dvs ds)
    (hx : Passes CX X E) (I : Inv X pins σ H s) (r : Vals vs us)
    (h : ∀ x dx, H x = none → H dx = none → dx ≠ x → sp (.ref x :: (vs ++ dvs)) (upd (upd H dx (.own x)) x (.ins C dx [])) (fun v H2 => v = .non ∧ Q (.ref x) H2) E) :
    wpAny (model X.prog X.w) X.A (call (.ref C) us) (EP X pins σ Q) X.xe s := by
  have hq := h (s.heap.objs.size + 1) s.heap.objs.size (I.hok.fresh (Nat.le_succ _)) (I.hok.fresh (Nat.le_refl _)) (Nat.ne_of_lt (Nat.lt_succ_self _))
  have I2 := Inv.made (C := C) I
  have r2 : Vals (V.ref (s.heap.objs.size + 1) :: (vs ++ dvs)) (Value.ref (s.heap.objs.size + 1) :: (us ++ ds)) := .cons rfl (r.append hd)
  have hl : (Value.ref (s.heap.objs.size + 1) :: us ++ ds).length = ps.length := by
    have e := r2.length
    rw [F.len _ _ _ _ hq] at e
    exact e.symm
  refine wpAny_call (make_map (f := f) I.kIn M.makes M.init (beq_iff_eq.mp M.fn) (codeAny_mono (F.run _ X.stack _ _ ⟨Value.ref (s.heap.objs.size + 1) :: us, []⟩ (Value.ref (s.heap.objs.size + 1) :: (us ++ ds)) _ _ E (hr.make C us [])
    (I2.env0.make C us []) (hb _ (Value.ref (s.heap.objs.size + 1) :: us) I2.kIn hl) r2 hq) fun r s' hq' => ?_))
  cases r with
  | error e => exact hx pins σ _ _ e s' I2 hq'
  | ok fl =>
    cases fl with
    | ret u =>
      obtain ⟨v, H', I3, rv, ev, q3⟩ := I2.after hq'
      subst ev
      exact ⟨rv, ⟨V.ref (s.heap.objs.size + 1), H', I3, rfl, q3⟩⟩
    | next => exact False.elim hq'
    | brk => exact False.elim hq'
    | cont => exact False.elim hq'
theorem pe_make (M : Mk X.K C f) (F : FnOk X.prog X.w X.K X.mg X.base CX k f fd ps sp) (hr : Room (k + 1) X.A) (hg : Gl X x) (hm : X.mg x = some (.ref C)) (hb : Binds X.K fd ps ds) (hd : Vals dvs ds) (hx : Passes CX X E)
    (ha : PA X (e :: es) t) (hdb : (x == ("__debug__" : Str)) = false := by decide) (he : starEach (e :: es) X.env = (false, eval e X.env) :: starEach es X.env := by rfl) (hpl : (backTo pos (starEach es X.env)).any (·.1) = false := by rfl) :
    PE X (.Call (.Name x p) (e :: es) [] pos) (tMake C sp dvs E t) := by
  intro pins s σ H Q I h
  refine wpAny_Call_Name_kw (ld_glob I hg hm ?_ hdb)
  refine PySem.W.callWith_K (h₀ := X.base) I.ok.mod.kin M.kp (thn (ha pos pins s σ H _ I h) fun us s1 ⟨vs, H1, I1, r, q⟩ => ⟨I1.kIn, ?_⟩) he hpl
  exact run_make M F hr hb hd hx I1 r q
end

/-! ### keywords -/
section
variable {X : Cx} {CX : CXT} {k : Nat} {f C : Addr} {fd : FuncData} {ps ks : List Str} {sp : Sp} {E : XK} {x m : Str} {p pos apos kpos : Pos} {e o : Expr} {es : List Expr} {kws : List Keyword} {te ta : TE} {t tk : TA} {nm : Option Str}

variable {g : List Value → List Value → List Value} {gV : List V → List V → List V}
end

/-! ### a def's body keeps its promise -/
/-- names: the parameters first -/
structure FnScope (N P : List Str) (sc : Scope) : Prop where
  kind : sc.kind = .function
  co : sc.isCoroutine = false
  gen : sc.isGenerator = false
  nd : N.Nodup
  pre : N.take P.length = P
  par : ∀ x ∈ P, sc.names.lookup x = some .local ∨ sc.names.lookup x = some .cell
  nofree : ∀ y ∈ sc.names, y.2 ≠ .free

theorem bindL_out {kindOf : Str → Option NameKind} {x : Str} : ∀ {binds : List (Str × Value)} {m : Str → Option Value}, (∀ v, (x, v) ∉ binds) → bindL kindOf binds m x = m x
  | [], _, _ => rfl
  | (n, v) :: r, m, h => by
    unfold bindL
    rw [bindL_out fun w hw => h w (List.mem_cons_of_mem _ hw)]
    split
    · have : x ≠ n := by rintro rfl; exact h v List.mem_cons_self
      simp [this]
    · rfl
theorem bindC_out {kindOf : Str → Option NameKind} {x : Str} : ∀ {binds : List (Str × Value)} {m : Str → Option Value}, (∀ v, (x, v) ∉ binds) → bindC kindOf binds m x = m x
  | [], _, _ => rfl
  | (n, v) :: r, m, h => by
    unfold bindC
    rw [bindC_out fun w hw => h w (List.mem_cons_of_mem _ hw)]
    split
    · rfl
    · have : x ≠ n := by rintro rfl; exact h v List.mem_cons_self
      simp [this]
theorem bindL_get {kindOf : Str → Option NameKind} {x : Str} {v : Value} : ∀ {P : List Str} {vs : List Value} {i : Nat} {m : Str → Option Value}, P.Nodup → P[i]? = some x → vs[i]? = some v → kindOf x = some .local →
    bindL kindOf (P.zip vs) m x = some v
  | [], _, _, _, _, h, _, _ => by simp at h
  | _ :: _, [], _, _, _, _, h, _ => by simp at h
  | p :: P, w :: vs, 0, m, nd, h1, h2, hk => by
    simp at h1 h2; subst h1; subst h2
    show bindL kindOf ((p, w) :: P.zip vs) m p = _
    unfold bindL
    rw [bindL_out fun v hv => (List.nodup_cons.mp nd).1 (List.of_mem_zip hv).1, if_pos hk]
    simp
  | p :: P, w :: vs, i + 1, m, nd, h1, h2, hk => by
    show bindL kindOf ((p, w) :: P.zip vs) m x = _
    unfold bindL
    exact bindL_get (i := i) (List.nodup_cons.mp nd).2 (by simpa using h1) (by simpa using h2) hk
theorem bindC_get {kindOf : Str → Option NameKind} {x : Str} {v : Value} : ∀ {P : List Str} {vs : List Value} {i : Nat} {m : Str → Option Value}, P.Nodup → P[i]? = some x → vs[i]? = some v → kindOf x ≠ some .local →
    bindC kindOf (P.zip vs) m x = some v
  | [], _, _, _, _, h, _, _ => by simp at h
  | _ :: _, [], _, _, _, _, h, _ => by simp at h
  | p :: P, w :: vs, 0, m, nd, h1, h2, hk => by
    simp at h1 h2; subst h1; subst h2
    show bindC kindOf ((p, w) :: P.zip vs) m p = _
    unfold bindC
    rw [bindC_out fun v hv => (List.nodup_cons.mp nd).1 (List.of_mem_zip hv).1, if_neg hk]
    simp
  | p :: P, w :: vs, i + 1, m, nd, h1, h2, hk => by
    show bindC kindOf ((p, w) :: P.zip vs) m x = _
    unfold bindC
    exact bindC_get (i := i) (List.nodup_cons.mp nd).2 (by simpa using h1) (by simpa using h2) hk

/-- the names' values at the entry -/
def start (N : List Str) (vs : List V) : St := vs.map some ++ List.replicate (N.length - vs.length) none

/-- the context of a def's body, at its entry; an exception leaves the frame, then lies as CX says -/
def cxOf (CX : CXT) (P : Program) (w : World) (K : PySem.W.Frag) (mg : Str → Option Value) (base : Heap) (N : List Str) (qual : Str) (scope : Scope) (f : Addr) (cd : Value) (A : Around) (outer : List Env) (s : Shared) (H : Hp) (E : XK) : Cx where
  prog := P
  w := w
  K := K
  mg := mg
  base := base
  A := A.deeper (envOfC qual scope s.heap.objs.size f cd)
  N := N
  s₀ := s
  H₀ := H
  env := envOfC qual scope s.heap.objs.size f cd
  outer := outer
  stack := envOfC qual scope s.heap.objs.size f cd :: outer
  ex := []
  calm := true
  fn := fun _ => true
  pn := []
  xe := fun e s' => wpAny (model P w) (A.deeper (envOfC qual scope s.heap.objs.size f cd)) (leaving (envOfC qual scope s.heap.objs.size f cd) e) (fun _ s'' => CX outer H s E e s'') (fun e' s'' => CX outer H s E e' s'') s'

theorem cell_has {sc : Scope} {n : Nat} {x : Str} (h : sc.names.lookup x = some .cell) : ∃ c, (cellsFrom n sc.names []).lookup x = some c := by
  have q := PySem.W.cellsFrom_some sc.names n [] (.inl h)
  exact Option.isSome_iff_exists.mp q

theorem inv_start {CX : CXT} {P : Program} {w : World} {K : PySem.W.Frag} {mg : Str → Option Value} {base : Heap} {N ps : List Str} {qual : Str} {scope : Scope} {f : Addr} {cd : Value} {A : Around} {outer : List Env} {s s1 : Shared} {H : Hp} {E : XK} {us : List Value} {vs : List V}
    (S : FnScope N ps scope) (hd : A.handled = none) (e0 : Env0 P w K mg base A outer s H) (hl : vs.length = ps.length) (r : Vals vs us)
    (x : InCallC s s.heap.objs.size (bindL (envOfC qual scope s.heap.objs.size f cd).kindOf (ps.zip us) fun _ => none) (cellsFrom (s.heap.objs.size + 1) scope.names []) (bindC (envOfC qual scope s.heap.objs.size f cd).kindOf (ps.zip us) fun _ => none) s1) :
    Inv (cxOf CX P w K mg base N qual scope f cd A outer s H E) [] (start N vs) H s1 := by
  have hpl : ps.length ≤ N.length := by have := congrArg List.length S.pre; rw [List.length_take] at this; (first | lia | omega)
  obtain ⟨h1, tk, rfl, hk⟩ := x.done
  have noA : ∀ b : Addr, b ∉ (cxOf CX P w K mg base N qual scope f cd A outer s H E).ex := fun b z => absurd (show b ∈ ([] : List Addr) from z) (by simp)
  refine ⟨⟨e0.mod, S.kind, rfl, rfl, Nat.le_refl _, fun y z c h1 h2 => ?_, fun y hy => ?_, fun y c _ h => ?_, fun _ => hd, Around.frames_deeper e0.frames, .inr ⟨rfl, rfl⟩, fun b z => absurd z (noA b), e0.bs, e0.bsz, fun b _ _ => noA b, fun b z => absurd z (noA b), e0.funs, e0.frf⟩,
    rfl, e0.bare, Un.kept hk, ⟨_, x.toInCall.ns, fun i y v h1 h2 h3 => ?_⟩, fun y c h => ⟨_, x.cell y c h⟩, e0.hok.fresh (Nat.le_refl _), fun y c h => ?_, fun p hp => absurd (show p ∈ ([] : List (Addr × Obj)) from hp) (by simp), e0.hok.kept hk, ?_⟩
  · exact name_of_addr x.apart (PySem.mem_of_lookup h1) (PySem.mem_of_lookup h2)
  · have hy : scope.names.lookup y = some .cell ∨ scope.names.lookup y = some .free := hy
    rcases hy with hy | hy
    · exact cell_has hy
    · exact absurd rfl (S.nofree _ (PySem.mem_of_lookup hy))
  · exact Nat.le_of_lt (x.above y c (PySem.mem_of_lookup h))
  · have hi : i < vs.length := by
      unfold start at h2
      by_cases hi : i < vs.length
      · exact hi
      · rw [List.getElem?_append_right (by simpa using hi)] at h2
        rw [List.getElem?_replicate] at h2
        split at h2 <;> cases h2
    have ha : vs[i]? = some v := by
      unfold start at h2
      rw [List.getElem?_append_left (by simpa using hi), List.getElem?_map] at h2
      cases e : vs[i]? with
      | none => rw [e] at h2; cases h2
      | some a => rw [e] at h2; cases h2; rfl
    obtain ⟨u, hu, rv⟩ := r.get ha
    have hp : ps[i]? = some y := by
      rw [← S.pre, List.getElem?_take_of_lt (by (first | lia | omega))]; exact h1
    have ndP : ps.Nodup := by rw [← S.pre]; exact S.nd.sublist (List.take_sublist _ _)
    refine ⟨u, rv, ?_⟩
    rcases S.par y (List.mem_of_getElem? hp) with k | k
    · exact .inl ⟨k, bindL_get ndP hp hu k⟩
    · obtain ⟨c, e⟩ := cell_has (n := s.heap.objs.size + 1) k
      refine .inr ⟨.inl k, c, e, ?_⟩
      have q := x.cell y c e
      rw [bindC_get ndP hp hu (by show scope.names.lookup y ≠ _; rw [k]; decide)] at q
      exact q
  · exact e0.hok.fresh (Nat.le_of_lt (x.above y c (PySem.mem_of_lookup h)))
  · unfold start
    show _ = N.length
    rw [List.length_append, List.length_map, List.length_replicate]
    (first | lia | omega)

/-- THE RULE: a def (or a method) of the text, by its body. The body's reading t is chosen for each entry; it is run at the parameters' values -/
theorem fn_of {CX : CXT} {P : Program} {w : World} {K : PySem.W.Frag} {mg : Str → Option Value} {base : Heap} {k : Nat} {f : Addr} {name qual : Str} {params : Arguments} {body : List Stmt} {scope : Scope} {dV kV doc pm cdv ct oc : Value} {an od : Option Addr}
    {osl : Array (Option Value)} {N ps : List Str} {sp : Sp} (lk : K.lookup f = some ⟨oc, od, .func (PySem.W.fnOf name qual params body scope dV kV doc pm an cdv ct), osl⟩) (hcd : PySem.W.codeIn K cdv qual = true) (S : FnScope N ps scope)
    (len : ∀ vs H Q E, sp vs H Q E → vs.length = ps.length)
    (hbody : ∀ (A : Around) (outer : List Env) (s : Shared) (H : Hp) (vs : List V) (Q : VK) (E : XK), Room k (A.deeper (envOfC qual scope s.heap.objs.size f cdv)) → sp vs H Q E →
      ∃ t, PSs (cxOf CX P w K mg base N qual scope f cdv A outer s H E) body t ∧ t { nx := fun _ H' => Q .non H', rt := Q } (start N vs) H) :
    FnOk P w K mg base CX (k + 1) f (PySem.W.fnOf name qual params body scope dV kV doc pm an cdv ct) ps sp := by
  refine ⟨len, fun A outer s H args us vs Q E hr e0 hb r hsp => ?_⟩
  have hl := len _ _ _ _ hsp
  have KX : K.In s.heap := e0.mod.kin.keeps fun b o e => (e0.bs b o e).1
  have lim : s.heap.NoLimit := e0.mod.nolimit.keeps fun b o e => (e0.bs b o e).1
  have hkind : ∀ y ∈ ps.zip us, scope.names.lookup y.1 = some .local ∨ (scope.names.lookup y.1 = some .cell ∧ ((cellsFrom (s.heap.objs.size + 1) scope.names []).lookup y.1).isSome = true) := fun ⟨n, v⟩ hy => by
    rcases S.par n (List.of_mem_zip hy).1 with q | q
    · exact .inl q
    · exact .inr ⟨q, PySem.W.cellsFrom_some _ _ _ (.inl q)⟩
  refine codeAny_call_function hr.depth (KX _ _ lk) rfl S.co S.gen rfl (PySem.W.codeRec_of KX hcd) (hb _ _ _ _ ?_)
  refine wpAny_newFunctionEnv_cells S.kind hkind fun env he s1 x => ?_
  subst he
  refine ⟨lim.keeps x.toInCall.keep, codeAny_func ?_⟩
  obtain ⟨t, ht, hq⟩ := hbody A outer s H vs Q E (hr.deeper _) hsp
  have I : Inv (cxOf CX P w K mg base N qual scope f cdv A outer s H E) [] (start N vs) H s1 := inv_start S hr.hd e0 hl r x
  refine wpAny_mono (ht [] s1 (start N vs) H _ I hq) (fun fl s' hs => ?_) fun e s' hs => hs
  have fin : ∀ {σ' : St} {H' : Hp} {v : V} {u : Value}, Inv (cxOf CX P w K mg base N qual scope f cdv A outer s H E) [] σ' H' s' → RelV v u → Q v H' → CE outer P w H s Q u s' :=
    fun {σ' H' v u} J rv q => ⟨v, H', J.os, J.bare, J.base, J.hok, rv, q⟩
  cases fl with
  | ret u =>
    obtain ⟨v, σ', H', J, rv, q⟩ := hs
    exact fin J rv q
  | next =>
    obtain ⟨σ', H', J, q⟩ := hs
    exact fin (v := V.non) (u := Value.none) J rfl q
  | brk =>
    obtain ⟨_, _, _, q⟩ := hs
    exact False.elim q
  | cont =>
    obtain ⟨_, _, _, q⟩ := hs
    exact False.elim q
end L2

namespace L2
open PySem PySem.Spec PyProof.Rows
section
variable {X : Cx} {x : Str} {p pos : Pos} {e : Expr} {es : List Expr} {t : TA} {id T : String} {r : List V → Hp → VK → Prop}

def tCB (r : List V → Hp → VK → Prop) (t : TA) : TE := fun σ H Q => t σ H fun vs H1 => r vs H1 Q
/-- f(e, ..), f a built-in function -/
theorem pe_callB (hc : CallR X (.builtin id) r) (hg : Gl X x) (hm : X.mg x = none) (hv : bootBuiltins x = some (.builtin id)) (ha : PA X (e :: es) t) (hn : x ≠ "__name__" := by decide) (hdb : (x == ("__debug__" : Str)) = false := by decide)
    (he : starEach (e :: es) X.env = (false, eval e X.env) :: starEach es X.env := by rfl) (hpl : (backTo pos (starEach es X.env)).any (·.1) = false := by rfl) : PE X (.Call (.Name x p) (e :: es) [] pos) (tCB r t) := by
  intro pins s σ H Q I h
  refine wpAny_Call_Name_kw (ld_blt I hg hm hv ?_ hn hdb)
  exact PyProof.Rows.callWith_builtin1 (thn (ha pos pins s σ H _ I h) fun us s1 ⟨vs, H1, I1, r1, q1⟩ => hc pins s1 σ H1 vs us Q I1 r1 q1) he hpl
/-- T(e, ..), T a built-in type -/
theorem pe_callTy (hc : CallR X (.type T) r) (hg : Gl X x) (hm : X.mg x = none) (hv : bootBuiltins x = some (.type T)) (ha : PA X (e :: es) t) (hn : x ≠ "__name__" := by decide) (hdb : (x == ("__debug__" : Str)) = false := by decide)
    (he : starEach (e :: es) X.env = (false, eval e X.env) :: starEach es X.env := by rfl) (hpl : (backTo pos (starEach es X.env)).any (·.1) = false := by rfl) : PE X (.Call (.Name x p) (e :: es) [] pos) (tCB r t) := by
  intro pins s σ H Q I h
  refine wpAny_Call_Name_kw (ld_blt I hg hm hv ?_ hn hdb)
  exact PyProof.Rows.callWith_type1 (thn (ha pos pins s σ H _ I h) fun us s1 ⟨vs, H1, I1, r1, q1⟩ => hc pins s1 σ H1 vs us Q I1 r1 q1) he hpl
end
end L2

namespace L2
open PySem PySem.Spec PyProof.Rows

/-! ### lists of pairs as tables -/
section
variable {κ : Type} [DecidableEq κ]
def valV (kvs : List (κ × V)) (k : κ) : Option V := (kvs.find? fun kv => decide (kv.1 = k)).map (·.2)
/-- in its place, or at the end -/
def putK (kvs : List (κ × V)) (k : κ) (v : V) : List (κ × V) :=
  if (kvs.any fun kv => decide (kv.1 = k)) = true then kvs.map (fun kv => if kv.1 = k then (kv.1, v) else kv) else kvs ++ [(k, v)]

theorem valV_nil {k : κ} : valV ([] : List (κ × V)) k = none := rfl
theorem valV_pos {p : κ × V} {r : List (κ × V)} {k : κ} (e : p.1 = k) : valV (p :: r) k = some p.2 := by simp [valV, List.find?_cons, e]
theorem valV_neg {p : κ × V} {r : List (κ × V)} {k : κ} (e : ¬ p.1 = k) : valV (p :: r) k = valV r k := by simp [valV, List.find?_cons, e]
theorem valV_any (k : κ) : ∀ kvs : List (κ × V), (kvs.any fun kv => decide (kv.1 = k)) = (valV kvs k).isSome
  | [] => rfl
  | p :: r => by
    rw [List.any_cons]
    by_cases e : p.1 = k
    · simp only [valV_pos e, decide_eq_true e, Bool.true_or, Option.isSome_some]
    · rw [valV_neg e, decide_eq_false e, Bool.false_or]; exact valV_any k r
theorem length_putK (kvs : List (κ × V)) (k : κ) (v : V) : (putK kvs k v).length ≤ kvs.length + 1 := by
  unfold putK
  split
  · rw [List.length_map]; (first | lia | omega)
  · rw [List.length_append, List.length_cons, List.length_nil]; (first | lia | omega)
theorem putK_new {kvs : List (κ × V)} {k : κ} (v : V) (h : valV kvs k = none) : putK kvs k v = kvs ++ [(k, v)] := by
  unfold putK
  rw [valV_any, h]
  exact if_neg (by decide)


/-- raw tables of the same keys -/
theorem KV.val {kvs : List (κ × V)} {vs : List (κ × Value)} (r : KV kvs vs) (k : κ) : RelO (valV kvs k) (valueAt vs k) := by
  unfold KV at r
  induction r with
  | nil => exact True.intro
  | @cons p q ps qs h t ih =>
    obtain ⟨h1, h2⟩ := h
    by_cases e : p.1 = k
    · have e' : q.1 = k := h1.symm.trans e
      have b : valueAt (q :: qs) k = some q.2 := by simp [valueAt, List.find?_cons, e']
      rw [valV_pos e, b]; exact h2
    · have e' : ¬ q.1 = k := fun z => e (h1.trans z)
      have b : valueAt (q :: qs) k = valueAt qs k := by simp [valueAt, List.find?_cons, e']
      rw [valV_neg e, b]; exact ih
theorem KV.any {kvs : List (κ × V)} {vs : List (κ × Value)} (r : KV kvs vs) (k : κ) : (kvs.any fun kv => decide (kv.1 = k)) = vs.any fun kv => decide (kv.1 = k) := by
  unfold KV at r
  induction r with
  | nil => rfl
  | cons h t ih => rw [List.any_cons, List.any_cons, ih, h.1]
theorem KV.repl {kvs : List (κ × V)} {vs : List (κ × Value)} (r : KV kvs vs) (k : κ) {y : V} {u : Value} (ry : RelV y u) :
    KV (kvs.map fun kv => if kv.1 = k then (kv.1, y) else kv) (vs.map fun kv => if kv.1 = k then (kv.1, u) else kv) := by
  unfold KV at r ⊢
  induction r with
  | nil => exact .nil
  | @cons p q ps qs h t ih =>
    rw [List.map_cons, List.map_cons]
    refine .cons ?_ ih
    obtain ⟨h1, h2⟩ := h
    by_cases e : p.1 = k
    · rw [if_pos e, if_pos (h1.symm.trans e)]; exact ⟨h1, ry⟩
    · rw [if_neg e, if_neg (fun z => e (h1.trans z))]; exact ⟨h1, h2⟩
theorem KV.put {kvs : List (κ × V)} {vs : List (κ × Value)} (r : KV kvs vs) (k : κ) {y : V} {u : Value} (ry : RelV y u) : KV (putK kvs k y) (stored vs k u) := by
  unfold putK stored
  rw [r.any k]
  by_cases e : (vs.any fun kv => decide (kv.1 = k)) = true
  · rw [if_pos e, if_pos e]; exact r.repl k ry
  · rw [if_neg e, if_neg e]; exact Paired.snoc r ⟨rfl, ry⟩
end


/-! ### a tracked dict, its keys ints and texts or tuples of these -/
theorem kV_is {P : Program} {w : World} {k : Key} {u : Value} (r : RelV (kV k) u) : (mixKind P w).is k u = true := by
  cases k with
  | inl i => obtain ⟨t, e⟩ := (show ∃ t, u = Value.int i t from r); subst e; exact mixKind_int P w i t
  | inr x => obtain ⟨t, e⟩ := (show ∃ t, u = Value.str x t from r); subst e; exact mixKind_str P w x t
theorem items_are {P : Program} {w : World} : ∀ {ks : List Key} {us : List Value}, Vals (ks.map kV) us → ItemsAre (mixKind P w) ks us
  | [], _, r => by rw [List.map_nil] at r; cases r; exact .nil
  | k :: ks, _, r => by
    rw [List.map_cons] at r
    cases r with
    | cons h t => exact .cons (kV_is h) (items_are t)

/-- raw entries of a dict with tuple keys -/
abbrev KT (H : Hp) : List (List Key × V) → List (List Key × Addr × Value) → Prop := Paired fun p q => p.1 = q.1 ∧ H q.2.1 = some (.tup (p.1.map kV)) ∧ RelV p.2 q.2.2
theorem KT.val {H : Hp} {kvs : List (List Key × V)} {xs : List (List Key × Addr × Value)} (r : KT H kvs xs) (k : List Key) : RelO (valV kvs k) ((atKey xs k).map (·.2)) := by
  induction r with
  | nil => exact True.intro
  | @cons p q ps qs h t ih =>
    obtain ⟨h1, _, h2⟩ := h
    by_cases e : p.1 = k
    · have e' : q.1 = k := h1.symm.trans e
      have b : atKey (q :: qs) k = some q.2 := by simp [atKey, List.find?_cons, e']
      rw [valV_pos e, b]; exact h2
    · have e' : ¬ q.1 = k := fun z => e (h1.trans z)
      have b : atKey (q :: qs) k = atKey qs k := by simp [atKey, List.find?_cons, e']
      rw [valV_neg e, b]; exact ih

section
variable {P : Program} {w : World} {H : Hp} {h : Heap} {a : Addr}
theorem rd_of {u : HO} (ok : HOk P w H h) (e : Rd H a u) : ObjOk P w H h a u := e.ok ok
theorem dk_rd {kvs : List (Key × V)} (ok : HOk P w H h) (e : Rd H a (.dK kvs)) : kvs.length ≤ sizeLine ∧ (a == sysModules) = false ∧ ∃ vs, KV kvs vs ∧ h.DictOf (mixKind P w) a vs :=
  show ObjOk P w H h a (.dK kvs) from rd_of ok e
theorem dk_of {kvs : List (Key × V)} (ok : HOk P w H h) (e : H a = some (.dK kvs)) : kvs.length ≤ sizeLine ∧ (a == sysModules) = false ∧ ∃ vs, KV kvs vs ∧ h.DictOf (mixKind P w) a vs := dk_rd ok (.inl e)
/-- a tracked tuple of ints and texts is a key -/
theorem key_of {ks : List Key} (ok : HOk P w H h) (e : H a = some (.tup (ks.map kV))) : (tupleKind (mixKind P w)).is h ks a := by
  obtain ⟨_, its, r, o, h1, h2, n, h3⟩ := (show ObjOk P w H h a (.tup (ks.map kV)) from ok a _ e)
  exact ⟨o, its.toArray, n, h1, h2, h3, by simpa using items_are r⟩
theorem dt_rd {kvs : List (List Key × V)} (ok : HOk P w H h) (e : Rd H a (.dT kvs)) : kvs.length ≤ sizeLine ∧ (a == sysModules) = false ∧
    ∃ xs, KT H kvs xs ∧ h.DictOfH (tupleKind (mixKind P w)) a xs := by
  obtain ⟨z, y, xs, r, o, es, ep, h1, h2, h3, h4, h5⟩ := (show ObjOk P w H h a (.dT kvs) from rd_of ok e)
  refine ⟨z, y, xs, r, o, es, ep, h1, h2, h3, h4, fun x hx => ?_, h5⟩
  have all : ∀ {l : List (List Key × V)} {m : List (List Key × Addr × Value)}, KT H l m → ∀ x ∈ m, (tupleKind (mixKind P w)).is h x.1 x.2.1 := by
    intro l m q
    induction q with
    | nil => intro x hx; exact nomatch hx
    | @cons p q ps qs hq t ih =>
      intro x hx
      rcases List.mem_cons.mp hx with e | hx
      · subst e
        exact key_of ok (by rw [← hq.1]; exact hq.2.1)
      · exact ih x hx
  exact all r x hx
end

/-- what the dict at a holds at the key y -/
def DGet (H : Hp) (a : Addr) (y : V) (r : Option V) : Prop :=
  (∃ kvs k, Rd H a (.dK kvs) ∧ y = kV k ∧ r = valV kvs k) ∨ ∃ kvs k b, Rd H a (.dT kvs) ∧ y = .ref b ∧ H b = some (.tup (k.map kV)) ∧ r = valV kvs k
theorem DGet.k {H : Hp} {a : Addr} {kvs : List (Key × V)} {k : Key} (e : H a = some (.dK kvs)) : DGet H a (kV k) (valV kvs k) := .inl ⟨kvs, k, .inl e, rfl, rfl⟩


section
variable {X : Cx} {pins : List (Addr × Obj)} {σ : St} {H : Hp} {s : Shared} {a : Addr} {y v : V} {u r : Value} {o : Option V} {A : Around} {E : Value → Shared → Prop}

theorem Inv.big (I : Inv X pins σ H s) : sysModules < s.heap.objs.size := by
  have h : mainGlobals < s.heap.objs.size := (I.mod.glob.keeps I.bk).lt
  exact Nat.lt_trans (by decide) h

/-- d[y], there -/
theorem d_getItem {Q : Value → Shared → Prop} (hu : A.units + 1 < cLine) (I : Inv X pins σ H s) (g : DGet H a y (some v)) (ry : RelV y u) (h : ∀ w' s', Inv X pins σ H s' → RelV v w' → Q w' s') :
    wpAny (model X.prog X.w) A (getItem (.ref a) u) Q E s := by
  rcases g with ⟨kvs, k, e, ey, l⟩ | ⟨kvs, k, b, e, ey, eb, l⟩
  · subst ey
    obtain ⟨z, hd, vs, rel, dd⟩ := dk_rd I.hok e
    obtain ⟨w', hw, rw'⟩ := RelO.some_of (v := v) (o := valueAt vs k) (by rw [l]; exact rel.val k)
    exact wpAny_getItem_of (kV_is ry) dd.mapOf hw (h w' _ (I.tok _) rw')
  · subst ey
    cases (show u = Value.ref b from ry)
    obtain ⟨z, hd, xs, rel, dd⟩ := dt_rd I.hok e
    obtain ⟨w', hw, rw'⟩ := RelO.some_of (v := v) (o := (atKey xs k).map (·.2)) (by rw [l]; exact rel.val k)
    obtain ⟨p, hp, hp2⟩ := Option.map_eq_some_iff.mp hw
    refine wpAny_getItem_heap (tupleKind_room_in1 hu) (key_of I.hok eb) dd hp ?_
    rw [hp2]
    exact h w' _ (I.tok _) rw'
/-- a dict's object is replaced -/
theorem d_write {h' : Heap} {t' : Nat} {ob : HO} (I : Inv X pins σ H s) (mu : Mut (H a)) (hs : Heap.SameBut a s.heap h') (he : ∃ q, h'.get? a = some q) (new : ObjOk X.prog X.w (upd H a ob) h' a ob) :
    Inv X pins σ (upd H a ob) { s with heap := h', toks := t' } :=
  I.write (x := a) (e := a) mu (.inl rfl) (fun b q hb z => (hs.2 b hb).trans z) he new
theorem dk_new {P : Program} {w : World} {H' : Hp} {h' : Heap} {kvs : List (Key × V)} {vs : List (Key × Value)} (z : kvs.length ≤ sizeLine) (hd : (a == sysModules) = false) (rel : KV kvs vs) (dd : h'.DictOf (mixKind P w) a vs) :
    ObjOk P w H' h' a (.dK kvs) := ⟨z, hd, vs, rel, dd⟩
end

section
variable {X : Cx} {pins : List (Addr × Obj)} {σ : St} {H : Hp} {s : Shared} {a : Addr} {kvs : List (Key × V)} {k : Key} {u : Value} {A : Around} {E : Value → Shared → Prop}
end


/-! ### readings and rules -/
/-- the element of a subscription, not a slice -/
def NoSl (i : Expr) : Prop := ∀ ov iv, subscripted i false ov iv = operate [ov, iv] (getItem ov iv)
theorem subD_of {prog : Program} {w : World} {A : Around} {E : Value → Shared → Prop} {s : Shared} {env : Env} {value slice : Expr} {pos : Pos} {T id : String} {Q : Value → Shared → Prop}
    (hl : typeLookup (.type T) "__getitem__" = pure (some (.builtin id))) (hs : NoSl slice)
    (h : wpAny (model prog w) A (eval value env) (fun o s₁ => wpAny (model prog w) A (eval slice env) (fun i s₂ => s₂.TypeIs o T ∧ wpAny (model prog w) A (getItem o i) Q E s₂) E s₁) E s) :
    wpAny (model prog w) A (eval (.Subscript value slice pos) env) Q E s := by
  refine Subscript_ (wpAny_mono h (fun o s₁ h₁ => wpAny_mono h₁ (fun i s₂ h₂ => ?_) fun _ _ x => x) fun _ _ x => x)
  obtain ⟨hT, h₂⟩ := h₂
  unfold subscriptTail
  refine wpAny_bind ?_
  rw [getitemInPython_of_ne hT.not_modules]
  refine wpAny_bind (wpAny_specialOf hT hl ?_)
  have fin : wpAny (model prog w) A (subscripted slice false o i) (fun r s₃ => wpAny (model prog w) A (letTemporaryGo value o r >>= fun _ => pure r) Q E s₃) E s₂ := by
    rw [hs o i]
    exact wpAny_operating (wpAny_mono h₂ (fun r s₃ h₃ => wpAny_bind (wpAny_letTemporaryGo (wpAny_pure h₃))) fun _ _ x => x)
  first
    | exact wpAny_pure (wpAny_bind fin)
    | exact wpAny_bind (wpAny_pure (wpAny_bind fin))
    | exact wpAny_bind fin

theorem dict_typeIs {X : Cx} {pins : List (Addr × Obj)} {σ : St} {H : Hp} {s : Shared} {a : Addr} {y : V} {o : Option V} (I : Inv X pins σ H s) (g : DGet H a y o) : s.TypeIs (.ref a) "dict" := by
  rcases g with ⟨kvs, k, e, _, _⟩ | ⟨kvs, k, b, e, _, _, _⟩
  · obtain ⟨_, _, vs, _, dd⟩ := dk_rd I.hok e
    exact dd.typeIs
  · obtain ⟨_, _, xs, _, dd⟩ := dt_rd I.hok e
    exact dd.typeIs

/-- d[y] -/
def tDGet (td ty : TE) : TE := fun σ H Q => td σ H fun x H1 => ty σ H1 fun y H2 => ∃ a v, x = .ref a ∧ DGet H2 a y (some v) ∧ Q v H2

section
variable {X : Cx} {o i e value : Expr} {pos pos' tpos : Pos} {td ty tv : TE}
theorem pe_dget (hu : X.A.units + 1 < cLine) (ho : PE X o td) (hi : PE X i ty) (hs : NoSl i) : PE X (.Subscript o i pos) (tDGet td ty) := by
  intro pins s σ H Q I h
  refine subD_of PySem.F.slot_dict_getitem.lookup hs (thn (ho pins s σ H _ I h) fun u s1 ⟨x, H1, I1, rx, q1⟩ => thn (hi pins s1 σ H1 _ I1 q1) fun iv s2 ⟨y, H2, I2, ry, a, v, ex, g, q2⟩ => ?_)
  subst ex
  obtain rfl : u = Value.ref a := rx
  exact ⟨dict_typeIs I2 g, d_getItem hu I2 g ry fun w' s3 I3 rw' => ⟨v, H2, I3, rw', q2⟩⟩
end


/-! ### displays -/
theorem dk_empty {P : Program} {w : World} {H : Hp} (h : Heap) (hb : sysModules < h.objs.size) : ObjOk P w H (h.push { cls := .type "dict", data := .dict #[] }) h.objs.size (.dK []) :=
  ⟨Nat.zero_le _, beq_eq_false_iff_ne.mpr (Ne.symm (Nat.ne_of_lt hb)), [], .nil, Heap.DictOf.new h⟩
section
variable {X : Cx} {pos : Pos}
end

/-- the pairs of a display, from the left -/
def tPairs : List (TE × TE) → St → Hp → (List (V × V) → Hp → Prop) → Prop
  | [], _, H, Q => Q [] H
  | (tk, tv) :: r, σ, H, Q => tk σ H fun x H1 => tv σ H1 fun y H2 => tPairs r σ H2 fun ps H3 => Q ((x, y) :: ps) H3
abbrev VV : List (V × V) → List (Value × Value) → Prop := Paired fun p q => RelV p.1 q.1 ∧ RelV p.2 q.2
def PPs (X : Cx) (pos : Pos) (keys : List (Option Expr)) (values : List Expr) (trs : List (TE × TE)) : Prop :=
  ∀ (pins : List (Addr × Obj)) (s : Shared) (σ : St) (H : Hp) (Q : List (V × V) → Hp → Prop), Inv X pins σ H s → tPairs trs σ H Q →
    wpAny (model X.prog X.w) X.A (evalPairs (pairTrees keys values X.env pos)) (fun vs s' => ∃ ps H', Inv X pins σ H' s' ∧ VV ps vs ∧ Q ps H') X.xe s
theorem pps_nil {X : Cx} {pos : Pos} : PPs X pos [] [] [] := fun pins s σ H Q I h => pairTrees_nil_walk ⟨[], H, I, .nil, h⟩
theorem pps_cons {X : Cx} {pos : Pos} {k v : Expr} {ks : List (Option Expr)} {vs : List Expr} {tk tv : TE} {trs : List (TE × TE)} (hk : PE X k tk) (hv : PE X v tv) (hr : PPs X pos ks vs trs) :
    PPs X pos (some k :: ks) (v :: vs) ((tk, tv) :: trs) := fun pins s σ H Q I h =>
  pairTrees_cons_walk (thn (hk pins s σ H _ I h) fun u s1 ⟨x, H1, I1, rx, q1⟩ => thn (hv pins s1 σ H1 _ I1 q1) fun w2 s2 ⟨y, H2, I2, ry, q2⟩ =>
    thn (hr pins s2 σ H2 _ I2 q2) fun ws s3 ⟨ps, H3, I3, rel, q3⟩ => ⟨(x, y) :: ps, H3, I3, .cons ⟨rx, ry⟩ rel, q3⟩)

def mergeK (kvs more : List (Key × V)) : List (Key × V) := more.foldl (fun acc kv => putK acc kv.1 kv.2) kvs
theorem KV.merge : ∀ {more : List (Key × V)} {rs : List (Key × Value)} {kvs : List (Key × V)} {vs : List (Key × Value)}, KV more rs → KV kvs vs → KV (mergeK kvs more) (merged vs rs) := by
  intro more rs kvs vs r
  unfold KV at r
  induction r generalizing kvs vs with
  | nil => intro q; exact q
  | @cons p q ps qs h t ih =>
    intro r0
    have e : KV (putK kvs p.1 p.2) (stored vs q.1 q.2) := by
      have := r0.put p.1 h.2
      rw [← h.1]; exact this
    exact ih e
theorem length_mergeK : ∀ (more kvs : List (Key × V)), (mergeK kvs more).length ≤ kvs.length + more.length
  | [], kvs => by show kvs.length ≤ kvs.length + 0; (first | lia | omega)
  | p :: r, kvs => by
    have h1 := length_mergeK r (putK kvs p.1 p.2)
    have h2 := length_putK kvs p.1 p.2
    show (mergeK (putK kvs p.1 p.2) r).length ≤ _
    rw [List.length_cons]; (first | lia | omega)
theorem carries_of {P : Program} {w : World} : ∀ {kvs : List (Key × V)} {ws : List (Value × Value)}, VV (kvs.map fun kv => (kV kv.1, kv.2)) ws → ∃ rs, Carries (mixKind P w) ws rs ∧ KV kvs rs
  | [], _, r => by rw [List.map_nil] at r; cases r; exact ⟨[], True.intro, .nil⟩
  | p :: kvs, _, r => by
    rw [List.map_cons] at r
    cases r with
    | @cons a b as bs h t =>
      obtain ⟨rs, c, q⟩ := carries_of (P := P) (w := w) t
      obtain ⟨b1, b2⟩ := b
      exact ⟨(p.1, b2) :: rs, ⟨kV_is h.1, rfl, c⟩, .cons ⟨rfl, h.2⟩ q⟩
/-- {k: v, ..} with keys ints and texts; the new dict stands empty while the pairs are made -/
def tDisp (trs : List (TE × TE)) : TE := fun σ H Q => ∀ p, H p = none → tPairs trs σ (upd H p (.dK [])) fun ps H2 => H2 p = some (.dK []) ∧ ∃ kvs : List (Key × V), ps = kvs.map (fun kv => (kV kv.1, kv.2)) ∧ kvs.length ≤ 15 ∧ Q (.ref p) (upd H2 p (.dK (mergeK [] kvs)))
theorem pe_disp {X : Cx} {pos : Pos} {keys : List (Option Expr)} {values : List Expr} {trs : List (TE × TE)} (h : PPs X pos keys values trs) (hall : keys.all (·.isSome) = true) (hl : keys.length = values.length) (h0 : keys ≠ [])
    (h15 : keys.length ≤ 15) : PE X (.Dict keys values pos) (tDisp trs) := by
  intro pins s σ H Q I q
  have hn := I.hok.fresh (Nat.le_refl s.heap.objs.size)
  have I1 := I.laid (a := s.heap.objs.size) (o := .dK []) (h' := s.heap.push { cls := .type "dict", data := .dict #[] }) (t' := s.toks) (fun _ _ q => Heap.get?_push_of_some _ q) (Nat.le_refl _) (dk_empty s.heap I.big)
  refine wpAny_Dict_walk (knd := mixKind X.prog X.w) hall hl h0 h15 (thn (h pins _ σ _ _ I1 (q _ hn)) fun ws s2 ⟨ps, H2, I2, rel, e, kvs, ep, lk, q2⟩ => ?_)
  subst ep
  obtain ⟨rs, c, rk⟩ := carries_of (P := X.prog) (w := X.w) rel
  obtain ⟨z, hd, vs0, r0, dd⟩ := dk_of I2.hok e
  cases r0
  refine ⟨rs, c, dd, fun h' dd' hs => ⟨.ref s.heap.objs.size, _, ?_, rfl, q2⟩⟩
  have hz : (mergeK [] kvs).length ≤ sizeLine := by
    have h1 := length_mergeK kvs []
    rw [List.length_nil] at h1
    rw [sizeLine_eq]; (first | lia | omega)
  have he : ∃ q, h'.get? s.heap.objs.size = some q := let ⟨q, _, _, hq, _⟩ := dd'; ⟨q, hq⟩
  exact d_write I2 (by rw [e]; exact True.intro) hs he (dk_new hz hd (rk.merge .nil) dd')


/-! ### methods -/


section
variable {X : Cx} {pins : List (Addr × Obj)} {σ : St} {H : Hp} {s : Shared} {a : Addr} {y d : V} {u r : Value} {o : Option V} {A : Around} {E : Value → Shared → Prop}
end

section
variable {X : Cx} {o e f : Expr} {apos cpos : Pos} {td ty tx : TE}
end

/-! ### dict(d): a copy -/
section
variable {X : Cx} {pins : List (Addr × Obj)} {σ : St} {H : Hp} {s : Shared} {a : Addr} {kvs : List (Key × V)} {A : Around} {E : Value → Shared → Prop}
end


section
variable {X : Cx} {pins : List (Addr × Obj)} {σ : St} {H : Hp} {s : Shared} {a : Addr} {y : V} {u : Value} {A : Around} {E : Value → Shared → Prop}
end
end L2

namespace HT
open PySem PyProof.Rows

/-- t < u of tuples of ints -/
def lexLt : List Int → List Int → Bool
  | [], [] => false
  | [], _ :: _ => true
  | _ :: _, [] => false
  | x :: xs, y :: ys => if x = y then lexLt xs ys else decide (x < y)
theorem lexLt_cons (x y : Int) (xs ys : List Int) : lexLt (x :: xs) (y :: ys) = if x = y then lexLt xs ys else decide (x < y) := rfl
theorem lexLt_nil_nil : lexLt [] [] = false := rfl
theorem lexLt_nil_cons (y : Int) (ys : List Int) : lexLt [] (y :: ys) = true := rfl
theorem lexLt_cons_nil (x : Int) (xs : List Int) : lexLt (x :: xs) [] = false := rfl

theorem eqAt_int (A : Around) (s : Shared) (a : Int) (t : Tok) (c : Int) (u : Tok) : ∃ e, SeqAt.EqAt A s (.int a t) (.int c u) e ∧ (e = true ↔ a = c) :=
  ⟨(a == c), SeqAt.EqAt.int_int a t c u, by simp⟩
theorem rcLt_int (A : Around) (s : Shared) (a : Int) (t : Tok) (c : Int) (u : Tok) (prog : Program) (w : World) (E : Value → Shared → Prop) (Q : Value → Shared → Prop) (h : Q (.bool (decide (a < c))) s) :
    wpAny (model prog w) A (richCompare .Lt (.int a t) (.int c u)) Q E s :=
  (PyProof.Rows.lt_int h : wpAny (model prog w) A (compareOp .Lt (.int a t) (.int c u)) Q E s)

section
open PySem.SeqAt
open PySem.AutoSeq1 (wpAny_loadPart')
open PySem.MeetsSeq PySem.MeetsSeq2 PySem.MeetsSeq3

theorem tuple_lt_ints (l b : Addr) (items items2 : Array Value) (n n2 : Nat) (dd dd2 : Option Addr) (sl sl2 : Array (Option Value)) (ns ms : List Int) (hi : IntsAre items.toList ns) (hj : IntsAre items2.toList ms) :
    Meets (Builtin.«tuple.__lt__» ⟨[.ref l, .ref b], []⟩)
      (fun _ R s => s.heap.get? l = some { cls := .type "tuple", dict := dd, data := .seq items n, slots := sl } ∧ s.heap.get? b = some { cls := .type "tuple", dict := dd2, data := .seq items2 n2, slots := sl2 } ∧
        R (.ok (.ret (.bool (lexLt ns ms)))) s) :=
  .of_wp fun prog w A R s h => by
    obtain ⟨hp, g, d, tk, os⟩ := s; obtain ⟨hl, hb, h⟩ := h
    have f2 := AutoSeq1.sub_tuple_tuple
    have z1 : items.size = ns.length := by rw [← hi.length]; simp
    have z2 : items2.size = ms.length := by rw [← hj.length]; simp
    wp_walk using wpAny_loadPart' hl, wpAny_loadPart' hb, wpAny_forIn_list _ (fun rest b s' => b.1 = none ∧ s' = ⟨hp, g, d, tk, os⟩ ∧ ∃ (vs ws : List Value) (ns' ms' : List Int), rest = vs.zip ws ∧
      IntsAre vs ns' ∧ IntsAre ws ms' ∧ ns'.length + items2.size = ms'.length + items.size ∧ R (.ok (.ret (.bool (lexLt ns' ms')))) ⟨hp, g, d, tk, os⟩) _
    case turn =>
      rintro ⟨y, x⟩ rest b s' ⟨hb', rfl, vs, ws, ns', ms', hz, hvi, hwi, hlen, hR⟩
      cases hvi with
      | nil => rw [List.zip_nil_left] at hz; cases hz
      | cons a t hvi' =>
        cases hwi with
        | nil => rw [List.zip_nil_right] at hz; cases hz
        | cons c u hwi' =>
          rw [List.zip_cons_cons] at hz
          injection hz with hyx hrest
          injection hyx with hy hx
          subst hy hx
          rw [lexLt_cons] at hR
          simp only [List.length_cons] at hlen
          obtain ⟨e, he, hiff⟩ := eqAt_int A.in1 ⟨hp, g, d, tk, os⟩ a t c u
          refine wpAny_bind (he prog w _ _ ?_)
          cases e with
          | true =>
            rw [if_pos (hiff.mp rfl)] at hR
            wp_walk
            exact ⟨rfl, rfl, _, _, _, _, hrest, hvi', hwi', by (first | lia | omega), hR⟩
          | false =>
            rw [if_neg (fun q => absurd (hiff.mpr q) Bool.false_ne_true)] at hR
            have hri := rcLt_int A.in1 ⟨hp, g, d, tk, os⟩ a t c u prog w
            wp_walk using hri
            exact ⟨_, rfl, by simpa using hR⟩
    case fin =>
      rintro ⟨b1, b2⟩ s' ⟨hb', rfl, vs, ws, ns', ms', hz, hvi, hwi, hlen, hR⟩
      simp only at hb'
      subst hb'
      have hv : lexLt ns' ms' = decide (items.size < items2.size) := by
        cases hvi with
        | nil =>
          cases hwi with
          | nil =>
            simp only [List.length_nil] at hlen
            rw [lexLt_nil_nil]
            exact (decide_eq_false (by (first | lia | omega))).symm
          | cons c u hw =>
            simp only [List.length_nil, List.length_cons] at hlen
            rw [lexLt_nil_cons]
            exact (decide_eq_true (by (first | lia | omega))).symm
        | cons a t hv =>
          cases hwi with
          | nil =>
            simp only [List.length_nil, List.length_cons] at hlen
            rw [lexLt_cons_nil]
            exact (decide_eq_false (by (first | lia | omega))).symm
          | cons c u hw =>
            rw [List.zip_cons_cons] at hz
            cases hz
      rw [hv] at hR
      wp_walk
      exact ⟨_, rfl, by simpa [Builtin.Tuple.tupleCompareSizes] using hR⟩
    case h =>
      exact ⟨rfl, rfl, items.toList, items2.toList, ns, ms, rfl, hi, hj, by (first | lia | omega), h⟩
end

section
variable {prog : Program} {w : World} {A : Around} {E : Value → Shared → Prop} {s : Shared}

theorem lt_tupInts {l b : Addr} {items items2 : Array Value} {ns ms : List Int} {Q : Value → Shared → Prop} (hl : IsTup s.heap l items) (hb : IsTup s.heap b items2) (hi : IntsAre items.toList ns) (hj : IntsAre items2.toList ms)
    (hu : A.units < cLine) (h : Q (.bool (lexLt ns ms)) s) : wpAny (model prog w) A (compareOp .Lt (.ref l) (.ref b)) Q E s := by
  obtain ⟨⟨cls, dd, data, sl⟩, ho, hc, n, hd⟩ := id hl
  obtain ⟨⟨cls2, dd2, data2, sl2⟩, ho2, hc2, n2, hd2⟩ := id hb
  simp only at hc hd hc2 hd2
  subst hc hd hc2 hd2
  exact richCompare_meets_room (op := .Lt) ⟨_, ho, rfl⟩ ⟨_, ho2, rfl⟩ PySem.F.slot_tuple_lt PySem.F.entry_tuple_lt (PySem.F.args_tuple_lt_2 _ _) (tuple_lt_ints l b items items2 n n2 dd dd2 sl sl2 ns ms hi hj)
    ⟨ho, ho2, show Value.bool (lexLt ns ms) ≠ Value.notImplemented ∧ Q (.bool (lexLt ns ms)) s from ⟨(fun x => nomatch x), h⟩⟩ hu


/-! ### t[a:b], not the whole -/
/-- a slice's bound as a place among n (d where it is left out) -/
def sIx (n d : Nat) : Option Int → Nat
  | none => d
  | some v => if v < 0 then (v + (n : Int)).toNat else min v.toNat n
theorem sIx_none (n d : Nat) : sIx n d none = d := rfl
theorem sIx_nat (n d k : Nat) : sIx n d (some (k : Int)) = min k n := by
  show (if (k : Int) < 0 then ((k : Int) + (n : Int)).toNat else min (k : Int).toNat n) = min k n
  rw [if_neg (by (first | lia | omega)), Int.toNat_natCast]
theorem sIx_le (n d : Nat) (hd : d ≤ n) (o : Option Int) : sIx n d o ≤ n := by
  cases o with
  | none => exact hd
  | some v =>
    show (if v < 0 then (v + (n : Int)).toNat else min v.toNat n) ≤ n
    by_cases hv : v < 0
    · rw [if_pos hv]; (first | lia | omega)
    · rw [if_neg hv]; exact Nat.min_le_right _ _

end
end HT

namespace L2
open PySem PySem.Spec PyProof.Rows

/-! ### the parts of a slice -/
abbrev TO := St → Hp → (Option Int → Hp → Prop) → Prop
/-- a slice's part (left out, or an int) -/
def PO (X : Cx) (e : Option Expr) (t : TO) : Prop :=
  ∀ (pins : List (Addr × Obj)) (s : Shared) (σ : St) (H : Hp) (Q : Option Int → Hp → Prop), Inv X pins σ H s → t σ H Q →
    wpAny (model X.prog X.w) X.A (evalPart e X.env) (fun u s' => ∃ o H', Inv X pins σ H' s' ∧ IsPart u o ∧ Q o H') X.xe s
def tNoPart : TO := fun _ H Q => Q none H
def tPart (t : TE) : TO := fun σ H Q => t σ H fun x H1 => ∃ i, x = .int i ∧ Q (some i) H1

theorem intsAre_of {ns : List Int} : ∀ {us : List Value}, Vals (ns.map V.int) us → IntsAre us ns := by
  induction ns with
  | nil => intro us r; rw [List.map_nil] at r; cases r; exact .nil
  | cons n ns ih =>
    intro us r
    rw [List.map_cons] at r
    cases r with
    | cons r1 r2 =>
      obtain ⟨t, e⟩ := r1
      subst e
      exact .cons n t (ih r2)

section
variable {X : Cx} {e : Expr} {te : TE} {lo hi : Option Expr} {tl th : TO} {pos p2 : Pos}

theorem po_none : PO X none tNoPart := by
  intro pins s σ H Q I h
  rw [evalPart_none]
  exact wpAny_pure ⟨none, H, I, .none, h⟩
theorem po_some (h : PE X e te) : PO X (some e) (tPart te) := by
  intro pins s σ H Q I hw
  rw [evalPart_some]
  refine thn (h pins s σ H _ I hw) fun u s1 ⟨x, H1, I1, r1, q1⟩ => ?_
  obtain ⟨i, rfl, q⟩ := q1
  obtain ⟨t, rfl⟩ := r1
  exact ⟨some i, H1, I1, .int i t, q⟩

/-- what a slice of a value is, by values: the slice object stands at sl -/
def SlR (X : Cx) (r : V → Option Int → Option Int → Hp → VK → Prop) : Prop :=
  ∀ (pins : List (Addr × Obj)) (s : Shared) (σ : St) (H : Hp) (x : V) (v vl vu : Value) (lo hi : Option Int) (sl : Addr) (Q : VK), Inv X pins σ H s → RelV x v → s.heap.IsSliceOf sl vl vu .none → IsPart vl lo → IsPart vu hi → r x lo hi H Q →
    ∃ T id, typeLookup (.type T) "__getitem__" = pure (some (.builtin id)) ∧ s.TypeIs v T ∧ wpAny (model X.prog X.w) X.A (getItem v (.ref sl)) (EP X pins σ Q) X.xe s
def tSl (r : V → Option Int → Option Int → Hp → VK → Prop) (te : TE) (tl th : TO) : TE := fun σ H Q => te σ H fun x H1 => tl σ H1 fun l H2 => th σ H2 fun u H3 => r x l u H3 Q
/-- a[lo:hi], any a -/
theorem pe_slice {r : V → Option Int → Option Int → Hp → VK → Prop} (hr : SlR X r) (he : PE X e te) (hl : PO X lo tl) (hu : PO X hi th) : PE X (.Subscript e (.Slice lo hi none p2) pos) (tSl r te tl th) := by
  intro pins s σ H Q I h
  refine Subscript_ (thn (he pins s σ H _ I h) fun v s1 ⟨x, H1, I1, r1, q1⟩ => ?_)
  refine wpAny_Slice (thn (hl pins s1 σ H1 _ I1 q1) fun vl s2 ⟨l, H2, I2, pl, q2⟩ => thn (hu pins s2 σ H2 _ I2 q2) fun vu s3 ⟨u, H3, I3, pu, q3⟩ => ?_)
  rw [evalPart_none]
  refine wpAny_pure ?_
  have I4 : Inv X pins σ H3 { s3 with heap := s3.heap.push { cls := .type "slice", data := .fields #[vl, vu, .none] } } := I3.kept (t' := s3.toks) fun b ob q => Heap.get?_push_of_some _ q
  obtain ⟨T, id, hT, ht, hg⟩ := hr pins { s3 with heap := s3.heap.push { cls := .type "slice", data := .fields #[vl, vu, .none] } } σ H3 x v vl vu l u s3.heap.objs.size Q I4 r1 (Heap.IsSliceOf.new ..) pl pu q3
  show wpAny (model X.prog X.w) X.A (subscriptTail e (.Slice lo hi none p2) v (.ref s3.heap.objs.size)) (EP X pins σ Q) X.xe { s3 with heap := s3.heap.push { cls := .type "slice", data := .fields #[vl, vu, .none] } }
  exact tail_any (ops := [.ref s3.heap.objs.size, v]) ht hT hg (by with_unfolding_all rfl)

/-- the items of xs[lo:hi] -/
def cutV (xs : List V) (lo hi : Option Int) : List V := (xs.drop (HT.sIx xs.length 0 lo)).take (HT.sIx xs.length xs.length hi - HT.sIx xs.length 0 lo)
theorem cutV_length (xs : List V) (lo hi : Option Int) : (cutV xs lo hi).length ≤ xs.length := by
  unfold cutV
  rw [List.length_take, List.length_drop]
  (first | lia | omega)

/-! ### t < u, t + u -/
def rLtT (K : PySem.W.Frag) : R2 := fun x y H Q => ∃ a b ns ms, x = .ref a ∧ y = .ref b ∧ SqT K H a (ns.map V.int) ∧ SqT K H b (ms.map V.int) ∧ Q (.bl (HT.lexLt ns ms)) H
theorem op_ltT (hu : X.A.units < cLine) : OpR X (compareOp .Lt) (rLtT X.K) := by
  intro pins s σ H x y v u Q I rx ry h
  obtain ⟨a, b, ns, ms, rfl, rfl, ha, hb, q⟩ := h
  cases rx
  cases ry
  obtain ⟨its, r1, p1, _⟩ := I.tuple ha
  obtain ⟨its2, r2, p2, _⟩ := I.tuple hb
  have i1 : IntsAre its.toArray.toList ns := intsAre_of r1
  have i2 : IntsAre its2.toArray.toList ms := intsAre_of r2
  exact HT.lt_tupInts p1 p2 i1 i2 hu ⟨.bl (HT.lexLt ns ms), H, I, rfl, q⟩
end
end L2

namespace L2
open PySem PySem.Spec PyProof.Rows

/-! ### places -/
/-- the place that an index of any sign means -/
def ixN (n : Nat) (i : Int) : Option Nat := if 0 ≤ i then (if i < n then some i.toNat else none) else if -(n : Int) ≤ i then some (i + n).toNat else none
def atI {α : Type} (xs : List α) (i : Int) : Option α := (ixN xs.length i).bind fun j => xs[j]?
theorem ixN_seq {n : Nat} {i : Int} {j : Nat} (h : ixN n i = some j) : seqIndex? i n = some j ∧ j < n ∧ -(n : Int) ≤ i ∧ i < n := by
  unfold ixN at h
  by_cases h0 : 0 ≤ i
  · rw [if_pos h0] at h
    by_cases h1 : i < n
    · rw [if_pos h1] at h
      have e : i.toNat = j := Option.some.inj h
      exact ⟨by rw [seqIndex_of h0 h1, e], by (first | lia | omega), by (first | lia | omega), h1⟩
    · rw [if_neg h1] at h; cases h
  · rw [if_neg h0] at h
    by_cases h1 : -(n : Int) ≤ i
    · rw [if_pos h1] at h
      have e : (i + n).toNat = j := Option.some.inj h
      exact ⟨by rw [seqIndex_neg (by (first | lia | omega)) h1, e], by (first | lia | omega), h1, by (first | lia | omega)⟩
    · rw [if_neg h1] at h; cases h
theorem atI_get {α : Type} {xs : List α} {i : Int} {v : α} (h : atI xs i = some v) : ∃ j, seqIndex? i xs.length = some j ∧ xs[j]? = some v ∧ j < xs.length ∧ -(xs.length : Int) ≤ i ∧ i < xs.length := by
  unfold atI at h
  cases e : ixN xs.length i with
  | none => rw [e] at h; cases h
  | some j =>
    rw [e] at h
    obtain ⟨h1, h2, h3, h4⟩ := ixN_seq e
    exact ⟨j, h1, h, h2, h3, h4⟩
theorem atI_nat {α : Type} {xs : List α} {j : Nat} {v : α} (h : xs[j]? = some v) : atI xs (j : Int) = some v := by
  have hj : j < xs.length := (List.getElem?_eq_some_iff.mp h).1
  have e : ixN xs.length (j : Int) = some j := by
    unfold ixN
    rw [if_pos (by (first | lia | omega)), if_pos (by (first | lia | omega))]; simp
  unfold atI; rw [e]; exact h
theorem atI_last {α : Type} (xs : List α) (v : α) : atI (xs ++ [v]) (-1) = some v := by
  have hl : (xs ++ [v]).length = xs.length + 1 := by simp
  have e : ixN (xs ++ [v]).length (-1) = some xs.length := by
    unfold ixN
    rw [hl, if_neg (by decide), if_pos (by (first | lia | omega))]
    congr 1
    (first | lia | omega)
  unfold atI
  rw [e]
  show (xs ++ [v])[xs.length]? = some v
  simp

/-! ### what may be subscripted -/
/-- what stands as an index of a plain subscript -/
def PlainIx (b : Expr) : Prop := ∀ o i, subscripted b false o i = operate [o, i] (getItem o i)
/-- a subscript by values -/
def IxR (X : Cx) (r : R2) : Prop :=
  ∀ (value slice : Expr) (pins : List (Addr × Obj)) (s : Shared) (σ : St) (H : Hp) (x y : V) (v u : Value) (Q : VK), Inv X pins σ H s → RelV x v → RelV y u → r x y H Q →
    subscripted slice false v u = operate [v, u] (getItem v u) → wpAny (model X.prog X.w) X.A (subscriptTail value slice v u) (EP X pins σ Q) X.xe s
/-- a call of a builtin's method by values: the receiver, the arguments -/
def MtR (X : Cx) (id : String) (r : V → List V → Hp → VK → Prop) : Prop :=
  ∀ (pins : List (Addr × Obj)) (s : Shared) (σ : St) (H : Hp) (x : V) (xs : List V) (v : Value) (us : List Value) (Q : VK), Inv X pins σ H s → RelV x v → Vals xs us → r x xs H Q →
    wpAny (model X.prog X.w) X.A (call (.builtin id) (v :: us)) (EP X pins σ Q) X.xe s
section
variable {X : Cx} {a b : Expr} {ta tb : TE} {pos : Pos}
/-- a[b] -/
theorem pe_ix {r : R2} (hr : IxR X r) (ha : PE X a ta) (hb : PE X b tb) (hs : PlainIx b) : PE X (.Subscript a b pos) (tOp r ta tb) := by
  intro pins s σ H Q I h
  exact Subscript_ (binT ha hb I h fun v u s2 x y H2 I2 rx ry q => hr a b pins s2 σ H2 x y v u Q I2 rx ry q (hs _ _))

def rIxL (K : PySem.W.Frag) : R2 := fun x y H Q => ∃ p xs i v, x = .ref p ∧ y = .int i ∧ SqL K H p xs ∧ atI xs i = some v ∧ Q v H
def rIxT (K : PySem.W.Frag) : R2 := fun x y H Q => ∃ p xs i v, x = .ref p ∧ y = .int i ∧ SqT K H p xs ∧ atI xs i = some v ∧ Q v H
def rIxS : R2 := fun x y H Q => ∃ z i c, x = .str z ∧ y = .int i ∧ z.length ≤ sizeLine ∧ atI z.cps.toList i = some c ∧ Q (.str ⟨#[c]⟩) H
theorem ix_list : IxR X (rIxL X.K) := by
  intro value slice pins s σ H x y v u Q I rx ry h hs
  obtain ⟨p, xs, i, z, rfl, rfl, hq, he, q⟩ := h
  cases rx
  obtain ⟨t, rfl⟩ := ry
  obtain ⟨its, r, pl, hz⟩ := I.list hq
  obtain ⟨j, h1, h2, h3, h4, h5⟩ := atI_get he
  obtain ⟨w, ew, rw'⟩ := r.get h2
  have hl := r.length
  have hn := line63
  have fin : EP X pins σ Q w s := ⟨z, H, I, rw', q⟩
  by_cases h0 : 0 ≤ i
  · have hj : i.toNat = j := by
      rw [seqIndex_of h0 h5] at h1
      exact Option.some.inj h1
    exact item_listR pl.isList h0 (by (first | lia | omega)) (by rw [hj]; simpa using ew) fin hs
  · have hj : (i + (its.toArray.size : Int)).toNat = j := by
      rw [seqIndex_neg (by (first | lia | omega)) h4] at h1
      rw [List.size_toArray, ← hl]
      exact Option.some.inj h1
    exact subscriptTail_builtinR (x := w) pl.isList.typeIs slot_list_getitem.lookup
      (wpAny_getItem_list_neg (Q := fun r s' => r = w ∧ EP X pins σ Q r s') pl.isList (by (first | lia | omega)) (by rw [List.size_toArray] <;> (first | lia | omega)) (by (first | lia | omega)) (by rw [hj]; simpa using ew) ⟨rfl, fin⟩) hs
theorem ix_tup : IxR X (rIxT X.K) := by
  intro value slice pins s σ H x y v u Q I rx ry h hs
  obtain ⟨p, xs, i, z, rfl, rfl, hq, he, q⟩ := h
  cases rx
  obtain ⟨t, rfl⟩ := ry
  obtain ⟨its, r, pl, hz⟩ := I.tuple hq
  obtain ⟨j, h1, h2, h3, h4, h5⟩ := atI_get he
  obtain ⟨w, ew, rw'⟩ := r.get h2
  have hl := r.length
  have hn := line63
  have fin : EP X pins σ Q w s := ⟨z, H, I, rw', q⟩
  exact subscriptTail_builtinR (x := w) pl.typeIs slot_tuple_getitem.lookup
    (getItem_tuple (j := j) (Q := fun r s' => r = w ∧ EP X pins σ Q r s') pl (by (first | lia | omega)) (by (first | lia | omega)) (by rw [List.size_toArray, ← hl]; exact h1) (by simpa using ew) ⟨rfl, fin⟩) hs
theorem ix_str : IxR X rIxS := by
  intro value slice pins s σ H x y v u Q I rx ry h hs
  obtain ⟨z, i, c, rfl, rfl, hz, he, q⟩ := h
  obtain ⟨t, rfl⟩ := rx
  obtain ⟨t', rfl⟩ := ry
  obtain ⟨j, h1, h2, h3, h4, h5⟩ := atI_get he
  have hl : z.cps.toList.length = z.length := by simp [Str.length]
  rw [hl] at h1 h4 h5
  have hn := line63
  exact tail_any (typeIs_str s z t) slot_str_getitem.lookup (getItem_str (c := c) (by
    have e1 : decide (i < -(2 ^ 63 : Int)) = false := decide_eq_false (by (first | lia | omega))
    have e2 : decide (i ≥ 2 ^ 63) = false := decide_eq_false (by (first | lia | omega))
    rw [e1, e2, Bool.or_false]) (by rw [h1]; simpa using h2) ⟨.str ⟨#[c]⟩, H, I.tok _, ⟨_, rfl⟩, q⟩) hs

/-! ### xs[i] = v, any sign -/
/-- the list's object behind a store -/
theorem mapSeq_set (its : List Value) (n j : Nat) (u : Value) : Obj.mapSeq (·.setIfInBounds j u) { cls := .type "list", data := .seq its.toArray n } = { cls := .type "list", data := .seq (its.set j u).toArray n } := by
  simp [Obj.mapSeq]
theorem Inv.lst {pins : List (Addr × Obj)} {σ : St} {H : Hp} {s : Shared} {p : Addr} {xs : List V} (I : Inv X pins σ H s) (h : H p = some (.lst xs)) :
    ∃ (its : List Value) (n : Nat), Vals xs its ∧ s.heap.get? p = some { cls := .type "list", data := .seq its.toArray n } ∧ xs.length ≤ sizeLine := by
  obtain ⟨z, its, n, r, e⟩ := I.hok p _ h
  exact ⟨its, n, r, e, z⟩
/-- the list at p is written by an update of its object -/
theorem Inv.lstUpd {pins : List (Addr × Obj)} {σ : St} {H : Hp} {s : Shared} {p : Addr} {xs ys : List V} {its its' : List Value} {n n' : Nat} {f : Obj → Obj} (I : Inv X pins σ H s) (h : H p = some (.lst xs))
    (ho : s.heap.get? p = some { cls := .type "list", data := .seq its.toArray n }) (hf : f { cls := .type "list", data := .seq its.toArray n } = { cls := .type "list", data := .seq its'.toArray n' }) (r : Vals ys its') (hz : ys.length ≤ sizeLine) (t : Nat) :
    Inv X pins σ (upd H p (.lst ys)) { s with heap := s.heap.update p f, toks := t } := by
  have e : (s.heap.update p f).get? p = some { cls := .type "list", data := .seq its'.toArray n' } := by
    rw [Heap.get?_update_self f ho (by rw [hf] <;> rfl), hf]
  refine I.write (x := p) (e := p) (by rw [h]; trivial) (.inl rfl) (fun b u hb q => (Heap.get?_update_other _ _ (Ne.symm hb)).trans q) ⟨_, e⟩ ?_
  exact ⟨hz, its', n', r, e⟩
def rSetL : V → V → V → Hp → (Hp → Prop) → Prop := fun o i v H Q => ∃ p xs k j, o = .ref p ∧ i = .int k ∧ H p = some (.lst xs) ∧ ixN xs.length k = some j ∧ Q (upd H p (.lst (xs.set j v)))
theorem set_list : PSet X rSetL := by
  intro pins s σ H o i v ov iv u Q I ro ri rv h
  obtain ⟨p, xs, k, j, rfl, rfl, hp, hj, q⟩ := h
  cases ro
  obtain ⟨t, rfl⟩ := ri
  obtain ⟨its, n, r, ho, hz⟩ := I.lst hp
  obtain ⟨h1, h2, h3, h4⟩ := ixN_seq hj
  have hl := r.length
  have hn := line63
  have I' : Inv X pins σ (upd H p (.lst (xs.set j v))) { s with heap := s.heap.update p (Obj.mapSeq (·.setIfInBounds j u)) } :=
    I.lstUpd hp ho (mapSeq_set its n j u) (r.set rv j) (by rw [List.length_set]; exact hz) s.toks
  by_cases h0 : 0 ≤ k
  · have hk : k.toNat = j := by
      rw [seqIndex_of h0 h4] at h1
      exact Option.some.inj h1
    exact PySem.W.ki_setAt ho h0 (by (first | lia | omega)) (by rw [List.size_toArray, ← hl]; exact h4) (by rw [hk]; exact ⟨_, I', q⟩)
  · have hk : (k + (its.toArray.size : Int)).toNat = j := by
      rw [seqIndex_neg (by (first | lia | omega)) h3] at h1
      rw [List.size_toArray, ← hl]
      exact Option.some.inj h1
    exact PySem.W.ki_setBack ho (by (first | lia | omega)) (by rw [List.size_toArray, ← hl]; exact h3) (by (first | lia | omega)) (by rw [hk]; exact ⟨_, I', q⟩)

/-! ### slices -/
theorem slice_bounds (lo hi : Option Int) (n : Nat) : (sliceBounds lo hi none n).1 = ((HT.sIx n 0 lo : Nat) : Int) ∧ (sliceBounds lo hi none n).2.1 = ((HT.sIx n n hi : Nat) : Int) ∧ (sliceBounds lo hi none n).2.2 = 1 := by
  refine ⟨?_, ?_, rfl⟩
  · cases lo with
    | none => simp [sliceBounds, HT.sIx]
    | some i =>
      simp only [sliceBounds, HT.sIx, Option.getD_none, show (1 : Int) > 0 by decide, if_true]
      by_cases h : i < 0
      · simp only [h, if_true] <;> (first | lia | omega)
      · simp only [h, if_false] <;> (first | lia | omega)
  · cases hi with
    | none => simp [sliceBounds, HT.sIx]
    | some i =>
      simp only [sliceBounds, HT.sIx, Option.getD_none, show (1 : Int) > 0 by decide, if_true]
      by_cases h : i < 0
      · simp only [h, if_true] <;> (first | lia | omega)
      · simp only [h, if_false] <;> (first | lia | omega)
theorem slicePick_cut (its : List Value) (lo hi : Option Int) : slicePick its.toArray lo hi none = ((its.drop (HT.sIx its.length 0 lo)).take (HT.sIx its.length its.length hi - HT.sIx its.length 0 lo)).toArray := by
  obtain ⟨h1, h2, h3⟩ := slice_bounds lo hi its.toArray.size
  unfold slicePick
  rw [h1, h2, h3]
  simp only [sliceRange_one, pick_run, List.size_toArray] <;> rfl
/-- xs[lo:hi] of a list: a new list -/
def rSlL (K : PySem.W.Frag) : V → Option Int → Option Int → Hp → VK → Prop := fun x lo hi H Q => ∃ a xs, x = .ref a ∧ SqL K H a xs ∧ ∀ p, H p = none → Q (.ref p) (upd H p (.lst (cutV xs lo hi)))
theorem sl_list : SlR X (rSlL X.K) := by
  intro pins s σ H x v vl vu lo hi sl Q I rx hs pl pu h
  obtain ⟨a, xs, rfl, hx, q⟩ := h
  cases rx
  obtain ⟨its, r, ht, hz⟩ := I.list hx
  have hlen := r.length
  refine ⟨"list", _, slot_list_getitem.lookup, ht.isList.typeIs, ?_⟩
  refine wpAny_getItem_list_slice ht.isList hs pl pu .none (by simp) ?_ (by rw [List.size_toArray] <;> (first | lia | omega))
  rw [slicePick_cut, ← hlen]
  refine ⟨.ref s.heap.objs.size, _, I.laid (t' := s.toks) (o := .lst (cutV xs lo hi)) (fun b ob q => Heap.get?_push_of_some _ q) (Nat.le_refl _) ?_, rfl, q _ (I.hok.fresh (Nat.le_refl _))⟩
  exact ⟨Nat.le_trans (cutV_length xs lo hi) hz, _, 0, (r.drop (HT.sIx xs.length 0 lo)).take (HT.sIx xs.length xs.length hi - HT.sIx xs.length 0 lo), Heap.get?_push_size _ rfl⟩

/-! ### in, not in: flat items -/

/-! ### len, list(x), tuple(x) of any list or tuple that is read -/
theorem call_len_seq : CallR X (.builtin "len") (fun xs H Q => ∃ p ys, xs = [.ref p] ∧ (SqL X.K H p ys ∨ SqT X.K H p ys) ∧ Q (.int ys.length) H) := by
  intro pins s σ H xs us Q I r h
  obtain ⟨p, ys, rfl, hq, q⟩ := h
  obtain ⟨u, rfl, rx⟩ := vals1 r
  cases rx
  have hn := line63
  rcases hq with hq | hq
  · obtain ⟨its, r', pl, hz⟩ := I.list hq
    have hlen := r'.length
    exact Calls.call_len_list pl.isList (by simp only [List.size_toArray] <;> (first | lia | omega)) ⟨.int ys.length, H, I.tok _, ⟨s.toks + 1, by rw [List.size_toArray, hlen]⟩, q⟩
  · obtain ⟨its, r', pl, hz⟩ := I.tuple hq
    have hlen := r'.length
    exact len_tuple pl (by simp only [List.size_toArray] <;> (first | lia | omega)) ⟨.int ys.length, H, I.tok _, ⟨s.toks + 1, by rw [List.size_toArray, hlen]⟩, q⟩
theorem call_len_str : CallR X (.builtin "len") (fun xs H Q => ∃ z, xs = [.str z] ∧ z.length ≤ sizeLine ∧ Q (.int z.length) H) := by
  intro pins s σ H xs us Q I r h
  obtain ⟨z, rfl, hz, q⟩ := h
  obtain ⟨u, rfl, t, rfl⟩ := vals1 r
  have hn := line63
  exact len_str (by (first | lia | omega)) ⟨.int z.length, H, I.tok _, ⟨_, rfl⟩, q⟩
theorem call_list_of : CallR X (.type "list") (fun xs H Q => ∃ p ys, xs = [.ref p] ∧ (SqL X.K H p ys ∨ SqT X.K H p ys) ∧ ∀ l, H l = none → Q (.ref l) (upd H l (.lst ys))) := by
  intro pins s σ H xs us Q I r h
  obtain ⟨p, ys, rfl, hq, q⟩ := h
  obtain ⟨u, rfl, rx⟩ := vals1 r
  cases rx
  have fin : ∀ (its : List Value), Vals ys its → ys.length ≤ sizeLine → ∀ (h' : Heap) (c' : Nat), (∀ b o', s.heap.get? b = some o' → h'.get? b = some o') →
      h'.get? s.heap.objs.size = some { cls := .type "list", dict := none, data := .seq its.toArray c', slots := #[] } → EP X pins σ Q (.ref s.heap.objs.size) { s with heap := h' } := fun its r' hz h' c' kp e =>
    ⟨.ref s.heap.objs.size, _, I.laid (t' := s.toks) kp (Nat.le_refl _) (show ObjOk X.prog X.w _ h' _ (.lst ys) from ⟨hz, its, c', r', e⟩), rfl, q _ (I.hok.fresh (Nat.le_refl _))⟩
  rcases hq with hq | hq
  · obtain ⟨its, r', pl, hz⟩ := I.list hq
    have hlen := r'.length
    obtain ⟨o, ho, hc, n, hd⟩ := pl.isList
    exact call_list_seq p (.inl rfl) ho hc hd (fun h' c' kp e => fin its r' hz h' c' kp e) (by simp only [List.size_toArray] <;> (first | lia | omega))
  · obtain ⟨its, r', pl, hz⟩ := I.tuple hq
    have hlen := r'.length
    obtain ⟨o, ho, hc, n, hd⟩ := pl
    exact call_list_seq p (.inr rfl) ho hc hd (fun h' c' kp e => fin its r' hz h' c' kp e) (by simp only [List.size_toArray] <;> (first | lia | omega))

/-! ### the call of a builtin's method: o.m(..) -/
/-- the value is of that builtin type -/
def tyV (K : PySem.W.Frag) (T : String) (x : V) (H : Hp) : Prop := match x with
  | .str _ => T = "str"
  | .int _ => T = "int"
  | .ref p => (T = "list" ∧ ∃ xs, SqL K H p xs) ∨ (T = "tuple" ∧ ∃ o, K.lookup p = some o ∧ o.cls = .type "tuple" ∧ o.dict = none) ∨
      (T = "dict" ∧ ((∃ kvs, H p = some (.dK kvs)) ∨ ∃ kvs, H p = some (.dT kvs))) ∨ (T = "set" ∧ ∃ S n, H p = some (.set S n))
  | _ => False
theorem tyV_is {pins : List (Addr × Obj)} {σ : St} {H : Hp} {s : Shared} {T : String} {x : V} {v : Value} (I : Inv X pins σ H s) (r : RelV x v) (ty : tyV X.K T x H) :
    s.TypeIs v T ∧ ∀ a, v = .ref a → ∃ ob, s.heap.get? a = some ob ∧ ob.dict = none := by
  cases x with
  | str z =>
    obtain ⟨t, rfl⟩ := r
    cases (show T = "str" from ty)
    exact ⟨typeIs_str s z t, fun _ e => nomatch e⟩
  | int i =>
    obtain ⟨t, rfl⟩ := r
    cases (show T = "int" from ty)
    exact ⟨typeIs_int s i t, fun _ e => nomatch e⟩
  | ref p =>
    cases r
    rcases ty with ⟨rfl, xs, hq⟩ | ⟨rfl, o, hk, hc, hd⟩ | ⟨rfl, hk⟩ | ⟨rfl, S, n, hk⟩
    · obtain ⟨its, _, pl, _⟩ := I.list hq
      refine ⟨pl.isList.typeIs, fun a e => ?_⟩
      cases e
      obtain ⟨o, n, e, c, hd, _⟩ := pl
      exact ⟨o, e, hd⟩
    · refine ⟨⟨o, I.kIn p o hk, hc⟩, fun a e => ?_⟩
      cases e
      exact ⟨o, I.kIn _ o hk, hd⟩
    · have z : ∃ o, s.heap.get? p = some o ∧ o.ExactDict := by
        rcases hk with ⟨kvs, hk⟩ | ⟨kvs, hk⟩
        · obtain ⟨_, _, _, _, o, _, _, e, ex, _⟩ := I.hok p _ hk
          exact ⟨o, e, ex⟩
        · obtain ⟨_, _, _, _, o, _, _, e, ex, _⟩ := I.hok p _ hk
          exact ⟨o, e, ex⟩
      obtain ⟨o, e, ex⟩ := z
      refine ⟨⟨o, e, ex.1⟩, fun a e2 => ?_⟩
      cases e2
      exact ⟨o, e, ex.2.1⟩
    · obtain ⟨o, _, _, _, e, ex, _⟩ := I.hok p _ hk
      refine ⟨⟨o, e, ex.1⟩, fun a e2 => ?_⟩
      cases e2
      exact ⟨o, e, ex.2.1⟩
  | _ => exact False.elim ty
def tBM0 (K : PySem.W.Frag) (T : String) (r : V → List V → Hp → VK → Prop) (to : TE) : TE := fun σ H Q => to σ H fun x H1 => tyV K T x H1 ∧ r x [] H1 Q
def tBM (K : PySem.W.Frag) (T : String) (r : V → List V → Hp → VK → Prop) (to : TE) (t : TA) : TE := fun σ H Q => to σ H fun x H1 => tyV K T x H1 ∧ t σ H1 fun xs H2 => r x xs H2 Q
variable {o e : Expr} {es : List Expr} {to : TE} {t : TA} {name : Str} {apos cpos : Pos} {T id : String} {r : V → List V → Hp → VK → Prop}
theorem pe_bm0 (pa : PlainAttrs T) (slot : Slot T name id) (hty : typeOf (.builtin id) = pure (.type "method_descriptor")) (hm : MtR X id r) (ho : PE X o to)
    (hbase : attributeBase o name X.env (eval o X.env) = eval o X.env := by rfl) (hline : (apos.endLine == cpos.line) = true := by rfl) : PE X (.Call (.Attribute o name apos) [] [] cpos) (tBM0 X.K T r to) := by
  intro pins s σ H Q I h
  refine wpAny_Call_method0_late hbase hline (thn (ho pins s σ H _ I h) fun v s1 ⟨x, H1, I1, r1, ty, q1⟩ => ?_)
  obtain ⟨h1, h2⟩ := tyV_is I1 r1 ty
  exact ⟨T, id, pa, slot, hty, h1, h2, Calls.callWith_builtin rfl (PySem.evalArgs_none (hm pins s1 σ H1 x [] v [] Q I1 r1 .nil q1))⟩
theorem pe_bm (pa : PlainAttrs T) (slot : Slot T name id) (hty : typeOf (.builtin id) = pure (.type "method_descriptor")) (hm : MtR X id r) (ho : PE X o to) (ha : PA X (e :: es) t)
    (hbase : attributeBase o name X.env (eval o X.env) = eval o X.env := by rfl)
    (hfew : ((backTo cpos (starEach (e :: es) X.env)).all (fun x => !x.1) && (backToKw cpos (keywordEach [] X.env)).all (fun x => x.1.isSome)
      && decide ((e :: es).length + ([] : List Keyword).length + (if ([] : List Keyword).isEmpty then 0 else 1) < 30)) = true := by rfl)
    (hline : (apos.endLine == cpos.line) = true := by rfl) (hs : starEach (e :: es) X.env = (false, eval e X.env) :: starEach es X.env := by rfl) (hplain : (backTo cpos (starEach es X.env)).any (·.1) = false := by rfl) :
    PE X (.Call (.Attribute o name apos) (e :: es) [] cpos) (tBM X.K T r to t) := by
  intro pins s σ H Q I h
  refine wpAny_Call_method_late hbase hfew hline rfl (thn (ho pins s σ H _ I h) fun v s1 ⟨x, H1, I1, r1, ty, q1⟩ => ?_)
  obtain ⟨h1, h2⟩ := tyV_is I1 r1 ty
  refine ⟨T, id, pa, slot, hty, h1, h2, ?_⟩
  have hA := ha cpos pins s1 σ H1 _ I1 q1
  rw [hs] at hA ⊢
  refine Calls.callWith_builtin (by show (false || (backTo cpos (starEach es X.env)).any (·.1)) = false; rw [hplain] <;> rfl) (Calls.evalArgs_plain ?_)
  exact thn hA fun us s2 ⟨vs, H2, I2, r2, q2⟩ => hm pins s2 σ H2 x vs v us Q I2 r1 r2 q2
/- xs.append(e), list.index on a module's tuple .. are MtR facts of 06m -/
end
end L2

namespace L2
open PySem PySem.Spec PyProof.Rows

def MtM (X : Cx) (id : String) (r : V → List V → Hp → VK → Prop) : Prop :=
  ∀ (pins : List (Addr × Obj)) (s : Shared) (σ : St) (H : Hp) (x : V) (xs : List V) (v : Value) (us : List Value) (Q : VK), Inv X pins σ H s → RelV x v → Vals xs us → r x xs H Q →
    wpAny (model X.prog X.w) X.A (call (.builtin id) (v :: us)) (EP X pins σ Q) X.xe s

/-! ### lists of values -/
theorem Vals.one : ∀ {x : V} {us : List Value}, Vals [x] us → ∃ u, us = [u] ∧ RelV x u
  | _, _, .cons r .nil => ⟨_, rfl, r⟩
theorem Vals.zero : ∀ {us : List Value}, Vals [] us → us = []
  | _, .nil => rfl
theorem Vals.dropLast {xs : List V} {us : List Value} (h : Vals xs us) : Vals xs.dropLast us.dropLast := by
  induction h with
  | nil => exact .nil
  | cons r t ih =>
    cases t with
    | nil => exact .nil
    | cons q t' => exact .cons r ih
theorem erase_last {α : Type} (l : List α) : l.eraseIdx (l.length - 1) = l.dropLast := by
  induction l with
  | nil => rfl
  | cons a r ih =>
    cases r with
    | nil => rfl
    | cons b r =>
      have e : (a :: b :: r).length - 1 = ((b :: r).length - 1) + 1 := by
        have h1 : (a :: b :: r).length = r.length + 2 := rfl
        have h2 : (b :: r).length = r.length + 1 := rfl
        (first | lia | omega)
      rw [e, List.eraseIdx_cons_succ, ih]
      all_goals rfl

section
variable {X : Cx} {pins : List (Addr × Obj)} {σ : St} {H : Hp} {s : Shared} {l b : Addr} {xs ys zs : List V}

/-! ### the two steps: a tracked list is rewritten, a new list is laid -/
theorem Inv.lset {its its' : List Value} {n : Nat} {f : Array Value → Array Value} {t' : Nat} (I : Inv X pins σ H s) (hH : H l = some (.lst xs))
    (e : s.heap.get? l = some { cls := .type "list", data := .seq its.toArray n }) (hf : f its.toArray = its'.toArray) (hv : Vals ys its') (hz : ys.length ≤ sizeLine) :
    Inv X pins σ (upd H l (.lst ys)) { s with heap := s.heap.update l (Obj.mapSeq f), toks := t' } := by
  have q := PySem.IsL.update e f
  rw [hf] at q
  refine I.write (x := l) (e := l) (by rw [hH]; exact trivial) (.inl rfl) (fun b' u hb hu => (Heap.get?_update_other s.heap (Obj.mapSeq f) (Ne.symm hb)).trans hu) ⟨_, q⟩ ?_
  exact ⟨hz, its', _, hv, q⟩
theorem Inv.lnew {its : List Value} {t' : Nat} (I : Inv X pins σ H s) (hv : Vals ys its) (hz : ys.length ≤ sizeLine) :
    Inv X pins σ (upd H s.heap.objs.size (.lst ys)) { s with heap := s.heap.push { cls := .type "list", data := .seq its.toArray }, toks := t' } :=
  I.laid (fun _ _ q => Heap.get?_push_of_some _ q) (Nat.le_refl _) ⟨hz, its, 0, hv, Heap.get?_push_size _ rfl⟩
theorem Inv.fresh (I : Inv X pins σ H s) : H s.heap.objs.size = none := I.hok.fresh (Nat.le_refl _)
theorem Inv.lstM (I : Inv X pins σ H s) (hH : H l = some (.lst xs)) : xs.length ≤ sizeLine ∧ ∃ (its : List Value) (n : Nat), Vals xs its ∧ xs.length = its.length ∧ s.heap.get? l = some { cls := .type "list", data := .seq its.toArray n } := by
  obtain ⟨z, its, n, r, e⟩ := I.hok l _ hH
  exact ⟨z, its, n, r, r.length, e⟩

theorem notLongL {n : Nat} (h : n ≤ sizeLine) : Builtin.List.listTooLong n = false := by
  unfold Builtin.List.listTooLong
  exact decide_eq_false (by (first | lia | omega))
end

section
variable {X : Cx}

/-! ### methods -/
def rAppend : V → List V → Hp → VK → Prop := fun x vs H Q => ∃ l xs y, x = .ref l ∧ vs = [y] ∧ H l = some (.lst xs) ∧ xs.length < sizeLine ∧ Q .non (upd H l (.lst (xs ++ [y])))
theorem mt_append : MtM X "list.append" rAppend := by
  intro pins s σ H x vs v us Q I rx rv h
  obtain ⟨l, xs, y, rfl, rfl, hH, hz, q⟩ := h
  cases rx
  obtain ⟨u, rfl, ru⟩ := rv.one
  obtain ⟨z, its, n, r, hl, e⟩ := I.lstM hH
  refine call_meets F.slot_list_append ⟨_, e, rfl⟩ F.entry_list_append (F.args_list_append_2 _ _) (PySem.list_append l its.toArray n u (by rw [List.size_toArray]; (first | lia | omega))) ⟨e, ?_⟩
  refine ⟨.non, _, I.lset (its' := its ++ [u]) hH e (by simp) (r.append (.cons ru .nil)) ?_, rfl, q⟩
  rw [List.length_append, List.length_singleton]
  (first | lia | omega)


def rPop : V → List V → Hp → VK → Prop := fun x vs H Q => ∃ l xs y, x = .ref l ∧ vs = [] ∧ H l = some (.lst xs) ∧ xs[xs.length - 1]? = some y ∧ Q y (upd H l (.lst xs.dropLast))
theorem mt_pop : MtM X "list.pop" rPop := by
  intro pins s σ H x vs v us Q I rx rv h
  obtain ⟨l, xs, y, rfl, rfl, hH, hy, q⟩ := h
  cases rx
  have hus := rv.zero
  subst hus
  obtain ⟨z, its, n, r, hl, e⟩ := I.lstM hH
  obtain ⟨u, hu, ru⟩ := r.get hy
  have hy' : its.toArray[its.toArray.size - 1]? = some u := by
    show its.toArray[its.length - 1]? = some u
    rw [← Array.getElem?_toList, ← hl]
    exact hu
  refine call_meets F.slot_list_pop ⟨_, e, rfl⟩ F.entry_list_pop (F.args_list_pop_1 _) (MeetsSeq.list_pop_last l its.toArray n u hy' (by rw [List.size_toArray]; (first | lia | omega))) ⟨e, ?_⟩
  refine ⟨y, _, I.lset (its' := its.dropLast) hH e ?_ r.dropLast ?_, ru, q⟩
  · show its.toArray.eraseIdxIfInBounds (its.toArray.size - 1) = its.dropLast.toArray
    rw [List.size_toArray, List.eraseIdxIfInBounds_toArray, erase_last]
  · rw [List.length_dropLast]
    (first | lia | omega)




/-! ### list + list, list += list, list * int -/
def rCat : R2 := fun x y H Q => ∃ l b xs zs, x = .ref l ∧ y = .ref b ∧ H l = some (.lst xs) ∧ H b = some (.lst zs) ∧ xs.length + zs.length ≤ sizeLine ∧ ∀ p, H p = none → Q (.ref p) (upd H p (.lst (xs ++ zs)))
theorem op_cat : OpR X (binaryOp .Add) rCat := by
  intro pins s σ H x y v u Q I rx ry h
  obtain ⟨l, b, xs, zs, rfl, rfl, hH, hB, hz, q⟩ := h
  cases rx
  cases ry
  obtain ⟨z, its, n, r, hl, e⟩ := I.lstM hH
  obtain ⟨z2, its2, n2, r2, hl2, e2⟩ := I.lstM hB
  refine PySem.P.add_list e e2 ?_ (by rw [List.size_toArray, List.size_toArray]; (first | lia | omega))
  have ea : its.toArray ++ its2.toArray = (its ++ its2).toArray := by simp
  rw [ea]
  exact ⟨.ref _, _, I.lnew (t' := s.toks) (r.append r2) (by rw [List.length_append]; (first | lia | omega)), rfl, q _ I.fresh⟩

/-! ### del xs[i] -/
end

/-! ### xs[a:b] = ys -/
section
variable {prog : Program} {w : World} {A : Around} {E : Value → Shared → Prop} {s : Shared}
theorem bounds_run {a c n : Nat} (hac : a ≤ c) (hc : c ≤ n) : sliceBounds (some (a : Int)) (some (c : Int)) none n = ((a : Int), (c : Int), 1) := by
  simp only [sliceBounds, Option.getD_none]
  have h1 : ¬ ((a : Int) < 0) := by (first | lia | omega)
  have h2 : ¬ ((c : Int) < 0) := by (first | lia | omega)
  simp only [h1, h2, if_false, show (1 : Int) > 0 by decide, if_true]
  congr 1
  · (first | lia | omega)
  · congr 1; (first | lia | omega)
set_option maxRecDepth 100000 in
/-- list.__setitem__ with a slice of step one and another list -/
theorem setItem_slice {l b sl : Addr} {items new : Array Value} {n n2 : Nat} {vl vu : Value} {a c : Nat} {Q : Unit → Shared → Prop}
    (e : s.heap.get? l = some { cls := .type "list", data := .seq items n }) (e2 : s.heap.get? b = some { cls := .type "list", data := .seq new n2 }) (hne : l ≠ b)
    (hs : s.heap.IsSliceOf sl vl vu .none) (pl : IsPart vl (some (a : Int))) (pu : IsPart vu (some (c : Int))) (hac : a ≤ c) (hc : c ≤ items.size)
    (hsz : items.size + new.size ≤ sizeLine) (h : Q () { s with heap := s.heap.update l (Obj.mapSeq fun xs => xs.extract 0 a ++ new ++ xs.extract c xs.size) }) :
    wpAny (model prog w) A (setItem (.ref l) (.ref sl) (.ref b)) Q E s := by
  have hl : s.heap.IsList l items := PySem.IsL.isList e
  have hb : s.heap.IsList b new := PySem.IsL.isList e2
  obtain ⟨os, hos, hcs, hds⟩ := id hs
  have hTs : s.TypeIs (.ref sl) "slice" := ⟨os, hos, hcs⟩
  have hstep : ¬ ((rawPart none == rawInt 0) = true) := Bool.false_ne_true
  have hsame : Builtin.List.listSameRef (.ref l) (.ref b) = false := by
    unfold Builtin.List.listSameRef
    exact beq_eq_false_iff_ne.mpr hne
  have hmax : (max (a : Int) (c : Int)).toNat = c := by (first | lia | omega)
  have hz' : ((fun xs : Array Value => xs.extract 0 a ++ new ++ xs.extract c xs.size) items).size ≤ sizeLine + 1 := by
    simp only [Array.size_append, Array.size_extract]
    (first | lia | omega)
  unfold setItem
  try with_reducible refine wpAny_holding ?_
  first | refine wpAny_bind (wpAny_pure ?_) | skip
  refine wpAny_bind (wpAny_sequenceKey hl.typeIs (by decide) ?_)
  refine wpAny_bind (wpAny_callSpecial?_slot (name := Str.ofString "__setitem__") hl.typeIs slot_list_setitem
    (wpAny_call_entry slot_list_setitem hl.typeIs entry_list_setitem ?_ (args_list_setitem _ _ _)))
  show wpAny _ _ (Builtin.List.listSubscript? (.ref sl) >>= _) _ _ s
  refine wpAny_bind ?_
  unfold Builtin.List.listSubscript?
  refine wpAny_bind (wpAny_specialOf hTs slice_no_index ?_)
  simp only [Option.isNone_none, if_true]
  refine wpAny_pure ?_
  show wpAny _ _ (typeOf (.ref sl) >>= _) _ _ s
  refine wpAny_bind (wpAny_typeOf hTs ?_)
  first
    | rw [if_neg (by decide)]
    | refine PySem.W.KFB.if_not (by decide) ?_
  rw [listSliceParts_eq]
  refine wpAny_bind (wpAny_bind (wpAny_field hos hds (x := .none) rfl (wpAny_bind (wpAny_listPart .none ?_))))
  rw [if_neg hstep]
  refine wpAny_bind (wpAny_field hos hds (x := vl) rfl (wpAny_bind (wpAny_listPart pl ?_)))
  refine wpAny_bind (wpAny_field hos hds (x := vu) rfl (wpAny_bind (wpAny_listPart pu (wpAny_pure ?_))))
  first
    | simp only [hsame, Bool.false_eq_true, if_false]
    | refine PySem.W.KFB.if_not hsame ?_
    | (dsimp only
       rw [if_neg (by rw [hsame]; exact Bool.false_ne_true)])
  refine wpAny_bind (m := Builtin.List.listAllItems (.ref b) "must assign iterable to extended slice") ?_
  unfold Builtin.List.listAllItems
  refine wpAny_bind (wpAny_typeOf hb.typeIs ?_)
  first
    | refine PySem.W.KFB.if_so (by decide) ?_
    | rw [if_pos (by decide)]
    | simp only [beq_self_eq_true, Bool.true_or, if_true]
  unfold Builtin.List.listItems
  refine wpAny_bind (wpAny_seqItems e2 rfl (wpAny_pure ?_))
  refine wpAny_bind (wpAny_bind (wpAny_seqItems e rfl (wpAny_pure ?_)))
  refine wpAny_bind (wpAny_of_eq ((sliceIndices_raw (some (a : Int)) (some (c : Int)) none items.size (by simp)).trans (congrArg (pure : Int × Int × Int → Sem (Int × Int × Int)) (bounds_run hac hc))) ?_)
  show wpAny _ _ (if ((1 : Int) == 1) = true then _ else _) _ _ s
  rw [if_pos (by decide)]
  refine wpAny_bind (wpAny_rule ?_)
  first
    | simp only [notLongL hsz, Bool.false_eq_true, if_false]
    | refine PySem.W.KFB.if_not (notLongL hsz) ?_
  first | refine wpAny_bind (wpAny_pure ?_) | skip
  show wpAny _ _ (updateSeq l (fun xs => xs.extract 0 ((a : Int)).toNat ++ new ++ xs.extract (max (a : Int) (c : Int)).toNat xs.size) >>= _) _ _ s
  rw [hmax, Int.toNat_natCast]
  refine wpAny_bind (wpAny_updateSeq (hz := Nat.le_trans (Nat.le_add_right _ _) hsz) (_hz' := hz') e rfl ?_)
  refine wpAny_bind (wpAny_letGo ?_)
  first
    | exact wpAny_bind (wpAny_pure (wpAny_pure ⟨.none, rfl, wpAny_pure h⟩))
    | exact wpAny_pure ⟨.none, rfl, wpAny_pure h⟩
end

section
variable {X : Cx}
end
end L2

namespace Att
open PySem PySem.W PySem.Calls PyProof.Rows

/-! ### the script -/
theorem ints_of_wellAll {P : Params} {h : Heap} : ∀ (ns : List Int) (vs : List Value), WellAll P h vs (ns.map WData.int) → IntsAre vs ns := by
  intro ns
  induction ns with
  | nil =>
    intro vs w
    rw [List.map_nil] at w
    cases w
    exact .nil
  | cons n ns ih =>
    intro vs w
    rw [List.map_cons] at w
    cases w with
    | cons a b =>
      cases a
      exact .cons _ _ (ih _ b)

theorem script_of {l : OpenLaw} {n : Nat} (hn : l.most = some n) {P : Params} {h : Heap} {args : List WData} {vals : List Value}
    (hpre : l.row.toRowW.claim.pre args = true) (hwl : WellAll P h vals args) :
    ∃ a vs ns, vals = [Value.ref a] ∧ args = [WData.list (ns.map WData.int)] ∧ h.get? a = some { cls := .type "list", data := .seq vs.toArray } ∧ IntsAre vs ns ∧ ns.length ≤ n := by
  have hsh : WShape.hasAll [] args [.list .int] = true := (pre_splitW hpre).1
  have hc : l.pre.holds [] { args := args } = true := (pre_splitW hpre).2
  obtain ⟨d, r, rfl, h1, h2⟩ := hasAllW_cons hsh
  obtain rfl := hasAllW_nil h2
  obtain ⟨xs, rfl, h3⟩ := hasW_list h1
  obtain ⟨ns, rfl⟩ := items_int h3
  have hlen : ns.length ≤ n := by
    unfold OpenLaw.pre at hc
    have h4 : (WTm.not (.lt (.lit (.int (n : Int))) (.len (.arg 0)))).holds [] { args := [.list (ns.map .int)] } = true := by
      have h4 := (holds_andW hc).1
      rw [hn] at h4
      exact h4
    have h5 := condW_of h4 (w_not (w_lt w_lit (w_len_list (w_arg rfl))))
    rw [List.length_map] at h5
    refine Nat.le_of_not_lt fun q => ?_
    have q' : (n : Int) < ((ns.length : Nat) : Int) := by (first | lia | omega)
    first
      | (rw [decide_eq_true q'] at h5; exact absurd h5 (by decide))
      | (simp at h5; (first | lia | omega))
  cases hwl with
  | cons w1 w2 =>
    cases w2
    cases w1 with
    | list ho hall => exact ⟨_, _, ns, rfl, rfl, ho, ints_of_wellAll ns _ hall, hlen⟩

theorem post_true (l : OpenLaw) (args : List WData) : l.row.toRowW.claim.post args (.bool true) args = true :=
  postW_of (r := l.row.toRowW) (X := (true == true))
    (show WShape.has [] (.bool true) .bool = true by first | rfl | decide | simp [WShape.has, WShape.arms, WShape.armsAll])
    (show (WTm.eq .res (.lit (.bool true))).value [] { args := args, res := some (.bool true), after := args } = some (.bool (true == true)) from w_eq_bool (w_res rfl) w_lit) rfl

/-! ### the attachment: holds_open's last premise (the goal 'hc' behind k_head) from a wpAny of the law's body -/

/-- the same from a codeAny of the CALL (for a layer whose function contracts speak of calls) -/
theorem attach_call {l : OpenLaw} {n : Nat} {q : Program} {loose : List Str} {XP : (Str → Option Value) → Heap → Prop} {YP : World → Heap → Prop} {d : DefRec}
    (hn : l.most = some n) (hdf : d.params.defaults = [])
    (call : ∀ (w : World) (s₀ s₁ : Shared) (mg mb : Str → Option Value) (fa : Addr) (o : Obj) (pm cd doc : Value) (a : Addr) (vs : List Value) (ns : List Int),
      Ground q loose [] XP w s₀ mg mb s₁.heap → YP w s₁.heap →
      s₁.heap.get? fa = some o → o.data = .func (docDef d.name d.params d.body d.scope pm cd doc) → s₁.heap.CodeRec cd d.name → mg d.name = some (.ref fa) →
      s₁.heap.get? a = some { cls := .type "list", data := .seq vs.toArray } → IntsAre vs ns → ns.length ≤ n → s₁.gens = #[] →
      codeAny (model l.prog w) callerA (.call (.ref fa) ⟨[.ref a], []⟩) (fun r s' => r = .ok (.ret (.bool true)) ∧ OldK s₁.heap s'.heap ∧ s'.os = s₁.os ∧ AllBare s'.gens) s₁) :
    WalkO q loose XP YP l.row.toRowW d [] (fun f vs => PySem.call f vs) := by
  intro w s₀ s₁ mg mb G Y fa o pm cd doc dV kV ho hd hcd hD hmg hg args vals as hpre hlay hrd hwl hlo
  obtain rfl : dV = .none := Dflts.none hD hdf
  obtain rfl : kV = .none := Dflts.noKw hD
  obtain ⟨a, vs, ns, rfl, rfl, hobj, hints, hlen⟩ := script_of hn hpre hwl
  refine enter_call (codeAny_mono (call w s₀ s₁ mg mb fa o pm cd doc a vs ns G Y ho (fd_plain hd) hcd hmg hobj hints hlen hg) fun r s' hq => ?_)
  obtain ⟨rfl, h2, h3, h4⟩ := hq
  exact ⟨.inl ⟨.bool true, .bool true, [], rfl, fun _ => rfl, .bool true, post_true l _, fun _ => ⟨List.Pairwise.nil, fun _ hm => (nomatch hm)⟩⟩, h2, h3, h4⟩


/-! ### rules over ANY heap (no ledger) from facts about the written part K: the library's own take a ledger (News) for what they write -/
section
variable {prog : Program} {w : World} {A : Around} {E : Value → Shared → Prop} {s : Shared} {K : Frag}





/-! the whole heap as the ledger: makes every rule that writes through a ledger a rule over any heap -/

end
end Att

namespace L2
open PySem PySem.Spec PyProof.Rows

theorem vals_ints : ∀ {vs : List Value} {ns : List Int}, IntsAre vs ns → Vals (ns.map V.int) vs
  | _, _, .nil => .nil
  | _, _, .cons n t h => .cons ⟨t, rfl⟩ (vals_ints h)

/-- nothing is tracked but the script, known to the object (or it is an object of the module) -/
def Only (H : Hp) : Prop := ∀ b, H b = none ∨ ∃ o xs, H b = some (.frz o (.lst xs))

/-- THE HEAD: the law's promise, at the heap behind the top. F, the promise of the law's def, may use that base is part of the heap (so K.In base, base.Ns mainGlobals mg stand in Mod) -/
theorem law_call {P : Program} {w : World} {K : PySem.W.Frag} {mg mb : Str → Option Value} {CX : CXT} {k : Nat} {fa a : Addr} {fd : FuncData} {x : Str} {sp : Sp} {s₁ : Shared} {vs : List Value} {ns : List Int}
    (KX : K.In s₁.heap) (hns : s₁.heap.Ns mainGlobals mg) (hb : s₁.heap.Ns builtinsNs mb) (hbb : ∀ x : Str, x ≠ "__name__" → mb x = bootBuiltins x) (hlim : s₁.heap.NoLimit) (hg : s₁.gens = #[])
    (ha : s₁.heap.get? a = some { cls := .type "list", data := .seq vs.toArray }) (hi : IntsAre vs ns) (hl : ns.length ≤ sizeLine) (hr : Room k callerA)
    (F : ∀ base : Heap, K.In base → base.Ns mainGlobals mg → FnOk P w K mg base CX k fa fd [x] sp) (hbind : ∀ (s : Shared) (u : Value), BindsTo s fd ⟨[u], []⟩ [(x, u)])
    (hsp : ∀ H : Hp, Only H → SqL K H a (ns.map V.int) → sp [.ref a] H (fun v _ => v = .bl true) fun _ _ _ => False)
    (hCX : ∀ H e s', CX [] H s₁ (fun _ _ _ => False) e s' → False) :
    codeAny (model P w) callerA (.call (.ref fa) ⟨[.ref a], []⟩) (fun r s' => r = .ok (.ret (.bool true)) ∧ OldK s₁.heap s'.heap ∧ s'.os = s₁.os ∧ AllBare s'.gens) s₁ := by
  have rv := vals_ints hi
  have lenV := hi.length
  -- from an abstract heap in which nothing but the script may be tracked
  have core : ∀ H : Hp, Only H → SqL K H a (ns.map V.int) → HOk P w H s₁.heap → (∀ b, H b ≠ none → b = a) → (H a ≠ none → K.lookup a = none) →
      codeAny (model P w) callerA (.call (.ref fa) ⟨[.ref a], []⟩) (fun r s' => r = .ok (.ret (.bool true)) ∧ OldK s₁.heap s'.heap ∧ s'.os = s₁.os ∧ AllBare s'.gens) s₁ := by
    intro H hO hS hok hA hK
    have base_of : ∀ {b : Addr} {o : Obj}, s₁.heap.get? b = some o → H b = none → (hidT s₁.heap H).get? b = some o := fun e n => hidT_get e n
    have noA : ∀ {b : Addr} {o : Obj} {es : Array DictEntry} {ep : Nat}, s₁.heap.get? b = some o → o.data = .dict es ep → H b = none := fun {b o es ep} e d => by
      cases q : H b with
      | none => rfl
      | some u =>
        have e' : b = a := hA b (by rw [q]; simp)
        subst e'
        rw [ha] at e; cases e
        have d' : Data.seq vs.toArray _ = Data.dict es ep := d
        cases d'
    have nsK : ∀ {b : Addr} {m : Str → Option Value}, s₁.heap.Ns b m → (hidT s₁.heap H).Ns b m := fun {b m} ⟨o, es, ep, e, d, r⟩ => ⟨o, es, ep, base_of e (noA e d), d, r⟩
    have hKb : K.In (hidT s₁.heap H) := fun b o e => base_of (KX b o e) (by
      cases q : H b with
      | none => rfl
      | some u =>
        have e' : b = a := hA b (by rw [q]; simp)
        subst e'
        rw [hK (by rw [q]; simp)] at e; cases e)
    have hM : Mod K mg (hidT s₁.heap H) := ⟨hKb, nsK hns, ⟨mb, nsK hb, hbb⟩, let ⟨mc, h1, h2⟩ := hlim; ⟨mc, nsK h1, h2⟩⟩
    have e0 : Env0 P w K mg (hidT s₁.heap H) callerA [] s₁ H := ⟨rfl, hM, fun b o e => of_hidT e, Nat.le_of_eq (hidT_size _ _), trivial, fun b hb => absurd (show b ∈ ([] : List Addr) from hb) (by simp), hok, .of_eq hg⟩
    refine codeAny_mono ((F _ hKb (nsK hns)).run callerA [] s₁ H ⟨[.ref a], []⟩ [.ref a] [.ref a] _ _ hr e0 (hbind s₁ (.ref a)) (.cons rfl .nil) (hsp H hO hS)) fun r s' h => ?_
    cases r with
    | error e => exact (hCX H e s' h).elim
    | ok fl =>
      cases fl with
      | next => exact False.elim h
      | brk => exact False.elim h
      | cont => exact False.elim h
      | ret u =>
        obtain ⟨v, H', os, bare, un, hok', r', q⟩ := h
        have q' : v = .bl true := q
        subst q'
        obtain rfl : u = Value.bool true := r'
        refine ⟨rfl, OldK.of_keep fun b o e => ?_, os, bare⟩
        cases q : H b with
        | none => exact un.keep b o e q (by intro z; exact absurd (show b ∈ ([] : List Addr) from z) (by simp)) (by simp)
        | some u =>
          rcases hO b with z | ⟨ob, xs, z⟩
          · rw [q] at z; cases z
          · have z2 := un.frzs b ob _ z
            obtain ⟨e1, _⟩ := hok b _ z
            obtain ⟨e2, _⟩ := hok' b _ z2
            rw [e] at e1; cases e1
            exact e2
  cases hk : K.lookup a with
  | some o =>
    -- the script is one of the module's own objects
    have e := KX a o hk
    rw [ha] at e
    cases e
    refine core (fun _ => none) (fun _ => .inl rfl) (.inr ⟨_, vs.toArray, _, hk, rfl, rfl, rfl, by rw [List.size_toArray, lenV]; exact hl, by simpa using rv⟩) (fun b u z => by have z' : (none : Option HO) = some u := z; cases z') (fun b z => absurd rfl z) fun z => absurd rfl z
  | none =>
    refine core (fun b => if b = a then some (.frz { cls := .type "list", data := .seq vs.toArray } (.lst (ns.map V.int))) else none) (fun b => ?_) (.inl (.inr ⟨{ cls := .type "list", data := .seq vs.toArray }, if_pos rfl⟩)) (fun b u z => ?_) (fun b z => ?_) fun _ => hk
    · by_cases hb : b = a
      · exact .inr ⟨_, _, if_pos hb⟩
      · exact .inl (if_neg hb)
    · by_cases hb : b = a
      · have z' := (if_pos hb).symm.trans z
        cases z'
        subst hb
        exact ⟨ha, by rw [List.length_map]; exact hl, vs, _, rv, ha⟩
      · have z' := (if_neg hb).symm.trans z
        cases z'
    · by_cases hb : b = a
      · exact hb
      · exact absurd (if_neg hb) z
end L2

namespace L2
open PySem PySem.Spec PyProof.Rows


/-- the goal that k_head leaves (case hc), from the law's promise. F gives the function object fd (K's own) once, then the promise over every base -/
theorem walk_of {l : PySem.W.OpenLaw} {n k : Nat} {q : Program} {loose : List Str} {XP : (Str → Option Value) → Heap → Prop} {YP : World → Heap → Prop} {d : DefRec} {K : Params → PySem.W.Frag} {CX : World → CXT} {sp : World → Sp} {x : Str}
    (hn : l.most = some n) (hn2 : n ≤ sizeLine) (hdf : d.params.defaults = []) (hr : Room k callerA)
    (hY : ∀ (w : World) (h : Heap), YP w h → (K w.params).In h)
    (F : ∀ (w : World) (mg : Str → Option Value) (fa : Addr) (h : Heap), (K w.params).In h → h.Ns mainGlobals mg → mg d.name = some (.ref fa) →
      ∃ fd : FuncData, (∀ (s : Shared) (u : Value), BindsTo s fd ⟨[u], []⟩ [(x, u)]) ∧
        ∀ base : Heap, (K w.params).In base → base.Ns mainGlobals mg → FnOk l.prog w (K w.params) mg base (CX w) k fa fd [x] (sp w))
    (hsp : ∀ (w : World) (H : Hp) (a : Addr) (ns : List Int), ns.length ≤ n → Only H → SqL (K w.params) H a (ns.map V.int) → sp w [.ref a] H (fun v _ => v = .bl true) fun _ _ _ => False)
    (hCX : ∀ (w : World) (H : Hp) (s : Shared) (e : Value) (s' : Shared), CX w [] H s (fun _ _ _ => False) e s' → False) :
    PySem.W.WalkO q loose XP YP l.row.toRowW d [] (fun f vs => PySem.call f vs) := by
  refine Att.attach_call hn hdf fun w s₀ s₁ mg mb fa o pm cd doc a vs ns G Y ho hd hcd hmg hobj hints hlen hg => ?_
  have KX := hY w _ Y
  obtain ⟨fd, hb, hF⟩ := F w mg fa _ KX G.T.g hmg
  exact law_call KX G.T.g G.T.b G.T.builtins G.T.nolimit hg hobj hints (Nat.le_trans hlen hn2) hr hF hb (fun H hO hS => hsp w H a ns hlen hO hS) fun H e s' => hCX w H s₁ e s'
end L2

/- THE LAST THEOREM (shape; LID, My.* are yours):
   My.Adr: a structure of the addresses that your layer names (classes, functions); My.Txt K t: a structure (Prop) of the equations over K;
   My.txt_mk : {K} {implicit addresses ..} (e1 : nsIn K mainGlobals "law" = some (some (.ref f))) (e2 : K.lookup f = some ⟨oc, od, .func (fnOf "law" "law" params body scope dV kV doc pm an cdv ct), sl⟩) (e3 : codeIn K cdv "law" = true) .. : ∃ t, My.Txt K t

set_option maxRecDepth 100000 in
set_option maxHeartbeats 0 in
theorem PySem.Challenge.cw_LID_holds : PySem.Challenge.rw_LID.Holds := by
  w_on; o_law; k_head; (case hw => w_witness2)
  k_fill
  refine L2.walk_of (l := PySem.Challenge.rw_LID) (n := 63) (k := 40) (x := "script") (CX := fun w => ..) (sp := fun _ => My.sp_law) rfl (by decide) rfl ⟨rfl, by decide, by decide⟩ (fun w h Y => PySem.W.kIn_of Y) ?F ?S ?C
  case F =>
    intro w mg fa h KX G hmg
    have T : ∃ t, My.Txt (L2.KOf KX) t := by
      dsimp only [L2.KOf]                          -- K must stand as «<heap const> w.params» for k_is
      refine' My.txt_mk ?e1 ?e2 ?e3 ..
      (case e1 => PySem.W.k_is)                    -- in the order: a name -> its address -> its object -> its parts
      (case e2 => PySem.W.k_is)
      ..
    obtain ⟨t, T⟩ := T
    have e0 := hmg.symm.trans (PySem.W.mg_of KX G T.law)
    cases e0                                       -- fa is the law's own address
    exact ⟨_, fun s u => .of_eq rfl, fun base kb nb => My.law_fn T kb nb⟩     -- if «.of_eq rfl» comes too early: refine' ⟨_, ?b, fun base kb nb => My.law_fn T kb nb⟩; exact fun s u => .of_eq rfl
  case S => exact fun w H a ns hl hO hS => ..
  case C => exact ..
(the tactic k_is has no namespace: write k_is) -/

/-! SHORT WORDS over the layer: a def of the text, its body, what a loop and a test want. -/
namespace L2
open PySem PySem.Spec PyProof.Rows

/-! ### the text by places -/
/-- the j-th statement of a class's body -/
def inClass (s : Stmt) (j : Nat) : Stmt := match s with
  | .ClassDef _ _ _ body _ _ _ _ _ _ _ => body.getD j (.Pass ⟨0, 0, 0, 0⟩)
  | _ => .Pass ⟨0, 0, 0, 0⟩
def defArgs (s : Stmt) : Arguments := match s with
  | .FunctionDef _ a _ _ _ _ _ _ _ _ => a
  | _ => { posonlyargs := [], args := [], vararg := none, kwonlyargs := [], kw_defaults := [], kwarg := none, defaults := [] }
def defBody (s : Stmt) : List Stmt := match s with
  | .FunctionDef _ _ b _ _ _ _ _ _ _ => b
  | _ => []
def defScope (s : Stmt) : Scope := match s with
  | .FunctionDef _ _ _ _ _ _ sc _ _ _ => sc
  | _ => { kind := .function, names := [], isGenerator := false, isCoroutine := false }

/-! ### no exception leaves a def -/
abbrev CX0 : CXT := fun _ _ _ _ _ _ => False
abbrev E0 : XK := fun _ _ _ => False
theorem pass0 {X : Cx} : Passes CX0 X E0 := fun _ _ _ _ _ _ _ h => h.elim

/-! ### a def (or method) of the text as it stands behind the top -/
structure Fun (K : PySem.W.Frag) (x qual : Str) (st : Stmt) (f : Addr) (fd : FuncData) : Prop where
  ex : ∃ (oc : Value) (od : Option Addr) (kV doc pm : Value) (an : Option Addr) (cdv ct : Value) (osl : Array (Option Value)),
    fd = PySem.W.fnOf x qual (defArgs st) (defBody st) (defScope st) .none kV doc pm an cdv ct ∧ K.lookup f = some ⟨oc, od, .func fd, osl⟩ ∧ PySem.W.codeIn K cdv qual = true
  kp : PySem.W.keepIn K (.ref f) = true
section
variable {P : Program} {w : World} {K : PySem.W.Frag} {mg : Str → Option Value} {base : Heap}
/-- THE RULE for a def: its body as a term of rules, and the reading of that term -/
theorem Fun.ok {x qual : Str} {st : Stmt} {f : Addr} {fd : FuncData} {N ps : List Str} {k : Nat} {sp : Sp} (F : Fun K x qual st f fd) (S : FnScope N ps (defScope st)) (len : ∀ vs H Q E, sp vs H Q E → vs.length = ps.length)
    (hbody : ∀ (cdv : Value) (A : Around) (outer : List Env) (s : Shared) (H : Hp) (vs : List V) (Q : VK) (E : XK), Room k (A.deeper (envOfC qual (defScope st) s.heap.objs.size f cdv)) → sp vs H Q E →
      ∃ t, PSs (cxOf CX0 P w K mg base N qual (defScope st) f cdv A outer s H E).nox (defBody st) t ∧ t { nx := fun _ H' => Q .non H', rt := Q } (start N vs) H) : FnOk P w K mg base CX0 (k + 1) f fd ps sp := by
  obtain ⟨oc, od, kV, doc, pm, an, cdv, ct, osl, rfl, lk, hcd⟩ := F.ex
  refine fn_of lk hcd S len fun A outer s H vs Q E hr hsp => ?_
  obtain ⟨t, h, q⟩ := hbody cdv A outer s H vs Q E hr hsp
  exact ⟨t, h.nox, q⟩
/-- how its arguments bind (no defaults): h is «fun _ _ _ _ _ _ us hl => match us, hl with | [_, _], _ => rfl», one _ a parameter -/
theorem Fun.binds {x qual : Str} {st : Stmt} {f : Addr} {fd : FuncData} {ps : List Str} (F : Fun K x qual st f fd)
    (h : ∀ (kV doc pm : Value) (an : Option Addr) (cdv ct : Value) (us : List Value), us.length = ps.length → bindArgs (PySem.W.fnOf x qual (defArgs st) (defBody st) (defScope st) .none kV doc pm an cdv ct) ⟨us, []⟩ = pure (ps.zip us)) : Binds K fd ps [] := by
  obtain ⟨oc, od, kV, doc, pm, an, cdv, ct, osl, rfl, lk, hcd⟩ := F.ex
  exact .all (h kV doc pm an cdv ct)
theorem fun_mk {x qual : Str} {st : Stmt} {f : Addr} {oc : Value} {od an : Option Addr} {osl : Array (Option Value)} {kV doc pm cdv ct : Value} (l : K.lookup f = some ⟨oc, od, .func (PySem.W.fnOf x qual (defArgs st) (defBody st) (defScope st) .none kV doc pm an cdv ct), osl⟩)
    (c : PySem.W.codeIn K cdv qual = true) (k : PySem.W.keepIn K (.ref f) = true) : Fun K x qual st f (PySem.W.fnOf x qual (defArgs st) (defBody st) (defScope st) .none kV doc pm an cdv ct) := ⟨⟨oc, od, kV, doc, pm, an, cdv, ct, osl, rfl, l, c⟩, k⟩
end
theorem hu_of {A : Around} {k : Nat} (hr : Room k A) : A.units + 1 < cLine := Nat.lt_of_le_of_lt (Nat.add_le_add_left (by decide : 1 ≤ 64) _) hr.units

/-! ### expressions in short: the name that stands in the i-th slot -/
section
variable {X : Cx}
theorem pv (i : Nat) {x : Str} {pos : Pos} (hN : X.N[i]? = some x := by rfl) (hv : Vis X.env.scope x := by first | exact Or.inl rfl | exact Or.inr (Or.inl rfl) | exact Or.inr (Or.inr rfl)) (hd : (x == ("__debug__" : Str)) = false := by decide)
    (hcd : (x == ("__classdict__" : Str)) = false := by decide) : PE X (.Name x pos) (tVar i) := pe_var hN hv hd hcd
end

/-! ### tests -/
theorem iteF {A B : Prop} (h : B) : if false = true then A else B := by
  rw [if_neg Bool.false_ne_true]
  exact h
theorem iteT {A B : Prop} (h : A) : if true = true then A else B := by
  rw [if_pos rfl]
  exact h
theorem ite2 {c A B : Prop} [Decidable c] (h1 : c → A) (h2 : ¬ c → B) : if c then A else B := by
  by_cases h : c
  · rw [if_pos h]
    exact h1 h
  · rw [if_neg h]
    exact h2 h

/-! ### heaps -/
/-- all that was tracked is as it was -/
def Same (H H' : Hp) : Prop := ∀ b o, H b = some o → H' b = some o
theorem Same.refl (H : Hp) : Same H H := fun _ _ h => h
theorem Same.trans {H H1 H2 : Hp} (a : Same H H1) (b : Same H1 H2) : Same H H2 := fun c o h => b c o (a c o h)
theorem Same.seq {K : PySem.W.Frag} {H H' : Hp} {a : Addr} {xs : List V} (e : Same H H') (h : SqL K H a xs) : SqL K H' a xs := by
  rcases h with (h | ⟨o, h⟩) | h
  · exact .inl (.inl (e _ _ h))
  · exact .inl (.inr ⟨o, e _ _ h⟩)
  · exact .inr h

/-! ### a dict's pairs: keys that differ -/
section
variable {κ : Type} [DecidableEq κ]
end
end L2

set_option Elab.async false
set_option linter.all false
set_option maxRecDepth 100000
/-! More rules over the hand layer: texts, comprehensions. -/
namespace L2
open PySem PySem.Spec PyProof.Rows

/-! ### texts by their codes -/
def T (l : List Nat) : Str := ⟨l.toArray⟩
theorem T_len (l : List Nat) : (T l).length = l.length := by
  show l.toArray.size = l.length
  simp
theorem T_list (l : List Nat) : (T l).cps.toList = l := rfl
theorem T_inj {a b : List Nat} (h : T a = T b) : a = b := congrArg (fun x : Str => x.cps.toList) h
theorem T_app (a b : List Nat) : T a ++ T b = T (a ++ b) := by
  refine ext_toList ?_
  rw [PySem.W.KT.app_list]
  rfl

/-! ### the signs of a text, walked -/
def Its (l : List Nat) : It := ⟨fun i _ => i < l.length, fun i H x H' => H' = H ∧ ∃ c, l[i]? = some c ∧ x = .str (T [c]), fun i _ => l.length ≤ i⟩
theorem T_at {l : List Nat} {i c : Nat} (h : l[i]? = some c) : (T l).cps[i]? = some c := by
  show l.toArray[i]? = some c
  simpa using h
theorem T_past {l : List Nat} {i : Nat} (h : l.length ≤ i) : (T l).cps[i]? = none := by
  show l.toArray[i]? = none
  simpa using h
theorem turn_strA {P : Program} {w : World} {K : PySem.W.Frag} {tg : Expr} (l : List Nat) (t : Tok) (it : Addr) : Turn P w K tg (Its l) [it] it (fun i h => h.IsStrIter it "str_ascii_iterator" (T l) t i) where
  mem := by simp
  obj := fun i h st b hb => by
    have e : b = it := by simpa using hb
    subst e
    obtain ⟨o, e, c, d⟩ := st
    exact ⟨o, e, fun v z => by rw [d] at z; cases z⟩
  keep := fun i h h' st k => by
    obtain ⟨o, e, r⟩ := st
    exact ⟨o, k it (by simp) o e, r⟩
  item := by
    intro X hP hw hK hc i pins s σ H E I hf st hg
    subst hP hw hK
    have hi : i < l.length := hg
    have hx : l[i]? = some l[i] := by simp [hi]
    obtain ⟨f0, f1, f2, f3, f4, f5⟩ := hf it (by simp)
    refine wpAny_pyNext_ascii_item st (T_at hx) fun h' st' sb => ?_
    have I1 : Inv X pins σ H { s with heap := h', toks := s.toks + 1 } := I.turned (t' := s.toks + 1) (fun b o hb e => (sb.2 b hb).trans e) f0 f1 f3 f4 f5
    obtain ⟨o, e, c, d⟩ := id st'
    exact ⟨_, rfl, go_of (s := { s with heap := h', toks := s.toks + 1 }) e c d (by decide) ⟨.str (T [l[i]]), H, I1, ⟨_, rfl⟩, ⟨rfl, l[i], hx, rfl⟩, st', fun b hb => (hf b hb).1⟩⟩
  done := by
    intro X hP hw hK hc i pins s σ H E I hf st hg
    subst hP hw hK
    obtain ⟨f0, f1, f2, f3, f4, f5⟩ := hf it (by simp)
    exact wpAny_pyNext_ascii_end (I.ok.hd hc) st (T_past hg) fun h' eb => ⟨rfl, I.turned (t' := s.toks) (fun b o hb e => eb b o hb e) f0 f1 f3 f4 f5⟩
  self := fun _ _ _ _ _ st h => wpAny_pyIter_striter_ascii st h
theorem turn_strW {P : Program} {w : World} {K : PySem.W.Frag} {tg : Expr} (l : List Nat) (t : Tok) (it : Addr) : Turn P w K tg (Its l) [it] it (fun i h => h.IsStrIter it "str_iterator" (T l) t i) where
  mem := by simp
  obj := fun i h st b hb => by
    have e : b = it := by simpa using hb
    subst e
    obtain ⟨o, e, c, d⟩ := st
    exact ⟨o, e, fun v z => by rw [d] at z; cases z⟩
  keep := fun i h h' st k => by
    obtain ⟨o, e, r⟩ := st
    exact ⟨o, k it (by simp) o e, r⟩
  item := by
    intro X hP hw hK hc i pins s σ H E I hf st hg
    subst hP hw hK
    have hi : i < l.length := hg
    have hx : l[i]? = some l[i] := by simp [hi]
    obtain ⟨f0, f1, f2, f3, f4, f5⟩ := hf it (by simp)
    refine wpAny_pyNext_wide_item st (T_at hx) fun h' st' sb => ?_
    have I1 : Inv X pins σ H { s with heap := h', toks := s.toks + 1 } := I.turned (t' := s.toks + 1) (fun b o hb e => (sb.2 b hb).trans e) f0 f1 f3 f4 f5
    obtain ⟨o, e, c, d⟩ := id st'
    exact ⟨_, rfl, go_of (s := { s with heap := h', toks := s.toks + 1 }) e c d (by decide) ⟨.str (T [l[i]]), H, I1, ⟨_, rfl⟩, ⟨rfl, l[i], hx, rfl⟩, st', fun b hb => (hf b hb).1⟩⟩
  done := by
    intro X hP hw hK hc i pins s σ H E I hf st hg
    subst hP hw hK
    obtain ⟨f0, f1, f2, f3, f4, f5⟩ := hf it (by simp)
    exact wpAny_pyNext_wide_end (I.ok.hd hc) st (T_past hg) fun h' eb => ⟨rfl, I.turned (t' := s.toks) (fun b o hb e => eb b o hb e) f0 f1 f3 f4 f5⟩
  self := fun _ _ _ _ _ st h => wpAny_pyIter_striter_wide st h
def iStr (tl : TE) : TI := fun σ H R => tl σ H fun x H1 => ∃ l, x = .str (T l) ∧ R (Its l) H1
theorem pi_str {X : Cx} {tg e : Expr} {tl : TE} (hl : PE X e tl) : PI X tg e (iStr tl) := by
  intro pins s σ H R I h
  refine thn (hl pins s σ H _ I h) fun v s1 ⟨x, H1, I1, r1, q1⟩ => ?_
  obtain ⟨l, rfl, q⟩ := q1
  obtain ⟨t, rfl⟩ := (show ∃ t, v = Value.str (T l) t from r1)
  cases ha : (T l).cps.all (· < 128) with
  | true =>
    refine wpAny_pyIter_ascii ha ?_
    refine ⟨s1.heap.objs.size, [s1.heap.objs.size], _, _, H1, rfl, I1.kept (t' := s1.toks) fun b o e => Heap.get?_push_of_some _ e, turn_strA l t _, ⟨_, Heap.get?_push_size _ rfl, rfl, rfl⟩, fun b hb => ?_, q⟩
    have e : b = s1.heap.objs.size := by simpa using hb
    subst e
    exact I1.fpOk (Nat.le_refl _) (I1.hok.fresh (Nat.le_refl _))
  | false =>
    refine wpAny_pyIter_wide ha ?_
    refine ⟨s1.heap.objs.size, [s1.heap.objs.size], _, _, H1, rfl, I1.kept (t' := s1.toks) fun b o e => Heap.get?_push_of_some _ e, turn_strW l t _, ⟨_, Heap.get?_push_size _ rfl, rfl, rfl⟩, fun b hb => ?_, q⟩
    have e : b = s1.heap.objs.size := by simpa using hb
    subst e
    exact I1.fpOk (Nat.le_refl _) (I1.hok.fresh (Nat.le_refl _))
/-- over the signs of a text -/
theorem for_str {l : List Nat} {g : TG} {tb : TS} {D : Ends} {σ : St} {H : Hp} (Pv : Nat → St → Hp → Prop) (h0 : Pv 0 σ H)
    (hs : ∀ i c σ H, l[i]? = some c → Pv i σ H → g (.str (T [c])) σ H fun σ2 H2 => tb { D with nx := Pv (i + 1), ct := Pv (i + 1), bk := D.nx } σ2 H2) (hd : ∀ σ H, Pv l.length σ H → D.nx σ H) :
    ∃ W : Nat → Nat → St → Hp → Prop, (∃ m, W 0 m σ H) ∧ ∀ i m σ H, W i m σ H →
      ((Its l).stop i H ∧ D.nx σ H) ∨ ((Its l).go i H ∧ ∃ N : St → Hp → Prop, (∀ σ' H', N σ' H' → ∃ m', m' < m ∧ W (i + 1) m' σ' H') ∧ ∀ x H', (Its l).yld i H x H' → g x σ H' fun σ2 H2 => tb { D with nx := N, ct := N, bk := D.nx } σ2 H2) := by
  refine ⟨fun i m σ H => m = l.length - i ∧ i ≤ l.length ∧ Pv i σ H, ⟨l.length, by simp, Nat.zero_le _, h0⟩, ?_⟩
  rintro i m σ H ⟨rfl, hi, p⟩
  by_cases hlt : i < l.length
  · refine .inr ⟨hlt, Pv (i + 1), fun σ' H' p' => ⟨l.length - (i + 1), by (first | lia | omega), rfl, hlt, p'⟩, fun x H' y => ?_⟩
    obtain ⟨e, c, hc, rfl⟩ := y
    subst e
    exact hs i c σ _ hc p
  · have e : i = l.length := by (first | lia | omega)
    subst e
    exact .inl ⟨Nat.le_refl _, hd σ H p⟩

/-! ### a comprehension's block -/
def clGo (cells : List (Str × Addr)) : List (Str × NameKind) → List (Str × Addr) → List (Str × Addr)
  | [], acc => acc
  | (n, k) :: r, acc => clGo cells r (if k == NameKind.free then (n, (cells.lookup n).getD 0) :: acc else acc)
def clOf (scope : Scope) (env : Env) : List (Str × Addr) := clGo env.cells scope.names []
theorem clGo_sub {cells : List (Str × Addr)} : ∀ {names : List (Str × NameKind)} {acc : List (Str × Addr)}, (∀ y ∈ names, y.2 = .free → ∃ c, cells.lookup y.1 = some c) → (∀ x c, acc.lookup x = some c → cells.lookup x = some c) →
    ∀ x c, (clGo cells names acc).lookup x = some c → cells.lookup x = some c
  | [], _, _, h, x, c, e => h x c e
  | (n, k) :: r, acc, hf, h, x, c, e => by
    refine clGo_sub (names := r) (fun y hy => hf y (List.mem_cons_of_mem _ hy)) ?_ x c e
    intro z d hz
    by_cases hk : k = .free
    · have hkb : (k == NameKind.free) = true := by rw [hk]; rfl
      rw [if_pos hkb] at hz
      obtain ⟨c0, h0⟩ := hf (n, k) List.mem_cons_self hk
      cases hzn : z == n with
      | true =>
        rw [List.lookup_cons, hzn] at hz
        have : z = n := eq_of_beq hzn
        subst this
        have h0' : cells.lookup z = some c0 := h0
        rw [h0'] at hz ⊢
        exact hz
      | false =>
        rw [List.lookup_cons, hzn] at hz
        exact h z d hz
    · have hkb : ¬ ((k == NameKind.free) = true) := fun q => hk (eq_of_beq q)
      rw [if_neg hkb] at hz
      exact h z d hz
theorem clGo_acc {cells : List (Str × Addr)} : ∀ {names : List (Str × NameKind)} {acc : List (Str × Addr)} {x : Str}, (∃ c, acc.lookup x = some c) → ∃ c, (clGo cells names acc).lookup x = some c
  | [], _, _, h => h
  | (n, k) :: r, acc, x, h => by
    refine clGo_acc (names := r) ?_
    by_cases hkb : (k == NameKind.free) = true
    · rw [if_pos hkb]
      cases hzn : x == n with
      | true => rw [List.lookup_cons, hzn]; exact ⟨_, rfl⟩
      | false => rw [List.lookup_cons, hzn]; exact h
    · rw [if_neg hkb]; exact h
theorem clGo_has {cells : List (Str × Addr)} : ∀ {names : List (Str × NameKind)} {acc : List (Str × Addr)} {x : Str}, (x, NameKind.free) ∈ names → ∃ c, (clGo cells names acc).lookup x = some c
  | (n, k) :: r, acc, x, h => by
    rcases List.mem_cons.mp h with e | h
    · cases e
      refine clGo_acc (names := r) ?_
      rw [if_pos (show (NameKind.free == NameKind.free) = true from rfl)]
      exact ⟨_, by rw [List.lookup_cons, beq_self_eq_true]⟩
    · exact clGo_has (names := r) h
theorem closure_eq {scope : Scope} {env : Env} (hf : ∀ y ∈ scope.names, y.2 = .free → ∃ c, env.cells.lookup y.1 = some c) : closureFor scope env = pure (clOf scope env) := by
  have key : ∀ (names : List (Str × NameKind)) (acc : List (Str × Addr)), (∀ y ∈ names, y.2 = .free → ∃ c, env.cells.lookup y.1 = some c) →
      (forIn names acc (fun x (r : List (Str × Addr)) => if (x.2 == NameKind.free) = true then do let a ← cellOf env x.1; pure (ForInStep.yield ((x.1, a) :: r)) else pure (ForInStep.yield r)) : Sem (List (Str × Addr))) = pure (clGo env.cells names acc) := by
    intro names
    induction names with
    | nil => intro acc _; rfl
    | cons y r ih =>
      obtain ⟨n, k⟩ := y
      intro acc h
      rw [List.forIn_cons]
      have ih' := fun acc => ih acc fun y hy => h y (List.mem_cons_of_mem _ hy)
      by_cases hkb : (k == NameKind.free) = true
      · obtain ⟨c, hc⟩ := h (n, k) List.mem_cons_self (eq_of_beq hkb)
        have hc' : env.cells.lookup n = some c := hc
        have e1 : cellOf env n = pure c := by unfold cellOf; rw [hc']
        have e2 : clGo env.cells ((n, k) :: r) acc = clGo env.cells r ((n, c) :: acc) := by
          show clGo env.cells r (if (k == NameKind.free) = true then (n, (env.cells.lookup n).getD 0) :: acc else acc) = _
          rw [if_pos hkb, hc']
          rfl
        rw [e2, ← ih']
        simp only [hkb, if_true, e1, pure_bind]
      · have e2 : clGo env.cells ((n, k) :: r) acc = clGo env.cells r acc := by
          show clGo env.cells r (if (k == NameKind.free) = true then (n, (env.cells.lookup n).getD 0) :: acc else acc) = _
          rw [if_neg hkb]
        rw [e2, ← ih']
        have hkf : (k == NameKind.free) = false := by
          cases q : k == NameKind.free with
          | false => rfl
          | true => exact absurd q hkb
        simp only [hkf, Bool.false_eq_true, if_false, pure_bind]
  unfold closureFor clOf
  simp only [bind_pure_comp]
  have := key scope.names [] hf
  simp only [bind_pure_comp] at this
  rw [this]
  rfl
theorem lookup_relabel {env : Env} : ∀ {names : List (Str × NameKind)} {x : Str},
    (names.map fun (n, k) => if (k == NameKind.free && env.scope.kind == .function && env.kindOf n == some .cell) then (n, NameKind.cell) else (n, k)).lookup x =
      (names.lookup x).map fun k => if (k == NameKind.free && env.scope.kind == .function && env.kindOf x == some .cell) = true then NameKind.cell else k
  | [], _ => rfl
  | (n, k) :: r, x => by
    have ih := @lookup_relabel env r x
    show List.lookup x ((if (k == NameKind.free && env.scope.kind == .function && env.kindOf n == some .cell) = true then (n, NameKind.cell) else (n, k)) :: _) = _
    cases hx : x == n with
    | true =>
      have e : x = n := eq_of_beq hx
      subst e
      by_cases hc : (k == NameKind.free && env.scope.kind == .function && env.kindOf x == some .cell) = true
      · rw [if_pos hc]; simp only [List.lookup_cons, hx, Option.map_some, if_pos hc]
      · rw [if_neg hc]; simp only [List.lookup_cons, hx, Option.map_some, if_neg hc]
    | false =>
      by_cases hc : (k == NameKind.free && env.scope.kind == .function && env.kindOf n == some .cell) = true
      · rw [if_pos hc]; simp only [List.lookup_cons, hx]; exact ih
      · rw [if_neg hc]; simp only [List.lookup_cons, hx]; exact ih
theorem mem_of_look {α : Type} : ∀ {l : List (Str × α)} {x : Str} {a : α}, l.lookup x = some a → (x, a) ∈ l
  | (n, k) :: r, x, a, h => by
    cases hx : x == n with
    | true =>
      rw [List.lookup_cons, hx] at h
      cases h
      rw [eq_of_beq hx]
      exact List.mem_cons_self
    | false =>
      rw [List.lookup_cons, hx] at h
      exact List.mem_cons_of_mem _ (mem_of_look h)

/-- the context of a comprehension's block -/
def blk (X : Cx) (M : List Str) (scope : Scope) (C : Addr) (fp : List Addr) (s₃ : Shared) (H₃ : Hp) : Cx where
  prog := X.prog
  w := X.w
  K := X.K
  mg := X.mg
  base := X.base
  A := X.A
  N := X.N ++ M
  s₀ := s₃
  H₀ := H₃
  env := compEnvC scope (clOf scope X.env) C X.env
  outer := X.stack
  stack := X.stack
  ex := fp
  fn := fun _ => false
  calm := X.calm
  pn := []
  xe := fun _ _ => False
/-- what of the scope must be seen -/
structure CompSc (X : Cx) (scope : Scope) : Prop where
  kind : scope.kind = .function
  cell : ∀ y ∈ scope.names, y.2 ≠ .cell
  loc : ∀ y ∈ scope.names, y.2 = .local → scope.names.lookup y.1 = some .local
  free : ∀ y ∈ scope.names, y.2 = .free → X.env.kindOf y.1 = some .cell ∨ X.env.kindOf y.1 = some .free
  apart : ∀ x ∈ X.N, scope.names.lookup x ≠ some .local
section
variable {X : Cx}
theorem CompSc.vis {scope : Scope} (S : CompSc X scope) {C : Addr} {x : Str} (h : (compEnvC scope (clOf scope X.env) C X.env).kindOf x = some .cell ∨ (compEnvC scope (clOf scope X.env) C X.env).kindOf x = some .free) :
    (x, NameKind.free) ∈ scope.names := by
  have e : (compEnvC scope (clOf scope X.env) C X.env).kindOf x = (scope.names.lookup x).map fun k => if (k == NameKind.free && X.env.scope.kind == .function && X.env.kindOf x == some .cell) = true then NameKind.cell else k := lookup_relabel
  rw [e] at h
  cases hl : scope.names.lookup x with
  | none => rw [hl] at h; rcases h with h | h <;> cases h
  | some k =>
    have hm := mem_of_look hl
    have nc := S.cell _ hm
    rw [hl] at h
    by_cases hk : k = .free
    · rw [hk] at hm; exact hm
    · have hkb : (k == NameKind.free) = false := by
        cases q : k == NameKind.free with
        | false => rfl
        | true => exact absurd (eq_of_beq q) hk
      simp only [Option.map_some, hkb, Bool.false_and, Bool.false_eq_true, if_false, Option.some.injEq] at h
      rcases h with h | h
      · exact absurd h nc
      · exact absurd h hk
theorem CompSc.cells {scope : Scope} (S : CompSc X scope) (ok : X.Ok) : ∀ y ∈ scope.names, y.2 = .free → ∃ c, X.env.cells.lookup y.1 = some c := fun y hy e => ok.has y.1 (S.free y hy e)
theorem CompSc.sub {scope : Scope} (S : CompSc X scope) (ok : X.Ok) : ∀ x c, (clOf scope X.env).lookup x = some c → X.env.cells.lookup x = some c :=
  clGo_sub (S.cells ok) (fun _ _ h => nomatch h)

theorem blk_ok {pins : List (Addr × Obj)} {σ : St} {H₃ : Hp} {s₃ : Shared} {M : List Str} {scope : Scope} {fp : List Addr} (S : CompSc X scope) (I : Inv X pins σ H₃ s₃) (hf : ∀ b ∈ fp, FpOk X pins H₃ b) (hl : ∀ b ∈ fp, b < s₃.heap.objs.size) :
    (blk X M scope s₃.heap.objs.size fp s₃ H₃).Ok where
  mod := I.mod
  kind := S.kind
  glob := I.ok.glob
  blt := I.ok.blt
  above := Nat.le_refl _
  inj := fun x y c h1 h2 => I.ok.inj x y c (S.sub I.ok x c h1) (S.sub I.ok y c h2)
  has := fun x h => clGo_has (S.vis h)
  cab := fun x c h => nomatch h
  hd := I.ok.hd
  frames := I.ok.frames
  stk := .inl rfl
  exf := fun b hb => ⟨Nat.ne_of_lt (hl b hb), fun x c h => (hf b hb).2.2.2.2.1 x c (S.sub I.ok x c h)⟩
  bs := I.bs
  bsz := Nat.le_trans I.ok.bsz I.sz
  noex := fun b o e hb => by
    rcases (hf b hb).2.2.2.1 with z | z
    · exact I.ok.noex b o e z
    · exact absurd (Nat.lt_of_lt_of_le (Heap.lt_size (I.ok.bs b o e).1) z) (Nat.lt_irrefl _)
  exfs := fun b hb hfs => by
    rcases List.mem_cons.mp (I.stkSub b hfs) with e | e
    · exact (hf b hb).2.1 e
    · exact (hf b hb).2.2.1 e
  funs := I.stack
  frf := I.stkFree
theorem blk_inv {pins : List (Addr × Obj)} {σ : St} {H₃ : Hp} {s₃ : Shared} {M : List Str} {scope : Scope} {fp : List Addr} {h' : Heap} {m : Str → Option Value} {tk : Nat} (S : CompSc X scope) (I : Inv X pins σ H₃ s₃) (hf : ∀ b ∈ fp, FpOk X pins H₃ b)
    (hl : ∀ b ∈ fp, b < s₃.heap.objs.size) (hk : ∀ b o, s₃.heap.get? b = some o → h'.get? b = some o) (hn : h'.Ns s₃.heap.objs.size m) :
    Inv (blk X M scope s₃.heap.objs.size fp s₃ H₃) [] (σ ++ List.replicate M.length none) H₃ { s₃ with heap := h', toks := tk } where
  ok := blk_ok S I hf hl
  os := rfl
  bare := I.bare
  base := Un.kept hk
  loc := by
    refine ⟨m, hn, fun i x v e1 e2 e3 => ?_⟩
    have hi : i < σ.length := by
      by_cases q : i < σ.length
      · exact q
      · rw [List.getElem?_append_right (by (first | lia | omega))] at e2
        have := List.mem_of_getElem? e2
        rw [(List.mem_replicate.mp this).2] at this
        obtain ⟨_, h2⟩ := List.mem_replicate.mp this
        rw [List.getElem?_replicate] at e2
        split at e2 <;> cases e2
    rw [List.getElem?_append_left hi] at e2
    have e1' : X.N[i]? = some x := by
      have e1'' : (X.N ++ M)[i]? = some x := e1
      rw [List.getElem?_append_left (by rw [← I.len]; exact hi)] at e1''
      exact e1''
    have hxN : x ∈ X.N := List.mem_of_getElem? e1'
    have kl : ¬ (relabel scope X.env).names.lookup x = some .local := by
      intro q
      have q' : (scope.names.lookup x).map (fun k => if (k == NameKind.free && X.env.scope.kind == .function && X.env.kindOf x == some .cell) = true then NameKind.cell else k) = some .local := (lookup_relabel (env := X.env)).symm.trans q
      cases hlk : scope.names.lookup x with
      | none => rw [hlk] at q'; cases q'
      | some k =>
        rw [hlk] at q'
        have nl : k ≠ .local := fun z => S.apart x hxN (by rw [hlk, z])
        simp only [Option.map_some, Option.some.injEq] at q'
        split at q'
        · cases q'
        · exact nl q'
    have e3' : (compEnvC scope (clOf scope X.env) s₃.heap.objs.size X.env).kindOf x = some .cell ∨ (compEnvC scope (clOf scope X.env) s₃.heap.objs.size X.env).kindOf x = some .free := by
      rcases e3 with z | z | z
      · exact absurd z kl
      · exact .inl z
      · exact .inr z
    have hm := S.vis e3'
    have hX := S.free _ hm rfl
    obtain ⟨m0, hn0, hl0⟩ := I.loc
    obtain ⟨u, ru, lk⟩ := hl0 i x v e1' e2 (by rcases hX with z | z; exact .inr (.inl z); exact .inr (.inr z))
    refine ⟨u, ru, .inr ⟨e3', ?_⟩⟩
    rcases lk with ⟨z, _⟩ | ⟨_, c, hc, o, ho, hd⟩
    · rcases hX with q | q
      · have : X.env.kindOf x = some .cell := q
        rw [this] at z; cases z
      · have : X.env.kindOf x = some .free := q
        rw [this] at z; cases z
    · obtain ⟨c', hc'⟩ := clGo_has (cells := X.env.cells) (acc := []) hm
      have := S.sub I.ok x c' hc'
      rw [hc] at this; cases this
      exact ⟨c, hc', o, hk c o ho, hd⟩
  cell := fun x c h => by
    obtain ⟨v, o, ho, hd⟩ := I.cell x c (S.sub I.ok x c h)
    exact ⟨v, o, hk c o ho, hd⟩
  free := I.hok.fresh (Nat.le_refl _)
  freeC := fun x c h => I.freeC x c (S.sub I.ok x c h)
  pin := fun p hp => nomatch hp
  hok := I.hok.kept hk
  len := by
    show (σ ++ List.replicate M.length none).length = (X.N ++ M).length
    rw [List.length_append, List.length_append, List.length_replicate, I.len]
/-- out of the block again -/
theorem blk_out {pins pins' : List (Addr × Obj)} {σ σ' : St} {H₃ H' : Hp} {s₃ s' : Shared} {M : List Str} {scope : Scope} {fp : List Addr} {h' : Heap} (I : Inv X pins σ H₃ s₃) (hf : ∀ b ∈ fp, FpOk X pins H₃ b)
    (J : Inv (blk X M scope s₃.heap.objs.size fp s₃ H₃) pins' σ' H' s') (hs : Heap.SameBut s₃.heap.objs.size s'.heap h') : Inv X pins σ H' { s' with heap := h' } := by
  have ne : ∀ b o, s₃.heap.get? b = some o → b ≠ s₃.heap.objs.size := fun b o e => Nat.ne_of_lt (Heap.lt_size e)
  have B := J.base
  refine I.call' (s' := { s' with heap := h' }) (ch := fp) J.os ⟨fun b o e n hb hx => ?_, fun b o e n hb hx => ?_, B.free, fun b o e hx => ?_, B.tups, B.frzs, B.tbls⟩ ?_ J.bare fun b hb => (hf b hb).2.2.2.elim fun z r => ?_
  · exact (hs.2 b (ne b o e)).trans (B.keep b o e n hb hx)
  · obtain ⟨sl, q⟩ := B.slot b o e n hb hx
    exact ⟨sl, (hs.2 b (ne b o e)).trans q⟩
  · obtain ⟨o', q⟩ := B.there b o e hx
    exact ⟨o', (hs.2 b (ne b o e)).trans q⟩
  · intro b u e
    have hb : b ≠ s₃.heap.objs.size := fun z => by
      have := J.free
      have q : H' s₃.heap.objs.size = none := this
      rw [z, q] at e; cases e
    refine (J.hok b u e).stay (fun c v hc q => (hs.2 c ?_).trans q) (fun _ q => q) fun _ _ q => q
    rcases hc with z | z
    · rw [z]; exact hb
    · intro z2
      have q : H' s₃.heap.objs.size = none := J.free
      rw [z2, q] at z; cases z
  · exact ⟨z, (hf b hb).2.1, r.1, r.2⟩

/-! ### tests of a comprehension -/
def PTs (X : Cx) (ifs : List Expr) (t : TT) : Prop :=
  ∀ (pins : List (Addr × Obj)) (s : Shared) (σ : St) (H : Hp) (Q : Bool → Hp → Prop), Inv X pins σ H s → t σ H Q →
    wpAny (model X.prog X.w) X.A (forIn ifs true fun c r => if r = true then do let ok ← isTrue c X.env (eval c X.env); pure (ForInStep.yield ok) else pure (ForInStep.yield r)) (TP X pins σ Q) X.xe s
def tTrue : TT := fun _ H Q => Q true H
theorem pts_nil : PTs X [] tTrue := fun pins s σ H Q I h => wpAny_tests_nil ⟨H, I, h⟩

theorem comp_loop {prog : Program} {w : World} {A : Around} {R : Result → Shared → Prop} {s : Shared} {elt target iter : Expr} {ifs : List Expr} {scope : Scope} {pos : Pos} {it acc : Value} {env : Env} (I : Nat → Shared → Prop)
    (turn : ∀ n s, I n s → wpAny (model prog w) A (pyNext it) (fun r s₁ => match r with
      | none => R (.ok .next) s₁
      | some v => wpAny (model prog w) A (letOwnedTupleGo target it v) (fun _ s₁ => wpAny (model prog w) A (assign target env v) (fun _ s₂ =>
          wpAny (model prog w) A (forIn ifs true fun c r => if r = true then do let ok ← isTrue c env (eval c env); pure (ForInStep.yield ok) else pure (ForInStep.yield r)) (fun ok s₃ =>
            if ok = true then wpAny (model prog w) A (eval elt env) (fun x s₄ =>
              wpAny (model prog w) A (call (.builtin "list.append") [acc, x]) (fun _ s₅ => ∃ m, m < n ∧ I m s₅) (fun _ _ => False) s₄) (fun _ _ => False) s₃
            else ∃ m, m < n ∧ I m s₃) (fun _ _ => False) s₂) (fun _ _ => False) s₁) (fun _ _ => False) s₁) (fun _ _ => False) s)
    (n : Nat) (h : I n s) :
    codeAny (model prog w) A (.compLoop (.ListComp elt [⟨target, iter, ifs, 0⟩] scope pos) 0 it acc env) R s := by
  refine codeAny_loop rfl I (fun n s hI => ?_) n h
  show wpAny _ A ((compTurn (.ListComp elt [⟨target, iter, ifs, 0⟩] scope pos) 0 it acc env).onRaise (fun x => do noteFrame x env; theTreesLotGoes x)) _ _ s
  refine wpAny_noted ?_
  rw [compTurn_list]
  refine wpAny_bind (wpAny_standAt (wpAny_bind (wpAny_mono (turn n s hI) (fun r s₁ h₁ => ?_) fun _ _ h' => h'.elim)))
  cases r with
  | none => exact wpAny_pure h₁
  | some v =>
    refine wpAny_bind (wpAny_mono h₁ (fun _ s₁' h₁' => ?_) fun _ _ h' => h'.elim)
    refine wpAny_bind (wpAny_mono h₁' (fun _ s₂ h₂ => wpAny_bind (wpAny_mono h₂ (fun ok s₃ h₃ => ?_) fun _ _ h' => h'.elim)) fun _ _ h' => h'.elim)
    cases ok with
    | false => exact wpAny_pure ⟨rfl, h₃⟩
    | true =>
      exact wpAny_bind (wpAny_bind (wpAny_mono h₃ (fun x s₄ h₄ => wpAny_bind (wpAny_mono h₄ (fun _ s₅ h₅ => wpAny_pure (wpAny_pure ⟨rfl, h₅⟩)) fun _ _ h' => h'.elim)) fun _ _ h' => h'.elim))

/-- [te for g in wi if tt]: D the new list, W the invariant by the turn, a measure and the items so far -/
abbrev BK (α : Type) := Addr → List Addr → Shared → Hp → α
def CompIn (k : Nat) (J : It) (g : BK TG) (tt : BK TT) (te : BK TE) (σ : St) (H1 : Hp) (Q : VK) : Prop := ∀ D, H1 D = none → ∃ W : Nat → Nat → List V → Hp → Prop, (∃ m, W 0 m [] (upd H1 D (.lst []))) ∧
  ∀ i m ys H2, W i m ys H2 → H2 D = some (.lst ys) ∧ ((J.stop i H2 ∧ Q (.ref D) H2) ∨ (J.go i H2 ∧ ∀ x H3, J.yld i H2 x H3 → ∀ C fp s₀ H₀, g C fp s₀ H₀ x (σ ++ List.replicate k none) H3 fun σ3 H4 => (∃ τ : St, σ3 = σ ++ τ ∧ τ.length = k) ∧
    tt C fp s₀ H₀ σ3 H4 fun b H5 => if b = true then te C fp s₀ H₀ σ3 H5 fun v H6 => H6 D = some (.lst ys) ∧ ys.length < sizeLine ∧ ∃ m', m' < m ∧ W (i + 1) m' (ys ++ [v]) (upd H6 D (.lst (ys ++ [v])))
      else ∃ m', m' < m ∧ W (i + 1) m' ys H5))
def tComp (k : Nat) (wi : TI) (g : BK TG) (tt : BK TT) (te : BK TE) : TE := fun σ H Q => wi σ H fun J H1 => CompIn k J g tt te σ H1 Q
theorem pe_comp {elt tg iter : Expr} {ifs : List Expr} {scope : Scope} {pos : Pos} {M : List Str} {wi : TI} {g : BK TG} {tt : BK TT} {te : BK TE} (hc : X.calm = true) (S : CompSc X scope) (hi : PI X tg iter wi)
    (hg : ∀ C fp s₃ H₃, PG (blk X M scope C fp s₃ H₃) tg (g C fp s₃ H₃)) (ht : ∀ C fp s₃ H₃, PTs (blk X M scope C fp s₃ H₃) ifs (tt C fp s₃ H₃)) (he : ∀ C fp s₃ H₃, PE (blk X M scope C fp s₃ H₃) elt (te C fp s₃ H₃))
    (hs : ∀ x, foldedSetIterable iter X.env x = pure x := by intro _; rfl) : PE X (.ListComp elt [⟨tg, iter, ifs, 0⟩] scope pos) (tComp M.length wi g tt te) := by
  intro pins s σ H Q I h
  rw [eval_ListComp]
  refine wpAny_comprehension_free (use := none) rfl hs (closure_eq (S.cells I.ok)) S.kind S.loc (thn (hi pins s σ H _ I h) fun xv s₁ h₁ => thn h₁ fun itv s₂ h₂ => ?_)
  obtain ⟨it, fp, tn, J, H2, e, I2, Tr, st2, f2, W0⟩ := h₂
  subst e
  have hD : H2 s₂.heap.objs.size = none := I2.hok.fresh (Nat.le_refl _)
  obtain ⟨W, ⟨m0, w0⟩, turn⟩ := W0 _ hD
  suffices core : ∀ s₃ : Shared, s₃ = { s₂ with heap := s₂.heap.push { cls := .type "list", data := .seq ([] : List Value).toArray } } →
      wpAny (model X.prog X.w) X.A (newFunctionEnv scope X.env.globals (clOf scope X.env) [] X.env.qual none .none (some X.env)) (fun cenv s₄ =>
        codeAny (model X.prog X.w) X.A (.compStart (.ListComp elt [⟨tg, iter, ifs, 0⟩] scope pos) 0 (.ref it) (.ref s₂.heap.objs.size) { cenv with scope := relabel scope X.env })
          (compPost (model X.prog X.w) X.A X.xe none (EP X pins σ Q) (.ref s₂.heap.objs.size) cenv.locals) s₄) X.xe s₃ from wpAny_newObj_type (core _ rfl)
  intro s₃ hs₃
  have I3 : Inv X pins σ (upd H2 s₂.heap.objs.size (.lst [])) s₃ := by
    rw [hs₃]
    exact I2.lnew (t' := s₂.toks) (its := []) .nil (Nat.zero_le _)
  have hlt : ∀ b ∈ fp, b < s₂.heap.objs.size := fun b hb => by
    obtain ⟨o, e, _⟩ := Tr.obj _ _ st2 b hb
    exact Heap.lt_size e
  have f3 : ∀ b ∈ fp, FpOk X pins (upd H2 s₂.heap.objs.size (.lst [])) b := fun b hb => ⟨by rw [upd_ne (Nat.ne_of_lt (hlt b hb))]; exact (f2 b hb).1, (f2 b hb).2⟩
  have hlt3 : ∀ b ∈ fp, b < s₃.heap.objs.size := fun b hb => by
    rw [hs₃]
    show b < (s₂.heap.push _).objs.size
    rw [Heap.size_push]
    exact Nat.lt_succ_of_lt (hlt b hb)
  have st3 : tn 0 s₃.heap := Tr.keep _ _ _ st2 fun b hb o e => by rw [hs₃]; exact Heap.get?_push_of_some _ e
  generalize hH₃ : upd H2 s₂.heap.objs.size (.lst []) = H₃ at I3 f3 w0
  refine wpAny_newFunctionEnv S.cell (by intro y hy; simp at hy) (fun h₁ hns₁ hsb₁ => ?_) S.kind
  have old : ∀ b o, s₃.heap.get? b = some o → h₁.get? b = some o := fun b o e => hsb₁.extBut b o (Nat.ne_of_lt (Heap.lt_size e)) (Heap.get?_push_of_some _ e)
  have I4 := blk_inv (M := M) (tk := s₃.toks + ([] : List (Str × Value)).length) S I3 f3 hlt3 old hns₁
  have st4 : tn 0 h₁ := Tr.keep _ _ _ st3 fun b _ o e => old b o e
  have stat : ∀ {pn' : List (Addr × Obj)} {H' : Hp}, (∀ b ∈ fp, H' b = none) → (∀ b ∈ fp, ∀ p ∈ pn', p.1 ≠ b) → ∀ b ∈ fp, FpOk (blk X M scope s₃.heap.objs.size fp s₃ H₃) pn' H' b := fun {pn' H'} hn hp b hb =>
    ⟨hn b hb, Nat.ne_of_lt (hlt3 b hb), (blk_ok (M := M) S I3 f3 hlt3).exfs b hb, .inl hb, fun x c hx => (f3 b hb).2.2.2.2.1 x c (S.sub I.ok x c hx), fun p hp' => hp b hb p hp'⟩
  have loop : ∀ s₄ : Shared, s₄ = { s₃ with heap := h₁, toks := s₃.toks + ([] : List (Str × Value)).length } →
      codeAny (model X.prog X.w) X.A (.compLoop (.ListComp elt [⟨tg, iter, ifs, 0⟩] scope pos) 0 (.ref it) (.ref s₂.heap.objs.size) (compEnvC scope (clOf scope X.env) s₃.heap.objs.size X.env))
        (compPost (model X.prog X.w) X.A X.xe none (EP X pins σ Q) (.ref s₂.heap.objs.size) s₃.heap.objs.size) s₄ := by
    rintro s₄ rfl
    refine comp_loop (fun n s' => ∃ i ys σ' H', Inv (blk X M scope s₃.heap.objs.size fp s₃ H₃) [] σ' H' s' ∧ (∃ τ : St, σ' = σ ++ τ ∧ τ.length = M.length) ∧ tn i s'.heap ∧ (∀ b ∈ fp, H' b = none) ∧ W i n ys H') ?_ m0
      ⟨0, [], _, H₃, I4, ⟨_, rfl, List.length_replicate ..⟩, st4, fun b hb => (f3 b hb).1, w0⟩
    rintro n s5 ⟨i, ys, σ5, H5, I5, ⟨τ, rfl, hτ⟩, st5, fr5, w5⟩
    have I5' : Inv (blk X M scope s₃.heap.objs.size fp s₃ H₃) [] (σ ++ List.replicate M.length none) H5 s5 := by
      refine I5.weak (by rw [List.length_append, List.length_append, List.length_replicate, hτ]) fun j v e => ?_
      by_cases q : j < σ.length
      · rw [List.getElem?_append_left q] at e ⊢; exact e
      · rw [List.getElem?_append_right (by (first | lia | omega)), List.getElem?_replicate] at e
        split at e <;> cases e
    obtain ⟨hDl, hcase⟩ := turn i n ys H5 w5
    rcases hcase with ⟨stop, q⟩ | ⟨go, step⟩
    · refine thn (Tr.done (blk X M scope s₃.heap.objs.size fp s₃ H₃) rfl rfl rfl hc i [] s5 _ H5 _ I5' (stat fr5 (fun _ _ _ z => (nomatch z))) st5 stop) fun r s6 ⟨hr, I6⟩ => ?_
      subst hr
      obtain ⟨m6, hn6, _⟩ := I6.loc
      exact ⟨m6, hn6, fun h' hsb => ⟨.ref s₂.heap.objs.size, H5, blk_out I3 f3 I6 hsb, rfl, q⟩⟩
    · refine thn (Tr.item (blk X M scope s₃.heap.objs.size fp s₃ H₃) rfl rfl rfl hc i [] s5 _ H5 _ I5' (stat fr5 (fun _ _ _ z => (nomatch z))) st5 go) fun r s6 ⟨u, hr, h6⟩ => ?_
      subst hr
      refine thn h6 fun _ s7 ⟨x, H7, I7, r7, y7, st7, fr7⟩ => ?_
      have I7' := I7.pinned (stat fr7 (fun _ _ _ z => (nomatch z))) (Tr.obj _ _ st7)
      refine thn (hg _ _ _ _ _ s7 _ H7 x u _ I7' r7 (step x H7 y7 _ _ _ _)) fun _ s8 ⟨σ8, H8, I8, ⟨τ8, e8, l8⟩, q8⟩ => ?_
      subst e8
      have again : ∀ {ys' : List V} {H9 : Hp} {s9 : Shared}, Inv (blk X M scope s₃.heap.objs.size fp s₃ H₃) ([] ++ pinsAt fp s7.heap) (σ ++ τ8) H9 s9 → (∃ m', m' < n ∧ W (i + 1) m' ys' H9) →
          ∃ m, m < n ∧ ∃ i ys σ' H', Inv (blk X M scope s₃.heap.objs.size fp s₃ H₃) [] σ' H' s9 ∧ (∃ τ : St, σ' = σ ++ τ ∧ τ.length = M.length) ∧ tn i s9.heap ∧ (∀ b ∈ fp, H' b = none) ∧ W i m ys H' := fun {ys' H9 s9} I9 ⟨m', hm, w9⟩ => by
        refine ⟨m', hm, i + 1, ys', _, H9, I9.unpinned, ⟨τ8, rfl, l8⟩, Tr.keep _ _ _ st7 fun b hb o e => (I9.pin (b, o) (List.mem_append_right _ (List.mem_append_right _ (mem_pinsAt hb e)))).1, fun b hb => ?_, w9⟩
        obtain ⟨o, e, d⟩ := Tr.obj _ _ st7 b hb
        exact (I9.pin (b, o) (List.mem_append_right _ (List.mem_append_right _ (mem_pinsAt hb e)))).2.1
      refine thn (ht _ _ _ _ _ s8 _ H8 _ I8 q8) fun ok s9 ⟨H9, I9, q9⟩ => ?_
      cases ok with
      | false =>
        rw [if_neg Bool.false_ne_true] at q9 ⊢
        exact again I9 q9
      | true =>
        rw [if_pos rfl] at q9 ⊢
        refine thn (he _ _ _ _ _ s9 _ H9 _ I9 q9) fun v s10 ⟨y, H10, I10, r10, hD10, hsz, q10⟩ => ?_
        refine thn (mt_append _ s10 _ H10 (.ref s₂.heap.objs.size) [y] _ [v] (fun v' H' => v' = .non ∧ H' = upd H10 s₂.heap.objs.size (.lst (ys ++ [y]))) I10 rfl (.cons r10 .nil) ⟨_, ys, y, rfl, rfl, hD10, hsz, rfl, rfl⟩) fun _ s11 ⟨_, H11, I11, _, _, e11⟩ => ?_
        subst e11
        exact again I11 q10
  exact codeAny_compStart_list (loop _ rfl) (Tr.self _ 0 _ _ _ st4 (loop _ rfl))
end
end L2

set_option Elab.async false
set_option linter.all false
set_option maxRecDepth 100000
namespace L2
open PySem PySem.Spec PyProof.Rows

/-! ### lists made of another thing's items, by a plain function -/
theorem set_end {σ : St} {n : Nat} (hn : n = σ.length) (x : V) : (σ ++ List.replicate 1 none).set n (some x) = σ ++ [some x] := by
  subst hn
  rw [List.set_append_right _ _ (Nat.le_refl _), Nat.sub_self]
  rfl
theorem same_upd {H1 H4 : Hp} {D : Addr} {o : HO} (hD : H1 D = none) (s : Same H1 H4) : Same H1 (upd H4 D o) := fun b u e => by
  rw [upd_ne (ne_of_none e hD)]
  exact s b u e
/-- the reading of [te for x in J], J yielding xs, te worth f x and leaving all that was tracked as it was -/
theorem comp_it {J : It} {xs : List V} {n : Nat} {te : BK TE} {σ : St} {H1 : Hp} {Q : VK} (f : V → V) (hn : n = σ.length) (hsz : xs.length ≤ sizeLine)
    (hgo : ∀ i H2, Same H1 H2 → i < xs.length → J.go i H2 ∧ ∀ x H3, J.yld i H2 x H3 → H3 = H2 ∧ xs[i]? = some x) (hst : ∀ H2, Same H1 H2 → J.stop xs.length H2)
    (hel : ∀ C fp s₀ H₀ (i : Nat) x, xs[i]? = some x → ∀ H3 (R : VK), Same H1 H3 → (∀ H4, Same H3 H4 → R (f x) H4) → te C fp s₀ H₀ (σ ++ [some x]) H3 R)
    (hq : ∀ D H', H1 D = none → Same H1 H' → H' D = some (.lst (xs.map f)) → Q (.ref D) H') :
    CompIn 1 J (fun _ _ _ _ => gName n) (fun _ _ _ _ => tTrue) te σ H1 Q := by
  unfold CompIn
  intro D hD
  refine ⟨fun i m ys H2 => m = xs.length - i ∧ i ≤ xs.length ∧ ys = (xs.take i).map f ∧ Same H1 H2 ∧ H2 D = some (.lst ys), ⟨xs.length, by simp, Nat.zero_le _, by simp, same_upd hD (Same.refl _), upd_same⟩, ?_⟩
  rintro i m ys H2 ⟨rfl, hi, rfl, s2, hDl⟩
  refine ⟨hDl, ?_⟩
  by_cases hlt : i < xs.length
  · refine .inr ⟨(hgo i H2 s2 hlt).1, fun x H3 y C fp s₀ H₀ => ?_⟩
    obtain ⟨rfl, hx⟩ := (hgo i H2 s2 hlt).2 x H3 y
    refine ⟨⟨[some x], set_end hn x, rfl⟩, ?_⟩
    rw [set_end hn]
    unfold tTrue
    dsimp only
    rw [if_pos rfl]
    refine hel C fp s₀ H₀ i x hx H3 _ s2 fun H4 s4 => ⟨s4 D _ hDl, ?_, xs.length - (i + 1), by (first | lia | omega), rfl, hlt, ?_, same_upd hD (s2.trans s4), upd_same⟩
    · rw [List.length_map, List.length_take]
      (first | lia | omega)
    · rw [List.take_add_one, hx, List.map_append]
      rfl
  · have e : i = xs.length := by (first | lia | omega)
    subst e
    refine .inl ⟨hst H2 s2, hq D H2 hD s2 ?_⟩
    rw [hDl, List.take_of_length_le (Nat.le_refl _)]
theorem comp_list {K : PySem.W.Frag} {a : Addr} {xs : List V} {n : Nat} {te : BK TE} {σ : St} {H1 : Hp} {Q : VK} (f : V → V) (hn : n = σ.length) (hsz : xs.length ≤ sizeLine) (hl : SqL K H1 a xs)
    (hel : ∀ C fp s₀ H₀ (i : Nat) x, xs[i]? = some x → ∀ H3 (R : VK), Same H1 H3 → (∀ H4, Same H3 H4 → R (f x) H4) → te C fp s₀ H₀ (σ ++ [some x]) H3 R)
    (hq : ∀ D H', H1 D = none → Same H1 H' → H' D = some (.lst (xs.map f)) → Q (.ref D) H') :
    CompIn 1 (Itl K a) (fun _ _ _ _ => gName n) (fun _ _ _ _ => tTrue) te σ H1 Q :=
  comp_it f hn hsz (fun i H2 s2 hi => ⟨⟨xs, xs[i], s2.seq hl, by simp [hi]⟩, fun x H3 y => ⟨y.1, y.2 xs (s2.seq hl)⟩⟩) (fun H2 s2 => ⟨xs, s2.seq hl, Nat.le_refl _⟩) hel hq

/-! ### methods of texts -/
section
variable {X : Cx}
def cntL (c : Nat) : List Nat → Nat
  | [] => 0
  | d :: r => (if d = c then 1 else 0) + cntL c r
theorem cnt_cntL (c : Nat) : ∀ l : List Nat, PyProof.Rows.cnt c l = (cntL c l : Int)
  | [] => rfl
  | d :: r => by
    rw [PyProof.Rows.cnt_cons, cnt_cntL c r]
    show _ = (((if d = c then 1 else 0) + cntL c r : Nat) : Int)
    by_cases h : d = c
    · rw [if_pos h, if_pos h]
      (first | lia | omega)
    · rw [if_neg h, if_neg h]
      (first | lia | omega)
theorem mt_count : MtR X "str.count" (fun x xs H Q => ∃ l c, x = .str (T l) ∧ xs = [.str (T [c])] ∧ Q (.int (cntL c l)) H) := by
  intro pins s σ H x xs v us Q I rx r h
  obtain ⟨l, c, rfl, rfl, q⟩ := h
  obtain ⟨t, rfl⟩ := (show ∃ t, v = Value.str (T l) t from rx)
  obtain ⟨u, rfl, ru⟩ := vals1 r
  obtain ⟨t', rfl⟩ := (show ∃ t, u = Value.str (T [c]) t from ru)
  refine SC.count ?_
  have e : Txt.count (T l) (T [c]) = (cntL c l : Int) := (PyProof.Rows.count_cnt (T l) c).trans (cnt_cntL c l)
  rw [e]
  exact ⟨.int (cntL c l), H, I.tok _, ⟨_, rfl⟩, q⟩
theorem strs_of : ∀ {ls : List (List Nat)} {us : List Value}, Vals (ls.map fun l => V.str (T l)) us → StrsAre us (ls.map T)
  | [], _, r => by rw [List.map_nil] at r; cases r; exact .nil
  | l :: ls, _, r => by
    rw [List.map_cons] at r
    cases r with
    | cons h t =>
      obtain ⟨tk, rfl⟩ := h
      exact .cons _ _ (strs_of t)
theorem join_T : ∀ ls : List (List Nat), Str.join (T []) (ls.map T) = T ls.flatten
  | [] => rfl
  | [l] => by
    show T l = T (l ++ [])
    rw [List.append_nil]
  | l :: m :: r => by
    have ih := join_T (m :: r)
    show T l ++ T [] ++ Str.join (T []) ((m :: r).map T) = _
    rw [ih, T_app, T_app, List.append_nil]
    rfl
theorem sum_T (ls : List (List Nat)) : ((ls.map T).map (·.length)).sum = ls.flatten.length := by
  induction ls with
  | nil => rfl
  | cons l r ih =>
    rw [List.map_cons, List.map_cons, List.sum_cons, ih, T_len, List.flatten_cons, List.length_append]
/-- ''.join(a list of texts) -/
theorem mt_join : MtR X "str.join" (fun x xs H Q => ∃ (p : Addr) (ls : List (List Nat)), x = .str (T []) ∧ xs = [.ref p] ∧ SqL X.K H p (ls.map fun l => V.str (T l)) ∧ ls.flatten.length ≤ 1000000 ∧ Q (.str (T ls.flatten)) H) := by
  intro pins s σ H x xs v us Q I rx r h
  obtain ⟨p, ls, rfl, rfl, hS, hz, q⟩ := h
  obtain ⟨t, rfl⟩ := (show ∃ t, v = Value.str (T []) t from rx)
  obtain ⟨u, rfl, ru⟩ := vals1 r
  cases (show u = Value.ref p from ru)
  obtain ⟨its, rv, pl, _⟩ := I.list hS
  refine join_list pl.isList (ys := ls.map T) (by simpa using strs_of rv) ?_ fun t' k => ?_
  · rw [sum_T]
    have e : (T []).length = 0 := T_len []
    rw [e, Nat.mul_zero]
    (first | lia | omega)
  · have e : Txt.join (T []) (ls.map T) = T ls.flatten := (StrLaws.glued_eq_join _ _).trans (join_T ls)
    rw [e]
    exact ⟨.str (T ls.flatten), H, I.tok _, ⟨_, rfl⟩, q⟩
theorem flat_one (cs : List Nat) : (cs.map fun c => [c]).flatten = cs := by
  induction cs with
  | nil => rfl
  | cons c r ih => rw [List.map_cons, List.flatten_cons, ih]; rfl

/-! ### isinstance(x, T), T a built-in type -/
theorem call_isT : CallR X (.builtin "isinstance") (fun xs H Q => ∃ x C t b, xs = [x, .ty C] ∧ TyOf X.K H x t ∧ PySem.W.kitOne X.K t (.type C) = some b ∧ Q (.bl b) H) := by
  intro pins s σ H xs us Q I r h
  obtain ⟨x, C, t, b, rfl, ty, e, q⟩ := h
  obtain ⟨u, w', rfl, ru, rw'⟩ := vals2 r
  cases (show w' = Value.type C from rw')
  exact isinst_ok I ru ty e fun tk => ⟨.bl b, H, I.tok tk, rfl, q⟩

/-! ### text slices -/
theorem pick_nat (l : List Nat) (a : Nat) : ∀ k : Nat, (List.range k).filterMap (fun m => l[a + m]?) = (l.drop a).take k
  | 0 => by simp
  | k + 1 => by
    rw [List.range_succ, List.filterMap_append, pick_nat l a k, List.take_add_one, List.getElem?_drop]
    congr 1 <;> (cases l[a + k]? <;> rfl)
def cutL (l : List Nat) (lo hi : Option Int) : List Nat := (l.drop (HT.sIx l.length 0 lo)).take (HT.sIx l.length l.length hi - HT.sIx l.length 0 lo)
theorem cutL_length (l : List Nat) (lo hi : Option Int) : (cutL l lo hi).length ≤ l.length := by
  unfold cutL
  rw [List.length_take, List.length_drop]
  (first | lia | omega)
def clipS (n d : Nat) : Option Int → Int
  | none => (d : Int)
  | some i => max 0 (min (if i < 0 then i + (n : Int) else i) (n : Int))
theorem clip_str (o : Option Int) (n d : Nat) : clipS n d o = ((HT.sIx n d o : Nat) : Int) := by
  cases o with
  | none => rfl
  | some i =>
    show max 0 (min (if i < 0 then i + (n : Int) else i) (n : Int)) = ((if i < 0 then (i + (n : Int)).toNat else min i.toNat n : Nat) : Int)
    by_cases h : i < 0
    · rw [if_pos h, if_pos h]
      (first | lia | omega)
    · rw [if_neg h, if_neg h]
      (first | lia | omega)
theorem indices_str (lo hi : Option Int) (n : Nat) : Builtin.Str.strSliceIndices lo hi 1 n = (List.range (HT.sIx n n hi - HT.sIx n 0 lo)).map fun k => HT.sIx n 0 lo + k := by
  have step : ∀ a b : Nat, sliceRange (a : Int) (b : Int) 1 = (List.range (b - a)).map fun k => a + k := by
    intro a b
    unfold sliceRange
    simp only [show (1 : Int) > 0 by decide, if_true]
    have ec : (if (a : Int) < (b : Int) then ((b : Int) - (a : Int) + 1 - 1) / 1 else 0).toNat = b - a := by
      split
      · rw [Int.ediv_one]
        (first | lia | omega)
      · (first | lia | omega)
    rw [ec]
    refine List.map_congr_left fun k _ => ?_
    (first | lia | omega)
  rw [← step, ← clip_str, ← clip_str]
  unfold Builtin.Str.strSliceIndices
  simp only [show (1 : Int) > 0 by decide, if_true]
  cases lo <;> cases hi <;> rfl
theorem slice_T (l : List Nat) (lo hi : Option Int) : Txt.slice (T l) lo hi = T (cutL l lo hi) := by
  unfold Txt.slice
  have hl : (T l).length = l.length := T_len l
  have pick : ((Builtin.Str.strSliceIndices lo hi 1 (T l).length).filterMap ((T l).cps[·]?)) = cutL l lo hi := by
    rw [hl, indices_str, List.filterMap_map]
    have e : ((fun i : Nat => (T l).cps[i]?) ∘ fun k => HT.sIx l.length 0 lo + k) = fun k => l[HT.sIx l.length 0 lo + k]? := by
      funext k
      show l.toArray[HT.sIx l.length 0 lo + k]? = l[HT.sIx l.length 0 lo + k]?
      simp
    rw [e, pick_nat]
    rfl
  by_cases hc : ((1 : Int) == 1 && (Builtin.Str.strSliceIndices lo hi 1 (T l).length).length == (T l).length) = true
  · rw [if_pos hc]
    have hn : (Builtin.Str.strSliceIndices lo hi 1 (T l).length).length = (T l).length := by
      rw [Bool.and_eq_true] at hc
      exact eq_of_beq hc.2
    rw [hl, indices_str, List.length_map, List.length_range] at hn
    have h1 : HT.sIx l.length l.length hi ≤ l.length := HT.sIx_le _ _ (Nat.le_refl _) _
    have h2 : HT.sIx l.length 0 lo = 0 ∨ l.length = 0 := by (first | lia | omega)
    unfold cutL
    rw [hn]
    rcases h2 with h2 | h2
    · rw [h2, List.drop_zero, List.take_of_length_le (Nat.le_refl _)]
    · have : l = [] := List.length_eq_zero_iff.mp h2
      subst this
      rfl
  · rw [if_neg hc, pick]
    rfl
theorem sl_str : SlR X (fun x lo hi H Q => ∃ l, x = .str (T l) ∧ l.length ≤ sizeLine ∧ Q (.str (T (cutL l lo hi))) H) := by
  intro pins s σ H x v vl vu lo hi sl Q I rx hs pl pu h
  obtain ⟨l, rfl, hz, q⟩ := h
  obtain ⟨t, rfl⟩ := (show ∃ t, v = Value.str (T l) t from rx)
  refine ⟨"str", _, F.slot_str_getitem.lookup, typeIs_str _ _ _, ?_⟩
  have fin : ∀ t' k, EP X pins σ Q (.str (Txt.slice (T l) lo hi) t') { s with toks := k } := fun t' k => by
    rw [slice_T]
    exact ⟨.str (T (cutL l lo hi)), H, I.tok k, ⟨_, rfl⟩, q⟩
  have hz' : (Txt.slice (T l) lo hi).length ≤ sizeLine := Nat.le_trans (Txt.slice_le _ _ _) (by rw [T_len]; exact hz)
  cases pl with
  | none =>
    cases pu with
    | none => exact wpAny_getItem_str_slice (l := none) (u := none) (st := none) hs rfl (post_val_or_str ⟨hz', fin⟩)
    | int j uj => exact wpAny_getItem_str_slice (l := none) (u := some (j, uj)) (st := none) hs rfl (post_val_or_str ⟨hz', fin⟩)
  | int i ui =>
    cases pu with
    | none => exact wpAny_getItem_str_slice (l := some (i, ui)) (u := none) (st := none) hs rfl (post_val_or_str ⟨hz', fin⟩)
    | int j uj => exact wpAny_getItem_str_slice (l := some (i, ui)) (u := some (j, uj)) (st := none) hs rfl (post_val_or_str ⟨hz', fin⟩)

/-! ### x[::-1] of a text -/
theorem filterMap_some {α β : Type} {f : α → Option β} {g : α → β} : ∀ {l : List α}, (∀ x ∈ l, f x = some (g x)) → l.filterMap f = l.map g
  | [], _ => rfl
  | x :: r, h => by
    rw [List.filterMap_cons, h x List.mem_cons_self, List.map_cons, filterMap_some fun y hy => h y (List.mem_cons_of_mem _ hy)]

/-! ### one sign, so many times -/
theorem rep_one (c : Nat) : ∀ k : Nat, (List.replicate k (#[c] : Array Nat)).foldl (· ++ ·) #[] = (List.replicate k c).toArray := by
  have key : ∀ (k : Nat) (acc : Array Nat), (List.replicate k (#[c] : Array Nat)).foldl (· ++ ·) acc = acc ++ (List.replicate k c).toArray := by
    intro k
    induction k with
    | zero => intro acc; simp
    | succ k ih =>
      intro acc
      rw [List.replicate_succ, List.foldl_cons, ih]
      refine Array.ext' ?_
      simp [List.replicate_succ]
  intro k
  rw [key]
  simp
theorem op_rep_sign : OpR X (binaryOp .Mult) (fun x y H Q => ∃ c k, x = .str (T [c]) ∧ y = .int k ∧ 0 ≤ k ∧ k ≤ 100000 ∧ Q (.str (T (List.replicate k.toNat c))) H) := by
  intro pins s σ H x y v u Q I rx ry h
  obtain ⟨c, k, rfl, rfl, h0, h1, q⟩ := h
  obtain ⟨t, rfl⟩ := (show ∃ t, v = Value.str (T [c]) t from rx)
  obtain ⟨tk, rfl⟩ := (show ∃ t, u = Value.int k t from ry)
  have hl : (T [c]).length = 1 := T_len [c]
  refine PySem.P.mul_str ?_ (fun hk _ => ?_) (fun hk _ => ?_) ?_
  · rw [decide_eq_false (by (first | lia | omega)), decide_eq_false (by (first | lia | omega))]
    rfl
  · rw [hl]
    have : (1 : Int) ≤ (2 ^ 63 - 1) / k := by
      rw [Int.le_ediv_iff_mul_le (by (first | lia | omega))]
      (first | lia | omega)
    (first | lia | omega)
  · rw [hl]
    unfold Builtin.Str.tooLong sizeLine
    refine decide_eq_false ?_
    have e : (2 : Nat) ^ 24 = 16777216 := by decide
    (first | lia | omega)
  · by_cases hk : k < 1
    · rw [if_pos hk]
      have e : k = 0 := by (first | lia | omega)
      subst e
      exact ⟨by decide, .str (T []), H, I.tok _, ⟨_, rfl⟩, q⟩
    · rw [if_neg hk]
      by_cases h2 : (k == 1 || (T [c]).length == 0) = true
      · rw [if_pos h2]
        have e : k = 1 := by
          rw [hl, Bool.or_eq_true] at h2
          rcases h2 with h2 | h2
          · exact eq_of_beq h2
          · exact absurd (eq_of_beq h2) (by decide)
        subst e
        exact ⟨.str (T [c]), H, I, ⟨_, rfl⟩, q⟩
      · rw [if_neg h2]
        have e : (⟨(List.replicate k.toNat (T [c]).cps).foldl (· ++ ·) #[]⟩ : Str) = T (List.replicate k.toNat c) := congrArg Str.mk (rep_one c k.toNat)
        rw [e]
        refine ⟨?_, .str (T (List.replicate k.toNat c)), H, I.tok _, ⟨_, rfl⟩, q⟩
        rw [T_len, List.length_replicate]
        have e : sizeLine = 16777216 := PySem.sizeLine_eq
        (first | lia | omega)

/-! ### sum of ints; all, any of bools -/
theorem call_sum (hc : X.calm = true) : CallR X (.builtin "sum") (fun xs H Q => ∃ (p : Addr) (ns : List Int), xs = [.ref p] ∧ SqL X.K H p (ns.map V.int) ∧ Q (.int ns.sum) H) := by
  intro pins s σ H xs us Q I r h
  obtain ⟨p, ns, rfl, hS, q⟩ := h
  obtain ⟨u, rfl, ru⟩ := vals1 r
  cases (show u = Value.ref p from ru)
  obtain ⟨its, rv, pl, _⟩ := I.list hS
  have hi := intsAre_of rv
  have hall := hi.allInts
  obtain ⟨xs, e⟩ := hall.items
  have hl := pl.isList
  rw [e] at hl
  have es : preSum (numAt xs) xs.size = ns.sum := by
    have e1 := nums_intItems (xs := xs)
    have e2 : numsOf its = ns := hi.numsOf
    have e3 : its.toArray.toList = its := rfl
    rw [← e2, ← e3, e, e1, preSum_eq, List.take_of_length_le (by simp)]
  refine sum_intListG (I.ok.hd hc) hl fun h' tk t' hk => ?_
  rw [es]
  exact ⟨.int ns.sum, H, I.kept hk, ⟨_, rfl⟩, q⟩
theorem bools_at {bs : List Bool} {its : List Value} (r : Vals (bs.map V.bl) its) {i : Nat} {v : Value} (h : its.toArray[i]? = some v) : v = .bool (bs.getD i false) := by
  have h' : its[i]? = some v := by simpa using h
  have hl := r.length
  rw [List.length_map] at hl
  have hi : i < bs.length := by rw [hl]; exact (List.getElem?_eq_some_iff.mp h').1
  have e1 : (bs.map V.bl)[i]? = some (.bl bs[i]) := by rw [List.getElem?_map, List.getElem?_eq_getElem hi]; rfl
  obtain ⟨u, hu, ru⟩ := r.get e1
  rw [h'] at hu
  cases hu
  have e2 : v = Value.bool bs[i] := ru
  rw [e2, List.getD_eq_getElem?_getD, List.getElem?_eq_getElem hi]
  rfl
theorem all_range (bs : List Bool) : (List.range bs.length).all (fun i => bs.getD i false) = bs.all id := by
  rw [Bool.eq_iff_iff, List.all_eq_true, List.all_eq_true]
  constructor
  · intro h b hb
    obtain ⟨i, hi, rfl⟩ := List.mem_iff_getElem.mp hb
    have := h i (List.mem_range.mpr hi)
    rw [List.getD_eq_getElem?_getD, List.getElem?_eq_getElem hi] at this
    exact this
  · intro h i hi
    have hi := List.mem_range.mp hi
    rw [List.getD_eq_getElem?_getD, List.getElem?_eq_getElem hi]
    exact h _ (List.getElem_mem hi)
theorem truth_bool {P : Program} {w : World} {A : Around} {its : List Value} {bs : List Bool} (r : Vals (bs.map V.bl) its) : TruthOf P w A (fun i v => its.toArray[i]? = some v) (fun i => bs.getD i false) := by
  intro i v s Q E h q
  rw [bools_at r h]
  exact wpAny_truthy_bool q
theorem call_all (hc : X.calm = true) : CallR X (.builtin "all") (fun xs H Q => ∃ (p : Addr) (bs : List Bool), xs = [.ref p] ∧ SqL X.K H p (bs.map V.bl) ∧ Q (.bl (bs.all id)) H) := by
  intro pins s σ H xs us Q I r h
  obtain ⟨p, bs, rfl, hS, q⟩ := h
  obtain ⟨u, rfl, ru⟩ := vals1 r
  cases (show u = Value.ref p from ru)
  obtain ⟨its, rv, pl, _⟩ := I.list hS
  have hl := pl.isList
  have hlt : p < s.heap.objs.size := by obtain ⟨_, e, _⟩ := hl; exact Heap.lt_size e
  refine call_all_walk (wpAny_pyIter_list hl ?_)
  refine ⟨_, _, _, _, _, _, _, rfl, Walks.list (A := X.A.in1) (I.ok.hd hc) _ p (Nat.ne_of_lt hlt) its.toArray, ⟨⟨_, Heap.get?_push_size _ rfl, rfl, rfl⟩, hl.push _⟩, truth_bool rv, fun h' tk hk => ?_⟩
  have e : its.toArray.size = bs.length := by have := rv.length; rw [List.length_map] at this; simp [this]
  rw [e, all_range]
  have nb : ∀ b o, s.heap.get? b = some o → ¬ b ∈ [s.heap.objs.size] := fun b o eb z => by
    have e2 : b = s.heap.objs.size := by simpa using z
    exact absurd (Heap.lt_size eb) (by rw [e2]; exact Nat.lt_irrefl _)
  exact ⟨.bl (bs.all id), H, I.kept fun b o eb => hk b o (nb b o eb) (Heap.get?_push_of_some _ eb), rfl, q⟩

/-! ### == and != of nested data -/
mutual
inductive DatV (K : PySem.W.Frag) (H : Hp) : V → PyData → Prop
  | int (i : Int) : DatV K H (.int i) (.int i)
  | str (x : Str) : DatV K H (.str x) (.str x)
  | non : DatV K H .non .none
  | tup {a : Addr} {xs : List V} {ds : List PyData} (h : SqT K H a xs) (hd : DatVs K H xs ds) : DatV K H (.ref a) (.tuple ds)
  | lst {a : Addr} {xs : List V} {ds : List PyData} (h : SqL K H a xs) (hd : DatVs K H xs ds) : DatV K H (.ref a) (.list ds)
inductive DatVs (K : PySem.W.Frag) (H : Hp) : List V → List PyData → Prop
  | nil : DatVs K H [] []
  | cons {x : V} {xs : List V} {d : PyData} {ds : List PyData} (h : DatV K H x d) (t : DatVs K H xs ds) : DatVs K H (x :: xs) (d :: ds)
end
mutual
theorem dat_reads {pins : List (Addr × Obj)} {σ : St} {H : Hp} {s : Shared} (I : Inv X pins σ H s) : ∀ {x : V} {d : PyData} {u : Value}, DatV X.K H x d → RelV x u → ∃ as, Reads s.heap u d as
  | _, _, u, .int i, r => by
    obtain ⟨t, rfl⟩ := (show ∃ t, u = Value.int i t from r)
    exact ⟨_, .int i t⟩
  | _, _, u, .str x, r => by
    obtain ⟨t, rfl⟩ := (show ∃ t, u = Value.str x t from r)
    exact ⟨_, .str x t⟩
  | _, _, u, .non, r => by
    cases (show u = Value.none from r)
    exact ⟨_, .none⟩
  | _, _, u, @DatV.tup _ _ a xs ds h hd, r => by
    cases (show u = Value.ref a from r)
    obtain ⟨its, rv, ⟨o, ho, hc, n, hdd⟩, _⟩ := I.tuple h
    obtain ⟨as, q⟩ := dat_readsAll I hd rv
    exact ⟨as, reads_tuple_at ho hc hdd (by simpa using q)⟩
  | _, _, u, @DatV.lst _ _ a xs ds h hd, r => by
    cases (show u = Value.ref a from r)
    obtain ⟨its, rv, pl, _⟩ := I.list h
    obtain ⟨o, ho, hc, n, hdd⟩ := pl.isList
    obtain ⟨as, q⟩ := dat_readsAll I hd rv
    exact ⟨_, reads_list_at ho hc hdd (by simpa using q)⟩
theorem dat_readsAll {pins : List (Addr × Obj)} {σ : St} {H : Hp} {s : Shared} (I : Inv X pins σ H s) : ∀ {xs : List V} {ds : List PyData} {us : List Value}, DatVs X.K H xs ds → Vals xs us → ∃ as, ReadsAll s.heap us ds as
  | _, _, _, .nil, r => by
    cases r
    exact ⟨_, .nil⟩
  | _, _, _, .cons h t, r => by
    cases r with
    | cons r1 r2 =>
      obtain ⟨as, q1⟩ := dat_reads I h r1
      obtain ⟨bs, q2⟩ := dat_readsAll I t r2
      exact ⟨_, .cons q1 q2⟩
end
theorem op_eqD (hu : X.A.units + 64 < cLine) : OpR X (compareOp .Eq) (fun x y H Q => ∃ d e, DatV X.K H x d ∧ DatV X.K H y e ∧ SeqAt.shaped d = true ∧ SeqAt.shaped e = true ∧ Q (.bl (PyData.eqv d e)) H) := by
  intro pins s σ H x y v u Q I rx ry h
  obtain ⟨d, e, hx, hy, sd, se, q⟩ := h
  obtain ⟨as, r1⟩ := dat_reads I hx rx
  obtain ⟨bs, r2⟩ := dat_reads I hy ry
  exact eq_dataH r1 r2 sd se hu ⟨.bl _, H, I, rfl, q⟩
theorem op_neD (hu : X.A.units + 64 < cLine) : OpR X (compareOp .NotEq) (fun x y H Q => ∃ d e, DatV X.K H x d ∧ DatV X.K H y e ∧ SeqAt.shaped d = true ∧ SeqAt.shaped e = true ∧ Q (.bl (!PyData.eqv d e)) H) := by
  intro pins s σ H x y v u Q I rx ry h
  obtain ⟨d, e, hx, hy, sd, se, q⟩ := h
  obtain ⟨as, r1⟩ := dat_reads I hx rx
  obtain ⟨bs, r2⟩ := dat_reads I hy ry
  exact ne_dataH r1 r2 sd se hu ⟨.bl _, H, I, rfl, q⟩
end
end L2

set_option Elab.async false
set_option linter.all false
set_option maxRecDepth 100000
namespace PySem
namespace F
end F
section
variable {prog : Program} {w : World} {A : Around} {E : Value → Shared → Prop} {s : Shared}
end
end PySem

set_option Elab.async false
set_option linter.all false
set_option maxRecDepth 100000
namespace L2
open PySem PySem.Spec PyProof.Rows
end L2

set_option Elab.async false
set_option linter.all false
set_option maxRecDepth 100000
namespace L2
open PySem PySem.Spec PyProof.Rows
/-! ### a dict of the module's, its keys texts, read -/
section
variable {X : Cx} {o i : Expr} {pos : Pos} {td ty : TE}
end
end L2

namespace WM
/-! Walks as lists of codes: n 110, w 119, s 115, e 101. Plain mathematics, no library. -/
def Lt (c : Nat) : Prop := c = 110 ∨ c = 119 ∨ c = 115 ∨ c = 101
def IsW (l : List Nat) : Prop := ∀ c ∈ l, Lt c
theorem isW_nil : IsW [] := fun _ h => nomatch h
theorem isW_cons {c : Nat} {l : List Nat} : IsW (c :: l) ↔ Lt c ∧ IsW l := by
  constructor
  · intro h
    exact ⟨h c List.mem_cons_self, fun d hd => h d (List.mem_cons_of_mem _ hd)⟩
  · rintro ⟨h1, h2⟩ d hd
    rcases List.mem_cons.mp hd with rfl | hd
    · exact h1
    · exact h2 d hd
theorem isW_append {a b : List Nat} : IsW (a ++ b) ↔ IsW a ∧ IsW b := by
  constructor
  · intro h
    exact ⟨fun c hc => h c (List.mem_append_left _ hc), fun c hc => h c (List.mem_append_right _ hc)⟩
  · rintro ⟨h1, h2⟩ c hc
    rcases List.mem_append.mp hc with h | h
    · exact h1 c h
    · exact h2 c h
theorem isW_replicate {n c : Nat} (h : Lt c) : IsW (List.replicate n c) := by
  intro d hd
  rw [(List.mem_replicate.mp hd).2]
  exact h

/-! ### places -/
abbrev Pt := Int × Int
def stepP (p : Pt) (c : Nat) : Pt :=
  if c = 110 then (p.1, p.2 + 1) else if c = 101 then (p.1 + 1, p.2) else if c = 115 then (p.1, p.2 - 1) else (p.1 - 1, p.2)
def goP (p : Pt) (l : List Nat) : Pt := l.foldl stepP p
def posOf (l : List Nat) : Pt := goP (0, 0) l
/-- where the walk is at each moment, from p on -/
def placesP : Pt → List Nat → List Pt
  | p, [] => [p]
  | p, c :: r => p :: placesP (stepP p c) r
def plOf (l : List Nat) : List Pt := placesP (0, 0) l
theorem goP_append (p : Pt) (a b : List Nat) : goP p (a ++ b) = goP (goP p a) b := List.foldl_append
theorem goP_snoc (p : Pt) (l : List Nat) (c : Nat) : goP p (l ++ [c]) = stepP (goP p l) c := by
  rw [goP_append]
  rfl
theorem placesP_snoc : ∀ (l : List Nat) (p : Pt) (c : Nat), placesP p (l ++ [c]) = placesP p l ++ [stepP (goP p l) c]
  | [], p, c => rfl
  | d :: r, p, c => by
    show p :: placesP (stepP p d) (r ++ [c]) = p :: placesP (stepP p d) r ++ [stepP (goP (stepP p d) r) c]
    rw [placesP_snoc r]
    rfl
theorem placesP_length : ∀ (l : List Nat) (p : Pt), (placesP p l).length = l.length + 1
  | [], _ => rfl
  | c :: r, p => by
    show (placesP (stepP p c) r).length + 1 = r.length + 1 + 1
    rw [placesP_length r]
theorem placesP_last : ∀ (l : List Nat) (p : Pt), ∃ pre, placesP p l = pre ++ [goP p l]
  | [], p => ⟨[], rfl⟩
  | c :: r, p => by
    obtain ⟨pre, e⟩ := placesP_last r (stepP p c)
    exact ⟨p :: pre, by show p :: placesP (stepP p c) r = _; rw [e]; rfl⟩
/-- the step's vector -/
def vec (c : Nat) : Pt := if c = 110 then (0, 1) else if c = 101 then (1, 0) else if c = 115 then (0, -1) else (-1, 0)
theorem stepP_vec (p : Pt) (c : Nat) : stepP p c = (p.1 + (vec c).1, p.2 + (vec c).2) := by
  unfold stepP vec
  split
  · simp
  · split
    · simp
    · split
      · refine Prod.ext ?_ ?_
        · simp
        · show p.2 - 1 = p.2 + -1
          (first | lia | omega)
      · refine Prod.ext ?_ ?_
        · show p.1 - 1 = p.1 + -1
          (first | lia | omega)
        · simp
theorem goP_add : ∀ (l : List Nat) (p : Pt), goP p l = (p.1 + (posOf l).1, p.2 + (posOf l).2)
  | [], p => by
    show p = (p.1 + 0, p.2 + 0)
    simp
  | c :: r, p => by
    have h1 := goP_add r (stepP p c)
    have h2 := goP_add r (stepP (0, 0) c)
    have e1 : goP p (c :: r) = goP (stepP p c) r := rfl
    have e2 : posOf (c :: r) = goP (stepP (0, 0) c) r := rfl
    rw [e1, e2, h1, h2, stepP_vec, stepP_vec (0, 0)]
    refine Prod.ext ?_ ?_
    · show p.1 + (vec c).1 + (posOf r).1 = p.1 + (0 + (vec c).1 + (posOf r).1)
      (first | lia | omega)
    · show p.2 + (vec c).2 + (posOf r).2 = p.2 + (0 + (vec c).2 + (posOf r).2)
      (first | lia | omega)
theorem posOf_cons (c : Nat) (r : List Nat) : posOf (c :: r) = ((vec c).1 + (posOf r).1, (vec c).2 + (posOf r).2) := by
  have h := goP_add r (stepP (0, 0) c)
  have e2 : posOf (c :: r) = goP (stepP (0, 0) c) r := rfl
  rw [e2, h, stepP_vec]
  refine Prod.ext ?_ ?_
  · show 0 + (vec c).1 + (posOf r).1 = (vec c).1 + (posOf r).1
    (first | lia | omega)
  · show 0 + (vec c).2 + (posOf r).2 = (vec c).2 + (posOf r).2
    (first | lia | omega)
theorem posOf_append (a b : List Nat) : posOf (a ++ b) = ((posOf a).1 + (posOf b).1, (posOf a).2 + (posOf b).2) := by
  have e : posOf (a ++ b) = goP (posOf a) b := goP_append _ _ _
  rw [e, goP_add]

/-! ### counts -/
def cntC (c : Nat) : List Nat → Nat
  | [] => 0
  | d :: r => (if d = c then 1 else 0) + cntC c r
theorem cntC_cons (c d : Nat) (r : List Nat) : cntC c (d :: r) = (if d = c then 1 else 0) + cntC c r := rfl
theorem posOf_cnt : ∀ {l : List Nat}, IsW l → posOf l = ((cntC 101 l : Int) - (cntC 119 l : Int), (cntC 110 l : Int) - (cntC 115 l : Int))
  | [], _ => rfl
  | c :: r, h => by
    obtain ⟨h1, h2⟩ := isW_cons.mp h
    rw [posOf_cons, posOf_cnt h2, cntC_cons, cntC_cons, cntC_cons, cntC_cons]
    rcases h1 with rfl | rfl | rfl | rfl
    all_goals
      refine Prod.ext ?_ ?_
      · simp [vec]
        try (first | lia | omega)
      · simp [vec]
        try (first | lia | omega)

/-! ### turning -/
/-- the place of a letter in nwse -/
def ix (c : Nat) : Nat := if c = 110 then 0 else if c = 119 then 1 else if c = 115 then 2 else 3

/-! ### backwards, mirrored -/

/-! ### the way home -/
def alongL (x : Int) : List Nat := List.replicate x.natAbs (if 0 < x then 119 else 101)
def upL (y : Int) : List Nat := List.replicate y.natAbs (if 0 < y then 115 else 110)
theorem isW_alongL (x : Int) : IsW (alongL x) := by
  refine isW_replicate ?_
  split
  · exact .inr (.inl rfl)
  · exact .inr (.inr (.inr rfl))
theorem isW_upL (x : Int) : IsW (upL x) := by
  refine isW_replicate ?_
  split
  · exact .inr (.inr (.inl rfl))
  · exact .inl rfl
/-- the law's closed walk: b is «the sum is even» -/
def closedL (b : Bool) (l : List Nat) : List Nat :=
  if b = true then l ++ upL (posOf l).2 ++ alongL (posOf l).1 else l ++ alongL (posOf l).1 ++ upL (posOf l).2
theorem isW_closedL {b : Bool} {l : List Nat} (h : IsW l) : IsW (closedL b l) := by
  unfold closedL
  split
  · exact isW_append.mpr ⟨isW_append.mpr ⟨h, isW_upL _⟩, isW_alongL _⟩
  · exact isW_append.mpr ⟨isW_append.mpr ⟨h, isW_alongL _⟩, isW_upL _⟩
theorem posOf_bound : ∀ l : List Nat, (posOf l).1.natAbs + (posOf l).2.natAbs ≤ l.length
  | [] => by decide
  | c :: r => by
    have ih := posOf_bound r
    rw [posOf_cons, List.length_cons]
    have hv : (vec c).1.natAbs + (vec c).2.natAbs ≤ 1 := by
      unfold vec
      split
      · decide
      · split
        · decide
        · split <;> decide
    show ((vec c).1 + (posOf r).1).natAbs + ((vec c).2 + (posOf r).2).natAbs ≤ r.length + 1
    (first | lia | omega)
theorem closedL_length (b : Bool) (l : List Nat) : (closedL b l).length ≤ 2 * l.length := by
  have h := posOf_bound l
  unfold closedL alongL upL
  split <;> (simp only [List.length_append, List.length_replicate]; (first | lia | omega))

/-! ### begun elsewhere -/

/-! ### the law's own walk -/
/-- nesw -/
def lawC (k : Int) : Nat := if k % 4 = 0 then 110 else if k % 4 = 1 then 101 else if k % 4 = 2 then 115 else 119
def lawW (ns : List Int) : List Nat := ns.map lawC
theorem lt_lawC (k : Int) : Lt (lawC k) := by
  unfold lawC
  split
  · exact .inl rfl
  · split
    · exact .inr (.inr (.inr rfl))
    · split
      · exact .inr (.inr (.inl rfl))
      · exact .inr (.inl rfl)
theorem isW_lawW (ns : List Int) : IsW (lawW ns) := by
  intro c hc
  obtain ⟨k, _, rfl⟩ := List.mem_map.mp hc
  exact lt_lawC k
theorem lawW_length (ns : List Int) : (lawW ns).length = ns.length := List.length_map ..
end WM

set_option Elab.async false
set_option linter.all false
set_option maxRecDepth 100000
set_option maxHeartbeats 4000000
namespace SW
open PySem L2 WM
theorem lit_n : (Str.ofString "n") = T [110] := by decide +kernel
theorem lit_e : (Str.ofString "e") = T [101] := by decide +kernel
theorem lit_s : (Str.ofString "s") = T [115] := by decide +kernel
theorem lit_w : (Str.ofString "w") = T [119] := by decide +kernel
theorem lit_0 : (Str.ofString "") = T [] := by decide +kernel
theorem lit_nwse : (Str.ofString "nwse") = T [110, 119, 115, 101] := by decide +kernel
theorem lit_nesw : (Str.ofString "nesw") = T [110, 101, 115, 119] := by decide +kernel
theorem strT {l m : List Nat} : decide (V.str (T l) = V.str (T m)) = decide (l = m) := by
  by_cases h : l = m
  · subst h
    rw [decide_eq_true rfl, decide_eq_true rfl]
  · rw [decide_eq_false h, decide_eq_false fun z => h (T_inj (V.str.inj z))]
theorem occ_ix {c : Nat} (h : Lt c) : ∃ rest, Builtin.Str.occurrences (T [110, 119, 115, 101]) (T [c]) 0 (T [110, 119, 115, 101]).length 1 = ix c :: rest := by
  rcases h with rfl | rfl | rfl | rfl
  · exact ⟨[], by decide +kernel⟩
  · exact ⟨[], by decide +kernel⟩
  · exact ⟨[], by decide +kernel⟩
  · exact ⟨[], by decide +kernel⟩
theorem occ_in {c : Nat} (h : Lt c) : (Builtin.Str.occurrences (T [110, 119, 115, 101]) (T [c]) 0 (T [110, 119, 115, 101]).length 1).isEmpty = false := by
  obtain ⟨rest, e⟩ := occ_ix h
  rw [e]
  rfl

def compB (N : List Str) (fsc sc : Scope) : Bool :=
  decide (sc.kind = .function) && sc.names.all (fun y => decide (y.2 ≠ .cell)) && sc.names.all (fun y => decide (y.2 = .local → sc.names.lookup y.1 = some .local)) &&
    sc.names.all (fun y => decide (y.2 = .free → fsc.names.lookup y.1 = some .cell ∨ fsc.names.lookup y.1 = some .free)) && N.all fun x => decide (sc.names.lookup x ≠ some .local)
theorem compSc_of {X : Cx} {sc : Scope} (N : List Str) (fsc : Scope) (hN : X.N = N) (hs : X.env.scope = fsc) (hb : compB N fsc sc = true) : CompSc X sc := by
  unfold compB at hb
  simp only [Bool.and_eq_true, List.all_eq_true, decide_eq_true_eq] at hb
  obtain ⟨⟨⟨⟨h1, h2⟩, h3⟩, h4⟩, h5⟩ := hb
  refine ⟨h1, h2, h3, fun y hy e => ?_, fun x hx => ?_⟩
  · have := h4 y hy e
    rw [← hs] at this
    exact this
  · rw [hN] at hx
    exact h5 x hx
theorem nd_of {X : Cx} (N : List Str) (hN : X.N = N) (hb : N.Nodup) : X.N.Nodup := by
  rw [hN]
  exact hb
/-- a def of the text: itself, how it binds, its name -/
structure Df (K : PySem.W.Frag) (mg : Str → Option Value) (x : Str) (st : Stmt) (ps : List Str) (f : Addr) (fd : FuncData) : Prop where
  fn : Fun K x x st f fd
  bi : Binds K fd ps []
  at_ : mg x = some (.ref f)
/-- what the walk asks of the module's names -/
structure Txt (K : PySem.W.Frag) (mg : Str → Option Value) : Prop where
  isi : mg "isinstance" = none
  str : mg "str" = none
  int : mg "int" = none
  bool : mg "bool" = none
  lw : ∃ t, mg "LEFTWARD" = some (.str "nwse" t)
theorem kit_str (K : PySem.W.Frag) : PySem.W.kitOne K (.type "str") (.type "str") = some true := by
  unfold PySem.W.kitOne
  rw [if_pos (by decide +kernel)]
theorem kit_int_bool (K : PySem.W.Frag) : PySem.W.kitOne K (.type "int") (.type "bool") = some false := by
  unfold PySem.W.kitOne
  rw [if_neg (by decide +kernel)]
  first | rfl | decide +kernel
theorem kit_int (K : PySem.W.Frag) : PySem.W.kitOne K (.type "int") (.type "int") = some true := by
  unfold PySem.W.kitOne
  rw [if_pos (by decide +kernel)]
section
variable {P : Program} {w : World} {K : PySem.W.Frag} {mg : Str → Option Value} {base : Heap}
def spCheckWalk : Sp := fun vs H Q _ => ∃ l, vs = [.str (T l)] ∧ IsW l ∧ Q .non H
def spStepped (K : PySem.W.Frag) : Sp := fun vs H Q _ => ∃ (a : Addr) (p : Pt) (c : Nat), vs = [.ref a, .str (T [c])] ∧ Lt c ∧ SqT K H a [.int p.1, .int p.2] ∧ ∀ b, H b = none → Q (.ref b) (upd H b (.tup [.int (stepP p c).1, .int (stepP p c).2]))
theorem two_le : 2 ≤ sizeLine := by decide
/-- tuples of two numbers -/
abbrev Tups (H : Hp) : List Addr → List Pt → Prop := Paired fun a (q : Pt) => H a = some (.tup [.int q.1, .int q.2])
theorem Tups.mono {H H' : Hp} {as : List Addr} {ps : List Pt} (h : Tups H as ps) (s : ∀ b xs, H b = some (.tup xs) → H' b = some (.tup xs)) : Tups H' as ps := Paired.mapP h fun a q e => s a _ e
/-- a list of places, the asker's own -/
def PlAt (H : Hp) (d : Addr) (ps : List Pt) : Prop := ∃ as : List Addr, H d = some (.lst (as.map V.ref)) ∧ Tups H as ps
theorem PlAt.same {H H' : Hp} {d : Addr} {ps : List Pt} (h : PlAt H d ps) (s : Same H H') : PlAt H' d ps := by
  obtain ⟨as, h1, h2⟩ := h
  exact ⟨as, s _ _ h1, h2.mono fun b xs e => s _ _ e⟩
def spPlaces : Sp := fun vs H Q _ => ∃ l, vs = [.str (T l)] ∧ IsW l ∧ l.length ≤ 1000 ∧ ∀ d H', H d = none → Same H H' → PlAt H' d (plOf l) → Q (.ref d) H'
def spEnd : Sp := fun vs H Q _ => ∃ l, vs = [.str (T l)] ∧ IsW l ∧ ∀ b, H b = none → Q (.ref b) (upd H b (.tup [.int (posOf l).1, .int (posOf l).2]))
theorem cntL_eq (c : Nat) : ∀ l : List Nat, cntL c l = cntC c l
  | [] => rfl
  | d :: r => by
    show (if d = c then 1 else 0) + cntL c r = (if d = c then 1 else 0) + cntC c r
    rw [cntL_eq c r]
end
section
variable {P : Program} {w : World} {K : PySem.W.Frag} {mg : Str → Option Value} {base : Heap}
end
section
variable {P : Program} {w : World} {K : PySem.W.Frag} {mg : Str → Option Value} {base : Heap}
theorem eqv_pt (p q : Pt) : PyData.eqv (.tuple [.int p.1, .int p.2]) (.tuple [.int q.1, .int q.2]) = decide (p = q) := by
  by_cases h : p = q
  · subst h
    simp [PyData.eqv, PyData.eqvAll]
  · rw [decide_eq_false h]
    have : ¬ (p.1 = q.1 ∧ p.2 = q.2) := fun z => h (Prod.ext z.1 z.2)
    simp [PyData.eqv, PyData.eqvAll]
    intro e1 e2
    exact this ⟨e1, e2⟩
theorem shaped_pt (p : Pt) : SeqAt.shaped (.tuple [.int p.1, .int p.2]) = true := rfl
theorem dat_pt {H : Hp} {a : Addr} {p : Pt} (h : H a = some (.tup [.int p.1, .int p.2])) : DatV K H (.ref a) (.tuple [.int p.1, .int p.2]) := .tup (SqT.of h) (.cons (.int _) (.cons (.int _) .nil))
end
/-- a dict of four pairs -/
theorem pe_disp4 {X : Cx} {pos : Pos} {k1 k2 k3 k4 v1 v2 v3 v4 : Expr} {a1 a2 a3 a4 b1 b2 b3 b4 : TE} (h1 : PE X k1 a1) (g1 : PE X v1 b1) (h2 : PE X k2 a2) (g2 : PE X v2 b2) (h3 : PE X k3 a3) (g3 : PE X v3 b3) (h4 : PE X k4 a4) (g4 : PE X v4 b4) :
    PE X (.Dict [some k1, some k2, some k3, some k4] [v1, v2, v3, v4] pos) (tDisp [(a1, b1), (a2, b2), (a3, b3), (a4, b4)]) := by
  have p4 : PPs X pos [some k4] [v4] [(a4, b4)] := pps_cons h4 g4 pps_nil
  have p3 : PPs X pos [some k3, some k4] [v3, v4] [(a3, b3), (a4, b4)] := pps_cons h3 g3 p4
  have p2 : PPs X pos [some k2, some k3, some k4] [v2, v3, v4] [(a2, b2), (a3, b3), (a4, b4)] := pps_cons h2 g2 p3
  have p1 : PPs X pos [some k1, some k2, some k3, some k4] [v1, v2, v3, v4] [(a1, b1), (a2, b2), (a3, b3), (a4, b4)] := pps_cons h1 g1 p2
  exact pe_disp p1 rfl rfl (List.cons_ne_nil _ _) (by decide : 4 ≤ 15)
structure PEw (X : Cx) (e : Expr) (t : TE) : Prop where
  out : PE X e t
structure PSw (X : Cx) (st : Stmt) (t : TS) : Prop where
  out : PS X st t
structure PSsw (X : Cx) (sts : List Stmt) (t : TS) : Prop where
  out : PSs X sts t
theorem pw_disp4 {X : Cx} {pos : Pos} {k1 k2 k3 k4 v1 v2 v3 v4 : Expr} {a1 a2 a3 a4 b1 b2 b3 b4 : TE} (h1 : PE X k1 a1) (g1 : PE X v1 b1) (h2 : PE X k2 a2) (g2 : PE X v2 b2) (h3 : PE X k3 a3) (g3 : PE X v3 b3) (h4 : PE X k4 a4) (g4 : PE X v4 b4) :
    PEw X (.Dict [some k1, some k2, some k3, some k4] [v1, v2, v3, v4] pos) (tDisp [(a1, b1), (a2, b2), (a3, b3), (a4, b4)]) := ⟨pe_disp4 h1 g1 h2 g2 h3 g3 h4 g4⟩
section
variable {X : Cx} {o i e tg : Expr} {pos pos' : Pos} {td ty te : TE} {g : TG} {st : Stmt} {rest : List Stmt} {t u : TS}
theorem pw_dget (hu : X.A.units + 1 < cLine) (ho : PEw X o td) (hi : PE X i ty) (hs : NoSl i) : PEw X (.Subscript o i pos) (tDGet td ty) := ⟨pe_dget hu ho.out hi hs⟩
theorem psw_asg (he : PEw X e te) (hg : PG X tg g) (hs : swapsWithSole [tg] e pos.line X.env = pure false := by rfl) (hw : swappedStores [tg] e X.env = pure none := by rfl) (h1 : (assignEach [tg] X.env).map (·.2) = [assign tg X.env] := by rfl) : PSw X (.Assign [tg] e pos) (tAsg te g) := ⟨ps_asg he.out hg hs hw h1⟩
theorem pssw_cons (h1 : PSw X st t) (h2 : PSs X rest u) : PSsw X (st :: rest) (tSeq t u) := ⟨pss_cons h1.out h2⟩
theorem pss_consW (h1 : PS X st t) (h2 : PSsw X rest u) : PSs X (st :: rest) (tSeq t u) := pss_cons h1 h2.out
end
section
variable {P : Program} {w : World} {K : PySem.W.Frag} {mg : Str → Option Value} {base : Heap}
def spLawWalk (K : PySem.W.Frag) : Sp := fun vs H Q _ => ∃ (a : Addr) (ns : List Int), vs = [.ref a] ∧ SqL K H a (ns.map V.int) ∧ ns.length ≤ 63 ∧ ∀ H', Same H H' → Q (.str (T (lawW ns))) H'
theorem law_at (k : Int) : atI ([110, 101, 115, 119] : List Nat) (k % 4) = some (lawC k) := by
  have h0 : 0 ≤ k % 4 := Int.emod_nonneg _ (by decide)
  have h1 : k % 4 < 4 := Int.emod_lt_of_pos _ (by decide)
  unfold lawC
  rcases (by (first | lia | omega) : k % 4 = 0 ∨ k % 4 = 1 ∨ k % 4 = 2 ∨ k % 4 = 3) with e | e | e | e <;> rw [e] <;> rfl
def lawV : V → V
  | .int k => .str (T [lawC k])
  | _ => .non
/-- the four ways as a dict -/
def dirK (b1 b2 b3 b4 : Addr) : List (Key × V) := [(Sum.inr (T [110]), .ref b1), (Sum.inr (T [101]), .ref b2), (Sum.inr (T [115]), .ref b3), (Sum.inr (T [119]), .ref b4)]
theorem ne_keys {c d : Nat} (h : ¬ c = d) : ¬ ((Sum.inr (T [c]) : Key) = Sum.inr (T [d])) := fun z => h (by
  have := T_inj (Sum.inr.inj z)
  simpa using this)
theorem dir_merge (b1 b2 b3 b4 : Addr) : mergeK [] (dirK b1 b2 b3 b4) = dirK b1 b2 b3 b4 := by
  unfold dirK mergeK
  simp only [List.foldl_cons, List.foldl_nil]
  rw [putK_new (kvs := []) _ rfl, List.nil_append]
  rw [putK_new (k := Sum.inr (T [101])) _ (by rw [valV_neg (ne_keys (by decide)), valV_nil])]
  rw [putK_new (k := Sum.inr (T [115])) _ (by rw [List.cons_append, valV_neg (ne_keys (by decide)), List.nil_append, valV_neg (ne_keys (by decide)), valV_nil])]
  rw [putK_new (k := Sum.inr (T [119])) _ (by
    simp only [List.cons_append, List.nil_append]
    rw [valV_neg (ne_keys (by decide)), valV_neg (ne_keys (by decide)), valV_neg (ne_keys (by decide)), valV_nil])]
  rfl
/-- where a letter's vector stands -/
def dirA (b1 b2 b3 b4 : Addr) (c : Nat) : Addr := if c = 110 then b1 else if c = 101 then b2 else if c = 115 then b3 else b4
theorem dir_val {b1 b2 b3 b4 : Addr} {c : Nat} (h : Lt c) : valV (dirK b1 b2 b3 b4) (Sum.inr (T [c]) : Key) = some (.ref (dirA b1 b2 b3 b4 c)) := by
  unfold dirK
  rcases h with rfl | rfl | rfl | rfl
  · rw [valV_pos rfl]
    rfl
  · rw [valV_neg (ne_keys (by decide)), valV_neg (ne_keys (by decide)), valV_neg (ne_keys (by decide)), valV_pos rfl]
    rfl
  · rw [valV_neg (ne_keys (by decide)), valV_neg (ne_keys (by decide)), valV_pos rfl]
    rfl
  · rw [valV_neg (ne_keys (by decide)), valV_pos rfl]
    rfl
theorem same_new {H : Hp} {b : Addr} {o : HO} (h : H b = none) : Same H (upd H b o) := same_upd h (Same.refl _)
theorem tups_last {H : Hp} : ∀ {as : List Addr} {pre : List Pt} {p : Pt}, Tups H as (pre ++ [p]) → ∃ as' q, as = as' ++ [q] ∧ H q = some (.tup [.int p.1, .int p.2])
  | _, [], p, .cons h .nil => ⟨[], _, rfl, h⟩
  | _, _ :: pre, p, .cons h t => by
    obtain ⟨as', q, rfl, hq⟩ := tups_last (pre := pre) t
    exact ⟨_ :: as', q, rfl, hq⟩
end
section
variable {P : Program} {w : World} {K : PySem.W.Frag} {mg : Str → Option Value} {base : Heap}
def spLawClosed (K : PySem.W.Frag) : Sp := fun vs H Q _ => ∃ (a : Addr) (ns : List Int), vs = [.ref a] ∧ SqL K H a (ns.map V.int) ∧ ns.length ≤ 63 ∧ ∀ H', Same H H' → Q (.str (T (closedL (decide (ns.sum % 2 = 0)) (lawW ns)))) H'
theorem PE.imp {X : Cx} {e : Expr} {t t' : TE} (h : PE X e t) (q : ∀ σ H Q, t' σ H Q → t σ H Q) : PE X e t' := fun pins s σ H Q I k => h pins s σ H Q I (q σ H Q k)
def tSign (i : Nat) (a b : Str) : TE := fun σ H Q => ∃ z, σ[i]? = some (some (.int z)) ∧ Q (.str (if 0 < z then a else b)) H
theorem pe_sign {X : Cx} {e : Expr} {i : Nat} {a b : Str} {p1 p2 p3 p4 p5 : Pos} (hv : PE X e (tVar i)) : PE X (.IfExp (.Compare e [.Gt] [.Constant (.int 0) 0 p1] p2) (.Constant (.str a) 0 p3) (.Constant (.str b) 0 p4) p5)
    (tSign i a b) := by
  refine PE.imp (pe_ifExp (pt_cmpR op_gt hv pe_int (nomark _)) pe_str pe_str) fun σ H Q ⟨z, h1, h2⟩ => ?_
  refine ⟨_, h1, _, _, rfl, rfl, _, rfl, ?_⟩
  by_cases hz : 0 < z
  · rw [if_pos hz] at h2
    rw [decide_eq_true hz]
    exact iteT h2
  · rw [if_neg hz] at h2
    rw [decide_eq_false hz]
    exact iteF h2
theorem abs_nat (i : Int) : (if i < 0 then -i else i) = (i.natAbs : Int) := by
  split
  · (first | lia | omega)
  · (first | lia | omega)
end
def ptD (p : Pt) : PyData := .tuple [.int p.1, .int p.2]
theorem lay_pl : ∀ ps : List Pt, PyData.canLayAll0 (ps.map ptD) = true
  | [] => rfl
  | p :: r => by
    rw [List.map_cons]
    show (PyData.canLay0 (ptD p) && PyData.canLayAll0 (r.map ptD)) = true
    rw [lay_pl r]
    rfl
theorem deep_pl : ∀ ps : List Pt, PyData.depthAll (ps.map ptD) ≤ 1
  | [] => Nat.zero_le _
  | p :: r => by
    have ih := deep_pl r
    have e : PyData.depth (ptD p) = 1 := rfl
    simp only [List.map_cons, PyData.depthAll, e]
    (first | lia | omega)
theorem shaped_pl (ps : List Pt) : SeqAt.shaped (.list (ps.map ptD)) = true := by
  have h1 := lay_pl ps
  have h2 := deep_pl ps
  simp only [SeqAt.shaped, PyData.canLay0, PyData.depth, h1, Bool.true_and, decide_eq_true_eq]
  exact decide_eq_true (by (first | lia | omega))
theorem dats_pl {K : PySem.W.Frag} {H : Hp} : ∀ {as : List Addr} {ps : List Pt}, Tups H as ps → DatVs K H (as.map V.ref) (ps.map ptD)
  | _, _, .nil => .nil
  | _, _, .cons h t => .cons (dat_pt h) (dats_pl t)
theorem dat_pl {K : PySem.W.Frag} {H : Hp} {d : Addr} {ps : List Pt} (h : PlAt H d ps) : DatV K H (.ref d) (.list (ps.map ptD)) := by
  obtain ⟨as, h1, h2⟩ := h
  exact .lst (SqL.of h1) (dats_pl h2)
theorem kit_tuple (K : PySem.W.Frag) : PySem.W.kitOne K (.type "tuple") (.type "tuple") = some true := by
  unfold PySem.W.kitOne
  rw [if_pos (by decide +kernel)]
end SW

set_option Elab.async false
set_option linter.all false
set_option maxRecDepth 100000
set_option maxHeartbeats 1000000
namespace L2
open PySem PySem.Spec PyProof PyProof.Rows
/-! ### slices of lists with a step -/
theorem vals_pick {xs : List V} {us : List Value} (r : Vals xs us) : ∀ is : List Nat, Vals (is.filterMap (xs[·]?)) (is.filterMap (us[·]?))
  | [] => .nil
  | i :: is => by
    rw [List.filterMap_cons, List.filterMap_cons]
    cases e : xs[i]? with
    | none =>
      rw [r.none_of e]
      exact vals_pick r is
    | some x =>
      obtain ⟨u, e2, ru⟩ := r.get e
      rw [e2]
      exact .cons ru (vals_pick r is)
def pickV (xs : List V) (lo hi st : Option Int) : List V := (sliceRange (sliceBounds lo hi st xs.length).1 (sliceBounds lo hi st xs.length).2.1 (sliceBounds lo hi st xs.length).2.2).filterMap (xs[·]?)
section
variable {X : Cx} {e st : Expr} {te ts : TE} {lo hi : Option Expr} {tl th : TO} {pos p2 : Pos}
def tSl3 (K : PySem.W.Frag) (te : TE) (tl th : TO) (ts : TE) : TE := fun σ H Q => te σ H fun x H1 => tl σ H1 fun l H2 => th σ H2 fun u H3 => ts σ H3 fun y H4 => ∃ a xs k, x = .ref a ∧ y = .int k ∧ k ≠ 0 ∧ SqL K H4 a xs ∧ ∀ p, H4 p = none → Q (.ref p) (upd H4 p (.lst (pickV xs l u (some k))))
theorem pe_slice3 (he : PE X e te) (hl : PO X lo tl) (hu : PO X hi th) (hst : PE X st ts) : PE X (.Subscript e (.Slice lo hi (some st) p2) pos) (tSl3 X.K te tl th ts) := by
  intro pins s σ H Q I h
  refine Subscript_ (thn (he pins s σ H _ I h) fun v s1 ⟨x, H1, I1, r1, q1⟩ => ?_)
  refine wpAny_Slice (thn (hl pins s1 σ H1 _ I1 q1) fun vl s2 ⟨l, H2, I2, pl, q2⟩ => thn (hu pins s2 σ H2 _ I2 q2) fun vu s3 ⟨u, H3, I3, pu, q3⟩ => ?_)
  refine evalPart_some_step ?_
  refine thn (hst pins s3 σ H3 _ I3 q3) fun w' s4 ⟨y, H4, I4, r4, q4⟩ => ?_
  obtain ⟨a, xs, k, rfl, rfl, hk, hx, q⟩ := q4
  obtain ⟨uk, rfl⟩ := (show ∃ t, w' = Value.int k t from r4)
  cases r1
  have I5 : Inv X pins σ H4 { s4 with heap := s4.heap.push { cls := .type "slice", data := .fields #[vl, vu, .int k uk] } } := I4.kept (t' := s4.toks) fun b ob q => Heap.get?_push_of_some _ q
  obtain ⟨its, r, ht, hz⟩ := I5.list hx
  have hlen := r.length
  show wpAny (model X.prog X.w) X.A (subscriptTail e (.Slice lo hi (some st) p2) (.ref a) (.ref s4.heap.objs.size)) (EP X pins σ Q) X.xe { s4 with heap := s4.heap.push { cls := .type "slice", data := .fields #[vl, vu, .int k uk] } }
  refine tail_any (ops := [.ref a, .ref s4.heap.objs.size]) ht.isList.typeIs slot_list_getitem.lookup ?_ (by with_unfolding_all rfl)
  refine wpAny_getItem_list_slice (st := some k) ht.isList (Heap.IsSliceOf.new ..) pl pu (.int k uk) (by intro z; exact hk (Option.some.inj z)) ?_ (by rw [List.size_toArray] <;> (first | lia | omega))
  have hp : Vals (pickV xs l u (some k)) (slicePick its.toArray l u (some k)).toList := by
    have := vals_pick r (sliceRange (sliceBounds l u (some k) xs.length).1 (sliceBounds l u (some k) xs.length).2.1 (sliceBounds l u (some k) xs.length).2.2)
    unfold pickV slicePick
    rw [List.size_toArray, ← hlen]
    simpa using this
  refine ⟨.ref _, _, I5.laid (t' := s4.toks) (o := .lst (pickV xs l u (some k))) (fun b ob q => Heap.get?_push_of_some _ q) (Nat.le_refl _) ?_, rfl, q _ (I5.hok.fresh (Nat.le_refl _))⟩
  refine ⟨?_, (slicePick its.toArray l u (some k)).toList, 0, hp, Heap.get?_push_size _ rfl⟩
  have := slicePick_size_le its.toArray l u (some k)
  have e2 := hp.length
  have e3 : its.toArray.size = its.length := List.size_toArray
  have e4 : (slicePick its.toArray l u (some k)).toList.length = (slicePick its.toArray l u (some k)).size := Array.length_toList
  show (pickV xs l u (some k)).length ≤ sizeLine
  rw [e2, e4]
  (first | lia | omega)
end
theorem sliceRange_back (n : Nat) : sliceRange ((n : Int) - 1) (-1) (-1) = (List.range n).map fun k => n - 1 - k := by
  unfold sliceRange
  have hc : (if (-1 : Int) > 0 then (if (n : Int) - 1 < -1 then (-1 - ((n : Int) - 1) + -1 - 1) / (-1) else 0) else (if (n : Int) - 1 > -1 then ((n : Int) - 1 - (-1) - (-1) - 1) / (-(-1)) else 0)) = (n : Int) := by
    rw [if_neg (by decide)]
    by_cases h : (n : Int) - 1 > -1
    · rw [if_pos h]
      have : (n : Int) - 1 - (-1) - (-1) - 1 = n := by (first | lia | omega)
      rw [this]
      simp
    · rw [if_neg h]
      (first | lia | omega)
  simp only [hc, Int.toNat_natCast]
  refine List.map_congr_left fun k hk => ?_
  have := List.mem_range.mp hk
  (first | lia | omega)
theorem pickV_back (xs : List V) : pickV xs none none (some (-1)) = xs.reverse := by
  unfold pickV
  have h1 : (sliceBounds none none (some (-1)) xs.length) = ((xs.length : Int) - 1, -1, -1) := rfl
  rw [h1]
  simp only [sliceRange_back]
  rw [List.filterMap_map]
  have : List.filterMap ((fun x => xs[x]?) ∘ fun k => xs.length - 1 - k) (List.range xs.length) = xs.reverse := by
    rw [filterMap_some (g := fun k => xs.reverse.getD k .non)]
    · refine List.ext_getElem? fun i => ?_
      by_cases hi : i < xs.length
      · rw [List.getElem?_map, List.getElem?_range hi]
        show some (xs.reverse.getD i .non) = _
        rw [List.getD_eq_getElem?_getD, List.getElem?_eq_getElem (by rw [List.length_reverse]; exact hi)]
        rfl
      · rw [List.getElem?_eq_none (by rw [List.length_map, List.length_range]; (first | lia | omega)), List.getElem?_eq_none (by rw [List.length_reverse]; (first | lia | omega))]
    · intro k hk
      have := List.mem_range.mp hk
      show xs[xs.length - 1 - k]? = some (xs.reverse.getD k .non)
      rw [List.getD_eq_getElem?_getD, List.getElem?_reverse this, List.getElem?_eq_getElem (by (first | lia | omega))]
      rfl
  exact this
/-! ### ways that come together: what holds behind, named once -/
def tMrg (t : TS) : TS := fun D σ H => ∃ P : St → Hp → Prop, t { D with nx := P } σ H ∧ ∀ σ' H', P σ' H' → D.nx σ' H'
theorem ps_mrg {X : Cx} {st : Stmt} {t : TS} (h : PS X st t) : PS X st (tMrg t) := by
  intro pins s σ H D I q
  obtain ⟨P, q1, q2⟩ := q
  refine thn (h pins s σ H _ I q1) fun f s' r => ?_
  cases f with
  | next =>
    obtain ⟨σ', H', I', r'⟩ := r
    exact ⟨σ', H', I', q2 _ _ r'⟩
  | brk => exact r
  | cont => exact r
  | ret u => exact r
def tMrgE (t : TE) : TE := fun σ H Q => ∃ P : VK, t σ H P ∧ ∀ v H', P v H' → Q v H'
theorem pe_mrg {X : Cx} {e : Expr} {t : TE} (h : PE X e t) : PE X e (tMrgE t) := by
  intro pins s σ H Q I q
  obtain ⟨P, q1, q2⟩ := q
  refine thn (h pins s σ H _ I q1) fun v s' r => ?_
  obtain ⟨v', H', I', r1, r2⟩ := r
  exact ⟨v', H', I', r1, q2 _ _ r2⟩
/-! ### is, is not: True and False -/
end L2

namespace WM
/-! ### thinned -/

/-! ### what leaves a step and its taking back unseen: any fold that does -/

/-! ### the area -/
end WM

namespace WM
/-! ### cross products, from any place -/
/-! ### turned, mirrored -/
/-! ### begun elsewhere -/
/-! ### two neighbouring steps exchanged -/
/-! ### closed ones: twice is even -/

/-! ### how often a square is gone around -/
end WM

set_option Elab.async false
set_option linter.all false
set_option maxRecDepth 100000
set_option maxHeartbeats 4000000
namespace SW
open PySem L2 WM
/-! ### places by number -/
theorem placesP_get : ∀ {l : List Nat} {p : Pt} {i : Nat}, i ≤ l.length → (placesP p l)[i]? = some (goP p (l.take i))
  | [], _, 0, _ => rfl
  | _ :: _, _, 0, _ => rfl
  | c :: l, p, i + 1, h => by
    show (placesP (stepP p c) l)[i]? = _
    rw [placesP_get (l := l) (by simpa using h)]
    rfl
theorem plOf_get {l : List Nat} {i : Nat} (h : i ≤ l.length) : (plOf l)[i]? = some (posOf (l.take i)) := placesP_get h
theorem tups_at {H : Hp} : ∀ {as : List Addr} {ps : List Pt} {i : Nat} {p : Pt}, Tups H as ps → ps[i]? = some p → ∃ a, (as.map V.ref)[i]? = some (.ref a) ∧ H a = some (.tup [.int p.1, .int p.2])
  | _, _, _, _, .nil, e => by simp at e
  | _, _, 0, _, .cons h _, e => by
    simp at e
    subst e
    exact ⟨_, rfl, h⟩
  | _, _, i + 1, p, .cons _ t, e => by
    obtain ⟨a, h1, h2⟩ := tups_at (i := i) t (by simpa using e)
    exact ⟨a, by simpa using h1, h2⟩
theorem PlAt.at {K : PySem.W.Frag} {H : Hp} {d : Addr} {l : List Nat} {i : Nat} (h : PlAt H d (plOf l)) (hi : i ≤ l.length) : ∃ xs a, SqL K H d xs ∧ xs[i]? = some (.ref a) ∧ H a = some (.tup [.int (posOf (l.take i)).1, .int (posOf (l.take i)).2]) := by
  obtain ⟨as, h1, h2⟩ := h
  obtain ⟨a, h3, h4⟩ := tups_at h2 (plOf_get hi)
  exact ⟨_, a, SqL.of h1, h3, h4⟩
end SW

set_option Elab.async false
set_option linter.all false
set_option maxRecDepth 100000
set_option maxHeartbeats 1000000
namespace L2
open PySem PySem.Spec PyProof.Rows
/-! ### comprehensions whose items are new -/
/-- tuples stay -/
def TSame (H H' : Hp) : Prop := ∀ b xs, H b = some (.tup xs) → H' b = some (.tup xs)
theorem Same.tup {H H' : Hp} (s : Same H H') : TSame H H' := fun b xs e => s b _ e
theorem tsame_lst {H : Hp} {d : Addr} {ys : List V} {o : HO} (h : H d = some (.lst ys)) : TSame H (upd H d o) := fun b xs e => by
  rw [upd_ne (ne_of e h (by intro z; cases z))]
  exact e
/-- x, y taken out of a pair, behind the other slots -/
theorem g_two {K : PySem.W.Frag} {σ : St} {n : Nat} {H : Hp} {a : Addr} {u v : V} {R : St → Hp → Prop} (hn : n = σ.length) (h : SqT K H a [u, v]) (k : R (σ ++ [some u, some v]) H) : gTup K 2 (gCons (gName n) (gCons (gName (n + 1)) gNil)) (.ref a) (σ ++ List.replicate 2 none) H R := by
  subst hn
  refine ⟨a, _, rfl, h, rfl, u, _, rfl, v, _, rfl, rfl, ?_⟩
  have e1 : (σ ++ List.replicate 2 none).set σ.length (some u) = σ ++ [some u, none] := by
    rw [List.set_append_right _ _ (Nat.le_refl _), Nat.sub_self]
    rfl
  have e2 : (σ ++ [some u, none]).set (σ.length + 1) (some v) = σ ++ [some u, some v] := by
    rw [List.set_append_right _ _ (by (first | lia | omega)), Nat.add_sub_cancel_left]
    rfl
  rw [e1, e2]
  exact k
end L2

set_option Elab.async false
set_option linter.all false
set_option maxRecDepth 100000
set_option maxHeartbeats 1000000
namespace L2
open PySem PySem.Spec PyProof.Rows
/-! ### enumerate, its pairs taken apart on the spot -/
section
variable {X : Cx} {pins : List (Addr × Obj)} {σ : St} {H : Hp} {s : Shared} {h' : Heap}
/-- records of ours have turned, and a new object is laid and tracked -/
theorem Inv.turnLay {a : Addr} {o : HO} {t' : Nat} {ch : List Addr} (I : Inv X pins σ H s) (hf : ∀ b ∈ ch, FpOk X pins H b) (k : ∀ b u, b ∉ ch → s.heap.get? b = some u → h'.get? b = some u) (hp : s.heap.objs.size ≤ a) (new : ObjOk X.prog X.w (upd H a o) h' a o) :
    Inv X pins σ (upd H a o) { s with heap := h', toks := t' } := by
  have hn : H a = none := I.hok.fresh hp
  have nit : ∀ b u, H b = some u → b ∉ ch := fun b u e z => by
    rw [(hf b z).1] at e
    cases e
  have old : ∀ b u, s.heap.get? b = some u → b ≠ a := fun b u e z => absurd (Heap.lt_size e) (by rw [z]; exact Nat.not_lt.mpr hp)
  refine I.step (g' := s.gens) (d' := s.drawn) (ch := ch) (fun b hb => ⟨(hf b hb).2.2.2.1, (hf b hb).2.1, (hf b hb).2.2.2.2.1, (hf b hb).2.2.2.2.2⟩) (fun b o _ _ hc e _ => k b o hc e) (fun b o _ _ hc e _ => ⟨o.slots, k b o hc e⟩)
    (fun b o _ e n => by rw [upd_ne (old b o e)]; exact n) (fun b o hc e => ⟨o, k b o hc e⟩) (fun b xs e => by rw [upd_ne (ne_of_none e hn)]; exact e) (fun b o u e => by rw [upd_ne (ne_of_none e hn)]; exact e) (fun b ps e => ⟨#[], by rw [upd_ne (ne_of_none e hn), e]; simp⟩) (fun m hm => ?_) (fun b u e => ?_) I.bare
  · obtain ⟨o, es, ep, ho, r⟩ := hm
    refine ⟨o, es, ep, k _ o (fun z => (hf _ z).2.1 rfl) ho, r⟩
  · by_cases hb : b = a
    · subst hb
      rw [upd_same] at e
      cases e
      exact new
    · rw [upd_ne hb] at e
      refine (I.hok b u e).stay (fun c v hc q => k c v ?_ q) (fun c q => by rw [upd_ne (ne_of_none q hn)]; exact q) fun c xs q => by rw [upd_ne (ne_of_none q hn)]; exact q
      rcases hc with z | z
      · rw [z]
        exact nit b u e
      · exact nit c _ z
end
/-- the items of the list at a, each with its number -/
def Ite (K : PySem.W.Frag) (a : Addr) : It :=
  ⟨fun i H => ∃ xs x, SqL K H a xs ∧ xs[i]? = some x, fun i H x H' => ∃ b v, x = .ref b ∧ H b = none ∧ H' = upd H b (.tup [.int (i : Int), v]) ∧ ∀ xs, SqL K H a xs → xs[i]? = some v, fun i H => ∃ xs, SqL K H a xs ∧ xs.length ≤ i⟩
theorem turn_enumL {P : Program} {w : World} {K : PySem.W.Frag} {es : List Expr} {x1 : _} {tp : Pos} (a it e : Addr) : Turn P w K (.Tuple es x1 tp) (Ite K a) [e, it] e (fun i h => (∃ old, IsEnum h e it (i : Int) old) ∧ h.IsListIter it a i) where
  mem := by simp
  obj := fun i h st b hb => by
    obtain ⟨⟨old, he⟩, o, ho, c, d⟩ := st
    rcases List.mem_cons.mp hb with rfl | hb
    · exact ⟨_, he, fun v z => by cases z⟩
    · have : b = it := by simpa using hb
      subst this
      exact ⟨o, ho, fun v z => by rw [d] at z; cases z⟩
  keep := fun i h h' st k => ⟨let ⟨old, he⟩ := st.1; ⟨old, k e (by simp) _ he⟩, st.2.at fun o q => k it (by simp) o q⟩
  item := by
    intro X hP hw hK hc i pins s σ H E I hf st hg
    subst hP hw hK
    obtain ⟨xs, x, hq, hx⟩ := hg
    obtain ⟨its, rv, p, hz⟩ := I.list hq
    obtain ⟨u, hu, ru⟩ := rv.get hx
    obtain ⟨⟨old, he⟩, hit⟩ := st
    have hl := p.isList
    have hne : e ≠ it := fun z => by
      obtain ⟨o, ho, c, _⟩ := hit
      rw [← z] at ho
      rw [he] at ho
      cases ho
      exact absurd (Value.type.inj c) (by decide)
    have hla : a ≠ it := fun z => by
      obtain ⟨o, ho, c, _⟩ := hit
      obtain ⟨o', ho', c', _⟩ := hl
      rw [z, ho] at ho'
      cases ho'
      rw [c] at c'
      exact absurd (Value.type.inj c') (by decide)
    have hea : e ≠ a := fun z => by
      obtain ⟨o', ho', c', _⟩ := hl
      rw [← z] at ho'
      rw [he] at ho'
      cases ho'
      exact absurd (Value.type.inj c') (by decide)
    have D : Draws X.prog X.w X.A.in1 it [it, a] its.toArray.size (fun i v => its.toArray[i]? = some v) (fun i h => h.IsListIter it a i ∧ h.IsList a its.toArray) := Draws.list (A := X.A.in1) (I.ok.hd hc) it a hla its.toArray
    have hlt : i < its.toArray.size := by
      have := (List.getElem?_eq_some_iff.mp hu).1
      simpa using this
    refine wpAny_pyNext_enum_itemD D he ⟨hit, hl⟩ hlt hne (by simp only [List.mem_cons, List.not_mem_nil, or_false, not_or]; exact ⟨hne, hea⟩) fun v h1 tk hPv heo hst ht hsz hk => ?_
    have ev : v = u := by
      have : its.toArray[i]? = some u := by simpa using hu
      rw [this] at hPv
      exact (Option.some.inj hPv).symm
    subst ev
    refine ⟨_, rfl, wpAny_letOwnedTupleGo_enum (s := { s with heap := h1, toks := tk + 1 }) heo fun h2 he2 hs2 => ?_⟩
    have he1 : e < s.heap.objs.size := Heap.lt_size he
    have ht2 : h2.get? s.heap.objs.size = some { cls := .type "tuple", data := .seq #[.int (i : Int) tk, v] } := (hs2.2 _ (Nat.ne_of_gt he1)).trans ht
    have kk : ∀ b o, b ∉ [e, it] → s.heap.get? b = some o → h2.get? b = some o := fun b o hb q => by
      simp only [List.mem_cons, List.not_mem_nil, or_false, not_or] at hb
      exact (hs2.2 b hb.1).trans (hk b o hb.1 hb.2 q)
    have I1 : Inv X pins σ (upd H s.heap.objs.size (.tup [.int (i : Int), x])) { s with heap := h2, toks := tk + 1 } := by
      refine I.turnLay hf kk (Nat.le_refl _) ⟨by show 2 ≤ sizeLine; decide, [.int (i : Int) tk, v], .cons ⟨tk, rfl⟩ (.cons ru .nil), ?_⟩
      exact ⟨_, ht2, rfl, _, rfl⟩
    refine ⟨.ref s.heap.objs.size, _, I1, rfl, ⟨_, x, rfl, I.hok.fresh (Nat.le_refl _), rfl, fun ys hy => by rw [I.list_inj hy hq]; exact hx⟩, ⟨⟨_, he2⟩, ?_⟩, fun b hb => ?_⟩
    · refine hst.1.at fun o q => ?_
      rw [hs2.2 it (Ne.symm hne)]
      exact q
    · have hb0 := (hf b hb).1
      rw [upd_ne]
      · exact hb0
      · intro z
        rcases List.mem_cons.mp hb with rfl | hb'
        · exact absurd he1 (by rw [z]; exact Nat.lt_irrefl _)
        · have : b = it := by simpa using hb'
          subst this
          obtain ⟨o, ho, _⟩ := hit
          exact absurd (Heap.lt_size ho) (by rw [z]; exact Nat.lt_irrefl _)
  done := by
    intro X hP hw hK hc i pins s σ H E I hf st hg
    subst hP hw hK
    obtain ⟨xs, hq, hx⟩ := hg
    obtain ⟨its, rv, p, hz⟩ := I.list hq
    obtain ⟨⟨old, he⟩, hit⟩ := st
    have hl := p.isList
    have hla : a ≠ it := fun z => by
      obtain ⟨o, ho, c, _⟩ := hit
      obtain ⟨o', ho', c', _⟩ := hl
      rw [z, ho] at ho'
      cases ho'
      rw [c] at c'
      exact absurd (Value.type.inj c') (by decide)
    obtain ⟨f0, f1, f2, f3, f4, f5⟩ := hf it (by simp)
    have hlen := rv.length
    refine wpAny_pyNext_enum_end (i := i) (I.ok.hd hc) he hit hl (by simp; (first | lia | omega)) fun h1 eb => ⟨rfl, I.turned (t' := s.toks) (fun b o hb q => eb b o hb q) f0 f1 f3 f4 f5⟩
  self := fun _ _ _ _ _ st h => let ⟨old, he⟩ := st.1; wpAny_pyIter_enum he h
def iEnumL (K : PySem.W.Frag) (ta : TA) : TI := fun σ H R => ta σ H fun vs H1 => ∃ a, vs = [.ref a] ∧ (∃ xs, SqL K H1 a xs) ∧ R (Ite K a) H1
theorem pi_enumL {X : Cx} {a : Expr} {es : List Expr} {x1 : _} {tp p pos : Pos} {ta : TA} (hg : Gl X "enumerate") (hm : X.mg "enumerate" = none) (ha : PA X [a] ta) (hs : starEach [a] X.env = [(false, eval a X.env)] := by rfl) :
    PI X (.Tuple es x1 tp) (.Call (.Name "enumerate" p) [a] [] pos) (iEnumL X.K ta) := by
  intro pins s σ H R I h
  refine Call_ (ld_blt I hg hm boot_enumerate (PyProof.Rows.callWith_type1 (thn (ha pos pins s σ H _ I h) fun us s1 ⟨vs, H1, I1, r1, q1⟩ => ?_) hs rfl))
  obtain ⟨l, rfl, ⟨xs, hq⟩, q⟩ := q1
  obtain ⟨u, rfl, ru⟩ := vals1 r1
  cases (show u = Value.ref l from ru)
  obtain ⟨its, rv, pl, hz⟩ := I1.list hq
  refine call_enumerate_list pl.isList fun h' he hit hsz hk => ?_
  have I2 : Inv X pins σ H1 { s1 with heap := h' } := I1.kept (t' := s1.toks) hk
  refine wpAny_pyIter_enum (s := { s1 with heap := h' }) he ?_
  refine ⟨s1.heap.objs.size + 1, [s1.heap.objs.size + 1, s1.heap.objs.size], _, _, H1, rfl, I2, turn_enumL l _ _, ⟨⟨_, he⟩, hit⟩, fun b hb => ?_, q⟩
  rcases List.mem_cons.mp hb with rfl | hb
  · exact I1.fpOk (Nat.le_succ _) (I1.hok.fresh (Nat.le_succ _))
  · have e : b = s1.heap.objs.size := by simpa using hb
    subst e
    exact I1.fpOk (Nat.le_refl _) (I1.hok.fresh (Nat.le_refl _))
/-- over a list, with its numbers -/
theorem for_enumL {K : PySem.W.Frag} {a : Addr} {xs : List V} {g : TG} {tb : TS} {D : Ends} {σ : St} {H : Hp} (Pv : Nat → St → Hp → Prop) (h0 : Pv 0 σ H) (hl : ∀ i σ H, i ≤ xs.length → Pv i σ H → SqL K H a xs)
    (hs : ∀ i v σ H b, xs[i]? = some v → Pv i σ H → H b = none → g (.ref b) σ (upd H b (.tup [.int (i : Int), v])) fun σ2 H2 => tb { D with nx := Pv (i + 1), ct := Pv (i + 1), bk := D.nx } σ2 H2) (hd : ∀ σ H, Pv xs.length σ H → D.nx σ H) :
    ∃ W : Nat → Nat → St → Hp → Prop, (∃ m, W 0 m σ H) ∧ ∀ i m σ H, W i m σ H →
      ((Ite K a).stop i H ∧ D.nx σ H) ∨ ((Ite K a).go i H ∧ ∃ N : St → Hp → Prop, (∀ σ' H', N σ' H' → ∃ m', m' < m ∧ W (i + 1) m' σ' H') ∧ ∀ x H', (Ite K a).yld i H x H' → g x σ H' fun σ2 H2 => tb { D with nx := N, ct := N, bk := D.nx } σ2 H2) := by
  refine ⟨fun i m σ H => m = xs.length - i ∧ i ≤ xs.length ∧ Pv i σ H, ⟨xs.length, by simp, Nat.zero_le _, h0⟩, ?_⟩
  rintro i m σ H ⟨rfl, hi, p⟩
  have q := hl i σ H hi p
  by_cases hlt : i < xs.length
  · refine .inr ⟨⟨xs, xs[i], q, by simp [hlt]⟩, Pv (i + 1), fun σ' H' p' => ⟨xs.length - (i + 1), by (first | lia | omega), rfl, hlt, p'⟩, fun x H' y => ?_⟩
    obtain ⟨b, v, rfl, hb, rfl, hv⟩ := y
    exact hs i v σ H b (hv xs q) p hb
  · have e : i = xs.length := by (first | lia | omega)
    subst e
    exact .inl ⟨⟨xs, q, Nat.le_refl _⟩, hd σ H p⟩
/-! ### .. of a text -/
end L2

set_option Elab.async false
set_option linter.all false
set_option maxRecDepth 100000
set_option maxHeartbeats 1000000
namespace PySem
section
variable {prog : Program} {w : World} {A : Around} {E : Value → Shared → Prop} {s : Shared}
/-- what a zip's parts must not be -/
structure ZApart (z TI TO i1 i2 : Addr) (fp1 fp2 : List Addr) : Prop where
  zTI : z ≠ TI
  zTO : z ≠ TO
  TITO : TI ≠ TO
  z1 : z ≠ i1
  z2 : z ≠ i2
  TI1 : TI ≠ i1
  TI2 : TI ≠ i2
  TO1 : TO ≠ i1
  TO2 : TO ≠ i2
  i12 : i1 ≠ i2
  f1 : ∀ c ∈ fp1, c ≠ z ∧ c ≠ TO ∧ c ≠ i2
  f2 : ∀ c ∈ fp2, c ≠ z ∧ c ≠ TO ∧ c ≠ i1
def zipObj (f0 f1 : Value) (TI TO : Addr) : Obj := { cls := .type "zip", data := .fields #[f0, f1, .bool false, .ref TI, .ref TO] }
theorem setField_zip {z TI TO : Addr} {f0 f1 x : Value} {Q : Unit → Shared → Prop} (hz : s.heap.get? z = some (zipObj f0 f1 TI TO)) (h : ∀ h', h'.get? z = some (zipObj x f1 TI TO) → Heap.SameBut z s.heap h' → Q () { s with heap := h' }) : wpAny (model prog w) A (setField (.ref z) 0 x) Q E s := by
  refine wpAny_setField hz rfl (by simp) (h _ ?_ (Heap.SameBut.update ..))
  exact Heap.get?_update_self _ hz rfl
theorem setField_zip1 {z TI TO : Addr} {f0 f1 x : Value} {Q : Unit → Shared → Prop} (hz : s.heap.get? z = some (zipObj f0 f1 TI TO)) (h : ∀ h', h'.get? z = some (zipObj f0 x TI TO) → Heap.SameBut z s.heap h' → Q () { s with heap := h' }) : wpAny (model prog w) A (setField (.ref z) 1 x) Q E s := by
  refine wpAny_setField hz rfl (by simp) (h _ ?_ (Heap.SameBut.update ..))
  exact Heap.get?_update_self _ hz rfl
/-- the next pair of a zip -/
theorem wpAny_pyNext_zipD_item {z TI TO i1 i2 : Addr} {fp1 fp2 : List Addr} {n1 n2 k1 k2 : Nat} {P1 P2 : Nat → Value → Prop} {St1 St2 : Nat → Heap → Prop} {a b : Value} {Q : Option Value → Shared → Prop}
    (D1 : Draws prog w A.in1 i1 fp1 n1 P1 St1) (D2 : Draws prog w A.in1 i2 fp2 n2 P2 St2) (ap : ZApart z TI TO i1 i2 fp1 fp2) (hz : IsZip s.heap z TI TO .none) (hTI : IsPair s.heap TI (.ref i1) (.ref i2)) (hTO : IsPair s.heap TO a b)
    (h1 : St1 k1 s.heap) (h2 : St2 k2 s.heap) (l1 : k1 < n1) (l2 : k2 < n2)
    (hQ : ∀ (x y : Value) (h' : Heap) (tk : Nat), P1 k1 x → P2 k2 y → IsZip h' z TI TO (rawInt (s.heap.objs.size : Int)) → IsPair h' TO x y → IsPair h' TI (.ref i1) (.ref i2) → St1 (k1 + 1) h' → St2 (k2 + 1) h' → IsPair h' s.heap.objs.size x y →
      (∀ c o, c ≠ z → c ≠ TO → c ≠ i1 → c ≠ i2 → s.heap.get? c = some o → h'.get? c = some o) → Q (some (.ref s.heap.objs.size)) { s with heap := h', toks := tk }) : wpAny (model prog w) A (pyNext (.ref z)) Q E s := by
  have hT : s.TypeIs (.ref z) "zip" := ⟨_, hz, rfl⟩
  unfold pyNext
  refine wpAny_bind (wpAny_attempt (wpAny_callSpecial?_slot (name := Str.ofString "__next__") hT F.slot_zip_next
    (wpAny_call_entry F.slot_zip_next hT F.entry_zip_next ?_ (F.args_zip_next_1 _))))
  unfold Builtin.«zip.__next__»
  refine wpAny_bind (wpAny_of_eq (a := (Value.ref z, [])) rfl ?_)
  try dsimp only
  refine wpAny_bind (wpAny_field hz rfl (x := .bool false) rfl ?_)
  refine wpAny_bind (wpAny_field hz rfl (x := .ref TI) rfl ?_)
  refine wpAny_bind (wpAny_seqItems hTI rfl ?_)
  try dsimp only
  rw [if_neg (by simp)]
  refine wpAny_bind ?_
  unfold Builtin.SmallTypes.ownedTupleIsFree
  refine wpAny_bind (wpAny_field hz rfl (x := .none) rfl (wpAny_pure ?_))
  try dsimp only
  rw [if_pos rfl]
  refine wpAny_bind (wpAny_rule ?_)
  refine wpAny_bind (wpAny_field hz rfl (x := .ref TO) rfl ?_)
  try dsimp only
  refine wpAny_bind (setField_zip (f0 := .none) (f1 := .bool false) hz fun ha hza hsa => ?_)
  refine wpAny_bind ?_
  show wpAny _ _ (forIn [(Value.ref i1, 0), (Value.ref i2, 1)] _ _) _ _ _
  rw [List.forIn_cons]
  refine wpAny_bind (wpAny_bind (wpAny_onRaise ?_))
  show wpAny _ _ (Builtin.SmallTypes.nextOf (.ref i1) >>= fun x => pure (some x)) _ _ _
  have h1a : St1 k1 ha := D1.frame _ _ _ h1 fun c hc o q => (hsa.2 c (ap.f1 c hc).1).trans q
  have h2a : St2 k2 ha := D2.frame _ _ _ h2 fun c hc o q => (hsa.2 c (ap.f2 c hc).1).trans q
  refine wpAny_bind (D1.item k1 { s with heap := ha } _ _ l1 h1a fun x hb tk px h1b hsb => wpAny_pure ?_)
  dsimp only
  have hTOb : IsPair hb TO a b := (hsb.2 TO ap.TO1).trans ((hsa.2 TO (Ne.symm ap.zTO)).trans hTO)
  refine wpAny_bind (wpAny_seqItems hTOb rfl ?_)
  dsimp only
  refine wpAny_bind (wpAny_updateSeq_pair (s := { s with heap := hb, toks := tk }) hTOb fun hc hTOc hsc => ?_)
  refine wpAny_bind (wpAny_letGo (wpAny_pure ?_))
  dsimp only
  rw [List.forIn_cons]
  refine wpAny_bind (wpAny_bind (wpAny_onRaise ?_))
  show wpAny _ _ (Builtin.SmallTypes.nextOf (.ref i2) >>= fun x => pure (some x)) _ _ _
  have h1c : St1 (k1 + 1) hc := D1.frame _ _ _ h1b fun c hc' o q => (hsc.2 c (ap.f1 c hc').2.1).trans q
  have h2c : St2 k2 hc := D2.frame _ _ _ h2a fun c hc' o q => (hsc.2 c (ap.f2 c hc').2.1).trans ((hsb.2 c (ap.f2 c hc').2.2).trans q)
  refine wpAny_bind (D2.item k2 { s with heap := hc, toks := tk } _ _ l2 h2c fun y hd tk2 py h2d hsd => wpAny_pure ?_)
  dsimp only
  have hTOd : IsPair hd TO x b := (hsd.2 TO ap.TO2).trans hTOc
  refine wpAny_bind (wpAny_seqItems hTOd rfl ?_)
  dsimp only
  refine wpAny_bind (wpAny_updateSeq_pair (s := { s with heap := hd, toks := tk2 }) hTOd fun he hTOe hse => ?_)
  refine wpAny_bind (wpAny_letGo (wpAny_pure ?_))
  dsimp only
  rw [List.forIn_nil]
  refine wpAny_pure ?_
  dsimp only
  have hTOe' : IsPair he TO x y := hTOe
  refine wpAny_bind (wpAny_seqItems hTOe' rfl ?_)
  dsimp only
  refine wpAny_bind (wpAny_newTuple ?_)
  have keep : ∀ c o, c ≠ z → c ≠ TO → c ≠ i1 → c ≠ i2 → s.heap.get? c = some o → he.get? c = some o := fun c o n1 n2 n3 n4 q =>
    (hse.2 c n2).trans ((hsd.2 c n4).trans ((hsc.2 c n2).trans ((hsb.2 c n3).trans ((hsa.2 c n1).trans q))))
  have esz : he.objs.size = s.heap.objs.size := hse.1.trans (hsd.1.trans (hsc.1.trans (hsb.1.trans hsa.1)))
  have hze : he.get? z = some (zipObj .ellipsis (.bool false) TI TO) := (hse.2 z ap.zTO).trans ((hsd.2 z ap.z2).trans ((hsc.2 z ap.zTO).trans ((hsb.2 z ap.z1).trans hza)))
  unfold Builtin.SmallTypes.ownedTupleHandOut
  dsimp only
  have pk : ∀ c o, he.get? c = some o → (he.push { cls := Value.type "tuple", data := Data.seq #[x, y] }).get? c = some o := fun c o q => Heap.get?_push_of_some _ q
  have pn : (he.push { cls := Value.type "tuple", data := Data.seq #[x, y] }).get? he.objs.size = some { cls := Value.type "tuple", data := Data.seq #[x, y] } := Heap.get?_push_size _ rfl
  have zlt : z < he.objs.size := Heap.lt_size hze
  have h1e : St1 (k1 + 1) he := D1.frame _ _ _ h1c fun c hc' o q => (hse.2 c (ap.f1 c hc').2.1).trans ((hsd.2 c (ap.f1 c hc').2.2).trans q)
  have h2e : St2 (k2 + 1) he := D2.frame _ _ _ h2d fun c hc' o q => (hse.2 c (ap.f2 c hc').2.1).trans q
  refine wpAny_bind (wpAny_bind (setField_zip (s := { s with heap := he.push { cls := Value.type "tuple", data := Data.seq #[x, y] }, toks := tk2 }) (pk _ _ hze) fun hf hzf hsf => ?_))
  refine setField_zip1 (s := { s with heap := hf, toks := tk2 }) hzf fun hg hzg hsg => ?_
  have on : ∀ c o, c ≠ z → he.get? c = some o → hg.get? c = some o := fun c o n q => (hsg.2 c n).trans ((hsf.2 c n).trans (pk c o q))
  refine wpAny_pure ⟨_, rfl, wpAny_pure ?_⟩
  rw [esz]
  refine hQ x y hg tk2 px py ?_ (on TO _ (Ne.symm ap.zTO) hTOe') (on TI _ (Ne.symm ap.zTI) (keep TI _ (Ne.symm ap.zTI) ap.TITO ap.TI1 ap.TI2 hTI)) (D1.frame _ _ _ h1e fun c hc' o q => on c o (ap.f1 c hc').1 q) (D2.frame _ _ _ h2e fun c hc' o q => on c o (ap.f2 c hc').1 q) ?_ fun c o n1 n2 n3 n4 q => on c o n1 (keep c o n1 n2 n3 n4 q)
  · rw [← esz]
    exact hzg
  · rw [← esz]
    exact (hsg.2 _ (Nat.ne_of_gt zlt)).trans ((hsf.2 _ (Nat.ne_of_gt zlt)).trans pn)
/-- the first or the second one has ended -/
theorem wpAny_pyNext_zipD_end {z TI TO i1 i2 : Addr} {fp1 fp2 : List Addr} {n1 n2 k1 k2 : Nat} {P1 P2 : Nat → Value → Prop} {St1 St2 : Nat → Heap → Prop} {a b : Value} {Q : Option Value → Shared → Prop}
    (D1 : Draws prog w A.in1 i1 fp1 n1 P1 St1) (D2 : Draws prog w A.in1 i2 fp2 n2 P2 St2) (ap : ZApart z TI TO i1 i2 fp1 fp2) (hz : IsZip s.heap z TI TO .none) (hTI : IsPair s.heap TI (.ref i1) (.ref i2)) (hTO : IsPair s.heap TO a b)
    (h1 : St1 k1 s.heap) (h2 : St2 k2 s.heap) (hl : k1 = n1 ∨ (k1 < n1 ∧ k2 = n2))
    (hQ : ∀ (h' : Heap) (tk : Nat), (∀ c o, c ≠ z → c ≠ TO → c ≠ i1 → c ≠ i2 → s.heap.get? c = some o → h'.get? c = some o) → Q none { s with heap := h', toks := tk }) : wpAny (model prog w) A (pyNext (.ref z)) Q E s := by
  have hT : s.TypeIs (.ref z) "zip" := ⟨_, hz, rfl⟩
  unfold pyNext
  refine wpAny_bind (wpAny_attempt (wpAny_callSpecial?_slot (name := Str.ofString "__next__") hT F.slot_zip_next
    (wpAny_call_entry F.slot_zip_next hT F.entry_zip_next ?_ (F.args_zip_next_1 _))))
  unfold Builtin.«zip.__next__»
  refine wpAny_bind (wpAny_of_eq (a := (Value.ref z, [])) rfl ?_)
  try dsimp only
  refine wpAny_bind (wpAny_field hz rfl (x := .bool false) rfl ?_)
  refine wpAny_bind (wpAny_field hz rfl (x := .ref TI) rfl ?_)
  refine wpAny_bind (wpAny_seqItems hTI rfl ?_)
  try dsimp only
  rw [if_neg (by simp)]
  refine wpAny_bind ?_
  unfold Builtin.SmallTypes.ownedTupleIsFree
  refine wpAny_bind (wpAny_field hz rfl (x := .none) rfl (wpAny_pure ?_))
  try dsimp only
  rw [if_pos rfl]
  refine wpAny_bind (wpAny_rule ?_)
  refine wpAny_bind (wpAny_field hz rfl (x := .ref TO) rfl ?_)
  try dsimp only
  refine wpAny_bind (setField_zip (f0 := .none) (f1 := .bool false) hz fun ha hza hsa => ?_)
  refine wpAny_bind ?_
  show wpAny _ _ (forIn [(Value.ref i1, 0), (Value.ref i2, 1)] _ _) _ _ _
  rw [List.forIn_cons]
  refine wpAny_bind (wpAny_bind (wpAny_onRaise ?_))
  show wpAny _ _ (Builtin.SmallTypes.nextOf (.ref i1) >>= fun x => pure (some x)) _ _ _
  have h1a : St1 k1 ha := D1.frame _ _ _ h1 fun c hc o q => (hsa.2 c (ap.f1 c hc).1).trans q
  have h2a : St2 k2 ha := D2.frame _ _ _ h2 fun c hc o q => (hsa.2 c (ap.f2 c hc).1).trans q
  rcases hl with rfl | ⟨l1, rfl⟩
  · refine wpAny_bind (D1.done { s with heap := ha } _ _ h1a fun hb e hsb hx => ?_)
    have hzb : hb.get? z = some (zipObj .ellipsis (.bool false) TI TO) := hsb z _ ap.z1 hza
    refine setField_zip (s := { s with heap := hb }) hzb fun hc hzc hsc => ?_
    obtain ⟨o, ho, hcls⟩ := hx
    have hez : e ≠ z := fun q => by
      rw [q, hzb] at ho
      cases ho
      exact absurd (Value.type.inj hcls) (by decide)
    refine wpAny_bind (wpAny_isInstance (s := { s with heap := hc }) (T := "StopIteration") (b := true) ⟨o, (hsc.2 e hez).trans ho, hcls⟩ isSubtype_stop ?_)
    refine wpAny_pure (hQ _ _ fun c o n1 n2 n3 n4 q => (hsc.2 c n1).trans (hsb c o n3 ((hsa.2 c n1).trans q)))
  · refine wpAny_bind (D1.item k1 { s with heap := ha } _ _ l1 h1a fun x hb tk px h1b hsb => wpAny_pure ?_)
    dsimp only
    have hTOb : IsPair hb TO a b := (hsb.2 TO ap.TO1).trans ((hsa.2 TO (Ne.symm ap.zTO)).trans hTO)
    refine wpAny_bind (wpAny_seqItems hTOb rfl ?_)
    dsimp only
    refine wpAny_bind (wpAny_updateSeq_pair (s := { s with heap := hb, toks := tk }) hTOb fun hc hTOc hsc => ?_)
    refine wpAny_bind (wpAny_letGo (wpAny_pure ?_))
    dsimp only
    rw [List.forIn_cons]
    refine wpAny_bind (wpAny_bind (wpAny_onRaise ?_))
    show wpAny _ _ (Builtin.SmallTypes.nextOf (.ref i2) >>= fun x => pure (some x)) _ _ _
    have h2c : St2 k2 hc := D2.frame _ _ _ h2a fun c hc' o q => (hsc.2 c (ap.f2 c hc').2.1).trans ((hsb.2 c (ap.f2 c hc').2.2).trans q)
    refine wpAny_bind (D2.done { s with heap := hc, toks := tk } _ _ h2c fun hd e hsd hx => ?_)
    have hzd : hd.get? z = some (zipObj .ellipsis (.bool false) TI TO) := hsd z _ ap.z2 ((hsc.2 z ap.zTO).trans ((hsb.2 z ap.z1).trans hza))
    refine setField_zip (s := { s with heap := hd, toks := tk }) hzd fun he hze hse => ?_
    obtain ⟨o, ho, hcls⟩ := hx
    have hez : e ≠ z := fun q => by
      rw [q, hzd] at ho
      cases ho
      exact absurd (Value.type.inj hcls) (by decide)
    refine wpAny_bind (wpAny_isInstance (s := { s with heap := he, toks := tk }) (T := "StopIteration") (b := true) ⟨o, (hse.2 e hez).trans ho, hcls⟩ isSubtype_stop ?_)
    refine wpAny_pure (hQ _ _ fun c o n1 n2 n3 n4 q => (hse.2 c n1).trans (hsd c o n4 ((hsc.2 c n2).trans ((hsb.2 c n3).trans ((hsa.2 c n1).trans q)))))
/-- two iterators are made, and a zip of them -/
theorem call_zipD {v1 v2 : Value} {o1 o2 : Obj} {Q : Value → Shared → Prop} (f1 : o1.isFreed = false) (f2 : o2.isFreed = false)
    (g1 : ∀ (A : Around) (E : Value → Shared → Prop) (Q : Value → Shared → Prop), Q (.ref s.heap.objs.size) { s with heap := s.heap.push o1 } → wpAny (model prog w) A (pyIter v1) Q E s)
    (g2 : ∀ (A : Around) (E : Value → Shared → Prop) (Q : Value → Shared → Prop), Q (.ref (s.heap.push o1).objs.size) { s with heap := (s.heap.push o1).push o2 } → wpAny (model prog w) A (pyIter v2) Q E { s with heap := s.heap.push o1 })
    (hQ : ∀ h' : Heap, IsZip h' (s.heap.objs.size + 4) (s.heap.objs.size + 2) (s.heap.objs.size + 3) .none → IsPair h' (s.heap.objs.size + 2) (.ref s.heap.objs.size) (.ref (s.heap.objs.size + 1)) → IsPair h' (s.heap.objs.size + 3) .none .none →
      h'.get? s.heap.objs.size = some o1 → h'.get? (s.heap.objs.size + 1) = some o2 → (∀ c o, s.heap.get? c = some o → h'.get? c = some o) → Q (.ref (s.heap.objs.size + 4)) { s with heap := h' }) :
    wpAny (model prog w) A (call (.type "zip") [v1, v2]) Q E s := by
  let H2 := (s.heap.push o1).push o2
  let H3 := H2.push { cls := Value.type "tuple", data := Data.seq #[Value.ref s.heap.objs.size, Value.ref (s.heap.push o1).objs.size] }
  let H4 := H3.push { cls := Value.type "tuple", data := Data.seq #[Value.none, Value.none] }
  let H5 := H4.push (zipObj .none (.bool false) H2.objs.size H3.objs.size)
  have p1 : (s.heap.push o1).objs.size = s.heap.objs.size + 1 := Heap.size_push ..
  have p2 : H2.objs.size = s.heap.objs.size + 2 := (Heap.size_push ..).trans (by rw [p1])
  have p3 : H3.objs.size = s.heap.objs.size + 3 := (Heap.size_push ..).trans (by rw [p2])
  have p4 : H4.objs.size = s.heap.objs.size + 4 := (Heap.size_push ..).trans (by rw [p3])
  refine callType_codes (Q₁ := fun obj s₁ => obj = .ref H4.objs.size ∧ s₁ = { s with heap := H5 }) F.called_zip (F.typeCall_zip_2 _ _) F.entry_object_init ?_ ?_
  · refine codeAny_of_tree ?_
    show wpAny _ A.in1.in1 (do checkBuiltinCall "zip.__new__" ⟨[.type "zip", v1, v2], []⟩; again (.builtin "zip.__new__" ⟨[.type "zip", v1, v2], []⟩)) _ _ s
    refine wpAny_bind (wpAny_of_eq (F.newCall_zip_2 _ _) (wpAny_pure ⟨plainId_quiet F.called_zip.plain _, codeAny_builtin F.entry_zip_new ?_⟩))
    rw [Around.under_plainId F.called_zip.plain _]
    unfold Builtin.«zip.__new__»
    refine wpAny_bind (wpAny_of_eq (a := (Value.type "zip", [v1, v2])) (by
      unfold Builtin.SmallTypes.newClass
      try dsimp only
      rw [show isType (Value.type "zip") = pure true from rfl, pure_bind]
      try dsimp only
      rw [F.called_zip.sub, pure_bind]
      rfl) ?_)
    try dsimp only
    rw [if_neg (by simp)]
    try dsimp only
    refine wpAny_bind ?_
    unfold Builtin.SmallTypes.iterAll
    try dsimp only
    refine wpAny_bind ?_
    rw [List.forIn_cons]
    refine wpAny_bind (wpAny_bind (wpAny_holding (g1 _ _ _ ?_)))
    refine wpAny_pure ?_
    try dsimp only
    rw [List.forIn_cons]
    refine wpAny_bind (wpAny_bind (wpAny_holding (g2 _ _ _ ?_)))
    refine wpAny_pure ?_
    try dsimp only
    rw [List.forIn_nil]
    refine wpAny_pure (wpAny_pure ?_)
    refine wpAny_bind (wpAny_newTuple (hsz := by simp; decide) ?_)
    refine wpAny_bind (wpAny_newTuple (hsz := by simp; decide) ?_)
    unfold Builtin.SmallTypes.newRecord
    try dsimp only
    refine wpAny_bind (wpAny_newObj_type (hd := by show _ ≤ sizeLine + 2; simp [Builtin.SmallTypes.ownedTupleFields]; decide) ?_)
    exact wpAny_pure ⟨rfl, rfl⟩
  · rintro obj s₁ ⟨rfl, rfl⟩
    have e5 : H5.get? H4.objs.size = some (zipObj .none (.bool false) H2.objs.size H3.objs.size) := Heap.get?_push_size _ rfl
    have k4 : ∀ c o, H4.get? c = some o → H5.get? c = some o := fun c o q => Heap.get?_push_of_some _ q
    have k3 : ∀ c o, H3.get? c = some o → H5.get? c = some o := fun c o q => k4 c o (Heap.get?_push_of_some _ q)
    have k2 : ∀ c o, H2.get? c = some o → H5.get? c = some o := fun c o q => k3 c o (Heap.get?_push_of_some _ q)
    have k1 : ∀ c o, (s.heap.push o1).get? c = some o → H5.get? c = some o := fun c o q => k2 c o (Heap.get?_push_of_some _ q)
    have hT : ({ s with heap := H5 } : Shared).TypeIs (.ref H4.objs.size) "zip" := ⟨_, e5, rfl⟩
    refine ⟨hT, F.args_object_init_3 _ _ _, object_init_meets (T := "zip") F.called_zip.init.lookup F.called_zip.made (by decide) prog w A.in1 _ _ ⟨hT, rfl, ?_⟩⟩
    have q := hQ H5 ?_ ?_ ?_ ?_ ?_ ?_
    · rw [p4]
      exact q
    · rw [← p4, ← p2, ← p3]
      exact e5
    · have : H3.get? H2.objs.size = some { cls := Value.type "tuple", data := Data.seq #[Value.ref s.heap.objs.size, Value.ref (s.heap.push o1).objs.size] } := Heap.get?_push_size _ rfl
      rw [← p1, ← p2]
      exact k3 _ _ this
    · have : H4.get? H3.objs.size = some { cls := Value.type "tuple", data := Data.seq #[Value.none, Value.none] } := Heap.get?_push_size _ rfl
      rw [← p3]
      exact k4 _ _ this
    · exact k1 _ _ (Heap.get?_push_size _ f1)
    · rw [← p1]
      exact k2 _ _ (Heap.get?_push_size _ f2)
    · exact fun c o q => k1 c o (Heap.get?_push_of_some _ q)
end
end PySem
namespace L2
open PySem PySem.Spec PyProof.Rows
section
variable {X : Cx} {pins : List (Addr × Obj)} {σ : St} {H : Hp} {s : Shared} {h' : Heap}
theorem Inv.turnedL {t' : Nat} {ch : List Addr} (I : Inv X pins σ H s) (hf : ∀ b ∈ ch, FpOk X pins H b) (k : ∀ b u, b ∉ ch → s.heap.get? b = some u → h'.get? b = some u) : Inv X pins σ H { s with heap := h', toks := t' } := by
  have nit : ∀ b u, H b = some u → b ∉ ch := fun b u e z => by
    rw [(hf b z).1] at e
    cases e
  refine I.step (g' := s.gens) (d' := s.drawn) (ch := ch) (fun b hb => ⟨(hf b hb).2.2.2.1, (hf b hb).2.1, (hf b hb).2.2.2.2.1, (hf b hb).2.2.2.2.2⟩) (fun b o _ _ hc e _ => k b o hc e) (fun b o _ _ hc e _ => ⟨o.slots, k b o hc e⟩)
    (fun _ _ _ _ n => n) (fun b o hc e => ⟨o, k b o hc e⟩) (fun _ _ e => e) (fun _ _ _ e => e) (fun b ps e => ⟨#[], by rw [e]; simp⟩) (fun m hm => ?_) (fun b u e => ?_) I.bare
  · obtain ⟨o, es, ep, ho, r⟩ := hm
    exact ⟨o, es, ep, k _ o (fun z => (hf _ z).2.1 rfl) ho, r⟩
  · refine (I.hok b u e).stay (fun c v hc q => k c v ?_ q) (fun _ q => q) fun _ _ q => q
    rcases hc with z | z
    · rw [z]
      exact nit b u e
    · exact nit c _ z
end
/-- what a zip may go through: what it holds in a heap of ours, and an iterator of it -/
structure Src (P : Program) (w : World) (K : PySem.W.Frag) (S : Hp → List V → Prop) (it : Addr) (Sn : Nat → Heap → Prop) : Prop where
  obj : ∀ i h, Sn i h → ∃ o n vs, h.get? it = some o ∧ o.cls = .type n ∧ o.data = .fields vs ∧ n ≠ "zip" ∧ n ≠ "tuple" ∧ n ≠ "list"
  keep : ∀ i h h', Sn i h → (∀ o, h.get? it = some o → h'.get? it = some o) → Sn i h'
  inj : ∀ {X : Cx} {pins σ H s xs ys}, X.K = K → Inv X pins σ H s → S H xs → S H ys → xs = ys
  drw : ∀ (X : Cx), X.prog = P → X.w = w → X.K = K → X.calm = true → ∀ (i : Nat) (pins : List (Addr × Obj)) (s : Shared) (σ : St) (H : Hp) (xs : List V), Inv X pins σ H s → S H xs → Sn i s.heap →
    ∃ (fp : List Addr) (Pv : Nat → Value → Prop) (St' : Nat → Heap → Prop), Draws X.prog X.w X.A.in1 it fp xs.length Pv St' ∧ St' i s.heap ∧ (∀ j h, St' j h → Sn j h) ∧ (∀ j x v, xs[j]? = some x → Pv j v → RelV x v) ∧
      ∀ b ∈ fp, b = it ∨ ∃ o, s.heap.get? b = some o ∧ o.cls = .type "list"
theorem src_list {P : Program} {w : World} {K : PySem.W.Frag} (a it : Addr) : Src P w K (fun H xs => SqL K H a xs) it (fun i h => h.IsListIter it a i) where
  obj := fun i h ⟨o, ho, c, d⟩ => ⟨o, _, _, ho, c, d, by decide, by decide, by decide⟩
  keep := fun i h h' st k => st.at fun o q => k o q
  inj := fun hK I h1 h2 => by
    subst hK
    exact I.list_inj h1 h2
  drw := by
    intro X hP hw hK hc i pins s σ H xs I hq st
    subst hP hw hK
    obtain ⟨its, rv, p, hz⟩ := I.list hq
    have hl := p.isList
    have hla : a ≠ it := fun z => by
      obtain ⟨o, ho, c, _⟩ := st
      obtain ⟨o', ho', c', _⟩ := hl
      rw [z, ho] at ho'
      cases ho'
      rw [c] at c'
      exact absurd (Value.type.inj c') (by decide)
    have hsz : its.toArray.size = xs.length := by
      have := rv.length
      simp
      (first | lia | omega)
    refine ⟨[it, a], fun i v => its.toArray[i]? = some v, fun i h => h.IsListIter it a i ∧ h.IsList a its.toArray, ?_, ⟨st, hl⟩, fun j h q => q.1, fun j x v hx hv => ?_, fun b hb => ?_⟩
    · rw [← hsz]
      exact Draws.list (A := X.A.in1) (I.ok.hd hc) it a hla its.toArray
    · obtain ⟨u, hu, ru⟩ := rv.get hx
      have : its.toArray[j]? = some u := by simpa using hu
      have hv' : its.toArray[j]? = some v := hv
      rw [this] at hv'
      cases hv'
      exact ru
    · rcases List.mem_cons.mp hb with rfl | hb
      · exact .inl rfl
      · have e : b = a := by simpa using hb
        subst e
        obtain ⟨o, ho, c, _⟩ := hl
        exact .inr ⟨o, ho, c⟩
/-- the pairs of two sources, as far as both go -/
def Itz (S1 S2 : Hp → List V → Prop) : It :=
  ⟨fun i H => ∃ xs ys, S1 H xs ∧ S2 H ys ∧ i < xs.length ∧ i < ys.length, fun i H x H' => ∃ b u v, x = .ref b ∧ H b = none ∧ H' = upd H b (.tup [u, v]) ∧ ∀ xs ys, S1 H xs → S2 H ys → xs[i]? = some u ∧ ys[i]? = some v,
    fun i H => ∃ xs ys, S1 H xs ∧ S2 H ys ∧ i = min xs.length ys.length⟩
theorem turn_zip {P : Program} {w : World} {K : PySem.W.Frag} {es : List Expr} {x1 : _} {tp : Pos} {S1 S2 : Hp → List V → Prop} {St1 St2 : Nat → Heap → Prop} {z TI TO i1 i2 : Addr} (R1 : Src P w K S1 i1 St1) (R2 : Src P w K S2 i2 St2) (h12 : i1 ≠ i2) (hTT : TI ≠ TO) :
    Turn P w K (.Tuple es x1 tp) (Itz S1 S2) [z, TI, TO, i1, i2] z (fun i h => IsZip h z TI TO .none ∧ IsPair h TI (.ref i1) (.ref i2) ∧ (∃ a b, IsPair h TO a b) ∧ St1 i h ∧ St2 i h) := by
  have ap : ∀ {i : Nat} {h : Heap} {fp1 fp2 : List Addr}, IsZip h z TI TO .none → IsPair h TI (.ref i1) (.ref i2) → (∃ a b, IsPair h TO a b) → St1 i h → St2 i h → (∀ b ∈ fp1, b = i1 ∨ ∃ o, h.get? b = some o ∧ o.cls = .type "list") → (∀ b ∈ fp2, b = i2 ∨ ∃ o, h.get? b = some o ∧ o.cls = .type "list") →
      ZApart z TI TO i1 i2 fp1 fp2 := by
    intro i h fp1 fp2 hz hTI ⟨a, b, hTO⟩ h1 h2 f1 f2
    obtain ⟨o1, n1, v1, e1, c1, d1, n1z, n1t, n1l⟩ := R1.obj i h h1
    obtain ⟨o2, n2, v2, e2, c2, d2, n2z, n2t, n2l⟩ := R2.obj i h h2
    have dif : ∀ {x y : Addr} {ox oy : Obj} {nx ny : String}, h.get? x = some ox → h.get? y = some oy → ox.cls = .type nx → oy.cls = .type ny → nx ≠ ny → x ≠ y := fun ex ey cx cy ne q => by
      subst q
      rw [ex] at ey
      cases ey
      rw [cx] at cy
      exact ne (Value.type.inj cy)
    refine ⟨dif hz hTI rfl rfl (by decide), dif hz hTO rfl rfl (by decide), hTT, dif hz e1 rfl c1 (Ne.symm n1z), dif hz e2 rfl c2 (Ne.symm n2z), dif hTI e1 rfl c1 (Ne.symm n1t), dif hTI e2 rfl c2 (Ne.symm n2t), dif hTO e1 rfl c1 (Ne.symm n1t), dif hTO e2 rfl c2 (Ne.symm n2t), h12, fun c hc => ?_, fun c hc => ?_⟩
    · rcases f1 c hc with rfl | ⟨o, ho, co⟩
      · exact ⟨dif e1 hz c1 rfl n1z, dif e1 hTO c1 rfl n1t, h12⟩
      · exact ⟨dif ho hz co rfl (by decide), dif ho hTO co rfl (by decide), dif ho e2 co c2 (Ne.symm n2l)⟩
    · rcases f2 c hc with rfl | ⟨o, ho, co⟩
      · exact ⟨dif e2 hz c2 rfl n2z, dif e2 hTO c2 rfl n2t, Ne.symm h12⟩
      · exact ⟨dif ho hz co rfl (by decide), dif ho hTO co rfl (by decide), dif ho e1 co c1 (Ne.symm n1l)⟩
  refine ⟨by simp, fun i h ⟨hz, hTI, ⟨a, b, hTO⟩, h1, h2⟩ c hc => ?_, fun i h h' ⟨hz, hTI, ⟨a, b, hTO⟩, h1, h2⟩ k => ?_, ?_, ?_, ?_⟩
  · simp only [List.mem_cons, List.not_mem_nil, or_false] at hc
    obtain ⟨o1, n1, v1, e1, c1, d1, _⟩ := R1.obj i h h1
    obtain ⟨o2, n2, v2, e2, c2, d2, _⟩ := R2.obj i h h2
    rcases hc with rfl | rfl | rfl | rfl | rfl
    · exact ⟨_, hz, fun v q => by cases q⟩
    · exact ⟨_, hTI, fun v q => by cases q⟩
    · exact ⟨_, hTO, fun v q => by cases q⟩
    · exact ⟨o1, e1, fun v q => by rw [d1] at q; cases q⟩
    · exact ⟨o2, e2, fun v q => by rw [d2] at q; cases q⟩
  · exact ⟨k z (by simp) _ hz, k TI (by simp) _ hTI, ⟨a, b, k TO (by simp) _ hTO⟩, R1.keep _ _ _ h1 fun o q => k i1 (by simp) o q, R2.keep _ _ _ h2 fun o q => k i2 (by simp) o q⟩
  · intro X hP hw hK hc i pins s σ H E I hf ⟨hz, hTI, hTO, h1, h2⟩ ⟨xs, ys, q1, q2, l1, l2⟩
    obtain ⟨fp1, P1, St1', D1, t1, b1, r1, f1⟩ := R1.drw X hP hw hK hc i pins s σ H xs I q1 h1
    obtain ⟨fp2, P2, St2', D2, t2, b2, r2, f2⟩ := R2.drw X hP hw hK hc i pins s σ H ys I q2 h2
    have hap := ap hz hTI hTO h1 h2 f1 f2
    obtain ⟨a, b, hTO⟩ := hTO
    subst hP hw
    refine wpAny_pyNext_zipD_item D1 D2 hap hz hTI hTO t1 t2 l1 l2 fun x y h' tk px py hz' hTO' hTI' g1 g2 hn hk => ?_
    refine ⟨_, rfl, wpAny_letOwnedTupleGo_zip (s := { s with heap := h', toks := tk }) hz' fun hh hzh hsh => ?_⟩
    have zlt : z < s.heap.objs.size := Heap.lt_size hz
    have ht2 : hh.get? s.heap.objs.size = some { cls := .type "tuple", data := .seq #[x, y] } := (hsh.2 _ (Nat.ne_of_gt zlt)).trans hn
    have kk : ∀ c o, c ∉ [z, TI, TO, i1, i2] → s.heap.get? c = some o → hh.get? c = some o := fun c o hc q => by
      simp only [List.mem_cons, List.not_mem_nil, or_false, not_or] at hc
      exact (hsh.2 c hc.1).trans (hk c o hc.1 hc.2.2.1 hc.2.2.2.1 hc.2.2.2.2 q)
    obtain ⟨u, hu⟩ : ∃ u, xs[i]? = some u := ⟨xs[i], List.getElem?_eq_getElem l1⟩
    obtain ⟨v, hv⟩ : ∃ v, ys[i]? = some v := ⟨ys[i], List.getElem?_eq_getElem l2⟩
    have I1 : Inv X pins σ (upd H s.heap.objs.size (.tup [u, v])) { s with heap := hh, toks := tk } := by
      refine I.turnLay hf kk (Nat.le_refl _) ⟨by show 2 ≤ sizeLine; decide, [x, y], .cons (r1 i u x hu px) (.cons (r2 i v y hv py) .nil), ?_⟩
      exact ⟨_, ht2, rfl, _, rfl⟩
    have zz : ∀ c o, c ≠ z → h'.get? c = some o → hh.get? c = some o := fun c o n q => (hsh.2 c n).trans q
    refine ⟨.ref s.heap.objs.size, _, I1, rfl, ⟨_, u, v, rfl, I.hok.fresh (Nat.le_refl _), rfl, fun xs' ys' p1 p2 => ?_⟩, ⟨hzh, zz _ _ (Ne.symm hap.zTI) hTI', ⟨_, _, zz _ _ (Ne.symm hap.zTO) hTO'⟩, R1.keep _ _ _ (b1 _ _ g1) fun o q => zz _ _ (Ne.symm hap.z1) q, R2.keep _ _ _ (b2 _ _ g2) fun o q => zz _ _ (Ne.symm hap.z2) q⟩, fun c hc => ?_⟩
    · rw [R1.inj hK I p1 q1, R2.inj hK I p2 q2]
      exact ⟨hu, hv⟩
    · have hc0 := (hf c hc).1
      rw [upd_ne]
      · exact hc0
      · intro q
        obtain ⟨o1, n1, v1, e1, _⟩ := R1.obj i _ h1
        obtain ⟨o2, n2, v2, e2, _⟩ := R2.obj i _ h2
        have lt : c < s.heap.objs.size := by
          simp only [List.mem_cons, List.not_mem_nil, or_false] at hc
          rcases hc with rfl | rfl | rfl | rfl | rfl
          · exact zlt
          · exact Heap.lt_size hTI
          · exact Heap.lt_size hTO
          · exact Heap.lt_size e1
          · exact Heap.lt_size e2
        exact absurd lt (by rw [q]; exact Nat.lt_irrefl _)
  · intro X hP hw hK hc i pins s σ H E I hf ⟨hz, hTI, hTO, h1, h2⟩ ⟨xs, ys, q1, q2, le⟩
    obtain ⟨fp1, P1, St1', D1, t1, b1, r1, f1⟩ := R1.drw X hP hw hK hc i pins s σ H xs I q1 h1
    obtain ⟨fp2, P2, St2', D2, t2, b2, r2, f2⟩ := R2.drw X hP hw hK hc i pins s σ H ys I q2 h2
    have hap := ap hz hTI hTO h1 h2 f1 f2
    obtain ⟨a, b, hTO⟩ := hTO
    subst hP hw
    refine wpAny_pyNext_zipD_end D1 D2 hap hz hTI hTO t1 t2 (by (first | lia | omega)) fun h' tk hk => ⟨rfl, ?_⟩
    refine I.turnedL (t' := tk) hf fun c o hc q => ?_
    simp only [List.mem_cons, List.not_mem_nil, or_false, not_or] at hc
    exact hk c o hc.1 hc.2.2.1 hc.2.2.2.1 hc.2.2.2.2 q
  · intro A i s Q E ⟨hz, _⟩ q
    exact wpAny_pyIter_zip hz q
/-- zip of a list and a list -/
def iZipLL (K : PySem.W.Frag) (ta : TA) : TI := fun σ H R => ta σ H fun vs H1 => ∃ a b, vs = [.ref a, .ref b] ∧ (∃ xs, SqL K H1 a xs) ∧ (∃ ys, SqL K H1 b ys) ∧ R (Itz (fun H xs => SqL K H a xs) (fun H xs => SqL K H b xs)) H1
theorem pi_zip {X : Cx} {es : List Expr} {x1 : _} {tp : Pos} {σ : St} {H1 : Hp} {pins : List (Addr × Obj)} {s1 : Shared} {v1 v2 : Value} {o1 o2 : Obj} {S1 S2 : Hp → List V → Prop} {St1 St2 : Nat → Heap → Prop} {R : It → Hp → Prop} (I1 : Inv X pins σ H1 s1)
    (f1 : o1.isFreed = false) (f2 : o2.isFreed = false)
    (g1 : ∀ (A : Around) (E : Value → Shared → Prop) (Q : Value → Shared → Prop), Q (.ref s1.heap.objs.size) { s1 with heap := s1.heap.push o1 } → wpAny (model X.prog X.w) A (pyIter v1) Q E s1)
    (g2 : ∀ (A : Around) (E : Value → Shared → Prop) (Q : Value → Shared → Prop), Q (.ref (s1.heap.push o1).objs.size) { s1 with heap := (s1.heap.push o1).push o2 } → wpAny (model X.prog X.w) A (pyIter v2) Q E { s1 with heap := s1.heap.push o1 })
    (R1 : Src X.prog X.w X.K S1 s1.heap.objs.size St1) (R2 : Src X.prog X.w X.K S2 (s1.heap.objs.size + 1) St2) (t1 : ∀ h : Heap, h.get? s1.heap.objs.size = some o1 → St1 0 h) (t2 : ∀ h : Heap, h.get? (s1.heap.objs.size + 1) = some o2 → St2 0 h) (q : R (Itz S1 S2) H1) :
    wpAny (model X.prog X.w) X.A (call (.type "zip") [v1, v2]) (fun v s2 => wpAny (model X.prog X.w) X.A (pyIter v) (PIE X pins σ (.Tuple es x1 tp) R) X.xe s2) X.xe s1 := by
  refine call_zipD f1 f2 g1 g2 fun h' hz hTI hTO e1 e2 hk => ?_
  have I2 : Inv X pins σ H1 { s1 with heap := h' } := I1.kept (t' := s1.toks) hk
  refine wpAny_pyIter_zip (s := { s1 with heap := h' }) hz ?_
  refine ⟨_, [s1.heap.objs.size + 4, s1.heap.objs.size + 2, s1.heap.objs.size + 3, s1.heap.objs.size, s1.heap.objs.size + 1], _, _, H1, rfl, I2, turn_zip (z := s1.heap.objs.size + 4) (TI := s1.heap.objs.size + 2) (TO := s1.heap.objs.size + 3) R1 R2 (Nat.ne_of_lt (Nat.lt_succ_self _)) (Nat.ne_of_lt (Nat.lt_succ_self _)), ⟨hz, hTI, ⟨_, _, hTO⟩, t1 _ e1, t2 _ e2⟩, fun c hc => ?_, q⟩
  have le : s1.heap.objs.size ≤ c := by
    simp only [List.mem_cons, List.not_mem_nil, or_false] at hc
    rcases hc with rfl | rfl | rfl | rfl | rfl
    · exact Nat.le_add_right _ _
    · exact Nat.le_add_right _ _
    · exact Nat.le_add_right _ _
    · exact Nat.le_refl _
    · exact Nat.le_add_right _ _
  exact I1.fpOk le (I1.hok.fresh le)
section
variable {X : Cx} {a b : Expr} {es : List Expr} {x1 : _} {tp p pos : Pos} {ta : TA}
theorem pi_zipLL (hg : Gl X "zip") (hm : X.mg "zip" = none) (ha : PA X [a, b] ta) (hs : starEach [a, b] X.env = (false, eval a X.env) :: starEach [b] X.env := by rfl) (hs2 : starEach [b] X.env = [(false, eval b X.env)] := by rfl) : PI X (.Tuple es x1 tp) (.Call (.Name "zip" p) [a, b] [] pos) (iZipLL X.K ta) := by
  intro pins s σ H R I h
  refine Call_ (ld_blt I hg hm boot_zip (PyProof.Rows.callWith_type1 (thn (ha pos pins s σ H _ I h) fun us s1 ⟨vs, H1, I1, r1, q1⟩ => ?_) (by rw [hs, hs2]) (by rw [hs2]; rfl)))
  obtain ⟨l1, l2, rfl, ⟨xs, hx⟩, ⟨ys, hy⟩, q⟩ := q1
  obtain ⟨u1, u2, rfl, ru1, ru2⟩ := vals2 r1
  cases (show u1 = Value.ref l1 from ru1)
  cases (show u2 = Value.ref l2 from ru2)
  obtain ⟨its1, _, p1, _⟩ := I1.list hx
  obtain ⟨its2, _, p2, _⟩ := I1.list hy
  exact pi_zip (o1 := { cls := Value.type "list_iterator", data := Data.fields #[Value.ref l1, Value.int 0 0] }) (o2 := { cls := Value.type "list_iterator", data := Data.fields #[Value.ref l2, Value.int 0 0] }) I1 rfl rfl (fun A E Q h => wpAny_pyIter_list p1.isList h)
    (fun A E Q h => wpAny_pyIter_list (s := { s1 with heap := s1.heap.push _ }) (p2.isList.at fun o e => Heap.get?_push_of_some _ e) h) (src_list l1 _) (src_list l2 _) (fun h e => ⟨_, e, rfl, rfl⟩) (fun h e => ⟨_, e, rfl, rfl⟩) q
end
end L2

namespace WM
/-! ### turns, the first step coming behind the last one -/
end WM

namespace WM
/-! ### where a walk goes, its beginning left out -/
/-! ### straight on -/
/-! ### bars, the last one first -/
/-! ### its squares -/
/-! ### each place once -/
end WM

namespace WM
/-! ### the turns of a walk that goes from east over north and west to south, back and forth -/
/-! ### how many steps -/
end WM

namespace WM
/-! ### the four squares at a place that isn't come to -/
/-! ### turned, mirrored, backwards, begun elsewhere -/
/-! ### squares -/
end WM

namespace WM
/-! ### sums over lists of squares -/
/-! ### a box of squares -/
end WM

namespace WM
/-! ### the steps north and south: row, first number, way -/
end WM
namespace WM
end WM

set_option Elab.async false
set_option linter.all false
set_option maxRecDepth 100000
set_option maxHeartbeats 4000000
namespace SW
open PySem L2 WM
/-! ### triples as data -/
theorem paired_get {α β : Type} {S : α → β → Prop} : ∀ {as : List α} {bs : List β} {i : Nat} {a : α}, Paired S as bs → as[i]? = some a → ∃ b, bs[i]? = some b ∧ S a b
  | _, _, _, _, .nil, e => by simp at e
  | _, _, 0, _, .cons h _, e => by
    simp at e
    subst e
    exact ⟨_, rfl, h⟩
  | _, _, i + 1, x, .cons _ t, e => by
    obtain ⟨b, h1, h2⟩ := paired_get (i := i) t (by simpa using e)
    exact ⟨b, by simpa using h1, h2⟩
theorem map_ref_get {as : List Addr} {i : Nat} {x : V} (h : (as.map V.ref)[i]? = some x) : ∃ a, as[i]? = some a ∧ x = .ref a := by
  rw [List.getElem?_map] at h
  cases e : as[i]? with
  | none => rw [e] at h; cases h
  | some a => rw [e] at h; exact ⟨a, rfl, (Option.some.inj h).symm⟩
end SW
namespace SW
open WM
end SW

set_option linter.all false
set_option maxRecDepth 100000
set_option maxHeartbeats 4000000
namespace TS
open PySem PyProof.Rows
def gallop' : Bool → Keyed → Array Keyed → Nat → Nat → Nat → StateT SortSt Sem (Option Nat) := sortPriv% PySem.Builtin.gallop
def mergeLo' : Array Keyed → Array Keyed → StateT SortSt Sem (Array Keyed) := sortPriv% PySem.Builtin.mergeLo
def mergeHi' : Array Keyed → Array Keyed → StateT SortSt Sem (Array Keyed) := sortPriv% PySem.Builtin.mergeHi
def setG (st : SortSt) (g : Nat) : SortSt := SortSt.mk' (kindOf st) (arrOf st) (pendingOf st) g (failedOf st)
def setMin (g : Nat) : StateT SortSt Sem Unit := modify fun s => setG s g
/-- one look of the gallop -/
def beyond (left : Bool) (key : Keyed) (arr : Array Keyed) (base i : Nat) : StateT SortSt Sem (Option Bool) :=
  elem' arr (base + i) >>= fun x => if left then lt' x key else lt' key x >>= fun r => pure (r.map fun c => !c)
end TS

set_option linter.all false
set_option maxRecDepth 100000
set_option maxHeartbeats 4000000
namespace TS
open PySem PyProof.Rows
structure Cmp (prog : Program) (w : World) (A : Around) (s : Shared) (κ : SortKind) (D : Keyed → Prop) (R : Keyed → Keyed → Bool) : Prop where
  ask : ∀ x y, D x → D y → ∀ (E : Value → Shared → Prop) (st : SortSt) (Q : Option Bool → SortSt → Prop), kindOf st = κ → Q (some (R x y)) st → wpS (model prog w) A E s (lt' x y) Q st
  asym : ∀ x y, D x → D y → R x y = true → R y x = false
  neg : ∀ x y z, D x → D y → D z → R x y = false → R y z = false → R x z = false
section
variable {prog : Program} {w : World} {A : Around} {E : Value → Shared → Prop} {s : Shared} {κ : SortKind} {D : Keyed → Prop} {R : Keyed → Keyed → Bool}
def bey (R : Keyed → Keyed → Bool) (left : Bool) (key x : Keyed) : Bool := if left then R x key else !R key x
theorem wpS_elem {arr : Array Keyed} {i : Nat} {x : Keyed} {st : SortSt} {Q : Keyed → SortSt → Prop} (hx : arr[i]? = some x) (h : Q x st) : wpS (model prog w) A E s (elem' arr i) Q st := by
  rw [elem'_eq, hx]
  exact wpS_pure h
theorem wpS_beyond (C : Cmp prog w A s κ D R) {left : Bool} {key x : Keyed} {arr : Array Keyed} {base i : Nat} {st : SortSt} {Q : Option Bool → SortSt → Prop} (hk : kindOf st = κ) (hkey : D key) (hx : arr[base + i]? = some x) (hD : D x)
    (h : Q (some (bey R left key x)) st) : wpS (model prog w) A E s (beyond left key arr base i) Q st := by
  unfold beyond
  refine wpS_bind (wpS_elem hx ?_)
  unfold bey at h
  cases left with
  | true =>
    simp only [if_true] at h ⊢
    exact C.ask _ _ hD hkey E st Q hk h
  | false =>
    simp only [Bool.false_eq_true, if_false] at h ⊢
    exact wpS_bind (C.ask _ _ hkey hD E st _ hk (wpS_pure h))
structure Gal (D : Keyed → Prop) (R : Keyed → Keyed → Bool) (left : Bool) (key : Keyed) (arr : Array Keyed) (base n k : Nat) : Prop where
  le : k ≤ n
  dk : D key
  at_ : ∀ i, i < n → ∃ x, arr[base + i]? = some x ∧ D x ∧ bey R left key x = decide (i < k)
theorem wpS_gallop (C : Cmp prog w A s κ D R) {left : Bool} {key : Keyed} {arr : Array Keyed} {base n hint k : Nat} {st : SortSt} {Q : Option Nat → SortSt → Prop} (G : Gal D R left key arr base n k) (hh : hint < n) (hk : kindOf st = κ)
    (h : Q (some k) st) : wpS (model prog w) A E s (gallop' left key arr base n hint) Q st := by
  have ask : ∀ i, i < n → ∀ (Q' : Option Bool → SortSt → Prop), Q' (some (decide (i < k))) st → wpS (model prog w) A E s (beyond left key arr base i) Q' st := by
    intro i hi Q' hq
    obtain ⟨x, hx, hD, e⟩ := G.at_ i hi
    exact wpS_beyond C hk G.dk hx hD (by rw [e]; exact hq)
  have hkn := G.le
  refine wpS_bind (ask hint hh _ ?_)
  dsimp only
  by_cases hr : hint < k
  · rw [decide_eq_true hr, if_pos rfl]
    refine wpS_bind (wpS_mono (wpS_forRange (I := fun x c st' => st' = st ∧ ∃ last ofs, c = (none, last, ofs) ∧ hint + last < k ∧ last < ofs ∧ x + 1 ≤ ofs) (Q := fun c st' => st' = st ∧ ∃ last ofs, c = (none, last, ofs) ∧ hint + last < k ∧ last < ofs ∧ (n - hint ≤ ofs ∨ k ≤ hint + ofs)) ?step ?fin ⟨rfl, 0, 1, rfl, by (first | lia | omega), by (first | lia | omega), by (first | lia | omega)⟩) ?post)
    case step =>
      rintro x c st' _ hx ⟨rfl, last, ofs, rfl, g1, g2, g3⟩
      dsimp only
      by_cases hge : ofs ≥ n - hint
      · rw [if_pos hge]
        exact wpS_pure ⟨rfl, last, ofs, rfl, g1, g2, .inl hge⟩
      · rw [if_neg hge]
        refine wpS_bind (ask _ (by (first | lia | omega)) _ ?_)
        dsimp only
        by_cases hm : hint + ofs < k
        · rw [decide_eq_true hm]
          simp only [Bool.not_true, Bool.false_eq_true, if_false]
          exact wpS_pure ⟨rfl, _, _, rfl, hm, by (first | lia | omega), by (first | lia | omega)⟩
        · rw [decide_eq_false hm]
          simp only [Bool.not_false, if_true]
          exact wpS_pure ⟨rfl, last, ofs, rfl, g1, g2, .inr (by (first | lia | omega))⟩
    case fin =>
      rintro c st' ⟨rfl, last, ofs, rfl, g1, g2, g3⟩
      exact ⟨rfl, last, ofs, rfl, g1, g2, .inl (by (first | lia | omega))⟩
    case post =>
      rintro c st' ⟨est, last, ofs, rfl, g1, g2, g3⟩
      subst st'
      dsimp only
      refine wpS_bind (wpS_mono (wpS_forRange (I := fun x c st' => st' = st ∧ ∃ lo hi, c = (none, lo, hi) ∧ lo ≤ k ∧ k ≤ hi ∧ hi ≤ n ∧ hi - lo ≤ n - x) (Q := fun c st' => st' = st ∧ c = (none, k, k)) ?stp ?fin2 ⟨rfl, hint + last + 1, hint + min ofs (n - hint), rfl, by (first | lia | omega), by (first | lia | omega), by (first | lia | omega), by (first | lia | omega)⟩) ?post2)
      case stp =>
        rintro x c st' _ hx ⟨rfl, lo, hi, rfl, g1, g2, g3, g4⟩
        dsimp only
        by_cases hge : lo ≥ hi
        · rw [if_pos hge]
          refine wpS_pure ⟨rfl, ?_⟩
          have e1 : lo = k := by (first | lia | omega)
          have e2 : hi = k := by (first | lia | omega)
          rw [e1, e2]
        · rw [if_neg hge]
          refine wpS_bind (ask _ (by (first | lia | omega)) _ ?_)
          dsimp only
          by_cases hm : lo + (hi - lo) / 2 < k
          · rw [decide_eq_true hm, if_pos rfl]
            exact wpS_pure ⟨rfl, _, _, rfl, by (first | lia | omega), g2, g3, by (first | lia | omega)⟩
          · rw [decide_eq_false hm, if_neg Bool.false_ne_true]
            exact wpS_pure ⟨rfl, _, _, rfl, g1, by (first | lia | omega), by (first | lia | omega), by (first | lia | omega)⟩
      case fin2 =>
        rintro c st' ⟨rfl, lo, hi, rfl, g1, g2, g3, g4⟩
        refine ⟨rfl, ?_⟩
        have e1 : lo = k := by (first | lia | omega)
        have e2 : hi = k := by (first | lia | omega)
        rw [e1, e2]
      case post2 =>
        rintro c st' ⟨rfl, rfl⟩
        exact wpS_pure h
  · rw [decide_eq_false hr, if_neg Bool.false_ne_true]
    refine wpS_bind (wpS_mono (wpS_forRange (I := fun x c st' => st' = st ∧ ∃ last ofs, c = (none, last, ofs) ∧ k + last ≤ hint ∧ last < ofs ∧ x + 1 ≤ ofs) (Q := fun c st' => st' = st ∧ ∃ last ofs, c = (none, last, ofs) ∧ k + last ≤ hint ∧ last < ofs ∧ (hint + 1 ≤ ofs ∨ (ofs ≤ hint ∧ hint - ofs < k))) ?step ?fin ⟨rfl, 0, 1, rfl, by (first | lia | omega), by (first | lia | omega), by (first | lia | omega)⟩) ?post)
    case step =>
      rintro x c st' _ hx ⟨rfl, last, ofs, rfl, g1, g2, g3⟩
      dsimp only
      by_cases hge : ofs ≥ hint + 1
      · rw [if_pos hge]
        exact wpS_pure ⟨rfl, last, ofs, rfl, g1, g2, .inl hge⟩
      · rw [if_neg hge]
        refine wpS_bind (ask _ (by (first | lia | omega)) _ ?_)
        dsimp only
        by_cases hm : hint - ofs < k
        · rw [decide_eq_true hm, if_pos rfl]
          exact wpS_pure ⟨rfl, last, ofs, rfl, g1, g2, .inr ⟨by (first | lia | omega), hm⟩⟩
        · rw [decide_eq_false hm, if_neg Bool.false_ne_true]
          exact wpS_pure ⟨rfl, _, _, rfl, by (first | lia | omega), by (first | lia | omega), by (first | lia | omega)⟩
    case fin =>
      rintro c st' ⟨rfl, last, ofs, rfl, g1, g2, g3⟩
      exact ⟨rfl, last, ofs, rfl, g1, g2, .inl (by (first | lia | omega))⟩
    case post =>
      rintro c st' ⟨est, last, ofs, rfl, g1, g2, g3⟩
      subst st'
      dsimp only
      refine wpS_bind (wpS_mono (wpS_forRange (I := fun x c st' => st' = st ∧ ∃ lo hi, c = (none, lo, hi) ∧ lo ≤ k ∧ k ≤ hi ∧ hi ≤ n ∧ hi - lo ≤ n - x) (Q := fun c st' => st' = st ∧ c = (none, k, k)) ?stp ?fin2 ⟨rfl, hint + 1 - min ofs (hint + 1), hint - last, rfl, by (first | lia | omega), by (first | lia | omega), by (first | lia | omega), by (first | lia | omega)⟩) ?post2)
      case stp =>
        rintro x c st' _ hx ⟨rfl, lo, hi, rfl, g1, g2, g3, g4⟩
        dsimp only
        by_cases hge : lo ≥ hi
        · rw [if_pos hge]
          refine wpS_pure ⟨rfl, ?_⟩
          have e1 : lo = k := by (first | lia | omega)
          have e2 : hi = k := by (first | lia | omega)
          rw [e1, e2]
        · rw [if_neg hge]
          refine wpS_bind (ask _ (by (first | lia | omega)) _ ?_)
          dsimp only
          by_cases hm : lo + (hi - lo) / 2 < k
          · rw [decide_eq_true hm, if_pos rfl]
            exact wpS_pure ⟨rfl, _, _, rfl, by (first | lia | omega), g2, g3, by (first | lia | omega)⟩
          · rw [decide_eq_false hm, if_neg Bool.false_ne_true]
            exact wpS_pure ⟨rfl, _, _, rfl, g1, by (first | lia | omega), by (first | lia | omega), by (first | lia | omega)⟩
      case fin2 =>
        rintro c st' ⟨rfl, lo, hi, rfl, g1, g2, g3, g4⟩
        refine ⟨rfl, ?_⟩
        have e1 : lo = k := by (first | lia | omega)
        have e2 : hi = k := by (first | lia | omega)
        rw [e1, e2]
      case post2 =>
        rintro c st' ⟨rfl, rfl⟩
        exact wpS_pure h
end
end TS

set_option linter.all false
set_option maxRecDepth 100000
set_option maxHeartbeats 4000000
namespace TS
open PySem PyProof.Rows
/-! ### lists that rise -/
section
variable {D : Keyed → Prop} {R : Keyed → Keyed → Bool}
def le (R : Keyed → Keyed → Bool) (x y : Keyed) : Prop := R y x = false
def Srt (R : Keyed → Keyed → Bool) (l : List Keyed) : Prop := l.Pairwise (le R)
/-- what the merges ask of the order -/
structure Wk (D : Keyed → Prop) (R : Keyed → Keyed → Bool) : Prop where
  asym : ∀ x y, D x → D y → R x y = true → R y x = false
  neg : ∀ x y z, D x → D y → D z → R x y = false → R y z = false → R x z = false
theorem Wk.trans (W : Wk D R) {x y z : Keyed} (hx : D x) (hy : D y) (hz : D z) (h1 : le R x y) (h2 : le R y z) : le R x z := W.neg z y x hz hy hx h2 h1
theorem Wk.of_lt (W : Wk D R) {x y : Keyed} (hx : D x) (hy : D y) (h : R x y = true) : le R x y := W.asym x y hx hy h
theorem Wk.refl (W : Wk D R) {x : Keyed} (hx : D x) : le R x x := by
  unfold le
  cases h : R x x with
  | false => rfl
  | true => exact absurd (W.asym x x hx hx h) (by rw [h]; simp)
theorem srt_at {l : List Keyed} (h : Srt R l) {i j : Nat} {x y : Keyed} (hij : i < j) (hx : l[i]? = some x) (hy : l[j]? = some y) : le R x y := by
  obtain ⟨hi, rfl⟩ := List.getElem?_eq_some_iff.mp hx
  obtain ⟨hj, rfl⟩ := List.getElem?_eq_some_iff.mp hy
  exact List.pairwise_iff_getElem.mp h i j hi hj hij
theorem srt_at' (W : Wk D R) {l : List Keyed} (hD : ∀ x ∈ l, D x) (h : Srt R l) {i j : Nat} {x y : Keyed} (hij : i ≤ j) (hx : l[i]? = some x) (hy : l[j]? = some y) : le R x y := by
  rcases Nat.lt_or_eq_of_le hij with z | rfl
  · exact srt_at h z hx hy
  · rw [hx] at hy
    cases hy
    exact W.refl (hD x (List.mem_of_getElem? hx))
theorem srt_drop {l : List Keyed} (h : Srt R l) (n : Nat) : Srt R (l.drop n) := h.sublist (List.drop_sublist n l)
theorem srt_take {l : List Keyed} (h : Srt R l) (n : Nat) : Srt R (l.take n) := h.sublist (List.take_sublist n l)
theorem drop_cons {l : List Keyed} {i : Nat} {x : Keyed} (h : l[i]? = some x) : l.drop i = x :: l.drop (i + 1) := by
  obtain ⟨hi, rfl⟩ := List.getElem?_eq_some_iff.mp h
  exact List.drop_eq_getElem_cons hi
theorem take_snoc {l : List Keyed} {i : Nat} {x : Keyed} (h : l[i]? = some x) : l.take (i + 1) = l.take i ++ [x] := by
  rw [List.take_add_one, h]
  rfl
/-- where a falling test falls -/
theorem cut_at : ∀ (n : Nat) {f : Nat → Bool}, (∀ i j, i ≤ j → j < n → f j = true → f i = true) → ∃ k, k ≤ n ∧ ∀ i, i < n → f i = decide (i < k)
  | 0, _, _ => ⟨0, Nat.le_refl _, fun i hi => absurd hi (Nat.not_lt_zero _)⟩
  | n + 1, f, h => by
    obtain ⟨k, hk, hc⟩ := cut_at n (f := f) fun i j hij hj => h i j hij (by (first | lia | omega))
    cases hn : f n with
    | true =>
      refine ⟨n + 1, Nat.le_refl _, fun i hi => ?_⟩
      rw [h i n (by (first | lia | omega)) (by (first | lia | omega)) hn, decide_eq_true hi]
    | false =>
      refine ⟨k, by (first | lia | omega), fun i hi => ?_⟩
      rcases Nat.lt_or_ge i n with z | z
      · exact hc i z
      · have : i = n := by (first | lia | omega)
        subst this
        rw [hn, decide_eq_false (by (first | lia | omega))]
/-! ### merging upwards -/
/-- what has been put out, how far both have been taken -/
structure Up (D : Keyed → Prop) (R : Keyed → Keyed → Bool) (la lb o : List Keyed) (ia ib : Nat) : Prop where
  perm : o.Perm (la.take ia ++ lb.take ib)
  srt : Srt R o
  low : ∀ x ∈ o, ∀ y ∈ la.drop ia ++ lb.drop ib, le R x y
/-- both lists -/
structure Two (D : Keyed → Prop) (R : Keyed → Keyed → Bool) (la lb : List Keyed) : Prop where
  wk : Wk D R
  da : ∀ x ∈ la, D x
  db : ∀ x ∈ lb, D x
  sa : Srt R la
  sb : Srt R lb
  first : ∀ y, lb[0]? = some y → ∀ x ∈ la, le R y x
  last : ∀ x, la[la.length - 1]? = some x → ∀ y ∈ lb, le R y x
variable {la lb o : List Keyed} {ia ib : Nat}
theorem Up.pushB (T : Two D R la lb) (U : Up D R la lb o ia ib) {x : Keyed} (hx : lb[ib]? = some x) (h : ∀ y, la[ia]? = some y → le R x y) : Up D R la lb (o ++ [x]) ia (ib + 1) := by
  have hxD := T.db x (List.mem_of_getElem? hx)
  refine ⟨?_, ?_, ?_⟩
  · rw [take_snoc hx, ← List.append_assoc]
    exact U.perm.append_right _
  · refine List.pairwise_append.mpr ⟨U.srt, List.pairwise_singleton _ _, fun y hy z hz => ?_⟩
    rw [List.mem_singleton.mp hz]
    refine U.low y hy x (List.mem_append_right _ ?_)
    rw [drop_cons hx]
    exact List.mem_cons_self
  · intro y hy z hz
    rcases List.mem_append.mp hy with hy | hy
    · refine U.low y hy z ?_
      rcases List.mem_append.mp hz with hz | hz
      · exact List.mem_append_left _ hz
      · refine List.mem_append_right _ ?_
        rw [drop_cons hx]
        exact List.mem_cons_of_mem _ hz
    · rw [List.mem_singleton.mp hy]
      rcases List.mem_append.mp hz with hz | hz
      · obtain ⟨j, hj, rfl⟩ := List.mem_iff_getElem.mp hz
        have hlen : ia < la.length := by
          rw [List.length_drop] at hj
          (first | lia | omega)
        have h1 := h la[ia] (List.getElem?_eq_getElem hlen)
        have ej : (la.drop ia)[j]? = la[ia + j]? := List.getElem?_drop
        have h2 : le R la[ia] (la.drop ia)[j] := srt_at' T.wk T.da T.sa (Nat.le_add_right ia j) (List.getElem?_eq_getElem hlen) (by rw [← ej]; exact List.getElem?_eq_getElem hj)
        exact T.wk.trans hxD (T.da _ (List.getElem_mem _)) (T.da _ (List.mem_of_mem_drop (List.getElem_mem _))) h1 h2
      · obtain ⟨j, hj, rfl⟩ := List.mem_iff_getElem.mp hz
        have ej : (lb.drop (ib + 1))[j]? = lb[ib + 1 + j]? := List.getElem?_drop
        exact srt_at T.sb (by (first | lia | omega) : ib < ib + 1 + j) hx (by rw [← ej]; exact List.getElem?_eq_getElem hj)
theorem Up.pushA (T : Two D R la lb) (U : Up D R la lb o ia ib) {x : Keyed} (hx : la[ia]? = some x) (h : ∀ y, lb[ib]? = some y → le R x y) : Up D R la lb (o ++ [x]) (ia + 1) ib := by
  have hxD := T.da x (List.mem_of_getElem? hx)
  refine ⟨?_, ?_, ?_⟩
  · rw [take_snoc hx]
    refine (U.perm.append_right _).trans ?_
    rw [List.append_assoc, List.append_assoc]
    exact List.Perm.append_left _ List.perm_append_comm
  · refine List.pairwise_append.mpr ⟨U.srt, List.pairwise_singleton _ _, fun y hy z hz => ?_⟩
    rw [List.mem_singleton.mp hz]
    refine U.low y hy x (List.mem_append_left _ ?_)
    rw [drop_cons hx]
    exact List.mem_cons_self
  · intro y hy z hz
    rcases List.mem_append.mp hy with hy | hy
    · refine U.low y hy z ?_
      rcases List.mem_append.mp hz with hz | hz
      · refine List.mem_append_left _ ?_
        rw [drop_cons hx]
        exact List.mem_cons_of_mem _ hz
      · exact List.mem_append_right _ hz
    · rw [List.mem_singleton.mp hy]
      rcases List.mem_append.mp hz with hz | hz
      · obtain ⟨j, hj, rfl⟩ := List.mem_iff_getElem.mp hz
        have ej : (la.drop (ia + 1))[j]? = la[ia + 1 + j]? := List.getElem?_drop
        exact srt_at T.sa (by (first | lia | omega) : ia < ia + 1 + j) hx (by rw [← ej]; exact List.getElem?_eq_getElem hj)
      · obtain ⟨j, hj, rfl⟩ := List.mem_iff_getElem.mp hz
        have hlen : ib < lb.length := by
          rw [List.length_drop] at hj
          (first | lia | omega)
        have h1 := h lb[ib] (List.getElem?_eq_getElem hlen)
        have ej : (lb.drop ib)[j]? = lb[ib + j]? := List.getElem?_drop
        have h2 : le R lb[ib] (lb.drop ib)[j] := srt_at' T.wk T.db T.sb (Nat.le_add_right ib j) (List.getElem?_eq_getElem hlen) (by rw [← ej]; exact List.getElem?_eq_getElem hj)
        exact T.wk.trans hxD (T.db _ (List.getElem_mem _)) (T.db _ (List.mem_of_mem_drop (List.getElem_mem _))) h1 h2
theorem take_drop_succ {l : List Keyed} {i k : Nat} {x : Keyed} (h : l[i + k]? = some x) : (l.drop i).take (k + 1) = (l.drop i).take k ++ [x] := by
  rw [List.take_add_one, List.getElem?_drop, h]
  rfl
theorem Up.manyA (T : Two D R la lb) (U : Up D R la lb o ia ib) {y : Keyed} (hy : lb[ib]? = some y) : ∀ (k : Nat), ia + k ≤ la.length → (∀ i x, i < k → la[ia + i]? = some x → le R x y) → Up D R la lb (o ++ (la.drop ia).take k) (ia + k) ib
  | 0, _, _ => by simpa using U
  | k + 1, hl, h => by
    have ih := U.manyA T hy k (by (first | lia | omega)) fun i x hi => h i x (by (first | lia | omega))
    have hk : ia + k < la.length := by (first | lia | omega)
    have hx := List.getElem?_eq_getElem hk
    rw [take_drop_succ hx, ← List.append_assoc]
    refine ih.pushA T hx fun z hz => ?_
    rw [hy] at hz
    cases hz
    exact h k _ (by (first | lia | omega)) hx
theorem Up.manyB (T : Two D R la lb) (U : Up D R la lb o ia ib) {y : Keyed} (hy : la[ia]? = some y) : ∀ (k : Nat), ib + k ≤ lb.length → (∀ i x, i < k → lb[ib + i]? = some x → le R x y) → Up D R la lb (o ++ (lb.drop ib).take k) ia (ib + k)
  | 0, _, _ => by simpa using U
  | k + 1, hl, h => by
    have ih := U.manyB T hy k (by (first | lia | omega)) fun i x hi => h i x (by (first | lia | omega))
    have hk : ib + k < lb.length := by (first | lia | omega)
    have hx := List.getElem?_eq_getElem hk
    rw [take_drop_succ hx, ← List.append_assoc]
    refine ih.pushB T hx fun z hz => ?_
    rw [hy] at hz
    cases hz
    exact h k _ (by (first | lia | omega)) hx
/-- what is wanted of a merge -/
def Mrg (R : Keyed → Keyed → Bool) (la lb m : List Keyed) : Prop := m.Perm (la ++ lb) ∧ Srt R m
theorem Up.start (T : Two D R la lb) {y : Keyed} (hy : lb[0]? = some y) : Up D R la lb [y] 0 1 := by
  have U0 : Up D R la lb [] 0 0 := ⟨by simp, List.Pairwise.nil, fun _ h => nomatch h⟩
  exact U0.pushB T hy fun x hx => T.first y hy x (List.mem_of_getElem? hx)
theorem perm_rest {o : List Keyed} (h : o.Perm (la.take ia ++ lb.take ib)) : (o ++ la.drop ia ++ lb.drop ib).Perm (la ++ lb) := by
  have e : (la ++ lb).Perm (la.take ia ++ lb.take ib ++ (la.drop ia ++ lb.drop ib)) := by
    have h1 : la ++ lb = la.take ia ++ la.drop ia ++ (lb.take ib ++ lb.drop ib) := by rw [List.take_append_drop, List.take_append_drop]
    rw [h1, List.append_assoc, List.append_assoc]
    refine List.Perm.append_left _ ?_
    rw [← List.append_assoc, ← List.append_assoc]
    exact List.Perm.append_right _ List.perm_append_comm
  rw [List.append_assoc]
  exact (h.append_right _).trans e.symm
theorem Up.doneB (T : Two D R la lb) (U : Up D R la lb o ia ib) (hb : ib = lb.length) : Mrg R la lb (o ++ la.drop ia ++ lb.drop ib) := by
  refine ⟨perm_rest U.perm, ?_⟩
  have e : lb.drop ib = [] := by rw [hb]; exact List.drop_length
  rw [e, List.append_nil]
  refine List.pairwise_append.mpr ⟨U.srt, srt_drop T.sa _, fun x hx y hy => U.low x hx y (List.mem_append_left _ hy)⟩
theorem Up.doneA (T : Two D R la lb) (U : Up D R la lb o ia ib) (ha : ia = la.length) : Mrg R la lb (o ++ la.drop ia ++ lb.drop ib) := by
  refine ⟨perm_rest U.perm, ?_⟩
  have e : la.drop ia = [] := by rw [ha]; exact List.drop_length
  rw [e, List.append_nil]
  refine List.pairwise_append.mpr ⟨U.srt, srt_drop T.sb _, fun x hx y hy => U.low x hx y (List.mem_append_right _ hy)⟩
theorem Up.lastA (T : Two D R la lb) (U : Up D R la lb o ia ib) (ha : ia + 1 = la.length) : Mrg R la lb (o ++ lb.drop ib ++ la.drop ia) := by
  have hx : la[ia]? = some la[ia] := List.getElem?_eq_getElem (by (first | lia | omega))
  have e : la.drop ia = [la[ia]] := by
    rw [drop_cons hx, ha, List.drop_length]
  refine ⟨?_, ?_⟩
  · refine List.Perm.trans ?_ (perm_rest U.perm)
    rw [List.append_assoc, List.append_assoc]
    exact List.Perm.append_left _ List.perm_append_comm
  · rw [List.append_assoc]
    refine List.pairwise_append.mpr ⟨U.srt, List.pairwise_append.mpr ⟨srt_drop T.sb _, srt_drop T.sa _, fun x hx' y hy => ?_⟩, fun x hx' y hy => U.low x hx' y ?_⟩
    · rw [e] at hy
      rw [List.mem_singleton.mp hy]
      have el : la.length - 1 = ia := by (first | lia | omega)
      exact T.last la[ia] (by rw [el]; exact hx) x (List.mem_of_mem_drop hx')
    · rcases List.mem_append.mp hy with z | z
      · exact List.mem_append_right _ z
      · exact List.mem_append_left _ z
end
end TS

set_option linter.all false
set_option maxRecDepth 100000
set_option maxHeartbeats 4000000
namespace TS
open PySem PyProof.Rows
section
variable {prog : Program} {w : World} {A : Around} {E : Value → Shared → Prop} {s : Shared} {κ : SortKind} {D : Keyed → Prop} {R : Keyed → Keyed → Bool}
theorem Cmp.wk (C : Cmp prog w A s κ D R) : Wk D R := ⟨C.asym, C.neg⟩
theorem wpS_setMin {g : Nat} {st : SortSt} {Q : Unit → SortSt → Prop} (h : Q () (setG st g)) : wpS (model prog w) A E s (setMin g) Q st := wpS_modify h
theorem wpS_rule {x : String} {st : SortSt} {Q : Unit → SortSt → Prop} (h : Q () st) : wpS (model prog w) A E s (liftM (rule x) : StateT SortSt Sem Unit) Q st := wpS_lift (wpAny_rule ⟨rfl, h⟩)
theorem arr_at {a : Array Keyed} {i : Nat} (h : i < a.size) : ∃ x, a[i]? = some x ∧ a.toList[i]? = some x := ⟨a[i], by simp [h], by simp [h]⟩
theorem arr_list {a : Array Keyed} {i : Nat} : a[i]? = a.toList[i]? := by simp
theorem ext_to (a : Array Keyed) (i : Nat) : (a.extract i a.size).toList = a.toList.drop i := by
  rw [Array.toList_extract, List.extract_eq_take_drop, List.take_of_length_le]
  simp
theorem ext_mid (a : Array Keyed) (i k : Nat) : (a.extract i (i + k)).toList = (a.toList.drop i).take k := by
  rw [Array.toList_extract, List.extract_eq_take_drop]
  congr 1
  (first | lia | omega)
/-- the place of a key among rising items -/
theorem gal_right (W : Wk D R) {arr : Array Keyed} {key : Keyed} {base n : Nat} (hs : Srt R arr.toList) (hD : ∀ x ∈ arr.toList, D x) (hk : D key) (hn : base + n ≤ arr.size) :
    ∃ k, Gal D R false key arr base n k ∧ (∀ i x, i < k → arr.toList[base + i]? = some x → le R x key) ∧ ∀ i x, k ≤ i → i < n → arr.toList[base + i]? = some x → R key x = true := by
  have mono : ∀ i j, i ≤ j → j < n → (match arr.toList[base + j]? with | some x => bey R false key x | none => false) = true → (match arr.toList[base + i]? with | some x => bey R false key x | none => false) = true := by
    intro i j hij hj h
    obtain ⟨x, _, hx⟩ := arr_at (a := arr) (i := base + i) (by (first | lia | omega))
    obtain ⟨y, _, hy⟩ := arr_at (a := arr) (i := base + j) (by (first | lia | omega))
    rw [hy] at h
    rw [hx]
    dsimp only [bey] at h ⊢
    simp only [Bool.false_eq_true, if_false, Bool.not_eq_true'] at h ⊢
    exact W.neg key y x hk (hD y (List.mem_of_getElem? hy)) (hD x (List.mem_of_getElem? hx)) h (srt_at' W hD hs (by (first | lia | omega)) hx hy)
  obtain ⟨k, hk1, hk2⟩ := cut_at n mono
  have at_ : ∀ i x, i < n → arr.toList[base + i]? = some x → bey R false key x = decide (i < k) := by
    intro i x hi hx
    have := hk2 i hi
    rw [hx] at this
    exact this
  refine ⟨k, ⟨hk1, hk, fun i hi => ?_⟩, fun i x hi hx => ?_, fun i x h1 h2 hx => ?_⟩
  · obtain ⟨x, hx, hx'⟩ := arr_at (a := arr) (i := base + i) (by (first | lia | omega))
    exact ⟨x, hx, hD x (List.mem_of_getElem? hx'), at_ i x hi hx'⟩
  · have := at_ i x (by (first | lia | omega)) hx
    rw [decide_eq_true hi] at this
    dsimp only [bey] at this
    simpa [le] using this
  · have := at_ i x h2 hx
    rw [decide_eq_false (by (first | lia | omega))] at this
    dsimp only [bey] at this
    simpa using this
theorem gal_left (W : Wk D R) {arr : Array Keyed} {key : Keyed} {base n : Nat} (hs : Srt R arr.toList) (hD : ∀ x ∈ arr.toList, D x) (hk : D key) (hn : base + n ≤ arr.size) :
    ∃ k, Gal D R true key arr base n k ∧ (∀ i x, i < k → arr.toList[base + i]? = some x → R x key = true) ∧ ∀ i x, k ≤ i → i < n → arr.toList[base + i]? = some x → le R key x := by
  have mono : ∀ i j, i ≤ j → j < n → (match arr.toList[base + j]? with | some x => bey R true key x | none => false) = true → (match arr.toList[base + i]? with | some x => bey R true key x | none => false) = true := by
    intro i j hij hj h
    obtain ⟨x, _, hx⟩ := arr_at (a := arr) (i := base + i) (by (first | lia | omega))
    obtain ⟨y, _, hy⟩ := arr_at (a := arr) (i := base + j) (by (first | lia | omega))
    rw [hy] at h
    rw [hx]
    dsimp only [bey] at h ⊢
    simp only [if_true] at h ⊢
    have hxD := hD x (List.mem_of_getElem? hx)
    have hyD := hD y (List.mem_of_getElem? hy)
    cases hc : R x key with
    | true => rfl
    | false =>
      have := W.neg y x key hyD hxD hk (srt_at' W hD hs (by (first | lia | omega)) hx hy) hc
      rw [h] at this
      cases this
  obtain ⟨k, hk1, hk2⟩ := cut_at n mono
  have at_ : ∀ i x, i < n → arr.toList[base + i]? = some x → bey R true key x = decide (i < k) := by
    intro i x hi hx
    have := hk2 i hi
    rw [hx] at this
    exact this
  refine ⟨k, ⟨hk1, hk, fun i hi => ?_⟩, fun i x hi hx => ?_, fun i x h1 h2 hx => ?_⟩
  · obtain ⟨x, hx, hx'⟩ := arr_at (a := arr) (i := base + i) (by (first | lia | omega))
    exact ⟨x, hx, hD x (List.mem_of_getElem? hx'), at_ i x hi hx'⟩
  · have := at_ i x (by (first | lia | omega)) hx
    rw [decide_eq_true hi] at this
    dsimp only [bey] at this
    simpa using this
  · have := at_ i x h2 hx
    rw [decide_eq_false (by (first | lia | omega))] at this
    dsimp only [bey] at this
    simpa [le] using this
theorem wpS_mergeLo (C : Cmp prog w A s κ D R) {a b : Array Keyed} (T : Two D R a.toList b.toList) (ha : 1 ≤ a.size) (hb : 1 ≤ b.size) {st : SortSt} (hk : kindOf st = κ) {Q : Array Keyed → SortSt → Prop}
    (h : ∀ m g, Mrg R a.toList b.toList m.toList → Q m (setG st g)) : wpS (model prog w) A E s (mergeLo' a b) Q st := by
  refine wpS_bind (wpS_rule ?_)
  obtain ⟨b0, hb0, hb0'⟩ := arr_at (a := b) (i := 0) (by (first | lia | omega))
  refine wpS_bind (wpS_elem hb0 ?_)
  have U0 : Up D R a.toList b.toList (#[b0] : Array Keyed).toList 0 1 := Up.start T hb0'
  have la : a.toList.length = a.size := Array.length_toList
  have lb : b.toList.length = b.size := Array.length_toList
  have mDone : ∀ (out : Array Keyed) (ia ib : Nat), Up D R a.toList b.toList out.toList ia ib → ib = b.size ∨ ia = a.size → Mrg R a.toList b.toList (out ++ a.extract ia a.size ++ b.extract ib b.size).toList := by
    intro out ia ib U hz
    rw [Array.toList_append, Array.toList_append, ext_to, ext_to]
    rcases hz with z | z
    · exact U.doneB T (by (first | lia | omega))
    · exact U.doneA T (by (first | lia | omega))
  have mLast : ∀ (out : Array Keyed) (ia ib : Nat), Up D R a.toList b.toList out.toList ia ib → ia + 1 = a.size → Mrg R a.toList b.toList (out ++ b.extract ib b.size ++ a.extract ia a.size).toList := by
    intro out ia ib U hz
    rw [Array.toList_append, Array.toList_append, ext_to, ext_to]
    exact U.lastA T (by (first | lia | omega))
  have hst : st = setG st (gallopOf st) := rfl
  dsimp only
  by_cases e1 : (1 == b.size) = true
  · rw [if_pos e1]
    rw [hst]
    exact wpS_pure (h _ _ (mDone _ _ _ U0 (.inl (eq_of_beq e1))))
  rw [if_neg e1]
  by_cases e2 : (0 + 1 == a.size) = true
  · rw [if_pos e2]
    rw [hst]
    exact wpS_pure (h _ _ (mLast _ _ _ U0 (eq_of_beq e2)))
  rw [if_neg e2]
  have nb1 : 1 < b.size := by
    have : ¬ 1 = b.size := fun z => e1 (by rw [← z]; rfl)
    (first | lia | omega)
  have na1 : 0 + 1 < a.size := by
    have : ¬ 0 + 1 = a.size := fun z => e2 (by rw [← z]; rfl)
    (first | lia | omega)
  refine wpS_bind (wpS_get ?_)
  refine wpS_bind (wpS_mono (wpS_forRange (I := fun x c st' => (∃ g, st' = setG st g) ∧ ∃ (out : Array Keyed) (ia ib mg : Nat), c = (none, out, ia, ib, mg) ∧ Up D R a.toList b.toList out.toList ia ib ∧ ia + 1 < a.size ∧ ib < b.size ∧ x ≤ ia + ib)
    (Q := fun c st' => (∃ g, st' = setG st g) ∧ ∃ m rest, c = (some m, rest) ∧ Mrg R a.toList b.toList m.toList) ?step ?fin ⟨⟨_, hst⟩, _, _, _, _, rfl, U0, na1, nb1, by (first | lia | omega)⟩) ?post)
  case fin =>
    rintro c st' ⟨_, out, ia, ib, mg, rfl, U, h1, h2, h3⟩
    (first | lia | omega)
  case post =>
    rintro c st' ⟨⟨g, rfl⟩, m, rest, rfl, hm⟩
    exact wpS_pure (h m g hm)
  case step =>
    rintro x c st' _ hx ⟨⟨g, rfl⟩, out, ia, ib, mg, rfl, U, h1, h2, h3⟩
    dsimp only
    refine wpS_bind (wpS_mono (wpS_forRange (I := fun y c st' => st' = setG st g ∧ ∃ (out : Array Keyed) (ia' ib' ac bc : Nat), c = (none, out, ia', ib', ac, bc) ∧ Up D R a.toList b.toList out.toList ia' ib' ∧ ia' + 1 < a.size ∧ ib' < b.size ∧ ia + ib + y ≤ ia' + ib')
      (Q := fun c st' => st' = setG st g ∧ ((∃ m rest, c = (some m, rest) ∧ Mrg R a.toList b.toList m.toList) ∨ ∃ (out : Array Keyed) (ia' ib' ac bc : Nat), c = (none, out, ia', ib', ac, bc) ∧ Up D R a.toList b.toList out.toList ia' ib' ∧ ia' + 1 < a.size ∧ ib' < b.size ∧ ia + ib + 1 ≤ ia' + ib')) ?step1 ?fin1 ⟨rfl, _, _, _, _, _, rfl, U, h1, h2, by (first | lia | omega)⟩) ?post1)
    case fin1 =>
      rintro c st' ⟨_, out, ia', ib', ac, bc, rfl, U', g1, g2, g3⟩
      (first | lia | omega)
    case step1 =>
      rintro y c st' _ hy ⟨rfl, out, ia', ib', ac, bc, rfl, U', g1, g2, g3⟩
      dsimp only
      obtain ⟨xb, hxb, hxb'⟩ := arr_at (a := b) (i := ib') (by (first | lia | omega))
      obtain ⟨xa, hxa, hxa'⟩ := arr_at (a := a) (i := ia') (by (first | lia | omega))
      have dxa := T.da xa (List.mem_of_getElem? hxa')
      have dxb := T.db xb (List.mem_of_getElem? hxb')
      refine wpS_bind (wpS_elem hxb (wpS_bind (wpS_elem hxa (wpS_bind (C.ask xb xa dxb dxa E _ _ hk ?_)))))
      dsimp only
      cases hc : R xb xa with
      | true =>
        rw [if_pos rfl]
        refine wpS_bind (wpS_elem hxb ?_)
        have U2 : Up D R a.toList b.toList (out.push xb).toList ia' (ib' + 1) := by
          rw [Array.toList_push]
          exact U'.pushB T hxb' fun z hz => by
            rw [hxa'] at hz
            cases hz
            exact T.wk.of_lt dxb dxa hc
        by_cases e3 : (ib' + 1 == b.size) = true
        · rw [if_pos e3]
          exact wpS_pure ⟨rfl, .inl ⟨_, _, rfl, mDone _ _ _ U2 (.inl (eq_of_beq e3))⟩⟩
        · rw [if_neg e3]
          have e3' : ¬ ib' + 1 = b.size := fun z => e3 (by rw [z]; exact beq_self_eq_true _)
          by_cases e4 : bc + 1 ≥ mg
          · rw [if_pos e4]
            exact wpS_pure ⟨rfl, .inr ⟨_, _, _, _, _, rfl, U2, g1, by (first | lia | omega), by (first | lia | omega)⟩⟩
          · rw [if_neg e4]
            exact wpS_pure ⟨rfl, _, _, _, _, _, rfl, U2, g1, by (first | lia | omega), by (first | lia | omega)⟩
      | false =>
        rw [if_neg Bool.false_ne_true]
        refine wpS_bind (wpS_elem hxa ?_)
        have U2 : Up D R a.toList b.toList (out.push xa).toList (ia' + 1) ib' := by
          rw [Array.toList_push]
          exact U'.pushA T hxa' fun z hz => by
            rw [hxb'] at hz
            cases hz
            exact hc
        by_cases e3 : (ia' + 1 + 1 == a.size) = true
        · rw [if_pos e3]
          exact wpS_pure ⟨rfl, .inl ⟨_, _, rfl, mLast _ _ _ U2 (eq_of_beq e3)⟩⟩
        · rw [if_neg e3]
          have e3' : ¬ ia' + 1 + 1 = a.size := fun z => e3 (by rw [z]; exact beq_self_eq_true _)
          by_cases e4 : ac + 1 ≥ mg
          · rw [if_pos e4]
            exact wpS_pure ⟨rfl, .inr ⟨_, _, _, _, _, rfl, U2, by (first | lia | omega), g2, by (first | lia | omega)⟩⟩
          · rw [if_neg e4]
            exact wpS_pure ⟨rfl, _, _, _, _, _, rfl, U2, by (first | lia | omega), g2, by (first | lia | omega)⟩
    case post1 =>
      rintro c st' ⟨rfl, ⟨m, rest, rfl, hm⟩ | ⟨out1, ia1, ib1, ac1, bc1, rfl, U1, g1, g2, g3⟩⟩
      · obtain ⟨r1, r2, r3, r4, r5⟩ := rest
        exact wpS_pure ⟨⟨g, rfl⟩, m, _, rfl, hm⟩
      dsimp only
      refine wpS_bind (wpS_rule ?_)
      refine wpS_bind (wpS_mono (wpS_forRange (I := fun y c st' => (∃ g, st' = setG st g) ∧ ∃ (out : Array Keyed) (ia' ib' mg ac bc : Nat), c = (none, out, ia', ib', mg, ac, bc) ∧ Up D R a.toList b.toList out.toList ia' ib' ∧ ia' + 1 < a.size ∧ ib' < b.size ∧ ia1 + ib1 + y ≤ ia' + ib')
        (Q := fun c st' => (∃ g, st' = setG st g) ∧ ((∃ m rest, c = (some m, rest) ∧ Mrg R a.toList b.toList m.toList) ∨ ∃ (out : Array Keyed) (ia' ib' mg ac bc : Nat), c = (none, out, ia', ib', mg, ac, bc) ∧ Up D R a.toList b.toList out.toList ia' ib' ∧ ia' + 1 < a.size ∧ ib' < b.size ∧ ia1 + ib1 ≤ ia' + ib')) ?step2 ?fin2 ⟨⟨g, rfl⟩, _, _, _, _, _, _, rfl, U1, g1, g2, by (first | lia | omega)⟩) ?post2)
      case fin2 =>
        rintro c st' ⟨_, out, ia', ib', mg, ac, bc, rfl, U', g1, g2, g3⟩
        (first | lia | omega)
      case post2 =>
        rintro c st' ⟨⟨g2, rfl⟩, ⟨m, rest, rfl, hm⟩ | ⟨out2, ia2, ib2, mg2, ac2, bc2, rfl, U2, k1, k2, k3⟩⟩
        · obtain ⟨r1, r2, r3, r4, r5, r6⟩ := rest
          exact wpS_pure ⟨⟨g2, rfl⟩, m, _, rfl, hm⟩
        · dsimp only
          refine wpS_bind (wpS_setMin (wpS_pure ⟨⟨_, rfl⟩, _, _, _, _, rfl, U2, k1, k2, by (first | lia | omega)⟩))
      case step2 =>
        rintro y c st' _ hy ⟨⟨g', rfl⟩, out, ia', ib', mg', ac, bc, rfl, U', f1, f2, f3⟩
        dsimp only
        by_cases eg : mg' > 1
        · rw [if_pos eg]
          refine wpS_bind (wpS_setMin ?_)
          obtain ⟨xb, hxb, hxb'⟩ := arr_at (a := b) (i := ib') (by (first | lia | omega))
          have dxb := T.db xb (List.mem_of_getElem? hxb')
          refine wpS_bind (wpS_elem hxb ?_)
          obtain ⟨k, G, kl, kr⟩ := gal_right C.wk T.sa T.da dxb (base := ia') (n := a.size - ia') (arr := a) (by (first | lia | omega))
          have hkn := G.le
          refine wpS_bind (wpS_gallop C G (by (first | lia | omega)) hk ?_)
          dsimp only
          have Uk := Up.manyA T U' hxb' k (by (first | lia | omega)) kl
          rw [← ext_mid, ← Array.toList_append] at Uk
          by_cases e2 : k > 0
          · rw [if_pos e2]
            by_cases e9 : (ia' + k + 1 == a.size) = true
            · rw [if_pos e9]
              exact wpS_pure ⟨⟨_, rfl⟩, .inl ⟨_, _, rfl, mLast _ _ _ Uk (eq_of_beq e9)⟩⟩
            rw [if_neg e9]
            have e9' : ¬ ia' + k + 1 = a.size := fun z => e9 (by rw [z]; exact beq_self_eq_true _)
            by_cases e10 : (ia' + k == a.size) = true
            · rw [if_pos e10]
              exact wpS_pure ⟨⟨_, rfl⟩, .inl ⟨_, _, rfl, mDone _ _ _ Uk (.inr (eq_of_beq e10))⟩⟩
            rw [if_neg e10]
            have e10' : ¬ ia' + k = a.size := fun z => e10 (by rw [z]; exact beq_self_eq_true _)
            obtain ⟨xa, hxa, hxa'⟩ := arr_at (a := a) (i := ia' + k) (by (first | lia | omega))
            have dxa := T.da xa (List.mem_of_getElem? hxa')
            have V1 := Up.pushB T (Uk) hxb' fun z hz => by
              rw [hxa'] at hz
              cases hz
              exact T.wk.of_lt dxb dxa (kr k _ (Nat.le_refl _) (by (first | lia | omega)) hxa')
            rw [← Array.toList_push] at V1
            refine wpS_bind (wpS_elem hxb ?_)
            by_cases e3 : (ib' + 1 == b.size) = true
            · rw [if_pos e3]
              exact wpS_pure ⟨⟨_, rfl⟩, .inl ⟨_, _, rfl, mDone _ _ _ V1 (.inl (eq_of_beq e3))⟩⟩
            rw [if_neg e3]
            have e3' : ¬ ib' + 1 = b.size := fun z => e3 (by rw [z]; exact beq_self_eq_true _)
            refine wpS_bind (wpS_elem hxa ?_)
            obtain ⟨k2, G2, k2l, k2r⟩ := gal_left C.wk T.sb T.db dxa (base := ib' + 1) (n := b.size - (ib' + 1)) (arr := b) (by (first | lia | omega))
            have hk2n := G2.le
            refine wpS_bind (wpS_gallop C G2 (by (first | lia | omega)) hk ?_)
            dsimp only
            have V2 := Up.manyB T V1 hxa' k2 (by (first | lia | omega)) fun i x hi hx => T.wk.of_lt (T.db x (List.mem_of_getElem? hx)) dxa (k2l i x hi hx)
            rw [← ext_mid, ← Array.toList_append] at V2
            by_cases e4 : k2 > 0
            · rw [if_pos e4]
              by_cases e5 : (ib' + 1 + k2 == b.size) = true
              · rw [if_pos e5]
                exact wpS_pure ⟨⟨_, rfl⟩, .inl ⟨_, _, rfl, mDone _ _ _ V2 (.inl (eq_of_beq e5))⟩⟩
              rw [if_neg e5]
              have e7' : ¬ ib' + 1 + k2 = b.size := fun z => e5 (by rw [z]; exact beq_self_eq_true _)
              refine wpS_bind (wpS_elem hxa ?_)
              have V4 := Up.pushA T (V2) hxa' fun z hz => k2r k2 z (Nat.le_refl _) (by (first | lia | omega)) ((congrArg (fun i => b.toList[i]?) (show ib' + 1 + k2 = ib' + 1 + k2 by (first | lia | omega))).trans hz)
              rw [← Array.toList_push] at V4
              by_cases e8 : (ia' + k + 1 + 1 == a.size) = true
              · rw [if_pos e8]
                exact wpS_pure ⟨⟨_, rfl⟩, .inl ⟨_, _, rfl, mLast _ _ _ V4 (eq_of_beq e8)⟩⟩
              rw [if_neg e8]
              have e8' : ¬ ia' + k + 1 + 1 = a.size := fun z => e8 (by rw [z]; exact beq_self_eq_true _)
              by_cases e6 : (decide (k < 7) && decide (k2 < 7)) = true
              · rw [if_pos e6]
                exact wpS_pure ⟨⟨_, rfl⟩, .inr ⟨_, _, _, _, _, _, rfl, V4, by (first | lia | omega), by (first | lia | omega), by (first | lia | omega)⟩⟩
              · rw [if_neg e6]
                exact wpS_pure ⟨⟨_, rfl⟩, _, _, _, _, _, _, rfl, V4, by (first | lia | omega), by (first | lia | omega), by (first | lia | omega)⟩
            · rw [if_neg e4]
              refine wpS_bind (wpS_elem hxa ?_)
              have V4 := Up.pushA T (V1) hxa' fun z hz => k2r k2 z (Nat.le_refl _) (by (first | lia | omega)) ((congrArg (fun i => b.toList[i]?) (show ib' + 1 + k2 = ib' + 1 by (first | lia | omega))).trans hz)
              rw [← Array.toList_push] at V4
              by_cases e5 : (ia' + k + 1 + 1 == a.size) = true
              · rw [if_pos e5]
                exact wpS_pure ⟨⟨_, rfl⟩, .inl ⟨_, _, rfl, mLast _ _ _ V4 (eq_of_beq e5)⟩⟩
              rw [if_neg e5]
              have e5' : ¬ ia' + k + 1 + 1 = a.size := fun z => e5 (by rw [z]; exact beq_self_eq_true _)
              by_cases e6 : (decide (k < 7) && decide (k2 < 7)) = true
              · rw [if_pos e6]
                exact wpS_pure ⟨⟨_, rfl⟩, .inr ⟨_, _, _, _, _, _, rfl, V4, by (first | lia | omega), by (first | lia | omega), by (first | lia | omega)⟩⟩
              · rw [if_neg e6]
                exact wpS_pure ⟨⟨_, rfl⟩, _, _, _, _, _, _, rfl, V4, by (first | lia | omega), by (first | lia | omega), by (first | lia | omega)⟩
          · rw [if_neg e2]
            have e0 : k = 0 := by (first | lia | omega)
            subst e0
            obtain ⟨xa, hxa, hxa'⟩ := arr_at (a := a) (i := ia') (by (first | lia | omega))
            have dxa := T.da xa (List.mem_of_getElem? hxa')
            have V1 := Up.pushB T (U') hxb' fun z hz => by
              rw [hxa'] at hz
              cases hz
              exact T.wk.of_lt dxb dxa (kr 0 _ (Nat.le_refl _) (by (first | lia | omega)) hxa')
            rw [← Array.toList_push] at V1
            refine wpS_bind (wpS_elem hxb ?_)
            by_cases e3 : (ib' + 1 == b.size) = true
            · rw [if_pos e3]
              exact wpS_pure ⟨⟨_, rfl⟩, .inl ⟨_, _, rfl, mDone _ _ _ V1 (.inl (eq_of_beq e3))⟩⟩
            rw [if_neg e3]
            have e3' : ¬ ib' + 1 = b.size := fun z => e3 (by rw [z]; exact beq_self_eq_true _)
            refine wpS_bind (wpS_elem hxa ?_)
            obtain ⟨k2, G2, k2l, k2r⟩ := gal_left C.wk T.sb T.db dxa (base := ib' + 1) (n := b.size - (ib' + 1)) (arr := b) (by (first | lia | omega))
            have hk2n := G2.le
            refine wpS_bind (wpS_gallop C G2 (by (first | lia | omega)) hk ?_)
            dsimp only
            have V2 := Up.manyB T V1 hxa' k2 (by (first | lia | omega)) fun i x hi hx => T.wk.of_lt (T.db x (List.mem_of_getElem? hx)) dxa (k2l i x hi hx)
            rw [← ext_mid, ← Array.toList_append] at V2
            by_cases e4 : k2 > 0
            · rw [if_pos e4]
              by_cases e5 : (ib' + 1 + k2 == b.size) = true
              · rw [if_pos e5]
                exact wpS_pure ⟨⟨_, rfl⟩, .inl ⟨_, _, rfl, mDone _ _ _ V2 (.inl (eq_of_beq e5))⟩⟩
              rw [if_neg e5]
              have e7' : ¬ ib' + 1 + k2 = b.size := fun z => e5 (by rw [z]; exact beq_self_eq_true _)
              refine wpS_bind (wpS_elem hxa ?_)
              have V4 := Up.pushA T (V2) hxa' fun z hz => k2r k2 z (Nat.le_refl _) (by (first | lia | omega)) ((congrArg (fun i => b.toList[i]?) (show ib' + 1 + k2 = ib' + 1 + k2 by (first | lia | omega))).trans hz)
              rw [← Array.toList_push] at V4
              by_cases e8 : (ia' + 1 + 1 == a.size) = true
              · rw [if_pos e8]
                exact wpS_pure ⟨⟨_, rfl⟩, .inl ⟨_, _, rfl, mLast _ _ _ V4 (eq_of_beq e8)⟩⟩
              rw [if_neg e8]
              have e8' : ¬ ia' + 1 + 1 = a.size := fun z => e8 (by rw [z]; exact beq_self_eq_true _)
              by_cases e6 : (decide (0 < 7) && decide (k2 < 7)) = true
              · rw [if_pos e6]
                exact wpS_pure ⟨⟨_, rfl⟩, .inr ⟨_, _, _, _, _, _, rfl, V4, by (first | lia | omega), by (first | lia | omega), by (first | lia | omega)⟩⟩
              · rw [if_neg e6]
                exact wpS_pure ⟨⟨_, rfl⟩, _, _, _, _, _, _, rfl, V4, by (first | lia | omega), by (first | lia | omega), by (first | lia | omega)⟩
            · rw [if_neg e4]
              refine wpS_bind (wpS_elem hxa ?_)
              have V4 := Up.pushA T (V1) hxa' fun z hz => k2r k2 z (Nat.le_refl _) (by (first | lia | omega)) ((congrArg (fun i => b.toList[i]?) (show ib' + 1 + k2 = ib' + 1 by (first | lia | omega))).trans hz)
              rw [← Array.toList_push] at V4
              by_cases e5 : (ia' + 1 + 1 == a.size) = true
              · rw [if_pos e5]
                exact wpS_pure ⟨⟨_, rfl⟩, .inl ⟨_, _, rfl, mLast _ _ _ V4 (eq_of_beq e5)⟩⟩
              rw [if_neg e5]
              have e5' : ¬ ia' + 1 + 1 = a.size := fun z => e5 (by rw [z]; exact beq_self_eq_true _)
              by_cases e6 : (decide (0 < 7) && decide (k2 < 7)) = true
              · rw [if_pos e6]
                exact wpS_pure ⟨⟨_, rfl⟩, .inr ⟨_, _, _, _, _, _, rfl, V4, by (first | lia | omega), by (first | lia | omega), by (first | lia | omega)⟩⟩
              · rw [if_neg e6]
                exact wpS_pure ⟨⟨_, rfl⟩, _, _, _, _, _, _, rfl, V4, by (first | lia | omega), by (first | lia | omega), by (first | lia | omega)⟩
        · rw [if_neg eg]
          refine wpS_bind (wpS_setMin ?_)
          obtain ⟨xb, hxb, hxb'⟩ := arr_at (a := b) (i := ib') (by (first | lia | omega))
          have dxb := T.db xb (List.mem_of_getElem? hxb')
          refine wpS_bind (wpS_elem hxb ?_)
          obtain ⟨k, G, kl, kr⟩ := gal_right C.wk T.sa T.da dxb (base := ia') (n := a.size - ia') (arr := a) (by (first | lia | omega))
          have hkn := G.le
          refine wpS_bind (wpS_gallop C G (by (first | lia | omega)) hk ?_)
          dsimp only
          have Uk := Up.manyA T U' hxb' k (by (first | lia | omega)) kl
          rw [← ext_mid, ← Array.toList_append] at Uk
          by_cases e2 : k > 0
          · rw [if_pos e2]
            by_cases e9 : (ia' + k + 1 == a.size) = true
            · rw [if_pos e9]
              exact wpS_pure ⟨⟨_, rfl⟩, .inl ⟨_, _, rfl, mLast _ _ _ Uk (eq_of_beq e9)⟩⟩
            rw [if_neg e9]
            have e9' : ¬ ia' + k + 1 = a.size := fun z => e9 (by rw [z]; exact beq_self_eq_true _)
            by_cases e10 : (ia' + k == a.size) = true
            · rw [if_pos e10]
              exact wpS_pure ⟨⟨_, rfl⟩, .inl ⟨_, _, rfl, mDone _ _ _ Uk (.inr (eq_of_beq e10))⟩⟩
            rw [if_neg e10]
            have e10' : ¬ ia' + k = a.size := fun z => e10 (by rw [z]; exact beq_self_eq_true _)
            obtain ⟨xa, hxa, hxa'⟩ := arr_at (a := a) (i := ia' + k) (by (first | lia | omega))
            have dxa := T.da xa (List.mem_of_getElem? hxa')
            have V1 := Up.pushB T (Uk) hxb' fun z hz => by
              rw [hxa'] at hz
              cases hz
              exact T.wk.of_lt dxb dxa (kr k _ (Nat.le_refl _) (by (first | lia | omega)) hxa')
            rw [← Array.toList_push] at V1
            refine wpS_bind (wpS_elem hxb ?_)
            by_cases e3 : (ib' + 1 == b.size) = true
            · rw [if_pos e3]
              exact wpS_pure ⟨⟨_, rfl⟩, .inl ⟨_, _, rfl, mDone _ _ _ V1 (.inl (eq_of_beq e3))⟩⟩
            rw [if_neg e3]
            have e3' : ¬ ib' + 1 = b.size := fun z => e3 (by rw [z]; exact beq_self_eq_true _)
            refine wpS_bind (wpS_elem hxa ?_)
            obtain ⟨k2, G2, k2l, k2r⟩ := gal_left C.wk T.sb T.db dxa (base := ib' + 1) (n := b.size - (ib' + 1)) (arr := b) (by (first | lia | omega))
            have hk2n := G2.le
            refine wpS_bind (wpS_gallop C G2 (by (first | lia | omega)) hk ?_)
            dsimp only
            have V2 := Up.manyB T V1 hxa' k2 (by (first | lia | omega)) fun i x hi hx => T.wk.of_lt (T.db x (List.mem_of_getElem? hx)) dxa (k2l i x hi hx)
            rw [← ext_mid, ← Array.toList_append] at V2
            by_cases e4 : k2 > 0
            · rw [if_pos e4]
              by_cases e5 : (ib' + 1 + k2 == b.size) = true
              · rw [if_pos e5]
                exact wpS_pure ⟨⟨_, rfl⟩, .inl ⟨_, _, rfl, mDone _ _ _ V2 (.inl (eq_of_beq e5))⟩⟩
              rw [if_neg e5]
              have e7' : ¬ ib' + 1 + k2 = b.size := fun z => e5 (by rw [z]; exact beq_self_eq_true _)
              refine wpS_bind (wpS_elem hxa ?_)
              have V4 := Up.pushA T (V2) hxa' fun z hz => k2r k2 z (Nat.le_refl _) (by (first | lia | omega)) ((congrArg (fun i => b.toList[i]?) (show ib' + 1 + k2 = ib' + 1 + k2 by (first | lia | omega))).trans hz)
              rw [← Array.toList_push] at V4
              by_cases e8 : (ia' + k + 1 + 1 == a.size) = true
              · rw [if_pos e8]
                exact wpS_pure ⟨⟨_, rfl⟩, .inl ⟨_, _, rfl, mLast _ _ _ V4 (eq_of_beq e8)⟩⟩
              rw [if_neg e8]
              have e8' : ¬ ia' + k + 1 + 1 = a.size := fun z => e8 (by rw [z]; exact beq_self_eq_true _)
              by_cases e6 : (decide (k < 7) && decide (k2 < 7)) = true
              · rw [if_pos e6]
                exact wpS_pure ⟨⟨_, rfl⟩, .inr ⟨_, _, _, _, _, _, rfl, V4, by (first | lia | omega), by (first | lia | omega), by (first | lia | omega)⟩⟩
              · rw [if_neg e6]
                exact wpS_pure ⟨⟨_, rfl⟩, _, _, _, _, _, _, rfl, V4, by (first | lia | omega), by (first | lia | omega), by (first | lia | omega)⟩
            · rw [if_neg e4]
              refine wpS_bind (wpS_elem hxa ?_)
              have V4 := Up.pushA T (V1) hxa' fun z hz => k2r k2 z (Nat.le_refl _) (by (first | lia | omega)) ((congrArg (fun i => b.toList[i]?) (show ib' + 1 + k2 = ib' + 1 by (first | lia | omega))).trans hz)
              rw [← Array.toList_push] at V4
              by_cases e5 : (ia' + k + 1 + 1 == a.size) = true
              · rw [if_pos e5]
                exact wpS_pure ⟨⟨_, rfl⟩, .inl ⟨_, _, rfl, mLast _ _ _ V4 (eq_of_beq e5)⟩⟩
              rw [if_neg e5]
              have e5' : ¬ ia' + k + 1 + 1 = a.size := fun z => e5 (by rw [z]; exact beq_self_eq_true _)
              by_cases e6 : (decide (k < 7) && decide (k2 < 7)) = true
              · rw [if_pos e6]
                exact wpS_pure ⟨⟨_, rfl⟩, .inr ⟨_, _, _, _, _, _, rfl, V4, by (first | lia | omega), by (first | lia | omega), by (first | lia | omega)⟩⟩
              · rw [if_neg e6]
                exact wpS_pure ⟨⟨_, rfl⟩, _, _, _, _, _, _, rfl, V4, by (first | lia | omega), by (first | lia | omega), by (first | lia | omega)⟩
          · rw [if_neg e2]
            have e0 : k = 0 := by (first | lia | omega)
            subst e0
            obtain ⟨xa, hxa, hxa'⟩ := arr_at (a := a) (i := ia') (by (first | lia | omega))
            have dxa := T.da xa (List.mem_of_getElem? hxa')
            have V1 := Up.pushB T (U') hxb' fun z hz => by
              rw [hxa'] at hz
              cases hz
              exact T.wk.of_lt dxb dxa (kr 0 _ (Nat.le_refl _) (by (first | lia | omega)) hxa')
            rw [← Array.toList_push] at V1
            refine wpS_bind (wpS_elem hxb ?_)
            by_cases e3 : (ib' + 1 == b.size) = true
            · rw [if_pos e3]
              exact wpS_pure ⟨⟨_, rfl⟩, .inl ⟨_, _, rfl, mDone _ _ _ V1 (.inl (eq_of_beq e3))⟩⟩
            rw [if_neg e3]
            have e3' : ¬ ib' + 1 = b.size := fun z => e3 (by rw [z]; exact beq_self_eq_true _)
            refine wpS_bind (wpS_elem hxa ?_)
            obtain ⟨k2, G2, k2l, k2r⟩ := gal_left C.wk T.sb T.db dxa (base := ib' + 1) (n := b.size - (ib' + 1)) (arr := b) (by (first | lia | omega))
            have hk2n := G2.le
            refine wpS_bind (wpS_gallop C G2 (by (first | lia | omega)) hk ?_)
            dsimp only
            have V2 := Up.manyB T V1 hxa' k2 (by (first | lia | omega)) fun i x hi hx => T.wk.of_lt (T.db x (List.mem_of_getElem? hx)) dxa (k2l i x hi hx)
            rw [← ext_mid, ← Array.toList_append] at V2
            by_cases e4 : k2 > 0
            · rw [if_pos e4]
              by_cases e5 : (ib' + 1 + k2 == b.size) = true
              · rw [if_pos e5]
                exact wpS_pure ⟨⟨_, rfl⟩, .inl ⟨_, _, rfl, mDone _ _ _ V2 (.inl (eq_of_beq e5))⟩⟩
              rw [if_neg e5]
              have e7' : ¬ ib' + 1 + k2 = b.size := fun z => e5 (by rw [z]; exact beq_self_eq_true _)
              refine wpS_bind (wpS_elem hxa ?_)
              have V4 := Up.pushA T (V2) hxa' fun z hz => k2r k2 z (Nat.le_refl _) (by (first | lia | omega)) ((congrArg (fun i => b.toList[i]?) (show ib' + 1 + k2 = ib' + 1 + k2 by (first | lia | omega))).trans hz)
              rw [← Array.toList_push] at V4
              by_cases e8 : (ia' + 1 + 1 == a.size) = true
              · rw [if_pos e8]
                exact wpS_pure ⟨⟨_, rfl⟩, .inl ⟨_, _, rfl, mLast _ _ _ V4 (eq_of_beq e8)⟩⟩
              rw [if_neg e8]
              have e8' : ¬ ia' + 1 + 1 = a.size := fun z => e8 (by rw [z]; exact beq_self_eq_true _)
              by_cases e6 : (decide (0 < 7) && decide (k2 < 7)) = true
              · rw [if_pos e6]
                exact wpS_pure ⟨⟨_, rfl⟩, .inr ⟨_, _, _, _, _, _, rfl, V4, by (first | lia | omega), by (first | lia | omega), by (first | lia | omega)⟩⟩
              · rw [if_neg e6]
                exact wpS_pure ⟨⟨_, rfl⟩, _, _, _, _, _, _, rfl, V4, by (first | lia | omega), by (first | lia | omega), by (first | lia | omega)⟩
            · rw [if_neg e4]
              refine wpS_bind (wpS_elem hxa ?_)
              have V4 := Up.pushA T (V1) hxa' fun z hz => k2r k2 z (Nat.le_refl _) (by (first | lia | omega)) ((congrArg (fun i => b.toList[i]?) (show ib' + 1 + k2 = ib' + 1 by (first | lia | omega))).trans hz)
              rw [← Array.toList_push] at V4
              by_cases e5 : (ia' + 1 + 1 == a.size) = true
              · rw [if_pos e5]
                exact wpS_pure ⟨⟨_, rfl⟩, .inl ⟨_, _, rfl, mLast _ _ _ V4 (eq_of_beq e5)⟩⟩
              rw [if_neg e5]
              have e5' : ¬ ia' + 1 + 1 = a.size := fun z => e5 (by rw [z]; exact beq_self_eq_true _)
              by_cases e6 : (decide (0 < 7) && decide (k2 < 7)) = true
              · rw [if_pos e6]
                exact wpS_pure ⟨⟨_, rfl⟩, .inr ⟨_, _, _, _, _, _, rfl, V4, by (first | lia | omega), by (first | lia | omega), by (first | lia | omega)⟩⟩
              · rw [if_neg e6]
                exact wpS_pure ⟨⟨_, rfl⟩, _, _, _, _, _, _, rfl, V4, by (first | lia | omega), by (first | lia | omega), by (first | lia | omega)⟩
end
end TS

set_option linter.all false
set_option maxRecDepth 100000
set_option maxHeartbeats 4000000
namespace TS
open PySem PyProof.Rows
section
variable {D : Keyed → Prop} {R : Keyed → Keyed → Bool} {la lb o : List Keyed} {na nb : Nat}
/-! ### merging downwards -/
structure Dn (D : Keyed → Prop) (R : Keyed → Keyed → Bool) (la lb o : List Keyed) (na nb : Nat) : Prop where
  la_ : na ≤ la.length
  lb_ : nb ≤ lb.length
  perm : o.Perm (la.drop na ++ lb.drop nb)
  srt : Srt R o
  high : ∀ x ∈ la.take na ++ lb.take nb, ∀ y ∈ o, le R x y
theorem mem_take_at {l : List Keyed} {n : Nat} {x : Keyed} (h : x ∈ l.take n) : ∃ i, i < n ∧ l[i]? = some x := by
  obtain ⟨i, hi, rfl⟩ := List.mem_iff_getElem.mp h
  rw [List.length_take] at hi
  refine ⟨i, by (first | lia | omega), ?_⟩
  rw [List.getElem_take, List.getElem?_eq_getElem (by (first | lia | omega))]
theorem Dn.pushA (T : Two D R la lb) {n : Nat} (U : Dn D R la lb o (n + 1) nb) {x : Keyed} (hx : la[n]? = some x) (h : ∀ y, 0 < nb → lb[nb - 1]? = some y → le R y x) : Dn D R la lb (x :: o) n nb := by
  have hxD := T.da x (List.mem_of_getElem? hx)
  have h1 := U.la_
  have h2 := U.lb_
  refine ⟨by (first | lia | omega), h2, ?_, ?_, ?_⟩
  · rw [drop_cons hx]
    exact U.perm.cons x
  · refine List.pairwise_cons.mpr ⟨fun y hy => U.high x (List.mem_append_left _ ?_) y hy, U.srt⟩
    rw [take_snoc hx]
    exact List.mem_append_right _ List.mem_cons_self
  · intro z hz y hy
    rcases List.mem_cons.mp hy with rfl | hy
    · rcases List.mem_append.mp hz with hz | hz
      · obtain ⟨i, hi, hzi⟩ := mem_take_at hz
        exact srt_at T.sa hi hzi hx
      · obtain ⟨i, hi, hzi⟩ := mem_take_at hz
        have hw : lb[nb - 1]? = some lb[nb - 1] := List.getElem?_eq_getElem (by (first | lia | omega))
        exact T.wk.trans (T.db z (List.mem_of_getElem? hzi)) (T.db _ (List.mem_of_getElem? hw)) hxD (srt_at' T.wk T.db T.sb (by (first | lia | omega)) hzi hw) (h _ (by (first | lia | omega)) hw)
    · refine U.high z ?_ y hy
      rcases List.mem_append.mp hz with hz | hz
      · refine List.mem_append_left _ ?_
        rw [take_snoc hx]
        exact List.mem_append_left _ hz
      · exact List.mem_append_right _ hz
theorem Dn.pushB (T : Two D R la lb) {n : Nat} (U : Dn D R la lb o na (n + 1)) {x : Keyed} (hx : lb[n]? = some x) (h : ∀ y, 0 < na → la[na - 1]? = some y → le R y x) : Dn D R la lb (x :: o) na n := by
  have hxD := T.db x (List.mem_of_getElem? hx)
  have h1 := U.la_
  have h2 := U.lb_
  refine ⟨h1, by (first | lia | omega), ?_, ?_, ?_⟩
  · rw [drop_cons hx]
    refine (U.perm.cons x).trans ?_
    exact List.perm_middle.symm
  · refine List.pairwise_cons.mpr ⟨fun y hy => U.high x (List.mem_append_right _ ?_) y hy, U.srt⟩
    rw [take_snoc hx]
    exact List.mem_append_right _ List.mem_cons_self
  · intro z hz y hy
    rcases List.mem_cons.mp hy with rfl | hy
    · rcases List.mem_append.mp hz with hz | hz
      · obtain ⟨i, hi, hzi⟩ := mem_take_at hz
        have hw : la[na - 1]? = some la[na - 1] := List.getElem?_eq_getElem (by (first | lia | omega))
        exact T.wk.trans (T.da z (List.mem_of_getElem? hzi)) (T.da _ (List.mem_of_getElem? hw)) hxD (srt_at' T.wk T.da T.sa (by (first | lia | omega)) hzi hw) (h _ (by (first | lia | omega)) hw)
      · obtain ⟨i, hi, hzi⟩ := mem_take_at hz
        exact srt_at T.sb hi hzi hx
    · refine U.high z ?_ y hy
      rcases List.mem_append.mp hz with hz | hz
      · exact List.mem_append_left _ hz
      · refine List.mem_append_right _ ?_
        rw [take_snoc hx]
        exact List.mem_append_left _ hz
/-- from na down to n -/
theorem Dn.manyA (T : Two D R la lb) : ∀ (k : Nat) {o : List Keyed} {n : Nat}, Dn D R la lb o (n + k) nb → (∀ i x y, n ≤ i → i < n + k → la[i]? = some x → 0 < nb → lb[nb - 1]? = some y → le R y x) → Dn D R la lb ((la.drop n).take k ++ o) n nb
  | 0, o, n, U, _ => by simpa using U
  | k + 1, o, n, U, h => by
    have hl := U.la_
    have hx : la[n + k]? = some la[n + k] := List.getElem?_eq_getElem (by (first | lia | omega))
    have U1 := Dn.pushA T (n := n + k) U hx fun y hy0 hy => h (n + k) _ y (by (first | lia | omega)) (by (first | lia | omega)) hx hy0 hy
    have U2 := Dn.manyA T k U1 fun i x y h1 h2 => h i x y h1 (by (first | lia | omega))
    rw [take_drop_succ hx, List.append_assoc]
    exact U2
theorem Dn.manyB (T : Two D R la lb) : ∀ (k : Nat) {o : List Keyed} {n : Nat}, Dn D R la lb o na (n + k) → (∀ i x y, n ≤ i → i < n + k → lb[i]? = some x → 0 < na → la[na - 1]? = some y → le R y x) → Dn D R la lb ((lb.drop n).take k ++ o) na n
  | 0, o, n, U, _ => by simpa using U
  | k + 1, o, n, U, h => by
    have hl := U.lb_
    have hx : lb[n + k]? = some lb[n + k] := List.getElem?_eq_getElem (by (first | lia | omega))
    have U1 := Dn.pushB T (n := n + k) U hx fun y hy0 hy => h (n + k) _ y (by (first | lia | omega)) (by (first | lia | omega)) hx hy0 hy
    have U2 := Dn.manyB T k U1 fun i x y h1 h2 => h i x y h1 (by (first | lia | omega))
    rw [take_drop_succ hx, List.append_assoc]
    exact U2
theorem Dn.popA (T : Two D R la lb) (U : Dn D R la lb o na nb) (h0 : 0 < na) {x : Keyed} (hx : la[na - 1]? = some x) (h : ∀ y, 0 < nb → lb[nb - 1]? = some y → le R y x) : Dn D R la lb (x :: o) (na - 1) nb := by
  obtain ⟨n, rfl⟩ : ∃ n, na = n + 1 := ⟨na - 1, by (first | lia | omega)⟩
  exact U.pushA T hx h
theorem Dn.popB (T : Two D R la lb) (U : Dn D R la lb o na nb) (h0 : 0 < nb) {x : Keyed} (hx : lb[nb - 1]? = some x) (h : ∀ y, 0 < na → la[na - 1]? = some y → le R y x) : Dn D R la lb (x :: o) na (nb - 1) := by
  obtain ⟨n, rfl⟩ : ∃ n, nb = n + 1 := ⟨nb - 1, by (first | lia | omega)⟩
  exact U.pushB T hx h
theorem Dn.toA (T : Two D R la lb) (U : Dn D R la lb o na nb) {n : Nat} (hn : n ≤ na) (h : ∀ i x y, n ≤ i → i < na → la[i]? = some x → 0 < nb → lb[nb - 1]? = some y → le R y x) : Dn D R la lb ((la.drop n).take (na - n) ++ o) n nb := by
  obtain ⟨k, rfl⟩ : ∃ k, na = n + k := ⟨na - n, by (first | lia | omega)⟩
  rw [Nat.add_sub_cancel_left]
  exact Dn.manyA T k U h
theorem Dn.toB (T : Two D R la lb) (U : Dn D R la lb o na nb) {n : Nat} (hn : n ≤ nb) (h : ∀ i x y, n ≤ i → i < nb → lb[i]? = some x → 0 < na → la[na - 1]? = some y → le R y x) : Dn D R la lb ((lb.drop n).take (nb - n) ++ o) na n := by
  obtain ⟨k, rfl⟩ : ∃ k, nb = n + k := ⟨nb - n, by (first | lia | omega)⟩
  rw [Nat.add_sub_cancel_left]
  exact Dn.manyB T k U h
theorem Dn.start (T : Two D R la lb) {n : Nat} {x : Keyed} (hn : n + 1 = la.length) (hx : la[n]? = some x) : Dn D R la lb [x] n lb.length := by
  have U0 : Dn D R la lb [] (n + 1) lb.length := ⟨by (first | lia | omega), Nat.le_refl _, by rw [hn, List.drop_length, List.drop_length]; exact List.Perm.refl _, List.Pairwise.nil, fun _ _ _ h => nomatch h⟩
  refine U0.pushA T hx fun y _ hy => T.last x ?_ y (List.mem_of_getElem? hy)
  have e : la.length - 1 = n := by (first | lia | omega)
  rw [e]
  exact hx
theorem perm_front {o : List Keyed} (h : o.Perm (la.drop na ++ lb.drop nb)) : (la.take na ++ lb.take nb ++ o).Perm (la ++ lb) := by
  have h1 : la ++ lb = la.take na ++ la.drop na ++ (lb.take nb ++ lb.drop nb) := by rw [List.take_append_drop, List.take_append_drop]
  rw [h1, List.append_assoc, List.append_assoc]
  refine List.Perm.append_left _ ?_
  refine (List.Perm.append_left _ h).trans ?_
  rw [← List.append_assoc, ← List.append_assoc]
  exact List.Perm.append_right _ List.perm_append_comm
theorem Dn.doneA (T : Two D R la lb) (U : Dn D R la lb o na nb) (ha : na = 0) : Mrg R la lb (la.take na ++ lb.take nb ++ o) := by
  refine ⟨perm_front U.perm, ?_⟩
  have e : la.take na = [] := by rw [ha]; rfl
  have U' := U.high
  rw [e, List.nil_append] at U' ⊢
  exact List.pairwise_append.mpr ⟨srt_take T.sb _, U.srt, U'⟩
theorem Dn.doneB (T : Two D R la lb) (U : Dn D R la lb o na nb) (hb : nb = 0) : Mrg R la lb (la.take na ++ lb.take nb ++ o) := by
  refine ⟨perm_front U.perm, ?_⟩
  have e : lb.take nb = [] := by rw [hb]; rfl
  have U' := U.high
  rw [e, List.append_nil] at U' ⊢
  exact List.pairwise_append.mpr ⟨srt_take T.sa _, U.srt, U'⟩
theorem Dn.firstB (T : Two D R la lb) (U : Dn D R la lb o na nb) (hb : nb = 1) : Mrg R la lb (lb.take nb ++ la.take na ++ o) := by
  have hl := U.lb_
  have hx : lb[0]? = some lb[0] := List.getElem?_eq_getElem (by (first | lia | omega))
  have e : lb.take nb = [lb[0]] := by
    subst hb
    exact take_snoc (i := 0) hx
  refine ⟨?_, ?_⟩
  · refine List.Perm.trans ?_ (perm_front U.perm)
    exact List.Perm.append_right _ List.perm_append_comm
  · refine List.pairwise_append.mpr ⟨List.pairwise_append.mpr ⟨srt_take T.sb _, srt_take T.sa _, fun x hx' y hy => ?_⟩, U.srt, fun x hx' y hy => U.high x ?_ y hy⟩
    · rw [e] at hx'
      rw [List.mem_singleton.mp hx']
      exact T.first _ hx y (List.mem_of_mem_take hy)
    · rcases List.mem_append.mp hx' with z | z
      · exact List.mem_append_right _ z
      · exact List.mem_append_left _ z
end
section
variable {prog : Program} {w : World} {A : Around} {E : Value → Shared → Prop} {s : Shared} {κ : SortKind} {D : Keyed → Prop} {R : Keyed → Keyed → Bool}
theorem ext_front (a : Array Keyed) (i : Nat) : (a.extract 0 i).toList = a.toList.take i := by
  rw [Array.toList_extract, List.extract_eq_take_drop]
  simp
theorem ext_seg (a : Array Keyed) {i j : Nat} (h : i ≤ j) : (a.extract i j).toList = (a.toList.drop i).take (j - i) := by
  rw [Array.toList_extract, List.extract_eq_take_drop]
theorem rev_push (out : Array Keyed) (x : Keyed) : x :: out.toList.reverse = (out.push x).toList.reverse := by
  rw [Array.toList_push, List.reverse_append]
  rfl
theorem rev_app (out seg : Array Keyed) : seg.toList ++ out.toList.reverse = (out ++ seg.reverse).toList.reverse := by
  rw [Array.toList_append, Array.toList_reverse, List.reverse_append, List.reverse_reverse]
theorem wpS_mergeHi (C : Cmp prog w A s κ D R) {a b : Array Keyed} (T : Two D R a.toList b.toList) (ha : 1 ≤ a.size) (hb : 1 ≤ b.size) {st : SortSt} (hk : kindOf st = κ) {Q : Array Keyed → SortSt → Prop}
    (h : ∀ m g, Mrg R a.toList b.toList m.toList → Q m (setG st g)) : wpS (model prog w) A E s (mergeHi' a b) Q st := by
  refine wpS_bind (wpS_rule ?_)
  have la : a.toList.length = a.size := Array.length_toList
  have lb : b.toList.length = b.size := Array.length_toList
  obtain ⟨a0, ha0, ha0'⟩ := arr_at (a := a) (i := a.size - 1) (by (first | lia | omega))
  refine wpS_bind (wpS_elem ha0 ?_)
  have U0 : Dn D R a.toList b.toList (#[a0] : Array Keyed).toList.reverse (a.size - 1) b.size := by
    have := Dn.start T (n := a.size - 1) (by (first | lia | omega)) ha0'
    rw [lb] at this
    exact this
  have mDone : ∀ (out : Array Keyed) (na nb : Nat), Dn D R a.toList b.toList out.toList.reverse na nb → na = 0 ∨ nb = 0 → Mrg R a.toList b.toList (a.extract 0 na ++ b.extract 0 nb ++ out.reverse).toList := by
    intro out na nb U hz
    rw [Array.toList_append, Array.toList_append, ext_front, ext_front, Array.toList_reverse]
    rcases hz with z | z
    · exact U.doneA T z
    · exact U.doneB T z
  have mFirst : ∀ (out : Array Keyed) (na nb : Nat), Dn D R a.toList b.toList out.toList.reverse na nb → nb = 1 → Mrg R a.toList b.toList (b.extract 0 nb ++ a.extract 0 na ++ out.reverse).toList := by
    intro out na nb U hz
    rw [Array.toList_append, Array.toList_append, ext_front, ext_front, Array.toList_reverse]
    exact U.firstB T hz
  have hst : st = setG st (gallopOf st) := rfl
  dsimp only
  by_cases e1 : (a.size - 1 == 0) = true
  · rw [if_pos e1]
    rw [hst]
    exact wpS_pure (h _ _ (mDone _ _ _ U0 (.inl (eq_of_beq e1))))
  rw [if_neg e1]
  by_cases e2 : (b.size == 1) = true
  · rw [if_pos e2]
    rw [hst]
    exact wpS_pure (h _ _ (mFirst _ _ _ U0 (eq_of_beq e2)))
  rw [if_neg e2]
  have na1 : 1 ≤ a.size - 1 := by
    have : ¬ a.size - 1 = 0 := fun z => e1 (by rw [z]; rfl)
    (first | lia | omega)
  have nb1 : 2 ≤ b.size := by
    have : ¬ b.size = 1 := fun z => e2 (by rw [z]; rfl)
    (first | lia | omega)
  refine wpS_bind (wpS_get ?_)
  refine wpS_bind (wpS_mono (wpS_forRange (I := fun x c st' => (∃ g, st' = setG st g) ∧ ∃ (out : Array Keyed) (na' nb' mg : Nat), c = (none, na', nb', out, mg) ∧ Dn D R a.toList b.toList out.toList.reverse na' nb' ∧ 1 ≤ na' ∧ 2 ≤ nb' ∧ x + na' + nb' ≤ a.size + b.size)
    (Q := fun c st' => (∃ g, st' = setG st g) ∧ ∃ m rest, c = (some m, rest) ∧ Mrg R a.toList b.toList m.toList) ?step ?fin ⟨⟨_, hst⟩, _, _, _, _, rfl, U0, na1, nb1, by (first | lia | omega)⟩) ?post)
  case fin =>
    rintro c st' ⟨_, out, na', nb', mg, rfl, U, h1, h2, h3⟩
    (first | lia | omega)
  case post =>
    rintro c st' ⟨⟨g, rfl⟩, m, rest, rfl, hm⟩
    exact wpS_pure (h m g hm)
  case step =>
    rintro x c st' _ hx ⟨⟨g, rfl⟩, out, na, nb, mg, rfl, U, h1, h2, h3⟩
    have la0 := U.la_
    have lb0 := U.lb_
    dsimp only
    refine wpS_bind (wpS_mono (wpS_forRange (I := fun y c st' => st' = setG st g ∧ ∃ (out : Array Keyed) (na' nb' ac bc : Nat), c = (none, na', nb', out, ac, bc) ∧ Dn D R a.toList b.toList out.toList.reverse na' nb' ∧ 1 ≤ na' ∧ 2 ≤ nb' ∧ y + na' + nb' ≤ na + nb)
      (Q := fun c st' => st' = setG st g ∧ ((∃ m rest, c = (some m, rest) ∧ Mrg R a.toList b.toList m.toList) ∨ ∃ (out : Array Keyed) (na' nb' ac bc : Nat), c = (none, na', nb', out, ac, bc) ∧ Dn D R a.toList b.toList out.toList.reverse na' nb' ∧ 1 ≤ na' ∧ 2 ≤ nb' ∧ 1 + na' + nb' ≤ na + nb)) ?step1 ?fin1 ⟨rfl, _, _, _, _, _, rfl, U, h1, h2, by (first | lia | omega)⟩) ?post1)
    case fin1 =>
      rintro c st' ⟨_, out, na', nb', ac, bc, rfl, U', g1, g2, g3⟩
      (first | lia | omega)
    case step1 =>
      rintro y c st' _ hy ⟨rfl, out, na', nb', ac, bc, rfl, U', g1, g2, g3⟩
      have la1 := U'.la_
      have lb1 := U'.lb_
      dsimp only
      obtain ⟨xb, hxb, hxb'⟩ := arr_at (a := b) (i := nb' - 1) (by (first | lia | omega))
      obtain ⟨xa, hxa, hxa'⟩ := arr_at (a := a) (i := na' - 1) (by (first | lia | omega))
      have dxa := T.da xa (List.mem_of_getElem? hxa')
      have dxb := T.db xb (List.mem_of_getElem? hxb')
      refine wpS_bind (wpS_elem hxb (wpS_bind (wpS_elem hxa (wpS_bind (C.ask xb xa dxb dxa E _ _ hk ?_)))))
      dsimp only
      cases hc : R xb xa with
      | true =>
        rw [if_pos rfl]
        refine wpS_bind (wpS_elem hxa ?_)
        have U2 := Dn.popA T U' (by (first | lia | omega)) hxa' fun z hz0 hz => by
          rw [hxb'] at hz
          cases hz
          exact T.wk.of_lt dxb dxa hc
        rw [rev_push] at U2
        by_cases e3 : (na' - 1 == 0) = true
        · rw [if_pos e3]
          exact wpS_pure ⟨rfl, .inl ⟨_, _, rfl, mDone _ _ _ U2 (.inl (eq_of_beq e3))⟩⟩
        · rw [if_neg e3]
          have e3' : ¬ na' - 1 = 0 := fun z => e3 (by rw [z]; rfl)
          by_cases e4 : ac + 1 ≥ mg
          · rw [if_pos e4]
            exact wpS_pure ⟨rfl, .inr ⟨_, _, _, _, _, rfl, U2, by (first | lia | omega), g2, by (first | lia | omega)⟩⟩
          · rw [if_neg e4]
            exact wpS_pure ⟨rfl, _, _, _, _, _, rfl, U2, by (first | lia | omega), g2, by (first | lia | omega)⟩
      | false =>
        rw [if_neg Bool.false_ne_true]
        refine wpS_bind (wpS_elem hxb ?_)
        have U2 := Dn.popB T U' (by (first | lia | omega)) hxb' fun z hz0 hz => by
          rw [hxa'] at hz
          cases hz
          exact hc
        rw [rev_push] at U2
        by_cases e3 : (nb' - 1 == 1) = true
        · rw [if_pos e3]
          exact wpS_pure ⟨rfl, .inl ⟨_, _, rfl, mFirst _ _ _ U2 (eq_of_beq e3)⟩⟩
        · rw [if_neg e3]
          have e3' : ¬ nb' - 1 = 1 := fun z => e3 (by rw [z]; rfl)
          by_cases e4 : bc + 1 ≥ mg
          · rw [if_pos e4]
            exact wpS_pure ⟨rfl, .inr ⟨_, _, _, _, _, rfl, U2, g1, by (first | lia | omega), by (first | lia | omega)⟩⟩
          · rw [if_neg e4]
            exact wpS_pure ⟨rfl, _, _, _, _, _, rfl, U2, g1, by (first | lia | omega), by (first | lia | omega)⟩
    case post1 =>
      rintro c st' ⟨rfl, ⟨m, rest, rfl, hm⟩ | ⟨out1, na1', nb1', ac1, bc1, rfl, U1, g1, g2, g3⟩⟩
      · obtain ⟨r1, r2, r3, r4, r5⟩ := rest
        exact wpS_pure ⟨⟨g, rfl⟩, m, _, rfl, hm⟩
      have la1 := U1.la_
      have lb1 := U1.lb_
      dsimp only
      refine wpS_bind (wpS_rule ?_)
      refine wpS_bind (wpS_mono (wpS_forRange (I := fun y c st' => (∃ g, st' = setG st g) ∧ ∃ (out : Array Keyed) (na' nb' mg ac bc : Nat), c = (none, na', nb', out, mg, ac, bc) ∧ Dn D R a.toList b.toList out.toList.reverse na' nb' ∧ 1 ≤ na' ∧ 2 ≤ nb' ∧ y + na' + nb' ≤ na1' + nb1')
        (Q := fun c st' => (∃ g, st' = setG st g) ∧ ((∃ m rest, c = (some m, rest) ∧ Mrg R a.toList b.toList m.toList) ∨ ∃ (out : Array Keyed) (na' nb' mg ac bc : Nat), c = (none, na', nb', out, mg, ac, bc) ∧ Dn D R a.toList b.toList out.toList.reverse na' nb' ∧ 1 ≤ na' ∧ 2 ≤ nb' ∧ na' + nb' ≤ na1' + nb1')) ?step2 ?fin2 ⟨⟨g, rfl⟩, _, _, _, _, _, _, rfl, U1, g1, g2, by (first | lia | omega)⟩) ?post2)
      case fin2 =>
        rintro c st' ⟨_, out, na', nb', mg, ac, bc, rfl, U', g1, g2, g3⟩
        (first | lia | omega)
      case post2 =>
        rintro c st' ⟨⟨g2, rfl⟩, ⟨m, rest, rfl, hm⟩ | ⟨out2, na2, nb2, mg2, ac2, bc2, rfl, U2, k1, k2, k3⟩⟩
        · obtain ⟨r1, r2, r3, r4, r5, r6⟩ := rest
          exact wpS_pure ⟨⟨g2, rfl⟩, m, _, rfl, hm⟩
        · dsimp only
          refine wpS_bind (wpS_setMin (wpS_pure ⟨⟨_, rfl⟩, _, _, _, _, rfl, U2, k1, k2, by (first | lia | omega)⟩))
      case step2 =>
        rintro y c st' _ hy ⟨⟨g', rfl⟩, out, na', nb', mg', ac, bc, rfl, U', f1, f2, f3⟩
        have la2 := U'.la_
        have lb2 := U'.lb_
        dsimp only
        by_cases eg : mg' > 1
        · rw [if_pos eg]
          refine wpS_bind (wpS_setMin ?_)
          obtain ⟨xb, hxb, hxb'⟩ := arr_at (a := b) (i := nb' - 1) (by (first | lia | omega))
          have dxb := T.db xb (List.mem_of_getElem? hxb')
          refine wpS_bind (wpS_elem hxb ?_)
          obtain ⟨k, G, kl, kr⟩ := gal_right C.wk T.sa T.da dxb (base := 0) (n := na') (arr := a) (by (first | lia | omega))
          have hkn := G.le
          refine wpS_bind (wpS_gallop C G (by (first | lia | omega)) hk ?_)
          dsimp only
          have Uk := Dn.toA T U' (n := k) hkn fun i x z g5 g6 hx hz0 hz => by
            rw [hxb'] at hz
            cases hz
            exact T.wk.of_lt dxb (T.da x (List.mem_of_getElem? hx)) (kr i x g5 g6 (by rw [Nat.zero_add]; exact hx))
          rw [← ext_seg a hkn, rev_app] at Uk
          by_cases e2 : na' - k > 0
          · rw [if_pos e2]
            by_cases e9 : (k == 0) = true
            · rw [if_pos e9]
              exact wpS_pure ⟨⟨_, rfl⟩, .inl ⟨_, _, rfl, mDone _ _ _ Uk (.inl (eq_of_beq e9))⟩⟩
            rw [if_neg e9]
            have e9' : ¬ k = 0 := fun z => e9 (by rw [z]; rfl)
            obtain ⟨xa, hxa, hxa'⟩ := arr_at (a := a) (i := k - 1) (by (first | lia | omega))
            have dxa := T.da xa (List.mem_of_getElem? hxa')
            have V1 := Dn.popB T (Uk) (by (first | lia | omega)) hxb' fun z hz0 hz => kl (k - 1) z (by (first | lia | omega)) (by rw [Nat.zero_add]; exact hz)
            rw [rev_push] at V1
            refine wpS_bind (wpS_elem hxb ?_)
            by_cases e3 : (nb' - 1 == 1) = true
            · rw [if_pos e3]
              exact wpS_pure ⟨⟨_, rfl⟩, .inl ⟨_, _, rfl, mFirst _ _ _ V1 (eq_of_beq e3)⟩⟩
            rw [if_neg e3]
            have e3' : ¬ nb' - 1 = 1 := fun z => e3 (by rw [z]; rfl)
            refine wpS_bind (wpS_elem hxa ?_)
            obtain ⟨k2, G2, k2l, k2r⟩ := gal_left C.wk T.sb T.db dxa (base := 0) (n := nb' - 1) (arr := b) (by (first | lia | omega))
            have hk2n := G2.le
            refine wpS_bind (wpS_gallop C G2 (by (first | lia | omega)) hk ?_)
            dsimp only
            have V2 := Dn.toB T V1 (n := k2) hk2n fun i x z g5 g6 hx hz0 hz => by
              rw [hxa'] at hz
              cases hz
              exact k2r i x g5 g6 (by rw [Nat.zero_add]; exact hx)
            rw [← ext_seg b hk2n, rev_app] at V2
            by_cases e4 : nb' - 1 - k2 > 0
            · rw [if_pos e4]
              by_cases e5 : (k2 == 1) = true
              · rw [if_pos e5]
                exact wpS_pure ⟨⟨_, rfl⟩, .inl ⟨_, _, rfl, mFirst _ _ _ V2 (eq_of_beq e5)⟩⟩
              rw [if_neg e5]
              have e5' : ¬ k2 = 1 := fun z => e5 (by rw [z]; rfl)
              by_cases e7 : (k2 == 0) = true
              · rw [if_pos e7]
                exact wpS_pure ⟨⟨_, rfl⟩, .inl ⟨_, _, rfl, mDone _ _ _ V2 (.inr (eq_of_beq e7))⟩⟩
              rw [if_neg e7]
              have e7' : ¬ k2 = 0 := fun z => e7 (by rw [z]; rfl)
              refine wpS_bind (wpS_elem hxa ?_)
              have V4 := Dn.popA T (V2) (by (first | lia | omega)) hxa' fun z hz0 hz => T.wk.of_lt (T.db z (List.mem_of_getElem? hz)) dxa (k2l (k2 - 1) z (by (first | lia | omega)) (by rw [Nat.zero_add]; exact hz))
              rw [rev_push] at V4
              by_cases e8 : (k - 1 == 0) = true
              · rw [if_pos e8]
                exact wpS_pure ⟨⟨_, rfl⟩, .inl ⟨_, _, rfl, mDone _ _ _ V4 (.inl (eq_of_beq e8))⟩⟩
              rw [if_neg e8]
              have e8' : ¬ k - 1 = 0 := fun z => e8 (by rw [z]; rfl)
              by_cases e6 : (decide (na' - k < 7) && decide (nb' - 1 - k2 < 7)) = true
              · rw [if_pos e6]
                exact wpS_pure ⟨⟨_, rfl⟩, .inr ⟨_, _, _, _, _, _, rfl, V4, by (first | lia | omega), by (first | lia | omega), by (first | lia | omega)⟩⟩
              · rw [if_neg e6]
                exact wpS_pure ⟨⟨_, rfl⟩, _, _, _, _, _, _, rfl, V4, by (first | lia | omega), by (first | lia | omega), by (first | lia | omega)⟩
            · rw [if_neg e4]
              refine wpS_bind (wpS_elem hxa ?_)
              have V4 := Dn.popA T (V1) (by (first | lia | omega)) hxa' fun z hz0 hz => T.wk.of_lt (T.db z (List.mem_of_getElem? hz)) dxa (k2l (nb' - 1 - 1) z (by (first | lia | omega)) (by rw [Nat.zero_add]; exact hz))
              rw [rev_push] at V4
              by_cases e8 : (k - 1 == 0) = true
              · rw [if_pos e8]
                exact wpS_pure ⟨⟨_, rfl⟩, .inl ⟨_, _, rfl, mDone _ _ _ V4 (.inl (eq_of_beq e8))⟩⟩
              rw [if_neg e8]
              have e8' : ¬ k - 1 = 0 := fun z => e8 (by rw [z]; rfl)
              by_cases e6 : (decide (na' - k < 7) && decide (nb' - 1 - k2 < 7)) = true
              · rw [if_pos e6]
                exact wpS_pure ⟨⟨_, rfl⟩, .inr ⟨_, _, _, _, _, _, rfl, V4, by (first | lia | omega), by (first | lia | omega), by (first | lia | omega)⟩⟩
              · rw [if_neg e6]
                exact wpS_pure ⟨⟨_, rfl⟩, _, _, _, _, _, _, rfl, V4, by (first | lia | omega), by (first | lia | omega), by (first | lia | omega)⟩
          · rw [if_neg e2]
            have e0 : k = na' := by (first | lia | omega)
            obtain ⟨xa, hxa, hxa'⟩ := arr_at (a := a) (i := na' - 1) (by (first | lia | omega))
            have dxa := T.da xa (List.mem_of_getElem? hxa')
            have V1 := Dn.popB T (U') (by (first | lia | omega)) hxb' fun z hz0 hz => kl (na' - 1) z (by (first | lia | omega)) (by rw [Nat.zero_add]; exact hz)
            rw [rev_push] at V1
            refine wpS_bind (wpS_elem hxb ?_)
            by_cases e3 : (nb' - 1 == 1) = true
            · rw [if_pos e3]
              exact wpS_pure ⟨⟨_, rfl⟩, .inl ⟨_, _, rfl, mFirst _ _ _ V1 (eq_of_beq e3)⟩⟩
            rw [if_neg e3]
            have e3' : ¬ nb' - 1 = 1 := fun z => e3 (by rw [z]; rfl)
            refine wpS_bind (wpS_elem hxa ?_)
            obtain ⟨k2, G2, k2l, k2r⟩ := gal_left C.wk T.sb T.db dxa (base := 0) (n := nb' - 1) (arr := b) (by (first | lia | omega))
            have hk2n := G2.le
            refine wpS_bind (wpS_gallop C G2 (by (first | lia | omega)) hk ?_)
            dsimp only
            have V2 := Dn.toB T V1 (n := k2) hk2n fun i x z g5 g6 hx hz0 hz => by
              rw [hxa'] at hz
              cases hz
              exact k2r i x g5 g6 (by rw [Nat.zero_add]; exact hx)
            rw [← ext_seg b hk2n, rev_app] at V2
            by_cases e4 : nb' - 1 - k2 > 0
            · rw [if_pos e4]
              by_cases e5 : (k2 == 1) = true
              · rw [if_pos e5]
                exact wpS_pure ⟨⟨_, rfl⟩, .inl ⟨_, _, rfl, mFirst _ _ _ V2 (eq_of_beq e5)⟩⟩
              rw [if_neg e5]
              have e5' : ¬ k2 = 1 := fun z => e5 (by rw [z]; rfl)
              by_cases e7 : (k2 == 0) = true
              · rw [if_pos e7]
                exact wpS_pure ⟨⟨_, rfl⟩, .inl ⟨_, _, rfl, mDone _ _ _ V2 (.inr (eq_of_beq e7))⟩⟩
              rw [if_neg e7]
              have e7' : ¬ k2 = 0 := fun z => e7 (by rw [z]; rfl)
              refine wpS_bind (wpS_elem hxa ?_)
              have V4 := Dn.popA T (V2) (by (first | lia | omega)) hxa' fun z hz0 hz => T.wk.of_lt (T.db z (List.mem_of_getElem? hz)) dxa (k2l (k2 - 1) z (by (first | lia | omega)) (by rw [Nat.zero_add]; exact hz))
              rw [rev_push] at V4
              by_cases e8 : (na' - 1 == 0) = true
              · rw [if_pos e8]
                exact wpS_pure ⟨⟨_, rfl⟩, .inl ⟨_, _, rfl, mDone _ _ _ V4 (.inl (eq_of_beq e8))⟩⟩
              rw [if_neg e8]
              have e8' : ¬ na' - 1 = 0 := fun z => e8 (by rw [z]; rfl)
              by_cases e6 : (decide (na' - k < 7) && decide (nb' - 1 - k2 < 7)) = true
              · rw [if_pos e6]
                exact wpS_pure ⟨⟨_, rfl⟩, .inr ⟨_, _, _, _, _, _, rfl, V4, by (first | lia | omega), by (first | lia | omega), by (first | lia | omega)⟩⟩
              · rw [if_neg e6]
                exact wpS_pure ⟨⟨_, rfl⟩, _, _, _, _, _, _, rfl, V4, by (first | lia | omega), by (first | lia | omega), by (first | lia | omega)⟩
            · rw [if_neg e4]
              refine wpS_bind (wpS_elem hxa ?_)
              have V4 := Dn.popA T (V1) (by (first | lia | omega)) hxa' fun z hz0 hz => T.wk.of_lt (T.db z (List.mem_of_getElem? hz)) dxa (k2l (nb' - 1 - 1) z (by (first | lia | omega)) (by rw [Nat.zero_add]; exact hz))
              rw [rev_push] at V4
              by_cases e8 : (na' - 1 == 0) = true
              · rw [if_pos e8]
                exact wpS_pure ⟨⟨_, rfl⟩, .inl ⟨_, _, rfl, mDone _ _ _ V4 (.inl (eq_of_beq e8))⟩⟩
              rw [if_neg e8]
              have e8' : ¬ na' - 1 = 0 := fun z => e8 (by rw [z]; rfl)
              by_cases e6 : (decide (na' - k < 7) && decide (nb' - 1 - k2 < 7)) = true
              · rw [if_pos e6]
                exact wpS_pure ⟨⟨_, rfl⟩, .inr ⟨_, _, _, _, _, _, rfl, V4, by (first | lia | omega), by (first | lia | omega), by (first | lia | omega)⟩⟩
              · rw [if_neg e6]
                exact wpS_pure ⟨⟨_, rfl⟩, _, _, _, _, _, _, rfl, V4, by (first | lia | omega), by (first | lia | omega), by (first | lia | omega)⟩
        · rw [if_neg eg]
          refine wpS_bind (wpS_setMin ?_)
          obtain ⟨xb, hxb, hxb'⟩ := arr_at (a := b) (i := nb' - 1) (by (first | lia | omega))
          have dxb := T.db xb (List.mem_of_getElem? hxb')
          refine wpS_bind (wpS_elem hxb ?_)
          obtain ⟨k, G, kl, kr⟩ := gal_right C.wk T.sa T.da dxb (base := 0) (n := na') (arr := a) (by (first | lia | omega))
          have hkn := G.le
          refine wpS_bind (wpS_gallop C G (by (first | lia | omega)) hk ?_)
          dsimp only
          have Uk := Dn.toA T U' (n := k) hkn fun i x z g5 g6 hx hz0 hz => by
            rw [hxb'] at hz
            cases hz
            exact T.wk.of_lt dxb (T.da x (List.mem_of_getElem? hx)) (kr i x g5 g6 (by rw [Nat.zero_add]; exact hx))
          rw [← ext_seg a hkn, rev_app] at Uk
          by_cases e2 : na' - k > 0
          · rw [if_pos e2]
            by_cases e9 : (k == 0) = true
            · rw [if_pos e9]
              exact wpS_pure ⟨⟨_, rfl⟩, .inl ⟨_, _, rfl, mDone _ _ _ Uk (.inl (eq_of_beq e9))⟩⟩
            rw [if_neg e9]
            have e9' : ¬ k = 0 := fun z => e9 (by rw [z]; rfl)
            obtain ⟨xa, hxa, hxa'⟩ := arr_at (a := a) (i := k - 1) (by (first | lia | omega))
            have dxa := T.da xa (List.mem_of_getElem? hxa')
            have V1 := Dn.popB T (Uk) (by (first | lia | omega)) hxb' fun z hz0 hz => kl (k - 1) z (by (first | lia | omega)) (by rw [Nat.zero_add]; exact hz)
            rw [rev_push] at V1
            refine wpS_bind (wpS_elem hxb ?_)
            by_cases e3 : (nb' - 1 == 1) = true
            · rw [if_pos e3]
              exact wpS_pure ⟨⟨_, rfl⟩, .inl ⟨_, _, rfl, mFirst _ _ _ V1 (eq_of_beq e3)⟩⟩
            rw [if_neg e3]
            have e3' : ¬ nb' - 1 = 1 := fun z => e3 (by rw [z]; rfl)
            refine wpS_bind (wpS_elem hxa ?_)
            obtain ⟨k2, G2, k2l, k2r⟩ := gal_left C.wk T.sb T.db dxa (base := 0) (n := nb' - 1) (arr := b) (by (first | lia | omega))
            have hk2n := G2.le
            refine wpS_bind (wpS_gallop C G2 (by (first | lia | omega)) hk ?_)
            dsimp only
            have V2 := Dn.toB T V1 (n := k2) hk2n fun i x z g5 g6 hx hz0 hz => by
              rw [hxa'] at hz
              cases hz
              exact k2r i x g5 g6 (by rw [Nat.zero_add]; exact hx)
            rw [← ext_seg b hk2n, rev_app] at V2
            by_cases e4 : nb' - 1 - k2 > 0
            · rw [if_pos e4]
              by_cases e5 : (k2 == 1) = true
              · rw [if_pos e5]
                exact wpS_pure ⟨⟨_, rfl⟩, .inl ⟨_, _, rfl, mFirst _ _ _ V2 (eq_of_beq e5)⟩⟩
              rw [if_neg e5]
              have e5' : ¬ k2 = 1 := fun z => e5 (by rw [z]; rfl)
              by_cases e7 : (k2 == 0) = true
              · rw [if_pos e7]
                exact wpS_pure ⟨⟨_, rfl⟩, .inl ⟨_, _, rfl, mDone _ _ _ V2 (.inr (eq_of_beq e7))⟩⟩
              rw [if_neg e7]
              have e7' : ¬ k2 = 0 := fun z => e7 (by rw [z]; rfl)
              refine wpS_bind (wpS_elem hxa ?_)
              have V4 := Dn.popA T (V2) (by (first | lia | omega)) hxa' fun z hz0 hz => T.wk.of_lt (T.db z (List.mem_of_getElem? hz)) dxa (k2l (k2 - 1) z (by (first | lia | omega)) (by rw [Nat.zero_add]; exact hz))
              rw [rev_push] at V4
              by_cases e8 : (k - 1 == 0) = true
              · rw [if_pos e8]
                exact wpS_pure ⟨⟨_, rfl⟩, .inl ⟨_, _, rfl, mDone _ _ _ V4 (.inl (eq_of_beq e8))⟩⟩
              rw [if_neg e8]
              have e8' : ¬ k - 1 = 0 := fun z => e8 (by rw [z]; rfl)
              by_cases e6 : (decide (na' - k < 7) && decide (nb' - 1 - k2 < 7)) = true
              · rw [if_pos e6]
                exact wpS_pure ⟨⟨_, rfl⟩, .inr ⟨_, _, _, _, _, _, rfl, V4, by (first | lia | omega), by (first | lia | omega), by (first | lia | omega)⟩⟩
              · rw [if_neg e6]
                exact wpS_pure ⟨⟨_, rfl⟩, _, _, _, _, _, _, rfl, V4, by (first | lia | omega), by (first | lia | omega), by (first | lia | omega)⟩
            · rw [if_neg e4]
              refine wpS_bind (wpS_elem hxa ?_)
              have V4 := Dn.popA T (V1) (by (first | lia | omega)) hxa' fun z hz0 hz => T.wk.of_lt (T.db z (List.mem_of_getElem? hz)) dxa (k2l (nb' - 1 - 1) z (by (first | lia | omega)) (by rw [Nat.zero_add]; exact hz))
              rw [rev_push] at V4
              by_cases e8 : (k - 1 == 0) = true
              · rw [if_pos e8]
                exact wpS_pure ⟨⟨_, rfl⟩, .inl ⟨_, _, rfl, mDone _ _ _ V4 (.inl (eq_of_beq e8))⟩⟩
              rw [if_neg e8]
              have e8' : ¬ k - 1 = 0 := fun z => e8 (by rw [z]; rfl)
              by_cases e6 : (decide (na' - k < 7) && decide (nb' - 1 - k2 < 7)) = true
              · rw [if_pos e6]
                exact wpS_pure ⟨⟨_, rfl⟩, .inr ⟨_, _, _, _, _, _, rfl, V4, by (first | lia | omega), by (first | lia | omega), by (first | lia | omega)⟩⟩
              · rw [if_neg e6]
                exact wpS_pure ⟨⟨_, rfl⟩, _, _, _, _, _, _, rfl, V4, by (first | lia | omega), by (first | lia | omega), by (first | lia | omega)⟩
          · rw [if_neg e2]
            have e0 : k = na' := by (first | lia | omega)
            obtain ⟨xa, hxa, hxa'⟩ := arr_at (a := a) (i := na' - 1) (by (first | lia | omega))
            have dxa := T.da xa (List.mem_of_getElem? hxa')
            have V1 := Dn.popB T (U') (by (first | lia | omega)) hxb' fun z hz0 hz => kl (na' - 1) z (by (first | lia | omega)) (by rw [Nat.zero_add]; exact hz)
            rw [rev_push] at V1
            refine wpS_bind (wpS_elem hxb ?_)
            by_cases e3 : (nb' - 1 == 1) = true
            · rw [if_pos e3]
              exact wpS_pure ⟨⟨_, rfl⟩, .inl ⟨_, _, rfl, mFirst _ _ _ V1 (eq_of_beq e3)⟩⟩
            rw [if_neg e3]
            have e3' : ¬ nb' - 1 = 1 := fun z => e3 (by rw [z]; rfl)
            refine wpS_bind (wpS_elem hxa ?_)
            obtain ⟨k2, G2, k2l, k2r⟩ := gal_left C.wk T.sb T.db dxa (base := 0) (n := nb' - 1) (arr := b) (by (first | lia | omega))
            have hk2n := G2.le
            refine wpS_bind (wpS_gallop C G2 (by (first | lia | omega)) hk ?_)
            dsimp only
            have V2 := Dn.toB T V1 (n := k2) hk2n fun i x z g5 g6 hx hz0 hz => by
              rw [hxa'] at hz
              cases hz
              exact k2r i x g5 g6 (by rw [Nat.zero_add]; exact hx)
            rw [← ext_seg b hk2n, rev_app] at V2
            by_cases e4 : nb' - 1 - k2 > 0
            · rw [if_pos e4]
              by_cases e5 : (k2 == 1) = true
              · rw [if_pos e5]
                exact wpS_pure ⟨⟨_, rfl⟩, .inl ⟨_, _, rfl, mFirst _ _ _ V2 (eq_of_beq e5)⟩⟩
              rw [if_neg e5]
              have e5' : ¬ k2 = 1 := fun z => e5 (by rw [z]; rfl)
              by_cases e7 : (k2 == 0) = true
              · rw [if_pos e7]
                exact wpS_pure ⟨⟨_, rfl⟩, .inl ⟨_, _, rfl, mDone _ _ _ V2 (.inr (eq_of_beq e7))⟩⟩
              rw [if_neg e7]
              have e7' : ¬ k2 = 0 := fun z => e7 (by rw [z]; rfl)
              refine wpS_bind (wpS_elem hxa ?_)
              have V4 := Dn.popA T (V2) (by (first | lia | omega)) hxa' fun z hz0 hz => T.wk.of_lt (T.db z (List.mem_of_getElem? hz)) dxa (k2l (k2 - 1) z (by (first | lia | omega)) (by rw [Nat.zero_add]; exact hz))
              rw [rev_push] at V4
              by_cases e8 : (na' - 1 == 0) = true
              · rw [if_pos e8]
                exact wpS_pure ⟨⟨_, rfl⟩, .inl ⟨_, _, rfl, mDone _ _ _ V4 (.inl (eq_of_beq e8))⟩⟩
              rw [if_neg e8]
              have e8' : ¬ na' - 1 = 0 := fun z => e8 (by rw [z]; rfl)
              by_cases e6 : (decide (na' - k < 7) && decide (nb' - 1 - k2 < 7)) = true
              · rw [if_pos e6]
                exact wpS_pure ⟨⟨_, rfl⟩, .inr ⟨_, _, _, _, _, _, rfl, V4, by (first | lia | omega), by (first | lia | omega), by (first | lia | omega)⟩⟩
              · rw [if_neg e6]
                exact wpS_pure ⟨⟨_, rfl⟩, _, _, _, _, _, _, rfl, V4, by (first | lia | omega), by (first | lia | omega), by (first | lia | omega)⟩
            · rw [if_neg e4]
              refine wpS_bind (wpS_elem hxa ?_)
              have V4 := Dn.popA T (V1) (by (first | lia | omega)) hxa' fun z hz0 hz => T.wk.of_lt (T.db z (List.mem_of_getElem? hz)) dxa (k2l (nb' - 1 - 1) z (by (first | lia | omega)) (by rw [Nat.zero_add]; exact hz))
              rw [rev_push] at V4
              by_cases e8 : (na' - 1 == 0) = true
              · rw [if_pos e8]
                exact wpS_pure ⟨⟨_, rfl⟩, .inl ⟨_, _, rfl, mDone _ _ _ V4 (.inl (eq_of_beq e8))⟩⟩
              rw [if_neg e8]
              have e8' : ¬ na' - 1 = 0 := fun z => e8 (by rw [z]; rfl)
              by_cases e6 : (decide (na' - k < 7) && decide (nb' - 1 - k2 < 7)) = true
              · rw [if_pos e6]
                exact wpS_pure ⟨⟨_, rfl⟩, .inr ⟨_, _, _, _, _, _, rfl, V4, by (first | lia | omega), by (first | lia | omega), by (first | lia | omega)⟩⟩
              · rw [if_neg e6]
                exact wpS_pure ⟨⟨_, rfl⟩, _, _, _, _, _, _, rfl, V4, by (first | lia | omega), by (first | lia | omega), by (first | lia | omega)⟩
end
end TS

set_option linter.all false
set_option maxRecDepth 100000
set_option maxHeartbeats 4000000
namespace TS
open PySem PyProof.Rows
section
variable {D : Keyed → Prop} {R : Keyed → Keyed → Bool} {a : Array Keyed} {lo n : Nat}
/-! ### runs in an array -/
def Asc (R : Keyed → Keyed → Bool) (a : Array Keyed) (lo n : Nat) : Prop := ∀ i j x y, lo ≤ i → i ≤ j → j < lo + n → a[i]? = some x → a[j]? = some y → le R x y
def Desc (R : Keyed → Keyed → Bool) (a : Array Keyed) (lo n : Nat) : Prop := ∀ i j x y, lo ≤ i → i ≤ j → j < lo + n → a[i]? = some x → a[j]? = some y → le R y x
/-- all alike -/
def Eqb (R : Keyed → Keyed → Bool) (a : Array Keyed) (p q : Nat) : Prop := ∀ i j x y, p ≤ i → i < q → p ≤ j → j < q → a[i]? = some x → a[j]? = some y → le R x y
def Dom (D : Keyed → Prop) (a : Array Keyed) : Prop := ∀ (i : Nat) (x : Keyed), a[i]? = some x → D x
theorem Asc.one (W : Wk D R) (hD : Dom D a) : Asc R a lo 1 := fun i j x y h1 h2 h3 hx hy => by
  have : i = j := by (first | lia | omega)
  subst this
  rw [hx] at hy
  cases hy
  exact W.refl (hD _ _ hx)
theorem Asc.snoc (W : Wk D R) (hD : Dom D a) (h : Asc R a lo n) (h1 : 1 ≤ n) {x y : Keyed} (hx : a[lo + n - 1]? = some x) (hy : a[lo + n]? = some y) (hxy : le R x y) : Asc R a lo (n + 1) := fun i j u v g1 g2 g3 hu hv => by
  rcases Nat.lt_or_ge j (lo + n) with z | z
  · exact h i j u v g1 g2 z hu hv
  · have ej : j = lo + n := by (first | lia | omega)
    subst ej
    rw [hy] at hv
    cases hv
    rcases Nat.lt_or_ge i (lo + n) with z2 | z2
    · exact W.trans (hD _ _ hu) (hD _ _ hx) (hD _ _ hy) (h i (lo + n - 1) u x g1 (by (first | lia | omega)) (by (first | lia | omega)) hu hx) hxy
    · have : i = lo + n := by (first | lia | omega)
      subst this
      rw [hy] at hu
      cases hu
      exact W.refl (hD _ _ hy)
theorem Desc.snoc (W : Wk D R) (hD : Dom D a) (h : Desc R a lo n) (h1 : 1 ≤ n) {x y : Keyed} (hx : a[lo + n - 1]? = some x) (hy : a[lo + n]? = some y) (hxy : le R y x) : Desc R a lo (n + 1) := fun i j u v g1 g2 g3 hu hv => by
  rcases Nat.lt_or_ge j (lo + n) with z | z
  · exact h i j u v g1 g2 z hu hv
  · have ej : j = lo + n := by (first | lia | omega)
    subst ej
    rw [hy] at hv
    cases hv
    rcases Nat.lt_or_ge i (lo + n) with z2 | z2
    · exact W.trans (hD _ _ hy) (hD _ _ hx) (hD _ _ hu) hxy (h i (lo + n - 1) u x g1 (by (first | lia | omega)) (by (first | lia | omega)) hu hx)
    · have : i = lo + n := by (first | lia | omega)
      subst this
      rw [hy] at hu
      cases hu
      exact W.refl (hD _ _ hy)
theorem Eqb.one (W : Wk D R) (hD : Dom D a) {p : Nat} : Eqb R a p (p + 1) := fun i j x y h1 h2 h3 h4 hx hy => by
  have : i = j := by (first | lia | omega)
  subst this
  rw [hx] at hy
  cases hy
  exact W.refl (hD _ _ hx)
theorem Eqb.snoc (W : Wk D R) (hD : Dom D a) {p q : Nat} (h : Eqb R a p q) (hpq : p < q) {x y : Keyed} (hx : a[q - 1]? = some x) (hy : a[q]? = some y) (h1 : le R x y) (h2 : le R y x) : Eqb R a p (q + 1) := fun i j u v g1 g2 g3 g4 hu hv => by
  rcases Nat.lt_or_ge i q with z | z
  · rcases Nat.lt_or_ge j q with z2 | z2
    · exact h i j u v g1 z g3 z2 hu hv
    · have : j = q := by (first | lia | omega)
      subst this
      rw [hy] at hv
      cases hv
      exact W.trans (hD _ _ hu) (hD _ _ hx) (hD _ _ hy) (h i (j - 1) u x g1 z (by (first | lia | omega)) (by (first | lia | omega)) hu hx) h1
  · have : i = q := by (first | lia | omega)
    subst this
    rw [hy] at hu
    cases hu
    rcases Nat.lt_or_ge j i with z2 | z2
    · exact W.trans (hD _ _ hy) (hD _ _ hx) (hD _ _ hv) h2 (h (i - 1) j x v (by (first | lia | omega)) (by (first | lia | omega)) g3 z2 hx hv)
    · have : j = i := by (first | lia | omega)
      subst this
      rw [hy] at hv
      cases hv
      exact W.refl (hD _ _ hy)
theorem Dom.perm {b : Array Keyed} (h : Dom D a) (hp : b.Perm a) : Dom D b := fun i x hx => by
  have hm : x ∈ b.toList := by
    have : b.toList[i]? = some x := by simpa using hx
    exact List.mem_of_getElem? this
  have hm2 : x ∈ a.toList := (Array.perm_iff_toList_perm.mp hp).mem_iff.mp hm
  obtain ⟨j, hj⟩ := List.mem_iff_getElem?.mp hm2
  exact h j x (by simpa using hj)
/-- a block of alike ones turned round -/
theorem Desc.turnB {p q : Nat} (h : Desc R a lo n) (he : Eqb R a p q) (h1 : lo ≤ p) (h2 : q ≤ lo + n) (hz : lo + n ≤ a.size) : Desc R (mirror a p q ((q - p) / 2)) lo n := fun i j x y g1 g2 g3 hx hy => by
  rw [getElem?_mirror_all (by (first | lia | omega))] at hx hy
  by_cases ci : p ≤ i ∧ i < q
  · rw [if_pos ci] at hx
    by_cases cj : p ≤ j ∧ j < q
    · rw [if_pos cj] at hy
      exact he _ _ y x (by (first | lia | omega)) (by (first | lia | omega)) (by (first | lia | omega)) (by (first | lia | omega)) hy hx
    · rw [if_neg cj] at hy
      exact h _ _ x y (by (first | lia | omega)) (by (first | lia | omega)) g3 hx hy
  · rw [if_neg ci] at hx
    by_cases cj : p ≤ j ∧ j < q
    · rw [if_pos cj] at hy
      exact h _ _ x y g1 (by (first | lia | omega)) (by (first | lia | omega)) hx hy
    · rw [if_neg cj] at hy
      exact h _ _ x y g1 g2 g3 hx hy
theorem Eqb.turnB {p q : Nat} (he : Eqb R a p q) (hz : q ≤ a.size) : Eqb R (mirror a p q ((q - p) / 2)) p q := fun i j x y g1 g2 g3 g4 hx hy => by
  rw [getElem?_mirror_all hz, if_pos ⟨g1, g2⟩] at hx
  rw [getElem?_mirror_all hz, if_pos ⟨g3, g4⟩] at hy
  exact he _ _ x y (by (first | lia | omega)) (by (first | lia | omega)) (by (first | lia | omega)) (by (first | lia | omega)) hx hy
theorem Desc.turned (h : Desc R a lo n) (hz : lo + n ≤ a.size) : Asc R (mirror a lo (lo + n) ((lo + n - lo) / 2)) lo n := fun i j x y g1 g2 g3 hx hy => by
  rw [getElem?_mirror_all hz, if_pos ⟨g1, by (first | lia | omega)⟩] at hx
  rw [getElem?_mirror_all hz, if_pos ⟨by (first | lia | omega), g3⟩] at hy
  exact h _ _ y x (by (first | lia | omega)) (by (first | lia | omega)) (by (first | lia | omega)) hy hx
theorem Eqb.desc (h : Eqb R a lo (lo + n)) : Desc R a lo n := fun i j x y g1 g2 g3 hx hy => h j i y x (by (first | lia | omega)) g3 g1 (by (first | lia | omega)) hy hx
theorem Asc.eqb (W : Wk D R) (hD : Dom D a) (h : Asc R a lo n) {x y : Keyed} (hx : a[lo]? = some x) (hy : a[lo + n - 1]? = some y) (hxy : le R y x) : Eqb R a lo (lo + n) := fun i j u v g1 g2 g3 g4 hu hv => by
  have h1 := h i (lo + n - 1) u y g1 (by (first | lia | omega)) (by (first | lia | omega)) hu hy
  have h2 := h lo j x v (Nat.le_refl _) g3 g4 hx hv
  exact W.trans (hD _ _ hu) (hD _ _ hx) (hD _ _ hv) (W.trans (hD _ _ hu) (hD _ _ hy) (hD _ _ hx) h1 hxy) h2
end
/-! ### what stands fast while a run is sought -/
structure Bs (D : Keyed → Prop) (κ : SortKind) (p₀ : Array (Nat × Nat × Nat)) (a₀ : Array Keyed) (lo : Nat) (st : SortSt) : Prop where
  kind : kindOf st = κ
  pend : pendingOf st = p₀
  failed : failedOf st = none
  perm : (arrOf st).Perm a₀
  keep : ∀ k, k < lo → (arrOf st)[k]? = a₀[k]?
  dom : Dom D a₀
section
variable {prog : Program} {w : World} {A : Around} {E : Value → Shared → Prop} {s : Shared} {κ : SortKind} {D : Keyed → Prop} {R : Keyed → Keyed → Bool} {p₀ : Array (Nat × Nat × Nat)} {a₀ : Array Keyed} {lo : Nat}
theorem Bs.size {st : SortSt} (B : Bs D κ p₀ a₀ lo st) : (arrOf st).size = a₀.size := B.perm.size_eq
theorem Bs.domA {st : SortSt} (B : Bs D κ p₀ a₀ lo st) : Dom D (arrOf st) := B.dom.perm B.perm
theorem Bs.at {st : SortSt} (B : Bs D κ p₀ a₀ lo st) {i : Nat} (h : i < a₀.size) : ∃ x, (arrOf st)[i]? = some x ∧ D x := by
  have := B.size
  obtain ⟨x, hx, _⟩ := arr_at (a := arrOf st) (i := i) (by (first | lia | omega))
  exact ⟨x, hx, B.domA i x hx⟩
theorem Bs.turn {st : SortSt} (B : Bs D κ p₀ a₀ lo st) {i j : Nat} (hi : lo ≤ i) (hj : j ≤ a₀.size) : Bs D κ p₀ a₀ lo (setArr st (mirror (arrOf st) i j ((j - i) / 2))) :=
  ⟨B.kind, B.pend, B.failed, (mirror_perm _ _ _ _).trans B.perm, fun k hk => by
    show (mirror (arrOf st) i j ((j - i) / 2))[k]? = _
    rw [getElem?_mirror_all (by rw [B.size]; exact hj), if_neg (by (first | lia | omega))]
    exact B.keep k hk, B.dom⟩
theorem wpS_ltAt (C : Cmp prog w A s κ D R) {st : SortSt} (B : Bs D κ p₀ a₀ lo st) {i j : Nat} {x y : Keyed} {Q : Option Bool → SortSt → Prop} (hx : (arrOf st)[i]? = some x) (hy : (arrOf st)[j]? = some y) (h : Q (some (R x y)) st) :
    wpS (model prog w) A E s (ltAt' i j) Q st := by
  rw [ltAt'_eq]
  refine wpS_bind (wpS_get ?_)
  exact wpS_bind (wpS_elem hx (wpS_bind (wpS_elem hy (C.ask x y (B.domA _ _ hx) (B.domA _ _ hy) E st Q B.kind h))))
theorem wpS_rev {st : SortSt} {i j : Nat} {Q : Unit → SortSt → Prop} (h : Q () (setArr st (mirror (arrOf st) i j ((j - i) / 2)))) : wpS (model prog w) A E s (reverseSlice' i j) Q st := by
  rw [reverseSlice'_eq]
  exact wpS_modify h
theorem wpS_countRun (C : Cmp prog w A s κ D R) {st : SortSt} (B : Bs D κ p₀ a₀ lo st) {nrem : Nat} (h1 : 1 ≤ nrem) (hz : lo + nrem ≤ a₀.size) {Q : Option Nat → SortSt → Prop}
    (h : ∀ n st', Bs D κ p₀ a₀ lo st' → 1 ≤ n → n ≤ nrem → Asc R (arrOf st') lo n → Q (some n) st') : wpS (model prog w) A E s (countRun' lo nrem) Q st := by
  have W := C.wk
  rw [countRun'_eq]
  refine wpS_bind (wpS_mono (wpS_forRange (I := fun x c st' => st' = st ∧ c = (none, x) ∧ 1 ≤ x ∧ x ≤ nrem ∧ Asc R (arrOf st) lo x)
    (Q := fun c st' => st' = st ∧ ∃ n, c = (none, n) ∧ 1 ≤ n ∧ n ≤ nrem ∧ Asc R (arrOf st) lo n ∧ (n < nrem → ∃ x y, (arrOf st)[lo + n]? = some x ∧ (arrOf st)[lo + n - 1]? = some y ∧ R x y = true)) ?step ?fin ⟨rfl, rfl, Nat.le_refl _, h1, Asc.one W B.domA⟩) ?post)
  case step =>
    rintro x c st' h0 hx ⟨rfl, rfl, g1, g2, g3⟩
    dsimp only
    obtain ⟨u, hu, du⟩ := B.at (i := lo + x) (by (first | lia | omega))
    obtain ⟨v, hv, dv⟩ := B.at (i := lo + x - 1) (by (first | lia | omega))
    refine wpS_bind (wpS_ltAt C B hu hv ?_)
    dsimp only
    cases hc : R u v with
    | true =>
      rw [if_pos rfl]
      exact wpS_pure ⟨rfl, x, rfl, g1, g2, g3, fun _ => ⟨u, v, hu, hv, hc⟩⟩
    | false =>
      rw [if_neg Bool.false_ne_true]
      exact wpS_pure ⟨rfl, rfl, by (first | lia | omega), by (first | lia | omega), g3.snoc W B.domA g1 hv hu hc⟩
  case fin =>
    rintro c st' ⟨rfl, rfl, g1, g2, g3⟩
    have e : max 1 nrem = nrem := by (first | lia | omega)
    rw [e] at g1 g2 g3 ⊢
    exact ⟨rfl, nrem, rfl, g1, g2, g3, fun z => absurd z (Nat.lt_irrefl _)⟩
  case post =>
    rintro c st' ⟨est, n, rfl, g1, g2, g3, g4⟩
    subst st'
    dsimp only
    by_cases e1 : (n == nrem) = true
    · rw [if_pos e1]
      exact wpS_pure (h n st B g1 g2 g3)
    rw [if_neg e1]
    have hlt : n < nrem := by
      have : ¬ n = nrem := fun z => e1 (by rw [z]; exact beq_self_eq_true _)
      (first | lia | omega)
    obtain ⟨u, v, hu, hv, huv⟩ := g4 hlt
    by_cases e2 : n > 1
    · rw [if_pos e2]
      obtain ⟨f0, hf0, df0⟩ := B.at (i := lo) (by (first | lia | omega))
      refine wpS_bind (wpS_ltAt C B hf0 hv ?_)
      dsimp only
      cases hc0 : R f0 v with
      | true =>
        rw [if_pos rfl]
        exact wpS_pure (h n st B g1 g2 g3)
      | false =>
        rw [if_neg Bool.false_ne_true]
        have E0 := g3.eqb W B.domA hf0 hv hc0
        have z0 := B.size
        have B1 := B.turn (i := lo) (j := lo + n) (Nat.le_refl _) (by (first | lia | omega))
        have E1 := E0.turnB (by (first | lia | omega))
        have u1 : (mirror (arrOf st) lo (lo + n) ((lo + n - lo) / 2))[lo + n]? = some u := by
          rw [getElem?_mirror_all (by (first | lia | omega)), if_neg (by (first | lia | omega))]
          exact hu
        have v1 : (mirror (arrOf st) lo (lo + n) ((lo + n - lo) / 2))[lo + n - 1]? = some f0 := by
          rw [getElem?_mirror_all (by (first | lia | omega)), if_pos (by (first | lia | omega))]
          have e : lo + (lo + n) - 1 - (lo + n - 1) = lo := by (first | lia | omega)
          rw [e]
          exact hf0
        have du := B.domA _ _ hu
        have dv := B.domA _ _ hv
        have D1 := E1.desc.snoc W B1.domA g1 v1 u1 (W.trans du dv df0 (W.of_lt du dv huv) hc0)
        refine wpS_bind (wpS_rev ?_)
        generalize hst1 : setArr st _ = st1 at B1 ⊢
        have hD1 : Desc R (arrOf st1) lo (n + 1) := by
          rw [← hst1]
          exact D1
        refine wpS_bind (wpS_rule ?_)
        refine wpS_bind (wpS_mono (wpS_forRange (I := fun x c st' => Bs D κ p₀ a₀ lo st' ∧ ∃ q, c = (none, x, q) ∧ n + 1 ≤ x ∧ x ≤ nrem ∧ q + 1 ≤ x ∧ Desc R (arrOf st') lo x ∧ Eqb R (arrOf st') (lo + x - (q + 1)) (lo + x))
          (Q := fun c st' => Bs D κ p₀ a₀ lo st' ∧ ∃ n' q, c = (none, n', q) ∧ n + 1 ≤ n' ∧ n' ≤ nrem ∧ q + 1 ≤ n' ∧ Desc R (arrOf st') lo n' ∧ Eqb R (arrOf st') (lo + n' - (q + 1)) (lo + n')) ?step2 ?fin2 ⟨B1, 0, rfl, Nat.le_refl _, by (first | lia | omega), by (first | lia | omega), hD1, ?one⟩) ?post2)
        case one =>
          have e : lo + (n + 1) = lo + (n + 1) - (0 + 1) + 1 := by (first | lia | omega)
          exact e ▸ Eqb.one W (B1).domA
        case step2 =>
          rintro x c st' h0 hx ⟨B', q, rfl, k1, k2, k3, k4, k5⟩
          have z2 := B'.size
          dsimp only
          obtain ⟨u2, hu2, du2⟩ := B'.at (i := lo + x) (by (first | lia | omega))
          obtain ⟨v2, hv2, dv2⟩ := B'.at (i := lo + x - 1) (by (first | lia | omega))
          refine wpS_bind (wpS_ltAt C B' hu2 hv2 ?_)
          dsimp only
          cases hc : R u2 v2 with
          | true =>
            rw [if_pos rfl]
            have D2 : Desc R (arrOf st') lo (x + 1) := k4.snoc W B'.domA (by (first | lia | omega)) hv2 hu2 (W.of_lt du2 dv2 hc)
            by_cases hq : q > 0
            · rw [if_pos hq]
              refine wpS_bind (wpS_rev (wpS_pure ⟨B'.turn (by (first | lia | omega)) (by (first | lia | omega)), 0, rfl, by (first | lia | omega), by (first | lia | omega), by (first | lia | omega), D2.turnB k5 (by (first | lia | omega)) (by (first | lia | omega)) (by (first | lia | omega)), ?_⟩))
              have e : lo + (x + 1) = lo + (x + 1) - (0 + 1) + 1 := by (first | lia | omega)
              exact e ▸ Eqb.one W (B'.turn (by (first | lia | omega)) (by (first | lia | omega))).domA
            · rw [if_neg hq]
              refine wpS_pure ⟨B', 0, rfl, by (first | lia | omega), by (first | lia | omega), by (first | lia | omega), D2, ?_⟩
              have e : lo + (x + 1) = lo + (x + 1) - (0 + 1) + 1 := by (first | lia | omega)
              exact e ▸ Eqb.one W B'.domA
          | false =>
            rw [if_neg Bool.false_ne_true]
            refine wpS_bind (wpS_ltAt C B' hv2 hu2 ?_)
            dsimp only
            cases hc2 : R v2 u2 with
            | true =>
              rw [if_pos rfl]
              exact wpS_pure ⟨B', x, q, rfl, k1, k2, k3, k4, k5⟩
            | false =>
              rw [if_neg Bool.false_ne_true]
              refine wpS_pure ⟨B', q + 1, rfl, by (first | lia | omega), by (first | lia | omega), by (first | lia | omega), k4.snoc W B'.domA (by (first | lia | omega)) hv2 hu2 hc2, ?_⟩
              have e1 : lo + (x + 1) - (q + 1 + 1) = lo + x - (q + 1) := by (first | lia | omega)
              rw [e1]
              exact k5.snoc W B'.domA (by (first | lia | omega)) hv2 hu2 hc hc2
        case fin2 =>
          rintro c st' ⟨B', q, rfl, k1, k2, k3, k4, k5⟩
          exact ⟨B', _, q, rfl, k1, k2, k3, k4, k5⟩
        case post2 =>
          rintro c st' ⟨B', n', q, rfl, k1, k2, k3, k4, k5⟩
          have z2 := B'.size
          dsimp only
          by_cases hq : q > 0
          · rw [if_pos hq]
            refine wpS_bind (wpS_rev ?_)
            have B3 := B'.turn (i := lo + n' - (q + 1)) (j := lo + n') (by (first | lia | omega)) (by (first | lia | omega))
            have D3 := k4.turnB k5 (by (first | lia | omega)) (by (first | lia | omega)) (by (first | lia | omega))
            generalize hst3 : setArr st' _ = st3 at B3 ⊢
            have hD3 : Desc R (arrOf st3) lo n' := by
              rw [← hst3]
              exact D3
            have z3 := (B3).size
            have B4 := (B3).turn (i := lo) (j := lo + n') (Nat.le_refl _) (by (first | lia | omega))
            have A4 := Desc.turned (hD3) (by (first | lia | omega))
            refine wpS_bind (wpS_rev ?_)
            generalize hst4 : setArr st3 _ = st4 at B4 ⊢
            have hA4 : Asc R (arrOf st4) lo n' := by
              rw [← hst4]
              exact A4
            refine wpS_bind (wpS_mono (wpS_forRange (I := fun x c st' => st' = st4 ∧ c = (none, x) ∧ n' ≤ x ∧ x ≤ nrem ∧ Asc R (arrOf st4) lo x)
              (Q := fun c st' => st' = st4 ∧ ∃ m, c = (none, m) ∧ 1 ≤ m ∧ m ≤ nrem ∧ Asc R (arrOf st4) lo m) ?step5 ?fin5 ⟨rfl, rfl, Nat.le_refl _, by (first | lia | omega), hA4⟩) ?post5)
            case step5 =>
              rintro x c st' h0 hx ⟨rfl, rfl, k1, k2, k3⟩
              dsimp only
              obtain ⟨u5, hu5, du5⟩ := B4.at (i := lo + x) (by (first | lia | omega))
              obtain ⟨v5, hv5, dv5⟩ := B4.at (i := lo + x - 1) (by (first | lia | omega))
              refine wpS_bind (wpS_ltAt C B4 hu5 hv5 ?_)
              dsimp only
              cases hc : R u5 v5 with
              | true =>
                rw [if_pos rfl]
                exact wpS_pure ⟨rfl, x, rfl, by (first | lia | omega), k2, k3⟩
              | false =>
                rw [if_neg Bool.false_ne_true]
                exact wpS_pure ⟨rfl, rfl, by (first | lia | omega), by (first | lia | omega), k3.snoc W B4.domA (by (first | lia | omega)) hv5 hu5 hc⟩
            case fin5 =>
              rintro c st' ⟨rfl, rfl, k1, k2, k3⟩
              exact ⟨rfl, _, rfl, by (first | lia | omega), k2, k3⟩
            case post5 =>
              rintro c st' ⟨est, m, rfl, k1, k2, k3⟩
              subst st'
              exact wpS_pure (h m st4 B4 k1 k2 k3)
          · rw [if_neg hq]
            have z3 := (B').size
            have B4 := (B').turn (i := lo) (j := lo + n') (Nat.le_refl _) (by (first | lia | omega))
            have A4 := Desc.turned (k4) (by (first | lia | omega))
            refine wpS_bind (wpS_rev ?_)
            generalize hst4 : setArr st' _ = st4 at B4 ⊢
            have hA4 : Asc R (arrOf st4) lo n' := by
              rw [← hst4]
              exact A4
            refine wpS_bind (wpS_mono (wpS_forRange (I := fun x c st' => st' = st4 ∧ c = (none, x) ∧ n' ≤ x ∧ x ≤ nrem ∧ Asc R (arrOf st4) lo x)
              (Q := fun c st' => st' = st4 ∧ ∃ m, c = (none, m) ∧ 1 ≤ m ∧ m ≤ nrem ∧ Asc R (arrOf st4) lo m) ?step5 ?fin5 ⟨rfl, rfl, Nat.le_refl _, by (first | lia | omega), hA4⟩) ?post5)
            case step5 =>
              rintro x c st' h0 hx ⟨rfl, rfl, k1, k2, k3⟩
              dsimp only
              obtain ⟨u5, hu5, du5⟩ := B4.at (i := lo + x) (by (first | lia | omega))
              obtain ⟨v5, hv5, dv5⟩ := B4.at (i := lo + x - 1) (by (first | lia | omega))
              refine wpS_bind (wpS_ltAt C B4 hu5 hv5 ?_)
              dsimp only
              cases hc : R u5 v5 with
              | true =>
                rw [if_pos rfl]
                exact wpS_pure ⟨rfl, x, rfl, by (first | lia | omega), k2, k3⟩
              | false =>
                rw [if_neg Bool.false_ne_true]
                exact wpS_pure ⟨rfl, rfl, by (first | lia | omega), by (first | lia | omega), k3.snoc W B4.domA (by (first | lia | omega)) hv5 hu5 hc⟩
            case fin5 =>
              rintro c st' ⟨rfl, rfl, k1, k2, k3⟩
              exact ⟨rfl, _, rfl, by (first | lia | omega), k2, k3⟩
            case post5 =>
              rintro c st' ⟨est, m, rfl, k1, k2, k3⟩
              subst st'
              exact wpS_pure (h m st4 B4 k1 k2 k3)
    · rw [if_neg e2]
      have en : n = 1 := by (first | lia | omega)
      have D1 : Desc R (arrOf st) lo (n + 1) := by
        have E0 : Eqb R (arrOf st) lo (lo + n) := by
          rw [en]
          exact Eqb.one W B.domA
        exact E0.desc.snoc W B.domA g1 hv hu (W.of_lt (B.domA _ _ hu) (B.domA _ _ hv) huv)
      refine wpS_bind (wpS_rule ?_)
      refine wpS_bind (wpS_mono (wpS_forRange (I := fun x c st' => Bs D κ p₀ a₀ lo st' ∧ ∃ q, c = (none, x, q) ∧ n + 1 ≤ x ∧ x ≤ nrem ∧ q + 1 ≤ x ∧ Desc R (arrOf st') lo x ∧ Eqb R (arrOf st') (lo + x - (q + 1)) (lo + x))
        (Q := fun c st' => Bs D κ p₀ a₀ lo st' ∧ ∃ n' q, c = (none, n', q) ∧ n + 1 ≤ n' ∧ n' ≤ nrem ∧ q + 1 ≤ n' ∧ Desc R (arrOf st') lo n' ∧ Eqb R (arrOf st') (lo + n' - (q + 1)) (lo + n')) ?step2 ?fin2 ⟨B, 0, rfl, Nat.le_refl _, by (first | lia | omega), by (first | lia | omega), D1, ?one⟩) ?post2)
      case one =>
        have e : lo + (n + 1) = lo + (n + 1) - (0 + 1) + 1 := by (first | lia | omega)
        exact e ▸ Eqb.one W (B).domA
      case step2 =>
        rintro x c st' h0 hx ⟨B', q, rfl, k1, k2, k3, k4, k5⟩
        have z2 := B'.size
        dsimp only
        obtain ⟨u2, hu2, du2⟩ := B'.at (i := lo + x) (by (first | lia | omega))
        obtain ⟨v2, hv2, dv2⟩ := B'.at (i := lo + x - 1) (by (first | lia | omega))
        refine wpS_bind (wpS_ltAt C B' hu2 hv2 ?_)
        dsimp only
        cases hc : R u2 v2 with
        | true =>
          rw [if_pos rfl]
          have D2 : Desc R (arrOf st') lo (x + 1) := k4.snoc W B'.domA (by (first | lia | omega)) hv2 hu2 (W.of_lt du2 dv2 hc)
          by_cases hq : q > 0
          · rw [if_pos hq]
            refine wpS_bind (wpS_rev (wpS_pure ⟨B'.turn (by (first | lia | omega)) (by (first | lia | omega)), 0, rfl, by (first | lia | omega), by (first | lia | omega), by (first | lia | omega), D2.turnB k5 (by (first | lia | omega)) (by (first | lia | omega)) (by (first | lia | omega)), ?_⟩))
            have e : lo + (x + 1) = lo + (x + 1) - (0 + 1) + 1 := by (first | lia | omega)
            exact e ▸ Eqb.one W (B'.turn (by (first | lia | omega)) (by (first | lia | omega))).domA
          · rw [if_neg hq]
            refine wpS_pure ⟨B', 0, rfl, by (first | lia | omega), by (first | lia | omega), by (first | lia | omega), D2, ?_⟩
            have e : lo + (x + 1) = lo + (x + 1) - (0 + 1) + 1 := by (first | lia | omega)
            exact e ▸ Eqb.one W B'.domA
        | false =>
          rw [if_neg Bool.false_ne_true]
          refine wpS_bind (wpS_ltAt C B' hv2 hu2 ?_)
          dsimp only
          cases hc2 : R v2 u2 with
          | true =>
            rw [if_pos rfl]
            exact wpS_pure ⟨B', x, q, rfl, k1, k2, k3, k4, k5⟩
          | false =>
            rw [if_neg Bool.false_ne_true]
            refine wpS_pure ⟨B', q + 1, rfl, by (first | lia | omega), by (first | lia | omega), by (first | lia | omega), k4.snoc W B'.domA (by (first | lia | omega)) hv2 hu2 hc2, ?_⟩
            have e1 : lo + (x + 1) - (q + 1 + 1) = lo + x - (q + 1) := by (first | lia | omega)
            rw [e1]
            exact k5.snoc W B'.domA (by (first | lia | omega)) hv2 hu2 hc hc2
      case fin2 =>
        rintro c st' ⟨B', q, rfl, k1, k2, k3, k4, k5⟩
        exact ⟨B', _, q, rfl, k1, k2, k3, k4, k5⟩
      case post2 =>
        rintro c st' ⟨B', n', q, rfl, k1, k2, k3, k4, k5⟩
        have z2 := B'.size
        dsimp only
        by_cases hq : q > 0
        · rw [if_pos hq]
          refine wpS_bind (wpS_rev ?_)
          have B3 := B'.turn (i := lo + n' - (q + 1)) (j := lo + n') (by (first | lia | omega)) (by (first | lia | omega))
          have D3 := k4.turnB k5 (by (first | lia | omega)) (by (first | lia | omega)) (by (first | lia | omega))
          generalize hst3 : setArr st' _ = st3 at B3 ⊢
          have hD3 : Desc R (arrOf st3) lo n' := by
            rw [← hst3]
            exact D3
          have z3 := (B3).size
          have B4 := (B3).turn (i := lo) (j := lo + n') (Nat.le_refl _) (by (first | lia | omega))
          have A4 := Desc.turned (hD3) (by (first | lia | omega))
          refine wpS_bind (wpS_rev ?_)
          generalize hst4 : setArr st3 _ = st4 at B4 ⊢
          have hA4 : Asc R (arrOf st4) lo n' := by
            rw [← hst4]
            exact A4
          refine wpS_bind (wpS_mono (wpS_forRange (I := fun x c st' => st' = st4 ∧ c = (none, x) ∧ n' ≤ x ∧ x ≤ nrem ∧ Asc R (arrOf st4) lo x)
            (Q := fun c st' => st' = st4 ∧ ∃ m, c = (none, m) ∧ 1 ≤ m ∧ m ≤ nrem ∧ Asc R (arrOf st4) lo m) ?step5 ?fin5 ⟨rfl, rfl, Nat.le_refl _, by (first | lia | omega), hA4⟩) ?post5)
          case step5 =>
            rintro x c st' h0 hx ⟨rfl, rfl, k1, k2, k3⟩
            dsimp only
            obtain ⟨u5, hu5, du5⟩ := B4.at (i := lo + x) (by (first | lia | omega))
            obtain ⟨v5, hv5, dv5⟩ := B4.at (i := lo + x - 1) (by (first | lia | omega))
            refine wpS_bind (wpS_ltAt C B4 hu5 hv5 ?_)
            dsimp only
            cases hc : R u5 v5 with
            | true =>
              rw [if_pos rfl]
              exact wpS_pure ⟨rfl, x, rfl, by (first | lia | omega), k2, k3⟩
            | false =>
              rw [if_neg Bool.false_ne_true]
              exact wpS_pure ⟨rfl, rfl, by (first | lia | omega), by (first | lia | omega), k3.snoc W B4.domA (by (first | lia | omega)) hv5 hu5 hc⟩
          case fin5 =>
            rintro c st' ⟨rfl, rfl, k1, k2, k3⟩
            exact ⟨rfl, _, rfl, by (first | lia | omega), k2, k3⟩
          case post5 =>
            rintro c st' ⟨est, m, rfl, k1, k2, k3⟩
            subst st'
            exact wpS_pure (h m st4 B4 k1 k2 k3)
        · rw [if_neg hq]
          have z3 := (B').size
          have B4 := (B').turn (i := lo) (j := lo + n') (Nat.le_refl _) (by (first | lia | omega))
          have A4 := Desc.turned (k4) (by (first | lia | omega))
          refine wpS_bind (wpS_rev ?_)
          generalize hst4 : setArr st' _ = st4 at B4 ⊢
          have hA4 : Asc R (arrOf st4) lo n' := by
            rw [← hst4]
            exact A4
          refine wpS_bind (wpS_mono (wpS_forRange (I := fun x c st' => st' = st4 ∧ c = (none, x) ∧ n' ≤ x ∧ x ≤ nrem ∧ Asc R (arrOf st4) lo x)
            (Q := fun c st' => st' = st4 ∧ ∃ m, c = (none, m) ∧ 1 ≤ m ∧ m ≤ nrem ∧ Asc R (arrOf st4) lo m) ?step5 ?fin5 ⟨rfl, rfl, Nat.le_refl _, by (first | lia | omega), hA4⟩) ?post5)
          case step5 =>
            rintro x c st' h0 hx ⟨rfl, rfl, k1, k2, k3⟩
            dsimp only
            obtain ⟨u5, hu5, du5⟩ := B4.at (i := lo + x) (by (first | lia | omega))
            obtain ⟨v5, hv5, dv5⟩ := B4.at (i := lo + x - 1) (by (first | lia | omega))
            refine wpS_bind (wpS_ltAt C B4 hu5 hv5 ?_)
            dsimp only
            cases hc : R u5 v5 with
            | true =>
              rw [if_pos rfl]
              exact wpS_pure ⟨rfl, x, rfl, by (first | lia | omega), k2, k3⟩
            | false =>
              rw [if_neg Bool.false_ne_true]
              exact wpS_pure ⟨rfl, rfl, by (first | lia | omega), by (first | lia | omega), k3.snoc W B4.domA (by (first | lia | omega)) hv5 hu5 hc⟩
          case fin5 =>
            rintro c st' ⟨rfl, rfl, k1, k2, k3⟩
            exact ⟨rfl, _, rfl, by (first | lia | omega), k2, k3⟩
          case post5 =>
            rintro c st' ⟨est, m, rfl, k1, k2, k3⟩
            subst st'
            exact wpS_pure (h m st4 B4 k1 k2 k3)
end
end TS

set_option linter.all false
set_option maxRecDepth 100000
set_option maxHeartbeats 4000000
namespace TS
open PySem PyProof.Rows
section
variable {prog : Program} {w : World} {A : Around} {E : Value → Shared → Prop} {s : Shared} {κ : SortKind} {D : Keyed → Prop} {R : Keyed → Keyed → Bool} {p₀ : Array (Nat × Nat × Nat)} {a₀ : Array Keyed} {lo : Nat}
theorem Bs.down {st : SortSt} (B : Bs D κ p₀ a₀ lo st) {src dst : Nat} (h1 : lo ≤ dst) (h2 : dst ≤ src) (h3 : src < a₀.size) : Bs D κ p₀ a₀ lo (setArr st (bubble (arrOf st) src (src - dst))) :=
  ⟨B.kind, B.pend, B.failed, (bubble_perm _ _ _).trans B.perm, fun k hk => by
    show (bubble (arrOf st) src (src - dst))[k]? = _
    rw [getElem?_bubble (by rw [B.size]; exact h3) _ (by (first | lia | omega)), if_neg (by (first | lia | omega)), if_neg (by (first | lia | omega))]
    exact B.keep k hk, B.dom⟩
theorem Asc.insert (W : Wk D R) {a : Array Keyed} (hD : Dom D a) {k l : Nat} {x : Keyed} (h : Asc R a lo k) (hl : l ≤ k) (hz : lo + k < a.size) (hx : a[lo + k]? = some x) (h1 : ∀ i y, i < l → a[lo + i]? = some y → le R y x) (h2 : ∀ i y, l ≤ i → i < k → a[lo + i]? = some y → le R x y) :
    Asc R (bubble a (lo + k) (lo + k - (lo + l))) lo (k + 1) := fun i j u v g1 g2 g3 hu hv => by
  have e : lo + k - (lo + k - (lo + l)) = lo + l := by (first | lia | omega)
  rw [getElem?_bubble hz _ (by (first | lia | omega)), e] at hu hv
  have old : ∀ i, lo ≤ i → i < lo + k → ∀ y, a[i]? = some y → (i < lo + l → le R y x) ∧ (lo + l ≤ i → le R x y) := fun i hi1 hi2 y hy => by
    have ei : a[lo + (i - lo)]? = some y := by
      have : lo + (i - lo) = i := by (first | lia | omega)
      rw [this]
      exact hy
    exact ⟨fun z => h1 (i - lo) y (by (first | lia | omega)) ei, fun z => h2 (i - lo) y (by (first | lia | omega)) (by (first | lia | omega)) ei⟩
  by_cases ci : i = lo + l
  · rw [if_pos ci, hx] at hu
    cases hu
    by_cases cj : j = lo + l
    · rw [if_pos cj, hx] at hv
      cases hv
      exact W.refl (hD _ _ hx)
    · rw [if_neg cj, if_pos (by (first | lia | omega))] at hv
      exact (old (j - 1) (by (first | lia | omega)) (by (first | lia | omega)) v hv).2 (by (first | lia | omega))
  · rw [if_neg ci] at hu
    by_cases ci2 : lo + l < i ∧ i ≤ lo + k
    · rw [if_pos ci2] at hu
      rw [if_neg (by (first | lia | omega)), if_pos (by (first | lia | omega))] at hv
      exact h (i - 1) (j - 1) u v (by (first | lia | omega)) (by (first | lia | omega)) (by (first | lia | omega)) hu hv
    · rw [if_neg ci2] at hu
      by_cases cj : j = lo + l
      · rw [if_pos cj, hx] at hv
        cases hv
        exact (old i g1 (by (first | lia | omega)) u hu).1 (by (first | lia | omega))
      · rw [if_neg cj] at hv
        by_cases cj2 : lo + l < j ∧ j ≤ lo + k
        · rw [if_pos cj2] at hv
          exact h i (j - 1) u v g1 (by (first | lia | omega)) (by (first | lia | omega)) hu hv
        · rw [if_neg cj2] at hv
          exact h i j u v g1 g2 (by (first | lia | omega)) hu hv
theorem wpS_binarySort (C : Cmp prog w A s κ D R) {st : SortSt} (B : Bs D κ p₀ a₀ lo st) {n ok : Nat} (hok : 1 ≤ ok) (hn : ok ≤ n) (hz : lo + n ≤ a₀.size) (hA : Asc R (arrOf st) lo ok) {Q : Bool → SortSt → Prop}
    (h : ∀ st', Bs D κ p₀ a₀ lo st' → Asc R (arrOf st') lo n → Q true st') : wpS (model prog w) A E s (binarySort' lo n ok) Q st := by
  have W := C.wk
  have em : max ok 1 = ok := by (first | lia | omega)
  rw [binarySort'_eq, em]
  refine wpS_bind (wpS_mono (wpS_forRange (I := fun k c st' => c = (none, ()) ∧ Bs D κ p₀ a₀ lo st' ∧ ok ≤ k ∧ k ≤ n ∧ Asc R (arrOf st') lo k) (Q := fun c st' => c = (none, ()) ∧ Bs D κ p₀ a₀ lo st' ∧ Asc R (arrOf st') lo n) ?step ?fin ⟨rfl, B, Nat.le_refl _, hn, hA⟩) ?post)
  case fin =>
    rintro c st' ⟨rfl, B', k1, k2, k3⟩
    have e : max ok n = n := by (first | lia | omega)
    rw [e] at k3
    exact ⟨rfl, B', k3⟩
  case post =>
    rintro c st' ⟨rfl, B', k3⟩
    exact wpS_pure (h st' B' k3)
  case step =>
    rintro k c st' _ hk ⟨rfl, B', k1, k2, k3⟩
    have z1 := B'.size
    dsimp only
    obtain ⟨x, hx, dx⟩ := B'.at (i := lo + k) (by (first | lia | omega))
    refine wpS_bind (wpS_mono (wpS_forRange (I := fun j c st'' => st'' = st' ∧ ∃ l r, c = (none, l, r) ∧ l ≤ r ∧ r ≤ k ∧ r - l ≤ k - j ∧ (∀ i y, i < l → (arrOf st')[lo + i]? = some y → le R y x) ∧ ∀ i y, r ≤ i → i < k → (arrOf st')[lo + i]? = some y → le R x y)
      (Q := fun c st'' => st'' = st' ∧ ∃ l r, c = (none, l, r) ∧ l ≤ k ∧ (∀ i y, i < l → (arrOf st')[lo + i]? = some y → le R y x) ∧ ∀ i y, l ≤ i → i < k → (arrOf st')[lo + i]? = some y → le R x y) ?step1 ?fin1 ⟨rfl, 0, k, rfl, by (first | lia | omega), by (first | lia | omega), by (first | lia | omega), fun i y hi => absurd hi (Nat.not_lt_zero _), fun i y h1 h2 => by (first | lia | omega)⟩) ?post1)
    case step1 =>
      rintro j c st'' _ hj ⟨rfl, l, r, rfl, m1, m2, m3, m4, m5⟩
      dsimp only
      by_cases hge : l ≥ r
      · rw [if_pos hge]
        have e : l = r := by (first | lia | omega)
        subst e
        exact wpS_pure ⟨rfl, l, l, rfl, m2, m4, m5⟩
      · rw [if_neg hge]
        obtain ⟨y, hy, dy⟩ := B'.at (i := lo + (l + r) / 2) (by (first | lia | omega))
        refine wpS_bind (wpS_ltAt C B' hx hy ?_)
        dsimp only
        cases hc : R x y with
        | true =>
          rw [if_pos rfl]
          refine wpS_pure ⟨rfl, l, (l + r) / 2, rfl, by (first | lia | omega), by (first | lia | omega), by (first | lia | omega), m4, fun i y' g1 g2 hy' => ?_⟩
          exact W.trans dx dy (B'.domA _ _ hy') (W.of_lt dx dy hc) (k3 _ _ y y' (by (first | lia | omega)) (by (first | lia | omega)) (by (first | lia | omega)) hy hy')
        | false =>
          rw [if_neg Bool.false_ne_true]
          refine wpS_pure ⟨rfl, (l + r) / 2 + 1, r, rfl, by (first | lia | omega), m2, by (first | lia | omega), fun i y' g1 hy' => ?_, m5⟩
          exact W.trans (B'.domA _ _ hy') dy dx (k3 _ _ y' y (by (first | lia | omega)) (by (first | lia | omega)) (by (first | lia | omega)) hy' hy) hc
    case fin1 =>
      rintro c st'' ⟨rfl, l, r, rfl, m1, m2, m3, m4, m5⟩
      have e : l = r := by (first | lia | omega)
      subst e
      exact ⟨rfl, l, l, rfl, m2, m4, m5⟩
    case post1 =>
      rintro c st'' ⟨est, l, r, rfl, m1, m2, m3⟩
      subst st''
      dsimp only
      rw [moveDown'_eq]
      exact wpS_bind (wpS_modify (wpS_pure ⟨rfl, B'.down (by (first | lia | omega)) (by (first | lia | omega)) (by (first | lia | omega)), by (first | lia | omega), by (first | lia | omega), k3.insert W B'.domA m1 (by (first | lia | omega)) hx m2 m3⟩))
end
/-! ### segments -/
section
variable {D : Keyed → Prop} {R : Keyed → Keyed → Bool}
def seg (l : List Keyed) (i n : Nat) : List Keyed := (l.drop i).take n
theorem asc_srt {a : Array Keyed} {lo n : Nat} (h : Asc R a lo n) : Srt R (seg a.toList lo n) := by
  refine List.pairwise_iff_getElem.mpr fun i j hi hj hij => ?_
  unfold seg at hi hj ⊢
  rw [List.length_take, List.length_drop, Array.length_toList] at hi hj
  rw [List.getElem_take, List.getElem_take, List.getElem_drop, List.getElem_drop]
  refine h (lo + i) (lo + j) _ _ (by (first | lia | omega)) (by (first | lia | omega)) (by (first | lia | omega)) ?_ ?_
  · rw [arr_list, List.getElem?_eq_getElem (by rw [Array.length_toList]; (first | lia | omega))]
  · rw [arr_list, List.getElem?_eq_getElem (by rw [Array.length_toList]; (first | lia | omega))]
/-- a chain of runs from s to e -/
def Ch (R : Keyed → Keyed → Bool) (a : Array Keyed) : Nat → List (Nat × Nat × Nat) → Nat → Prop
  | s, [], e => s = e
  | s, (t, n, _) :: r, e => t = s ∧ 1 ≤ n ∧ Asc R a s n ∧ Ch R a (s + n) r e
theorem Ch.append {a : Array Keyed} : ∀ {p q : List (Nat × Nat × Nat)} {s e : Nat}, Ch R a s (p ++ q) e ↔ ∃ m, Ch R a s p m ∧ Ch R a m q e
  | [], q, s, e => ⟨fun h => ⟨s, rfl, h⟩, fun ⟨m, h1, h2⟩ => by
    have h1' : s = m := h1
    rw [h1']
    exact h2⟩
  | (t, n, w) :: p, q, s, e => by
    constructor
    · rintro ⟨h1, h2, h3, h4⟩
      obtain ⟨m, h5, h6⟩ := Ch.append.mp h4
      exact ⟨m, ⟨h1, h2, h3, h5⟩, h6⟩
    · rintro ⟨m, ⟨h1, h2, h3, h4⟩, h5⟩
      exact ⟨h1, h2, h3, Ch.append.mpr ⟨m, h4, h5⟩⟩
theorem Ch.le_ {a : Array Keyed} : ∀ {p : List (Nat × Nat × Nat)} {s e : Nat}, Ch R a s p e → s + p.length ≤ e
  | [], s, e, h => by
    have h' : s = e := h
    simp [h']
  | (t, n, w) :: p, s, e, ⟨h1, h2, h3, h4⟩ => by
    have := Ch.le_ h4
    rw [List.length_cons]
    (first | lia | omega)
theorem Asc.congr {a b : Array Keyed} {lo n : Nat} (h : Asc R a lo n) (e : ∀ i, lo ≤ i → i < lo + n → b[i]? = a[i]?) : Asc R b lo n := fun i j x y g1 g2 g3 hx hy => by
  rw [e i g1 (by (first | lia | omega))] at hx
  rw [e j (by (first | lia | omega)) g3] at hy
  exact h i j x y g1 g2 g3 hx hy
theorem Ch.congr {a b : Array Keyed} : ∀ {p : List (Nat × Nat × Nat)} {s e : Nat}, Ch R a s p e → (∀ i, s ≤ i → i < e → b[i]? = a[i]?) → Ch R b s p e
  | [], _, _, h, _ => h
  | (t, n, w) :: p, s, e, ⟨h1, h2, h3, h4⟩, hc => by
    have := Ch.le_ h4
    exact ⟨h1, h2, h3.congr fun i g1 g2 => hc i g1 (by (first | lia | omega)), Ch.congr h4 fun i g1 g2 => hc i (by (first | lia | omega)) g2⟩
/-- a list written over an array -/
theorem write_at : ∀ (m : List Keyed) (a : Array Keyed) (s k : Nat), s + k + m.length ≤ a.size → ∀ i, ((m.zipIdx k).foldl (fun a (p : Keyed × Nat) => a.setIfInBounds (s + p.2) p.1) a)[i]? = if s + k ≤ i ∧ i < s + k + m.length then m[i - (s + k)]? else a[i]?
  | [], a, s, k, _, i => by
    rw [if_neg (by simp only [List.length_nil]; (first | lia | omega))]
    rfl
  | x :: m, a, s, k, hz, i => by
    rw [List.length_cons] at hz
    rw [List.zipIdx_cons, List.foldl_cons, write_at m _ s (k + 1) (by rw [Array.size_setIfInBounds]; (first | lia | omega))]
    rw [Array.getElem?_setIfInBounds, List.length_cons]
    dsimp only
    by_cases h1 : s + (k + 1) ≤ i ∧ i < s + (k + 1) + m.length
    · rw [if_pos h1, if_pos (by (first | lia | omega))]
      have e : i - (s + k) = (i - (s + (k + 1))) + 1 := by (first | lia | omega)
      rw [e, List.getElem?_cons_succ]
    · rw [if_neg h1]
      by_cases h2 : s + k = i
      · rw [if_pos h2, if_pos (by (first | lia | omega)), if_pos (by (first | lia | omega))]
        have e : i - (s + k) = 0 := by (first | lia | omega)
        rw [e]
        rfl
      · rw [if_neg h2, if_neg (by (first | lia | omega))]
end
end TS

set_option linter.all false
set_option maxRecDepth 100000
set_option maxHeartbeats 4000000
namespace TS
open PySem PyProof.Rows
section
variable {prog : Program} {w : World} {A : Around} {E : Value → Shared → Prop} {s : Shared} {κ : SortKind} {D : Keyed → Prop} {R : Keyed → Keyed → Bool}
theorem gal_rightS (W : Wk D R) {arr : Array Keyed} {key : Keyed} {base n : Nat} (hs : Asc R arr base n) (hD : Dom D arr) (hk : D key) (hn : base + n ≤ arr.size) :
    ∃ k, Gal D R false key arr base n k ∧ (∀ i x, i < k → arr[base + i]? = some x → le R x key) ∧ ∀ i x, k ≤ i → i < n → arr[base + i]? = some x → R key x = true := by
  have mono : ∀ i j, i ≤ j → j < n → (match arr[base + j]? with | some x => bey R false key x | none => false) = true → (match arr[base + i]? with | some x => bey R false key x | none => false) = true := by
    intro i j hij hj h
    obtain ⟨x, hx, _⟩ := arr_at (a := arr) (i := base + i) (by (first | lia | omega))
    obtain ⟨y, hy, _⟩ := arr_at (a := arr) (i := base + j) (by (first | lia | omega))
    rw [hy] at h
    rw [hx]
    dsimp only [bey] at h ⊢
    simp only [Bool.false_eq_true, if_false, Bool.not_eq_true'] at h ⊢
    exact W.neg key y x hk (hD _ _ hy) (hD _ _ hx) h (hs _ _ x y (by (first | lia | omega)) (by (first | lia | omega)) (by (first | lia | omega)) hx hy)
  obtain ⟨k, hk1, hk2⟩ := cut_at n mono
  have at_ : ∀ i x, i < n → arr[base + i]? = some x → bey R false key x = decide (i < k) := by
    intro i x hi hx
    have := hk2 i hi
    rw [hx] at this
    exact this
  refine ⟨k, ⟨hk1, hk, fun i hi => ?_⟩, fun i x hi hx => ?_, fun i x h1 h2 hx => ?_⟩
  · obtain ⟨x, hx, hx'⟩ := arr_at (a := arr) (i := base + i) (by (first | lia | omega))
    exact ⟨x, hx, hD _ _ hx, at_ i x hi hx⟩
  · have := at_ i x (by (first | lia | omega)) hx
    rw [decide_eq_true hi] at this
    dsimp only [bey] at this
    simpa [le] using this
  · have := at_ i x h2 hx
    rw [decide_eq_false (by (first | lia | omega))] at this
    dsimp only [bey] at this
    simpa using this
theorem gal_leftS (W : Wk D R) {arr : Array Keyed} {key : Keyed} {base n : Nat} (hs : Asc R arr base n) (hD : Dom D arr) (hk : D key) (hn : base + n ≤ arr.size) :
    ∃ k, Gal D R true key arr base n k ∧ (∀ i x, i < k → arr[base + i]? = some x → R x key = true) ∧ ∀ i x, k ≤ i → i < n → arr[base + i]? = some x → le R key x := by
  have mono : ∀ i j, i ≤ j → j < n → (match arr[base + j]? with | some x => bey R true key x | none => false) = true → (match arr[base + i]? with | some x => bey R true key x | none => false) = true := by
    intro i j hij hj h
    obtain ⟨x, hx, _⟩ := arr_at (a := arr) (i := base + i) (by (first | lia | omega))
    obtain ⟨y, hy, _⟩ := arr_at (a := arr) (i := base + j) (by (first | lia | omega))
    rw [hy] at h
    rw [hx]
    dsimp only [bey] at h ⊢
    simp only [if_true] at h ⊢
    cases hc : R x key with
    | true => rfl
    | false =>
      have := W.neg y x key (hD _ _ hy) (hD _ _ hx) hk (hs _ _ x y (by (first | lia | omega)) (by (first | lia | omega)) (by (first | lia | omega)) hx hy) hc
      rw [h] at this
      cases this
  obtain ⟨k, hk1, hk2⟩ := cut_at n mono
  have at_ : ∀ i x, i < n → arr[base + i]? = some x → bey R true key x = decide (i < k) := by
    intro i x hi hx
    have := hk2 i hi
    rw [hx] at this
    exact this
  refine ⟨k, ⟨hk1, hk, fun i hi => ?_⟩, fun i x hi hx => ?_, fun i x h1 h2 hx => ?_⟩
  · obtain ⟨x, hx, hx'⟩ := arr_at (a := arr) (i := base + i) (by (first | lia | omega))
    exact ⟨x, hx, hD _ _ hx, at_ i x hi hx⟩
  · have := at_ i x (by (first | lia | omega)) hx
    rw [decide_eq_true hi] at this
    dsimp only [bey] at this
    simpa using this
  · have := at_ i x h2 hx
    rw [decide_eq_false (by (first | lia | omega))] at this
    dsimp only [bey] at this
    simpa [le] using this
theorem wr_list {a a' : Array Keyed} {m : List Keyed} {p : Nat} (h : ∀ i : Nat, a'[i]? = if p ≤ i ∧ i < p + m.length then m[i - p]? else a[i]?) (hz : p + m.length ≤ a.size) : a'.toList = a.toList.take p ++ (m ++ a.toList.drop (p + m.length)) := by
  refine List.ext_getElem? fun i => ?_
  have e : a'.toList[i]? = a'[i]? := by simp
  rw [e, h i]
  have lt : (a.toList.take p).length = p := by rw [List.length_take, Array.length_toList]; (first | lia | omega)
  by_cases h1 : i < p
  · rw [if_neg (by (first | lia | omega)), List.getElem?_append_left (by (first | lia | omega)), List.getElem?_take, if_pos h1, arr_list]
  · rw [List.getElem?_append_right (by (first | lia | omega)), lt]
    by_cases h2 : i < p + m.length
    · rw [if_pos (by (first | lia | omega)), List.getElem?_append_left (by (first | lia | omega))]
    · rw [if_neg (by (first | lia | omega)), List.getElem?_append_right (by (first | lia | omega)), List.getElem?_drop, arr_list]
      congr 1
      (first | lia | omega)
theorem split3 {a : Array Keyed} {p q r : Nat} (h1 : p ≤ q) (h2 : q ≤ r) : a.toList = a.toList.take p ++ ((a.extract p q).toList ++ (a.extract q r).toList ++ a.toList.drop r) := by
  rw [ext_seg a h1, ext_seg a h2]
  have e1 : a.toList.drop p = (a.toList.drop p).take (q - p) ++ (a.toList.drop q) := by
    have := List.take_append_drop (q - p) (a.toList.drop p)
    rw [List.drop_drop] at this
    have e : p + (q - p) = q := by (first | lia | omega)
    rw [e] at this
    exact this.symm
  have e2 : a.toList.drop q = (a.toList.drop q).take (r - q) ++ a.toList.drop r := by
    have := List.take_append_drop (r - q) (a.toList.drop q)
    rw [List.drop_drop] at this
    have e : q + (r - q) = r := by (first | lia | omega)
    rw [e] at this
    exact this.symm
  rw [List.append_assoc, ← e2, ← e1, List.take_append_drop]
theorem perm_write {a a' : Array Keyed} {m : List Keyed} {p q r : Nat} (h1 : p ≤ q) (h2 : q ≤ r) (h3 : r ≤ a.size) (hm : m.Perm ((a.extract p q).toList ++ (a.extract q r).toList)) (hw : a'.toList = a.toList.take p ++ (m ++ a.toList.drop r)) : a'.Perm a := by
  rw [Array.perm_iff_toList_perm, hw]
  have e := split3 (a := a) h1 h2
  refine List.Perm.trans ?_ (List.Perm.of_eq e.symm)
  exact List.Perm.append_left _ (List.Perm.append_right _ hm)
end
end TS

set_option linter.all false
set_option maxRecDepth 100000
set_option maxHeartbeats 4000000
namespace TS
open PySem PyProof.Rows
section
variable {prog : Program} {w : World} {A : Around} {E : Value → Shared → Prop} {s : Shared} {κ : SortKind} {D : Keyed → Prop} {R : Keyed → Keyed → Bool}
theorem wpS_set {M : Model} {σ : Type} {st st' : σ} {Q : PUnit → σ → Prop} (h : Q ⟨⟩ st') : wpS M A E s (set st' : StateT σ Sem PUnit) Q st := by
  unfold wpS
  rw [StateT.run_set]
  exact wpAny_pure ⟨rfl, h⟩
theorem mem_ext {a : Array Keyed} {p q : Nat} {x : Keyed} (h : x ∈ (a.extract p q).toList) (hq : p ≤ q) : ∃ j, p ≤ j ∧ j < q ∧ a[j]? = some x := by
  rw [ext_seg a hq] at h
  obtain ⟨i, hi, rfl⟩ := List.mem_iff_getElem.mp h
  rw [List.length_take, List.length_drop, Array.length_toList] at hi
  refine ⟨p + i, by (first | lia | omega), by (first | lia | omega), ?_⟩
  rw [List.getElem_take, List.getElem_drop, arr_list, List.getElem?_eq_getElem (by rw [Array.length_toList]; (first | lia | omega))]
theorem Asc.join (W : Wk D R) {a : Array Keyed} {sa na nb : Nat} (hD : Dom D a) (h1 : Asc R a sa na) (h2 : Asc R a (sa + na) nb) (h : ∀ i x j y, sa ≤ i → i < sa + na → sa + na ≤ j → j < sa + na + nb → a[i]? = some x → a[j]? = some y → le R x y) : Asc R a sa (na + nb) := fun i j x y g1 g2 g3 hx hy => by
  rcases Nat.lt_or_ge j (sa + na) with z | z
  · exact h1 i j x y g1 g2 z hx hy
  · rcases Nat.lt_or_ge i (sa + na) with z2 | z2
    · exact h i x j y g1 z2 z (by (first | lia | omega)) hx hy
    · exact h2 i j x y z2 g2 (by (first | lia | omega)) hx hy
theorem pend_new {p : Array (Nat × Nat × Nat)} {pre post : List (Nat × Nat × Nat)} {u v n : Nat × Nat × Nat} {i : Nat} (hp : p.toList = pre ++ u :: v :: post) (hi : pre.length = i) : ((p.setIfInBounds i n).eraseIdxIfInBounds (i + 1)).toList = pre ++ n :: post := by
  have hs : p.size = pre.length + (post.length + 1 + 1) := by
    rw [← Array.length_toList, hp, List.length_append, List.length_cons, List.length_cons]
  have hb : i + 1 < (p.setIfInBounds i n).size := by
    rw [Array.size_setIfInBounds]
    (first | lia | omega)
  unfold Array.eraseIdxIfInBounds
  rw [dif_pos hb, Array.toList_eraseIdx, Array.toList_setIfInBounds, hp, ← hi, List.set_append_right _ _ (Nat.le_refl _), Nat.sub_self, List.set_cons_zero, List.eraseIdx_append_of_length_le (by (first | lia | omega))]
  congr 1
  have e : pre.length + 1 - pre.length = 1 := by (first | lia | omega)
  rw [e]
  rfl
theorem pend_at {p : Array (Nat × Nat × Nat)} {pre post : List (Nat × Nat × Nat)} {u v : Nat × Nat × Nat} {i : Nat} (hp : p.toList = pre ++ u :: v :: post) (hi : pre.length = i) : p[i]? = some u ∧ p[i + 1]? = some v := by
  have e : ∀ k : Nat, p[k]? = p.toList[k]? := fun k => by simp
  rw [e, e, hp, ← hi]
  constructor
  · rw [List.getElem?_append_right (Nat.le_refl _), Nat.sub_self]
    rfl
  · rw [List.getElem?_append_right (Nat.le_add_right _ _), Nat.add_sub_cancel_left]
    rfl
theorem wpS_mergeAt (C : Cmp prog w A s κ D R) {st : SortSt} {i : Nat} {pre post : List (Nat × Nat × Nat)} {sa na pw sb nb qw lo : Nat} (hk : kindOf st = κ) (hf : failedOf st = none) (hD : Dom D (arrOf st))
    (hp : (pendingOf st).toList = pre ++ (sa, na, pw) :: (sb, nb, qw) :: post) (hi : pre.length = i) (hc : Ch R (arrOf st) 0 (pendingOf st).toList lo) (hlo : lo ≤ (arrOf st).size) {Q : Bool → SortSt → Prop}
    (h : ∀ st', kindOf st' = κ → failedOf st' = none → (arrOf st').Perm (arrOf st) → (pendingOf st').toList = pre ++ (sa, na + nb, pw) :: post → Ch R (arrOf st') 0 (pendingOf st').toList lo → (∀ k, lo ≤ k → (arrOf st')[k]? = (arrOf st)[k]?) → Q true st') :
    wpS (model prog w) A E s (mergeAt' i) Q st := by
  have W := C.wk
  obtain ⟨e1, e2⟩ := pend_at hp hi
  rw [hp, Ch.append] at hc
  obtain ⟨m0, c1, c2, c3, c4, c5, c6, c7, c8⟩ := hc
  subst c2
  subst c5
  have cle := c8.le_
  refine wpS_bind (wpS_get ?_)
  rw [e1, e2]
  dsimp only
  refine wpS_bind (wpS_set ?_)
  have hpn := pend_new (n := (sa, na + nb, pw)) hp hi
  change wpS (model prog w) A E s _ Q (SortSt.mk' (kindOf st) (arrOf st) (((pendingOf st).setIfInBounds i (sa, na + nb, pw)).eraseIdxIfInBounds (i + 1)) (gallopOf st) (failedOf st))
  generalize hst1 : SortSt.mk' (kindOf st) (arrOf st) (((pendingOf st).setIfInBounds i (sa, na + nb, pw)).eraseIdxIfInBounds (i + 1)) (gallopOf st) (failedOf st) = st1
  have a1 : arrOf st1 = arrOf st := by rw [← hst1]
  have k1' : kindOf st1 = κ := by rw [← hst1]; exact hk
  have f1' : failedOf st1 = none := by rw [← hst1]; exact hf
  have p1' : (pendingOf st1).toList = pre ++ (sa, na + nb, pw) :: post := by rw [← hst1]; exact hpn
  clear hst1
  generalize ha : arrOf st = a at *
  rw [show (sortPriv% PySem.Builtin.SortState.a) st = a from ha]
  -- what is told where nothing is to be merged
  have easy : Asc R a sa (na + nb) → Q true st1 := fun hA => by
    refine h st1 k1' f1' (by rw [a1]) p1' ?_ (fun k _ => by rw [a1])
    rw [a1, p1', Ch.append]
    exact ⟨sa, c1, rfl, by (first | lia | omega), hA, by rw [← Nat.add_assoc]; exact c8⟩
  obtain ⟨y0, hy0, _⟩ := arr_at (a := a) (i := sa + na) (by (first | lia | omega))
  have dy0 := hD _ _ hy0
  refine wpS_bind (wpS_elem hy0 ?_)
  obtain ⟨k, G, kl, kr⟩ := gal_rightS W c4 hD dy0 (by (first | lia | omega))
  have hkn := G.le
  refine wpS_bind (wpS_gallop C G (by (first | lia | omega)) k1' ?_)
  dsimp only
  have y0le : ∀ j y, sa + na ≤ j → j < sa + na + nb → a[j]? = some y → le R y0 y := fun j y g1 g2 hy => c7 _ _ y0 y (Nat.le_refl _) g1 g2 hy0 hy
  have lowP : ∀ i x, sa ≤ i → i < sa + k → a[i]? = some x → le R x y0 := fun i x g1 g2 hx => by
    refine kl (i - sa) x (by (first | lia | omega)) ?_
    have : sa + (i - sa) = i := by (first | lia | omega)
    rw [this]
    exact hx
  by_cases z1 : (na - k == 0) = true
  · rw [if_pos z1]
    have z1' : na - k = 0 := eq_of_beq z1
    refine wpS_pure (easy (Asc.join W hD c4 c7 fun i x j y g1 g2 g3 g4 hx hy => ?_))
    exact W.trans (hD _ _ hx) dy0 (hD _ _ hy) (lowP i x g1 (by (first | lia | omega)) hx) (y0le j y g3 g4 hy)
  rw [if_neg z1]
  have z1' : ¬ na - k = 0 := fun z => z1 (by rw [z]; rfl)
  obtain ⟨xl, hxl, _⟩ := arr_at (a := a) (i := sa + k + (na - k) - 1) (by (first | lia | omega))
  have dxl := hD _ _ hxl
  refine wpS_bind (wpS_elem hxl ?_)
  obtain ⟨k2, G2, k2l, k2r⟩ := gal_leftS W c7 hD dxl (by (first | lia | omega))
  have hk2n := G2.le
  refine wpS_bind (wpS_gallop C G2 (by (first | lia | omega)) k1' ?_)
  dsimp only
  have lexl : ∀ i x, sa ≤ i → i < sa + na → a[i]? = some x → le R x xl := fun i x g1 g2 hx => c4 _ _ x xl g1 (by (first | lia | omega)) (by (first | lia | omega)) hx hxl
  have highZ : ∀ j y, sa + na + k2 ≤ j → j < sa + na + nb → a[j]? = some y → le R xl y := fun j y g1 g2 hy => by
    refine k2r (j - (sa + na)) y (by (first | lia | omega)) (by (first | lia | omega)) ?_
    have : sa + na + (j - (sa + na)) = j := by (first | lia | omega)
    rw [this]
    exact hy
  by_cases z2 : (k2 == 0) = true
  · rw [if_pos z2]
    have z2' : k2 = 0 := eq_of_beq z2
    refine wpS_pure (easy (Asc.join W hD c4 c7 fun i x j y g1 g2 g3 g4 hx hy => ?_))
    exact W.trans (hD _ _ hx) dxl (hD _ _ hy) (lexl i x g1 g2 hx) (highZ j y (by (first | lia | omega)) g4 hy)
  rw [if_neg z2]
  have z2' : ¬ k2 = 0 := fun z => z2 (by rw [z]; rfl)
  have q1 : sa + k ≤ sa + na := by (first | lia | omega)
  have q2 : sa + na ≤ sa + na + k2 := by (first | lia | omega)
  have lx : (a.extract (sa + k) (sa + na)).toList.length = na - k := by
    rw [Array.length_toList, Array.size_extract]
    (first | lia | omega)
  have ly : (a.extract (sa + na) (sa + na + k2)).toList.length = k2 := by
    rw [Array.length_toList, Array.size_extract]
    (first | lia | omega)
  have T : Two D R (a.extract (sa + k) (sa + na)).toList (a.extract (sa + na) (sa + na + k2)).toList := by
    refine ⟨W, fun x hx => ?_, fun x hx => ?_, ?_, ?_, fun y hy x hx => ?_, fun x hx y hy => ?_⟩
    · obtain ⟨j, _, _, hj⟩ := mem_ext hx q1
      exact hD _ _ hj
    · obtain ⟨j, _, _, hj⟩ := mem_ext hx q2
      exact hD _ _ hj
    · have e : (a.extract (sa + k) (sa + na)).toList = seg a.toList (sa + k) (na - k) := by
        rw [ext_seg a q1]
        unfold seg
        congr 1
        (first | lia | omega)
      rw [e]
      exact asc_srt fun i j x y g1 g2 g3 hx hy => c4 i j x y (by (first | lia | omega)) g2 (by (first | lia | omega)) hx hy
    · have e : (a.extract (sa + na) (sa + na + k2)).toList = seg a.toList (sa + na) k2 := by
        rw [ext_seg a q2]
        unfold seg
        congr 1
        (first | lia | omega)
      rw [e]
      exact asc_srt fun i j x y g1 g2 g3 hx hy => c7 i j x y (by (first | lia | omega)) g2 (by (first | lia | omega)) hx hy
    · have ey : y = y0 := by
        rw [ext_seg a q2, List.getElem?_take, if_pos (by (first | lia | omega)), List.getElem?_drop, Nat.add_zero, ← arr_list, hy0] at hy
        exact (Option.some.inj hy).symm
      subst ey
      obtain ⟨j, g1, g2, hj⟩ := mem_ext hx q1
      refine W.of_lt dy0 (hD _ _ hj) (kr (j - sa) x (by (first | lia | omega)) (by (first | lia | omega)) ?_)
      have : sa + (j - sa) = j := by (first | lia | omega)
      rw [this]
      exact hj
    · have ex : x = xl := by
        rw [lx, ext_seg a q1, List.getElem?_take, if_pos (by (first | lia | omega)), List.getElem?_drop, ← arr_list] at hx
        have e : sa + k + (na - k - 1) = sa + k + (na - k) - 1 := by (first | lia | omega)
        rw [e, hxl] at hx
        exact (Option.some.inj hx).symm
      subst ex
      obtain ⟨j, g1, g2, hj⟩ := mem_ext hy q2
      refine W.of_lt (hD _ _ hj) dxl (k2l (j - (sa + na)) y (by (first | lia | omega)) ?_)
      have : sa + na + (j - (sa + na)) = j := by (first | lia | omega)
      rw [this]
      exact hj
  -- behind the merge
  have after : ∀ (m : Array Keyed) (g : Nat), Mrg R (a.extract (sa + k) (sa + na)).toList (a.extract (sa + na) (sa + na + k2)).toList m.toList →
      wpS (model prog w) A E s (do
        modify fun s => setArr s (m.toList.zipIdx.foldl (fun a (p, j) => a.setIfInBounds (sa + k + j) p) (arrOf s))
        let __do_lift ← get
        pure (failedOf __do_lift).isNone) Q (setG st1 g) := by
    intro m g hm
    obtain ⟨mp, ms⟩ := hm
    have lm : m.toList.length = (na - k) + k2 := by
      rw [mp.length_eq, List.length_append, lx, ly]
    refine wpS_bind (wpS_modify (wpS_bind (wpS_get (wpS_pure ?_))))
    have hw : ∀ i, (m.toList.zipIdx.foldl (fun a (p : Keyed × Nat) => a.setIfInBounds (sa + k + p.2) p.1) a)[i]? = if sa + k ≤ i ∧ i < sa + k + m.toList.length then m.toList[i - (sa + k)]? else a[i]? := fun i => write_at m.toList a (sa + k) 0 (by rw [lm]; (first | lia | omega)) i
    have ea : arrOf (setG st1 g) = a := a1
    show Q (failedOf (setArr (setG st1 g) (m.toList.zipIdx.foldl (fun a (p : Keyed × Nat) => a.setIfInBounds (sa + k + p.2) p.1) (arrOf (setG st1 g))))).isNone (setArr (setG st1 g) (m.toList.zipIdx.foldl (fun a (p : Keyed × Nat) => a.setIfInBounds (sa + k + p.2) p.1) (arrOf (setG st1 g))))
    rw [ea]
    generalize m.toList.zipIdx.foldl (fun a (p : Keyed × Nat) => a.setIfInBounds (sa + k + p.2) p.1) a = a' at hw ⊢
    have hff : (failedOf (setArr (setG st1 g) a')).isNone = true := by
      show (failedOf st1).isNone = true
      rw [f1']
      rfl
    rw [hff]
    rw [lm] at hw
    have hwl : a'.toList = a.toList.take (sa + k) ++ (m.toList ++ a.toList.drop (sa + na + k2)) := by
      have := wr_list (a := a) (a' := a') (m := m.toList) (p := sa + k) (by rw [lm]; exact hw) (by rw [lm]; (first | lia | omega))
      rw [lm] at this
      have e : sa + k + (na - k + k2) = sa + na + k2 := by (first | lia | omega)
      rw [e] at this
      exact this
    have hperm : a'.Perm a := perm_write q1 q2 (by (first | lia | omega)) mp hwl
    have hD' : Dom D a' := hD.perm hperm
    have memM : ∀ x, x ∈ m.toList → (∃ j, sa + k ≤ j ∧ j < sa + na ∧ a[j]? = some x) ∨ ∃ j, sa + na ≤ j ∧ j < sa + na + k2 ∧ a[j]? = some x := fun x hx => by
      rcases List.mem_append.mp (mp.mem_iff.mp hx) with z | z
      · exact .inl (mem_ext z q1)
      · exact .inr (mem_ext z q2)
    have hA : Asc R a' sa (na + nb) := by
      intro i j x y g1 g2 g3 hx hy
      rw [hw] at hx hy
      by_cases ci : sa + k ≤ i ∧ i < sa + k + (na - k + k2)
      · rw [if_pos ci] at hx
        by_cases cj : sa + k ≤ j ∧ j < sa + k + (na - k + k2)
        · rw [if_pos cj] at hy
          refine srt_at' W (fun z hz => ?_) ms (by (first | lia | omega)) hx hy
          rcases memM z hz with ⟨q, _, _, hq⟩ | ⟨q, _, _, hq⟩ <;> exact hD _ _ hq
        · rw [if_neg cj] at hy
          rcases memM x (List.mem_of_getElem? hx) with ⟨q, w1, w2, hq⟩ | ⟨q, w1, w2, hq⟩
          · exact W.trans (hD _ _ hq) dxl (hD _ _ hy) (lexl q x (by (first | lia | omega)) w2 hq) (highZ j y (by (first | lia | omega)) (by (first | lia | omega)) hy)
          · exact c7 q j x y w1 (by (first | lia | omega)) (by (first | lia | omega)) hq hy
      · rw [if_neg ci] at hx
        by_cases cj : sa + k ≤ j ∧ j < sa + k + (na - k + k2)
        · rw [if_pos cj] at hy
          have hik : i < sa + k := by (first | lia | omega)
          rcases memM y (List.mem_of_getElem? hy) with ⟨q, w1, w2, hq⟩ | ⟨q, w1, w2, hq⟩
          · exact c4 i q x y g1 (by (first | lia | omega)) w2 hx hq
          · exact W.trans (hD _ _ hx) dy0 (hD _ _ hq) (lowP i x g1 hik hx) (y0le q y w1 (by (first | lia | omega)) hq)
        · rw [if_neg cj] at hy
          rcases Nat.lt_or_ge i (sa + k) with z | z
          · rcases Nat.lt_or_ge j (sa + k) with z2 | z2
            · exact c4 i j x y g1 g2 (by (first | lia | omega)) hx hy
            · exact W.trans (hD _ _ hx) dy0 (hD _ _ hy) (lowP i x g1 z hx) (y0le j y (by (first | lia | omega)) (by (first | lia | omega)) hy)
          · exact c7 i j x y (by (first | lia | omega)) g2 (by (first | lia | omega)) hx hy
    refine h _ k1' f1' hperm p1' ?_ (fun q hq => ?_)
    · show Ch R a' 0 (pendingOf st1).toList lo
      rw [p1', Ch.append]
      refine ⟨sa, c1.congr fun q g1 g2 => ?_, rfl, by (first | lia | omega), hA, ?_⟩
      · rw [hw, if_neg (by (first | lia | omega))]
      · have e : sa + (na + nb) = sa + na + nb := by (first | lia | omega)
        rw [e]
        refine c8.congr fun q g1 g2 => ?_
        rw [hw, if_neg (by (first | lia | omega))]
    · show a'[q]? = a[q]?
      rw [hw, if_neg (by (first | lia | omega))]
  by_cases z3 : na - k ≤ k2
  · rw [if_pos z3]
    exact wpS_bind (wpS_mergeLo C T (by rw [← Array.length_toList, lx]; (first | lia | omega)) (by rw [← Array.length_toList, ly]; (first | lia | omega)) k1' fun m g hm => after m g hm)
  · rw [if_neg z3]
    exact wpS_bind (wpS_mergeHi C T (by rw [← Array.length_toList, lx]; (first | lia | omega)) (by rw [← Array.length_toList, ly]; (first | lia | omega)) k1' fun m g hm => after m g hm)
end
end TS

set_option linter.all false
set_option maxRecDepth 100000
set_option maxHeartbeats 4000000
namespace TS
open PySem PyProof.Rows
section
variable {prog : Program} {w : World} {A : Around} {E : Value → Shared → Prop} {s : Shared} {κ : SortKind} {D : Keyed → Prop} {R : Keyed → Keyed → Bool}
theorem split2 {α : Type} : ∀ (j : Nat) (l : List α), j + 1 < l.length → ∃ pre u v post, l = pre ++ u :: v :: post ∧ pre.length = j
  | 0, u :: v :: post, _ => ⟨[], u, v, post, rfl, rfl⟩
  | 0, [_], h => by simp at h
  | 0, [], h => by simp at h
  | _ + 1, [], h => by simp at h
  | j + 1, x :: l, h => by
    obtain ⟨pre, u, v, post, e, hl⟩ := split2 j l (by simpa using h)
    exact ⟨x :: pre, u, v, post, by rw [e]; rfl, by rw [List.length_cons, hl]⟩
theorem Ch.powers {a : Array Keyed} : ∀ {p q : List (Nat × Nat × Nat)} {s e : Nat}, Ch R a s p e → q.map (fun t => (t.1, t.2.1)) = p.map (fun t => (t.1, t.2.1)) → Ch R a s q e
  | [], [], _, _, h, _ => h
  | [], _ :: _, _, _, _, hm => by simp at hm
  | _ :: _, [], _, _, _, hm => by simp at hm
  | (t, n, w) :: p, (t', n', w') :: q, s, e, ⟨h1, h2, h3, h4⟩, hm => by
    simp only [List.map_cons, List.cons.injEq, Prod.mk.injEq] at hm
    obtain ⟨⟨rfl, rfl⟩, hm⟩ := hm
    exact ⟨h1, h2, h3, Ch.powers h4 hm⟩
/-- between two turns -/
structure Kd (D : Keyed → Prop) (κ : SortKind) (R : Keyed → Keyed → Bool) (a₀ : Array Keyed) (lo : Nat) (st : SortSt) : Prop where
  kind : kindOf st = κ
  failed : failedOf st = none
  perm : (arrOf st).Perm a₀
  ch : Ch R (arrOf st) 0 (pendingOf st).toList lo
  le_ : lo ≤ a₀.size
structure Jn (D : Keyed → Prop) (κ : SortKind) (R : Keyed → Keyed → Bool) (a₀ : Array Keyed) (lo n : Nat) (st : SortSt) : Prop where
  kind : kindOf st = κ
  failed : failedOf st = none
  perm : (arrOf st).Perm a₀
  ch : Ch R (arrOf st) 0 (pendingOf st).toList lo
  asc : Asc R (arrOf st) lo n
theorem Jn.push {a₀ : Array Keyed} {lo n : Nat} {st : SortSt} (J : Jn D κ R a₀ lo n st) (h1 : 1 ≤ n) (h2 : lo + n ≤ a₀.size) : Kd D κ R a₀ (lo + n) (setPending st ((pendingOf st).push (lo, n, 0))) := by
  refine ⟨J.kind, J.failed, J.perm, ?_, h2⟩
  show Ch R (arrOf st) 0 ((pendingOf st).push (lo, n, 0)).toList (lo + n)
  rw [Array.toList_push, Ch.append]
  exact ⟨lo, J.ch, rfl, h1, J.asc, rfl⟩
theorem Jn.power {a₀ : Array Keyed} {lo n : Nat} {st : SortSt} (J : Jn D κ R a₀ lo n st) (k pw : Nat) : Jn D κ R a₀ lo n (setPending st ((pendingOf st).modify k fun x => (x.1, x.2.1, pw))) := by
  refine ⟨J.kind, J.failed, J.perm, ?_, J.asc⟩
  refine J.ch.powers ?_
  show ((pendingOf st).modify k fun x => (x.1, x.2.1, pw)).toList.map (fun t => (t.1, t.2.1)) = _
  refine List.ext_getElem? fun i => ?_
  rw [List.getElem?_map, List.getElem?_map]
  have e : ∀ (q : Array (Nat × Nat × Nat)) (j : Nat), q.toList[j]? = q[j]? := fun q j => by simp
  rw [e, e, Array.getElem?_modify]
  split
  · cases (pendingOf st)[i]? <;> rfl
  · rfl
theorem wpS_sortAll (C : Cmp prog w A s κ D R) {a₀ : Array Keyed} {st : SortSt} (hD : Dom D a₀) (h0 : 1 ≤ a₀.size) (hk : kindOf st = κ) (hf : failedOf st = none) (hp : pendingOf st = #[]) (ha : arrOf st = a₀) {Q : Unit → SortSt → Prop}
    (h : ∀ st', failedOf st' = none → (arrOf st').Perm a₀ → Asc R (arrOf st') 0 a₀.size → Q () st') : wpS (model prog w) A E s sortRuns' Q st := by
  have W := C.wk
  rw [sortRuns'_eq]
  refine wpS_bind (wpS_get ?_)
  dsimp only
  rw [ha]
  have K0 : Kd D κ R a₀ 0 st := ⟨hk, hf, by rw [ha], by rw [hp]; rfl, Nat.zero_le _⟩
  refine wpS_bind (wpS_mono (wpS_forRange (I := fun x c st' => ∃ lo, c = (none, lo) ∧ Kd D κ R a₀ lo st' ∧ (x ≤ lo ∨ lo = a₀.size)) (Q := fun c st' => c = (none, a₀.size) ∧ Kd D κ R a₀ a₀.size st') ?step ?fin ⟨0, rfl, K0, by (first | lia | omega)⟩) ?post)
  case fin =>
    rintro c st' ⟨lo, rfl, K, hx⟩
    have := K.le_
    have e : lo = a₀.size := by (first | lia | omega)
    subst e
    exact ⟨rfl, K⟩
  case post =>
    rintro c st' ⟨rfl, K⟩
    dsimp only
    refine wpS_bind (wpS_mono (wpS_forRange (I := fun x c st2 => c = (none, ()) ∧ Kd D κ R a₀ a₀.size st2 ∧ (pendingOf st2).size + x ≤ a₀.size ∨ (c = (none, ()) ∧ Kd D κ R a₀ a₀.size st2 ∧ (pendingOf st2).size ≤ 1)) (Q := fun c st2 => c = (none, ()) ∧ Kd D κ R a₀ a₀.size st2 ∧ (pendingOf st2).size ≤ 1) ?stepF ?finF (.inl ⟨rfl, K, ?ini⟩)) ?postF)
    case ini =>
      have := K.ch.le_
      rw [Array.length_toList] at this
      (first | lia | omega)
    case finF =>
      rintro c st2 (⟨rfl, K2, hs⟩ | ⟨rfl, K2, hs⟩)
      · exact ⟨rfl, K2, by (first | lia | omega)⟩
      · exact ⟨rfl, K2, hs⟩
    case postF =>
      rintro c st2 ⟨rfl, K2, hs⟩
      refine wpS_pure (h st2 K2.failed K2.perm ?_)
      have hc := K2.ch
      have hl : (pendingOf st2).toList.length ≤ 1 := by rw [Array.length_toList]; exact hs
      cases hpl : (pendingOf st2).toList with
      | nil =>
        rw [hpl] at hc
        have : 0 = a₀.size := hc
        (first | lia | omega)
      | cons u r =>
        rw [hpl] at hc hl
        obtain ⟨u1, u2, u3⟩ := u
        cases r with
        | nil =>
          obtain ⟨_, _, c3, c4⟩ := hc
          have c4' : 0 + u2 = a₀.size := c4
          rw [Nat.zero_add] at c4'
          rw [← c4']
          exact c3
        | cons v r => simp at hl
    case stepF =>
      rintro x c st2 _ hx hI
      refine wpS_bind (wpS_get ?_)
      by_cases hsz : (pendingOf st2).size ≤ 1
      · rw [if_pos hsz]
        rcases hI with ⟨rfl, K2, _⟩ | ⟨rfl, K2, _⟩
        · exact wpS_pure ⟨rfl, K2, hsz⟩
        · exact wpS_pure ⟨rfl, K2, hsz⟩
      · rw [if_neg hsz]
        rcases hI with ⟨rfl, K2, hs⟩ | ⟨rfl, K2, hs⟩
        · have main : ∀ i, i + 1 < (pendingOf st2).size → wpS (model prog w) A E s (mergeAt' i) (fun b st3 => b = true ∧ Kd D κ R a₀ a₀.size st3 ∧ (pendingOf st3).size + 1 = (pendingOf st2).size) st2 := by
            intro i hi
            obtain ⟨pre, u, v, post, ep, el⟩ := split2 i (pendingOf st2).toList (by rw [Array.length_toList]; exact hi)
            obtain ⟨sa, na, pwa⟩ := u
            obtain ⟨sb, nb, pwb⟩ := v
            refine wpS_mergeAt C K2.kind K2.failed (hD.perm K2.perm) ep el K2.ch (by rw [K2.perm.size_eq]; exact Nat.le_refl _) fun st4 q1 q2 q3 q4 q5 q6 => ⟨rfl, ⟨q1, q2, q3.trans K2.perm, q5, Nat.le_refl _⟩, ?_⟩
            rw [← Array.length_toList, ← Array.length_toList, q4, ep, List.length_append, List.length_append, List.length_cons, List.length_cons, List.length_cons]
            (first | lia | omega)
          refine wpS_bind (wpS_mono (main _ ?_) fun b st3 hq => ?_)
          · have gen : ∀ (b : Bool) (n : Nat), 2 ≤ n → (if b = true then n - 2 - 1 else n - 2) + 1 < n := by
              intro b n h
              cases b with
              | true => rw [if_pos rfl]; (first | lia | omega)
              | false => rw [if_neg Bool.false_ne_true]; (first | lia | omega)
            exact gen _ _ (by (first | lia | omega))
          · obtain ⟨rfl, K3, hs3⟩ := hq
            simp only [Bool.not_true, Bool.false_eq_true, if_false]
            exact wpS_pure (.inl ⟨rfl, K3, by (first | lia | omega)⟩)
        · (first | lia | omega)
  case step =>
    rintro x c st' _ hx ⟨lo, rfl, K, hxl⟩
    have hle := K.le_
    dsimp only
    by_cases e1 : lo ≥ a₀.size
    · rw [if_pos e1]
      have e : lo = a₀.size := by (first | lia | omega)
      subst e
      exact wpS_pure ⟨rfl, K⟩
    rw [if_neg e1]
    have B0 : Bs D κ (pendingOf st') (arrOf st') lo st' := ⟨K.kind, rfl, K.failed, Array.Perm.refl _, fun _ _ => rfl, hD.perm K.perm⟩
    have z0 : (arrOf st').size = a₀.size := K.perm.size_eq
    refine wpS_bind (wpS_countRun C B0 (by (first | lia | omega)) (by (first | lia | omega)) fun n st2 B2 n1 n2 A2 => ?_)
    dsimp only
    generalize hmr : minRun' a₀.size a₀.size 0 = mr
    by_cases hlt : n < mr
    · rw [if_pos hlt]
      refine wpS_bind (wpS_rule ?_)
      refine wpS_bind (wpS_binarySort C B2 n1 (n := min (a₀.size - lo) mr) (by (first | lia | omega)) (by (first | lia | omega)) A2 fun st3 B3 A3 => ?_)
      simp only [Bool.not_true, Bool.false_eq_true, if_false]
      generalize hN : min (a₀.size - lo) mr = N at A3 ⊢
      have hN1 : 1 ≤ N := by (first | lia | omega)
      have hN2 : lo + N ≤ a₀.size := by (first | lia | omega)
      have J2 : Jn D κ R a₀ lo N st3 := ⟨(B3).kind, (B3).failed, (B3).perm.trans K.perm, by rw [(B3).pend]; exact K.ch.congr fun i _ g2 => (B3).keep i g2, A3⟩
      refine wpS_bind (wpS_get ?_)
      cases hb : (pendingOf st3).back? with
      | none =>
        dsimp only
        exact wpS_bind (wpS_modify (wpS_pure ⟨_, rfl, J2.push (by (first | lia | omega)) (by (first | lia | omega)), by (first | lia | omega)⟩))
      | some tt =>
        obtain ⟨s1, n1, pw0⟩ := tt
        dsimp only
        refine wpS_bind (wpS_mono (wpS_forRange (I := fun _ c st5 => c = (none, ()) ∧ Jn D κ R a₀ lo N st5) (Q := fun c st5 => c = (none, ()) ∧ Jn D κ R a₀ lo N st5) ?stepJ ?finJ ⟨rfl, J2⟩) ?postJ)
        case finJ =>
          exact fun c st5 hh => hh
        case stepJ =>
          rintro y c st5 _ _ ⟨rfl, J⟩
          refine wpS_bind (wpS_get ?_)
          by_cases hsz : (pendingOf st5).size > 1
          · rw [if_pos hsz]
            obtain ⟨pre, u, v, post, ep, el⟩ := split2 ((pendingOf st5).size - 2) (pendingOf st5).toList (by rw [Array.length_toList]; (first | lia | omega))
            obtain ⟨sa, na, pwa⟩ := u
            obtain ⟨sb, nb, pwb⟩ := v
            obtain ⟨e3, _⟩ := pend_at ep el
            rw [e3]
            dsimp only
            split
            · exact wpS_pure ⟨rfl, J⟩
            · refine wpS_bind (wpS_mergeAt C J.kind J.failed (hD.perm J.perm) ep el J.ch (by rw [J.perm.size_eq]; (first | lia | omega)) fun st4 q1 q2 q3 q4 q5 q6 => ?_)
              simp only [Bool.not_true, Bool.false_eq_true, if_false]
              exact wpS_pure ⟨rfl, q1, q2, q3.trans J.perm, q5, J.asc.congr fun i g1 g2 => q6 i g1⟩
          · rw [if_neg hsz]
            exact wpS_pure ⟨rfl, J⟩
        case postJ =>
          rintro c st5 ⟨rfl, J⟩
          dsimp only
          refine wpS_bind (wpS_modify (wpS_bind (wpS_modify (wpS_pure ⟨_, rfl, Jn.push (J.power _ _) (by (first | lia | omega)) (by (first | lia | omega)), by (first | lia | omega)⟩))))
    · rw [if_neg hlt]
      have J2 : Jn D κ R a₀ lo n st2 := ⟨(B2).kind, (B2).failed, (B2).perm.trans K.perm, by rw [(B2).pend]; exact K.ch.congr fun i _ g2 => (B2).keep i g2, A2⟩
      refine wpS_bind (wpS_get ?_)
      cases hb : (pendingOf st2).back? with
      | none =>
        dsimp only
        exact wpS_bind (wpS_modify (wpS_pure ⟨_, rfl, J2.push (by (first | lia | omega)) (by (first | lia | omega)), by (first | lia | omega)⟩))
      | some tt =>
        obtain ⟨s1, n1, pw0⟩ := tt
        dsimp only
        refine wpS_bind (wpS_mono (wpS_forRange (I := fun _ c st5 => c = (none, ()) ∧ Jn D κ R a₀ lo n st5) (Q := fun c st5 => c = (none, ()) ∧ Jn D κ R a₀ lo n st5) ?stepJ ?finJ ⟨rfl, J2⟩) ?postJ)
        case finJ =>
          exact fun c st5 hh => hh
        case stepJ =>
          rintro y c st5 _ _ ⟨rfl, J⟩
          refine wpS_bind (wpS_get ?_)
          by_cases hsz : (pendingOf st5).size > 1
          · rw [if_pos hsz]
            obtain ⟨pre, u, v, post, ep, el⟩ := split2 ((pendingOf st5).size - 2) (pendingOf st5).toList (by rw [Array.length_toList]; (first | lia | omega))
            obtain ⟨sa, na, pwa⟩ := u
            obtain ⟨sb, nb, pwb⟩ := v
            obtain ⟨e3, _⟩ := pend_at ep el
            rw [e3]
            dsimp only
            split
            · exact wpS_pure ⟨rfl, J⟩
            · refine wpS_bind (wpS_mergeAt C J.kind J.failed (hD.perm J.perm) ep el J.ch (by rw [J.perm.size_eq]; (first | lia | omega)) fun st4 q1 q2 q3 q4 q5 q6 => ?_)
              simp only [Bool.not_true, Bool.false_eq_true, if_false]
              exact wpS_pure ⟨rfl, q1, q2, q3.trans J.perm, q5, J.asc.congr fun i g1 g2 => q6 i g1⟩
          · rw [if_neg hsz]
            exact wpS_pure ⟨rfl, J⟩
        case postJ =>
          rintro c st5 ⟨rfl, J⟩
          dsimp only
          refine wpS_bind (wpS_modify (wpS_bind (wpS_modify (wpS_pure ⟨_, rfl, Jn.push (J.power _ _) (by (first | lia | omega)) (by (first | lia | omega)), by (first | lia | omega)⟩))))
end
end TS

set_option Elab.async false
set_option linter.all false
set_option maxRecDepth 100000
set_option maxHeartbeats 4000000
namespace TS
open PySem PyProof.Rows
section
variable {prog : Program} {w : World} {A : Around} {E : Value → Shared → Prop} {s : Shared} {κ : SortKind} {D : Keyed → Prop} {R : Keyed → Keyed → Bool}
theorem zip_self {α : Type} : ∀ l : List α, l.zip l = l.map fun v => (v, v)
  | [] => rfl
  | x :: l => by
    rw [List.zip_cons_cons, List.map_cons, zip_self l]
def leV (R : Keyed → Keyed → Bool) (x y : Value) : Prop := R (y, y) (x, x) = false
theorem pairs_snd {vs : List Value} {xs : Array Keyed} (hp : xs.Perm (pairsOf vs)) : (xs.map (·.2)).toList.Perm vs ∧ ∀ p ∈ xs.toList, p.1 = p.2 := by
  have e : (pairsOf vs).toList = vs.map fun v => (v, v) := by
    unfold pairsOf
    rw [Array.toList_zip]
    exact zip_self vs
  have hl := Array.perm_iff_toList_perm.mp hp
  rw [e] at hl
  constructor
  · rw [Array.toList_map]
    have := hl.map Prod.snd
    rw [List.map_map] at this
    refine this.trans (List.Perm.of_eq ?_)
    exact List.map_id' vs
  · intro p hpp
    obtain ⟨v, _, rfl⟩ := List.mem_map.mp (hl.mem_iff.mp hpp)
    rfl
theorem asc_out {vs : List Value} {xs : Array Keyed} (hp : xs.Perm (pairsOf vs)) (hs : Asc R xs 0 (pairsOf vs).size) : (xs.map (·.2)).toList.Pairwise (leV R) := by
  have h2 := (pairs_snd hp).2
  have hz := hp.size_eq
  refine List.pairwise_iff_getElem.mpr fun i j hi hj hij => ?_
  rw [Array.length_toList, Array.size_map] at hi hj
  have hx : xs[i]? = some xs[i] := by simp [hi]
  have hy : xs[j]? = some xs[j] := by simp [hj]
  have := hs i j _ _ (Nat.zero_le _) (Nat.le_of_lt hij) (by (first | lia | omega)) hx hy
  have e1 := h2 xs[i] (by simp)
  have e2 := h2 xs[j] (by simp)
  have m1 : (xs.map (·.2)).toList[i] = xs[i].2 := by simp
  have m2 : (xs.map (·.2)).toList[j] = xs[j].2 := by simp
  rw [m1, m2]
  have p1 : xs[i] = (xs[i].2, xs[i].2) := Prod.ext e1 rfl
  have p2 : xs[j] = (xs[j].2, xs[j].2) := Prod.ext e2 rfl
  unfold leV
  rw [← p1, ← p2]
  exact this
theorem dom_pairs {vs : List Value} (h : ∀ v ∈ vs, D (v, v)) : Dom D (pairsOf vs) := fun i x hx => by
  have e : (pairsOf vs).toList = vs.map fun v => (v, v) := by
    unfold pairsOf
    rw [Array.toList_zip]
    exact zip_self vs
  have : x ∈ (pairsOf vs).toList := List.mem_of_getElem? (by rw [← arr_list]; exact hx)
  rw [e] at this
  obtain ⟨v, hv, rfl⟩ := List.mem_map.mp this
  exact h v hv
theorem list_sort_any {a : Addr} {vs : List Value} {n : Nat} {P : Fin → Shared → Prop} (ho : s.heap.get? a = some (seqObj "list" vs.toArray n)) (hz : vs.length ≤ sizeLine) (hD : ∀ v ∈ vs, D (v, v))
    (C : ∀ h', (∀ b o, b ≠ a → s.heap.get? b = some o → h'.get? b = some o) → Cmp prog w A { s with heap := h' } κ D R)
    (hkk : ∀ h', (∀ b o, b ≠ a → s.heap.get? b = some o → h'.get? b = some o) → 2 ≤ vs.length → ∀ (Q : SortKind → Shared → Prop), Q κ { s with heap := h' } → wpAny (model prog w) A (keyKind' vs.toArray) Q E { s with heap := h' })
    (h : ∀ out : Array Value, out.toList.Perm vs → out.toList.Pairwise (leV R) → P (.done (.ret .none)) { s with heap := sortedHeap s.heap a vs out }) :
    wpAny (model prog w) A (Builtin.«list.sort» ⟨[.ref a], []⟩) P E s := by
  rw [list_sort_plain]
  have ha : a < s.heap.objs.size := Heap.lt_size ho
  refine wpAny_bind (listItems_at ho rfl ?_)
  refine wpAny_bind (listUpdate_at ho rfl ?_ (by rw [List.size_toArray]; exact hz) (Nat.zero_le _))
  obtain ⟨e1, ho1⟩ : ∃ e1, (s.heap.update a (Obj.mapSeq fun _ => #[])).get? a = some (seqObj "list" #[] e1) := ⟨_, get?_update_seq ho (fun _ => #[])⟩
  refine wpAny_bind (seqEpoch_at ho1 rfl ?_)
  refine wpAny_bind (wpAny_newTuple ?_ (by show vs.length ≤ _; exact hz))
  refine wpAny_bind (wpAny_newList ?_ (Nat.zero_le _))
  refine wpAny_holding ?_
  have ho6 : (((s.heap.update a (Obj.mapSeq fun _ => #[])).push (seqObj "tuple" vs.toArray 0)).push (seqObj "list" #[] 0)).get? a = some (seqObj "list" #[] e1) := by
    rw [Heap.get?_push_ne _ _ _ (by rw [size_push', Heap.size_update]; exact Nat.ne_of_lt (Nat.lt_succ_of_lt ha)), Heap.get?_push_ne _ _ _ (by rw [Heap.size_update]; exact Nat.ne_of_lt ha)]
    exact ho1
  have kept : ∀ b o, b ≠ a → s.heap.get? b = some o → (((s.heap.update a (Obj.mapSeq fun _ => #[])).push (seqObj "tuple" vs.toArray 0)).push (seqObj "list" #[] 0)).get? b = some o := fun b o hb e =>
    Heap.get?_push_of_some _ (Heap.get?_push_of_some _ (by rw [Heap.get?_update_ne _ _ _ _ hb]; exact e))
  show wpAny (model prog w) A _ P E { s with heap := ((s.heap.update a (Obj.mapSeq fun _ => #[])).push (seqObj "tuple" vs.toArray 0)).push (seqObj "list" #[] 0) }
  dsimp only
  have hsz : vs.toArray.size = vs.length := by simp
  have fin : ∀ st' : SortSt, (arrOf st').Perm (pairsOf vs) → Asc R (arrOf st') 0 (pairsOf vs).size → P (.done (.ret .none)) { s with heap := sortedHeap s.heap a vs ((arrOf st').map (·.2)) } := fun st' hp hs => h _ (pairs_snd hp).1 (asc_out hp hs)
  by_cases h2 : vs.toArray.size < 2
  · rw [if_pos h2, if_pos h2]
    refine wpAny_bind (wpAny_pure ?_)
    rw [StateT.run_pure]
    refine wpAny_bind (wpAny_pure ?_)
    dsimp only
    refine wpAny_bind (seqEpoch_at ho6 rfl ?_)
    refine wpAny_bind (listUpdate_at ho6 rfl ?_ (Nat.zero_le _) (by rw [Array.size_map]; show (pairsOf vs).size ≤ _; rw [pairsOf_size]; (first | lia | omega)))
    simp only [bne_self_eq_false, Bool.false_eq_true, if_false]
    refine wpAny_pure (fin (SortSt.mk' general' (vs.toArray.zip vs.toArray) #[] 7 none) (Array.Perm.refl _) ?_)
    intro i j x y _ hij hj hx hy
    have : i = j := by rw [pairsOf_size] at hj; (first | lia | omega)
    subst this
    have hxy : x = y := by
      rw [hx] at hy
      exact Option.some.inj hy
    subst hxy
    have W := (C _ kept).wk
    exact W.refl (dom_pairs hD i x hx)
  · rw [if_neg h2, if_neg h2]
    refine wpAny_bind (hkk _ kept (by (first | lia | omega)) _ ?_)
    refine wpAny_bind (wpAny_mono (wpS_sortAll (C _ kept) (a₀ := pairsOf vs) (st := SortSt.mk' κ (vs.toArray.zip vs.toArray) #[] 7 none)
      (Q := fun _ st' => (arrOf st').Perm (pairsOf vs) ∧ failedOf st' = none ∧ Asc R (arrOf st') 0 (pairsOf vs).size)
      (dom_pairs hD) (by rw [pairsOf_size]; (first | lia | omega)) rfl rfl rfl rfl fun st' a1 a2 a3 => ⟨a2, a1, a3⟩) ?_ fun _ _ e => e)
    rintro ⟨⟨⟩, st'⟩ s' ⟨rfl, hp, hf, hs⟩
    dsimp only
    refine wpAny_bind (seqEpoch_at ho6 rfl ?_)
    refine wpAny_bind (listUpdate_at ho6 rfl ?_ (Nat.zero_le _) (by refine Nat.le_trans (Nat.le_of_eq ((Array.size_map ..).trans (hp.size_eq.trans (pairsOf_size _)))) ?_; (first | lia | omega)))
    rw [hf]
    simp only [bne_self_eq_false, Bool.false_eq_true, if_false]
    exact wpAny_pure (fin st' hp hs)
theorem sorted_any {l : Addr} {vs : List Value} {Q : Value → Shared → Prop} (hl : s.heap.IsList l vs.toArray) (hz : vs.length ≤ sizeLine) (hD : ∀ v ∈ vs, D (v, v))
    (C : ∀ (A : Around) h', (∀ b o, s.heap.get? b = some o → h'.get? b = some o) → Cmp prog w A { s with heap := h' } κ D R)
    (hkk : ∀ (A : Around) (E : Value → Shared → Prop) h', (∀ b o, s.heap.get? b = some o → h'.get? b = some o) → 2 ≤ vs.length → ∀ (Q : SortKind → Shared → Prop), Q κ { s with heap := h' } → wpAny (model prog w) A (keyKind' vs.toArray) Q E { s with heap := h' })
    (h : ∀ out : Array Value, out.toList.Perm vs → out.toList.Pairwise (leV R) → Q (.ref (s.heap.objs.size + 1)) { s with heap := sortedAll s.heap vs out }) :
    wpAny (model prog w) A (call (.builtin "sorted") [.ref l]) Q E s := by
  refine Calls.call_function_entry kind_sorted plain_sorted entry_sorted (args_sorted1 _) ?_
  unfold Builtin.«sorted»
  refine wpAny_bind (m := checkCount "sorted" 1 1 _) (wpAny_pure ?_)
  refine wpAny_bind (collect_list hl ?_ hz)
  refine wpAny_bind (wpAny_newList ?_ (by show vs.length ≤ _; exact hz))
  have hsz : ((s.heap.push (seqObj "list" #[] 0)).update s.heap.objs.size (Obj.mapSeq (· ++ vs.toArray))).objs.size = s.heap.objs.size + 1 := by
    rw [Heap.size_update, size_push']
  have hoL : (((s.heap.push (seqObj "list" #[] 0)).update s.heap.objs.size (Obj.mapSeq (· ++ vs.toArray))).push (seqObj "list" vs.toArray 0)).get? (s.heap.objs.size + 1) = some (seqObj "list" vs.toArray 0) := by
    rw [← hsz]; exact Heap.get?_push_size _ rfl
  have kept : ∀ b o, s.heap.get? b = some o → (((s.heap.push (seqObj "list" #[] 0)).update s.heap.objs.size (Obj.mapSeq (· ++ vs.toArray))).push (seqObj "list" vs.toArray 0)).get? b = some o := fun b o e => by
    have hlt : b < s.heap.objs.size := Heap.lt_size e
    refine Heap.get?_push_of_some _ ?_
    rw [Heap.get?_update_ne _ _ _ _ (Nat.ne_of_lt hlt), Heap.get?_push_ne _ _ _ (Nat.ne_of_lt hlt)]
    exact e
  have ne1 : ∀ b o, s.heap.get? b = some o → b ≠ s.heap.objs.size + 1 := fun b o e => Nat.ne_of_lt (Nat.lt_succ_of_lt (Heap.lt_size e))
  show wpAny _ _ _ _ _ { s with heap := ((s.heap.push (seqObj "list" #[] 0)).update s.heap.objs.size (Obj.mapSeq (· ++ vs.toArray))).push (seqObj "list" vs.toArray 0) }
  rw [hsz]
  refine wpAny_bind (wpAny_holding (wpAny_call_entry slot_list_sort ⟨_, hoL, rfl⟩ entry_list_sort (list_sort_any (κ := κ) (D := D) (R := R) hoL hz hD (fun h' k => C _ h' fun b o e => k b o (ne1 b o e) (kept b o e)) (fun h' k h2 Q' hq => hkk _ _ h' (fun b o e => k b o (ne1 b o e) (kept b o e)) h2 Q' hq) fun out a1 a2 => ⟨_, rfl, ?_⟩) (args_list_sort _)))
  exact wpAny_pure ⟨_, rfl, h out a1 a2⟩
end
end TS

set_option Elab.async false
set_option linter.all false
set_option maxRecDepth 100000
set_option maxHeartbeats 4000000
namespace TS
open PySem PyProof.Rows PySem.W
def ltP (p q : Int × Int) : Bool := decide (p.1 < q.1 ∨ (p.1 = q.1 ∧ p.2 < q.2))
/-- a tuple of two numbers -/
def IsPt (h : Heap) (v : Value) (p : Int × Int) : Prop := ∃ (a : Addr) (o : Obj) (t u : Tok) (n : Nat), v = .ref a ∧ h.get? a = some o ∧ o.cls = .type "tuple" ∧ o.data = .seq #[.int p.1 t, .int p.2 u] n
theorem IsPt.kept {h h' : Heap} {v : Value} {p : Int × Int} (x : IsPt h v p) (k : ∀ b o, h.get? b = some o → h'.get? b = some o) : IsPt h' v p := by
  obtain ⟨a, o, t, u, n, e, ho, r⟩ := x
  exact ⟨a, o, t, u, n, e, k a o ho, r⟩
section
variable {prog : Program} {w : World} {A : Around} {E : Value → Shared → Prop} {s : Shared}
theorem keyLt_pts {x y : Value} {p q : Int × Int} {Q : Bool → Shared → Prop} (hx : IsPt s.heap x p) (hy : IsPt s.heap y q) (h : Q (ltP p q) s) : wpAny (model prog w) A (keyLt' (tuples' true) x y) Q E s := by
  obtain ⟨a, o, t, u, n, rfl, ho, _, hd⟩ := hx
  obtain ⟨b, o', t', u', n', rfl, ho', _, hd'⟩ := hy
  refine kat_lt ho hd ho' hd' ?_
  show KatLex prog w A true _ Q [(.int p.1 t, .int q.1 t'), (.int p.2 u, .int q.2 u')] 0 s
  refine kat_cons (wpAny_eqBool_int ?_)
  unfold ltP at h
  by_cases e1 : p.1 = q.1
  · rw [show (p.1 == q.1) = true from by rw [e1]; exact beq_self_eq_true _]
    refine kat_yes (kat_cons (wpAny_eqBool_int ?_))
    by_cases e2 : p.2 = q.2
    · rw [show (p.2 == q.2) = true from by rw [e2]; exact beq_self_eq_true _]
      refine kat_yes (kat_nil ?_)
      rw [decide_eq_false (by (first | lia | omega))] at h
      exact h
    · rw [show (p.2 == q.2) = false from beq_eq_false_iff_ne.mpr e2]
      refine kat_no (kat_one _ _ (lt_int ?_))
      rw [show decide (p.1 < q.1 ∨ p.1 = q.1 ∧ p.2 < q.2) = decide (p.2 < q.2) from by
        congr 1
        exact propext ⟨fun z => by (first | lia | omega), fun z => .inr ⟨e1, z⟩⟩] at h
      exact h
  · rw [show (p.1 == q.1) = false from beq_eq_false_iff_ne.mpr e1]
    refine kat_no (oneLt_int ?_)
    rw [show decide (p.1 < q.1 ∨ p.1 = q.1 ∧ p.2 < q.2) = decide (p.1 < q.1) from by
      congr 1
      exact propext ⟨fun z => by (first | lia | omega), fun z => .inl z⟩] at h
    exact h
theorem cmp_pts {vs : List Value} {key : Value → Int × Int} (h : ∀ v ∈ vs, IsPt s.heap v (key v)) : Cmp prog w A s (tuples' true) (fun x => x.1 ∈ vs) (fun x y => ltP (key x.1) (key y.1)) where
  ask := fun x y hx hy E st Q hk hq => by
    rw [lt'_eq]
    refine wpS_bind (wpS_get ?_)
    rw [hk]
    refine wpS_bind (wpS_lift (wpAny_attempt (keyLt_pts (h _ hx) (h _ hy) ⟨rfl, ?_⟩)))
    exact wpS_pure hq
  asym := fun x y _ _ e => by
    unfold ltP at e ⊢
    have := of_decide_eq_true e
    exact decide_eq_false (by (first | lia | omega))
  neg := fun x y z _ _ _ e1 e2 => by
    unfold ltP at e1 e2 ⊢
    have h1 := of_decide_eq_false e1
    have h2 := of_decide_eq_false e2
    exact decide_eq_false (by (first | lia | omega))
theorem tups_of {h : Heap} {key : Value → Int × Int} : ∀ {vs : List Value}, (∀ v ∈ vs, IsPt h v (key v)) → ∃ fs, KatTups h vs fs ∧ fs.length = vs.length ∧ ∀ v ∈ fs, ∃ i t, v = Value.int i t
  | [], _ => ⟨[], trivial, rfl, fun _ hv => nomatch hv⟩
  | v :: vs, hh => by
    obtain ⟨fs, h1, h2, h3⟩ := tups_of (vs := vs) fun x hx => hh x (List.mem_cons_of_mem _ hx)
    obtain ⟨a, o, t, u, n, rfl, ho, hc, hd⟩ := hh v List.mem_cons_self
    refine ⟨.int (key (.ref a)).1 t :: fs, KatTups.cons ho hc hd rfl h1, by rw [List.length_cons, List.length_cons, h2], fun x hx => ?_⟩
    rcases List.mem_cons.mp hx with rfl | hx
    · exact ⟨_, _, rfl⟩
    · exact h3 x hx
theorem kind_pts {vs : List Value} {key : Value → Int × Int} {Q : SortKind → Shared → Prop} (h : ∀ v ∈ vs, IsPt s.heap v (key v)) (h2 : 2 ≤ vs.length) (hq : Q (tuples' true) s) : wpAny (model prog w) A (keyKind' vs.toArray) Q E s := by
  obtain ⟨fs, h1, hl, h3⟩ := tups_of h
  refine kat_kind (T := .type "int") h1 (by (first | lia | omega)) (fun v hv => ?_) rfl ?_
  · obtain ⟨i, t, rfl⟩ := h3 v hv
    exact Looks.of_pure rfl
  · have e : ((Value.type "int") != Value.type "tuple") = true := by decide
    rw [e]
    exact hq
/-- sorted(a list of pairs of numbers) -/
theorem sorted_pts {l : Addr} {vs : List Value} {key : Value → Int × Int} {Q : Value → Shared → Prop} (hl : s.heap.IsList l vs.toArray) (hz : vs.length ≤ sizeLine) (hk : ∀ v ∈ vs, IsPt s.heap v (key v))
    (h : ∀ out : Array Value, out.toList.Perm vs → out.toList.Pairwise (fun x y => ltP (key y) (key x) = false) → Q (.ref (s.heap.objs.size + 1)) { s with heap := sortedAll s.heap vs out }) :
    wpAny (model prog w) A (call (.builtin "sorted") [.ref l]) Q E s :=
  sorted_any (κ := tuples' true) (D := fun x => x.1 ∈ vs) (R := fun x y => ltP (key x.1) (key y.1)) hl hz (fun v hv => hv) (fun A h' k => cmp_pts fun v hv => (hk v hv).kept k) (fun A E h' k h2 Q hq => kind_pts (fun v hv => (hk v hv).kept k) h2 hq) h
end
end TS

set_option Elab.async false
set_option linter.all false
set_option maxRecDepth 100000
set_option maxHeartbeats 4000000
namespace TS
open PySem PyProof PyProof.Rows PySem.W
/-! ### sorted(a text) -/
section
variable {prog : Program} {w : World} {A : Around} {E : Value → Shared → Prop} {s : Shared}
end
end TS

set_option Elab.async false
set_option linter.all false
set_option maxRecDepth 100000
set_option maxHeartbeats 1000000
namespace L2
open PySem PySem.Spec PyProof PyProof.Rows TS
/-! ### range with a step -/
section
variable {X : Cx} {tg : Expr}
end
/-! ### sorted of a text -/
end L2

set_option Elab.async false
set_option linter.all false
set_option maxRecDepth 100000
set_option maxHeartbeats 1000000
namespace L2
open PySem PySem.Spec PyProof.Rows TS
/-! ### sorted(a list of pairs of numbers) -/
theorem IsPt.uniq {h : Heap} {v : Value} {p q : Int × Int} (x : IsPt h v p) (y : IsPt h v q) : p = q := by
  obtain ⟨a, o, t, u, n, rfl, ho, _, hd⟩ := x
  obtain ⟨b, o', t', u', n', e, ho', _, hd'⟩ := y
  cases e
  rw [ho] at ho'
  cases ho'
  rw [hd] at hd'
  have h1 := congrArg (fun d => match d with | Data.seq xs _ => xs.toList | _ => []) hd'
  dsimp only at h1
  simp only [List.cons.injEq, and_true] at h1
  obtain ⟨e1, e2⟩ := h1
  injection e1 with e1 _
  injection e2 with e2 _
  exact Prod.ext e1 e2
open Classical in
noncomputable def keyP (h : Heap) (v : Value) : Int × Int := if x : ∃ q, IsPt h v q then Classical.choose x else (0, 0)
theorem keyP_of {h : Heap} {v : Value} {q : Int × Int} (x : IsPt h v q) : keyP h v = q := by
  unfold keyP
  rw [dif_pos ⟨q, x⟩]
  exact IsPt.uniq (Classical.choose_spec (⟨q, x⟩ : ∃ q, IsPt h v q)) x
def addrV : Value → Addr
  | .ref a => a
  | _ => 0
theorem vals_refs : ∀ {as : List Addr} {us : List Value}, Vals (as.map V.ref) us → us = as.map Value.ref
  | [], _, r => by
    rw [List.map_nil] at r
    cases r
    rfl
  | a :: as, _, r => by
    rw [List.map_cons] at r
    cases r with
    | cons h t =>
      cases (show _ = Value.ref a from h)
      rw [vals_refs t]
      rfl
theorem refs_vals : ∀ (as : List Addr), Vals (as.map V.ref) (as.map Value.ref)
  | [] => .nil
  | a :: as => .cons rfl (refs_vals as)
theorem paired_map {α β : Type} {S : α → β → Prop} {f : α → β} : ∀ {as : List α}, (∀ a ∈ as, S a (f a)) → Paired S as (as.map f)
  | [], _ => .nil
  | a :: as, h => .cons (h a List.mem_cons_self) (paired_map fun b hb => h b (List.mem_cons_of_mem _ hb))
theorem paired_eq {α β : Type} {S : α → β → Prop} {f : α → β} : ∀ {as : List α} {bs : List β}, Paired S as bs → (∀ a ∈ as, ∀ b, S a b → b = f a) → bs = as.map f
  | _, _, .nil, _ => rfl
  | _, _, .cons h t, e => by
    rw [List.map_cons, ← e _ List.mem_cons_self _ h, ← paired_eq t fun a ha => e a (List.mem_cons_of_mem _ ha)]
theorem paired_mem {α β : Type} {S : α → β → Prop} : ∀ {as : List α} {bs : List β} {a : α}, Paired S as bs → a ∈ as → ∃ b ∈ bs, S a b
  | _, _, _, .cons h t, m => by
    rcases List.mem_cons.mp m with rfl | m
    · exact ⟨_, List.mem_cons_self, h⟩
    · obtain ⟨b, hb, hs⟩ := paired_mem t m
      exact ⟨b, List.mem_cons_of_mem _ hb, hs⟩
section
variable {X : Cx}
theorem isPt_of {pins : List (Addr × Obj)} {σ : St} {H : Hp} {s : Shared} {a : Addr} {q : Int × Int} (I : Inv X pins σ H s) (h : SqT X.K H a [.int q.1, .int q.2]) : IsPt s.heap (.ref a) q := by
  obtain ⟨its, rv, ⟨o, ho, hc, n, hd⟩, _⟩ := I.tuple h
  cases rv with
  | cons r1 rr =>
    cases rr with
    | cons r2 rr =>
      cases rr
      obtain ⟨t, rfl⟩ := r1
      obtain ⟨u, rfl⟩ := r2
      exact ⟨a, o, t, u, n, rfl, ho, hc, hd⟩
end
end L2

set_option Elab.async false
set_option linter.all false
set_option maxRecDepth 100000
set_option maxHeartbeats 1000000
namespace PySem
open Sem (wp)
open TS (ltP)
end PySem
namespace L2
open PySem PySem.Spec PyProof PyProof.Rows TS
end L2

set_option Elab.async false
set_option linter.all false
set_option maxRecDepth 100000
set_option maxHeartbeats 4000000
namespace SW
open PySem L2 WM TS
/-! ### squares as data -/
theorem ltP_irrefl (p : Pt) : ltP p p = false := decide_eq_false (by (first | lia | omega))
end SW

set_option Elab.async false
set_option linter.all false
set_option maxRecDepth 100000
set_option maxHeartbeats 4000000
namespace TS
open PySem PyProof.Rows PySem.W
/-! ### sorted(a list of triples of numbers), sorted(a list of pairs of a pair and a number) -/
theorem lexLt_pt (p q : Int × Int) : HT.lexLt [p.1, p.2] [q.1, q.2] = ltP p q := by
  unfold ltP
  simp only [HT.lexLt]
  by_cases e1 : p.1 = q.1
  · rw [if_pos e1]
    by_cases e2 : p.2 = q.2
    · rw [if_pos e2, decide_eq_false (by (first | lia | omega))]
    · rw [if_neg e2]
      by_cases e3 : p.2 < q.2
      · rw [decide_eq_true e3, decide_eq_true (by (first | lia | omega))]
      · rw [decide_eq_false e3, decide_eq_false (by (first | lia | omega))]
  · rw [if_neg e1]
    by_cases e3 : p.1 < q.1
    · rw [decide_eq_true e3, decide_eq_true (.inl e3)]
    · rw [decide_eq_false e3, decide_eq_false (by (first | lia | omega))]
section
variable {prog : Program} {w : World} {A : Around} {E : Value → Shared → Prop} {s : Shared} {κ : SortKind} {D : Keyed → Prop} {R : Keyed → Keyed → Bool}
end
end TS
namespace L2
open PySem PySem.Spec PyProof.Rows TS
open Classical in
/-- a key by a relation that tells one thing only -/
noncomputable def keyBy {α : Type} (z : α) (S : Value → α → Prop) (v : Value) : α := if x : ∃ q, S v q then Classical.choose x else z
theorem keyBy_of {α : Type} {z : α} {S : Value → α → Prop} {v : Value} {q : α} (u : ∀ p, S v p → p = q) (x : S v q) : keyBy z S v = q := by
  unfold keyBy
  rw [dif_pos ⟨q, x⟩]
  exact u _ (Classical.choose_spec (⟨q, x⟩ : ∃ q, S v q))
section
variable {X : Cx}
/-- sorted, by any order that the sort keeps -/
theorem call_sorted_by {α : Type} (z : α) (S : Shared → Value → α → Prop) (Sq : Hp → Addr → α → Prop) (lt : α → α → Bool) (hun : ∀ s v p q, S s v p → S s v q → p = q) (hS : ∀ {pins σ H s a q}, Inv X pins σ H s → Sq H a q → S s (.ref a) q)
    (hso : ∀ {s : Shared} {l : Addr} {vs : List Value} {key : Value → α} {Q : Value → Shared → Prop}, s.heap.IsList l vs.toArray → vs.length ≤ sizeLine → (∀ v ∈ vs, S s v (key v)) →
      (∀ out : Array Value, out.toList.Perm vs → out.toList.Pairwise (fun x y => lt (key y) (key x) = false) → Q (.ref (s.heap.objs.size + 1)) { s with heap := sortedAll s.heap vs out }) → wpAny (model X.prog X.w) X.A (call (.builtin "sorted") [.ref l]) Q X.xe s) :
    CallR X (.builtin "sorted") (fun xs H Q => ∃ (p : Addr) (as : List Addr) (ps : List α), xs = [.ref p] ∧ SqL X.K H p (as.map V.ref) ∧ Paired (Sq H) as ps ∧
      ∀ l as' ps', H l = none → as'.Perm as → Paired (Sq H) as' ps' → ps'.Perm ps → ps'.Pairwise (fun a b => lt b a = false) → Q (.ref l) (upd H l (.lst (as'.map V.ref)))) := by
  intro pins s σ H xs us Q I r h
  obtain ⟨p, as, ps, rfl, hL, hP, q⟩ := h
  obtain ⟨u, rfl, ru⟩ := vals1 r
  cases (show u = Value.ref p from ru)
  obtain ⟨its, rv, pl, hz⟩ := I.list hL
  have ei := vals_refs rv
  subst ei
  rw [List.length_map] at hz
  let key : Value → α := keyBy z (S s)
  have hkey : ∀ {a q}, Sq H a q → key (.ref a) = q := fun hb => keyBy_of (fun p hp => hun _ _ _ _ hp (hS I hb)) (hS I hb)
  have hpt : ∀ a ∈ as, S s (.ref a) (key (.ref a)) := fun a ha => by
    obtain ⟨b, _, hb⟩ := paired_mem hP ha
    rw [hkey hb]
    exact hS I hb
  have eps : ps = as.map fun a => key (.ref a) := paired_eq hP fun a _ b hb => (hkey hb).symm
  have hsq : ∀ a ∈ as, Sq H a (key (.ref a)) := fun a ha => by
    obtain ⟨b, _, hb⟩ := paired_mem hP ha
    rw [hkey hb]
    exact hb
  refine hso (key := key) pl.isList (by rw [List.length_map]; exact hz) (fun v hv => ?_) fun out hperm hsort => ?_
  · obtain ⟨a, ha, rfl⟩ := List.mem_map.mp hv
    exact hpt a ha
  have eout : out.toList = (out.toList.map addrV).map Value.ref := by
    rw [List.map_map]
    conv => lhs; rw [← List.map_id' out.toList]
    refine List.map_congr_left fun v hv => ?_
    obtain ⟨a, _, rfl⟩ := List.mem_map.mp (hperm.mem_iff.mp hv)
    rfl
  have hpa : (out.toList.map addrV).Perm as := by
    have := hperm.map addrV
    rw [List.map_map] at this
    exact this.trans (List.Perm.of_eq (List.map_id' as))
  generalize out.toList.map addrV = as' at *
  obtain ⟨e, he⟩ := sortedAll_at s.heap (as.map Value.ref) out
  have hlen : as'.length ≤ sizeLine := by rw [hpa.length_eq]; exact hz
  have hfree : H (s.heap.objs.size + 1) = none := I.hok.fresh (Nat.le_succ _)
  have I1 : Inv X pins σ (upd H (s.heap.objs.size + 1) (.lst (as'.map V.ref))) { s with heap := sortedAll s.heap (as.map Value.ref) out } := by
    refine I.laid (t' := s.toks) (fun b u hb => sortedAll_old hb) (Nat.le_succ _) ?_
    refine ⟨by rw [List.length_map]; exact hlen, as'.map Value.ref, e, refs_vals as', ?_⟩
    rw [← eout]
    exact he
  refine ⟨.ref (s.heap.objs.size + 1), _, I1, rfl, q _ as' (as'.map fun a => key (.ref a)) hfree hpa (paired_map fun a ha => hsq a (hpa.mem_iff.mp ha)) ?_ ?_⟩
  · rw [eps]
    exact hpa.map _
  · rw [eout, List.pairwise_map] at hsort
    rw [List.pairwise_map]
    exact hsort
end
end L2

namespace WM
/-! ### going east in each row: what is passed is taken off -/
end WM
namespace WM
end WM

set_option Elab.async false
set_option linter.all false
set_option maxRecDepth 100000
set_option maxHeartbeats 4000000
namespace SW
open PySem L2 WM TS
theorem hu4_of {A : Around} {k : Nat} (hr : Room k A) : A.units + 4 < cLine := Nat.lt_of_le_of_lt (Nat.add_le_add_left (by decide : 4 ≤ 64) _) hr.units
theorem call_sortedPt {X : Cx} : CallR X (.builtin "sorted") (fun xs H Q => ∃ (p : Addr) (as : List Addr) (ps : List Pt), xs = [.ref p] ∧ SqL X.K H p (as.map V.ref) ∧ Tups H as ps ∧
      ∀ l as' ps', H l = none → as'.Perm as → Tups H as' ps' → ps'.Perm ps → ps'.Pairwise (fun a b => ltP b a = false) → Q (.ref l) (upd H l (.lst (as'.map V.ref)))) :=
  call_sorted_by (0, 0) (fun s v q => IsPt s.heap v q) (fun H a (q : Pt) => H a = some (.tup [.int q.1, .int q.2])) ltP (fun s v p q h1 h2 => IsPt.uniq h1 h2) (fun I h => isPt_of I (SqT.of h)) (fun hl hz hk h => sorted_pts hl hz hk h)
end SW

set_option Elab.async false
set_option linter.all false
set_option maxRecDepth 100000
set_option maxHeartbeats 1000000
namespace PySem
/-! ### a dict's keys, whatever they are -/
section
variable {prog : Program} {w : World} {A : Around} {E : Value → Shared → Prop} {s : Shared}
def CollR (s : Shared) (P : Nat → Value → Prop) (n : Nat) (r : Result) (s' : Shared) : Prop := ∃ (h' : Heap) (tk : Nat) (acc : Array Value) (c : Nat), r = Except.ok (Flow.ret (Value.ref s.heap.objs.size)) ∧ s' = { s with heap := h', toks := tk } ∧ (∀ b o, s.heap.get? b = some o → h'.get? b = some o) ∧ h'.get? s.heap.objs.size = some { cls := Value.type "list", data := Data.seq acc c } ∧ ItemsOf P acc n
/-- list of what iter gives -/
theorem collect_src {T : String} {r d : Addr} {n : Nat} {P : Nat → Value → Prop} {OK : Heap → Prop} {Q : List Value → Shared → Prop} (S : PySem.W.KdlSrc prog w T r d n P OK) (hh : A.handled = none) (hok : OK s.heap) (hn : n ≤ sizeLine)
    (h : ∀ (h' : Heap) (tk : Nat) (acc : Array Value), (∀ b o, s.heap.get? b = some o → h'.get? b = some o) → ItemsOf P acc n → Q acc.toList { s with heap := h', toks := tk }) : wpAny (model prog w) A (collect (.ref r)) Q E s := by
  unfold collect
  refine wpAny_bind (wpAny_runValue (codeAny_mono (R := CollR s P n) (codeAny_builtin F.entry_proto_collect ?_) ?_))
  · rw [Around.under_plainId F.plain_proto_collect _]
    unfold Builtin.«proto.collect»
    dsimp only
    refine wpAny_bind (wpAny_newList ?_ (Nat.zero_le _))
    refine wpAny_pure ⟨plainId_quiet F.plain_list_iadd _, codeAny_builtin F.entry_list_iadd ?_⟩
    rw [Around.under_plainId F.plain_list_iadd _]
    unfold Builtin.«list.__iadd__»
    refine wpAny_bind (wpAny_of_eq (a := (Value.ref s.heap.objs.size, [Value.ref r])) rfl ?_)
    dsimp only
    have hlt := S.there _ hok
    have k1 : ∀ b o, s.heap.get? b = some o → (s.heap.push { cls := Value.type "list", data := Data.seq ([] : List Value).toArray 0 }).get? b = some o := fun b o q => Heap.get?_push_of_some _ q
    exact PySem.W.kdl_extend (R := CollR s P n) (s := { s with heap := s.heap.push { cls := Value.type "list", data := Data.seq ([] : List Value).toArray 0 } }) S hh (S.keep _ _ hok fun b _ o q => k1 b o q) s.heap.objs.size (Nat.ne_of_gt hlt.1) (Nat.ne_of_gt hlt.2) (Value.ref s.heap.objs.size) 0 (Heap.get?_push_size _ rfl)
      (fun h' tk acc c hk hS hi => ⟨h', tk, acc, c, rfl, rfl, fun b o q => hk b o (Nat.ne_of_lt (Heap.lt_size q)) (k1 b o q), hS, hi⟩) hn
  · rintro r s' ⟨h', tk, acc, c, rfl, rfl, hk, hS, hi⟩
    dsimp only
    refine wpAny_bind (wpAny_load hS ?_)
    dsimp only
    exact wpAny_pure (h h' tk acc hk hi)
end
end PySem
namespace TS
open PySem PyProof.Rows PySem.W
section
variable {prog : Program} {w : World} {A : Around} {E : Value → Shared → Prop} {s : Shared} {κ : SortKind} {D : Keyed → Prop} {R : Keyed → Keyed → Bool}
/-- sorted of what iter gives -/
theorem sorted_src {T : String} {r d : Addr} {n : Nat} {Pi : Nat → Value → Prop} {OK : Heap → Prop} {Q : Value → Shared → Prop} (S : KdlSrc prog w T r d n Pi OK) (hh : A.handled = none) (hok : OK s.heap) (hz : n ≤ sizeLine) (hD : ∀ vs : List Value, vs.length = n → (∀ (j : Nat) v, vs[j]? = some v → Pi j v) → ∀ v ∈ vs, D (v, v))
    (C : ∀ (A' : Around) h' tk, A'.units ≤ A.units + 4 → (∀ b o, s.heap.get? b = some o → h'.get? b = some o) → Cmp prog w A' { s with heap := h', toks := tk } κ D R)
    (hkk : ∀ (A : Around) (E : Value → Shared → Prop) h' tk (vs : List Value), (∀ b o, s.heap.get? b = some o → h'.get? b = some o) → vs.length = n → (∀ (j : Nat) v, vs[j]? = some v → Pi j v) → 2 ≤ vs.length → ∀ (Q : SortKind → Shared → Prop), Q κ { s with heap := h', toks := tk } → wpAny (model prog w) A (keyKind' vs.toArray) Q E { s with heap := h', toks := tk })
    (h : ∀ (vs : List Value) (out : Array Value) (h1 h' : Heap) (tk : Nat) (e : Nat), vs.length = n → (∀ (j : Nat) v, vs[j]? = some v → Pi j v) → out.toList.Perm vs → out.toList.Pairwise (leV R) → (∀ b o, s.heap.get? b = some o → h1.get? b = some o) → (∀ b o, h1.get? b = some o → h'.get? b = some o) → h'.get? h1.objs.size = some (seqObj "list" out e) → Q (.ref h1.objs.size) { s with heap := h', toks := tk }) :
    wpAny (model prog w) A (call (.builtin "sorted") [.ref r]) Q E s := by
  refine Calls.call_function_entry kind_sorted plain_sorted entry_sorted (args_sorted1 _) ?_
  unfold Builtin.«sorted»
  refine wpAny_bind (m := checkCount "sorted" 1 1 _) (wpAny_pure ?_)
  refine wpAny_bind (collect_src S hh hok hz fun h1 tk acc hk hi => ?_)
  have hlen : acc.toList.length = n := by rw [Array.length_toList]; exact hi.1
  have hPi : ∀ (j : Nat) v, acc.toList[j]? = some v → Pi j v := fun j v e => hi.2 j v (by rw [← Array.getElem?_toList]; exact e)
  refine wpAny_bind (wpAny_newList ?_ (by rw [hlen]; exact hz))
  have hoL : (h1.push (seqObj "list" acc.toList.toArray 0)).get? h1.objs.size = some (seqObj "list" acc.toList.toArray 0) := Heap.get?_push_size _ rfl
  have kept : ∀ b o, s.heap.get? b = some o → (h1.push (seqObj "list" acc.toList.toArray 0)).get? b = some o := fun b o e => Heap.get?_push_of_some _ (hk b o e)
  have lt1 : ∀ b o, s.heap.get? b = some o → b < h1.objs.size := fun b o e => Heap.lt_size (hk b o e)
  have ne1 : ∀ b o, s.heap.get? b = some o → b ≠ h1.objs.size := fun b o e => Nat.ne_of_lt (lt1 b o e)
  show wpAny _ _ _ _ _ { s with heap := h1.push (seqObj "list" acc.toList.toArray 0), toks := tk }
  refine wpAny_bind (wpAny_holding (wpAny_call_entry slot_list_sort ⟨_, hoL, rfl⟩ entry_list_sort (list_sort_any (s := { s with heap := h1.push (seqObj "list" acc.toList.toArray 0), toks := tk }) (κ := κ) (D := D) (R := R) hoL (by rw [hlen]; exact hz) (hD _ hlen hPi)
    (fun h' k => C _ h' tk (by show A.units + 1 + 1 ≤ A.units + 4; (first | lia | omega)) fun b o e => k b o (ne1 b o e) (kept b o e)) (fun h' k h2 Q' hq => hkk _ _ h' tk _ (fun b o e => k b o (ne1 b o e) (kept b o e)) hlen hPi h2 Q' hq) fun out a1 a2 => ⟨_, rfl, ?_⟩) (args_list_sort _)))
  obtain ⟨e, he⟩ := sortedHeap_at (out := out) (vs := acc.toList) hoL
  refine wpAny_pure ⟨_, rfl, h acc.toList out h1 _ tk e hlen hPi a1 a2 hk (fun b o q => ?_) he⟩
  have lt2 : b < h1.objs.size := Heap.lt_size q
  rw [sortedHeap_old (Nat.ne_of_lt lt2) (show b < (h1.push (seqObj "list" acc.toList.toArray 0)).objs.size by rw [Heap.size_push]; exact Nat.lt_succ_of_lt lt2)]
  exact Heap.get?_push_of_some _ q
end
end TS

set_option Elab.async false
set_option linter.all false
set_option maxRecDepth 100000
set_option maxHeartbeats 1000000
namespace L2
open PySem PySem.Spec PyProof.Rows TS
section
variable {X : Cx}
end
end L2
namespace SW
open PySem PySem.Spec PyProof.Rows L2 WM TS
def ptK (q : Pt) : List Key := [.inl q.1, .inl q.2]
theorem ptK_inj {p q : Pt} (h : ptK p = ptK q) : p = q := by
  unfold ptK at h
  injection h with h1 h2
  injection h2 with h2 _
  exact Prod.ext (Sum.inl.inj h1) (Sum.inl.inj h2)
section
variable {X : Cx}
end
end SW

set_option Elab.async false
set_option linter.all false
set_option maxRecDepth 100000
set_option maxHeartbeats 4000000
namespace SW
open PySem L2 WM TS
/-! ### places, sorted -/
def leP (a b : Pt) : Bool := !ltP b a
def srtP (l : List Pt) : List Pt := l.mergeSort leP
theorem leP_iff {a b : Pt} : leP a b = true ↔ ltP b a = false := by
  unfold leP
  cases ltP b a <;> simp
theorem srtP_perm (l : List Pt) : (srtP l).Perm l := List.mergeSort_perm l leP
theorem srtP_sorted (l : List Pt) : (srtP l).Pairwise fun a b => ltP b a = false := by
  have := List.pairwise_mergeSort (le := leP) (fun a b c h1 h2 => ?_) (fun a b => ?_) l
  · exact this.imp fun h => leP_iff.mp h
  · rw [leP_iff] at h1 h2 ⊢
    unfold ltP at *
    have h1 := of_decide_eq_false h1
    have h2 := of_decide_eq_false h2
    exact decide_eq_false (by (first | lia | omega))
  · unfold leP ltP
    by_cases h : a.1 < b.1 ∨ (a.1 = b.1 ∧ a.2 < b.2)
    · rw [decide_eq_false (p := b.1 < a.1 ∨ (b.1 = a.1 ∧ b.2 < a.2)) (by (first | lia | omega))]
      rfl
    · rw [decide_eq_false (p := a.1 < b.1 ∨ (a.1 = b.1 ∧ a.2 < b.2)) h]
      simp
theorem ltP_anti {a b : Pt} (h1 : ltP a b = false) (h2 : ltP b a = false) : a = b := by
  unfold ltP at *
  have h1 := of_decide_eq_false h1
  have h2 := of_decide_eq_false h2
  exact Prod.ext (by (first | lia | omega)) (by (first | lia | omega))
theorem sorted_uniq : ∀ {cs ds : List Pt}, cs.Perm ds → cs.Pairwise (fun a b => ltP b a = false) → ds.Pairwise (fun a b => ltP b a = false) → cs = ds := by
  intro cs ds hp h1 h2
  exact hp.eq_of_pairwise (fun a b _ _ x y => ltP_anti y x) h1 h2
theorem srtP_eq {cs l : List Pt} (hp : cs.Perm l) (h : cs.Pairwise fun a b => ltP b a = false) : cs = srtP l := sorted_uniq (hp.trans (srtP_perm l).symm) h (srtP_sorted l)
/-- neighbours rise: none is there twice -/
theorem rises_iff {cs : List Pt} (h : cs.Pairwise fun a b => ltP b a = false) : (∀ (i : Nat) a b, cs[i]? = some a → cs[i + 1]? = some b → ltP a b = true) ↔ cs.Nodup := by
  constructor
  · intro hr
    have key : cs.Pairwise fun a b => ltP a b = true := by
      clear h
      induction cs with
      | nil => exact .nil
      | cons a r ih =>
        refine List.pairwise_cons.mpr ⟨?_, ih fun i x y hx hy => hr (i + 1) x y (by simpa using hx) (by simpa using hy)⟩
        have ih' := ih fun i x y hx hy => hr (i + 1) x y (by simpa using hx) (by simpa using hy)
        intro b hb
        cases r with
        | nil => cases hb
        | cons c r' =>
          have hac := hr 0 a c rfl rfl
          rcases List.mem_cons.mp hb with rfl | hb
          · exact hac
          · have hcb := (List.pairwise_cons.mp ih').1 b hb
            unfold ltP at *
            have hac := of_decide_eq_true hac
            have hcb := of_decide_eq_true hcb
            exact decide_eq_true (by (first | lia | omega))
    rw [List.nodup_iff_pairwise_ne]
    refine key.imp fun {a b} hab e => ?_
    rw [e, ltP_irrefl] at hab
    cases hab
  · intro nd i a b ha hb
    obtain ⟨ia, ea⟩ := List.getElem?_eq_some_iff.mp ha
    obtain ⟨ib, eb⟩ := List.getElem?_eq_some_iff.mp hb
    have h1 := List.pairwise_iff_getElem.mp h i (i + 1) ia ib (Nat.lt_succ_self i)
    have h2 := List.pairwise_iff_getElem.mp (List.nodup_iff_pairwise_ne.mp nd) i (i + 1) ia ib (Nat.lt_succ_self i)
    rw [ea, eb] at h1 h2
    cases e : ltP a b with
    | true => rfl
    | false => exact absurd (ltP_anti e h1) h2
/-- the places that count -/
def cntP (l : List Nat) : List Pt := if l ≠ [] ∧ posOf l = (0, 0) then (plOf l).dropLast else plOf l
theorem cntP_length (l : List Nat) : (cntP l).length ≤ l.length + 1 := by
  unfold cntP
  split
  · rw [List.length_dropLast, show (plOf l).length = l.length + 1 from placesP_length _ _]
    (first | lia | omega)
  · rw [show (plOf l).length = l.length + 1 from placesP_length _ _]
    exact Nat.le_refl _
/-! ### the classes -/
/-- what the walk asks of a class with two methods -/
structure ClT (K : PySem.W.Frag) (mg : Str → Option Value) (x : Str) (C fI fS : Addr) : Prop where
  cl : Cls K C
  at_ : mg x = some (.ref C)
  mkr : Mk K C fI
  ms : Meth K C "shows" fS
  ha : PySem.W.findIn K (.ref C) "__class__" = some (some (.builtin "object.__class__"))
  hn : PySem.W.specialIn K (.builtin "object.__class__") "__get__" = some (some (.builtin "getset_descriptor.__get__"))
  htk : PySem.W.takesIn K (.builtin "object.__class__") = some true
  hm : PySem.W.mroIn K C (.type "object") = some true
/-- a def of a class -/
structure Mf (K : PySem.W.Frag) (x q : Str) (st : Stmt) (ps : List Str) (f : Addr) (fd : FuncData) : Prop where
  fn : Fun K x q st f fd
  bi : Binds K fd ps []
def fsS (d : Addr) : List (Str × V) := [("places", .ref d)]
def fsT (i j : Int) : List (Str × V) := [("first", .int i), ("second", .int j)]
/-- a Simple with these places, a Twice with these moments -/
def SimpAt (Cs : Addr) (H : Hp) (p : Addr) (ps : List Pt) : Prop := ∃ dx d as, H p = some (.ins Cs dx (fsS d)) ∧ H d = some (.lst (List.map V.ref as)) ∧ Tups H as ps
def TwAt (Ct : Addr) (H : Hp) (p : Addr) (i j : Int) : Prop := ∃ dx, H p = some (.ins Ct dx (fsT i j))
theorem SimpAt.same {Cs : Addr} {H H' : Hp} {p : Addr} {ps : List Pt} (h : SimpAt Cs H p ps) (s : Same H H') : SimpAt Cs H' p ps := by
  obtain ⟨dx, d, as, h1, h2, h3⟩ := h
  exact ⟨dx, d, as, s _ _ h1, s _ _ h2, h3.mono fun b xs e => s _ _ e⟩
/-! ### promises -/
def spCounted : Sp := fun vs H Q _ => ∃ l, vs = [.str (T l)] ∧ IsW l ∧ l.length ≤ 1000 ∧ ∀ d H', H d = none → Same H H' → PlAt H' d (cntP l) → Q (.ref d) H'
def spRises (K : PySem.W.Frag) : Sp := fun vs H Q _ => ∃ (d : Addr) (as : List Addr) (ps : List Pt), vs = [.ref d] ∧ SqL K H d (as.map V.ref) ∧ Tups H as ps ∧ ps.length ≤ 100000 ∧ ps.Pairwise (fun a b => ltP b a = false) ∧ ∀ H', Same H H' → Q (.bl (decide ps.Nodup)) H'
def spSimpInit (K : PySem.W.Frag) (Cs : Addr) : Sp := fun vs H Q _ => ∃ (p dx a : Addr) (xs : List V), vs = [.ref p, .ref a] ∧ H p = some (.ins Cs dx []) ∧ SqL K H a xs ∧ ∀ d, H d = none → Q .non (upd (upd H d (.lst xs)) p (.ins Cs dx (fsS d)))
def spTwInit (Ct : Addr) : Sp := fun vs H Q _ => ∃ (p dx : Addr) (i j : Int), vs = [.ref p, .int i, .int j] ∧ H p = some (.ins Ct dx []) ∧ Q .non (upd (upd H p (.ins Ct dx [("first", .int i)])) p (.ins Ct dx (fsT i j)))
def spSimpShows (Cs : Addr) : Sp := fun vs H Q _ => ∃ (p : Addr) (l : List Nat) (ps : List Pt), vs = [.ref p, .str (T l)] ∧ SimpAt Cs H p ps ∧ ps.length ≤ 100000 ∧ IsW l ∧ l.length ≤ 1000 ∧ ∀ H', Same H H' → Q (.bl (decide (ps = srtP (cntP l) ∧ (cntP l).Nodup))) H'
def twice (l : List Nat) (i j : Int) : Prop := 0 ≤ i ∧ i < j ∧ j ≤ (l.length : Int) ∧ ¬ (i = 0 ∧ j = (l.length : Int)) ∧ posOf (l.take i.toNat) = posOf (l.take j.toNat)
instance (l : List Nat) (i j : Int) : Decidable (twice l i j) := by unfold twice; infer_instance
def spTwShows (Ct : Addr) : Sp := fun vs H Q _ => ∃ (p : Addr) (l : List Nat) (i j : Int), vs = [.ref p, .str (T l)] ∧ TwAt Ct H p i j ∧ IsW l ∧ l.length ≤ 1000 ∧ ∀ H', Same H H' → Q (.bl (decide (twice l i j))) H'
/-- [te for x, y in zip(..)], items by a plain function -/
theorem comp_zip {K : PySem.W.Frag} {S1 S2 : Hp → List V → Prop} {xs ys : List V} {n : Nat} {te : BK TE} {σ : St} {H1 : Hp} {Q : VK} (f : Nat → V) (hn : n = σ.length) (hsz : min xs.length ys.length ≤ sizeLine) (h1 : ∀ H2, Same H1 H2 → S1 H2 xs) (h2 : ∀ H2, Same H1 H2 → S2 H2 ys)
    (hel : ∀ C fp s₀ H₀ (i : Nat) u v, xs[i]? = some u → ys[i]? = some v → ∀ H3 (R : VK), Same H1 H3 → (∀ H4, Same H3 H4 → R (f i) H4) → te C fp s₀ H₀ (σ ++ [some u, some v]) H3 R)
    (hq : ∀ D H', H1 D = none → Same H1 H' → H' D = some (.lst ((List.range (min xs.length ys.length)).map f)) → Q (.ref D) H') :
    CompIn 2 (Itz S1 S2) (fun _ _ _ _ => gTup K 2 (gCons (gName n) (gCons (gName (n + 1)) gNil))) (fun _ _ _ _ => tTrue) te σ H1 Q := by
  unfold CompIn
  intro D hD
  refine ⟨fun i m zs H2 => m = min xs.length ys.length - i ∧ i ≤ min xs.length ys.length ∧ zs = (List.range i).map f ∧ Same H1 H2 ∧ H2 D = some (.lst zs), ⟨min xs.length ys.length, by simp, Nat.zero_le _, rfl, same_upd hD (Same.refl _), upd_same⟩, ?_⟩
  rintro i m zs H2 ⟨rfl, hi, rfl, s2, hDl⟩
  refine ⟨hDl, ?_⟩
  by_cases hlt : i < min xs.length ys.length
  · refine .inr ⟨⟨xs, ys, h1 _ s2, h2 _ s2, by (first | lia | omega), by (first | lia | omega)⟩, fun x H3 y C fp s₀ H₀ => ?_⟩
    obtain ⟨b, u, v, rfl, hb, rfl, hy⟩ := y
    obtain ⟨eu, ev⟩ := hy xs ys (h1 _ s2) (h2 _ s2)
    have sb : Same H2 (upd H2 b (.tup [u, v])) := same_new hb
    refine g_two hn (SqT.of upd_same) ⟨⟨[some u, some v], rfl, rfl⟩, ?_⟩
    unfold tTrue
    dsimp only
    rw [if_pos rfl]
    refine hel C fp s₀ H₀ i u v eu ev _ _ (s2.trans sb) fun H4 s4 => ⟨s4 D _ (sb D _ hDl), ?_, min xs.length ys.length - (i + 1), by (first | lia | omega), rfl, hlt, ?_, same_upd hD ((s2.trans sb).trans s4), upd_same⟩
    · rw [List.length_map, List.length_range]
      (first | lia | omega)
    · rw [List.range_succ, List.map_append]
      rfl
  · have e : i = min xs.length ys.length := by (first | lia | omega)
    subst e
    exact .inl ⟨⟨xs, ys, h1 _ s2, h2 _ s2, rfl⟩, hq D H2 hD s2 hDl⟩
theorem tups_dropLast {H : Hp} : ∀ {as : List Addr} {ps : List Pt}, Tups H as ps → Tups H as.dropLast ps.dropLast
  | _, _, .nil => .nil
  | _, _, .cons _ .nil => .nil
  | _, _, .cons h (.cons h2 t) => .cons h (tups_dropLast (.cons h2 t))
theorem tups_mono {H H' : Hp} {as : List Addr} {ps : List Pt} (h : Tups H as ps) (s : TSame H H') : Tups H' as ps := h.mono fun b xs e => s b xs e
end SW

namespace WM
/-! ### the area between two walks -/
end WM

set_option Elab.async false
set_option linter.all false
set_option maxRecDepth 100000
set_option maxHeartbeats 4000000
namespace SW
open PySem L2 WM TS
def top (i : Nat) : Stmt := PySem.Challenge.pw_squarewalk_k07_answers_by_hand.main.body.getD i (.Pass ⟨0, 0, 0, 0⟩)
abbrev sCheckWalk : Stmt := top 5
abbrev sIsNumber : Stmt := top 6
abbrev sIsPair : Stmt := top 7
abbrev sIsClosed : Stmt := top 8
abbrev sStepped : Stmt := top 9
abbrev sPlaces : Stmt := top 10
abbrev sCountedPlaces : Stmt := top 11
abbrev sEnd : Stmt := top 12
abbrev sRises : Stmt := top 17
abbrev sLawWalk : Stmt := top 19
abbrev sLawPlaces : Stmt := top 20
abbrev sLawClosed : Stmt := top 22
abbrev sLawSays : Stmt := top 23
abbrev sLawSimple : Stmt := top 24
abbrev sLawSimpleRight : Stmt := top 25
abbrev sLawTwiceRight : Stmt := top 26
abbrev sLaw : Stmt := top 27
abbrev sSimpleInit : Stmt := inClass (top 15) 0
abbrev sSimpleShows : Stmt := inClass (top 15) 1
abbrev sTwiceInit : Stmt := inClass (top 16) 0
abbrev sTwiceShows : Stmt := inClass (top 16) 1
section
variable {P : Program} {w : World} {K : PySem.W.Frag} {mg : Str → Option Value} {base : Heap}
/-! ### check_walk -/
theorem scCheckWalk : FnScope ["walk", "letter"] ["walk"] (defScope sCheckWalk) := ⟨rfl, rfl, rfl, by decide +kernel, rfl, by decide +kernel, by decide +kernel⟩
theorem ok_check_walk {f : Addr} {fd : FuncData} (F : Df K mg "check_walk" sCheckWalk ["walk"] f fd) (X : Txt K mg) : FnOk P w K mg base CX0 1 f fd ["walk"] spCheckWalk := by
  obtain ⟨tl, hlw⟩ := X.lw
  refine F.fn.ok scCheckWalk (fun vs H Q E h => ?_) (fun cdv A outer s H vs Q E hr h => ?_)
  · obtain ⟨l, rfl, _⟩ := h
    rfl
  · obtain ⟨l, rfl, hl, k⟩ := h
    refine ⟨_, pss_cons (ps_if (pt_not (pt_val (pe_callB call_isT rfl X.isi PyProof.Rows.boot_isinstance (pa_cons (pv 0) (pa_cons (pe_bltn rfl X.str PyProof.Rows.boot_str (v := .ty "str") rfl) pa_nil))))) pss_never pss_nil)
      (pss_one (ps_for PassesOwn.never rfl (pi_str (pv 0)) (pg_name (i := 1) scCheckWalk.nd rfl (Or.inl rfl))
        (pss_one (ps_if (pt_cmpR op_notin_str (pv 1) (pe_glob rfl hlw (v := .str (T [110, 119, 115, 101])) ⟨tl, by rw [lit_nwse]⟩) (by with_unfolding_all rfl)) pss_never pss_nil)))), ?_⟩
    refine ⟨_, rfl, _, _, _, true, rfl, .str _, kit_str K, _, rfl, ?_⟩
    refine iteF ?_
    refine ⟨_, rfl, l, rfl, for_str (l := l) (fun i σ H' => (∃ v, σ = [some (.str (T l)), v]) ∧ H' = H) ⟨⟨_, rfl⟩, rfl⟩ ?_ ?_⟩
    · rintro i c σ H' hc ⟨⟨v, rfl⟩, rfl⟩
      have hlt : Lt c := hl c (List.mem_of_getElem? hc)
      refine ⟨_, rfl, _, _, rfl, rfl, _, rfl, ?_⟩
      rw [occ_in hlt]
      refine iteF ?_
      exact ⟨⟨_, rfl⟩, rfl⟩
    · rintro σ H' ⟨_, rfl⟩
      exact k
/-! ### is_number -/
theorem scIsNumber : FnScope ["value"] ["value"] (defScope sIsNumber) := ⟨rfl, rfl, rfl, by decide +kernel, rfl, by decide +kernel, by decide +kernel⟩
def spIsNumber : Sp := fun vs H Q _ => ∃ i, vs = [.int i] ∧ Q (.bl true) H
theorem ok_is_number {f : Addr} {fd : FuncData} (F : Df K mg "is_number" sIsNumber ["value"] f fd) (X : Txt K mg) : FnOk P w K mg base CX0 1 f fd ["value"] spIsNumber := by
  refine F.fn.ok scIsNumber (fun vs H Q E h => ?_) (fun cdv A outer s H vs Q E hr h => ?_)
  · obtain ⟨i, rfl, _⟩ := h
    rfl
  · obtain ⟨i, rfl, k⟩ := h
    refine ⟨_, pss_one (ps_ret (pe_and (pe_callB call_isT rfl X.isi PyProof.Rows.boot_isinstance (pa_cons (pv 0) (pa_cons (pe_bltn rfl X.int PyProof.Rows.boot_int (v := .ty "int") rfl) pa_nil)))
      (pe_one (pe_not (pe_callB call_isT rfl X.isi PyProof.Rows.boot_isinstance (pa_cons (pv 0) (pa_cons (pe_bltn rfl X.bool PyProof.Rows.boot_bool (v := .ty "bool") rfl) pa_nil))))))), ?_⟩
    refine ⟨_, rfl, _, _, _, true, rfl, .int _, kit_int K, ?_⟩
    refine ⟨_, rfl, ?_⟩
    refine iteT ?_
    refine ⟨_, rfl, _, _, _, false, rfl, .int _, kit_int_bool K, _, rfl, ?_⟩
    exact k
/-! ### is_pair -/
theorem scIsPair : FnScope ["value"] ["value"] (defScope sIsPair) := ⟨rfl, rfl, rfl, by decide +kernel, rfl, by decide +kernel, by decide +kernel⟩
def spIsPair (K : PySem.W.Frag) : Sp := fun vs H Q _ => ∃ (a : Addr) (q : Pt), vs = [.ref a] ∧ SqT K H a [.int q.1, .int q.2] ∧ H a = some (.tup [.int q.1, .int q.2]) ∧ Q (.bl true) H
theorem ok_is_pair {f fN : Addr} {fd fdN : FuncData} (F : Df K mg "is_pair" sIsPair ["value"] f fd) (X : Txt K mg) (htup : mg "tuple" = none) (hlen : mg "len" = none) (N : Df K mg "is_number" sIsNumber ["value"] fN fdN) : FnOk P w K mg base CX0 2 f fd ["value"] (spIsPair K) := by
  have GN : FnOk P w K mg base CX0 1 fN fdN ["value"] spIsNumber := ok_is_number N X
  refine F.fn.ok scIsPair (fun vs H Q E h => ?_) (fun cdv A outer s H vs Q E hr h => ?_)
  · obtain ⟨a, q, rfl, _⟩ := h
    rfl
  · obtain ⟨a, q, rfl, hS, hH, k⟩ := h
    have a0 : atI [V.int q.1, V.int q.2] 0 = some (.int q.1) := atI_nat (j := 0) rfl
    have a1 : atI [V.int q.1, V.int q.2] 1 = some (.int q.2) := atI_nat (j := 1) rfl
    refine ⟨_, pss_one (ps_ret (pe_and (pe_callB call_isT rfl X.isi PyProof.Rows.boot_isinstance (pa_cons (pv 0) (pa_cons (pe_bltn rfl htup PyProof.Rows.boot_tuple (v := .ty "tuple") rfl) pa_nil)))
      (pe_and (pe_cmpR op_eq (pe_callB call_len_seq rfl hlen PySem.boot_len (pa_cons (pv 0) pa_nil)) pe_int (nomark _))
      (pe_and (pe_call GN hr rfl N.at_ N.fn.kp N.bi .nil pass0 (pa_cons (pe_ix ix_tup (pv 0) pe_int (fun _ _ => rfl)) pa_nil))
      (pe_one (pe_call GN hr rfl N.at_ N.fn.kp N.bi .nil pass0 (pa_cons (pe_ix ix_tup (pv 0) pe_int (fun _ _ => rfl)) pa_nil))))))), ?_⟩
    refine ⟨_, rfl, _, _, _, true, rfl, .tup hH, kit_tuple K, _, rfl, ?_⟩
    refine iteT ?_
    refine ⟨_, rfl, a, _, rfl, .inr hS, rfl, _, rfl, ?_⟩
    refine iteT ?_
    refine ⟨_, rfl, _, _, _, _, rfl, rfl, hS, a0, _, rfl, _, rfl, ?_⟩
    refine iteT ?_
    exact ⟨_, rfl, _, _, _, _, rfl, rfl, hS, a1, _, rfl, k⟩
/-! ### stepped -/
theorem scStepped : FnScope ["place", "step"] ["place", "step"] (defScope sStepped) := ⟨rfl, rfl, rfl, by decide +kernel, rfl, by decide +kernel, by decide +kernel⟩
theorem ok_stepped {f : Addr} {fd : FuncData} (F : Df K mg "stepped" sStepped ["place", "step"] f fd) : FnOk P w K mg base CX0 1 f fd ["place", "step"] (spStepped K) := by
  refine F.fn.ok scStepped (fun vs H Q E h => ?_) (fun cdv A outer s H vs Q E hr h => ?_)
  · obtain ⟨a, p, c, rfl, _⟩ := h
    rfl
  · obtain ⟨a, p, c, rfl, hc, hS, k⟩ := h
    refine ⟨_, pss_cons (ps_if (pt_cmpR op_eq (pv 1) pe_str (nomark _)) (pss_one (ps_ret (pe_tup (pa_cons (pe_ix ix_tup (pv 0) pe_int (fun _ _ => rfl)) (pa_cons (pe_op op_add (pe_ix ix_tup (pv 0) pe_int (fun _ _ => rfl)) pe_int) pa_nil))))) pss_nil)
      (pss_cons (ps_if (pt_cmpR op_eq (pv 1) pe_str (nomark _)) (pss_one (ps_ret (pe_tup (pa_cons (pe_op op_add (pe_ix ix_tup (pv 0) pe_int (fun _ _ => rfl)) pe_int) (pa_cons (pe_ix ix_tup (pv 0) pe_int (fun _ _ => rfl)) pa_nil))))) pss_nil)
      (pss_cons (ps_if (pt_cmpR op_eq (pv 1) pe_str (nomark _)) (pss_one (ps_ret (pe_tup (pa_cons (pe_ix ix_tup (pv 0) pe_int (fun _ _ => rfl)) (pa_cons (pe_op op_sub (pe_ix ix_tup (pv 0) pe_int (fun _ _ => rfl)) pe_int) pa_nil))))) pss_nil)
      (pss_one (ps_ret (pe_tup (pa_cons (pe_op op_sub (pe_ix ix_tup (pv 0) pe_int (fun _ _ => rfl)) pe_int) (pa_cons (pe_ix ix_tup (pv 0) pe_int (fun _ _ => rfl)) pa_nil))))))), ?_⟩
    have a0 : atI [V.int p.1, V.int p.2] 0 = some (.int p.1) := atI_nat (j := 0) rfl
    have a1 : atI [V.int p.1, V.int p.2] 1 = some (.int p.2) := atI_nat (j := 1) rfl
    refine ⟨_, rfl, rfl, _, rfl, ?_⟩
    rw [lit_n, strT]
    refine ite2 (fun h => ?_) (fun h => ?_)
    · have hc : c = 110 := by simpa using h
      subst hc
      exact ⟨_, rfl, _, _, _, _, rfl, rfl, hS, a0, _, rfl, _, _, _, _, rfl, rfl, hS, a1, _, _, rfl, rfl, two_le, k⟩
    have n1 : ¬ c = 110 := fun z => h (by simp [z])
    refine ⟨_, rfl, rfl, _, rfl, ?_⟩
    rw [lit_e, strT]
    refine ite2 (fun h => ?_) (fun h => ?_)
    · have hc : c = 101 := by simpa using h
      subst hc
      exact ⟨_, rfl, _, _, _, _, rfl, rfl, hS, a0, _, _, rfl, rfl, _, rfl, _, _, _, _, rfl, rfl, hS, a1, two_le, k⟩
    have n2 : ¬ c = 101 := fun z => h (by simp [z])
    refine ⟨_, rfl, rfl, _, rfl, ?_⟩
    rw [lit_s, strT]
    refine ite2 (fun h => ?_) (fun h => ?_)
    · have hc : c = 115 := by simpa using h
      subst hc
      exact ⟨_, rfl, _, _, _, _, rfl, rfl, hS, a0, _, rfl, _, _, _, _, rfl, rfl, hS, a1, _, _, rfl, rfl, two_le, k⟩
    have n3 : ¬ c = 115 := fun z => h (by simp [z])
    have hc' : c = 119 := by
      rcases hc with z | z | z | z
      · exact absurd z n1
      · exact z
      · exact absurd z n3
      · exact absurd z n2
    subst hc'
    exact ⟨_, rfl, _, _, _, _, rfl, rfl, hS, a0, _, _, rfl, rfl, _, rfl, _, _, _, _, rfl, rfl, hS, a1, two_le, k⟩
/-! ### places -/
theorem scPlaces : FnScope ["walk", "place", "told", "step"] ["walk"] (defScope sPlaces) := ⟨rfl, rfl, rfl, by decide +kernel, rfl, by decide +kernel, by decide +kernel⟩
theorem ok_places {f fC fS : Addr} {fd fdC fdS : FuncData} (F : Df K mg "places" sPlaces ["walk"] f fd) (X : Txt K mg) (C : Df K mg "check_walk" sCheckWalk ["walk"] fC fdC) (S : Df K mg "stepped" sStepped ["place", "step"] fS fdS) :
    FnOk P w K mg base CX0 2 f fd ["walk"] spPlaces := by
  have GC : FnOk P w K mg base CX0 1 fC fdC ["walk"] spCheckWalk := ok_check_walk C X
  have GS : FnOk P w K mg base CX0 1 fS fdS ["place", "step"] (spStepped K) := ok_stepped S
  refine F.fn.ok scPlaces (fun vs H Q E h => ?_) (fun cdv A outer s H vs Q E hr h => ?_)
  · obtain ⟨l, rfl, _⟩ := h
    rfl
  · obtain ⟨l, rfl, hl, hz, k⟩ := h
    refine ⟨_, pss_cons (ps_expr (pe_call GC hr rfl C.at_ C.fn.kp C.bi .nil pass0 (pa_cons (pv 0) pa_nil)))
      (pss_cons (ps_set (i := 1) scPlaces.nd rfl (Or.inl rfl) (pe_tup (pa_cons pe_int (pa_cons pe_int pa_nil))))
      (pss_cons (ps_set (i := 2) scPlaces.nd rfl (Or.inl rfl) (pe_lst (pa_cons (pv 1) pa_nil)))
      (pss_cons (ps_for PassesOwn.never rfl (pi_str (pv 0)) (pg_name (i := 3) scPlaces.nd rfl (Or.inl rfl))
        (pss_cons (ps_set (i := 1) scPlaces.nd rfl (Or.inl rfl) (pe_call GS hr rfl S.at_ S.fn.kp S.bi .nil pass0 (pa_cons (pv 1) (pa_cons (pv 3) pa_nil))))
        (pss_one (ps_expr (pe_bm PySem.F.plainAttrs_list PySem.F.slot_list_append PySem.F.type_list_append mt_append (pv 2) (pa_cons (pv 1) pa_nil))))))
      (pss_one (ps_ret (pv 2)))))), ?_⟩
    refine ⟨_, rfl, l, rfl, hl, ?_⟩
    refine ⟨two_le, fun p hp => ?_⟩
    refine ⟨_, rfl, (by show 1 ≤ sizeLine; decide), fun d hd => ?_⟩
    have hpd : p ≠ d := fun z => by rw [z, upd_same] at hd; cases hd
    have hd0 : H d = none := by rw [upd_ne (Ne.symm hpd)] at hd; exact hd
    refine ⟨_, rfl, l, rfl, for_str (l := l) (fun i σ H' => ∃ (as : List Addr) (q : Addr) (v : Option V), σ = [some (.str (T l)), some (.ref q), some (.ref d), v] ∧ Same H H' ∧ H' d = some (.lst (as.map V.ref)) ∧
      Tups H' as (placesP (0, 0) (l.take i)) ∧ H' q = some (.tup [.int (posOf (l.take i)).1, .int (posOf (l.take i)).2])) ?_ ?_ ?_⟩
    · refine ⟨[p], p, none, rfl, ?_, upd_same, ?_, ?_⟩
      · intro b o e
        rw [upd_ne (ne_of_none e hd0), upd_ne (ne_of_none e hp)]
        exact e
      · exact .cons (by rw [upd_ne hpd, upd_same] <;> rfl) .nil
      · rw [upd_ne hpd, upd_same]
        rfl
    · rintro i c σ H' hc ⟨as, q, v, rfl, s1, h1, h2, h3⟩
      have hlt : Lt c := hl c (List.mem_of_getElem? hc)
      have hil : i < l.length := (List.getElem?_eq_some_iff.mp hc).1
      have hlen : as.length = i + 1 := by
        have e := Paired.length h2
        rw [placesP_length, List.length_take] at e
        (first | lia | omega)
      refine ⟨_, rfl, _, rfl, q, posOf (l.take i), c, rfl, hlt, SqT.of h3, fun b hb => ?_⟩
      have hbd : d ≠ b := ne_of_none h1 hb
      have h1' : ∀ o, upd H' b o d = some (.lst (as.map V.ref)) := fun o => by rw [upd_ne hbd]; exact h1
      refine ⟨_, rfl, .inl ⟨rfl, _, SqL.of (h1' _)⟩, _, rfl, d, _, _, rfl, rfl, h1' _, ?_, ?_⟩
      · rw [List.length_map, hlen]
        have e : sizeLine = 16777216 := PySem.sizeLine_eq
        (first | lia | omega)
      have et : l.take (i + 1) = l.take i ++ [c] := by rw [List.take_add_one, hc]; rfl
      refine ⟨as ++ [b], b, _, rfl, ?_, ?_, ?_, ?_⟩
      · intro x o e
        have hxb : x ≠ b := ne_of_none (s1 _ _ e) hb
        have hxd : x ≠ d := ne_of_none e hd0
        rw [upd_ne hxd, upd_ne hxb]
        exact s1 _ _ e
      · rw [upd_same, List.map_append]
        rfl
      · rw [et, placesP_snoc]
        refine Paired.snoc (h2.mono fun x xs e => ?_) ?_
        · have hxb : x ≠ b := ne_of_none e hb
          have hxd : x ≠ d := ne_of e h1 (by intro z; cases z)
          rw [upd_ne hxd, upd_ne hxb]
          exact e
        · rw [upd_ne (Ne.symm hbd), upd_same]
          rfl
      · rw [upd_ne (Ne.symm hbd), upd_same, et]
        show some (HO.tup [.int (stepP (posOf (l.take i)) c).1, .int (stepP (posOf (l.take i)) c).2]) = some (HO.tup [.int (goP (0, 0) (l.take i ++ [c])).1, .int (goP (0, 0) (l.take i ++ [c])).2])
        rw [goP_snoc]
        rfl
    · rintro σ H' ⟨as, q, v, rfl, s1, h1, h2, h3⟩
      rw [List.take_of_length_le (Nat.le_refl _)] at h2
      exact ⟨_, rfl, k d H' hd0 s1 ⟨as, h1, h2⟩⟩
/-! ### counted_places -/
theorem scCountedPlaces : FnScope ["walk", "told"] ["walk"] (defScope sCountedPlaces) := ⟨rfl, rfl, rfl, by decide +kernel, rfl, by decide +kernel, by decide +kernel⟩
theorem ok_counted_places {f fP : Addr} {fd fdP : FuncData} (F : Df K mg "counted_places" sCountedPlaces ["walk"] f fd) (hlen : mg "len" = none) (Pl : Df K mg "places" sPlaces ["walk"] fP fdP) (GP : FnOk P w K mg base CX0 2 fP fdP ["walk"] spPlaces) : FnOk P w K mg base CX0 3 f fd ["walk"] spCounted := by
  refine F.fn.ok scCountedPlaces (fun vs H Q E h => ?_) (fun cdv A outer s H vs Q E hr h => ?_)
  · obtain ⟨l, rfl, _⟩ := h
    rfl
  · obtain ⟨l, rfl, hl, hz, k⟩ := h
    have esz : sizeLine = 16777216 := PySem.sizeLine_eq
    refine ⟨_, pss_cons (ps_set (i := 1) scCountedPlaces.nd rfl (Or.inl rfl) (pe_call GP hr rfl Pl.at_ Pl.fn.kp Pl.bi .nil pass0 (pa_cons (pv 0) pa_nil)))
      (pss_cons (ps_if (PW.pt (pw_and (pt_cmpR op_gt (pe_callB call_len_str rfl hlen PySem.boot_len (pa_cons (pv 0) pa_nil)) pe_int (nomark _))
        (pw_and1 (pt_cmpR (op_eqD hr.units) (pe_ix ix_list (pv 1) (pe_un un_neg pe_int) (fun _ _ => rfl)) (pe_ix ix_list (pv 1) pe_int (fun _ _ => rfl)) (nomark _))))) (pss_one (ps_expr (pe_bm0 PySem.F.plainAttrs_list PySem.F.slot_list_pop PySem.F.type_list_pop mt_pop (pv 1)))) pss_nil)
      (pss_one (ps_ret (pv 1)))), ?_⟩
    refine ⟨_, rfl, l, rfl, hl, hz, fun d H1 hd s1 hP => ?_⟩
    refine ⟨_, rfl, _, rfl, (by rw [T_len]; (first | lia | omega)), _, _, rfl, rfl, _, rfl, ?_⟩
    rw [T_len]
    by_cases hne : l = []
    · subst hne
      refine iteF (iteF ?_)
      have e : cntP [] = plOf [] := by unfold cntP; rw [if_neg fun z => z.1 rfl]
      rw [← e] at hP
      exact ⟨_, rfl, k d H1 hd s1 hP⟩
    have hpos : 0 < l.length := List.length_pos_iff.mpr hne
    have ed : decide ((l.length : Int) > 0) = true := decide_eq_true (by (first | lia | omega))
    change if decide ((l.length : Int) > 0) = true then _ else _
    rw [ed]
    refine iteT ?_
    obtain ⟨as, h1, h2⟩ := id hP
    obtain ⟨pre, ep⟩ := placesP_last l (0, 0)
    obtain ⟨as', q, eas, hq⟩ : ∃ as' q, as = as' ++ [q] ∧ H1 q = some (.tup [.int (posOf l).1, .int (posOf l).2]) := by
      unfold plOf at h2
      rw [ep] at h2
      exact tups_last h2
    have atq : atI (as.map V.ref) (-1) = some (V.ref q) := by
      rw [eas, List.map_append]
      exact atI_last _ _
    obtain ⟨xs0, a0, hx0, ha0, hta⟩ := hP.at (K := K) (i := 0) (Nat.zero_le _)
    rw [List.take_zero] at hta
    obtain ⟨q0, eq0, hq0⟩ : ∃ q0, (as.map V.ref)[0]? = some (V.ref q0) ∧ H1 q0 = some (.tup [.int 0, .int 0]) := by
      obtain ⟨a, h3, h4⟩ := tups_at h2 (plOf_get (l := l) (i := 0) (Nat.zero_le _))
      exact ⟨a, h3, h4⟩
    refine ⟨_, rfl, _, rfl, d, _, _, _, rfl, rfl, SqL.of h1, atq, _, rfl, d, _, _, _, rfl, rfl, SqL.of h1, (by have := atI_nat eq0; simpa using this), ?_⟩
    refine ⟨_, _, dat_pt hq, dat_pt (p := (0, 0)) hq0, shaped_pt _, shaped_pt _, _, rfl, ?_⟩
    rw [eqv_pt]
    refine ite2 (fun h => ?_) (fun h => ?_)
    · have hc : posOf l = (0, 0) := of_decide_eq_true h
      have em : as.map V.ref = as'.map V.ref ++ [V.ref q] := by rw [eas, List.map_append]; rfl
      refine ⟨_, rfl, .inl ⟨rfl, _, SqL.of h1⟩, d, as.map V.ref, V.ref q, rfl, rfl, h1, ?_, ?_⟩
      · rw [em, List.length_append, List.length_singleton, Nat.add_sub_cancel, List.getElem?_append_right (Nat.le_refl _), Nat.sub_self]
        rfl
      have edl : (as.map V.ref).dropLast = as'.map V.ref := by rw [em, List.dropLast_concat]
      rw [edl]
      have e : cntP l = (plOf l).dropLast := by unfold cntP; rw [if_pos ⟨hne, hc⟩]
      have tl : TSame H1 (upd H1 d (.lst (as'.map V.ref))) := tsame_lst h1
      refine ⟨_, rfl, k d _ hd (same_upd hd s1) ⟨as', upd_same, ?_⟩⟩
      rw [e]
      have := tups_dropLast h2
      rw [eas, List.dropLast_concat] at this
      exact tups_mono this tl
    · have hc : ¬ posOf l = (0, 0) := fun z => h (decide_eq_true z)
      have e : cntP l = plOf l := by unfold cntP; rw [if_neg fun z => hc z.2]
      rw [← e] at hP
      exact ⟨_, rfl, k d H1 hd s1 hP⟩
/-! ### rises -/
theorem scRises : FnScope ["listed"] ["listed"] (defScope sRises) := ⟨rfl, rfl, rfl, by decide +kernel, rfl, by decide +kernel, by decide +kernel⟩
theorem cutV_tail1 (xs : List V) : cutV xs (some 1) none = xs.drop 1 := by
  unfold cutV
  rw [show (1 : Int) = ((1 : Nat) : Int) from rfl, HT.sIx_nat, HT.sIx_none]
  cases xs with
  | nil => rfl
  | cons a r =>
    rw [Nat.min_eq_left (by rw [List.length_cons]; (first | lia | omega))]
    exact List.take_of_length_le (by rw [List.length_drop]; exact Nat.le_refl _)
theorem ok_rises {f : Addr} {fd : FuncData} (F : Df K mg "rises" sRises ["listed"] f fd) (hall : mg "all" = none) (hzip : mg "zip" = none) : FnOk P w K mg base CX0 1 f fd ["listed"] (spRises K) := by
  refine F.fn.ok scRises (fun vs H Q E h => ?_) (fun cdv A outer s H vs Q E hr h => ?_)
  · obtain ⟨d, as, ps, rfl, _⟩ := h
    rfl
  · obtain ⟨d, as, ps, rfl, hS, hT, hz, hso, k⟩ := h
    have esz : sizeLine = 16777216 := PySem.sizeLine_eq
    have hu := hu_of hr
    refine ⟨_, pss_one (ps_ret (pe_callB (call_all rfl) rfl hall PyProof.Rows.boot_all (pa_cons (pe_comp (M := ["one", "following"]) rfl (compSc_of ["listed"] (defScope sRises) rfl rfl (by decide +kernel)) (pi_zipLL rfl hzip (pa_cons (pv 0) (pa_cons (pe_slice sl_list (pv 0) (po_some pe_int) po_none) pa_nil)))
      (fun _ _ _ _ => pg_tup (n := 2) rfl (pgs_cons (pg_name (i := 1) (nd_of ["listed", "one", "following"] rfl (by decide +kernel)) rfl (Or.inl rfl)) (pgs_cons (pg_name (i := 2) (nd_of ["listed", "one", "following"] rfl (by decide +kernel)) rfl (Or.inl rfl)) pgs_nil))) (fun _ _ _ _ => pts_nil)
      (fun _ _ _ _ => pe_cmpR (op_ltT (Nat.lt_of_succ_lt hu)) (pv 1) (pv 2) (nomark _))) pa_nil))), ?_⟩
    have hlen : as.length = ps.length := Paired.length hT
    refine ⟨_, rfl, _, rfl, _, rfl, d, _, rfl, hS, fun e he => ?_⟩
    rw [cutV_tail1]
    have s1 := same_new (o := .lst ((as.map V.ref).drop 1)) he
    have h1 : upd H e (.lst ((as.map V.ref).drop 1)) e = some (.lst ((as.map V.ref).drop 1)) := upd_same
    generalize upd H e (.lst ((as.map V.ref).drop 1)) = H1 at *
    refine ⟨d, e, rfl, ⟨_, s1.seq hS⟩, ⟨_, SqL.of h1⟩, ?_⟩
    refine comp_zip (K := K) (xs := as.map V.ref) (ys := (as.map V.ref).drop 1) (fun i => .bl (ltP (ps.getD i (0, 0)) (ps.getD (i + 1) (0, 0)))) rfl (by rw [List.length_drop, List.length_map]; (first | lia | omega)) (fun H2 s2 => s2.seq (s1.seq hS)) (fun H2 s2 => s2.seq (SqL.of h1)) (fun _ _ _ _ i u v hu' hv H3 R s3 kk => ?_) (fun D H2 hD s2 hDl => ?_)
    · obtain ⟨a, ha, rfl⟩ := map_ref_get hu'
      rw [List.getElem?_drop, Nat.add_comm] at hv
      obtain ⟨b, hb, rfl⟩ := map_ref_get hv
      obtain ⟨p, hp, hta⟩ := paired_get hT ha
      obtain ⟨q, hq, htb⟩ := paired_get hT hb
      refine ⟨_, rfl, _, rfl, a, b, [p.1, p.2], [q.1, q.2], rfl, rfl, SqT.of (s3 _ _ (s1 _ _ hta)), SqT.of (s3 _ _ (s1 _ _ htb)), ?_⟩
      rw [lexLt_pt]
      have := kk H3 (Same.refl _)
      have e1 : ps.getD i (0, 0) = p := by rw [List.getD_eq_getElem?_getD, hp]; rfl
      have e2 : ps.getD (i + 1) (0, 0) = q := by rw [List.getD_eq_getElem?_getD, hq]; rfl
      rw [e1, e2] at this
      exact this
    · have em : min (as.map V.ref).length ((as.map V.ref).drop 1).length = ps.length - 1 := by
        rw [List.length_drop, List.length_map]
        (first | lia | omega)
      rw [em] at hDl
      have hDl' : H2 D = some (.lst (((List.range (ps.length - 1)).map fun i => ltP (ps.getD i (0, 0)) (ps.getD (i + 1) (0, 0))).map V.bl)) := by
        rw [hDl, List.map_map]
        rfl
      refine ⟨D, _, rfl, SqL.of hDl', ?_⟩
      have eall : ((List.range (ps.length - 1)).map fun i => ltP (ps.getD i (0, 0)) (ps.getD (i + 1) (0, 0))).all id = decide ps.Nodup := by
        have hiff := rises_iff hso
        by_cases nd : ps.Nodup
        · rw [decide_eq_true nd, List.all_eq_true]
          intro b hb
          obtain ⟨i, hi, rfl⟩ := List.mem_map.mp hb
          rw [List.mem_range] at hi
          have g1 : ps[i]? = some ps[i] := List.getElem?_eq_getElem (by (first | lia | omega))
          have g2 : ps[i + 1]? = some ps[i + 1] := List.getElem?_eq_getElem (by (first | lia | omega))
          have := hiff.mpr nd i _ _ g1 g2
          rw [List.getD_eq_getElem?_getD, List.getD_eq_getElem?_getD, g1, g2]
          exact this
        · rw [decide_eq_false nd]
          cases ha : ((List.range (ps.length - 1)).map fun i => ltP (ps.getD i (0, 0)) (ps.getD (i + 1) (0, 0))).all id with
          | false => rfl
          | true =>
            exfalso
            refine nd (hiff.mp fun i a b ga gb => ?_)
            have hlt : i + 1 < ps.length := (List.getElem?_eq_some_iff.mp gb).1
            rw [List.all_eq_true] at ha
            have := ha _ (List.mem_map.mpr ⟨i, List.mem_range.mpr (by (first | lia | omega)), rfl⟩)
            rw [List.getD_eq_getElem?_getD, List.getD_eq_getElem?_getD, ga, gb] at this
            exact this
      rw [eall]
      exact k H2 (s1.trans s2)
/-! ### end -/
theorem scEnd : FnScope ["walk"] ["walk"] (defScope sEnd) := ⟨rfl, rfl, rfl, by decide +kernel, rfl, by decide +kernel, by decide +kernel⟩
theorem ok_end {f fC : Addr} {fd fdC : FuncData} (F : Df K mg "end" sEnd ["walk"] f fd) (X : Txt K mg) (C : Df K mg "check_walk" sCheckWalk ["walk"] fC fdC) : FnOk P w K mg base CX0 2 f fd ["walk"] spEnd := by
  have GC : FnOk P w K mg base CX0 1 fC fdC ["walk"] spCheckWalk := ok_check_walk C X
  refine F.fn.ok scEnd (fun vs H Q E h => ?_) (fun cdv A outer s H vs Q E hr h => ?_)
  · obtain ⟨l, rfl, _⟩ := h
    rfl
  · obtain ⟨l, rfl, hl, k⟩ := h
    refine ⟨_, pss_cons (ps_expr (pe_call GC hr rfl C.at_ C.fn.kp C.bi .nil pass0 (pa_cons (pv 0) pa_nil)))
      (pss_one (ps_ret (pe_tup (pa_cons (pe_op op_sub (pe_bm PySem.F.plainAttrs_str PySem.F.slot_str_count PySem.F.type_str_count mt_count (pv 0) (pa_cons pe_str pa_nil)) (pe_bm PySem.F.plainAttrs_str PySem.F.slot_str_count PySem.F.type_str_count mt_count (pv 0) (pa_cons pe_str pa_nil)))
        (pa_cons (pe_op op_sub (pe_bm PySem.F.plainAttrs_str PySem.F.slot_str_count PySem.F.type_str_count mt_count (pv 0) (pa_cons pe_str pa_nil)) (pe_bm PySem.F.plainAttrs_str PySem.F.slot_str_count PySem.F.type_str_count mt_count (pv 0) (pa_cons pe_str pa_nil))) pa_nil))))), ?_⟩
    refine ⟨_, rfl, l, rfl, hl, ?_⟩
    refine ⟨_, rfl, rfl, l, 101, rfl, by rw [lit_e], _, rfl, rfl, l, 119, rfl, by rw [lit_w], _, _, rfl, rfl, _, rfl, rfl, l, 110, rfl, by rw [lit_n], _, rfl, rfl, l, 115, rfl, by rw [lit_s], _, _, rfl, rfl, two_le, ?_⟩
    intro b hb
    have e := posOf_cnt hl
    have := k b hb
    rw [e] at this
    rw [cntL_eq, cntL_eq, cntL_eq, cntL_eq]
    exact this
/-! ### is_closed -/
theorem scIsClosed : FnScope ["walk"] ["walk"] (defScope sIsClosed) := ⟨rfl, rfl, rfl, by decide +kernel, rfl, by decide +kernel, by decide +kernel⟩
def spIsClosed : Sp := fun vs H Q _ => ∃ (l : List Nat), vs = [.str (T l)] ∧ IsW l ∧ ∀ H', Same H H' → Q (.bl (decide (posOf l = (0, 0)))) H'
theorem ok_is_closed {f fC fE : Addr} {fd fdC fdE : FuncData} (F : Df K mg "is_closed" sIsClosed ["walk"] f fd) (X : Txt K mg) (C : Df K mg "check_walk" sCheckWalk ["walk"] fC fdC) (En : Df K mg "end" sEnd ["walk"] fE fdE) :
    FnOk P w K mg base CX0 3 f fd ["walk"] spIsClosed := by
  have GE : FnOk P w K mg base CX0 2 fE fdE ["walk"] spEnd := ok_end En X C
  refine F.fn.ok scIsClosed (fun vs H Q E h => ?_) (fun cdv A outer s H vs Q E hr h => ?_)
  · obtain ⟨l, rfl, _⟩ := h
    rfl
  · obtain ⟨l, rfl, hl, k⟩ := h
    refine ⟨_, pss_one (ps_ret (pe_cmpR (op_eqD hr.units) (pe_call GE hr rfl En.at_ En.fn.kp En.bi .nil pass0 (pa_cons (pv 0) pa_nil)) (pe_tup (pa_cons pe_int (pa_cons pe_int pa_nil))) (nomark _))), ?_⟩
    refine ⟨_, rfl, l, rfl, hl, fun b hb => ⟨two_le, fun c hc => ?_⟩⟩
    have hbc : b ≠ c := fun z => by rw [z, upd_same] at hc; cases hc
    refine ⟨_, _, dat_pt (p := posOf l) (by rw [upd_ne hbc, upd_same]), dat_pt (p := (0, 0)) upd_same, shaped_pt _, shaped_pt _, ?_⟩
    rw [eqv_pt]
    refine k _ fun x o e => ?_
    rw [upd_ne, upd_ne (ne_of_none e hb)]
    · exact e
    · refine ne_of_none (H := upd H b (.tup [.int (posOf l).1, .int (posOf l).2])) (o := o) ?_ hc
      rw [upd_ne (ne_of_none e hb)]
      exact e
/-! ### Simple.__init__ -/
theorem scSimpleInit : FnScope ["self", "places"] ["self", "places"] (defScope sSimpleInit) := ⟨rfl, rfl, rfl, by decide +kernel, rfl, by decide +kernel, by decide +kernel⟩
theorem ok_simple_init {f Cs : Addr} {fd : FuncData} (F : Mf K "__init__" "Simple.__init__" sSimpleInit ["self", "places"] f fd) (hlst : mg "list" = none) (cl : Cls K Cs) (nP : NoAttr K Cs "places") : FnOk P w K mg base CX0 1 f fd ["self", "places"] (spSimpInit K Cs) := by
  refine F.fn.ok scSimpleInit (fun vs H Q E h => ?_) (fun cdv A outer s H vs Q E hr h => ?_)
  · obtain ⟨p, dx, a, xs, rfl, _⟩ := h
    rfl
  · obtain ⟨p, dx, a, xs, rfl, hp, ha, k⟩ := h
    refine ⟨_, pss_one (ps_fld (pv 0) (pe_callTy call_list_of rfl hlst PyProof.Rows.boot_list (pa_cons (pv 1) pa_nil)) rfl), ?_⟩
    refine ⟨_, rfl, a, xs, rfl, .inl ha, fun d hd => ?_⟩
    have npd : p ≠ d := ne_of_none hp hd
    exact ⟨_, rfl, p, Cs, dx, [], rfl, (by rw [upd_ne npd]; exact hp), cl, nP, (by show 0 < 1000; decide), k d hd⟩
/-! ### Twice.__init__ -/
theorem scTwiceInit : FnScope ["self", "first", "second"] ["self", "first", "second"] (defScope sTwiceInit) := ⟨rfl, rfl, rfl, by decide +kernel, rfl, by decide +kernel, by decide +kernel⟩
theorem ok_twice_init {f Ct : Addr} {fd : FuncData} (F : Mf K "__init__" "Twice.__init__" sTwiceInit ["self", "first", "second"] f fd) (cl : Cls K Ct) (nF : NoAttr K Ct "first") (nS : NoAttr K Ct "second") : FnOk P w K mg base CX0 1 f fd ["self", "first", "second"] (spTwInit Ct) := by
  refine F.fn.ok scTwiceInit (fun vs H Q E h => ?_) (fun cdv A outer s H vs Q E hr h => ?_)
  · obtain ⟨p, dx, i, j, rfl, _⟩ := h
    rfl
  · obtain ⟨p, dx, i, j, rfl, hp, k⟩ := h
    refine ⟨_, pss_cons (ps_fld (pv 0) (pv 1) rfl) (pss_one (ps_fld (pv 0) (pv 2) rfl)), ?_⟩
    exact ⟨_, rfl, _, rfl, p, Ct, dx, [], rfl, hp, cl, nF, (by show 0 < 1000; decide), _, rfl, _, rfl, p, Ct, dx, _, rfl, upd_same, cl, nS, (by show 1 < 1000; decide), k⟩
/-! ### Simple.shows -/
theorem scSimpleShows : FnScope ["self", "walk", "come_to"] ["self", "walk"] (defScope sSimpleShows) := ⟨rfl, rfl, rfl, by decide +kernel, rfl, by decide +kernel, by decide +kernel⟩
theorem eqv_pls' : ∀ ps qs : List Pt, PyData.eqvAll (ps.map ptD) (qs.map ptD) = decide (ps = qs)
  | [], [] => rfl
  | [], _ :: _ => rfl
  | _ :: _, [] => rfl
  | p :: ps, q :: qs => by
    show (PyData.eqv (ptD p) (ptD q) && PyData.eqvAll (ps.map ptD) (qs.map ptD)) = _
    rw [eqv_pls' ps qs, show PyData.eqv (ptD p) (ptD q) = decide (p = q) from eqv_pt p q]
    by_cases h1 : p = q
    · by_cases h2 : ps = qs
      · rw [decide_eq_true h1, decide_eq_true h2, decide_eq_true (by rw [h1, h2])]
        rfl
      · rw [decide_eq_false h2, decide_eq_false (p := p :: ps = q :: qs) (fun z => h2 (List.cons.inj z).2), Bool.and_false]
    · rw [decide_eq_false h1, decide_eq_false (p := p :: ps = q :: qs) (fun z => h1 (List.cons.inj z).1), Bool.false_and]
theorem eqv_plist (ps qs : List Pt) : PyData.eqv (.list (ps.map ptD)) (.list (qs.map ptD)) = decide (ps = qs) := by
  have e := eqv_pls' ps qs
  simp only [PyData.eqv]
  exact e
theorem ok_simple_shows {f fC fR fP Cs : Addr} {fd fdC fdR fdP : FuncData} (F : Mf K "shows" "Simple.shows" sSimpleShows ["self", "walk"] f fd) (hsrt : mg "sorted" = none) (hall : mg "all" = none) (cl : Cls K Cs) (nP : NoAttr K Cs "places")
    (Cp : Df K mg "counted_places" sCountedPlaces ["walk"] fC fdC) (GC : FnOk P w K mg base CX0 3 fC fdC ["walk"] spCounted) (Ri : Df K mg "rises" sRises ["listed"] fR fdR) (GR : FnOk P w K mg base CX0 1 fR fdR ["listed"] (spRises K))
    (Ip : Df K mg "is_pair" sIsPair ["value"] fP fdP) (GP : FnOk P w K mg base CX0 2 fP fdP ["value"] (spIsPair K)) : FnOk P w K mg base CX0 4 f fd ["self", "walk"] (spSimpShows Cs) := by
  refine F.fn.ok scSimpleShows (fun vs H Q E h => ?_) (fun cdv A outer s H vs Q E hr h => ?_)
  · obtain ⟨p, l, ps, rfl, _⟩ := h
    rfl
  · obtain ⟨p, l, ps, rfl, hSm, hpz, hl, hz, k⟩ := h
    have esz : sizeLine = 16777216 := PySem.sizeLine_eq
    have hr1 : Room 1 _ := hr.mono (by decide)
    have hr2 : Room 2 _ := hr.mono (by decide)
    refine ⟨_, pss_cons (ps_set (i := 2) scSimpleShows.nd rfl (Or.inl rfl) (pe_callB call_sortedPt rfl hsrt PyProof.Rows.boot_sorted (pa_cons (pe_call GC hr rfl Cp.at_ Cp.fn.kp Cp.bi .nil pass0 (pa_cons (pv 1) pa_nil)) pa_nil)))
      (pss_cons (ps_if (PW.pt (pw_or (pt_cmpR (op_neD hr.units) (pe_fld (pv 0) rfl) (pv 2) (nomark _)) (pw_or1 (pt_not (pt_val (pe_call GR hr1 rfl Ri.at_ Ri.fn.kp Ri.bi .nil pass0 (pa_cons (pv 2) pa_nil))))))) (pss_one (ps_ret pe_bl)) pss_nil)
      (pss_one (ps_ret (pe_callB (call_all rfl) rfl hall PyProof.Rows.boot_all (pa_cons (pe_comp (M := ["place"]) rfl (compSc_of ["self", "walk", "come_to"] (defScope sSimpleShows) rfl rfl (by decide +kernel)) (pi_list (pe_fld (pv 0) rfl)) (fun _ _ _ _ => pg_name (i := 3) (nd_of ["self", "walk", "come_to", "place"] rfl (by decide +kernel)) rfl (Or.inl rfl)) (fun _ _ _ _ => pts_nil)
        (fun _ _ _ _ => pe_call GP hr2 rfl Ip.at_ Ip.fn.kp Ip.bi .nil pass0 (pa_cons (pv 3) pa_nil))) pa_nil))))), ?_⟩
    refine ⟨_, rfl, l, rfl, hl, hz, fun c H1 hc s1 hPl => ?_⟩
    obtain ⟨cs, hc1, hc2⟩ := hPl
    refine ⟨c, cs, cntP l, rfl, SqL.of hc1, hc2, fun e as' ps' he hpe hT' hpp hso => ?_⟩
    have s2 := same_new (o := .lst (as'.map V.ref)) he
    have h2 : upd H1 e (.lst (as'.map V.ref)) e = some (.lst (as'.map V.ref)) := upd_same
    change gName _ _ _ (upd H1 e (.lst (as'.map V.ref))) _
    have hT2 : Tups (upd H1 e (.lst (as'.map V.ref))) as' ps' := tups_mono hT' s2.tup
    generalize upd H1 e (.lst (as'.map V.ref)) = H2 at *
    have es : ps' = srtP (cntP l) := srtP_eq hpp hso
    have s12 : Same H H2 := s1.trans s2
    obtain ⟨dx, d, as, hp, hd, hT⟩ := hSm.same s12
    have hlk : (fsS d).lookup ("places" : Str) = some (.ref d) := rfl
    refine ⟨_, rfl, p, Cs, dx, _, _, rfl, hp, cl, nP, hlk, _, rfl, ?_⟩
    refine ⟨_, _, dat_pl (ps := ps) ⟨as, hd, hT⟩, dat_pl (ps := ps') ⟨as', h2, hT2⟩, shaped_pl _, shaped_pl _, _, rfl, ?_⟩
    rw [eqv_plist]
    have hcl := cntP_length l
    refine ite2 (fun h => ?_) (fun h => ?_)
    · have hne : ¬ ps = ps' := fun z => by
        rw [decide_eq_true z] at h
        cases h
      refine iteT ?_
      have e0 : decide (ps = srtP (cntP l) ∧ (cntP l).Nodup) = false := decide_eq_false fun z => hne (by rw [es]; exact z.1)
      have := k H2 s12
      rw [e0] at this
      exact this
    have heq : ps = ps' := by
      by_cases z : ps = ps'
      · exact z
      · exact absurd (by rw [decide_eq_false z]; rfl) h
    refine ⟨_, rfl, e, as', ps', rfl, SqL.of h2, hT2, (by rw [hpp.length_eq]; (first | lia | omega)), hso, fun H3 s3 => ⟨_, rfl, ?_⟩⟩
    have end_ : ps'.Nodup ↔ (cntP l).Nodup := hpp.nodup_iff
    by_cases nd : ps'.Nodup
    · rw [decide_eq_true nd]
      refine iteF ?_
      have s13 : Same H H3 := s12.trans s3
      obtain ⟨dx', d', as3, hp', hd', hT3⟩ := hSm.same s13
      refine ⟨_, rfl, p, Cs, dx', _, _, rfl, hp', cl, nP, rfl, d', rfl, ⟨_, SqL.of hd'⟩, ?_⟩
      have hln : as3.length = ps.length := Paired.length hT3
      refine comp_list (K := K) (a := d') (xs := as3.map V.ref) (fun _ => .bl true) rfl (by rw [List.length_map]; (first | lia | omega)) (SqL.of hd') (fun _ _ _ _ i x hx H4 R s4 kk => ?_) (fun D H4 hD s4 hDl => ?_)
      · obtain ⟨a, ha, rfl⟩ := map_ref_get hx
        obtain ⟨q, _, hta⟩ := paired_get hT3 ha
        exact ⟨_, rfl, a, q, rfl, SqT.of (s4 _ _ hta), s4 _ _ hta, kk H4 (Same.refl _)⟩
      · refine ⟨D, (as3.map V.ref).map fun _ => true, rfl, SqL.of (by rw [hDl, List.map_map, List.map_map, List.map_map]; rfl), ?_⟩
        have ea : ((as3.map V.ref).map fun _ => true).all id = true := by
          rw [List.all_eq_true]
          intro b hb
          obtain ⟨_, _, rfl⟩ := List.mem_map.mp hb
          rfl
        rw [ea]
        have e0 : decide (ps = srtP (cntP l) ∧ (cntP l).Nodup) = true := decide_eq_true ⟨heq.trans es, end_.mp nd⟩
        have := k H4 (s13.trans s4)
        rw [e0] at this
        exact this
    · rw [decide_eq_false nd]
      refine iteT ?_
      have e0 : decide (ps = srtP (cntP l) ∧ (cntP l).Nodup) = false := decide_eq_false fun z => nd (end_.mpr z.2)
      have := k H3 (s12.trans s3)
      rw [e0] at this
      exact this
/-! ### Twice.shows -/
theorem scTwiceShows : FnScope ["self", "walk"] ["self", "walk"] (defScope sTwiceShows) := ⟨rfl, rfl, rfl, by decide +kernel, rfl, by decide +kernel, by decide +kernel⟩
theorem cut_two {l : List Nat} {i j : Int} (hi : 0 ≤ i) (hij : i < j) (hj : j ≤ (l.length : Int)) : cutL l (some i) (some j) = (l.drop i.toNat).take (j.toNat - i.toNat) := by
  have e1 : i = ((i.toNat : Nat) : Int) := by (first | lia | omega)
  have e2 : j = ((j.toNat : Nat) : Int) := by (first | lia | omega)
  unfold cutL
  rw [e1, e2, HT.sIx_nat, HT.sIx_nat, Nat.min_eq_left (by (first | lia | omega)), Nat.min_eq_left (by (first | lia | omega))]
  rfl
theorem pos_between {l : List Nat} {i j : Nat} (hij : i ≤ j) : posOf ((l.drop i).take (j - i)) = (0, 0) ↔ posOf (l.take i) = posOf (l.take j) := by
  have e : l.take j = l.take i ++ (l.drop i).take (j - i) := by
    have h := List.take_append_drop i (l.take j)
    rw [List.take_take, Nat.min_eq_left hij, List.drop_take] at h
    exact h.symm
  rw [e, posOf_append]
  constructor
  · intro h
    rw [h]
    exact Prod.ext (by show _ = _ + (0 : Int); (first | lia | omega)) (by show _ = _ + (0 : Int); (first | lia | omega))
  · intro h
    have h1 := congrArg Prod.fst h
    have h2 := congrArg Prod.snd h
    dsimp only at h1 h2
    exact Prod.ext (by show _ = (0 : Int); (first | lia | omega)) (by show _ = (0 : Int); (first | lia | omega))
theorem ok_twice_shows {f fC fN fI Ct : Addr} {fd fdC fdN fdI : FuncData} (F : Mf K "shows" "Twice.shows" sTwiceShows ["self", "walk"] f fd) (hlen : mg "len" = none) (cl : Cls K Ct) (nF : NoAttr K Ct "first") (nS : NoAttr K Ct "second")
    (C : Df K mg "check_walk" sCheckWalk ["walk"] fC fdC) (GC : FnOk P w K mg base CX0 1 fC fdC ["walk"] spCheckWalk) (N : Df K mg "is_number" sIsNumber ["value"] fN fdN) (GN : FnOk P w K mg base CX0 1 fN fdN ["value"] spIsNumber)
    (I : Df K mg "is_closed" sIsClosed ["walk"] fI fdI) (GI : FnOk P w K mg base CX0 3 fI fdI ["walk"] spIsClosed) : FnOk P w K mg base CX0 4 f fd ["self", "walk"] (spTwShows Ct) := by
  refine F.fn.ok scTwiceShows (fun vs H Q E h => ?_) (fun cdv A outer s H vs Q E hr h => ?_)
  · obtain ⟨p, l, i, j, rfl, _⟩ := h
    rfl
  · obtain ⟨p, l, i, j, rfl, ⟨dx, hp⟩, hl, hz, k⟩ := h
    have esz : sizeLine = 16777216 := PySem.sizeLine_eq
    have hr1 : Room 1 _ := hr.mono (by decide)
    have kF : (fsT i j).lookup ("first" : Str) = some (.int i) := rfl
    have kS : (fsT i j).lookup ("second" : Str) = some (.int j) := rfl
    have no : ∀ {c : Bool}, c = decide (twice l i j) → ∀ H', Same H H' → Q (.bl c) H' := fun e H' s' => by
      rw [e]
      exact k H' s'
    refine ⟨_, pss_cons (ps_expr (pe_call GC hr1 rfl C.at_ C.fn.kp C.bi .nil pass0 (pa_cons (pv 1) pa_nil)))
      (pss_cons (ps_if (PW.pt (pw_or (pt_not (pt_val (pe_call GN hr1 rfl N.at_ N.fn.kp N.bi .nil pass0 (pa_cons (pe_fld (pv 0) rfl) pa_nil)))) (pw_or1 (pt_not (pt_val (pe_call GN hr1 rfl N.at_ N.fn.kp N.bi .nil pass0 (pa_cons (pe_fld (pv 0) rfl) pa_nil))))))) (pss_one (ps_ret pe_bl)) pss_nil)
      (pss_cons (ps_if (PW.pt (pw_or (pt_cmpR op_lt (pe_fld (pv 0) rfl) pe_int (nomark _)) (pw_or (pt_cmpR op_le (pe_fld (pv 0) rfl) (pe_fld (pv 0) rfl) (nomark _)) (pw_or1 (pt_cmpR op_gt (pe_fld (pv 0) rfl) (pe_callB call_len_str rfl hlen PySem.boot_len (pa_cons (pv 1) pa_nil)) (nomark _)))))) (pss_one (ps_ret pe_bl)) pss_nil)
      (pss_cons (ps_if (PW.pt (pw_and (pt_cmpR op_eq (pe_fld (pv 0) rfl) pe_int (nomark _)) (pw_and1 (pt_cmpR op_eq (pe_fld (pv 0) rfl) (pe_callB call_len_str rfl hlen PySem.boot_len (pa_cons (pv 1) pa_nil)) (nomark _))))) (pss_one (ps_ret pe_bl)) pss_nil)
      (pss_one (ps_ret (pe_call GI hr rfl I.at_ I.fn.kp I.bi .nil pass0 (pa_cons (pe_slice sl_str (pv 1) (po_some (pe_fld (pv 0) rfl)) (po_some (pe_fld (pv 0) rfl))) pa_nil))))))), ?_⟩
    refine ⟨_, rfl, l, rfl, hl, ?_⟩
    -- numbers both
    refine ⟨_, rfl, p, Ct, dx, _, _, rfl, hp, cl, nF, kF, i, rfl, _, rfl, ?_⟩
    refine iteF ?_
    refine ⟨_, rfl, p, Ct, dx, _, _, rfl, hp, cl, nS, kS, j, rfl, _, rfl, ?_⟩
    refine iteF ?_
    -- in order
    refine ⟨_, rfl, p, Ct, dx, _, _, rfl, hp, cl, nF, kF, _, _, rfl, rfl, _, rfl, ?_⟩
    refine ite2 (fun h1 => ?_) (fun h1 => ?_)
    · refine iteT (no ?_ H (Same.refl _))
      have : i < 0 := of_decide_eq_true h1
      exact (decide_eq_false fun z => by have := z.1; (first | lia | omega)).symm
    have g1 : 0 ≤ i := by
      by_cases z : i < 0
      · exact absurd (decide_eq_true z) h1
      · (first | lia | omega)
    refine ⟨_, rfl, p, Ct, dx, _, _, rfl, hp, cl, nS, kS, _, rfl, p, Ct, dx, _, _, rfl, hp, cl, nF, kF, _, _, rfl, rfl, _, rfl, ?_⟩
    refine ite2 (fun h2 => ?_) (fun h2 => ?_)
    · refine iteT (no ?_ H (Same.refl _))
      have : j ≤ i := of_decide_eq_true h2
      exact (decide_eq_false fun z => by have := z.2.1; (first | lia | omega)).symm
    have g2 : i < j := by
      by_cases z : j ≤ i
      · exact absurd (decide_eq_true z) h2
      · (first | lia | omega)
    refine ⟨_, rfl, p, Ct, dx, _, _, rfl, hp, cl, nS, kS, _, rfl, _, rfl, (by rw [T_len]; (first | lia | omega)), _, _, rfl, rfl, _, rfl, ?_⟩
    rw [T_len]
    refine ite2 (fun h3 => ?_) (fun h3 => ?_)
    · refine no ?_ H (Same.refl _)
      have : j > (l.length : Int) := of_decide_eq_true h3
      exact (decide_eq_false fun z => by have := z.2.2.1; (first | lia | omega)).symm
    have g3 : j ≤ (l.length : Int) := by
      by_cases z : j > (l.length : Int)
      · exact absurd (decide_eq_true z) h3
      · (first | lia | omega)
    -- not the first and the last
    refine ⟨_, rfl, p, Ct, dx, _, _, rfl, hp, cl, nF, kF, rfl, _, rfl, ?_⟩
    have last : ¬ (i = 0 ∧ j = (l.length : Int)) → ∀ H', Same H H' → Q (.bl (decide (posOf (cutL l (some i) (some j)) = (0, 0)))) H' := fun g4 H' s' => by
      refine no ?_ H' s'
      rw [cut_two g1 g2 g3]
      have hb := pos_between (l := l) (i := i.toNat) (j := j.toNat) (by (first | lia | omega))
      by_cases z : posOf (l.take i.toNat) = posOf (l.take j.toNat)
      · rw [decide_eq_true (hb.mpr z), decide_eq_true ⟨g1, g2, g3, g4, z⟩]
      · rw [decide_eq_false fun y => z (hb.mp y), decide_eq_false fun y => z y.2.2.2.2]
    have hcut : IsW (cutL l (some i) (some j)) := fun c hc => hl c (List.mem_of_mem_drop (List.mem_of_mem_take hc))
    refine ite2 (fun h4 => ?_) (fun h4 => ?_)
    · have z4 : i = 0 := V.int.inj (of_decide_eq_true h4)
      refine ⟨_, rfl, p, Ct, dx, _, _, rfl, hp, cl, nS, kS, _, rfl, _, rfl, (by rw [T_len]; (first | lia | omega)), rfl, _, rfl, ?_⟩
      rw [T_len]
      refine ite2 (fun h5 => ?_) (fun h5 => ?_)
      · have z5 : j = (l.length : Int) := V.int.inj (of_decide_eq_true h5)
        refine no ?_ H (Same.refl _)
        exact (decide_eq_false fun z => z.2.2.2.1 ⟨z4, z5⟩).symm
      · have g4 : ¬ (i = 0 ∧ j = (l.length : Int)) := fun z => h5 (decide_eq_true (by rw [z.2]))
        refine ⟨_, rfl, _, rfl, p, Ct, dx, _, _, rfl, hp, cl, nF, kF, _, rfl, _, rfl, p, Ct, dx, _, _, rfl, hp, cl, nS, kS, _, rfl, l, rfl, (by (first | lia | omega)), _, rfl, hcut, fun H' s' => last g4 H' s'⟩
    · have g4 : ¬ (i = 0 ∧ j = (l.length : Int)) := fun z => h4 (decide_eq_true (by rw [z.1]))
      refine iteF ?_
      refine ⟨_, rfl, _, rfl, p, Ct, dx, _, _, rfl, hp, cl, nF, kF, _, rfl, _, rfl, p, Ct, dx, _, _, rfl, hp, cl, nS, kS, _, rfl, l, rfl, (by (first | lia | omega)), _, rfl, hcut, fun H' s' => last g4 H' s'⟩
/-! ### _law_walk -/
theorem scLawWalk : FnScope ["_law_cells"] ["_law_cells"] (defScope sLawWalk) := ⟨rfl, rfl, rfl, by decide +kernel, rfl, by decide +kernel, by decide +kernel⟩
theorem ok_law_walk {f : Addr} {fd : FuncData} (F : Df K mg "_law_walk" sLawWalk ["_law_cells"] f fd) : FnOk P w K mg base CX0 1 f fd ["_law_cells"] (spLawWalk K) := by
  refine F.fn.ok scLawWalk (fun vs H Q E h => ?_) (fun cdv A outer s H vs Q E hr h => ?_)
  · obtain ⟨a, ns, rfl, _⟩ := h
    rfl
  · obtain ⟨a, ns, rfl, hS, hz, k⟩ := h
    have esz : sizeLine = 16777216 := PySem.sizeLine_eq
    refine ⟨_, pss_one (ps_ret (pe_bm PySem.F.plainAttrs_str PySem.F.slot_str_join PySem.F.type_str_join mt_join pe_str
        (pa_cons (pe_comp (M := ["_law_cell"]) rfl (compSc_of ["_law_cells"] (defScope sLawWalk) rfl rfl (by decide +kernel)) (pi_list (pv 0)) (fun _ _ _ _ => pg_name (i := 1) (nd_of ["_law_cells", "_law_cell"] rfl (by decide +kernel)) rfl (Or.inl rfl)) (fun _ _ _ _ => pts_nil)
          (fun _ _ _ _ => pe_ix ix_str pe_str (pe_op op_mod (pv 1) pe_int) (fun _ _ => rfl))) pa_nil))), ?_⟩
    refine ⟨rfl, _, rfl, a, rfl, ⟨_, hS⟩, ?_⟩
    refine comp_list (K := K) (a := a) (xs := ns.map V.int) lawV ?_ (by rw [List.length_map]; (first | lia | omega)) hS (fun _ _ _ _ i x hx H3 R s3 kk => ?_) (fun D H' hD s1 hDl => ?_)
    · rfl
    · obtain ⟨z, rfl⟩ : ∃ z, x = V.int z := by
        rw [List.getElem?_map] at hx
        cases e : ns[i]? with
        | none => rw [e] at hx; cases hx
        | some z => rw [e] at hx; exact ⟨z, (Option.some.inj hx).symm⟩
      refine ⟨_, rfl, _, _, rfl, rfl, (by show (0 : Int) < 4; decide), _, _, lawC z, rfl, rfl, ?_, ?_, kk H3 (Same.refl _)⟩
      · rw [lit_nesw, T_len]
        show 4 ≤ sizeLine
        decide
      · rw [lit_nesw, T_list]
        exact law_at z
    · refine ⟨D, (lawW ns).map fun c => [c], by rw [lit_0], rfl, ?_, ?_, ?_⟩
      · refine SqL.of ?_
        rw [hDl]
        unfold lawW
        rw [List.map_map, List.map_map, List.map_map]
        rfl
      · rw [flat_one, lawW_length]
        (first | lia | omega)
      · rw [flat_one]
        exact k H' s1
/-! ### _law_places -/
theorem scLawPlaces : FnScope ["_law_walk_here", "_law_found", "_law_letter", "_law_x", "_law_y", "_law_along", "_law_up"] ["_law_walk_here"] (defScope sLawPlaces) := ⟨rfl, rfl, rfl, by decide +kernel, rfl, by decide +kernel, by decide +kernel⟩
theorem ok_law_places {f : Addr} {fd : FuncData} (F : Df K mg "_law_places" sLawPlaces ["_law_walk_here"] f fd) : FnOk P w K mg base CX0 1 f fd ["_law_walk_here"] spPlaces := by
  refine F.fn.ok scLawPlaces (fun vs H Q E h => ?_) (fun cdv A outer s H vs Q E hr h => ?_)
  · obtain ⟨l, rfl, _⟩ := h
    rfl
  · obtain ⟨l, rfl, hl, hz, k⟩ := h
    have hu := hu_of hr
    have esz : sizeLine = 16777216 := PySem.sizeLine_eq
    refine ⟨_, pss_cons (ps_set (i := 1) scLawPlaces.nd rfl (Or.inl rfl) (pe_lst (pa_cons (pe_tup (pa_cons pe_int (pa_cons pe_int pa_nil))) pa_nil)))
      (pss_cons (ps_for PassesOwn.never rfl (pi_str (pv 0)) (pg_name (i := 2) scLawPlaces.nd rfl (Or.inl rfl))
        (pss_consW (ps_asg (pe_ix ix_list (pv 1) (pe_un un_neg pe_int) (fun _ _ => rfl)) (pg_tup (n := 2) rfl (pgs_cons (pg_name (i := 3) scLawPlaces.nd rfl (Or.inl rfl)) (pgs_cons (pg_name (i := 4) scLawPlaces.nd rfl (Or.inl rfl)) pgs_nil))))
        (pssw_cons (psw_asg (pw_dget hu (pw_disp4 pe_str (pe_tup (pa_cons pe_int (pa_cons pe_int pa_nil))) pe_str (pe_tup (pa_cons pe_int (pa_cons pe_int pa_nil))) pe_str (pe_tup (pa_cons pe_int (pa_cons (pe_un un_neg pe_int) pa_nil))) pe_str (pe_tup (pa_cons (pe_un un_neg pe_int) (pa_cons pe_int pa_nil)))) (pv 2) (fun _ _ => rfl))
            (pg_tup (n := 2) rfl (pgs_cons (pg_name (i := 5) scLawPlaces.nd rfl (Or.inl rfl)) (pgs_cons (pg_name (i := 6) scLawPlaces.nd rfl (Or.inl rfl)) pgs_nil))))
        (pss_one (ps_expr (pe_bm PySem.F.plainAttrs_list PySem.F.slot_list_append PySem.F.type_list_append mt_append (pv 1) (pa_cons (pe_tup (pa_cons (pe_op op_add (pv 3) (pv 5)) (pa_cons (pe_op op_add (pv 4) (pv 6)) pa_nil))) pa_nil)))))))
      (pss_one (ps_ret (pv 1)))), ?_⟩
    refine ⟨two_le, fun p hp => ⟨(by show 1 ≤ sizeLine; decide), fun d hd => ?_⟩⟩
    have hpd : p ≠ d := fun z => by rw [z, upd_same] at hd; cases hd
    have hd0 : H d = none := by rw [upd_ne (Ne.symm hpd)] at hd; exact hd
    refine ⟨_, rfl, l, rfl, for_str (l := l) (fun i σ H' => ∃ (as : List Addr) (v2 v3 v4 v5 v6 : Option V), σ = [some (.str (T l)), some (.ref d), v2, v3, v4, v5, v6] ∧ Same H H' ∧ H' d = some (.lst (as.map V.ref)) ∧
      Tups H' as (placesP (0, 0) (l.take i))) ?_ ?_ ?_⟩
    · refine ⟨[p], none, none, none, none, none, rfl, ?_, upd_same, ?_⟩
      · intro b o e
        rw [upd_ne (ne_of_none e hd0), upd_ne (ne_of_none e hp)]
        exact e
      · exact .cons (by rw [upd_ne hpd, upd_same] <;> rfl) .nil
    · rintro i c σ H' hc ⟨as, v2, v3, v4, v5, v6, rfl, s1, h1, h2⟩
      have hlt : Lt c := hl c (List.mem_of_getElem? hc)
      have hil : i < l.length := (List.getElem?_eq_some_iff.mp hc).1
      have hlen : as.length = i + 1 := by
        have e := Paired.length h2
        rw [placesP_length, List.length_take] at e
        (first | lia | omega)
      -- the last one
      obtain ⟨pre, ep⟩ := placesP_last (l.take i) (0, 0)
      obtain ⟨as', q, rfl, hq⟩ : ∃ as' q, as = as' ++ [q] ∧ H' q = some (.tup [.int (posOf (l.take i)).1, .int (posOf (l.take i)).2]) := by
        rw [ep] at h2
        exact tups_last h2
      refine ⟨_, rfl, _, rfl, d, _, _, _, rfl, rfl, SqL.of h1, ?_, q, _, rfl, SqT.of hq, rfl, _, _, rfl, _, _, rfl, rfl, ?_⟩
      · rw [List.map_append]
        exact atI_last _ _
      -- the vector
      intro dd hdd
      refine ⟨two_le, fun b1 hb1 => ⟨two_le, fun b2 hb2 => ⟨_, rfl, two_le, fun b3 hb3 => ⟨_, rfl, two_le, fun b4 hb4 => ?_⟩⟩⟩⟩
      have sa := same_new (o := .dK []) hdd
      have e0 : upd H' dd (.dK []) dd = some (.dK []) := upd_same
      generalize upd H' dd (.dK []) = Ha at *
      have sb := same_new (o := .tup [.int 0, .int 1]) hb1
      have e1 : upd Ha b1 (.tup [.int 0, .int 1]) b1 = some (.tup [.int 0, .int 1]) := upd_same
      generalize upd Ha b1 (.tup [.int 0, .int 1]) = Hb at *
      have sc := same_new (o := .tup [.int 1, .int 0]) hb2
      have e2 : upd Hb b2 (.tup [.int 1, .int 0]) b2 = some (.tup [.int 1, .int 0]) := upd_same
      generalize upd Hb b2 (.tup [.int 1, .int 0]) = Hc at *
      have sd := same_new (o := .tup [.int 0, .int (-1)]) hb3
      have e3 : upd Hc b3 (.tup [.int 0, .int (-1)]) b3 = some (.tup [.int 0, .int (-1)]) := upd_same
      generalize upd Hc b3 (.tup [.int 0, .int (-1)]) = Hd at *
      have se := same_new (o := .tup [.int (-1), .int 0]) hb4
      have e4 : upd Hd b4 (.tup [.int (-1), .int 0]) b4 = some (.tup [.int (-1), .int 0]) := upd_same
      generalize upd Hd b4 (.tup [.int (-1), .int 0]) = He at *
      have sHe : Same H' He := (((sa.trans sb).trans sc).trans sd).trans se
      have f0 : He dd = some (.dK []) := se _ _ (sd _ _ (sc _ _ (sb _ _ e0)))
      have f1 : He b1 = some (.tup [.int 0, .int 1]) := se _ _ (sd _ _ (sc _ _ e1))
      have f2 : He b2 = some (.tup [.int 1, .int 0]) := se _ _ (sd _ _ e2)
      have f3 : He b3 = some (.tup [.int 0, .int (-1)]) := se _ _ e3
      refine ⟨f0, dirK b1 b2 b3 b4, ?_, by show 4 ≤ 15; decide, ?_⟩
      · unfold dirK
        rw [lit_n, lit_e, lit_s, lit_w]
        rfl
      rw [dir_merge]
      have sHf : Same H' (upd He dd (.dK (dirK b1 b2 b3 b4))) := same_upd hdd sHe
      have g0 : upd He dd (.dK (dirK b1 b2 b3 b4)) dd = some (.dK (dirK b1 b2 b3 b4)) := upd_same
      have gt : ∀ b xs, He b = some (.tup xs) → upd He dd (.dK (dirK b1 b2 b3 b4)) b = some (.tup xs) := fun b xs e => by
        rw [upd_ne (ne_of e f0 (by intro z; cases z))]
        exact e
      have g1 := gt _ _ f1
      have g2 := gt _ _ f2
      have g3 := gt _ _ f3
      have g4 := gt _ _ e4
      generalize upd He dd (.dK (dirK b1 b2 b3 b4)) = Hf at *
      have hv : Hf (dirA b1 b2 b3 b4 c) = some (.tup [.int (vec c).1, .int (vec c).2]) := by
        rcases hlt with rfl | rfl | rfl | rfl
        · exact g1
        · exact g4
        · exact g3
        · exact g2
      refine ⟨_, rfl, dd, _, rfl, by rw [← dir_val hlt]; exact DGet.k (k := Sum.inr (T [c])) g0, _, _, rfl, SqT.of hv, rfl, _, _, rfl, _, _, rfl, rfl, ?_⟩
      -- append
      refine ⟨_, rfl, .inl ⟨rfl, _, SqL.of (sHf _ _ h1)⟩, _, rfl, _, rfl, _, _, rfl, rfl, _, rfl, _, rfl, _, _, rfl, rfl, two_le, fun b5 hb5 => ?_⟩
      have h1f : Hf d = some (.lst ((as' ++ [q]).map V.ref)) := sHf _ _ h1
      have hd5 : d ≠ b5 := ne_of_none h1f hb5
      refine ⟨d, _, _, rfl, rfl, by rw [upd_ne hd5]; exact h1f, ?_, ?_⟩
      · rw [List.length_map, hlen]
        (first | lia | omega)
      have et : l.take (i + 1) = l.take i ++ [c] := by rw [List.take_add_one, hc]; rfl
      refine ⟨as' ++ [q] ++ [b5], _, _, _, _, _, rfl, ?_, ?_, ?_⟩
      · intro x o e
        have ef := sHf _ _ (s1 _ _ e)
        rw [upd_ne (ne_of_none e hd0), upd_ne (ne_of_none ef hb5)]
        exact ef
      · rw [upd_same, List.map_append (l₁ := as' ++ [q])]
        rfl
      · rw [et, placesP_snoc]
        refine Paired.snoc (h2.mono fun x xs e => ?_) ?_
        · have ef := sHf _ _ e
          rw [upd_ne (ne_of ef h1f (by intro z; cases z)), upd_ne (ne_of_none ef hb5)]
          exact ef
        · rw [upd_ne (Ne.symm hd5), upd_same]
          show some (HO.tup [.int ((posOf (l.take i)).1 + (vec c).1), .int ((posOf (l.take i)).2 + (vec c).2)]) = some (HO.tup [.int (stepP (posOf (l.take i)) c).1, .int (stepP (posOf (l.take i)) c).2])
          rw [stepP_vec]
    · rintro σ H' ⟨as, v2, v3, v4, v5, v6, rfl, s1, h1, h2⟩
      rw [List.take_of_length_le (Nat.le_refl _)] at h2
      exact ⟨_, rfl, k d H' hd0 s1 ⟨as, h1, h2⟩⟩
/-! ### _law_turned -/
/-! ### _law_closed -/
theorem scLawClosed : FnScope ["_law_script", "_law_walk_here", "_law_x", "_law_y", "_law_along", "_law_up"] ["_law_script"] (defScope sLawClosed) := ⟨rfl, rfl, rfl, by decide +kernel, rfl, by decide +kernel, by decide +kernel⟩
theorem ok_law_closed {f fW fP : Addr} {fd fdW fdP : FuncData} (F : Df K mg "_law_closed" sLawClosed ["_law_script"] f fd) (W : Df K mg "_law_walk" sLawWalk ["_law_cells"] fW fdW) (Pl : Df K mg "_law_places" sLawPlaces ["_law_walk_here"] fP fdP)
    (habs : mg "abs" = none) (hsum : mg "sum" = none) : FnOk P w K mg base CX0 2 f fd ["_law_script"] (spLawClosed K) := by
  have GW : FnOk P w K mg base CX0 1 fW fdW ["_law_cells"] (spLawWalk K) := ok_law_walk W
  have GP : FnOk P w K mg base CX0 1 fP fdP ["_law_walk_here"] spPlaces := ok_law_places Pl
  refine F.fn.ok scLawClosed (fun vs H Q E h => ?_) (fun cdv A outer s H vs Q E hr h => ?_)
  · obtain ⟨a, ns, rfl, _⟩ := h
    rfl
  · obtain ⟨a, ns, rfl, hS, hz, k⟩ := h
    have esz : sizeLine = 16777216 := PySem.sizeLine_eq
    refine ⟨_, pss_cons (ps_set (i := 1) scLawClosed.nd rfl (Or.inl rfl) (pe_call GW hr rfl W.at_ W.fn.kp W.bi .nil pass0 (pa_cons (pv 0) pa_nil)))
      (pss_cons (ps_asg (pe_ix ix_list (pe_call GP hr rfl Pl.at_ Pl.fn.kp Pl.bi .nil pass0 (pa_cons (pv 1) pa_nil)) (pe_un un_neg pe_int) (fun _ _ => rfl)) (pg_tup (n := 2) rfl (pgs_cons (pg_name (i := 2) scLawClosed.nd rfl (Or.inl rfl)) (pgs_cons (pg_name (i := 3) scLawClosed.nd rfl (Or.inl rfl)) pgs_nil))))
      (pss_cons (ps_set (i := 4) scLawClosed.nd rfl (Or.inl rfl) (pe_op op_rep_sign (pe_sign (pv 2)) (pe_callB call_abs rfl habs PyProof.Rows.boot_abs (pa_cons (pv 2) pa_nil))))
      (pss_cons (ps_set (i := 5) scLawClosed.nd rfl (Or.inl rfl) (pe_op op_rep_sign (pe_sign (pv 3)) (pe_callB call_abs rfl habs PyProof.Rows.boot_abs (pa_cons (pv 3) pa_nil))))
      (pss_one (ps_ret (pe_ifExp (pt_cmpR op_eq (pe_op op_mod (pe_callB (call_sum rfl) rfl hsum PyProof.Rows.boot_sum (pa_cons (pv 0) pa_nil)) pe_int) pe_int (nomark _))
        (pe_op op_add_str (pe_op op_add_str (pv 1) (pv 5)) (pv 4)) (pe_op op_add_str (pe_op op_add_str (pv 1) (pv 4)) (pv 5)))))))), ?_⟩
    have hl := isW_lawW ns
    have hll := lawW_length ns
    have hb := posOf_bound (lawW ns)
    refine ⟨_, rfl, a, ns, rfl, hS, hz, fun H1 s1 => ?_⟩
    refine ⟨_, rfl, _, rfl, hl, by (first | lia | omega), fun d H2 hd s2 hP => ?_⟩
    obtain ⟨as, h1, h2⟩ := hP
    obtain ⟨pre, ep⟩ := placesP_last (lawW ns) (0, 0)
    obtain ⟨as', q, rfl, hq⟩ : ∃ as' q, as = as' ++ [q] ∧ H2 q = some (.tup [.int (posOf (lawW ns)).1, .int (posOf (lawW ns)).2]) := by
      unfold plOf at h2
      rw [ep] at h2
      exact tups_last h2
    refine ⟨_, rfl, d, _, _, _, rfl, rfl, SqL.of h1, ?_, q, _, rfl, SqT.of hq, rfl, _, _, rfl, _, _, rfl, rfl, ?_⟩
    · rw [List.map_append]
      exact atI_last _ _
    generalize hx : (posOf (lawW ns)).1 = x at *
    generalize hy : (posOf (lawW ns)).2 = y at *
    refine ⟨x, rfl, _, rfl, x, rfl, if 0 < x then 119 else 101, _, ?_, rfl, by rw [abs_nat]; (first | lia | omega), by rw [abs_nat]; (first | lia | omega), ?_⟩
    · split
      · rw [lit_w]
      · rw [lit_e]
    refine ⟨y, rfl, _, rfl, y, rfl, if 0 < y then 115 else 110, _, ?_, rfl, by rw [abs_nat]; (first | lia | omega), by rw [abs_nat]; (first | lia | omega), ?_⟩
    · split
      · rw [lit_s]
      · rw [lit_n]
    have ea : List.replicate (if x < 0 then -x else x).toNat (if 0 < x then 119 else 101) = alongL x := by
      rw [abs_nat]
      rfl
    have eu : List.replicate (if y < 0 then -y else y).toNat (if 0 < y then 115 else 110) = upL y := by
      rw [abs_nat]
      rfl
    rw [ea, eu]
    have la : (alongL x).length = x.natAbs := List.length_replicate ..
    have lu : (upL y).length = y.natAbs := List.length_replicate ..
    have fin := k H2 (s1.trans s2)
    unfold closedL at fin
    rw [hx, hy] at fin
    refine ⟨_, rfl, a, ns, rfl, (s1.trans s2).seq hS, _, _, rfl, rfl, (by show (0 : Int) < 2; decide), rfl, _, rfl, ?_⟩
    rw [dec_int]
    by_cases hev : ns.sum % 2 = 0
    · rw [decide_eq_true hev, if_pos rfl] at fin
      rw [hev]
      refine iteT ?_
      refine ⟨_, rfl, _, rfl, _, _, rfl, rfl, ?_, _, rfl, _, _, rfl, rfl, ?_, ?_⟩
      · rw [T_len, T_len]
        (first | lia | omega)
      · rw [T_app, T_len, T_len, List.length_append]
        (first | lia | omega)
      · rw [T_app, T_app]
        exact fin
    · rw [decide_eq_false hev, if_neg Bool.false_ne_true] at fin
      have e1 : (ns.sum % 2 == 0) = false := by
        cases q : ns.sum % 2 == 0 with
        | false => rfl
        | true => exact absurd (eq_of_beq q) hev
      rw [e1]
      refine iteF ?_
      refine ⟨_, rfl, _, rfl, _, _, rfl, rfl, ?_, _, rfl, _, _, rfl, rfl, ?_, ?_⟩
      · rw [T_len, T_len]
        (first | lia | omega)
      · rw [T_app, T_len, T_len, List.length_append]
        (first | lia | omega)
      · rw [T_app, T_app]
        exact fin
end
end SW

namespace WS
/-! ### i -> 5 i + 1 goes through all of the rests by a power of two -/
def it : Nat → Nat → Nat
  | 0, s => s
  | n + 1, s => it n (5 * s + 1)
theorem it_add : ∀ (n m s : Nat), it (n + m) s = it m (it n s)
  | 0, m, s => by rw [Nat.zero_add]; rfl
  | n + 1, m, s => by
    rw [show n + 1 + m = (n + m) + 1 by (first | lia | omega)]
    show it (n + m) (5 * s + 1) = it m (it n (5 * s + 1))
    exact it_add n m _
def S : Nat → Nat
  | 0 => 0
  | n + 1 => 5 * S n + 1
theorem it_eq : ∀ (n s : Nat), it n s = 5 ^ n * s + S n
  | 0, s => by simp [it, S]
  | n + 1, s => by
    show it n (5 * s + 1) = _
    rw [it_eq n, Nat.pow_succ]
    have h : S (n + 1) = 5 ^ n + S n := by
      clear it_eq
      induction n with
      | zero => rfl
      | succ n ih =>
        show 5 * S (n + 1) + 1 = 5 ^ (n + 1) + (5 * S n + 1)
        rw [ih, Nat.pow_succ]
        (first | lia | omega)
    rw [h, Nat.mul_add, Nat.mul_one, ← Nat.mul_assoc]
    (first | lia | omega)
theorem S_add (n m : Nat) : S (n + m) = 5 ^ m * S n + S m := by
  have h1 := it_eq (n + m) 0
  have h2 := it_add n m 0
  rw [it_eq n 0, it_eq m] at h2
  simp only [Nat.mul_zero, Nat.zero_add] at h1 h2
  (first | lia | omega)
/-- 5 to a power of two: one more than a multiple of four times it -/
theorem five_pow : ∀ k : Nat, ∃ a, 5 ^ (2 ^ k) = 1 + 4 * 2 ^ k * a
  | 0 => ⟨1, rfl⟩
  | k + 1 => by
    obtain ⟨a, h⟩ := five_pow k
    refine ⟨a + 2 * 2 ^ k * a * a, ?_⟩
    rw [Nat.pow_succ 2 k, Nat.pow_mul, h]
    generalize 2 ^ k = p
    show (1 + 4 * p * a) ^ 2 = 1 + 4 * (p * 2) * (a + 2 * p * a * a)
    have f : (1 + 4 * p * a) * (1 + 4 * p * a) = 1 + (4 * p * a + 4 * p * a) + 4 * p * a * (4 * p * a) := by
      rw [Nat.add_mul, Nat.one_mul, Nat.mul_add, Nat.mul_one]
      (first | lia | omega)
    rw [Nat.pow_two, f, Nat.mul_add]
    have e : 4 * p * a * (4 * p * a) = 4 * (p * 2) * (2 * p * a * a) := by
      have e1 : 4 * p * a * (4 * p * a) = 16 * (p * p * (a * a)) := by
        simp only [Nat.mul_comm, Nat.mul_left_comm, Nat.mul_assoc]
      have e2 : 4 * (p * 2) * (2 * p * a * a) = 16 * (p * p * (a * a)) := by
        simp only [Nat.mul_comm, Nat.mul_left_comm, Nat.mul_assoc]
      rw [e1, e2]
    have e3 : 4 * (p * 2) * a = 4 * p * a + 4 * p * a := by
      have : 4 * (p * 2) = 4 * p + 4 * p := by (first | lia | omega)
      rw [this, Nat.add_mul]
    rw [e, e3]
    (first | lia | omega)
/-- how far a power of two of steps leads -/
theorem S_pow : ∀ k : Nat, ∃ b, S (2 ^ k) = 2 ^ k * (2 * b + 1)
  | 0 => ⟨0, rfl⟩
  | k + 1 => by
    obtain ⟨b, h⟩ := S_pow k
    obtain ⟨a, h5⟩ := five_pow k
    refine ⟨b + 2 ^ k * a + 2 * (2 ^ k * a) * b, ?_⟩
    have e : 2 ^ (k + 1) = 2 ^ k + 2 ^ k := by rw [Nat.pow_succ]; (first | lia | omega)
    rw [e, S_add, h, h5]
    generalize 2 ^ k = p
    have h1 : (1 + 4 * p * a) * (p * (2 * b + 1)) = p * (2 * b + 1) + p * (4 * (p * a) * (2 * b + 1)) := by
      rw [Nat.add_mul, Nat.one_mul]
      congr 1
      simp only [Nat.mul_comm, Nat.mul_left_comm, Nat.mul_assoc]
    have r : ∀ c : Nat, (p + p) * c = p * (c + c) := fun c => by rw [Nat.add_mul, Nat.mul_add]
    rw [h1, ← Nat.mul_add, ← Nat.mul_add, r]
    congr 1
    have h2 : 4 * (p * a) * (2 * b + 1) = 8 * (p * a * b) + 4 * (p * a) := by
      rw [Nat.mul_add, Nat.mul_one]
      congr 1
      have : 4 * (p * a) * (2 * b) = (4 * 2) * (p * a * b) := by
        simp only [Nat.mul_comm, Nat.mul_left_comm, Nat.mul_assoc]
      rw [this]
    have h3 : 2 * (p * a) * b = 2 * (p * a * b) := by rw [Nat.mul_assoc]
    rw [h2, h3]
    (first | lia | omega)
theorem it_mod {k : Nat} (n s : Nat) : it n s % 2 ^ k = it n (s % 2 ^ k) % 2 ^ k := by
  rw [it_eq, it_eq, Nat.add_mod, Nat.mul_mod, Nat.add_mod (5 ^ n * (s % 2 ^ k)), Nat.mul_mod (5 ^ n) (s % 2 ^ k), Nat.mod_mod]
/-- every rest is met within as many steps as there are rests -/
theorem visits : ∀ (k s t : Nat), ∃ n, n < 2 ^ k ∧ it n s % 2 ^ k = t % 2 ^ k
  | 0, s, t => ⟨0, Nat.one_pos, by rw [Nat.pow_zero, Nat.mod_one, Nat.mod_one]⟩
  | k + 1, s, t => by
    obtain ⟨n, hn, e⟩ := visits k s t
    have e2 : 2 ^ (k + 1) = 2 ^ k * 2 := Nat.pow_succ 2 k
    have hp : 0 < 2 ^ k := Nat.two_pow_pos k
    by_cases q : it n s % 2 ^ (k + 1) = t % 2 ^ (k + 1)
    · exact ⟨n, by (first | lia | omega), q⟩
    · refine ⟨n + 2 ^ k, by (first | lia | omega), ?_⟩
      rw [it_add, it_eq (2 ^ k)]
      obtain ⟨a, h5⟩ := five_pow k
      obtain ⟨b, hS⟩ := S_pow k
      rw [h5, hS, e2] at *
      generalize it n s = x at *
      generalize 2 ^ k = p at *
      have hx := Nat.mod_mul (x := x) (a := p) (b := 2)
      have ht := Nat.mod_mul (x := t) (a := p) (b := 2)
      have l1 : (1 + 4 * p * a) * x + p * (2 * b + 1) = x + p + p * 2 * (2 * a * x + b) := by
        rw [Nat.add_mul, Nat.one_mul, Nat.mul_add (p * 2)]
        have u1 : p * 2 * (2 * a * x) = 4 * p * a * x := by
          have : 4 * p * a * x = 4 * (p * (a * x)) := by simp only [Nat.mul_assoc]
          rw [this]
          have : p * 2 * (2 * a * x) = (2 * 2) * (p * (a * x)) := by simp only [Nat.mul_comm, Nat.mul_left_comm, Nat.mul_assoc]
          rw [this]
        have u2 : p * (2 * b + 1) = p * 2 * b + p := by rw [Nat.mul_add, Nat.mul_one, Nat.mul_assoc]
        rw [u1, u2]
        (first | lia | omega)
      rw [l1, Nat.add_mul_mod_self_left]
      have hx2 : x / p % 2 = 0 ∨ x / p % 2 = 1 := by (first | lia | omega)
      have ht2 : t / p % 2 = 0 ∨ t / p % 2 = 1 := by (first | lia | omega)
      have l2 := Nat.mod_mul (x := x + p) (a := p) (b := 2)
      rw [Nat.add_mod_right, Nat.add_div_right _ hp] at l2
      rw [l2, ht]
      rw [hx, ht, e] at q
      rw [e]
      congr 1
      have hne : ¬ x / p % 2 = t / p % 2 := fun z => q (by rw [z])
      have : (x / p + 1) % 2 = t / p % 2 := by (first | lia | omega)
      show p * ((x / p).succ % 2) = p * (t / p % 2)
      rw [show (x / p).succ = x / p + 1 from rfl, this]
end WS

namespace WS
open PySem SetTable
/-- so many leaps -/
def leaps (mask : Nat) : Nat → Nat × Nat → Nat × Nat
  | 0, x => x
  | n + 1, x => leaps mask n (leap mask x.1 x.2)
theorem leaps_add (mask : Nat) : ∀ (n m : Nat) (x : Nat × Nat), leaps mask (n + m) x = leaps mask m (leaps mask n x)
  | 0, m, x => by rw [Nat.zero_add]; rfl
  | n + 1, m, x => by
    rw [show n + 1 + m = (n + m) + 1 by (first | lia | omega)]
    exact leaps_add mask n m _
theorem leaps_snd (mask : Nat) : ∀ (n : Nat) (x : Nat × Nat), (leaps mask n x).2 = x.2 / 32 ^ n
  | 0, x => by simp [leaps]
  | n + 1, x => by
    show (leaps mask n (leap mask x.1 x.2)).2 = _
    rw [leaps_snd mask n]
    show x.2 / 32 / 32 ^ n = _
    rw [Nat.div_div_eq_div_mul, Nat.pow_succ, Nat.mul_comm]
theorem leaps_zero {mask k : Nat} (hk : mask + 1 = 2 ^ k) : ∀ (n i : Nat), i < 2 ^ k → (leaps mask n (i, 0)).1 = it n i % 2 ^ k
  | 0, i, hi => (Nat.mod_eq_of_lt hi).symm
  | n + 1, i, hi => by
    have e : leap mask i 0 = ((5 * i + 1) % 2 ^ k, 0) := by
      unfold leap
      rw [hk, Nat.zero_div, Nat.add_zero, Nat.mul_comm]
    show (leaps mask n (leap mask i 0)).1 = it n (5 * i + 1) % 2 ^ k
    rw [e, leaps_zero hk n _ (Nat.mod_lt _ (Nat.two_pow_pos k)), ← it_mod]
theorem leaps_lt {mask k : Nat} (hk : mask + 1 = 2 ^ k) : ∀ (n : Nat) (x : Nat × Nat), x.1 < 2 ^ k → (leaps mask n x).1 < 2 ^ k
  | 0, x, h => h
  | n + 1, x, h => leaps_lt hk n _ (by
    show (x.1 * 5 + 1 + x.2 / 32) % (mask + 1) < 2 ^ k
    rw [hk]
    exact Nat.mod_lt _ (Nat.two_pow_pos k))
/-- every slot begins a run within the turns that are granted -/
theorem leaps_all {mask k : Nat} (hk : mask + 1 = 2 ^ k) {i p : Nat} (hi : i < 2 ^ k) (hp : p < 2 ^ 64) {t : Nat} (ht : t < 2 ^ k) : ∃ n, n < turns mask ∧ (leaps mask n (i, p)).1 = t := by
  have h0 : (leaps mask 13 (i, p)).2 = 0 := by
    rw [leaps_snd]
    exact Nat.div_eq_of_lt (Nat.lt_of_lt_of_le hp (by decide))
  have h1 := leaps_lt hk 13 (i, p) hi
  obtain ⟨j, hj⟩ : ∃ j, leaps mask 13 (i, p) = (j, 0) := ⟨_, Prod.ext rfl h0⟩
  rw [hj] at h1
  obtain ⟨n, hn, e⟩ := visits k j t
  refine ⟨13 + n, ?_, ?_⟩
  · unfold turns
    (first | lia | omega)
  · rw [leaps_add, hj, leaps_zero hk n j h1, e, Nat.mod_eq_of_lt ht]
end WS

namespace WS
open PySem SetTable
section
variable {t : SetTable}
/-- so many steps of the probe -/
def adv (t : SetTable) : Nat → Probe → Probe
  | 0, p => p
  | n + 1, p => adv t n (t.advance p)
theorem adv_add : ∀ (n m : Nat) (p : Probe), adv t (n + m) p = adv t m (adv t n p)
  | 0, m, p => by rw [Nat.zero_add]; rfl
  | n + 1, m, p => by
    rw [show n + 1 + m = (n + m) + 1 by (first | lia | omega)]
    exact adv_add n m _
/-- where a run begins -/
def runAt (mask : Nat) (x : Nat × Nat) : Probe := { j := x.1, more := runEnd mask x.1 - x.1, i := x.1, perturb := x.2, dummy := none }
theorem start_run (h : Int) : t.probeStart h = runAt t.mask (bits h % (t.mask + 1), bits h) := rfl
theorem adv_in : ∀ (r : Nat) (p : Probe), p.more = r → adv t r p = { p with j := p.j + r, more := 0 }
  | 0, p, h => by
    cases p
    simp only at h
    subst h
    rfl
  | r + 1, p, h => by
    have e : t.advance p = { p with j := p.j + 1, more := p.more - 1 } := by
      unfold advance
      rw [if_pos (by (first | lia | omega))]
    show adv t r (t.advance p) = _
    rw [e, adv_in r _ (by show p.more - 1 = r; (first | lia | omega))]
    simp only [Probe.mk.injEq, and_self, and_true]
    (first | lia | omega)
theorem run_len (mask i : Nat) : runEnd mask i - i ≤ 9 := by
  unfold runEnd
  split <;> (first | lia | omega)
theorem adv_leap (x : Nat × Nat) : adv t (runEnd t.mask x.1 - x.1 + 1) (runAt t.mask x) = runAt t.mask (leap t.mask x.1 x.2) := by
  rw [adv_add, adv_in (runEnd t.mask x.1 - x.1) (runAt t.mask x) rfl]
  simp only [adv]
  unfold advance
  rw [if_neg (by show ¬ (0 : Nat) > 0; (first | lia | omega))]
  rfl
theorem adv_leaps : ∀ (m : Nat) (x : Nat × Nat), ∃ n, n ≤ 10 * m ∧ adv t n (runAt t.mask x) = runAt t.mask (leaps t.mask m x)
  | 0, x => ⟨0, Nat.le_refl _, rfl⟩
  | m + 1, x => by
    obtain ⟨n, hn, e⟩ := adv_leaps m (leap t.mask x.1 x.2)
    have h9 := run_len t.mask x.1
    refine ⟨(runEnd t.mask x.1 - x.1 + 1) + n, by (first | lia | omega), ?_⟩
    rw [adv_add, adv_leap, e]
    rfl
/-- every slot is met within the steps that are granted -/
theorem adv_all {k : Nat} (hk : t.mask + 1 = 2 ^ k) (h : Int) {e : Nat} (he : e < 2 ^ k) : ∃ n, n < 10 * turns t.mask ∧ (adv t n (t.probeStart h)).j = e := by
  have hb : bits h < 2 ^ 64 := by
    unfold bits
    have h0 : 0 ≤ h % (2 ^ 64 : Int) := Int.emod_nonneg _ (by decide)
    have h1 : h % (2 ^ 64 : Int) < 2 ^ 64 := Int.emod_lt_of_pos _ (by decide)
    (first | lia | omega)
  obtain ⟨m, hm, em⟩ := leaps_all (i := bits h % (t.mask + 1)) hk (by rw [hk]; exact Nat.mod_lt _ (Nat.two_pow_pos k)) hb he
  obtain ⟨n, hn, en⟩ := adv_leaps (t := t) m (bits h % (t.mask + 1), bits h)
  refine ⟨n, by (first | lia | omega), ?_⟩
  rw [start_run, en]
  exact em
/-- what a probe meets: the first slot that is empty or whose hash is the same -/
theorem go_met (hash : Nat → Int) (h : Int) (nd : ∀ j, t.slot j ≠ .dummy) : ∀ (fuel : Nat) (p : Probe) (n : Nat), n < fuel → t.slot (adv t n p).j = .empty →
    ∃ m, m ≤ n ∧ (∀ i, i < m → ∃ l, t.slot (adv t i p).j = .live l ∧ (hash l == h) = false) ∧
      ((t.slot (adv t m p).j = .empty ∧ probe.go t hash h fuel p = some (.empty (adv t m p).j p.dummy)) ∨
       ∃ l, t.slot (adv t m p).j = .live l ∧ (hash l == h) = true ∧ probe.go t hash h fuel p = some (.candidate (adv t m p).j l (adv t (m + 1) p)))
  | 0, p, n, hn, _ => absurd hn (Nat.not_lt_zero _)
  | fuel + 1, p, n, hn, he => by
    cases hs : t.slot p.j with
    | empty =>
      refine ⟨0, Nat.zero_le _, fun i hi => absurd hi (Nat.not_lt_zero _), .inl ⟨hs, ?_⟩⟩
      unfold probe.go
      rw [hs]
      rfl
    | dummy => exact absurd hs (nd _)
    | live l =>
      by_cases hh : (hash l == h) = true
      · refine ⟨0, Nat.zero_le _, fun i hi => absurd hi (Nat.not_lt_zero _), .inr ⟨l, hs, hh, ?_⟩⟩
        unfold probe.go
        rw [hs]
        dsimp only
        rw [if_pos hh]
        rfl
      · cases n with
        | zero =>
          have : t.slot p.j = .empty := he
          rw [hs] at this
          cases this
        | succ n =>
          have eg : probe.go t hash h (fuel + 1) p = probe.go t hash h fuel (t.advance p) := by
            conv => lhs; unfold probe.go
            rw [hs]
            dsimp only
            rw [if_neg hh]
          have ed : (t.advance p).dummy = p.dummy := by
            unfold advance
            split <;> rfl
          obtain ⟨m, hm, h1, h2⟩ := go_met hash h nd fuel (t.advance p) n (by (first | lia | omega)) he
          refine ⟨m + 1, by (first | lia | omega), fun i hi => ?_, ?_⟩
          · cases i with
            | zero => exact ⟨l, hs, by simpa using hh⟩
            | succ i => exact h1 i (by (first | lia | omega))
          · rw [eg]
            rw [ed] at h2
            exact h2
end
end WS

namespace WS
open PySem SetTable
/-- strictly rising -/
def Ris (xs : Array Nat) : Prop := ∀ (i j : Nat) (a b : Nat), i < j → xs[i]? = some a → xs[j]? = some b → a < b
theorem below_go {xs : Array Nat} {j : Nat} (hr : Ris xs) : ∀ (fuel lo hi : Nat), hi - lo ≤ fuel → lo ≤ hi → hi ≤ xs.size → (∀ i a, i < lo → xs[i]? = some a → a < j) → (∀ i a, hi ≤ i → xs[i]? = some a → j ≤ a) →
    below.go xs j fuel lo hi ≤ xs.size ∧ (∀ i a, i < below.go xs j fuel lo hi → xs[i]? = some a → a < j) ∧ (∀ i a, below.go xs j fuel lo hi ≤ i → xs[i]? = some a → j ≤ a)
  | 0, lo, hi, hf, h1, h2, ha, hb => by
    have : lo = hi := by (first | lia | omega)
    subst this
    unfold below.go
    exact ⟨h2, ha, hb⟩
  | fuel + 1, lo, hi, hf, h1, h2, ha, hb => by
    unfold below.go
    by_cases hlt : lo < hi
    · rw [if_pos hlt]
      have hm : (lo + hi) / 2 < xs.size := by (first | lia | omega)
      have eg : xs[(lo + hi) / 2]? = some (xs[(lo + hi) / 2]) := Array.getElem?_eq_getElem hm
      have ed : xs.getD ((lo + hi) / 2) j = xs[(lo + hi) / 2] := by
        rw [Array.getD_eq_getD_getElem?, eg]
        rfl
      dsimp only
      rw [ed]
      by_cases hc : xs[(lo + hi) / 2] < j
      · rw [if_pos hc]
        refine below_go hr fuel ((lo + hi) / 2 + 1) hi (by (first | lia | omega)) (by (first | lia | omega)) h2 (fun i a hi' e => ?_) hb
        rcases Nat.lt_or_ge i ((lo + hi) / 2) with q | q
        · have := hr i _ a _ q e eg
          (first | lia | omega)
        · have : i = (lo + hi) / 2 := by (first | lia | omega)
          subst this
          rw [eg] at e
          cases e
          exact hc
      · rw [if_neg hc]
        refine below_go hr fuel lo ((lo + hi) / 2) (by (first | lia | omega)) (by (first | lia | omega)) (by (first | lia | omega)) ha (fun i a hi' e => ?_)
        rcases Nat.lt_or_ge ((lo + hi) / 2) i with q | q
        · have := hr _ i _ a q eg e
          (first | lia | omega)
        · have : i = (lo + hi) / 2 := by (first | lia | omega)
          subst this
          rw [eg] at e
          cases e
          (first | lia | omega)
    · rw [if_neg hlt]
      have : lo = hi := by (first | lia | omega)
      subst this
      exact ⟨h2, ha, hb⟩
theorem below_ok {xs : Array Nat} (j : Nat) (hr : Ris xs) : below xs j ≤ xs.size ∧ (∀ i a, i < below xs j → xs[i]? = some a → a < j) ∧ (∀ i a, below xs j ≤ i → xs[i]? = some a → j ≤ a) := by
  unfold below
  refine below_go hr _ _ _ (by (first | lia | omega)) (Nat.zero_le _) (Nat.le_refl _) (fun i a h _ => absurd h (Nat.not_lt_zero _)) fun i a h e => ?_
  rw [Array.getElem?_eq_none h] at e
  cases e
/-- a place is found by its number -/
theorem below_at {xs : Array Nat} {i j : Nat} (hr : Ris xs) (h : xs[i]? = some j) : below xs j = i := by
  obtain ⟨h1, h2, h3⟩ := below_ok j hr
  rcases Nat.lt_trichotomy (below xs j) i with q | q | q
  · have hs : i < xs.size := by
      rcases Nat.lt_or_ge i xs.size with z | z
      · exact z
      · rw [Array.getElem?_eq_none z] at h
        cases h
    have e : xs[below xs j]? = some (xs[below xs j]'(by (first | lia | omega))) := Array.getElem?_eq_getElem _
    have := hr _ _ _ _ q e h
    have := h3 _ _ (Nat.le_refl _) e
    (first | lia | omega)
  · exact q
  · have := h2 i j q h
    (first | lia | omega)
theorem slot_live {t : SetTable} (hr : Ris t.place) {j i : Nat} : t.slot j = .live i ↔ t.place[i]? = some j := by
  constructor
  · intro h
    unfold slot at h
    dsimp only at h
    split at h
    · rename_i q
      cases h
      exact eq_of_beq q
    · split at h <;> cases h
  · intro h
    unfold slot
    dsimp only
    rw [below_at hr h, h]
    simp
theorem slot_empty {t : SetTable} (hr : Ris t.place) (hd : t.dummies = #[]) {j : Nat} : t.slot j = .empty ↔ ∀ i : Nat, t.place[i]? ≠ some j := by
  have nd : t.slot j ≠ .dummy := by
    unfold slot has
    rw [hd]
    dsimp only
    split
    · intro z; cases z
    · simp
  constructor
  · intro h i e
    rw [(slot_live hr).mpr e] at h
    cases h
  · intro h
    cases q : t.slot j with
    | empty => rfl
    | dummy => exact absurd q nd
    | live i => exact absurd ((slot_live hr).mp q) (h i)
end WS

namespace WS
open PySem SetTable
/-! ### one put between -/
theorem insert_get {α : Type} {xs : Array α} {p : Nat} {x : α} (hp : p ≤ xs.size) (i : Nat) : (insertAt xs p x)[i]? = if i < p then xs[i]? else if i = p then some x else xs[i - 1]? := by
  unfold insertAt
  have s1 : (xs.extract 0 p).size = p := by rw [Array.size_extract]; (first | lia | omega)
  have s2 : ((xs.extract 0 p).push x).size = p + 1 := by rw [Array.size_push, s1]
  rw [Array.getElem?_append, s2]
  by_cases h : i < p + 1
  · rw [if_pos h, Array.getElem?_push, s1]
    by_cases h2 : i = p
    · rw [if_pos h2, if_neg (by (first | lia | omega)), if_pos h2]
    · rw [if_neg h2, if_pos (by (first | lia | omega)), Array.getElem?_extract, if_pos (by (first | lia | omega)), Nat.zero_add]
  · rw [if_neg h, if_neg (by (first | lia | omega)), if_neg (by (first | lia | omega)), Array.getElem?_extract]
    by_cases h3 : i - (p + 1) < xs.size - p
    · rw [if_pos (by (first | lia | omega)), show p + (i - (p + 1)) = i - 1 by (first | lia | omega)]
    · rw [if_neg (by (first | lia | omega)), Array.getElem?_eq_none (by (first | lia | omega))]
theorem insert_size {α : Type} {xs : Array α} {p : Nat} {x : α} (hp : p ≤ xs.size) : (insertAt xs p x).size = xs.size + 1 := by
  unfold insertAt
  rw [Array.size_append, Array.size_push, Array.size_extract, Array.size_extract]
  (first | lia | omega)
theorem ris_insert {xs : Array Nat} {j : Nat} (hr : Ris xs) (hj : ∀ i : Nat, xs[i]? ≠ some j) : Ris (insertAt xs (below xs j) j) := by
  obtain ⟨h1, h2, h3⟩ := below_ok j hr
  have lt3 : ∀ i a, below xs j ≤ i → xs[i]? = some a → j < a := fun i a q e => by
    have := h3 i a q e
    have : a ≠ j := fun z => hj i (by rw [e, z])
    (first | lia | omega)
  intro i k a b hik ea eb
  rw [insert_get h1] at ea eb
  by_cases q1 : k < below xs j
  · rw [if_pos q1] at eb
    rw [if_pos (by (first | lia | omega))] at ea
    exact hr i k a b hik ea eb
  · rw [if_neg q1] at eb
    by_cases q2 : k = below xs j
    · rw [if_pos q2] at eb
      cases eb
      rw [if_pos (by (first | lia | omega))] at ea
      exact h2 i a (by (first | lia | omega)) ea
    · rw [if_neg q2] at eb
      by_cases q3 : i < below xs j
      · rw [if_pos q3] at ea
        have := h2 i a q3 ea
        have := lt3 (k - 1) b (by (first | lia | omega)) eb
        (first | lia | omega)
      · rw [if_neg q3] at ea
        by_cases q4 : i = below xs j
        · rw [if_pos q4] at ea
          cases ea
          exact lt3 (k - 1) b (by (first | lia | omega)) eb
        · rw [if_neg q4] at ea
          exact hr (i - 1) (k - 1) a b (by (first | lia | omega)) ea eb
/-- what is in, with one put between: that one, or an old one -/
theorem insert_mem {α : Type} {xs : Array α} {p : Nat} {x y : α} (hp : p ≤ xs.size) : (∃ i : Nat, (insertAt xs p x)[i]? = some y) ↔ y = x ∨ ∃ i : Nat, xs[i]? = some y := by
  constructor
  · rintro ⟨i, e⟩
    rw [insert_get hp] at e
    split at e
    · exact .inr ⟨i, e⟩
    · split at e
      · cases e
        exact .inl rfl
      · exact .inr ⟨i - 1, e⟩
  · rintro (rfl | ⟨i, e⟩)
    · exact ⟨p, by rw [insert_get hp, if_neg (Nat.lt_irrefl _), if_pos rfl]⟩
    · by_cases q : i < p
      · exact ⟨i, by rw [insert_get hp, if_pos q]; exact e⟩
      · exact ⟨i + 1, by rw [insert_get hp, if_neg (by (first | lia | omega)), if_neg (by (first | lia | omega))]; exact e⟩
/-- a table that isn't full has an empty slot -/
theorem gap {xs : Array Nat} (hr : Ris xs) : ∀ n, n ≤ xs.size → (∀ i, i < n → xs[i]? = some i) ∨ ∃ e, e < n ∧ ∀ i : Nat, xs[i]? ≠ some e
  | 0, _ => .inl fun i h => absurd h (Nat.not_lt_zero _)
  | n + 1, hn => by
    rcases gap hr n (by (first | lia | omega)) with h | ⟨e, he, h⟩
    · have en : xs[n]? = some (xs[n]'(by (first | lia | omega))) := Array.getElem?_eq_getElem _
      by_cases q : xs[n]'(by (first | lia | omega)) = n
      · refine .inl fun i hi => ?_
        rcases Nat.lt_or_ge i n with z | z
        · exact h i z
        · have : i = n := by (first | lia | omega)
          subst this
          rw [en, q]
      · have hge : n < xs[n]'(by (first | lia | omega)) := by
          cases n with
          | zero => (first | lia | omega)
          | succ m =>
            have := hr m (m + 1) m _ (by (first | lia | omega)) (h m (by (first | lia | omega))) en
            (first | lia | omega)
        refine .inr ⟨n, by (first | lia | omega), fun i e => ?_⟩
        rcases Nat.lt_trichotomy i n with z | z | z
        · rw [h i z] at e
          cases e
          (first | lia | omega)
        · rw [z, en] at e
          exact q (Option.some.inj e)
        · have := hr n i _ _ z en e
          (first | lia | omega)
    · exact .inr ⟨e, by (first | lia | omega), h⟩
theorem free_slot {xs : Array Nat} {m : Nat} (hr : Ris xs) (hm : xs.size < m) : ∃ e, e < m ∧ ∀ i : Nat, xs[i]? ≠ some e := by
  rcases gap hr xs.size (Nat.le_refl _) with h | ⟨e, he, h⟩
  · refine ⟨xs.size, hm, fun i e => ?_⟩
    rcases Nat.lt_or_ge i xs.size with z | z
    · rw [h i z] at e
      cases e
      (first | lia | omega)
    · rw [Array.getElem?_eq_none z] at e
      cases e
  · exact ⟨e, by (first | lia | omega), h⟩
end WS

namespace WS
open PySem SetTable
theorem adv_mask {t u : SetTable} (h : t.mask = u.mask) : ∀ (n : Nat) (p : Probe), adv t n p = adv u n p
  | 0, _ => rfl
  | n + 1, p => by
    have e : t.advance p = u.advance p := by
      unfold advance
      rw [h]
    show adv t n (t.advance p) = adv u n (u.advance p)
    rw [e, adv_mask h n]
theorem start_mask {t u : SetTable} (h : t.mask = u.mask) (x : Int) : t.probeStart x = u.probeStart x := by
  unfold probeStart
  rw [h]
/-- on the way of a hash, so many steps on, all before it taken -/
def Way (t : SetTable) (h : Int) (n : Nat) : Prop := ∀ m, m < n → ∃ l, t.slot (adv t m (t.probeStart h)).j = .live l
structure Tab (t : SetTable) (es : Array (Int × Value)) : Prop where
  pow : ∃ k, 3 ≤ k ∧ k ≤ 24 ∧ t.mask + 1 = 2 ^ k
  size : t.place.size = es.size
  ris : Ris t.place
  low : ∀ (i j : Nat), t.place[i]? = some j → j ≤ t.mask
  nod : t.dummies = #[]
  room : es.size ≤ t.mask
  reach : ∀ (i : Nat) (h : Int) (v : Value) (j : Nat), es[i]? = some (h, v) → t.place[i]? = some j → ∃ n, n < 10 * turns t.mask ∧ (adv t n (t.probeStart h)).j = j ∧ Way t h n
theorem Tab.nodum {t : SetTable} {es : Array (Int × Value)} (T : Tab t es) (j : Nat) : t.slot j ≠ .dummy := by
  unfold slot has
  rw [T.nod]
  dsimp only
  split
  · intro z; cases z
  · simp
/-- the same from a step of the way on -/
theorem Tab.met_on {t : SetTable} {es : Array (Int × Value)} (T : Tab t es) (hash : Nat → Int) (h : Int) {s : Nat} (hs : Way t h s) : ∃ m, s ≤ m ∧ m < 10 * turns t.mask ∧ (∀ i, s ≤ i → i < m → ∃ l, t.slot (adv t i (t.probeStart h)).j = .live l ∧ (hash l == h) = false) ∧
    ((t.slot (adv t m (t.probeStart h)).j = .empty ∧ t.probe hash h (adv t s (t.probeStart h)) = some (.empty (adv t m (t.probeStart h)).j (adv t s (t.probeStart h)).dummy)) ∨
     ∃ l, t.slot (adv t m (t.probeStart h)).j = .live l ∧ (hash l == h) = true ∧ t.probe hash h (adv t s (t.probeStart h)) = some (.candidate (adv t m (t.probeStart h)).j l (adv t (m + 1) (t.probeStart h)))) := by
  obtain ⟨k, _, _, hk⟩ := T.pow
  obtain ⟨e, he, hf⟩ := free_slot T.ris (m := t.mask + 1) (by have := T.room; have := T.size; (first | lia | omega))
  obtain ⟨n, hn, en⟩ := adv_all hk h (e := e) (by (first | lia | omega))
  have hsn : s ≤ n := by
    rcases Nat.lt_or_ge n s with q | q
    · obtain ⟨l, el⟩ := hs n q
      rw [en, (slot_empty T.ris T.nod).mpr hf] at el
      cases el
    · exact q
  have en' : (adv t (n - s) (adv t s (t.probeStart h))).j = e := by
    rw [← adv_add, show s + (n - s) = n by (first | lia | omega)]
    exact en
  obtain ⟨m, hm, h1, h2⟩ := go_met (t := t) hash h T.nodum (10 * turns t.mask) (adv t s (t.probeStart h)) (n - s) (by (first | lia | omega)) (by rw [en']; exact (slot_empty T.ris T.nod).mpr hf)
  refine ⟨s + m, by (first | lia | omega), by (first | lia | omega), fun i h3 h4 => ?_, ?_⟩
  · have := h1 (i - s) (by (first | lia | omega))
    rw [← adv_add, show s + (i - s) = i by (first | lia | omega)] at this
    exact this
  · rw [← adv_add, ← adv_add] at h2
    exact h2
end WS

namespace WS
open PySem SetTable
theorem put_mask (t : SetTable) (j : Nat) : (t.put j).1.mask = t.mask := rfl
theorem put_place (t : SetTable) (j : Nat) : (t.put j).1.place = insertAt t.place (below t.place j) j := rfl
theorem put_at (t : SetTable) (j : Nat) : (t.put j).2 = below t.place j := rfl
theorem put_dum {t : SetTable} (j : Nat) (h : t.dummies = #[]) : (t.put j).1.dummies = #[] := by
  show (if has t.dummies j then _ else t.dummies) = #[]
  rw [h]
  have : has (#[] : Array Nat) j = false := by unfold has; simp
  rw [this]
  rfl
theorem Way.mono {t u : SetTable} {h : Int} {n : Nat} (w : Way t h n) (hm : t.mask = u.mask) (hl : ∀ j, (∃ l, t.slot j = .live l) → ∃ l, u.slot j = .live l) : Way u h n := fun m hmn => by
  obtain ⟨l, e⟩ := w m hmn
  rw [← adv_mask hm, ← start_mask hm]
  exact hl _ ⟨l, e⟩
theorem run_low {mask i : Nat} (h : i ≤ mask) : i + (runEnd mask i - i) ≤ mask := by
  unfold runEnd
  split <;> (first | lia | omega)
theorem adv_low {t : SetTable} : ∀ (n : Nat) (p : Probe), p.j + p.more ≤ t.mask → (adv t n p).j + (adv t n p).more ≤ t.mask
  | 0, _, h => h
  | n + 1, p, h => by
    refine adv_low n (t.advance p) ?_
    unfold advance
    by_cases q : p.more > 0
    · rw [if_pos q]
      show p.j + 1 + (p.more - 1) ≤ t.mask
      (first | lia | omega)
    · rw [if_neg q]
      exact run_low (by
        show (p.i * 5 + 1 + p.perturb / 32) % (t.mask + 1) ≤ t.mask
        exact Nat.le_of_lt_succ (Nat.mod_lt _ (Nat.succ_pos _)))
theorem way_low {t : SetTable} (n : Nat) (h : Int) : (adv t n (t.probeStart h)).j ≤ t.mask := by
  have := adv_low (t := t) n (t.probeStart h) (run_low (Nat.le_of_lt_succ (Nat.mod_lt _ (Nat.succ_pos _))))
  (first | lia | omega)
theorem Tab.put {t : SetTable} {es : Array (Int × Value)} (T : Tab t es) {h : Int} {x : Value} {n : Nat} (hn : n < 10 * turns t.mask) (w : Way t h n) (he : t.slot (adv t n (t.probeStart h)).j = .empty) (hr : es.size + 1 ≤ t.mask) :
    Tab (t.put (adv t n (t.probeStart h)).j).1 (insertAt es (t.put (adv t n (t.probeStart h)).j).2 (h, x)) := by
  have ef := (slot_empty T.ris T.nod).mp he
  obtain ⟨b1, b2, b3⟩ := below_ok (adv t n (t.probeStart h)).j T.ris
  have hbe : below t.place (adv t n (t.probeStart h)).j ≤ es.size := by rw [← T.size]; exact b1
  have R := ris_insert T.ris ef
  have live : ∀ j, (∃ l, t.slot j = .live l) → ∃ l, (t.put (adv t n (t.probeStart h)).j).1.slot j = .live l := fun j ⟨l, e⟩ => by
    have e1 := (slot_live T.ris).mp e
    obtain ⟨i, e2⟩ := (insert_mem (x := (adv t n (t.probeStart h)).j) b1).mpr (.inr ⟨l, e1⟩)
    exact ⟨i, (slot_live (t := (t.put (adv t n (t.probeStart h)).j).1) R).mpr e2⟩
  refine ⟨T.pow, ?_, R, ?_, put_dum _ T.nod, ?_, ?_⟩
  · rw [put_place, put_at, insert_size b1, insert_size hbe, T.size]
  · intro i j e
    rw [put_place] at e
    rcases (insert_mem b1).mp ⟨i, e⟩ with rfl | ⟨i', e'⟩
    · exact way_low n h
    · exact T.low i' j e'
  · rw [put_at, insert_size hbe]
    exact hr
  · intro i h' v j e1 e2
    rw [put_at, insert_get hbe] at e1
    rw [put_place, insert_get b1] at e2
    by_cases q1 : i < below t.place (adv t n (t.probeStart h)).j
    · rw [if_pos q1] at e1 e2
      obtain ⟨m, hm, em, wm⟩ := T.reach i h' v j e1 e2
      exact ⟨m, hm, by rw [← adv_mask (put_mask t _).symm, ← start_mask (put_mask t _).symm]; exact em, wm.mono (put_mask t _).symm live⟩
    · rw [if_neg q1] at e1 e2
      by_cases q2 : i = below t.place (adv t n (t.probeStart h)).j
      · rw [if_pos q2] at e1 e2
        cases e1
        cases e2
        exact ⟨n, hn, by rw [← adv_mask (put_mask t _).symm, ← start_mask (put_mask t _).symm], w.mono (put_mask t _).symm live⟩
      · rw [if_neg q2] at e1 e2
        obtain ⟨m, hm, em, wm⟩ := T.reach (i - 1) h' v j e1 e2
        exact ⟨m, hm, by rw [← adv_mask (put_mask t _).symm, ← start_mask (put_mask t _).symm]; exact em, wm.mono (put_mask t _).symm live⟩
end WS

namespace WS
open PySem SetTable
section
variable {t : SetTable}
theorem adv_part : ∀ (r : Nat) (p : Probe), r ≤ p.more → adv t r p = { p with j := p.j + r, more := p.more - r }
  | 0, p, _ => by
    cases p
    rfl
  | r + 1, p, h => by
    have e : t.advance p = { p with j := p.j + 1, more := p.more - 1 } := by
      unfold advance
      rw [if_pos (by (first | lia | omega))]
    show adv t r (t.advance p) = _
    rw [e, adv_part r _ (by show r ≤ p.more - 1; (first | lia | omega))]
    simp only [Probe.mk.injEq, and_self, and_true]
    (first | lia | omega)
theorem run_fit {mask i : Nat} (h : i ≤ mask) : i ≤ runEnd mask i ∧ runEnd mask i ≤ mask := by
  unfold runEnd
  split <;> (first | lia | omega)
/-- a slot of the owners that is not free -/
def Tk (owner : Array (Option Nat)) (j : Nat) : Prop := (owner.getD j (some 0)).isNone = false
def Fr (owner : Array (Option Nat)) (j : Nat) : Prop := (owner.getD j (some 0)).isNone = true
theorem free_ok {owner : Array (Option Nat)} : ∀ (fuel : Nat) (x : Nat × Nat), x.1 ≤ t.mask → (∃ L, L < fuel ∧ Fr owner (leaps t.mask L x).1) →
    ∃ m, m < 10 * fuel ∧ layClean.free t.mask owner fuel x.1 x.2 = some (adv t m (runAt t.mask x)).j ∧ Fr owner (adv t m (runAt t.mask x)).j ∧ ∀ m', m' < m → Tk owner (adv t m' (runAt t.mask x)).j
  | 0, _, _, ⟨L, hL, _⟩ => absurd hL (Nat.not_lt_zero _)
  | fuel + 1, x, hx, ⟨L, hL, hf⟩ => by
    obtain ⟨r1, r2⟩ := run_fit hx
    have h9 := run_len t.mask x.1
    have jp : ∀ r, r ≤ runEnd t.mask x.1 - x.1 → (adv t r (runAt t.mask x)).j = x.1 + r := fun r hr => by
      rw [adv_part r (runAt t.mask x) hr]
      rfl
    unfold layClean.free
    cases hfi : (List.range (runEnd t.mask x.1 + 1 - x.1)).find? fun k => (owner.getD (x.1 + k) (some 0)).isNone with
    | some k =>
      have hk := List.mem_range.mp (List.mem_of_find?_eq_some hfi)
      have hp := List.find?_some hfi
      refine ⟨k, by (first | lia | omega), ?_, ?_, fun m' hm' => ?_⟩
      · rw [jp k (by (first | lia | omega))]
      · rw [jp k (by (first | lia | omega))]
        exact hp
      · rw [jp m' (by (first | lia | omega))]
        obtain ⟨_, as, bs, e1, e2⟩ := List.find?_eq_some_iff_append.mp hfi
        have hlen : as.length = k := by
          have h1 := congrArg (fun l => l[as.length]?) e1
          simp only [List.getElem?_append_right (Nat.le_refl _), Nat.sub_self, List.getElem?_cons_zero] at h1
          have h2 := (List.getElem?_eq_some_iff.mp h1)
          obtain ⟨h3, h4⟩ := h2
          rw [List.getElem_range] at h4
          exact h4
        have hm2 : m' ∈ as := by
          have h1 := congrArg (fun l => l[m']?) e1
          simp only [List.getElem?_append_left (show m' < as.length by (first | lia | omega))] at h1
          rw [List.getElem?_range (by (first | lia | omega))] at h1
          exact List.mem_of_getElem? h1.symm
        have := e2 m' hm2
        unfold Tk
        simpa using this
    | none =>
      have hno := List.find?_eq_none.mp hfi
      have tk : ∀ r, r ≤ runEnd t.mask x.1 - x.1 → Tk owner (x.1 + r) := fun r hr => by
        exact eq_false_of_ne_true (hno r (List.mem_range.mpr (by (first | lia | omega))))
      cases L with
      | zero =>
        have := tk 0 (Nat.zero_le _)
        unfold Tk at this
        unfold Fr at hf
        rw [show (leaps t.mask 0 x).1 = x.1 + 0 from rfl, this] at hf
        cases hf
      | succ L =>
        have hl : (leap t.mask x.1 x.2).1 ≤ t.mask := Nat.le_of_lt_succ (Nat.mod_lt _ (Nat.succ_pos _))
        obtain ⟨m, hm, e1, e2, e3⟩ := free_ok fuel (leap t.mask x.1 x.2) hl ⟨L, by (first | lia | omega), hf⟩
        have key : ∀ i, adv t (runEnd t.mask x.1 - x.1 + 1 + i) (runAt t.mask x) = adv t i (runAt t.mask (leap t.mask x.1 x.2)) := fun i => by
          rw [adv_add, adv_leap]
        refine ⟨runEnd t.mask x.1 - x.1 + 1 + m, by (first | lia | omega), ?_, ?_, fun m' hm' => ?_⟩
        · rw [key]
          exact e1
        · rw [key]
          exact e2
        · by_cases q : m' ≤ runEnd t.mask x.1 - x.1
          · rw [jp m' q]
            exact tk m' q
          · have := key (m' - (runEnd t.mask x.1 - x.1 + 1))
            rw [show runEnd t.mask x.1 - x.1 + 1 + (m' - (runEnd t.mask x.1 - x.1 + 1)) = m' by (first | lia | omega)] at this
            rw [this]
            exact e3 _ (by (first | lia | omega))
theorem nodup_lt : ∀ (n : Nat) (l : List Nat), l.Nodup → (∀ x ∈ l, x < n) → l.length ≤ n
  | 0, [], _, _ => Nat.le_refl _
  | 0, x :: _, _, h => absurd (h x List.mem_cons_self) (Nat.not_lt_zero _)
  | n + 1, l, hd, h => by
    have h1 := nodup_lt n (l.erase n) (hd.erase n) fun x hx => by
      obtain ⟨a, b⟩ := hd.mem_erase_iff.mp hx
      have := h x b
      (first | lia | omega)
    rw [List.length_erase] at h1
    split at h1 <;> (first | lia | omega)
theorem fr_at {ow : Array (Option Nat)} {j : Nat} : Fr ow j ↔ ow[j]? = some none := by
  unfold Fr
  rw [Array.getD_eq_getD_getElem?]
  cases h : ow[j]? with
  | none => simp
  | some v => cases v <;> simp
theorem tk_at {ow : Array (Option Nat)} {j : Nat} (hj : j < ow.size) (h : Tk ow j) : ∃ l, ow[j]? = some (some l) := by
  unfold Tk at h
  rw [Array.getD_eq_getD_getElem?] at h
  rw [Array.getElem?_eq_getElem hj] at h ⊢
  cases hv : ow[j] with
  | none => rw [hv] at h; cases h
  | some l => exact ⟨l, rfl⟩
structure Own (t : SetTable) (hs : List Int) (ow : Array (Option Nat)) : Prop where
  size : ow.size = t.mask + 1
  val : ∀ (j i : Nat), ow[j]? = some (some i) → i < hs.length
  inj : ∀ (j j' i : Nat), ow[j]? = some (some i) → ow[j']? = some (some i) → j = j'
  all : ∀ (i : Nat) (h : Int), hs[i]? = some h → ∃ j n, ow[j]? = some (some i) ∧ n < 10 * turns t.mask ∧ (adv t n (t.probeStart h)).j = j ∧ ∀ m, m < n → ∃ l, ow[(adv t m (t.probeStart h)).j]? = some (some l)
theorem Own.room {hs : List Int} {ow : Array (Option Nat)} (O : Own t hs ow) (hr : hs.length ≤ t.mask) : ∃ e, e ≤ t.mask ∧ Fr ow e := by
  refine Classical.byContradiction fun hn => ?_
  have hall : ∀ j, j ≤ t.mask → ∃ l, ow[j]? = some (some l) := fun j hj => by
    refine tk_at (by rw [O.size]; (first | lia | omega)) ?_
    exact eq_false_of_ne_true fun z => hn ⟨j, hj, z⟩
  have hf : ∀ j, j ≤ t.mask → ow[j]? = some (some ((ow[j]?.getD none).getD 0)) := fun j hj => by
    obtain ⟨l, e⟩ := hall j hj
    rw [e]
    rfl
  have := nodup_lt hs.length ((List.range (t.mask + 1)).map fun j => (ow[j]?.getD none).getD 0) (by
    rw [List.nodup_iff_pairwise_ne, List.pairwise_map]
    refine (List.nodup_iff_pairwise_ne.mp List.nodup_range).imp_of_mem fun {a b} ha hb hab e => hab ?_
    have h1 := hf a (by have := List.mem_range.mp ha; (first | lia | omega))
    have h2 := hf b (by have := List.mem_range.mp hb; (first | lia | omega))
    rw [e] at h1
    exact O.inj a b _ h1 h2) (fun x hx => by
    obtain ⟨j, hj, rfl⟩ := List.mem_map.mp hx
    exact O.val j _ (hf j (by have := List.mem_range.mp hj; (first | lia | omega))))
  rw [List.length_map, List.length_range] at this
  (first | lia | omega)
theorem bits_lt (h : Int) : bits h < 2 ^ 64 := by
  unfold bits
  have h0 : 0 ≤ h % (2 ^ 64 : Int) := Int.emod_nonneg _ (by decide)
  have h1 : h % (2 ^ 64 : Int) < 2 ^ 64 := Int.emod_lt_of_pos _ (by decide)
  (first | lia | omega)
theorem Own.step {k : Nat} (hk : t.mask + 1 = 2 ^ k) {hs : List Int} {ow : Array (Option Nat)} (O : Own t hs ow) (hr : hs.length ≤ t.mask) (h : Int) :
    ∃ j, layClean.free t.mask ow (turns t.mask) (bits h % (t.mask + 1)) (bits h) = some j ∧ Own t (hs ++ [h]) (ow.setIfInBounds j (some hs.length)) := by
  obtain ⟨e, he, hf⟩ := O.room hr
  obtain ⟨L, hL, eL⟩ := leaps_all (i := bits h % (t.mask + 1)) hk (by rw [hk]; exact Nat.mod_lt _ (Nat.two_pow_pos k)) (bits_lt h) (t := e) (by (first | lia | omega))
  obtain ⟨m, hm, e1, e2, e3⟩ := free_ok (t := t) (owner := ow) (turns t.mask) (bits h % (t.mask + 1), bits h) (Nat.le_of_lt_succ (Nat.mod_lt _ (Nat.succ_pos _))) ⟨L, hL, by rw [eL]; exact hf⟩
  rw [← start_run] at e1 e2 e3
  have hjm := way_low (t := t) m h
  have hj := fr_at.mp e2
  refine ⟨_, e1, ?_⟩
  generalize hjj : (adv t m (t.probeStart h)).j = j at *
  have get : ∀ x : Nat, (ow.setIfInBounds j (some hs.length))[x]? = if j = x then some (some hs.length) else ow[x]? := fun x => by
    rw [Array.getElem?_setIfInBounds]
    by_cases q : j = x
    · subst q
      rw [if_pos rfl, if_pos rfl, if_pos (by rw [O.size]; (first | lia | omega))]
    · rw [if_neg q, if_neg q]
  have keep : ∀ x l, ow[x]? = some (some l) → (ow.setIfInBounds j (some hs.length))[x]? = some (some l) := fun x l hx => by
    rw [get, if_neg (fun z => by rw [z, hx] at hj; cases hj)]
    exact hx
  have hlen : (hs ++ [h]).length = hs.length + 1 := by rw [List.length_append]; rfl
  refine ⟨by rw [Array.size_setIfInBounds]; exact O.size, fun x i hx => ?_, fun x x' i hx hx' => ?_, fun i h' hi => ?_⟩
  · rw [get] at hx
    by_cases q : j = x
    · rw [if_pos q] at hx
      cases hx
      (first | lia | omega)
    · rw [if_neg q] at hx
      have := O.val x i hx
      (first | lia | omega)
  · rw [get] at hx hx'
    by_cases q : j = x
    · rw [if_pos q] at hx
      cases hx
      by_cases q' : j = x'
      · (first | lia | omega)
      · rw [if_neg q'] at hx'
        exact absurd (O.val x' _ hx') (Nat.lt_irrefl _)
    · rw [if_neg q] at hx
      by_cases q' : j = x'
      · rw [if_pos q'] at hx'
        cases hx'
        exact absurd (O.val x _ hx) (Nat.lt_irrefl _)
      · rw [if_neg q'] at hx'
        exact O.inj x x' i hx hx'
  · by_cases q : i < hs.length
    · rw [List.getElem?_append_left q] at hi
      obtain ⟨j', n, h1, h2, h3, h4⟩ := O.all i h' hi
      refine ⟨j', n, keep _ _ h1, h2, h3, fun m' hm' => ?_⟩
      obtain ⟨l, hl⟩ := h4 m' hm'
      exact ⟨l, keep _ _ hl⟩
    · rw [List.getElem?_append_right (by (first | lia | omega))] at hi
      have hi0 : i - hs.length = 0 := by
        have := (List.getElem?_eq_some_iff.mp hi).1
        simp at this
        (first | lia | omega)
      rw [hi0] at hi
      cases hi
      refine ⟨j, m, ?_, hm, hjj, fun m' hm' => ?_⟩
      · rw [get, if_pos rfl, show i = hs.length by (first | lia | omega)]
      · obtain ⟨l, hl⟩ := tk_at (by rw [O.size]; have := way_low (t := t) m' h; (first | lia | omega)) (e3 m' hm')
        exact ⟨l, keep _ _ hl⟩
end
end WS

namespace WS
open PySem SetTable
section
variable {t : SetTable}
theorem own_nil : Own t [] (Array.replicate (t.mask + 1) none) := by
  refine ⟨by rw [Array.size_replicate], fun j i h => ?_, fun j j' i h => ?_, fun i h e => ?_⟩
  · rw [Array.getElem?_replicate] at h
    split at h <;> cases h
  · rw [Array.getElem?_replicate] at h
    split at h <;> cases h
  · cases e
theorem fold_ok {k : Nat} (hk : t.mask + 1 = 2 ^ k) : ∀ (rest done : List Int) (ow : Array (Option Nat)), Own t done ow → (done ++ rest).length ≤ t.mask + 1 →
    ∃ ow', rest.foldl (fun (acc : Option (Array (Option Nat) × Nat)) (h : Int) => (do
      let (owner, k) ← acc
      let j ← layClean.free t.mask owner (turns t.mask) (bits h % (t.mask + 1)) (bits h)
      pure (owner.setIfInBounds j (some k), k + 1) : Option (Array (Option Nat) × Nat))) (some (ow, done.length)) = some (ow', (done ++ rest).length) ∧ Own t (done ++ rest) ow'
  | [], done, ow, O, _ => ⟨ow, by rw [List.append_nil]; rfl, by rw [List.append_nil]; exact O⟩
  | h :: rest, done, ow, O, hr => by
    rw [List.length_append, List.length_cons] at hr
    obtain ⟨j, e1, O1⟩ := O.step hk (by (first | lia | omega)) h
    have hlen : (done ++ [h]).length = done.length + 1 := by rw [List.length_append]; rfl
    obtain ⟨ow', e2, O2⟩ := fold_ok hk rest (done ++ [h]) _ O1 (by rw [List.length_append, hlen]; (first | lia | omega))
    have ea : done ++ [h] ++ rest = done ++ h :: rest := by rw [List.append_assoc]; rfl
    rw [ea] at e2 O2
    refine ⟨ow', ?_, O2⟩
    rw [List.foldl_cons, ← e2, hlen]
    congr 1
    show (layClean.free t.mask ow (turns t.mask) (bits h % (t.mask + 1)) (bits h)).bind (fun j => some (ow.setIfInBounds j (some done.length), done.length + 1)) = _
    rw [e1]
    rfl
theorem lay_ok {k : Nat} (hk : t.mask + 1 = 2 ^ k) (hs : Array Int) (hr : hs.size ≤ t.mask + 1) : ∃ ow, layClean t.mask hs = some ow ∧ Own t hs.toList ow := by
  obtain ⟨ow, e, O⟩ := fold_ok hk hs.toList [] _ (own_nil (t := t)) (by rw [List.nil_append, Array.length_toList]; exact hr)
  rw [List.nil_append] at e O
  refine ⟨ow, ?_, O⟩
  unfold layClean
  rw [← Array.foldl_toList]
  exact congrArg (Option.map (·.1)) e
theorem filt_get {α β : Type} (f : α → Option β) : ∀ (l : List α), (∀ x ∈ l, (f x).isSome = true) → ∀ i : Nat, (l.filterMap f)[i]? = l[i]?.bind f
  | [], _, _ => rfl
  | x :: l, h, i => by
    obtain ⟨y, e⟩ := Option.isSome_iff_exists.mp (h x List.mem_cons_self)
    rw [List.filterMap_cons_some e]
    cases i with
    | zero => exact e.symm
    | succ i => exact filt_get f l (fun x hx => h x (List.mem_cons_of_mem _ hx)) i
theorem range_es {α : Type} (es : Array α) : (List.range es.size).filterMap (fun i => es[i]?) = es.toList := by
  refine List.ext_getElem? fun i => ?_
  rw [filt_get _ _ (fun x hx => by rw [Array.getElem?_eq_getElem (List.mem_range.mp hx)]; rfl)]
  by_cases hi : i < es.size
  · rw [List.getElem?_range hi]
    show es[i]? = _
    rw [Array.getElem?_toList]
  · rw [List.getElem?_eq_none (by rw [List.length_range]; (first | lia | omega)), List.getElem?_eq_none (by rw [Array.length_toList]; (first | lia | omega))]
    rfl
def live (mask : Nat) (ow : Array (Option Nat)) : List (Nat × Nat) := (List.range (mask + 1)).filterMap fun j => (ow.getD j none).map (j, ·)
theorem live_mem {hs : List Int} {ow : Array (Option Nat)} (O : Own t hs ow) (j i : Nat) : (j, i) ∈ live t.mask ow ↔ ow[j]? = some (some i) := by
  unfold live
  rw [List.mem_filterMap]
  constructor
  · rintro ⟨j', hj, e⟩
    rw [Array.getD_eq_getD_getElem?] at e
    cases h : ow[j']? with
    | none => rw [h] at e; cases e
    | some v =>
      rw [h] at e
      cases v with
      | none => cases e
      | some l =>
        cases e
        exact h
  · intro h
    have hj : j < ow.size := (Array.getElem?_eq_some_iff.mp h).1
    refine ⟨j, List.mem_range.mpr (by rw [← O.size]; exact hj), ?_⟩
    rw [Array.getD_eq_getD_getElem?, h]
    rfl
theorem live_rise (mask : Nat) (ow : Array (Option Nat)) : (live mask ow).Pairwise fun a b => a.1 < b.1 := by
  unfold live
  refine List.Pairwise.filterMap _ (fun a a' haa b hb b' hb' => ?_) List.pairwise_lt_range
  obtain ⟨_, _, rfl⟩ := Option.map_eq_some_iff.mp hb
  obtain ⟨_, _, rfl⟩ := Option.map_eq_some_iff.mp hb'
  exact haa
theorem live_perm {hs : List Int} {ow : Array (Option Nat)} (O : Own t hs ow) : ((live t.mask ow).map (·.2)).Perm (List.range hs.length) := by
  refine (List.perm_ext_iff_of_nodup ?_ List.nodup_range).mpr fun i => ?_
  · rw [List.nodup_iff_pairwise_ne, List.pairwise_map]
    refine (live_rise t.mask ow).imp_of_mem fun {a b} ha hb hab e => ?_
    have h1 := (live_mem O a.1 a.2).mp ha
    have h2 := (live_mem O b.1 b.2).mp hb
    rw [e] at h1
    have := O.inj _ _ _ h1 h2
    (first | lia | omega)
  · rw [List.mem_map, List.mem_range]
    constructor
    · rintro ⟨⟨j, i'⟩, hm, rfl⟩
      exact O.val j _ ((live_mem O j i').mp hm)
    · intro hi
      obtain ⟨j, _, h1, _⟩ := O.all i _ (List.getElem?_eq_getElem hi)
      exact ⟨(j, i), (live_mem O j i).mpr h1, rfl⟩
end
/-- a table laid anew keeps the invariant and all items -/
theorem laid_ok {mask k : Nat} (h3 : 3 ≤ k) (h24 : k ≤ 24) (hk : mask + 1 = 2 ^ k) (finger moves : Nat) (led plain : Bool) (es : Array (Int × Value)) (hr : es.size ≤ mask) :
    ∃ u order, laid mask finger moves led plain (es.map (·.1)) = some (u, order) ∧ u.mask = mask ∧ u.plain = plain ∧ u.led = led ∧ Tab u (order.filterMap (es[·]?)) ∧ (order.filterMap (es[·]?)).toList.Perm es.toList := by
  let t0 : SetTable := { mask, place := #[], dummies := #[], finger, led, moves, plain }
  obtain ⟨ow, e, O⟩ := lay_ok (t := t0) hk (es.map (·.1)) (by rw [Array.size_map]; show es.size ≤ mask + 1; (first | lia | omega))
  have hlen : (es.map (·.1)).toList.length = es.size := by rw [Array.length_toList, Array.size_map]
  have P := live_perm O
  rw [hlen] at P
  have hsome : ∀ i ∈ (live mask ow).map (·.2), (es[i]?).isSome = true := fun i hi => by
    have := List.mem_range.mp (P.mem_iff.mp hi)
    rw [Array.getElem?_eq_getElem this]
    rfl
  have hperm : (((live mask ow).map (·.2)).filterMap (es[·]?)).Perm es.toList := by
    have := P.filterMap (es[·]?)
    rw [range_es] at this
    exact this
  have hes : (((live mask ow).map (·.2)).toArray.filterMap (es[·]?)) = (((live mask ow).map (·.2)).filterMap (es[·]?)).toArray := by
    rw [List.filterMap_toArray]
  let u : SetTable := { mask, place := ((live mask ow).map (·.1)).toArray, dummies := #[], finger, led, moves, plain }
  have hul : (live mask ow).length = es.size := by
    have := P.length_eq
    rw [List.length_map, List.length_range] at this
    exact this
  have hris : Ris u.place := fun i j a b hij ha hb => by
    have ha' : ((live mask ow).map (·.1))[i]? = some a := by
      have := ha
      rw [List.getElem?_toArray] at this
      exact this
    have hb' : ((live mask ow).map (·.1))[j]? = some b := by
      have := hb
      rw [List.getElem?_toArray] at this
      exact this
    obtain ⟨i1, e1⟩ := List.getElem?_eq_some_iff.mp ha'
    obtain ⟨i2, e2⟩ := List.getElem?_eq_some_iff.mp hb'
    have pw : ((live mask ow).map (·.1)).Pairwise (· < ·) := by
      rw [List.pairwise_map]
      exact live_rise mask ow
    have := List.pairwise_iff_getElem.mp pw i j i1 i2 hij
    rw [e1, e2] at this
    exact this
  have hpl : ∀ i : Nat, u.place[i]? = ((live mask ow)[i]?).map (·.1) := fun i => by
    show (((live mask ow).map (·.1)).toArray)[i]? = _
    rw [List.getElem?_toArray, List.getElem?_map]
  refine ⟨u, ((live mask ow).map (·.2)).toArray, ?_, rfl, rfl, rfl, ⟨⟨k, h3, h24, hk⟩, ?_, hris, fun i j hij => ?_, rfl, ?_, fun i h v j h1 h2 => ?_⟩, ?_⟩
  · unfold laid
    rw [show layClean mask (es.map (·.1)) = some ow from e]
    rfl
  · rw [hes]
    show (((live mask ow).map (·.1)).toArray).size = _
    have hsz : ((((live mask ow).map (·.2)).filterMap (es[·]?)).toArray).size = es.size := by rw [List.size_toArray, hperm.length_eq, Array.length_toList]
    rw [hsz, List.size_toArray, List.length_map, hul]
  · rw [hpl] at hij
    obtain ⟨⟨j', i'⟩, h1, rfl⟩ := Option.map_eq_some_iff.mp hij
    have := (live_mem O j' i').mp (List.mem_of_getElem? h1)
    have := (Array.getElem?_eq_some_iff.mp this).1
    rw [O.size] at this
    exact Nat.le_of_lt_succ this
  · rw [hes, List.size_toArray, hperm.length_eq, Array.length_toList]
    exact hr
  · rw [hpl] at h2
    obtain ⟨⟨j', i'⟩, h3', rfl⟩ := Option.map_eq_some_iff.mp h2
    have hm := (live_mem O j' i').mp (List.mem_of_getElem? h3')
    rw [hes, List.getElem?_toArray, filt_get _ _ hsome, List.getElem?_map, h3'] at h1
    have h1' : es[i']? = some (h, v) := h1
    obtain ⟨j2, n, q1, q2, q3, q4⟩ := O.all i' h (by rw [Array.getElem?_toList, Array.getElem?_map, h1']; rfl)
    have ej := O.inj _ _ _ q1 hm
    refine ⟨n, q2, ?_, fun m hm' => ?_⟩
    · show (adv u n (u.probeStart h)).j = j'
      rw [← adv_mask (t := t0) (u := u) rfl, ← start_mask (t := t0) (u := u) rfl, q3, ej]
    · obtain ⟨l, hl⟩ := q4 m hm'
      rw [← adv_mask (t := t0) (u := u) rfl, ← start_mask (t := t0) (u := u) rfl]
      have hin := (live_mem O _ l).mpr hl
      obtain ⟨x, hx1, hx2⟩ := List.getElem_of_mem hin
      refine ⟨x, (slot_live hris).mpr ?_⟩
      rw [hpl, List.getElem?_eq_getElem hx1, hx2]
      rfl
  · rw [hes]
    exact hperm
end WS

set_option Elab.async false
set_option linter.all false
set_option maxRecDepth 100000
set_option maxHeartbeats 4000000
namespace WS
open PySem SetTable
theorem adv_dummy {t : SetTable} : ∀ (n : Nat) (p : Probe), (adv t n p).dummy = p.dummy
  | 0, _ => rfl
  | n + 1, p => by
    show (adv t n (t.advance p)).dummy = p.dummy
    rw [adv_dummy n]
    unfold advance
    split <;> rfl
theorem start_dummy {t : SetTable} (n : Nat) (h : Int) : (adv t n (t.probeStart h)).dummy = none := by
  rw [adv_dummy]
  rfl
end WS
namespace PySem
open SetTable WS
section
variable {prog : Program} {w : World} {K : Type} [DecidableEq K] {knd : HeapKind prog w K} {A : Around} {E : Value → Shared → Prop} {s : Shared}
/-- the items of a set: objects of a kind, with their hashes -/
def ElemsH (knd : HeapKind prog w K) (h : Heap) (es : Array (Int × Value)) : Prop := ∀ e ∈ es.toList, ∃ k b, e.2 = .ref b ∧ knd.is h k b ∧ e.1 = knd.hash k
def HasH (knd : HeapKind prog w K) (h : Heap) (es : Array (Int × Value)) (k : K) : Prop := ∃ (i : Nat) (x : Int) (b : Addr), es[i]? = some (x, .ref b) ∧ knd.is h k b
theorem set_searchH {a b : Addr} {o : Obj} {es : Array (Int × Value)} {ep : Nat} {t : SetTable} {k : K} {Q : SetFound → Shared → Prop} (hroom : knd.room A) (ho : s.heap.get? a = some o) (hd : o.data = .set es ep t) (hf : t.fits es.size = true) (T : Tab t es)
    (he : ElemsH knd s.heap es) (hx : knd.is s.heap k b) (hseen : ∀ (R : Bool → Shared → Prop), R false s → wpAny (model prog w) A (searchCouldBeSeen (.ref b) ((es.filter (·.1 == knd.hash k)).toList.map (·.2))) R E s)
    (h1 : HasH knd s.heap es k → Q (.there none) s) (h2 : ¬ HasH knd s.heap es k → ∀ n, n < 10 * turns t.mask → Way t (knd.hash k) n → t.slot (adv t n (t.probeStart (knd.hash k))).j = .empty → Q (.free (adv t n (t.probeStart (knd.hash k))).j false) s) :
    ∀ (fuel n : Nat) (stand : Option Probe), 10 * turns t.mask < fuel + n → Way t (knd.hash k) n → stand.getD (t.probeStart (knd.hash k)) = adv t n (t.probeStart (knd.hash k)) → (∀ m i, m < n → t.slot (adv t m (t.probeStart (knd.hash k))).j = .live i → ∀ x b', es[i]? = some (x, .ref b') → ¬ knd.is s.heap k b') →
      wpAny (model prog w) A (setSearchFrom a (.ref b) (knd.hash k) true fuel stand) Q E s
  | 0, n, stand, hfu, hw, hst, hps => by
    exfalso
    obtain ⟨m, q1, q2, _⟩ := T.met_on (fun _ => 0) (knd.hash k) hw
    (first | lia | omega)
  | fuel + 1, n, stand, hfu, hw, hst, hps => by
    have hgw : t.gaveWay = false := by
      obtain ⟨j, j3, _, hj⟩ := T.pow
      unfold gaveWay
      have : 2 ^ j = 2 * 2 ^ (j - 1) := by
        rw [← Nat.pow_succ']
        congr 1
        (first | lia | omega)
      have h1 : t.mask % 2 = 1 := by (first | lia | omega)
      rw [h1]
      rfl
    unfold setSearchFrom
    refine wpAny_bind (wpAny_setState_of ho hd hf ?_)
    dsimp only
    rw [hgw, hst]
    obtain ⟨m, q1, q2, q3, q4⟩ := T.met_on (fun i => ((es[i]?).map (·.1)).getD 0) (knd.hash k) hw
    rw [if_neg Bool.false_ne_true]
    -- where an item of that key lies
    have before : ∀ (i : Nat) (x : Int) (b' : Addr), es[i]? = some (x, .ref b') → knd.is s.heap k b' → ∃ m', m' < 10 * turns t.mask ∧ n ≤ m' ∧ t.slot (adv t m' (t.probeStart (knd.hash k))).j = .live i ∧ Way t (knd.hash k) m' ∧ x = knd.hash k := fun i x b' hi hk => by
      obtain ⟨k', b2, e1, e2, e3⟩ := he (x, .ref b') (by rw [← Array.getElem?_toList] at hi; exact List.mem_of_getElem? hi)
      cases e1
      have := knd.inj e2 hk
      subst this
      dsimp only at e3
      subst e3
      have hil : i < t.place.size := by
        rw [T.size]
        exact (Array.getElem?_eq_some_iff.mp hi).1
      obtain ⟨m', r1, r2, r3⟩ := T.reach i (knd.hash k') (.ref b') _ hi (Array.getElem?_eq_getElem hil)
      have hsl : t.slot (adv t m' (t.probeStart (knd.hash k'))).j = .live i := by
        rw [r2]
        exact (slot_live T.ris).mpr (Array.getElem?_eq_getElem hil)
      refine ⟨m', r1, ?_, hsl, r3, rfl⟩
      rcases Nat.lt_or_ge m' n with z | z
      · exact absurd hk (hps m' i z hsl _ _ hi)
      · exact z
    rcases q4 with ⟨qe, qp⟩ | ⟨l, ql, qh, qp⟩
    · erw [qp]
      rw [start_dummy]
      dsimp only
      have hno : ¬ HasH knd s.heap es k := fun ⟨i, x, b', hi, hk⟩ => by
        obtain ⟨m', r1, r2, r3, r4, rfl⟩ := before i x b' hi hk
        rcases Nat.lt_or_ge m' m with z | z
        · obtain ⟨l, e1, e2⟩ := q3 m' r2 z
          rw [r3] at e1
          cases e1
          rw [hi] at e2
          exact absurd (beq_self_eq_true _) (by rw [show ((Option.map (fun x : Int × Value => x.fst) (some (knd.hash k, Value.ref b'))).getD 0) = knd.hash k from rfl] at e2; rw [e2]; exact Bool.false_ne_true)
        · rcases Nat.lt_or_ge m m' with z' | z'
          · obtain ⟨l, e1⟩ := r4 m z'
            rw [qe] at e1
            cases e1
          · have : m = m' := by (first | lia | omega)
            subst this
            rw [qe] at r3
            cases r3
      have hway : Way t (knd.hash k) m := fun i hi => by
        rcases Nat.lt_or_ge i n with z | z
        · exact hw i z
        · obtain ⟨l, e, _⟩ := q3 i z hi
          exact ⟨l, e⟩
      exact wpAny_pure (h2 hno m q2 hway qe)
    · erw [qp]
      dsimp only
      have hll : l < es.size := by
        rw [← T.size]
        exact (Array.getElem?_eq_some_iff.mp ((slot_live T.ris).mp ql)).1
      obtain ⟨k2, b2, e1, e2, e3⟩ := he es[l] (by rw [← Array.getElem_toList hll]; exact List.getElem_mem _)
      have hel : es[l]? = some (es[l].1, .ref b2) := by
        rw [Array.getElem?_eq_getElem hll, ← e1]
      have hsm : t.sameMemory t.moves t.mask = some true := by
        unfold sameMemory
        rw [beq_self_eq_true]
        rfl
      have next : ¬ k2 = k → wpAny (model prog w) A (setSearchFrom a (.ref b) (knd.hash k) true fuel (some (adv t (m + 1) (t.probeStart (knd.hash k))))) Q E s := fun hne => by
        refine set_searchH hroom ho hd hf T he hx hseen h1 h2 fuel (m + 1) _ (by (first | lia | omega)) (fun i hi => ?_) rfl (fun m' i' hm' hs' x b' hi' hk' => ?_)
        · rcases Nat.lt_or_ge i n with z | z
          · exact hw i z
          · rcases Nat.lt_or_ge i m with z' | z'
            · obtain ⟨l', e, _⟩ := q3 i z z'
              exact ⟨l', e⟩
            · have : i = m := by (first | lia | omega)
              subst this
              exact ⟨l, ql⟩
        · rcases Nat.lt_or_ge m' n with z | z
          · exact hps m' i' z hs' x b' hi' hk'
          · rcases Nat.lt_or_ge m' m with z' | z'
            · obtain ⟨l', e, e'⟩ := q3 m' z z'
              rw [hs'] at e
              cases e
              obtain ⟨m2, _, _, _, _, rfl⟩ := before i' x b' hi' hk'
              rw [hi'] at e'
              rw [show ((Option.map (fun x : Int × Value => x.fst) (some (knd.hash k, Value.ref b'))).getD 0) = knd.hash k from rfl, beq_self_eq_true] at e'
              cases e'
            · have : m' = m := by (first | lia | omega)
              subst this
              rw [ql] at hs'
              cases hs'
              rw [hel] at hi'
              cases hi'
              exact hne (knd.inj e2 hk')
      rw [hel]
      have fin : ∀ (hh : k2 = k), HasH knd s.heap es k := fun hh => ⟨l, _, b2, hel, hh ▸ e2⟩
      cases hled : t.led with
      | true =>
        rw [if_neg (by decide)]
        dsimp only
        refine wpAny_bind (wpAny_holding (knd.eqBool hroom e2 hx ?_))
        refine wpAny_bind (wpAny_setState_of ho hd hf ?_)
        dsimp only
        by_cases hkk : k2 = k
        · rw [decide_eq_true hkk, if_pos (show (true && true) = true from rfl)]
          exact wpAny_pure (h1 (fin hkk))
        · rw [decide_eq_false hkk, if_neg (show ¬ (true && false) = true by decide), hsm]
          dsimp only
          rw [if_pos rfl, ql]
          dsimp only
          rw [hel]
          dsimp only
          refine wpAny_bind (wpAny_isSame_ref_self ?_)
          refine wpAny_bind (wpAny_pure ?_)
          rw [if_pos rfl]
          dsimp only
          rw [if_neg Bool.false_ne_true]
          exact next hkk
      | false =>
        rw [if_pos (show (!false) = true from rfl)]
        refine wpAny_bind (hseen _ ?_)
        rw [if_neg Bool.false_ne_true]
        dsimp only
        refine wpAny_bind (wpAny_holding (knd.eqBool hroom e2 hx ?_))
        refine wpAny_bind (wpAny_setState_of ho hd hf ?_)
        dsimp only
        by_cases hkk : k2 = k
        · rw [decide_eq_true hkk, if_pos (show (true && true) = true from rfl)]
          exact wpAny_pure (h1 (fin hkk))
        · rw [decide_eq_false hkk, if_neg (show ¬ (true && false) = true by decide), hsm]
          dsimp only
          rw [if_pos rfl, ql]
          dsimp only
          rw [hel]
          dsimp only
          refine wpAny_bind (wpAny_isSame_ref_self ?_)
          refine wpAny_bind (wpAny_pure ?_)
          rw [if_pos rfl]
          dsimp only
          rw [if_neg Bool.false_ne_true]
          exact next hkk
end
end PySem

set_option Elab.async false
set_option linter.all false
set_option maxRecDepth 100000
set_option maxHeartbeats 4000000
namespace WS
open PySem SetTable
theorem above_go : ∀ (fuel n c : Nat), n < 2 ^ (c + fuel) → ∃ k, c ≤ k ∧ sizeAbove.go n fuel (2 ^ c) = 2 ^ k ∧ n < 2 ^ k ∧ (2 ^ k ≤ 2 ^ c ∨ 2 ^ k ≤ 2 * n)
  | 0, n, c, h => ⟨c, Nat.le_refl _, rfl, h, .inl (Nat.le_refl _)⟩
  | fuel + 1, n, c, h => by
    unfold sizeAbove.go
    by_cases q : 2 ^ c ≤ n
    · rw [if_pos q, show 2 ^ c * 2 = 2 ^ (c + 1) from (Nat.pow_succ ..).symm]
      obtain ⟨k, h1, h2, h3, h4⟩ := above_go fuel n (c + 1) (by rw [show c + 1 + fuel = c + (fuel + 1) by (first | lia | omega)]; exact h)
      refine ⟨k, by (first | lia | omega), h2, h3, ?_⟩
      rcases h4 with h4 | h4
      · right
        rw [Nat.pow_succ] at h4
        (first | lia | omega)
      · exact .inr h4
    · rw [if_neg q]
      exact ⟨c, Nat.le_refl _, rfl, by (first | lia | omega), .inl (Nat.le_refl _)⟩
theorem above_ok {n : Nat} (h : n ≤ 4000) : ∃ k, 3 ≤ k ∧ k ≤ 24 ∧ sizeAbove n = 2 ^ k ∧ n < 2 ^ k ∧ 2 ^ k ≤ 8000 := by
  obtain ⟨k, h1, h2, h3, h4⟩ := above_go 64 n 3 (Nat.lt_of_le_of_lt h (by decide))
  have h8 : 2 ^ k ≤ 8000 := by
    rcases h4 with h4 | h4
    · exact Nat.le_trans h4 (by decide)
    · (first | lia | omega)
  refine ⟨k, h1, ?_, h2, h3, h8⟩
  rcases Nat.lt_or_ge 24 k with z | z
  · have : 2 ^ 24 ≤ 2 ^ k := Nat.pow_le_pow_right (by decide) (by (first | lia | omega))
    have : (2 : Nat) ^ 24 = 16777216 := by decide
    (first | lia | omega)
  · exact z
theorem grown_ok {n : Nat} (h : n ≤ 1000) : grown n = 4 * n := by
  unfold grown
  rw [if_neg (by (first | lia | omega))]
  (first | lia | omega)
theorem Tab.fits {t : SetTable} {es : Array (Int × Value)} (T : Tab t es) : t.fits es.size = true := by
  unfold SetTable.fits SetTable.fill
  rw [T.nod, T.size]
  have := T.room
  simp
  (first | lia | omega)
theorem Tab.full {t : SetTable} {es : Array (Int × Value)} (T : Tab t es) : t.tooFull = decide (es.size * 5 ≥ t.mask * 3) := by
  unfold SetTable.tooFull SetTable.fill
  rw [T.nod, T.size]
  simp
end WS
namespace PySem
open SetTable WS
theorem insert_perm {α : Type} {xs : Array α} {p : Nat} {x : α} (hp : p ≤ xs.size) : (insertAt xs p x).toList.Perm (x :: xs.toList) := by
  unfold insertAt
  rw [Array.toList_append, Array.toList_push, Array.toList_extract, Array.toList_extract]
  have h1 : List.extract xs.toList 0 p = xs.toList.take p := by simp [List.extract]
  have h2 : List.extract xs.toList p xs.size = xs.toList.drop p := by
    unfold List.extract
    exact List.take_of_length_le (by rw [List.length_drop, Array.length_toList]; exact Nat.le_refl _)
  rw [h1, h2, List.append_assoc]
  refine List.perm_middle.trans ?_
  show (x :: (xs.toList.take p ++ xs.toList.drop p)).Perm _
  rw [List.take_append_drop]
theorem set_store {h : Heap} {a : Addr} {o : Obj} {es : Array (Int × Value)} {ep : Nat} {t : SetTable} (ho : h.get? a = some o) (hd : o.data = .set es ep t) (es' : Array (Int × Value)) (t' : SetTable) :
    (h.update a (Obj.putSet es' t')).get? a = some { o with data := .set es' (ep + 1) t' } := by
  have := Heap.get?_update_self (Obj.putSet es' t') ho (by rw [putSet_of es' t' hd]; rfl)
  rw [putSet_of es' t' hd] at this
  exact this
section
variable {prog : Program} {w : World} {K : Type} [DecidableEq K] {knd : HeapKind prog w K} {A : Around} {E : Value → Shared → Prop} {s : Shared}
/-- a set of objects of a kind, as the model has it -/
def SetAt (h : Heap) (a : Addr) (es : Array (Int × Value)) (ld : Bool) : Prop := ∃ o ep t, h.get? a = some o ∧ o.ExactSet ∧ o.data = .set es ep t ∧ Tab t es ∧ t.plain = true ∧ t.led = ld ∧ t.mask ≤ 8000 ∧ es.size * 5 < t.mask * 3
theorem set_addH {a b : Addr} {es : Array (Int × Value)} {ld : Bool} {k : K} {Q : Bool → Shared → Prop} (hroom : knd.room A) (S : SetAt s.heap a es ld) (he : ElemsH knd s.heap es) (hx : knd.is s.heap k b) (hz : es.size < 1000)
    (hseen : ∀ (R : Bool → Shared → Prop), R false s → wpAny (model prog w) A (searchCouldBeSeen (.ref b) ((es.filter (·.1 == knd.hash k)).toList.map (·.2))) R E s)
    (hbv : ∀ (R : Bool → Shared → Prop), R true s → wpAny (model prog w) A (hashByValue 8 (.ref b)) R E s)
    (h1 : HasH knd s.heap es k → Q false s) (h2 : ¬ HasH knd s.heap es k → ∀ h' es', Heap.SameBut a s.heap h' → SetAt h' a es' ld → es'.toList.Perm ((knd.hash k, .ref b) :: es.toList) → Q true { s with heap := h' }) :
    wpAny (model prog w) A (setAddHashed a (.ref b) (knd.hash k)) Q E s := by
  obtain ⟨o, ep, t, ho, hex, hd, T, hpl, hld, hmk, hnf⟩ := S
  obtain ⟨kk, kk3, _, hkk⟩ := T.pow
  have hm7 : 7 ≤ t.mask := by
    have : 2 ^ 3 ≤ 2 ^ kk := Nat.pow_le_pow_right (by decide) kk3
    (first | lia | omega)
  unfold setAddHashed setAddHashedIn
  refine wpAny_holding (wpAny_bind (wpAny_setState_of ho hd T.fits ?_))
  dsimp only
  rw [show byScan (.ref b) es = false from rfl, if_neg Bool.false_ne_true]
  refine wpAny_bind (set_searchH (knd := knd) hroom ho hd T.fits T he hx hseen (fun hh => ?_) (fun hn n hn1 hway hemp => ?_) 100000 0 none (by unfold turns; (first | lia | omega)) (fun m hm => absurd hm (Nat.not_lt_zero _)) rfl (fun m i hm => absurd hm (Nat.not_lt_zero _)))
  · dsimp only
    exact wpAny_pure (h1 hh)
  · dsimp only
    refine wpAny_bind (wpAny_setState_of ho hd T.fits ?_)
    dsimp only
    have TP := T.put (x := .ref b) hn1 hway hemp (by (first | lia | omega))
    generalize hj : (adv t n (t.probeStart (knd.hash k))).j = j at *
    have hb : (t.put j).2 ≤ es.size := by
      rw [← T.size]
      exact (below_ok j T.ris).1
    have hp1 := insert_perm (x := (knd.hash k, Value.ref b)) hb
    have hs1 : (insertAt es (t.put j).2 (knd.hash k, Value.ref b)).size = es.size + 1 := insert_size hb
    have hpl1 : (t.put j).1.plain = true := hpl
    have hld1 : (t.put j).1.led = ld := hld
    have hmk1 : (t.put j).1.mask ≤ 8000 := hmk
    rw [if_pos hpl1]
    refine wpAny_bind (hbv _ ?_)
    rw [if_pos rfl]
    generalize insertAt es (t.put j).2 (knd.hash k, Value.ref b) = es1 at *
    generalize (t.put j).1 = t1 at *
    refine wpAny_bind (wpAny_storeSet_of ho hd ?_ (by rw [hs1, PySem.sizeLine_eq]; (first | lia | omega)))
    have ho1 := set_store ho hd es1 t1
    have hsb1 := Heap.SameBut.update s.heap a (Obj.putSet es1 t1)
    rw [TP.full]
    by_cases hfull : es1.size * 5 ≥ t1.mask * 3
    · rw [decide_eq_true hfull, if_pos (show (!false && true) = true from rfl)]
      rw [grown_ok (by (first | lia | omega))]
      obtain ⟨c, c3, c24, ec, cl, cu⟩ := above_ok (n := 4 * (es.size + 1)) (by (first | lia | omega))
      obtain ⟨u, order, el, um, up, ul, TU, PU⟩ := laid_ok (mask := 2 ^ c - 1) c3 c24 (by (first | lia | omega)) t1.finger (t1.movedTo (2 ^ c - 1)) t1.led t1.plain es1 (by (first | lia | omega))
      have er : t1.relaid (es1.map (·.1)) (4 * (es.size + 1)) = some (u, order) := by
        unfold SetTable.relaid
        rw [ec]
        exact el
      have hsu : (order.filterMap (es1[·]?)).size = es1.size := by
        rw [← Array.length_toList, PU.length_eq, Array.length_toList]
      refine wpAny_bind ?_
      unfold setRelay
      refine wpAny_bind (wpAny_setState_of ho1 rfl TP.fits ?_)
      dsimp only
      rw [ec, if_neg (by rw [PySem.sizeLine_eq]; (first | lia | omega)), er]
      refine wpAny_bind ?_
      show wpAny _ _ (if ((order.filterMap (es1[·]?)).size != es1.size) = true then _ else pure (order.filterMap (es1[·]?), u)) _ _ _
      rw [if_neg (by rw [hsu]; simp)]
      refine wpAny_pure ?_
      dsimp only
      refine wpAny_storeSet_of ho1 rfl ?_ (by rw [hsu, hs1, PySem.sizeLine_eq]; (first | lia | omega))
      have ho2 := set_store ho1 rfl (order.filterMap (es1[·]?)) u
      refine wpAny_pure (h2 hn _ _ (hsb1.trans (Heap.SameBut.update _ a _)) ⟨_, _, u, ho2, hex, rfl, TU, by rw [up]; exact hpl1, by rw [ul]; exact hld1, by (first | lia | omega), by (first | lia | omega)⟩ (PU.trans hp1))
    · rw [decide_eq_false hfull, if_neg (show ¬ (!false && false) = true by decide)]
      exact wpAny_pure (h2 hn _ es1 hsb1 ⟨_, _, t1, ho1, hex, rfl, TP, hpl1, hld1, hmk1, by (first | lia | omega)⟩ hp1)
end
end PySem

set_option Elab.async false
set_option linter.all false
set_option maxRecDepth 100000
set_option maxHeartbeats 4000000
namespace PySem
open SetTable WS
section
variable {prog : Program} {w : World} {K : Type} [DecidableEq K] {knd : KeyKind prog w K} {A : Around} {E : Value → Shared → Prop} {s : Shared}
theorem ofAClass_byValue (n : Nat) {v : Value} (h : carriedByValue v = true) : ofAClassStatement n v = pure false := by
  cases v with
  | ref a => simp [carriedByValue] at h
  | _ => first | rfl | simp [ofAClassStatement] | (unfold ofAClassStatement; rfl)
theorem wpAny_ofAClass_tuple {ks : List K} {a : Addr} {Q : Bool → Shared → Prop} (hk : IsTupleKey knd s.heap ks a) (h : Q false s) : wpAny (model prog w) A (ofAClassStatement 8 (.ref a)) Q E s := by
  have hT := hk.typeIs
  obtain ⟨o, items, n, ho, _, hd, hi⟩ := hk
  unfold ofAClassStatement
  refine wpAny_bind (wpAny_typeOf hT ?_)
  dsimp only
  rw [if_pos (beq_self_eq_true ("tuple" : String))]
  refine wpAny_bind (wpAny_pure ?_)
  rw [if_neg (show ¬ (!true) = true by decide)]
  refine wpAny_bind (wpAny_seqItems ho hd ?_)
  dsimp only
  refine wpAny_bind ?_
  rw [← Array.forIn_toList]
  refine wpAny_forIn_list _ (fun rest r s' => r.1 = none ∧ s' = s ∧ ∀ v ∈ rest, carriedByValue v = true) _ ?_ ?_ _ _ ⟨rfl, rfl, hi.byValue⟩
  · rintro v rest r s' ⟨hr, rfl, hall⟩
    rw [ofAClass_byValue _ (hall v List.mem_cons_self)]
    refine wpAny_bind (wpAny_pure ?_)
    rw [if_neg Bool.false_ne_true]
    exact wpAny_pure ⟨rfl, rfl, fun u hu' => hall u (List.mem_cons_of_mem _ hu')⟩
  · rintro ⟨r1, r2⟩ s' ⟨hr, rfl, _⟩
    simp only at hr
    subst hr
    exact wpAny_pure h
theorem wpAny_hashByValue_tuple {a : Addr} {o : Obj} {items : Array Value} {n : Nat} {Q : Bool → Shared → Prop} (ho : s.heap.get? a = some o) (hc : o.cls = .type "tuple") (hd : o.data = .seq items n) (hi : ∀ v ∈ items.toList, ∃ i t, v = .int i t) (h : Q true s) : wpAny (model prog w) A (hashByValue 8 (.ref a)) Q E s := by
  have hT : s.TypeIs (.ref a) "tuple" := ⟨o, ho, hc⟩
  unfold hashByValue
  refine wpAny_bind (wpAny_specialOf hT F.slot_tuple_hash.lookup ?_)
  show wpAny _ _ (seqItems? (.ref a) >>= _) _ _ s
  refine wpAny_bind (wpAny_seqItems ho hd ?_)
  refine wpAny_bind ?_
  show wpAny _ _ (forIn items _ _) _ _ s
  rw [← Array.forIn_toList]
  refine wpAny_forIn_list _ (fun rest r s' => r.1 = none ∧ s' = s ∧ ∀ v ∈ rest, ∃ i t, v = .int i t) _ ?_ ?_ _ _ ⟨rfl, rfl, hi⟩
  · rintro v rest r s' ⟨hr, rfl, hall⟩
    obtain ⟨i, t, rfl⟩ := hall v List.mem_cons_self
    rw [show hashByValue 7 (.int i t) = pure true by first | rfl | simp [hashByValue] | (unfold hashByValue; rfl)]
    refine wpAny_bind (wpAny_pure ?_)
    rw [if_neg (show ¬ (!true) = true by decide)]
    exact wpAny_pure ⟨rfl, rfl, fun u hu' => hall u (List.mem_cons_of_mem _ hu')⟩
  · rintro ⟨r1, r2⟩ s' ⟨hr, rfl, _⟩
    simp only at hr
    subst hr
    exact wpAny_pure h
/-- the search for a tuple among tuples is not seen -/
theorem wpAny_unseen {k : List K} {b : Addr} {Q : Bool → Shared → Prop} (hk : IsTupleKey knd s.heap k b) (ys : List Value) (hy : ∀ v ∈ ys, ∃ k' b', v = .ref b' ∧ IsTupleKey knd s.heap k' b') (h : Q false s) : wpAny (model prog w) A (searchCouldBeSeen (.ref b) ys) Q E s := by
  unfold searchCouldBeSeen
  refine wpAny_bind ?_
  refine wpAny_forIn_list _ (fun rest r s' => r.1 = none ∧ s' = s ∧ ∀ v ∈ rest, ∃ k' b', v = .ref b' ∧ IsTupleKey knd s.heap k' b') _ ?_ ?_ _ _ ⟨rfl, rfl, hy⟩
  · rintro v rest r s' ⟨hr, rfl, hall⟩
    obtain ⟨k', b', rfl, hk'⟩ := hall v List.mem_cons_self
    have hall' := fun u hu' => hall u (List.mem_cons_of_mem _ hu')
    dsimp only
    split
    · exact wpAny_pure ⟨rfl, rfl, hall'⟩
    · refine wpAny_bind (wpAny_eqIsQuiet_tuple hk ?_)
      rw [if_neg (show ¬ (!true) = true by decide)]
      refine wpAny_bind (wpAny_eqIsQuiet_tuple hk' ?_)
      rw [if_neg (show ¬ (!true) = true by decide)]
      refine wpAny_bind (wpAny_ofAClass_tuple hk ?_)
      rw [if_neg Bool.false_ne_true]
      refine wpAny_bind (wpAny_ofAClass_tuple hk' ?_)
      rw [if_neg Bool.false_ne_true]
      exact wpAny_pure ⟨rfl, rfl, hall'⟩
  · rintro ⟨r1, r2⟩ s' ⟨hr, rfl, _⟩
    simp only at hr
    subst hr
    exact wpAny_pure h
end
end PySem

set_option Elab.async false
set_option linter.all false
set_option maxRecDepth 100000
set_option maxHeartbeats 4000000
namespace PySem
open SetTable WS PyProof.Rows
section
variable {prog : Program} {w : World} {K : Type} [DecidableEq K] {kn : KeyKind prog w K}
/-- a tuple of numbers, with its key -/
structure IsIT (kn : KeyKind prog w K) (h : Heap) (k : List K) (b : Addr) : Prop where
  key : IsTupleKey kn h k b
  nums : ∃ o items n, h.get? b = some o ∧ o.cls = .type "tuple" ∧ o.data = .seq items n ∧ ∀ v ∈ items.toList, ∃ i t, v = .int i t
theorem IsIT.keep {h h' : Heap} {k : List K} {b : Addr} (x : IsIT kn h k b) (e : ∀ o, h.get? b = some o → h'.get? b = some o) : IsIT kn h' k b := by
  obtain ⟨⟨o, items, n, h1, h2, h3, h4⟩, o', items', n', g1, g2, g3, g4⟩ := x
  exact ⟨⟨o, items, n, e _ h1, h2, h3, h4⟩, o', items', n', e _ g1, g2, g3, g4⟩
theorem IsIT.notSet {h : Heap} {k : List K} {b a : Addr} {es : Array (Int × Value)} (x : IsIT kn h k b) {ld : Bool} (S : SetAt h a es ld) : b ≠ a := by
  obtain ⟨o, ep, t, ho, _, hd, _⟩ := S
  obtain ⟨o', items', n', g1, _, g3, _⟩ := x.nums
  rintro rfl
  cases g1.symm.trans ho
  rw [g3] at hd
  cases hd
/-- how many have not been met before -/
def newOnes (ks : Nat → List K) : Nat → Nat
  | 0 => 0
  | i + 1 => newOnes ks i + (if (List.range i).any (fun j => decide (ks j = ks i)) = true then 0 else 1)
/-- the set after so many items -/
structure After (kn : KeyKind prog w K) (h : Heap) (S : Addr) (ks : Nat → List K) (ad : Nat → Addr) (ld : Bool) (i : Nat) (es : Array (Int × Value)) : Prop where
  tab : SetAt h S es ld
  els : ∀ e ∈ es.toList, ∃ j, j < i ∧ e = ((tupleKind kn).hash (ks j), .ref (ad j))
  has : ∀ j, j < i → ∃ j', j' < i ∧ ks j' = ks j ∧ ((tupleKind kn).hash (ks j'), Value.ref (ad j')) ∈ es.toList
  size : es.size = newOnes ks i
theorem newOnes_le (ks : Nat → List K) : ∀ i, newOnes ks i ≤ i
  | 0 => Nat.le_refl _
  | i + 1 => by
    have := newOnes_le ks i
    show newOnes ks i + (if (List.range i).any (fun j => decide (ks j = ks i)) = true then 0 else 1) ≤ i + 1
    split <;> (first | lia | omega)
section
variable {h h' : Heap} {S : Addr} {ks : Nat → List K} {ad : Nat → Addr} {ld : Bool} {i n : Nat} {es es' : Array (Int × Value)}
theorem After.keep (x : After kn h S ks ad ld i es) (hS : ∀ o, h.get? S = some o → h'.get? S = some o) : After kn h' S ks ad ld i es := by
  obtain ⟨⟨o, ep, t, ho, r⟩, he, hh, hs⟩ := x
  exact ⟨⟨o, ep, t, hS _ ho, r⟩, he, hh, hs⟩
theorem After.elsH (x : After kn h S ks ad ld i es) (its : ∀ j, j < n → IsIT kn h (ks j) (ad j)) (hi : i ≤ n) : ElemsH (tupleKind kn) h es := fun e hm => by
  obtain ⟨j, hj, rfl⟩ := x.els e hm
  exact ⟨ks j, ad j, rfl, (its j (by (first | lia | omega))).key, rfl⟩
theorem After.hasH (x : After kn h S ks ad ld i es) (its : ∀ j, j < n → IsIT kn h (ks j) (ad j)) (hi : i ≤ n) (k : List K) : HasH (tupleKind kn) h es k ↔ ∃ j, j < i ∧ ks j = k := by
  constructor
  · rintro ⟨m, y, b, e1, e2⟩
    obtain ⟨j, hj, e⟩ := x.els (y, .ref b) (by rw [← Array.getElem?_toList] at e1; exact List.mem_of_getElem? e1)
    cases e
    exact ⟨j, hj, (its j (by (first | lia | omega))).key.inj e2⟩
  · rintro ⟨j, hj, rfl⟩
    obtain ⟨j', hj', e, hm⟩ := x.has j hj
    obtain ⟨m, hm1, hm2⟩ := List.getElem_of_mem hm
    exact ⟨m, _, ad j', by rw [← Array.getElem?_toList, List.getElem?_eq_getElem hm1, hm2], e ▸ (its j' (by (first | lia | omega))).key⟩
theorem After.add (x : After kn h S ks ad ld i es) (hn : ¬ ∃ j, j < i ∧ ks j = ks i) (S' : SetAt h' S es' ld) (p : es'.toList.Perm (((tupleKind kn).hash (ks i), .ref (ad i)) :: es.toList)) : After kn h' S ks ad ld (i + 1) es' := by
  have hmem : ∀ e, e ∈ es'.toList ↔ e = ((tupleKind kn).hash (ks i), .ref (ad i)) ∨ e ∈ es.toList := fun e => by rw [p.mem_iff, List.mem_cons]
  refine ⟨S', fun e hm => ?_, fun j hj => ?_, ?_⟩
  · rcases (hmem e).mp hm with rfl | hm
    · exact ⟨i, by (first | lia | omega), rfl⟩
    · obtain ⟨j, hj, e⟩ := x.els e hm
      exact ⟨j, by (first | lia | omega), e⟩
  · by_cases q : j = i
    · subst q
      exact ⟨j, by (first | lia | omega), rfl, (hmem _).mpr (.inl rfl)⟩
    · obtain ⟨j', h1, h2, h3⟩ := x.has j (by (first | lia | omega))
      exact ⟨j', by (first | lia | omega), h2, (hmem _).mpr (.inr h3)⟩
  · have hl := p.length_eq
    rw [List.length_cons, Array.length_toList, Array.length_toList, x.size] at hl
    rw [hl]
    show newOnes ks i + 1 = newOnes ks i + (if (List.range i).any (fun j => decide (ks j = ks i)) = true then 0 else 1)
    rw [if_neg]
    intro z
    obtain ⟨j, hj, ej⟩ := List.any_eq_true.mp z
    exact hn ⟨j, List.mem_range.mp hj, of_decide_eq_true ej⟩
theorem After.stay (x : After kn h S ks ad ld i es) (hy : ∃ j, j < i ∧ ks j = ks i) : After kn h S ks ad ld (i + 1) es := by
  obtain ⟨j0, hj0, e0⟩ := hy
  refine ⟨x.tab, fun e hm => ?_, fun j hj => ?_, ?_⟩
  · obtain ⟨j, hj, e⟩ := x.els e hm
    exact ⟨j, by (first | lia | omega), e⟩
  · by_cases q : j = i
    · subst q
      obtain ⟨j', h1, h2, h3⟩ := x.has j0 hj0
      exact ⟨j', by (first | lia | omega), h2.trans e0, h3⟩
    · obtain ⟨j', h1, h2, h3⟩ := x.has j (by (first | lia | omega))
      exact ⟨j', by (first | lia | omega), h2, h3⟩
  · rw [x.size]
    show newOnes ks i = newOnes ks i + (if (List.range i).any (fun j => decide (ks j = ks i)) = true then 0 else 1)
    rw [if_pos]
    · rfl
    · exact List.any_eq_true.mpr ⟨j0, List.mem_range.mpr hj0, decide_eq_true e0⟩
end
theorem set_loopH {A : Around} {R : Result → Shared → Prop} {I : Addr} {fp wr : List Addr} {G : Array GenState → Array GenState → Prop} {n : Nat} {P : Nat → Value → Prop} {St : Nat → Shared → Prop} (W : WalksS prog w A.in1 I fp wr G n P St) (S : Addr) (hSf : S ∉ fp)
    (hu : A.in1.units < cLine) (ks : Nat → List K) (ad : Nat → Addr) (ld : Bool) (had : ∀ i, i < n → ad i ∉ wr) (hval : ∀ i v, P i v → v = .ref (ad i)) (hn : n < 1000) :
    ∀ (d i : Nat) (s : Shared), n - i = d → i ≤ n → St i s → (∃ es, After kn s.heap S ks ad ld i es) → (∀ j, j < n → IsIT kn s.heap (ks j) (ad j)) →
      (∀ s', Moved (S :: wr) G s s' → (∃ es, After kn s'.heap S ks ad ld n es) → R (.ok (.ret .none)) s') →
      codeAny (model prog w) A (.builtin "set.update.loop" ⟨[.ref S, .ref I], []⟩) R s := by
  have sw : S ∉ wr := fun z => hSf (W.sub _ z)
  have more : ∀ b ∈ wr, b ∈ S :: wr := fun b z => List.mem_cons_of_mem _ z
  intro d
  induction d with
  | zero =>
    intro i s e1 e2 st aft its fin
    obtain rfl : i = n := by (first | lia | omega)
    refine codeAny_builtin F.entry_set_update_loop ?_
    rw [Around.under_plainId F.plain_set_update_loop _]
    refine (show wpAny _ A.in1 (pyNext (.ref I) >>= _) _ _ s from ?_)
    refine wpAny_bind (W.done s _ _ st fun s' mv => ?_)
    refine (show wpAny _ A.in1 (ret Value.none) _ _ s' from ?_)
    obtain ⟨es, a⟩ := aft
    exact wpAny_pure (fin s' (mv.mono more) ⟨es, a.keep fun o e => mv.heap S o sw e⟩)
  | succ d ih =>
    intro i s e1 e2 st aft its fin
    have hlt : i < n := by (first | lia | omega)
    refine codeAny_builtin F.entry_set_update_loop ?_
    rw [Around.under_plainId F.plain_set_update_loop _]
    refine (show wpAny _ A.in1 (pyNext (.ref I) >>= _) _ _ s from ?_)
    refine wpAny_bind (W.item i s _ _ hlt st fun v s' hP st' mv => ?_)
    cases hval i v hP
    obtain ⟨es, a⟩ := aft
    have a' := a.keep (h' := s'.heap) fun o e => mv.heap S o sw e
    have its' : ∀ j, j < n → IsIT kn s'.heap (ks j) (ad j) := fun j hj => (its j hj).keep fun o e => mv.heap (ad j) o (had j hj) e
    refine (show wpAny _ A.in1 (holding [Value.ref (ad i)] (setAdd S (.ref (ad i))) >>= _) _ _ s' from ?_)
    refine wpAny_bind (wpAny_holding ?_)
    unfold setAdd
    refine wpAny_holding (wpAny_bind ((tupleKind kn).pyHash (k := ks i) hu (its' i hlt).key ?_))
    have hz := newOnes_le ks i
    have hsz := a.size
    obtain ⟨o3, items3, n3, g1, g2, g3, g4⟩ := (its' i hlt).nums
    refine set_addH (knd := tupleKind kn) (s := { s' with toks := s'.toks + (tupleKind kn).draws (ks i) }) hu a'.tab (a'.elsH its' e2) (its' i hlt).key (by (first | lia | omega))
      (fun Rr hr => wpAny_unseen (knd := kn) (s := { s' with toks := s'.toks + (tupleKind kn).draws (ks i) }) (its' i hlt).key _ (fun v hv => ?_) hr) (fun Rr hr => wpAny_hashByValue_tuple (s := { s' with toks := s'.toks + (tupleKind kn).draws (ks i) }) g1 g2 g3 g4 hr) (fun hy => ?_) (fun hno h2 es2 sb S2 p2 => ?_)
    · obtain ⟨e, he, rfl⟩ := List.mem_map.mp hv
      have he' : e ∈ es.toList := by
        have := Array.mem_toList_iff.mp he
        exact Array.mem_toList_iff.mpr (Array.mem_filter.mp this).1
      obtain ⟨k, b, q1, q2, _⟩ := a'.elsH its' e2 e he'
      exact ⟨k, b, q1, q2⟩
    · have hy' := (a'.hasH its' e2 (ks i)).mp hy
      refine wpAny_pure ⟨plainId_quiet F.plain_set_update_loop _, ih (i + 1) _ (by (first | lia | omega)) hlt (W.frame _ s' _ _ st' (Nat.le_add_right _ _) fun b hb o e => e) ⟨es, a'.stay hy'⟩ its' fun s2 mv2 aft2 => ?_⟩
      exact fin s2 (Moved.trans W.gtrans ((mv.mono more).then_heap (Nat.le_add_right _ _) fun b o hb e => e) mv2) aft2
    · have hno' := fun z => hno ((a'.hasH its' e2 (ks i)).mpr z)
      have a2 := a'.add hno' S2 p2
      have its2 : ∀ j, j < n → IsIT kn h2 (ks j) (ad j) := fun j hj => (its' j hj).keep fun o e => by
        rw [sb.2 (ad j) ((its' j hj).notSet a'.tab)]
        exact e
      refine wpAny_pure ⟨plainId_quiet F.plain_set_update_loop _, ih (i + 1) _ (by (first | lia | omega)) hlt (W.frame _ s' _ _ st' (Nat.le_add_right _ _) fun b hb o e => ?_) ⟨es2, a2⟩ its2 fun s2 mv2 aft2 => ?_⟩
      · rw [sb.2 b fun z : b = S => hSf (z ▸ hb)]
        exact e
      · refine fin s2 (Moved.trans W.gtrans ((mv.mono more).then_heap (Nat.le_add_right _ _) fun b o hb e => ?_) mv2) aft2
        rw [sb.2 b fun z : b = S => hb (z ▸ List.mem_cons_self)]
        exact e
theorem tab_none {fi mo : Nat} {led : Bool} : Tab (.fresh fi mo led) (#[] : Array (Int × Value)) := by
  refine ⟨⟨3, by decide, by decide, rfl⟩, rfl, ?_, ?_, rfl, Nat.zero_le _, ?_⟩
  · intro i j a b _ z
    simp [SetTable.fresh] at z
  · intro i j z
    simp [SetTable.fresh] at z
  · intro i x v j z
    simp at z
/-- a set that has just been made -/
theorem after_none {h : Heap} {S : Addr} {ks : Nat → List K} {ad : Nat → Addr} {led : Bool} (e : h.get? S = some { cls := .type "set", dict := none, data := .set #[] 0 (.fresh 0 0 led) }) : After kn h S ks ad led 0 #[] := by
  refine ⟨⟨_, 0, .fresh 0 0 led, e, ⟨rfl, rfl, rfl⟩, rfl, tab_none, rfl, rfl, ?_, ?_⟩, ?_, ?_, rfl⟩
  · show 7 ≤ 8000
    decide
  · show 0 * 5 < 7 * 3
    decide
  · intro x z
    simp at z
  · intro j z
    exact absurd z (Nat.not_lt_zero _)
end
end PySem

set_option Elab.async false
set_option linter.all false
set_option maxRecDepth 100000
set_option maxHeartbeats 4000000
namespace PySem
open SetTable WS
section
variable {prog : Program} {w : World} {K : Type} [DecidableEq K] {kn : KeyKind prog w K} {A : Around} {E : Value → Shared → Prop} {s : Shared}
/-- T(..): what __new__ gives, then what __init__ makes of it -/
theorem call_byType {T newId initId : String} {xs : List Value} {Q N : Value → Shared → Prop} (ft : TypeCalled T newId initId) (ct : checkTypeCall T ⟨xs, []⟩ = pure ())
    (new : codeAny (model prog w) A.in1 (.call (.builtin newId) ⟨.type T :: xs, []⟩) (wants N E) s)
    (ini : ∀ v s1, N v s1 → s1.TypeIs v T ∧ codeAny (model prog w) A.in1 (.call (.builtin initId) ⟨v :: xs, []⟩) (wants (fun r s2 => r = .none ∧ Q v s2) E) s1) :
    wpAny (model prog w) A (call (.type T) xs) Q E s := by
  have k1 := ft.made
  have k2 := ft.sub
  have k3 := ft.notType
  have k4 := ft.canCreate
  have ⟨_, _, k5⟩ := ft.mro
  refine wpAny_call (codeAny_of_tree (show wpAny _ _ (callAny (.type T) _) _ _ _ from wpAny_pure ⟨Code.quiet_builtin _ (by decide +kernel), codeAny_builtin F.entry_type_call ?_⟩))
  rw [Around.under_plain (weight_type_call_type T xs []) rfl]
  repeat (any_goals (first | assumption | wp_step))
  refine codeAny_mono new fun a s1 h1 => ?_
  match a, h1 with
  | .error _, h1 => exact h1
  | .ok .next, h1 => exact h1.elim
  | .ok .brk, h1 => exact h1.elim
  | .ok .cont, h1 => exact h1.elim
  | .ok (.ret v), h1 =>
    obtain ⟨ty, code⟩ := ini v s1 h1
    have k6 := ft.init.lookup
    have k7 := ft.init.bind v
    repeat (any_goals (first | assumption | wp_step))
    refine codeAny_mono code fun b s2 h2 => ?_
    match b, h2 with
    | .error _, h2 => exact h2
    | .ok .next, h2 => exact h2.elim
    | .ok .brk, h2 => exact h2.elim
    | .ok .cont, h2 => exact h2.elim
    | .ok (.ret _), ⟨rfl, h2⟩ =>
      repeat (any_goals (first | assumption | wp_step))
/-- set.__new__: whether its walks are led is the setting's -/
theorem code_newL (a : Value) {N : Value → Shared → Prop} (h : N (.ref s.heap.objs.size) { s with heap := s.heap.push { cls := .type "set", dict := none, data := .set #[] 0 (.fresh 0 0 (!w.params.followText "set-order")) } }) :
    codeAny (model prog w) A (.call (.builtin "set.__new__") ⟨[.type "set", a], []⟩) (wants N E) s := by
  refine codeAny_of_tree (show wpAny _ A.in1 (checkBuiltinCall "set.__new__" ⟨[.type "set", a], []⟩ >>= fun _ => again (.builtin "set.__new__" ⟨[.type "set", a], []⟩)) _ _ s from ?_)
  refine wpAny_bind (wpAny_of_eq (F.newCall_set_1 a) (wpAny_pure ⟨plainId_quiet F.plain_set_new _, codeAny_builtin F.entry_set_new ?_⟩))
  rw [Around.under_plainId F.plain_set_new _]
  have k := sub_set_self
  obtain ⟨_, _, _, _, _⟩ := s
  unfold Builtin.«set.__new__» Builtin.Frozenset.newClass
  dsimp only
  wp_walk
  refine wpAny_askSetting (wpAny_pure ?_)
  dsimp only
  simp only [newObj]
  exact wpAny_bind (wpAny_alloc (wpAny_pure (wpAny_pure h)))
/-- set.__init__ of a new set and a list of tuples of numbers -/
theorem code_initT {S l : Addr} {led : Bool} {items : Array Value} {ks : Nat → List K} {ad : Nat → Addr} {R : Result → Shared → Prop} (hh : A.handled = none) (hu : A.units + 2 < cLine) (hS : s.heap.get? S = some { cls := .type "set", dict := none, data := .set #[] 0 (.fresh 0 0 led) })
    (hl : s.heap.IsList l items) (hz : items.size < 1000) (hi : ∀ (i : Nat) v, items[i]? = some v → v = .ref (ad i)) (its : ∀ i, i < items.size → IsIT kn s.heap (ks i) (ad i))
    (fin : ∀ (h' : Heap) (tk : Nat), (∃ es, After kn h' S ks ad led items.size es) → (∀ b o, b ≠ S → s.heap.get? b = some o → h'.get? b = some o) → R (.ok (.ret .none)) { s with heap := h', toks := tk }) :
    codeAny (model prog w) A (.call (.builtin "set.__init__") ⟨[.ref S, .ref l], []⟩) R s := by
  have hT : s.TypeIs (.ref S) "set" := ⟨_, hS, rfl⟩
  refine codeAny_call_builtin F.called_set.init.plain F.entry_set_init (check_set_init_1 hT ?_)
  obtain ⟨o, ho, hc, n, hd⟩ := id hl
  have lS := Heap.lt_size hS
  have ll := Heap.lt_size ho
  have hSl : S ≠ l := by
    rintro rfl
    cases hS.symm.trans ho
    cases hd
  obtain ⟨_, _, _, _⟩ := o
  subst hc hd
  have m1 := F.sub_list_set
  have m2 := F.sub_list_frozenset
  have m3 : (Value.type "list" == Value.type "dict") = false := by decide
  unfold Builtin.«set.__init__» noKeywords Builtin.Frozenset.updateFrom
  generalize e : pyIter = go
  wp_walk
  subst e
  refine wpAny_pyIter_list hl (wpAny_bind (wpAny_runValue ?_))
  have kept : ∀ b o, s.heap.get? b = some o → (s.heap.push { cls := .type "list_iterator", data := .fields #[.ref l, .int 0 0] }).get? b = some o := fun b o q => Heap.get?_push_of_some _ q
  have far : ∀ {b o}, s.heap.get? b = some o → b ∉ [s.heap.objs.size] := fun q z => absurd (Heap.lt_size q) (by rw [List.mem_singleton.mp z]; exact Nat.lt_irrefl _)
  refine set_loopH (kn := kn) (Walks.list (A := A.in1.in1) (by simp [hh]) _ l (Nat.ne_of_lt ll) items).toS S (fun z => ?_) (by simp; (first | lia | omega)) ks ad led (fun i hi' z => ?_) hi hz items.size 0 _ rfl (Nat.zero_le _) ⟨⟨_, Heap.get?_push_size _ rfl, rfl, rfl⟩, hl.push _⟩ ⟨#[], after_none (kept _ _ hS)⟩ (fun j hj => (its j hj).keep fun o q => kept _ _ q) fun s2 mv af => ?_
  · rcases List.mem_cons.mp z with z | z
    · exact far hS (List.mem_singleton.mpr z)
    · exact hSl (List.mem_singleton.mp z)
  · obtain ⟨_, _, _, q, _⟩ := (its i hi').key
    exact far q z
  · obtain ⟨h2, _, _, tk, _⟩ := s2
    cases mv.gens
    cases mv.drawn
    cases mv.os
    refine (show wpAny _ _ (pure ()) _ _ _ from wpAny_pure ?_)
    refine (show wpAny _ _ (ret Value.none) _ _ _ from wpAny_pure (fin h2 tk af fun b o hb q => ?_))
    refine mv.heap b o (fun z => ?_) (kept _ _ q)
    rcases List.mem_cons.mp z with z | z
    · exact hb z
    · exact far q z
theorem call_setT {l : Addr} {items : Array Value} {ks : Nat → List K} {ad : Nat → Addr} {Q : Value → Shared → Prop} (hh : A.handled = none) (hu : A.units + 3 < cLine) (hl : s.heap.IsList l items) (hz : items.size < 1000) (hi : ∀ (i : Nat) v, items[i]? = some v → v = .ref (ad i)) (its : ∀ i, i < items.size → IsIT kn s.heap (ks i) (ad i))
    (h : ∀ (h' : Heap) (tk : Nat), (∃ es, After kn h' s.heap.objs.size ks ad (!w.params.followText "set-order") items.size es) → (∀ b o, b < s.heap.objs.size → s.heap.get? b = some o → h'.get? b = some o) → Q (.ref s.heap.objs.size) { s with heap := h', toks := tk }) :
    wpAny (model prog w) A (call (.type "set") [.ref l]) Q E s := by
  refine call_byType (N := fun v s1 => v = .ref s.heap.objs.size ∧ s1 = { s with heap := s.heap.push { cls := .type "set", dict := none, data := .set #[] 0 (.fresh 0 0 (!w.params.followText "set-order")) } }) F.called_set (F.typeCall_set_1 _) (code_newL _ ⟨rfl, rfl⟩) ?_
  rintro v s1 ⟨rfl, rfl⟩
  generalize (!w.params.followText "set-order") = led at *
  have new : (s.heap.push { cls := .type "set", dict := none, data := .set #[] 0 (.fresh 0 0 led) }).get? s.heap.objs.size = some { cls := .type "set", dict := none, data := .set #[] 0 (.fresh 0 0 led) } := Heap.get?_push_size _ rfl
  refine ⟨⟨_, new, rfl⟩, code_initT (kn := kn) (A := A.in1) hh (by simp; (first | lia | omega)) new (hl.push _) hz hi (fun i hi' => (its i hi').keep fun o q => Heap.get?_push_of_some _ q) fun h' tk af kp => ⟨rfl, h h' tk af fun b o hb q => ?_⟩⟩
  exact kp b o (Nat.ne_of_lt hb) (Heap.get?_push_of_some _ q)
end
end PySem

namespace PySem
section
variable {K : Type} [DecidableEq K]
/-- as many as there are items: all of them differ -/
theorem newOnes_all (ks : Nat → List K) : ∀ n, newOnes ks n = n ↔ ∀ i j, i < j → j < n → ks i ≠ ks j
  | 0 => ⟨fun _ i j _ h => absurd h (Nat.not_lt_zero _), fun _ => rfl⟩
  | n + 1 => by
    have ih := newOnes_all ks n
    have le := newOnes_le ks n
    show newOnes ks n + (if (List.range n).any (fun j => decide (ks j = ks n)) = true then 0 else 1) = n + 1 ↔ _
    by_cases q : (List.range n).any (fun j => decide (ks j = ks n)) = true
    · rw [if_pos q]
      obtain ⟨j, hj, ej⟩ := List.any_eq_true.mp q
      refine ⟨fun z => by (first | lia | omega), fun z => absurd (of_decide_eq_true ej) (z j n (List.mem_range.mp hj) (Nat.lt_succ_self _))⟩
    · rw [if_neg q]
      constructor
      · intro z i j hij hj
        by_cases e : j = n
        · subst e
          exact fun y => q (List.any_eq_true.mpr ⟨i, List.mem_range.mpr hij, decide_eq_true y⟩)
        · exact ih.mp (by (first | lia | omega)) i j hij (by (first | lia | omega))
      · intro z
        have := ih.mpr fun i j hij hj => z i j hij (by (first | lia | omega))
        (first | lia | omega)
end
end PySem

set_option Elab.async false
set_option linter.all false
set_option maxRecDepth 100000
set_option maxHeartbeats 1000000
namespace PySem
open PyProof.Rows
section
variable {prog : Program} {w : World} {A : Around} {E : Value → Shared → Prop} {s : Shared}
end
end PySem

set_option Elab.async false
set_option linter.all false
set_option maxRecDepth 100000
set_option maxHeartbeats 1000000
namespace SW
open PySem PySem.Spec PyProof.Rows L2 WM TS
section
variable {X : Cx}
end
end SW

set_option Elab.async false
set_option linter.all false
set_option maxRecDepth 100000
set_option maxHeartbeats 4000000
namespace SW
open PySem L2 WM TS
section
variable {X : Cx}
/-- len(set(e)), e a list of places -/
def tLenSet (K : PySem.W.Frag) (te : TE) : TE := fun σ H Q => te σ H fun x H1 => ∃ (a : Addr) (as : List Addr) (ps : List Pt), x = .ref a ∧ SqL K H1 a (as.map V.ref) ∧ Tups H1 as ps ∧ ps.length < 1000 ∧ Q (.int (newOnes (fun i => ptK (ps.getD i (0, 0))) ps.length : Nat)) H1
theorem pe_lenSet {e : Expr} {te : TE} {p p2 : Pos} {pos pos2 : Pos} (hc : X.calm = true) (hu : X.A.units + 4 < cLine) (hgL : Gl X "len") (hmL : X.mg "len" = none) (hgS : Gl X "set") (hmS : X.mg "set" = none) (ha : PE X e te)
    (he : starEach [e] X.env = (false, eval e X.env) :: starEach [] X.env := by rfl) (he2 : starEach [Expr.Call (.Name "set" p2) [e] [] pos2] X.env = (false, eval (Expr.Call (.Name "set" p2) [e] [] pos2) X.env) :: starEach [] X.env := by rfl) :
    PE X (.Call (.Name "len" p) [.Call (.Name "set" p2) [e] [] pos2] [] pos) (tLenSet X.K te) := by
  intro pins s σ H Q I h
  refine wpAny_Call_Name_kw (ld_blt I hgL hmL PySem.boot_len ?_ (by decide) (by decide))
  refine PyProof.Rows.callWith_builtin1 ?_ he2 rfl
  rw [he2]
  refine (show wpAny _ _ (spliced ((false, eval (Expr.Call (.Name "set" p2) [e] [] pos2) X.env) :: backTo pos (starEach [] X.env))) _ _ s from ?_)
  refine Calls.spliced_cons ?_
  refine wpAny_Call_Name_kw (ld_blt I hgS hmS PyProof.Rows.boot_set ?_ (by decide) (by decide))
  refine PyProof.Rows.callWith_type1 ?_ he rfl
  rw [he]
  refine (show wpAny _ _ (spliced ((false, eval e X.env) :: backTo pos2 (starEach [] X.env))) _ _ s from ?_)
  refine Calls.spliced_cons (thn (ha pins s σ H _ I h) fun u s1 ⟨x, H1, I1, r1, q1⟩ => ?_)
  refine Calls.spliced_nil ?_
  obtain ⟨a, as, ps, rfl, hS, hT, hz, q⟩ := q1
  cases (show u = Value.ref a from r1)
  obtain ⟨its, rv, pl, _⟩ := I1.list hS
  have ei := vals_refs rv
  subst ei
  obtain ⟨o, n, e1, e2, e3, e4⟩ := pl
  have hal : as.length = ps.length := Paired.length hT
  have esz : (as.map Value.ref).toArray.size = ps.length := by rw [List.size_toArray, List.length_map, hal]
  refine call_setT (kn := mixKind X.prog X.w) (ks := fun i => ptK (ps.getD i (0, 0))) (ad := fun i => as.getD i 0) (items := (as.map Value.ref).toArray) (I1.ok.hd hc) (by (first | lia | omega)) ⟨o, e1, by first | exact e2 | exact e3, n, e4⟩ (by rw [esz]; exact hz) (fun i v hv => ?_) (fun i hi => ?_) fun h' tk ⟨es, af⟩ kp => ?_
  · rw [List.getElem?_toArray, List.getElem?_map] at hv
    obtain ⟨b, hb, rfl⟩ := Option.map_eq_some_iff.mp hv
    rw [List.getD_eq_getElem?_getD, hb]
    rfl
  · rw [esz] at hi
    obtain ⟨q', hq', hb'⟩ := paired_get hT (List.getElem?_eq_getElem (show i < as.length by (first | lia | omega)))
    have ea : as.getD i 0 = as[i] := by rw [List.getD_eq_getElem?_getD, List.getElem?_eq_getElem (show i < as.length by (first | lia | omega))]; rfl
    have ep : ps.getD i (0, 0) = q' := by rw [List.getD_eq_getElem?_getD, hq']; rfl
    rw [ea, ep]
    refine ⟨key_of (ks := ptK q') I1.hok hb', ?_⟩
    obtain ⟨its2, rv2, ⟨o2, ho2, hc2, n2, hd2⟩, _⟩ := I1.tuple (SqT.of hb')
    refine ⟨o2, its2.toArray, n2, ho2, hc2, hd2, fun v hv => ?_⟩
    cases rv2 with
    | cons r1 rr =>
      cases rr with
      | cons r2 rr =>
        cases rr
        simp only [List.mem_cons, List.not_mem_nil, or_false] at hv
        rcases hv with rfl | rfl
        · obtain ⟨t, rfl⟩ := r1
          exact ⟨_, t, rfl⟩
        · obtain ⟨t, rfl⟩ := r2
          exact ⟨_, t, rfl⟩
  · refine Calls.spliced_nil ?_
    obtain ⟨o3, ep3, t3, g1, g2, g3, g4, _⟩ := af.tab
    have hsz := af.size
    rw [esz] at hsz
    have hle := newOnes_le (fun i => ptK (ps.getD i (0, 0))) ps.length
    refine call_len_set g1 g2 g3 g4.fits (by (first | lia | omega)) ?_
    refine ⟨.int _, H1, (I1.kept (h' := h') (t' := tk) fun b u hb => kp b u (Heap.lt_size hb) hb).tok _, ⟨_, rfl⟩, ?_⟩
    rw [hsz]
    exact q
end
end SW

set_option Elab.async false
set_option linter.all false
set_option maxRecDepth 100000
set_option maxHeartbeats 4000000
namespace PySem
open SetTable WS PyProof.Rows
/-! ### iter(a set), item by item -/
namespace ST
theorem slot_iter : Slot "set" "__iter__" "set.__iter__" :=
  .of (owner := "set") (n := "__iter__") (by rw [typeLookup_type, builtinLookup_eq_fast]; kernel_rfl) (by decide +kernel) (by decide +kernel) (by decide +kernel) (by first | exact .inl (by decide +kernel) | exact .inr (by decide +kernel)) (by rw [isSubtype_type]; kernel_rfl)
theorem slot_next : Slot "set_iterator" "__next__" "set_iterator.__next__" :=
  .of (owner := "set_iterator") (n := "__next__") (by rw [typeLookup_type, builtinLookup_eq_fast]; kernel_rfl) (by decide +kernel) (by decide +kernel) (by decide +kernel) (by first | exact .inl (by decide +kernel) | exact .inr (by decide +kernel)) (by rw [isSubtype_type]; kernel_rfl)
theorem slot_self : Slot "set_iterator" "__iter__" "set_iterator.__iter__" :=
  .of (owner := "set_iterator") (n := "__iter__") (by rw [typeLookup_type, builtinLookup_eq_fast]; kernel_rfl) (by decide +kernel) (by decide +kernel) (by decide +kernel) (by first | exact .inl (by decide +kernel) | exact .inr (by decide +kernel)) (by rw [isSubtype_type]; kernel_rfl)
theorem entry_iter : entryFor table "set.__iter__" = some Builtin.«frozenset.__iter__» := entryFor_alias (id' := "frozenset.__iter__") (by kernel_rfl) rfl (by decide +kernel) (by kernel_rfl)
theorem entry_next : entryFor table "set_iterator.__next__" = some Builtin.«set_iterator.__next__» := entryFor_of_tree (by kernel_rfl)
theorem entry_self : entryFor table "set_iterator.__iter__" = some Builtin.«dict_keyiterator.__iter__» := entryFor_alias (id' := "dict_keyiterator.__iter__") (by kernel_rfl) rfl (by decide +kernel) (by kernel_rfl)
theorem args_iter (a : Value) : argsOk "set.__iter__" ⟨[a], []⟩ := by
  unfold argsOk
  rw [signature?_of (id := "set.__iter__") (n := ['_', '_', 'r', 'e', 't', 'i', '_', '_']) (o := ['t', 'e', 's']) (by kernel_rfl) F.owner_set]
  kernel_rfl
theorem owner_it : Manifest.owners.lookup (String.ofList ['r', 'o', 't', 'a', 'r', 'e', 't', 'i', '_', 't', 'e', 's'].reverse) = some Manifest.sig_set_iterator := by kernel_rfl
theorem args_next (a : Value) : argsOk "set_iterator.__next__" ⟨[a], []⟩ := by
  unfold argsOk
  rw [signature?_of (id := "set_iterator.__next__") (n := ['_', '_', 't', 'x', 'e', 'n', '_', '_']) (o := ['r', 'o', 't', 'a', 'r', 'e', 't', 'i', '_', 't', 'e', 's']) (by kernel_rfl) owner_it]
  kernel_rfl
theorem args_self (a : Value) : argsOk "set_iterator.__iter__" ⟨[a], []⟩ := by
  unfold argsOk
  rw [signature?_of (id := "set_iterator.__iter__") (n := ['_', '_', 'r', 'e', 't', 'i', '_', '_']) (o := ['r', 'o', 't', 'a', 'r', 'e', 't', 'i', '_', 't', 'e', 's']) (by kernel_rfl) owner_it]
  kernel_rfl
end ST
theorem pick_go {α : Type} (next : Nat → Nat) : ∀ (fuel k : Nat) (left : List α) (out : Array α), fuel = left.length → (pickOrder.go next fuel k left out).size = out.size + left.length ∧ ∀ x ∈ (pickOrder.go next fuel k left out).toList, x ∈ out.toList ∨ x ∈ left
  | 0, k, left, out, h => by
    have : left = [] := List.length_eq_zero_iff.mp h.symm
    subst this
    exact ⟨rfl, fun x hx => .inl hx⟩
  | fuel + 1, k, left, out, h => by
    have hlt : next k % left.length < left.length := Nat.mod_lt _ (by (first | lia | omega))
    have e : pickOrder.go next (fuel + 1) k left out = pickOrder.go next fuel (k + 1) (left.eraseIdx (next k % left.length)) (out.push left[next k % left.length]) := by
      show (match left[next k % left.length]? with | some x => _ | none => _) = _
      rw [List.getElem?_eq_getElem hlt]
    have hl : (left.eraseIdx (next k % left.length)).length = left.length - 1 := List.length_eraseIdx_of_lt hlt
    obtain ⟨h1, h2⟩ := pick_go next fuel (k + 1) (left.eraseIdx (next k % left.length)) (out.push left[next k % left.length]) (by (first | lia | omega))
    rw [e]
    refine ⟨by rw [h1, Array.size_push, hl]; (first | lia | omega), fun x hx => ?_⟩
    rcases h2 x hx with h | h
    · rw [Array.toList_push, List.mem_append] at h
      rcases h with h | h
      · exact .inl h
      · rw [List.mem_singleton.mp h]
        exact .inr (List.getElem_mem hlt)
    · exact .inr (List.mem_of_mem_eraseIdx h)
theorem pick_ok {α : Type} (next : Nat → Nat) (xs : Array α) : (pickOrder next xs).size = xs.size ∧ ∀ x ∈ (pickOrder next xs).toList, x ∈ xs.toList := by
  obtain ⟨h1, h2⟩ := pick_go next xs.size 0 xs.toList #[] (by rw [Array.length_toList])
  refine ⟨h1.trans (by rw [Array.length_toList]; simp), fun x hx => ?_⟩
  rcases h2 x hx with h | h
  · simp at h
  · exact h
theorem below_at {xs : Array Nat} {i a : Nat} (R : Ris xs) (h : xs[i]? = some a) : below xs (a + 1) = i + 1 := by
  obtain ⟨b1, b2, b3⟩ := below_ok (a + 1) R
  have hi : i < xs.size := by
    rcases Nat.lt_or_ge i xs.size with z | z
    · exact z
    · rw [Array.getElem?_eq_none z] at h
      cases h
  rcases Nat.lt_trichotomy (below xs (a + 1)) (i + 1) with z | z | z
  · have := b3 i a (by (first | lia | omega)) h
    (first | lia | omega)
  · exact z
  · have hj : i + 1 < xs.size := by (first | lia | omega)
    have := b2 (i + 1) _ z (Array.getElem?_eq_getElem hj)
    have := R i (i + 1) a _ (Nat.lt_succ_self i) h (Array.getElem?_eq_getElem hj)
    (first | lia | omega)
theorem below_zero {xs : Array Nat} (R : Ris xs) : below xs 0 = 0 := by
  obtain ⟨b1, b2, b3⟩ := below_ok 0 R
  rcases Nat.eq_zero_or_pos (below xs 0) with z | z
  · exact z
  · have := b2 0 _ z (Array.getElem?_eq_getElem (by (first | lia | omega)))
    (first | lia | omega)
section
variable {prog : Program} {w : World} {A : Around} {E : Value → Shared → Prop} {s : Shared}
/-- a set, as it stands -/
structure SetIs (w : World) (h : Heap) (a : Addr) (es : Array (Int × Value)) (ep : Nat) (t : SetTable) : Prop where
  at_ : ∃ o, h.get? a = some o ∧ o.ExactSet ∧ o.data = .set es ep t
  tab : Tab t es
  plain : t.plain = true
  led : t.led = !w.params.followText "set-order"
theorem SetIs.keep {h h' : Heap} {a : Addr} {es : Array (Int × Value)} {ep : Nat} {t : SetTable} (x : SetIs w h a es ep t) (k : ∀ o, h.get? a = some o → h'.get? a = some o) : SetIs w h' a es ep t := by
  obtain ⟨⟨o, ho, r⟩, h1, h2, h3⟩ := x
  exact ⟨⟨o, k o ho, r⟩, h1, h2, h3⟩
/-- the turn of its walk -/
def ordS (w : World) (a : Addr) (ep : Nat) (es : Array (Int × Value)) : Array (Int × Value) := if w.params.followText "set-order" = true then pickOrder (w.params.setOrder a ep) es else es
theorem ordS_ok (w : World) (a : Addr) (ep : Nat) (es : Array (Int × Value)) : (ordS w a ep es).size = es.size ∧ ∀ x ∈ (ordS w a ep es).toList, x ∈ es.toList := by
  unfold ordS
  split
  · exact pick_ok _ _
  · exact ⟨rfl, fun x h => h⟩
def slS (w : World) (t : SetTable) : Nat → Nat
  | 0 => 0
  | i + 1 => if w.params.followText "set-order" = true then 0 else t.place.getD i 0 + 1
def SetIt (w : World) (h : Heap) (it a : Addr) (es : Array (Int × Value)) (ep : Nat) (t : SetTable) (i : Nat) : Prop := ∃ o, h.get? it = some o ∧ o.cls = .type "set_iterator" ∧ o.data = .fields #[rawInt (slS w t i : Nat), rawInt (i : Nat), .ref a, rawInt (es.size : Nat), rawInt (ep : Nat)]
theorem next_at {a : Addr} {es : Array (Int × Value)} {ep : Nat} {t : SetTable} {i : Nat} {Q : Option (Value × Nat) → Shared → Prop} (x : SetIs w s.heap a es ep t) (hi : i ≤ es.size)
    (h : Q (((ordS w a ep es)[i]?).map fun e => (e.2, slS w t (i + 1))) s) : wpAny (model prog w) A (setNext a (slS w t i) i ep) Q E s := by
  obtain ⟨⟨o, ho, hex, hd⟩, T, hpl, hld⟩ := x
  unfold setNext
  refine wpAny_bind (wpAny_setState_of ho hd T.fits ?_)
  dsimp only
  unfold setsByText
  refine wpAny_bind (wpAny_bind (wpAny_askSetting (wpAny_pure ?_)))
  show wpAny _ _ (if w.params.followText "set-order" = true then _ else _) _ _ _
  by_cases hf : w.params.followText "set-order" = true
  · rw [if_pos hf, if_neg (by simp)]
    have e1 : ∀ j, slS w t j = 0 := fun j => by
      cases j with
      | zero => rfl
      | succ j => exact if_pos hf
    rw [e1 (i + 1)] at h
    rw [e1 i]
    unfold ordS at h
    rw [if_pos hf] at h
    unfold setWalk
    refine wpAny_bind (wpAny_bind (wpAny_setState_of ho hd T.fits ?_))
    dsimp only
    unfold setsByText
    refine wpAny_bind (wpAny_bind (wpAny_askSetting (wpAny_pure ?_)))
    show wpAny _ _ (if w.params.followText "set-order" = true then _ else _) _ _ _
    rw [if_pos hf]
    exact wpAny_bind (wpAny_askSetting (wpAny_pure (wpAny_pure h)))
  · rw [if_neg hf]
    have ef : w.params.followText "set-order" = false := by
      cases q : w.params.followText "set-order" with
      | true => exact absurd q hf
      | false => rfl
    rw [ef] at hld
    unfold ordS at h
    rw [if_neg hf] at h
    rw [if_neg (fun z => by
      have z' : (!t.plain && decide (es.size > 1)) = true := z
      rw [hpl] at z'
      cases z')]
    refine wpAny_bind (show wpAny _ _ (if (!t.led && !es.isEmpty) = true then unsupported "set:maker-not-led" else pure ()) _ _ _ from ?_)
    rw [hld, if_neg (show ¬ ((!!false && !es.isEmpty) = true) by simp)]
    refine wpAny_pure (wpAny_pure ?_)
    have eb : i < es.size → below t.place (slS w t i) = i := fun hlt => by
      cases i with
      | zero => exact below_zero T.ris
      | succ j =>
        have hj : j < t.place.size := by rw [T.size]; (first | lia | omega)
        have : slS w t (j + 1) = t.place[j] + 1 := by
          show (if _ then _ else _) = _
          rw [if_neg hf, Array.getD_eq_getD_getElem?, Array.getElem?_eq_getElem hj]
          rfl
        rw [this]
        exact below_at T.ris (Array.getElem?_eq_getElem hj)
    by_cases hlt : i < es.size
    · have hp : i < t.place.size := by rw [T.size]; exact hlt
      rw [eb hlt, Array.getElem?_eq_getElem hlt, Array.getElem?_eq_getElem hp]
      have e2 : slS w t (i + 1) = t.place[i] + 1 := by
        show (if _ then _ else _) = _
        rw [if_neg hf, Array.getD_eq_getD_getElem?, Array.getElem?_eq_getElem hp]
        rfl
      rw [Array.getElem?_eq_getElem hlt, e2] at h
      exact h
    · have e3 : i = es.size := by (first | lia | omega)
      have hb : es.size ≤ below t.place (slS w t i) := by
        rcases Nat.eq_zero_or_pos es.size with z | z
        · (first | lia | omega)
        · obtain ⟨j, rfl⟩ : ∃ j, i = j + 1 := ⟨i - 1, by (first | lia | omega)⟩
          have hj : j < t.place.size := by rw [T.size]; (first | lia | omega)
          have : slS w t (j + 1) = t.place[j] + 1 := by
            show (if _ then _ else _) = _
            rw [if_neg hf, Array.getD_eq_getD_getElem?, Array.getElem?_eq_getElem hj]
            rfl
          rw [this, below_at T.ris (Array.getElem?_eq_getElem hj)]
          (first | lia | omega)
      rw [Array.getElem?_eq_none hb]
      rw [Array.getElem?_eq_none (by (first | lia | omega))] at h
      exact h
theorem pyNext_set {it a : Addr} {es : Array (Int × Value)} {ep : Nat} {t : SetTable} {i : Nat} {e : Int × Value} {Q : Option Value → Shared → Prop} (I : SetIt w s.heap it a es ep t i) (x : SetIs w s.heap a es ep t) (he : (ordS w a ep es)[i]? = some e) (hne : a ≠ it)
    (hQ : ∀ h', SetIt w h' it a es ep t (i + 1) → Heap.SameBut it s.heap h' → Q (some e.2) { s with heap := h' }) : wpAny (model prog w) A (pyNext (.ref it)) Q E s := by
  obtain ⟨o, ho, hc, hf⟩ := id I
  have hi : i < es.size := by
    rw [← (ordS_ok w a ep es).1]
    exact (Array.getElem?_eq_some_iff.mp he).1
  have hT : s.TypeIs (.ref it) "set_iterator" := ⟨o, ho, hc⟩
  unfold pyNext
  refine wpAny_bind (wpAny_attempt (wpAny_callSpecial?_slot (name := Str.ofString "__next__") hT ST.slot_next (wpAny_call_entry ST.slot_next hT ST.entry_next ?_ (ST.args_next _))))
  unfold Builtin.«set_iterator.__next__»
  refine wpAny_bind (m := slotArgs "__next__" 0 _) (wpAny_of_eq (a := (Value.ref it, [])) rfl ?_)
  refine wpAny_bind (wpAny_fieldsOf ho hf ?_)
  obtain ⟨⟨oa, hoa, hex, hda⟩, T, _, _⟩ := id x
  show wpAny _ _ (setEntries a >>= _) _ _ _
  refine wpAny_bind (show wpAny _ _ (setState a >>= fun r => pure r.1) _ _ _ from wpAny_bind (wpAny_setState_of hoa hda T.fits (wpAny_pure ?_)))
  dsimp only
  rw [if_neg (by simp)]
  show wpAny _ _ (setNext a ((slS w t i : Int)).toNat ((i : Int)).toNat ((ep : Int)).toNat >>= _) _ _ _
  rw [Int.toNat_natCast, Int.toNat_natCast, Int.toNat_natCast]
  refine wpAny_bind (next_at x (Nat.le_of_lt hi) ?_)
  rw [he]
  dsimp only [Option.map]
  refine wpAny_bind (wpAny_setField ho hf (by simp) ?_)
  have ho1 := Heap.get?_update_self (Obj.mapFields fun x => x.setIfInBounds 0 (rawInt ↑(slS w t (i + 1)))) ho (Obj.isFreed_of_fields (Obj.data_mapFields hf _))
  have hf1 := Obj.data_mapFields hf fun x => x.setIfInBounds 0 (rawInt ↑(slS w t (i + 1)))
  refine wpAny_bind (wpAny_setField ho1 hf1 (by simp) ?_)
  refine (show wpAny _ _ (ret e.2) _ _ _ from wpAny_pure ⟨_, rfl, wpAny_pure (hQ _ ⟨_, Heap.get?_update_self _ ho1 (Obj.isFreed_of_fields (Obj.data_mapFields hf1 _)), (Obj.cls_mapFields ..).trans ((Obj.cls_mapFields ..).trans hc), ?_⟩ ((Heap.SameBut.update ..).trans (Heap.SameBut.update ..)))⟩)
  rw [Obj.data_mapFields hf1]
  simp [rawInt]
theorem pyNext_set_end {it a : Addr} {es : Array (Int × Value)} {ep : Nat} {t : SetTable} {Q : Option Value → Shared → Prop} (hh : A.handled = none) (I : SetIt w s.heap it a es ep t es.size) (x : SetIs w s.heap a es ep t)
    (hQ : ∀ h', Heap.ExtBut it s.heap h' → Q none { s with heap := h' }) : wpAny (model prog w) A (pyNext (.ref it)) Q E s := by
  obtain ⟨o, ho, hc, hf⟩ := id I
  have hT : s.TypeIs (.ref it) "set_iterator" := ⟨o, ho, hc⟩
  unfold pyNext
  refine wpAny_bind (wpAny_attempt (wpAny_callSpecial?_slot (name := Str.ofString "__next__") hT ST.slot_next (wpAny_call_entry ST.slot_next hT ST.entry_next ?_ (ST.args_next _))))
  unfold Builtin.«set_iterator.__next__»
  refine wpAny_bind (m := slotArgs "__next__" 0 _) (wpAny_of_eq (a := (Value.ref it, [])) rfl ?_)
  refine wpAny_bind (wpAny_fieldsOf ho hf ?_)
  obtain ⟨⟨oa, hoa, hex, hda⟩, T, _, _⟩ := id x
  show wpAny _ _ (setEntries a >>= _) _ _ _
  refine wpAny_bind (show wpAny _ _ (setState a >>= fun r => pure r.1) _ _ _ from wpAny_bind (wpAny_setState_of hoa hda T.fits (wpAny_pure ?_)))
  dsimp only
  rw [if_neg (by simp)]
  show wpAny _ _ (setNext a ((slS w t es.size : Int)).toNat ((es.size : Int)).toNat ((ep : Int)).toNat >>= _) _ _ _
  rw [Int.toNat_natCast, Int.toNat_natCast, Int.toNat_natCast]
  refine wpAny_bind (next_at x (Nat.le_refl _) ?_)
  rw [Array.getElem?_eq_none (by rw [(ordS_ok w a ep es).1]; exact Nat.le_refl _)]
  dsimp only [Option.map]
  refine wpAny_bind (wpAny_setField ho hf (by simp) ?_)
  refine wpAny_bind ?_
  simp only [newExc, newTuple]
  refine wpAny_bind (wpAny_newObj_type ?_ (by size_fits))
  refine wpAny_bind (m := firstArgMember _ _) (wpAny_of_eq (a := Value.none) (by first | rfl | (simp only [firstArgMember]; rfl)) ?_)
  refine wpAny_newObj_type ?_ (by size_fits)
  simp only [raiseNew]
  refine wpAny_bind (wpAny_handled ?_)
  first | rw [show A.in1.handled = none from hh] | rw [hh]
  refine wpAny_bind (wpAny_pure (wpAny_throw ?_))
  refine wpAny_bind (wpAny_isInstance (T := "StopIteration") (b := true) ⟨_, Heap.get?_push_size _ rfl, rfl⟩ isSubtype_stop ?_)
  refine wpAny_pure (hQ _ fun b ob hb e => ?_)
  exact Heap.get?_push_of_some _ (Heap.get?_push_of_some _ ((Heap.get?_update_other _ _ (Ne.symm hb)).trans e))
theorem pyIter_set {a : Addr} {es : Array (Int × Value)} {ep : Nat} {t : SetTable} {Q : Value → Shared → Prop} (x : SetIs w s.heap a es ep t)
    (h : Q (.ref s.heap.objs.size) { s with heap := s.heap.push { cls := .type "set_iterator", data := .fields #[rawInt 0, rawInt 0, .ref a, rawInt (es.size : Nat), rawInt (ep : Nat)] } }) : wpAny (model prog w) A (pyIter (.ref a)) Q E s := by
  obtain ⟨⟨o, ho, hex, hd⟩, T, hpl, hld⟩ := id x
  have hT : s.TypeIs (.ref a) "set" := ⟨o, ho, hex.1⟩
  refine wpAny_pyIter_slot hT ST.slot_iter (wpAny_call_entry ST.slot_iter hT ST.entry_iter ?_ (ST.args_iter _))
  unfold Builtin.«frozenset.__iter__»
  refine wpAny_bind (m := Builtin.Frozenset.slot0 "__iter__" _) (wpAny_of_eq (a := a) rfl ?_)
  refine wpAny_bind (show wpAny _ _ (setEntries a >>= fun r => pure r.size) _ _ _ from wpAny_bind (show wpAny _ _ (setState a >>= fun r => pure r.1) _ _ _ from wpAny_bind (wpAny_setState_of ho hd T.fits (wpAny_pure (wpAny_pure ?_)))))
  dsimp only
  unfold setDrawn
  refine wpAny_bind (wpAny_bind (wpAny_setState_of ho hd T.fits ?_))
  dsimp only
  unfold setsByText
  refine wpAny_bind (wpAny_bind (wpAny_askSetting (wpAny_pure (wpAny_pure ?_))))
  rw [if_neg (fun z => by
    have z' : (!w.params.followText "set-order" && (!t.plain && decide (es.size > 1))) = true := z
    rw [hpl] at z'
    simp at z')]
  refine wpAny_bind (wpAny_pure ?_)
  refine wpAny_bind (show wpAny _ _ (setState a >>= fun r => pure r.2.1) _ _ _ from wpAny_bind (wpAny_setState_of ho hd T.fits (wpAny_pure ?_)))
  unfold newFields
  refine wpAny_bind (wpAny_newObj_type ?_ (by size_fits))
  exact wpAny_pure ⟨_, rfl, "set_iterator", _, ⟨_, Heap.get?_push_size _ rfl, rfl⟩, ST.slot_next.lookup, h⟩
theorem pyIter_setIt {it a : Addr} {es : Array (Int × Value)} {ep : Nat} {t : SetTable} {i : Nat} {Q : Value → Shared → Prop} (I : SetIt w s.heap it a es ep t i) (h : Q (.ref it) s) : wpAny (model prog w) A (pyIter (.ref it)) Q E s := by
  obtain ⟨o, ho, hc, hf⟩ := id I
  have hT : s.TypeIs (.ref it) "set_iterator" := ⟨o, ho, hc⟩
  refine wpAny_pyIter_slot hT ST.slot_self (wpAny_call_entry ST.slot_self hT ST.entry_self ?_ (ST.args_self _))
  exact wpAny_bind (wpAny_of_eq (a := (Value.ref it, [])) rfl (wpAny_pure ⟨_, rfl, "set_iterator", _, hT, ST.slot_next.lookup, h⟩))
theorem walks_set (hh : A.handled = none) (I a : Addr) (hne : a ≠ I) (es : Array (Int × Value)) (ep : Nat) (t : SetTable) :
    Walks prog w A I [I, a] [I] es.size (fun i v => ∃ e, (ordS w a ep es)[i]? = some e ∧ v = e.2) (fun i h => SetIt w h I a es ep t i ∧ SetIs w h a es ep t) where
  sub := fun b hb => List.mem_cons.mpr (.inl (List.mem_singleton.mp hb))
  frame := fun i h h' ⟨⟨o, ho, r⟩, y⟩ k => ⟨⟨o, k I (by simp) o ho, r⟩, y.keep fun o q => k a (by simp) o q⟩
  item := fun i s Q E hi ⟨x, y⟩ h => by
    have hi' : i < (ordS w a ep es).size := by rw [(ordS_ok w a ep es).1]; exact hi
    exact pyNext_set x y (Array.getElem?_eq_getElem hi') hne fun h' x' sb => h _ h' s.toks ⟨_, Array.getElem?_eq_getElem hi', rfl⟩ ⟨x', y.keep fun o q => (sb.2 a hne).trans q⟩ fun b o hb q => (sb.2 b (by simpa using hb)).trans q
  done := fun s Q E ⟨x, y⟩ h => pyNext_set_end hh x y fun h' eb => h h' s.toks fun b o hb q => eb b o (by simpa using hb) q
  self := fun i s Q E ⟨x, _⟩ h => pyIter_setIt x h
theorem hint_set {a : Addr} {Q : Bool → Shared → Prop} (hT : s.TypeIs (.ref a) "set") (h : Q false s) : wpAny (model prog w) A (Builtin.List.listLengthHint (.ref a)) Q E s := by
  unfold Builtin.List.listLengthHint
  refine wpAny_bind (wpAny_specialOf hT (name := "__len__") (r := some (.builtin "set.__len__")) (by rw [typeLookup_type, builtinLookup_eq_fast]; kernel_rfl) ?_)
  dsimp only
  rw [show splitId "set.__len__" = some ("set", "__len__") from by decide +kernel]
  dsimp only
  refine wpAny_bind (wpAny_isInstance (T := "set") (b := true) hT sub_set_self ?_)
  rw [if_neg (by decide), if_pos (by decide +kernel)]
  exact wpAny_bind (wpAny_typeOf hT (wpAny_pure h))
theorem kdl_set {a : Addr} {es : Array (Int × Value)} {ep : Nat} {t : SetTable} : PySem.W.KdlSrc prog w "set" a a es.size (fun i v => ∃ e, (ordS w a ep es)[i]? = some e ∧ v = e.2) (fun h => SetIs w h a es ep t) where
  type := fun s ⟨⟨o, ho, hex, _⟩, _, _, _⟩ => ⟨o, ho, hex.1⟩
  there := fun h ⟨⟨o, ho, _⟩, _, _, _⟩ => ⟨Heap.lt_size ho, Heap.lt_size ho⟩
  keep := fun h h' x k => x.keep fun o q => k a (.inl rfl) o q
  notList := by decide
  notTuple := by decide
  hint := fun A E s Q ⟨⟨o, ho, hex, _⟩, _, _, _⟩ hq => hint_set ⟨o, ho, hex.1⟩ hq
  iter := fun A s hh x => by
    have hlt : a < s.heap.objs.size := let ⟨⟨o, ho, _⟩, _, _, _⟩ := x; Heap.lt_size ho
    exact ⟨_, fun i h => SetIt w h s.heap.objs.size a es ep t i ∧ SetIs w h a es ep t, fun E Q h => pyIter_set x h, walks_set hh _ a (Nat.ne_of_lt hlt) es ep t, ⟨_, Heap.get?_push_size _ rfl, rfl, rfl⟩, x.keep fun o q => Heap.get?_push_of_some _ q⟩
theorem newOnes_pos {K : Type} [DecidableEq K] (ks : Nat → List K) : ∀ n, 0 < n → 0 < newOnes ks n
  | 0, h => h
  | 1, _ => by
    show 0 < 0 + (if (List.range 0).any _ = true then 0 else 1)
    rw [if_neg (by simp)]
    decide
  | n + 2, _ => by
    have := newOnes_pos ks (n + 1) (Nat.succ_pos _)
    show 0 < newOnes ks (n + 1) + _
    (first | lia | omega)
end
end PySem
namespace SW
open PySem PySem.Spec PyProof.Rows L2 WM TS
section
variable {X : Cx}
/-- sorted(a set of places) -/
theorem sorted_set {pins : List (Addr × Obj)} {s : Shared} {σ : L2.St} {H : Hp} {Q : VK} {S : Addr} {es : Array (Int × Value)} {ep : Nat} {t : SetTable} {as : List Addr} {ps : List Pt} (hc : X.calm = true) (I : Inv X pins σ H s) (hS : SetIs X.w s.heap S es ep t) (hT : Tups H as ps) (hel : ∀ e ∈ es.toList, ∃ a ∈ as, e.2 = .ref a) (hz : es.size ≤ sizeLine)
    (q : ∀ l as' ps', H l = none → Tups H as' ps' → as'.length = es.size → Q (.ref l) (upd H l (.lst (as'.map V.ref)))) : wpAny (model X.prog X.w) X.A (call (.builtin "sorted") [.ref S]) (EP X pins σ Q) X.xe s := by
  have hpt : ∀ {a}, a ∈ as → ∃ q : Pt, H a = some (.tup [.int q.1, .int q.2]) ∧ IsPt s.heap (.ref a) q := fun {a} ha => by
    obtain ⟨b, _, hb⟩ := paired_mem hT ha
    exact ⟨b, hb, isPt_of I (SqT.of hb)⟩
  have hpk : ∀ v ∈ as.map Value.ref, IsPt s.heap v (keyP s.heap v) := fun v hv => by
    obtain ⟨a, ha, rfl⟩ := List.mem_map.mp hv
    obtain ⟨q, _, hq⟩ := hpt ha
    rw [keyP_of hq]
    exact hq
  have all : ∀ vs : List Value, (∀ (j : Nat) v, vs[j]? = some v → ∃ e, (ordS X.w S ep es)[j]? = some e ∧ v = e.2) → ∀ v ∈ vs, v ∈ as.map Value.ref := fun vs hv v hm => by
    obtain ⟨j, hj⟩ := List.mem_iff_getElem?.mp hm
    obtain ⟨e, he, rfl⟩ := hv j v hj
    obtain ⟨a, ha, ea⟩ := hel e ((ordS_ok X.w S ep es).2 e (by rw [← Array.getElem?_toList] at he; exact List.mem_of_getElem? he))
    rw [ea]
    exact List.mem_map.mpr ⟨a, ha, rfl⟩
  refine sorted_src (κ := tuples' true) (D := fun x => x.1 ∈ as.map Value.ref) (R := fun x y => ltP (keyP s.heap x.1) (keyP s.heap y.1)) (kdl_set (es := es) (ep := ep) (t := t)) (I.ok.hd hc) hS hz (fun vs hl hv v hm => all vs hv v hm) (fun A' h' tk _ k => ?_) (fun A' E' h' tk vs k hl hv h2 Q' hq => ?_) (fun vs out h1 h' tk e hl hv hperm hsort k1 k2 he => ?_)
  · exact cmp_pts (s := { s with heap := h', toks := tk }) fun v hv => (hpk v hv).kept k
  · exact kind_pts (s := { s with heap := h', toks := tk }) (fun v hv' => (hpk v (all vs hv v hv')).kept k) h2 hq
  · have hmem : ∀ v ∈ out.toList, v ∈ as.map Value.ref := fun v hm => all vs hv v (hperm.mem_iff.mp hm)
    have eout : out.toList = (out.toList.map addrV).map Value.ref := by
      rw [List.map_map]
      conv => lhs; rw [← List.map_id' out.toList]
      refine List.map_congr_left fun v hv => ?_
      obtain ⟨a, _, rfl⟩ := List.mem_map.mp (hmem v hv)
      rfl
    have hma : ∀ a ∈ out.toList.map addrV, a ∈ as := fun a hm => by
      obtain ⟨v, hv, rfl⟩ := List.mem_map.mp hm
      obtain ⟨b, hb, rfl⟩ := List.mem_map.mp (hmem v hv)
      exact hb
    have hln : (out.toList.map addrV).length = es.size := by
      rw [List.length_map, hperm.length_eq, hl]
    generalize out.toList.map addrV = as' at *
    have I1 : Inv X pins σ H { s with heap := h1, toks := tk } := I.kept (t' := tk) k1
    have I2 : Inv X pins σ (upd H h1.objs.size (.lst (as'.map V.ref))) { s with heap := h', toks := tk } := by
      refine I1.laid (t' := tk) (fun b u hb => k2 b u hb) (Nat.le_refl _) ?_
      refine ⟨by rw [List.length_map, hln]; exact hz, as'.map Value.ref, e, refs_vals as', ?_⟩
      rw [← eout]
      exact he
    refine ⟨.ref h1.objs.size, _, I2, rfl, q _ as' (as'.map fun a => keyP s.heap (.ref a)) (I1.hok.fresh (Nat.le_refl _)) (paired_map fun a ha => ?_) hln⟩
    obtain ⟨q', hq', hq2⟩ := hpt (hma a ha)
    show H a = some (.tup [.int (keyP s.heap (.ref a)).1, .int (keyP s.heap (.ref a)).2])
    rw [keyP_of hq2]
    exact hq'
/-- sorted(set(e)), e a list of places: so many of them at most, one at least -/
def tSortSet (K : PySem.W.Frag) (te : TE) : TE := fun σ H Q => te σ H fun x H1 => ∃ (a : Addr) (as : List Addr) (ps : List Pt), x = .ref a ∧ SqL K H1 a (as.map V.ref) ∧ Tups H1 as ps ∧ ps.length < 1000 ∧
  ∀ l as' ps', H1 l = none → Tups H1 as' ps' → as'.length ≤ as.length → (0 < as.length → 0 < as'.length) → Q (.ref l) (upd H1 l (.lst (as'.map V.ref)))
theorem pe_sortSet {e : Expr} {te : TE} {p p2 : Pos} {pos pos2 : Pos} (hc : X.calm = true) (hu : X.A.units + 4 < cLine) (hgL : Gl X "sorted") (hmL : X.mg "sorted" = none) (hgS : Gl X "set") (hmS : X.mg "set" = none) (ha : PE X e te)
    (he : starEach [e] X.env = (false, eval e X.env) :: starEach [] X.env := by rfl) (he2 : starEach [Expr.Call (.Name "set" p2) [e] [] pos2] X.env = (false, eval (Expr.Call (.Name "set" p2) [e] [] pos2) X.env) :: starEach [] X.env := by rfl) :
    PE X (.Call (.Name "sorted" p) [.Call (.Name "set" p2) [e] [] pos2] [] pos) (tSortSet X.K te) := by
  intro pins s σ H Q I h
  refine wpAny_Call_Name_kw (ld_blt I hgL hmL PyProof.Rows.boot_sorted ?_ (by decide) (by decide))
  refine PyProof.Rows.callWith_builtin1 ?_ he2 rfl
  rw [he2]
  refine (show wpAny _ _ (spliced ((false, eval (Expr.Call (.Name "set" p2) [e] [] pos2) X.env) :: backTo pos (starEach [] X.env))) _ _ s from ?_)
  refine Calls.spliced_cons ?_
  refine wpAny_Call_Name_kw (ld_blt I hgS hmS PyProof.Rows.boot_set ?_ (by decide) (by decide))
  refine PyProof.Rows.callWith_type1 ?_ he rfl
  rw [he]
  refine (show wpAny _ _ (spliced ((false, eval e X.env) :: backTo pos2 (starEach [] X.env))) _ _ s from ?_)
  refine Calls.spliced_cons (thn (ha pins s σ H _ I h) fun u s1 ⟨x, H1, I1, r1, q1⟩ => ?_)
  refine Calls.spliced_nil ?_
  obtain ⟨a, as, ps, rfl, hS, hT, hz, q⟩ := q1
  cases (show u = Value.ref a from r1)
  obtain ⟨its, rv, pl, _⟩ := I1.list hS
  have ei := vals_refs rv
  subst ei
  obtain ⟨o, n, e1, e2, e3, e4⟩ := pl
  have hal : as.length = ps.length := Paired.length hT
  have esz : (as.map Value.ref).toArray.size = ps.length := by rw [List.size_toArray, List.length_map, hal]
  refine call_setT (kn := mixKind X.prog X.w) (ks := fun i => ptK (ps.getD i (0, 0))) (ad := fun i => as.getD i 0) (items := (as.map Value.ref).toArray) (I1.ok.hd hc) (by (first | lia | omega)) ⟨o, e1, by first | exact e2 | exact e3, n, e4⟩ (by rw [esz]; exact hz) (fun i v hv => ?_) (fun i hi => ?_) fun h' tk ⟨es, af⟩ kp => ?_
  · rw [List.getElem?_toArray, List.getElem?_map] at hv
    obtain ⟨b, hb, rfl⟩ := Option.map_eq_some_iff.mp hv
    rw [List.getD_eq_getElem?_getD, hb]
    rfl
  · rw [esz] at hi
    obtain ⟨q', hq', hb'⟩ := paired_get hT (List.getElem?_eq_getElem (show i < as.length by (first | lia | omega)))
    have ea : as.getD i 0 = as[i] := by rw [List.getD_eq_getElem?_getD, List.getElem?_eq_getElem (show i < as.length by (first | lia | omega))]; rfl
    have ep : ps.getD i (0, 0) = q' := by rw [List.getD_eq_getElem?_getD, hq']; rfl
    rw [ea, ep]
    refine ⟨key_of (ks := ptK q') I1.hok hb', ?_⟩
    obtain ⟨its2, rv2, ⟨o2, ho2, hc2, n2, hd2⟩, _⟩ := I1.tuple (SqT.of hb')
    refine ⟨o2, its2.toArray, n2, ho2, hc2, hd2, fun v hv => ?_⟩
    cases rv2 with
    | cons r1 rr =>
      cases rr with
      | cons r2 rr =>
        cases rr
        simp only [List.mem_cons, List.not_mem_nil, or_false] at hv
        rcases hv with rfl | rfl
        · obtain ⟨t, rfl⟩ := r1
          exact ⟨_, t, rfl⟩
        · obtain ⟨t, rfl⟩ := r2
          exact ⟨_, t, rfl⟩
  · refine Calls.spliced_nil ?_
    have hsz := af.size
    rw [esz] at hsz
    have hle := newOnes_le (fun i => ptK (ps.getD i (0, 0))) ps.length
    obtain ⟨o3, ep3, t3, g1, g2, g3, g4, g5, g6, _⟩ := af.tab
    refine sorted_set (s := { s1 with heap := h', toks := tk }) (ep := ep3) (t := t3) hc (I1.kept (h' := h') (t' := tk) fun b u hb => kp b u (Heap.lt_size hb) hb) ⟨⟨o3, g1, g2, g3⟩, g4, g5, g6⟩ hT (fun e hm => ?_) (by rw [hsz, PySem.sizeLine_eq]; (first | lia | omega)) fun l as' ps' hl hT' hn => q l as' ps' hl hT' (by (first | lia | omega)) fun hp => ?_
    · obtain ⟨j, hj, rfl⟩ := af.els e hm
      rw [esz] at hj
      refine ⟨as[j], List.getElem_mem _, ?_⟩
      show Value.ref (as.getD j 0) = _
      rw [List.getD_eq_getElem?_getD, List.getElem?_eq_getElem (show j < as.length by (first | lia | omega))]
      rfl
    · rw [hn, hsz]
      exact newOnes_pos _ _ (by (first | lia | omega))
end
end SW

set_option Elab.async false
set_option linter.all false
set_option maxRecDepth 100000
set_option maxHeartbeats 1000000
namespace L2
open PySem PySem.Spec PyProof PyProof.Rows
section
variable {X : Cx} {a b c d : Expr} {ta tb tc td : TE} {pos : Pos}
/-- a op1 b op2 c op3 d -/
def tChain3 (r1 r2 r3 : R2) (ta tb tc td : TE) : TE := fun σ H Q => ta σ H fun x H1 => tb σ H1 fun y H2 => r1 x y H2 fun z H3 => ∃ k, z = .bl k ∧
  (if k = true then tc σ H3 fun u H4 => r2 y u H4 fun z2 H5 => ∃ k2, z2 = .bl k2 ∧ (if k2 = true then td σ H5 fun v H6 => r3 u v H6 Q else Q (.bl false) H5) else Q (.bl false) H3)
theorem pe_chain3 {o1 o2 o3 : CmpOp} {r1 r2 r3 : R2} (h1 : OpR X (compareOp o1) r1) (h2 : OpR X (compareOp o2) r2) (h3 : OpR X (compareOp o3) r3) (ha : PE X a ta) (hb : PE X b tb) (hc : PE X c tc) (hd : PE X d td)
    (hm : lastMarks [o1, o2, o3] [b, c, d] = false := by with_unfolding_all rfl) : PE X (.Compare a [o1, o2, o3] [b, c, d] pos) (tChain3 r1 r2 r3 ta tb tc td) := by
  intro pins s σ H Q I h
  refine Compare_chain (thn (ha pins s σ H _ I h) fun v s1 ⟨x, H1, I1, e1, q1⟩ => chain_link (thn (hb pins s1 σ H1 _ I1 q1) fun u s2 ⟨y, H2, I2, e2, q2⟩ =>
    thn (h1 pins s2 σ H2 x y v u _ I2 e1 e2 q2) fun _ s3 ⟨z, H3, I3, e3, k, ez, q3⟩ => ?_)) hm
  subst ez
  cases e3
  refine wpAny_truthy_bool ?_
  cases k with
  | false => exact ite_ff ⟨.bl false, H3, I3, rfl, q3⟩
  | true =>
    refine ite_tt (chain_link (thn (hc pins s3 σ H3 _ I3 q3) fun u' s4 ⟨y', H4, I4, e4, q4⟩ => thn (h2 pins s4 σ H4 y y' u u' _ I4 e2 e4 q4) fun _ s5 ⟨z2, H5, I5, e5, k2, ez2, q5⟩ => ?_))
    subst ez2
    cases e5
    refine wpAny_truthy_bool ?_
    cases k2 with
    | false => exact ite_ff ⟨.bl false, H5, I5, rfl, q5⟩
    | true => exact ite_tt (chain_last (thn (hd pins s5 σ H5 _ I5 q5) fun w' s6 ⟨z', H6, I6, e6, q6⟩ => h3 pins s6 σ H6 y' z' u' w' Q I6 e4 e6 q6))
end
end L2

set_option Elab.async false
set_option linter.all false
set_option maxRecDepth 100000
set_option maxHeartbeats 4000000
namespace SW
open PySem L2 WM TS
/-- the functions of the row -/
structure Fns (K : PySem.W.Frag) (mg : Str → Option Value) : Prop where
  CheckWalk : ∃ f fd, Df K mg "check_walk" sCheckWalk ["walk"] f fd
  IsNumber : ∃ f fd, Df K mg "is_number" sIsNumber ["value"] f fd
  IsPair : ∃ f fd, Df K mg "is_pair" sIsPair ["value"] f fd
  IsClosed : ∃ f fd, Df K mg "is_closed" sIsClosed ["walk"] f fd
  Stepped : ∃ f fd, Df K mg "stepped" sStepped ["place", "step"] f fd
  Places : ∃ f fd, Df K mg "places" sPlaces ["walk"] f fd
  CountedPlaces : ∃ f fd, Df K mg "counted_places" sCountedPlaces ["walk"] f fd
  End : ∃ f fd, Df K mg "end" sEnd ["walk"] f fd
  Rises : ∃ f fd, Df K mg "rises" sRises ["listed"] f fd
  LawWalk : ∃ f fd, Df K mg "_law_walk" sLawWalk ["_law_cells"] f fd
  LawPlaces : ∃ f fd, Df K mg "_law_places" sLawPlaces ["_law_walk_here"] f fd
  LawClosed : ∃ f fd, Df K mg "_law_closed" sLawClosed ["_law_script"] f fd
  LawSays : ∃ f fd, Df K mg "_law_says" sLawSays ["_law_said", "_law_due"] f fd
  LawSimple : ∃ f fd, Df K mg "_law_simple" sLawSimple ["_law_walk_here", "_law_some"] f fd
  LawSimpleRight : ∃ f fd, Df K mg "_law_simple_right" sLawSimpleRight ["_law_walk_here", "_law_cell"] f fd
  LawTwiceRight : ∃ f fd, Df K mg "_law_twice_right" sLawTwiceRight ["_law_walk_here", "_law_first", "_law_second"] f fd
structure Bltn (mg : Str → Option Value) : Prop where
  sum : mg "sum" = none
  all : mg "all" = none
  len : mg "len" = none
  abs : mg "abs" = none
  zip : mg "zip" = none
  sorted : mg "sorted" = none
  list : mg "list" = none
  tuple : mg "tuple" = none
  enumerate : mg "enumerate" = none
  set : mg "set" = none
section
variable {P : Program} {w : World} {K : PySem.W.Frag} {mg : Str → Option Value} {base : Heap}
-- imports HY9 HV HD
/-! the law k07, from the promises of what it calls -/
/-- the classes of the row -/
structure Two (K : PySem.W.Frag) (mg : Str → Option Value) (Cs Ct fSI fSS fTI fTS : Addr) (dSI dSS dTI dTS : FuncData) : Prop where
  S : ClT K mg "Simple" Cs fSI fSS
  Tw : ClT K mg "Twice" Ct fTI fTS
  nP : NoAttr K Cs "places"
  nF : NoAttr K Ct "first"
  nS : NoAttr K Ct "second"
  SI : Mf K "__init__" "Simple.__init__" sSimpleInit ["self", "places"] fSI dSI
  SS : Mf K "shows" "Simple.shows" sSimpleShows ["self", "walk"] fSS dSS
  TI : Mf K "__init__" "Twice.__init__" sTwiceInit ["self", "first", "second"] fTI dTI
  TS : Mf K "shows" "Twice.shows" sTwiceShows ["self", "walk"] fTS dTS
structure Own (K : PySem.W.Frag) (mg : Str → Option Value) : Prop where
  out : ∃ Cs Ct fSI fSS fTI fTS dSI dSS dTI dTS, Two K mg Cs Ct fSI fSS fTI fTS dSI dSS dTI dTS
theorem cls_mk {h : Heap} {x : Str} {C fI fS : Addr} (X : K.In h) (G : h.Ns mainGlobals mg) (aC : PySem.W.nsIn K mainGlobals x = some (some (.ref C)))
    (pg : PySem.W.plainGet K C Str.empty = true) (hd : PySem.W.hasDictIn K C = true) (po : PySem.W.plainOver K C = true) (sa : PySem.W.findIn K (.ref C) "__setattr__" = some (some (.builtin "object.__setattr__"))) (mk : PySem.W.makesIn K C = true) (kc : PySem.W.keepIn K (.ref C) = true)
    (a1 : PySem.W.findIn K (.ref C) "__init__" = some (some (.ref fI))) (i1 : PySem.W.isFn K (.ref fI) = true)
    (a2 : PySem.W.findIn K (.ref C) "shows" = some (some (.ref fS))) (i2 : PySem.W.isFn K (.ref fS) = true) (k2 : PySem.W.keepIn K (.ref fS) = true)
    (ha : PySem.W.findIn K (.ref C) "__class__" = some (some (.builtin "object.__class__"))) (hn : PySem.W.specialIn K (.builtin "object.__class__") "__get__" = some (some (.builtin "getset_descriptor.__get__"))) (htk : PySem.W.takesIn K (.builtin "object.__class__") = some true) (hm : PySem.W.mroIn K C (.type "object") = some true) :
    ClT K mg x C fI fS := ⟨⟨pg, hd, po, sa⟩, PySem.W.mg_of X G aC, ⟨mk, a1, i1, kc⟩, ⟨a2, i2, k2⟩, ha, hn, htk, hm⟩
theorem own_mk {Cs Ct fSI fSS fTI fTS : Addr}
    (S : ClT K mg "Simple" Cs fSI fSS) (Tw : ClT K mg "Twice" Ct fTI fTS)
    (nP : PySem.W.findIn K (.ref Cs) "places" = some none) (nF : PySem.W.findIn K (.ref Ct) "first" = some none) (nS : PySem.W.findIn K (.ref Ct) "second" = some none)
    {o1 n1 : Option Addr} {s1 : Array (Option Value)} {q1 v1 e1 p1 b1 t1 : Value} (l1 : K.lookup fSI = some ⟨q1, o1, .func (PySem.W.fnOf "__init__" "Simple.__init__" (defArgs sSimpleInit) (defBody sSimpleInit) (defScope sSimpleInit) .none v1 e1 p1 n1 b1 t1), s1⟩) (c1 : PySem.W.codeIn K b1 "Simple.__init__" = true) (k1 : PySem.W.keepIn K (.ref fSI) = true)
    {o2 n2 : Option Addr} {s2 : Array (Option Value)} {q2 v2 e2 p2 b2 t2 : Value} (l2 : K.lookup fSS = some ⟨q2, o2, .func (PySem.W.fnOf "shows" "Simple.shows" (defArgs sSimpleShows) (defBody sSimpleShows) (defScope sSimpleShows) .none v2 e2 p2 n2 b2 t2), s2⟩) (c2 : PySem.W.codeIn K b2 "Simple.shows" = true)
    {o3 n3 : Option Addr} {s3 : Array (Option Value)} {q3 v3 e3 p3 b3 t3 : Value} (l3 : K.lookup fTI = some ⟨q3, o3, .func (PySem.W.fnOf "__init__" "Twice.__init__" (defArgs sTwiceInit) (defBody sTwiceInit) (defScope sTwiceInit) .none v3 e3 p3 n3 b3 t3), s3⟩) (c3 : PySem.W.codeIn K b3 "Twice.__init__" = true) (k3 : PySem.W.keepIn K (.ref fTI) = true)
    {o4 n4 : Option Addr} {s4 : Array (Option Value)} {q4 v4 e4 p4 b4 t4 : Value} (l4 : K.lookup fTS = some ⟨q4, o4, .func (PySem.W.fnOf "shows" "Twice.shows" (defArgs sTwiceShows) (defBody sTwiceShows) (defScope sTwiceShows) .none v4 e4 p4 n4 b4 t4), s4⟩) (c4 : PySem.W.codeIn K b4 "Twice.shows" = true) : Own K mg := by
  have F1 := fun_mk (st := sSimpleInit) l1 c1 k1
  have F2 := fun_mk (st := sSimpleShows) l2 c2 S.ms.kp
  have F3 := fun_mk (st := sTwiceInit) l3 c3 k3
  have F4 := fun_mk (st := sTwiceShows) l4 c4 Tw.ms.kp
  exact ⟨Cs, Ct, fSI, fSS, fTI, fTS, _, _, _, _, S, Tw, nP, nF, nS,
    ⟨F1, F1.binds (ps := ["self", "places"]) fun _ _ _ _ _ _ us hl => match us, hl with | [_, _], _ => rfl⟩,
    ⟨F2, F2.binds (ps := ["self", "walk"]) fun _ _ _ _ _ _ us hl => match us, hl with | [_, _], _ => rfl⟩,
    ⟨F3, F3.binds (ps := ["self", "first", "second"]) fun _ _ _ _ _ _ us hl => match us, hl with | [_, _, _], _ => rfl⟩,
    ⟨F4, F4.binds (ps := ["self", "walk"]) fun _ _ _ _ _ _ us hl => match us, hl with | [_, _], _ => rfl⟩⟩
theorem kit_bool (K : PySem.W.Frag) : PySem.W.kitOne K (.type "bool") (.type "bool") = some true := by
  unfold PySem.W.kitOne
  rw [if_pos (by decide +kernel)]
/-! ### _law_says -/
theorem scLawSays : FnScope ["_law_said", "_law_due"] ["_law_said", "_law_due"] (defScope sLawSays) := ⟨rfl, rfl, rfl, by decide +kernel, rfl, by decide +kernel, by decide +kernel⟩
def spSays : Sp := fun vs H Q _ => ∃ a b : Bool, vs = [.bl a, .bl b] ∧ Q (.bl (a == b)) H
theorem ok_law_says {f : Addr} {fd : FuncData} (F : Df K mg "_law_says" sLawSays ["_law_said", "_law_due"] f fd) (X : Txt K mg) : FnOk P w K mg base CX0 1 f fd ["_law_said", "_law_due"] spSays := by
  refine F.fn.ok scLawSays (fun vs H Q E h => ?_) (fun cdv A outer s H vs Q E hr h => ?_)
  · obtain ⟨a, b, rfl, _⟩ := h
    rfl
  · obtain ⟨a, b, rfl, k⟩ := h
    refine ⟨_, pss_one (ps_ret (pe_and (pe_callB call_isT rfl X.isi PyProof.Rows.boot_isinstance (pa_cons (pv 0) (pa_cons (pe_bltn rfl X.bool PyProof.Rows.boot_bool (v := .ty "bool") rfl) pa_nil))) (pe_one (pe_cmpR op_eq (pv 0) (pv 1) (nomark _))))), ?_⟩
    refine ⟨_, rfl, _, _, _, true, rfl, .bl a, kit_bool K, _, rfl, iteT ?_⟩
    refine ⟨_, rfl, _, rfl, rfl, ?_⟩
    rw [dec_bl]
    exact k
/-! ### _law_simple -/
theorem scLawSimple : FnScope ["_law_walk_here", "_law_some", "_law_told"] ["_law_walk_here", "_law_some"] (defScope sLawSimple) := ⟨rfl, rfl, rfl, by decide +kernel, rfl, by decide +kernel, by decide +kernel⟩
def spLawSimple : Sp := fun vs H Q _ => ∃ (l : List Nat) (p : Addr) (ps : List Pt), vs = [.str (T l), .ref p] ∧ IsW l ∧ l.length ≤ 900 ∧ PlAt H p ps ∧ ∀ H', Same H H' → Q (.bl (decide (ps = srtP (cntP l) ∧ (cntP l).Nodup))) H'
theorem lenSet_iff (ps : List Pt) : newOnes (fun i => ptK (ps.getD i (0, 0))) ps.length = ps.length ↔ ps.Nodup := by
  rw [newOnes_all]
  constructor
  · intro h
    rw [List.nodup_iff_pairwise_ne, List.pairwise_iff_getElem]
    intro i j hi hj hij e
    refine h i j hij hj ?_
    rw [List.getD_eq_getElem?_getD, List.getD_eq_getElem?_getD, List.getElem?_eq_getElem hi, List.getElem?_eq_getElem hj, e]
  · intro nd i j hij hj e
    have e := ptK_inj e
    rw [List.getD_eq_getElem?_getD, List.getD_eq_getElem?_getD, List.getElem?_eq_getElem (by (first | lia | omega)), List.getElem?_eq_getElem hj] at e
    have h2 := List.pairwise_iff_getElem.mp (List.nodup_iff_pairwise_ne.mp nd) i j (by (first | lia | omega)) hj hij
    exact h2 e
theorem ok_law_simple {f fP : Addr} {fd fdP : FuncData} (F : Df K mg "_law_simple" sLawSimple ["_law_walk_here", "_law_some"] f fd) (B : Bltn mg)
    (Pl : Df K mg "_law_places" sLawPlaces ["_law_walk_here"] fP fdP) (GP : FnOk P w K mg base CX0 1 fP fdP ["_law_walk_here"] spPlaces) : FnOk P w K mg base CX0 2 f fd ["_law_walk_here", "_law_some"] spLawSimple := by
  refine F.fn.ok scLawSimple (fun vs H Q E h => ?_) (fun cdv A outer s H vs Q E hr h => ?_)
  · obtain ⟨l, p, ps, rfl, _⟩ := h
    rfl
  · obtain ⟨l, p, ps, rfl, hl, hz, hP0, k⟩ := h
    have esz : sizeLine = 16777216 := PySem.sizeLine_eq
    have hu4 := hu4_of hr
    have hcl := cntP_length l
    have hpl : (plOf l).length = l.length + 1 := placesP_length _ _
    refine ⟨_, (pss_cons (ps_set (i := 2) scLawSimple.nd rfl (Or.inl rfl) (pe_call GP hr rfl Pl.at_ Pl.fn.kp Pl.bi .nil pass0 (pa_cons (pv 0) pa_nil)))
      (pss_cons (ps_mrg (ps_if (PW.pt (pw_and (pt_cmpR op_gt (pe_callB call_len_seq rfl B.len PySem.boot_len (pa_cons (pv 2) pa_nil)) pe_int (nomark _))
        (pw_and1 (pt_cmpR (op_eqD hr.units) (pe_ix ix_list (pv 2) pe_int (fun _ _ => rfl)) (pe_ix ix_list (pv 2) (pe_un un_neg pe_int) (fun _ _ => rfl)) (nomark _))))) (pss_one (ps_expr (pe_bm0 PySem.F.plainAttrs_list PySem.F.slot_list_pop PySem.F.type_list_pop mt_pop (pv 2)))) pss_nil))
      (pss_one (ps_ret (pe_and (pe_cmpR (op_eqD hr.units) (pv 1) (pe_callB call_sortedPt rfl B.sorted PyProof.Rows.boot_sorted (pa_cons (pv 2) pa_nil)) (nomark _))
        (pe_one (pe_cmpR op_eq (pe_lenSet rfl hu4 rfl B.len rfl B.set (pv 2)) (pe_callB call_len_seq rfl B.len PySem.boot_len (pa_cons (pv 2) pa_nil)) (nomark _)))))))), ?_⟩
    refine ⟨_, rfl, l, rfl, hl, by (first | lia | omega), fun d H2 hd s12 hP => ?_⟩
    refine ⟨fun σ' H' => σ' = [some (.str (T l)), some (.ref p), some (.ref d)] ∧ Same H H' ∧ PlAt H' d (cntP l), ?_, ?_⟩
    · obtain ⟨as, h1, h2⟩ := id hP
      have hlen : as.length = l.length + 1 := by rw [← hpl]; exact Paired.length h2
      refine ⟨_, rfl, d, _, rfl, .inl (SqL.of h1), _, _, rfl, rfl, _, rfl, ?_⟩
      rw [List.length_map, hlen]
      by_cases hne : l = []
      · subst hne
        refine iteF (iteF ?_)
        have e : cntP [] = plOf [] := by unfold cntP; rw [if_neg fun z => z.1 rfl]
        rw [← e] at hP
        exact ⟨rfl, s12, hP⟩
      have hpos : 0 < l.length := List.length_pos_iff.mpr hne
      have ed : decide ((1 : Int) < ((l.length + 1 : Nat) : Int)) = true := decide_eq_true (by (first | lia | omega))
      change if decide ((1 : Int) < ((l.length + 1 : Nat) : Int)) = true then _ else _
      rw [ed]
      refine iteT ?_
      obtain ⟨pre, ep⟩ := placesP_last l (0, 0)
      obtain ⟨as', q, eas, hq⟩ : ∃ as' q, as = as' ++ [q] ∧ H2 q = some (.tup [.int (posOf l).1, .int (posOf l).2]) := by
        unfold plOf at h2
        rw [ep] at h2
        exact tups_last h2
      have atq : atI (as.map V.ref) (-1) = some (V.ref q) := by
        rw [eas, List.map_append]
        exact atI_last _ _
      obtain ⟨q0, eq0, hq0⟩ : ∃ q0, (as.map V.ref)[0]? = some (V.ref q0) ∧ H2 q0 = some (.tup [.int 0, .int 0]) := by
        obtain ⟨a, h3, h4⟩ := tups_at h2 (plOf_get (l := l) (i := 0) (Nat.zero_le _))
        exact ⟨a, h3, h4⟩
      refine ⟨_, rfl, d, _, _, _, rfl, rfl, SqL.of h1, (by have := atI_nat eq0; simpa using this), _, rfl, _, rfl, d, _, _, _, rfl, rfl, SqL.of h1, atq, ?_⟩
      refine ⟨_, _, dat_pt (p := (0, 0)) hq0, dat_pt hq, shaped_pt _, shaped_pt _, _, rfl, ?_⟩
      rw [eqv_pt]
      refine ite2 (fun h => ?_) (fun h => ?_)
      · have hc : posOf l = (0, 0) := (of_decide_eq_true h).symm
        have em : as.map V.ref = as'.map V.ref ++ [V.ref q] := by rw [eas, List.map_append]; rfl
        refine ⟨_, rfl, .inl ⟨rfl, _, SqL.of h1⟩, d, as.map V.ref, V.ref q, rfl, rfl, h1, ?_, ?_⟩
        · rw [em, List.length_append, List.length_singleton, Nat.add_sub_cancel, List.getElem?_append_right (Nat.le_refl _), Nat.sub_self]
          rfl
        have edl : (as.map V.ref).dropLast = as'.map V.ref := by rw [em, List.dropLast_concat]
        rw [edl]
        have e : cntP l = (plOf l).dropLast := by unfold cntP; rw [if_pos ⟨hne, hc⟩]
        have tl : TSame H2 (upd H2 d (.lst (as'.map V.ref))) := tsame_lst h1
        refine ⟨rfl, same_upd hd s12, as', upd_same, ?_⟩
        rw [e]
        have := tups_dropLast h2
        rw [eas, List.dropLast_concat] at this
        exact tups_mono this tl
      · have hc : ¬ posOf l = (0, 0) := fun z => h (decide_eq_true z.symm)
        have e : cntP l = plOf l := by unfold cntP; rw [if_neg fun z => hc z.2]
        rw [← e] at hP
        exact ⟨rfl, s12, hP⟩
    · rintro σ' H3 ⟨rfl, s3, hP3⟩
      obtain ⟨as, h1, h2⟩ := id hP3
      have hlen : as.length = (cntP l).length := Paired.length h2
      refine ⟨_, rfl, _, rfl, d, as, cntP l, rfl, SqL.of h1, h2, fun e as' ps' he hpe hT' hpp hso => ?_⟩
      have s4 := same_new (o := .lst (as'.map V.ref)) he
      have h4 : upd H3 e (.lst (as'.map V.ref)) e = some (.lst (as'.map V.ref)) := upd_same
      have hT4 : Tups (upd H3 e (.lst (as'.map V.ref))) as' ps' := tups_mono hT' s4.tup
      have s34 := s3.trans s4
      have es : ps' = srtP (cntP l) := srtP_eq hpp hso
      subst es
      refine ⟨_, _, dat_pl (hP0.same s34), dat_pl (ps := srtP (cntP l)) ⟨as', h4, hT4⟩, shaped_pl _, shaped_pl _, _, rfl, ?_⟩
      rw [eqv_plist]
      generalize upd H3 e (.lst (as'.map V.ref)) = H4 at *
      by_cases hq : ps = srtP (cntP l)
      · rw [decide_eq_true hq]
        refine iteT ?_
        obtain ⟨as4, h14, h24⟩ := hP3.same s4
        refine ⟨_, rfl, d, as4, cntP l, rfl, SqL.of h14, h24, by (first | lia | omega), _, rfl, d, _, rfl, .inl (SqL.of h14), rfl, ?_⟩
        have hl4 : as4.length = (cntP l).length := Paired.length h24
        rw [List.length_map, hl4]
        have e0 : decide (V.int (newOnes (fun i => ptK ((cntP l).getD i (0, 0))) (cntP l).length : Nat) = V.int ((cntP l).length : Nat)) = decide (ps = srtP (cntP l) ∧ (cntP l).Nodup) := by
          rw [Bool.eq_iff_iff, decide_eq_true_eq, decide_eq_true_eq, V.int.injEq, Int.ofNat_inj, lenSet_iff]
          exact ⟨fun h => ⟨hq, h⟩, fun h => h.2⟩
        have := k H4 s34
        rw [← e0] at this
        exact this
      · rw [decide_eq_false hq]
        refine iteF ?_
        have := k H4 s34
        rw [decide_eq_false fun z => hq z.1] at this
        exact this
/-! ### _law_twice_right -/
abbrev NTw : List Str := ["_law_walk_here", "_law_first", "_law_second", "_law_told", "_law_due", "_law_answer"]
theorem scLawTwiceRight : FnScope NTw ["_law_walk_here", "_law_first", "_law_second"] (defScope sLawTwiceRight) := ⟨rfl, rfl, rfl, by decide +kernel, rfl, by decide +kernel, by decide +kernel⟩
def spTwiceRight : Sp := fun vs H Q _ => ∃ (l : List Nat) (i j : Int), vs = [.str (T l), .int i, .int j] ∧ IsW l ∧ l.length ≤ 900 ∧ ∀ H', Same H H' → Q (.bl true) H'
theorem ok_law_twice_right {f fP fS : Addr} {fd fdP fdS : FuncData} (F : Df K mg "_law_twice_right" sLawTwiceRight ["_law_walk_here", "_law_first", "_law_second"] f fd) (B : Bltn mg)
    {Cs Ct fSI fSS fTI fTS : Addr} {dSI dSS dTI dTS : FuncData} (O : Two K mg Cs Ct fSI fSS fTI fTS dSI dSS dTI dTS) (GTI : FnOk P w K mg base CX0 1 fTI dTI ["self", "first", "second"] (spTwInit Ct)) (GTS : FnOk P w K mg base CX0 4 fTS dTS ["self", "walk"] (spTwShows Ct))
    (Sy : Df K mg "_law_says" sLawSays ["_law_said", "_law_due"] fS fdS) (GS : FnOk P w K mg base CX0 1 fS fdS ["_law_said", "_law_due"] spSays)
    (Pl : Df K mg "_law_places" sLawPlaces ["_law_walk_here"] fP fdP) (GP : FnOk P w K mg base CX0 1 fP fdP ["_law_walk_here"] spPlaces) : FnOk P w K mg base CX0 5 f fd ["_law_walk_here", "_law_first", "_law_second"] spTwiceRight := by
  refine F.fn.ok scLawTwiceRight (fun vs H Q E h => ?_) (fun cdv A outer s H vs Q E hr h => ?_)
  · obtain ⟨l, i, j, rfl, _⟩ := h
    rfl
  · obtain ⟨l, i, j, rfl, hl, hz, k⟩ := h
    have esz : sizeLine = 16777216 := PySem.sizeLine_eq
    have hr1 : Room 1 _ := hr.mono (by decide)
    have hrM : Room (1 + 1) _ := hr.mono (by decide)
    refine ⟨_, (pss_cons (ps_set (i := 3) scLawTwiceRight.nd rfl (Or.inl rfl) (pe_call GP hr1 rfl Pl.at_ Pl.fn.kp Pl.bi .nil pass0 (pa_cons (pv 0) pa_nil)))
      (pss_cons (ps_set (i := 4) scLawTwiceRight.nd rfl (Or.inl rfl) (pe_mrg (pe_and (pe_chain3 op_le op_lt op_le pe_int (pv 1) (pv 2) (pe_callB call_len_str rfl B.len PySem.boot_len (pa_cons (pv 0) pa_nil)))
        (pe_one (pe_cmpR (op_neD hr.units) (pe_tup (pa_cons (pv 1) (pa_cons (pv 2) pa_nil))) (pe_tup (pa_cons pe_int (pa_cons (pe_callB call_len_str rfl B.len PySem.boot_len (pa_cons (pv 0) pa_nil)) pa_nil))) (nomark _))))))
      (pss_cons (ps_set (i := 4) scLawTwiceRight.nd rfl (Or.inl rfl) (pe_mrg (pe_and (pv 4) (pe_one (pe_cmpR (op_eqD hr.units) (pe_ix ix_list (pv 3) (pv 1) (fun _ _ => rfl)) (pe_ix ix_list (pv 3) (pv 2) (fun _ _ => rfl)) (nomark _))))))
      (pss_cons (ps_set (i := 5) scLawTwiceRight.nd rfl (Or.inl rfl) (pe_make O.Tw.mkr GTI hrM rfl O.Tw.at_ O.TI.bi .nil pass0 (pa_cons (pv 1) (pa_cons (pv 2) pa_nil))))
      (pss_one (ps_ret (pe_and (pe_cmpR (op_eqD hr.units) (pe_tup (pa_cons (pe_fld (pv 5) rfl) (pa_cons (pe_fld (pv 5) rfl) pa_nil))) (pe_tup (pa_cons (pv 1) (pa_cons (pv 2) pa_nil))) (nomark _))
        (pe_one (pe_call GS hr1 rfl Sy.at_ Sy.fn.kp Sy.bi .nil pass0 (pa_cons (pe_meth (pv 5) O.Tw.cl O.Tw.ms GTS hr O.TS.bi .nil pass0 (pa_cons (pv 0) pa_nil)) (pa_cons (pv 4) pa_nil))))))))))), ?_⟩
    refine ⟨_, rfl, l, rfl, hl, by (first | lia | omega), fun d H2 hd s2 hP => ?_⟩
    have kF : (fsT i j).lookup ("first" : Str) = some (.int i) := rfl
    have kS : (fsT i j).lookup ("second" : Str) = some (.int j) := rfl
    -- what is due, first part
    refine ⟨fun v H' => v = .bl (decide (0 ≤ i ∧ i < j ∧ j ≤ (l.length : Int) ∧ ¬ (i = 0 ∧ j = (l.length : Int)))) ∧ Same H2 H', ?_, ?_⟩
    · refine ⟨_, rfl, _, _, rfl, rfl, _, rfl, ?_⟩
      by_cases c1 : 0 ≤ i
      · rw [decide_eq_true c1]
        refine iteT ⟨_, rfl, _, _, rfl, rfl, _, rfl, ?_⟩
        by_cases c2 : i < j
        · rw [decide_eq_true c2]
          refine iteT ⟨_, rfl, _, rfl, (by rw [T_len]; (first | lia | omega)), _, _, rfl, rfl, _, rfl, ?_⟩
          rw [T_len]
          by_cases c3 : j ≤ (l.length : Int)
          · rw [decide_eq_true c3]
            refine iteT ⟨_, rfl, _, rfl, two_le, fun g hg => ?_⟩
            have s4 := same_new (o := .tup [.int i, .int j]) hg
            have h4 : upd H2 g (.tup [.int i, .int j]) g = some (.tup [.int i, .int j]) := upd_same
            generalize upd H2 g (.tup [.int i, .int j]) = H4 at *
            refine ⟨_, rfl, _, rfl, (by rw [T_len]; (first | lia | omega)), two_le, fun g2 hg2 => ?_⟩
            rw [T_len]
            have s5 := same_new (o := .tup [.int 0, .int (l.length : Int)]) hg2
            have h5 : upd H4 g2 (.tup [.int 0, .int (l.length : Int)]) g2 = some (.tup [.int 0, .int (l.length : Int)]) := upd_same
            generalize upd H4 g2 (.tup [.int 0, .int (l.length : Int)]) = H5 at *
            refine ⟨_, _, dat_pt (p := (i, j)) (s5 _ _ h4), dat_pt (p := (0, (l.length : Int))) h5, shaped_pt _, shaped_pt _, ?_, s4.trans s5⟩
            rw [eqv_pt]
            refine congrArg V.bl ?_
            rw [Bool.eq_iff_iff, Bool.not_eq_true', decide_eq_false_iff_not, decide_eq_true_eq, Prod.mk.injEq]
            exact ⟨fun z => ⟨c1, c2, c3, z⟩, fun z => z.2.2.2⟩
          · rw [decide_eq_false c3]
            exact iteF ⟨by rw [decide_eq_false fun z => c3 z.2.2.1], Same.refl _⟩
        · rw [decide_eq_false c2]
          exact iteF ⟨_, rfl, iteF ⟨by rw [decide_eq_false fun z => c2 z.2.1], Same.refl _⟩⟩
      · rw [decide_eq_false c1]
        exact iteF ⟨_, rfl, iteF ⟨by rw [decide_eq_false fun z => c1 z.1], Same.refl _⟩⟩
    rintro v H3 ⟨rfl, s3⟩
    have hP3 := hP.same s3
    refine ⟨fun v H' => v = .bl (decide (twice l i j)) ∧ H' = H3, ?_, ?_⟩
    · refine ⟨_, rfl, _, rfl, ?_⟩
      by_cases c : 0 ≤ i ∧ i < j ∧ j ≤ (l.length : Int) ∧ ¬ (i = 0 ∧ j = (l.length : Int))
      · rw [decide_eq_true c]
        refine iteT ?_
        obtain ⟨xs, a1, hx, ha1, ht1⟩ := hP3.at (K := K) (i := i.toNat) (by (first | lia | omega))
        obtain ⟨xs', a2, hx', ha2, ht2⟩ := hP3.at (K := K) (i := j.toNat) (by (first | lia | omega))
        have e1 : ((i.toNat : Nat) : Int) = i := by (first | lia | omega)
        have e2 : ((j.toNat : Nat) : Int) = j := by (first | lia | omega)
        refine ⟨_, rfl, _, rfl, d, _, _, _, rfl, rfl, hx, by have := atI_nat ha1; rwa [e1] at this, ?_⟩
        refine ⟨_, rfl, _, rfl, d, _, _, _, rfl, rfl, hx', by have := atI_nat ha2; rwa [e2] at this, ?_⟩
        refine ⟨_, _, dat_pt ht1, dat_pt ht2, shaped_pt _, shaped_pt _, ?_, rfl⟩
        rw [eqv_pt]
        refine congrArg V.bl ?_
        rw [Bool.eq_iff_iff, decide_eq_true_eq, decide_eq_true_eq]
        exact ⟨fun z => ⟨c.1, c.2.1, c.2.2.1, c.2.2.2, z⟩, fun z => z.2.2.2.2⟩
      · rw [decide_eq_false c]
        exact iteF ⟨by rw [decide_eq_false fun z : twice l i j => c ⟨z.1, z.2.1, z.2.2.1, z.2.2.2.1⟩], rfl⟩
    rintro v H' ⟨rfl, rfl⟩
    refine ⟨_, rfl, _, rfl, fun x dx hx hdx hne => ?_⟩
    refine ⟨x, dx, i, j, rfl, upd_same, rfl, ?_⟩
    have hN : upd (upd (upd (upd H' dx (.own x)) x (.ins Ct dx [])) x (.ins Ct dx [("first", .int i)])) x (.ins Ct dx (fsT i j)) x = some (.ins Ct dx (fsT i j)) := upd_same
    have sN : Same H' (upd (upd (upd (upd H' dx (.own x)) x (.ins Ct dx [])) x (.ins Ct dx [("first", .int i)])) x (.ins Ct dx (fsT i j))) := fun y o e => by
      rw [upd_ne (ne_of_none e hx), upd_ne (ne_of_none e hx), upd_ne (ne_of_none e hx), upd_ne (ne_of_none e hdx)]
      exact e
    change tSeq _ _ _ _ (upd (upd (upd (upd H' dx (.own x)) x (.ins Ct dx [])) x (.ins Ct dx [("first", .int i)])) x (.ins Ct dx (fsT i j)))
    generalize upd (upd (upd (upd H' dx (.own x)) x (.ins Ct dx [])) x (.ins Ct dx [("first", .int i)])) x (.ins Ct dx (fsT i j)) = H5 at *
    refine ⟨_, rfl, x, Ct, dx, _, _, rfl, hN, O.Tw.cl, O.nF, kF, _, rfl, x, Ct, dx, _, _, rfl, hN, O.Tw.cl, O.nS, kS, two_le, fun g hg => ?_⟩
    have s6 := same_new (o := .tup [.int i, .int j]) hg
    have h6 : upd H5 g (.tup [.int i, .int j]) g = some (.tup [.int i, .int j]) := upd_same
    generalize upd H5 g (.tup [.int i, .int j]) = H6 at *
    refine ⟨_, rfl, _, rfl, two_le, fun g2 hg2 => ?_⟩
    have s7 := same_new (o := .tup [.int i, .int j]) hg2
    have h7 : upd H6 g2 (.tup [.int i, .int j]) g2 = some (.tup [.int i, .int j]) := upd_same
    generalize upd H6 g2 (.tup [.int i, .int j]) = H7 at *
    refine ⟨_, _, dat_pt (p := (i, j)) (s7 _ _ h6), dat_pt (p := (i, j)) h7, shaped_pt _, shaped_pt _, _, rfl, ?_⟩
    rw [eqv_pt, decide_eq_true rfl]
    refine iteT ?_
    have hN7 := s7 _ _ (s6 _ _ hN)
    refine ⟨_, rfl, x, dx, _, rfl, hN7, rfl, _, rfl, x, l, i, j, rfl, ⟨dx, hN7⟩, hl, by (first | lia | omega), fun H8 s8 => ⟨_, rfl, _, _, rfl, ?_⟩⟩
    rw [beq_self_eq_true]
    exact k H8 (((((s2.trans s3).trans sN).trans s6).trans s7).trans s8)
/-! ### _law_simple_right -/
theorem tups_drop {H : Hp} : ∀ {as : List Addr} {ps : List Pt} (n : Nat), Tups H as ps → Tups H (as.drop n) (ps.drop n)
  | _, _, 0, h => h
  | _, _, _ + 1, .nil => .nil
  | _, _, n + 1, .cons _ t => tups_drop n t
theorem tups_take {H : Hp} : ∀ {as : List Addr} {ps : List Pt} (n : Nat), Tups H as ps → Tups H (as.take n) (ps.take n)
  | _, _, 0, _ => .nil
  | _, _, _ + 1, .nil => .nil
  | _, _, n + 1, .cons h t => .cons h (tups_take n t)
theorem tups_app {H : Hp} : ∀ {as bs : List Addr} {ps qs : List Pt}, Tups H as ps → Tups H bs qs → Tups H (as ++ bs) (ps ++ qs)
  | _, _, _, _, .nil, h => h
  | _, _, _, _, .cons h t, h2 => .cons h (tups_app t h2)
theorem tups_rev {H : Hp} : ∀ {as : List Addr} {ps : List Pt}, Tups H as ps → Tups H as.reverse ps.reverse
  | _, _, .nil => .nil
  | _, _, .cons h t => by
    rw [List.reverse_cons, List.reverse_cons]
    exact tups_app (tups_rev t) (.cons h .nil)
theorem tups_set {H : Hp} {a : Addr} {q : Pt} (h : H a = some (.tup [.int q.1, .int q.2])) : ∀ {as : List Addr} {ps : List Pt} (n : Nat), Tups H as ps → Tups H (as.set n a) (ps.set n q)
  | _, _, _, .nil => .nil
  | _, _, 0, .cons _ t => .cons h t
  | _, _, n + 1, .cons h' t => .cons h' (tups_set h n t)
theorem tups_cut {H : Hp} {as : List Addr} {ps : List Pt} (h : Tups H as ps) (lo hi : Option Int) : ∃ as' ps', cutV (as.map V.ref) lo hi = as'.map V.ref ∧ Tups H as' ps' ∧ as'.length ≤ as.length := by
  refine ⟨(as.drop (HT.sIx as.length 0 lo)).take (HT.sIx as.length as.length hi - HT.sIx as.length 0 lo), _, ?_, tups_take _ (tups_drop _ h), ?_⟩
  · unfold cutV
    rw [List.length_map, List.map_take, List.map_drop]
  · rw [List.length_take, List.length_drop]
    (first | lia | omega)
abbrev NSr : List Str := ["_law_walk_here", "_law_cell", "_law_told", "_law_some", "_law_at", "_law_kind", "_law_handed", "_law_answer"]
theorem scLawSimpleRight : FnScope NSr ["_law_walk_here", "_law_cell"] (defScope sLawSimpleRight) := ⟨rfl, rfl, rfl, by decide +kernel, rfl, by decide +kernel, by decide +kernel⟩
def spSimpleRight : Sp := fun vs H Q _ => ∃ (l : List Nat) (z : Int), vs = [.str (T l), .int z] ∧ IsW l ∧ l.length ≤ 900 ∧ ∀ H', Same H H' → Q (.bl true) H'
/-- as far as the n-th change -/
def Chg (H0 : Hp) (l : List Nat) (z : Int) (d2 : Addr) (at_ kd : Int) (n : Int) (σ : St) (H' : Hp) : Prop := ∃ (d : Addr) (as : List Addr) (ps : List Pt), σ = [some (.str (T l)), some (.int z), some (.ref d2), some (.ref d), some (.int at_), some (.int kd), none, none] ∧ H0 d = none ∧ Same H0 H' ∧ H' d = some (.lst (as.map V.ref)) ∧ Tups H' as ps ∧ as.length ≤ 3000 ∧ (kd ≤ n ∨ (at_ < (as.length : Int) ∧ as.length ≤ 1000))
theorem Chg.mono {H0 H' : Hp} {l : List Nat} {z at_ kd n m : Int} {d2 : Addr} {σ : St} (h : Chg H0 l z d2 at_ kd n σ H') (hn : n ≤ m) : Chg H0 l z d2 at_ kd m σ H' := by
  obtain ⟨d, as, ps, e, h1, h2, h3, h4, h5, h6⟩ := h
  exact ⟨d, as, ps, e, h1, h2, h3, h4, h5, h6.imp (fun z => by (first | lia | omega)) id⟩
theorem none_of {H H' : Hp} {b : Addr} (s : Same H H') (h : H' b = none) : H b = none := by
  cases e : H b with
  | none => rfl
  | some o => rw [s _ _ e] at h; cases h
theorem ok_law_simple_right {f fP fS fM : Addr} {fd fdP fdS fdM : FuncData} (F : Df K mg "_law_simple_right" sLawSimpleRight ["_law_walk_here", "_law_cell"] f fd) (B : Bltn mg)
    {Cs Ct fSI fSS fTI fTS : Addr} {dSI dSS dTI dTS : FuncData} (O : Two K mg Cs Ct fSI fSS fTI fTS dSI dSS dTI dTS) (GSI : FnOk P w K mg base CX0 1 fSI dSI ["self", "places"] (spSimpInit K Cs)) (GSS : FnOk P w K mg base CX0 4 fSS dSS ["self", "walk"] (spSimpShows Cs))
    (Sy : Df K mg "_law_says" sLawSays ["_law_said", "_law_due"] fS fdS) (GS : FnOk P w K mg base CX0 1 fS fdS ["_law_said", "_law_due"] spSays)
    (Sm : Df K mg "_law_simple" sLawSimple ["_law_walk_here", "_law_some"] fM fdM) (GM : FnOk P w K mg base CX0 2 fM fdM ["_law_walk_here", "_law_some"] spLawSimple)
    (Pl : Df K mg "_law_places" sLawPlaces ["_law_walk_here"] fP fdP) (GP : FnOk P w K mg base CX0 1 fP fdP ["_law_walk_here"] spPlaces) : FnOk P w K mg base CX0 5 f fd ["_law_walk_here", "_law_cell"] spSimpleRight := by
  refine F.fn.ok scLawSimpleRight (fun vs H Q E h => ?_) (fun cdv A outer s H vs Q E hr h => ?_)
  · obtain ⟨l, z, rfl, _⟩ := h
    rfl
  · obtain ⟨l, z, rfl, hl, hz, k⟩ := h
    have esz : sizeLine = 16777216 := PySem.sizeLine_eq
    have hr1 : Room 1 _ := hr.mono (by decide)
    have hr2 : Room 2 _ := hr.mono (by decide)
    have hrM : Room (1 + 1) _ := hr.mono (by decide)
    have hu4 := hu4_of hr
    refine ⟨_, (pss_cons (ps_set (i := 2) scLawSimpleRight.nd rfl (Or.inl rfl) (pe_call GP hr1 rfl Pl.at_ Pl.fn.kp Pl.bi .nil pass0 (pa_cons (pv 0) pa_nil)))
      (pss_cons (ps_set (i := 3) scLawSimpleRight.nd rfl (Or.inl rfl) (pe_sortSet rfl hu4 rfl B.sorted rfl B.set (pv 2)))
      (pss_cons (ps_set (i := 4) scLawSimpleRight.nd rfl (Or.inl rfl) (pe_op op_mod (pe_op op_fdiv (pv 1) pe_int) (pe_callB call_len_seq rfl B.len PySem.boot_len (pa_cons (pv 3) pa_nil))))
      (pss_cons (ps_set (i := 5) scLawSimpleRight.nd rfl (Or.inl rfl) (pe_op op_mod (pv 1) pe_int))
      (pss_cons (ps_mrg (ps_if (pt_cmpR op_eq (pv 5) pe_int (nomark _)) (pss_one (ps_set (i := 3) scLawSimpleRight.nd rfl (Or.inl rfl) (pe_op op_cat (pe_slice sl_list (pv 3) po_none (po_some (pv 4))) (pe_slice sl_list (pv 3) (po_some (pe_op op_add (pv 4) pe_int)) po_none)))) pss_nil))
      (pss_cons (ps_mrg (ps_if (pt_cmpR op_eq (pv 5) pe_int (nomark _)) (pss_one (ps_set (i := 3) scLawSimpleRight.nd rfl (Or.inl rfl) (pe_op op_cat (pe_op op_cat (pe_slice sl_list (pv 3) po_none (po_some (pv 4))) (pe_slice sl_list (pv 3) (po_some (pv 4)) (po_some (pe_op op_add (pv 4) pe_int)))) (pe_slice sl_list (pv 3) (po_some (pv 4)) po_none)))) pss_nil))
      (pss_cons (ps_mrg (ps_if (pt_cmpR op_eq (pv 5) pe_int (nomark _)) (pss_one (ps_set (i := 3) scLawSimpleRight.nd rfl (Or.inl rfl) (pe_slice3 (pv 3) po_none po_none (pe_un un_neg pe_int)))) pss_nil))
      (pss_cons (ps_mrg (ps_if (pt_cmpR op_eq (pv 5) pe_int (nomark _)) (pss_one (ps_asg (pe_tup (pa_cons (pe_ix ix_tup (pe_ix ix_list (pv 3) (pv 4) (fun _ _ => rfl)) pe_int (fun _ _ => rfl)) (pa_cons (pe_op op_add (pe_ix ix_tup (pe_ix ix_list (pv 3) (pv 4) (fun _ _ => rfl)) pe_int (fun _ _ => rfl)) pe_int) pa_nil))) (pg_sub (pv 3) (pv 4) set_list))) pss_nil))
      (pss_cons (ps_mrg (ps_if (pt_cmpR op_eq (pv 5) pe_int (nomark _)) (pss_one (ps_set (i := 3) scLawSimpleRight.nd rfl (Or.inl rfl) (pe_callB call_sortedPt rfl B.sorted PyProof.Rows.boot_sorted (pa_cons (pv 2) pa_nil)))) pss_nil))
      (pss_cons (ps_set (i := 6) scLawSimpleRight.nd rfl (Or.inl rfl) (pe_callTy call_list_of rfl B.list PyProof.Rows.boot_list (pa_cons (pv 3) pa_nil)))
      (pss_cons (ps_set (i := 7) scLawSimpleRight.nd rfl (Or.inl rfl) (pe_make O.S.mkr GSI hrM rfl O.S.at_ O.SI.bi .nil pass0 (pa_cons (pv 6) pa_nil)))
      (pss_cons (ps_expr (pe_bm PySem.F.plainAttrs_list PySem.F.slot_list_append PySem.F.type_list_append mt_append (pv 6) (pa_cons (pe_tup (pa_cons pe_int (pa_cons pe_int pa_nil))) pa_nil)))
      (pss_one (ps_ret (pe_and (pe_cmpR (op_eqD hr.units) (pe_fld (pv 7) rfl) (pv 3) (nomark _))
        (pe_one (pe_call GS hr1 rfl Sy.at_ Sy.fn.kp Sy.bi .nil pass0 (pa_cons (pe_meth (pv 7) O.S.cl O.S.ms GSS hr O.SS.bi .nil pass0 (pa_cons (pv 0) pa_nil)) (pa_cons (pe_call GM hr2 rfl Sm.at_ Sm.fn.kp Sm.bi .nil pass0 (pa_cons (pv 0) (pa_cons (pv 3) pa_nil))) pa_nil))))))))))))))))))), ?_⟩
    have hpl : (plOf l).length = l.length + 1 := placesP_length _ _
    refine ⟨_, rfl, l, rfl, hl, by (first | lia | omega), fun d2 H0 hd2 s0 hP => ?_⟩
    obtain ⟨as2, h21, h22⟩ := id hP
    have hl2 : as2.length = (plOf l).length := Paired.length h22
    refine ⟨_, rfl, d2, as2, plOf l, rfl, SqL.of h21, h22, by (first | lia | omega), fun d as ps hd hT hle hne => ?_⟩
    have hlen : as.length = ps.length := Paired.length hT
    have s1 := same_new (o := .lst (as.map V.ref)) hd
    have h1 : upd H0 d (.lst (as.map V.ref)) d = some (.lst (as.map V.ref)) := upd_same
    have hT1 : Tups (upd H0 d (.lst (as.map V.ref))) as ps := tups_mono hT s1.tup
    have hpos : 0 < as.length := by
      have := hne (by (first | lia | omega))
      (first | lia | omega)
    change tSeq _ _ _ _ (upd H0 d (.lst (as.map V.ref)))
    generalize upd H0 d (.lst (as.map V.ref)) = H1 at *
    refine ⟨_, rfl, _, _, rfl, rfl, ⟨(by show (0 : Int) < 6; decide), (by show (6 : Int) < 1073741824; decide)⟩, _, rfl, d, _, rfl, .inl (SqL.of h1), _, _, rfl, rfl, (by rw [List.length_map]; (first | lia | omega)), ?_⟩
    rw [List.length_map]
    have hat0 : 0 ≤ z / 6 % (as.length : Int) := Int.emod_nonneg _ (by (first | lia | omega))
    have hat1 : z / 6 % (as.length : Int) < (as.length : Int) := Int.emod_lt_of_pos _ (by (first | lia | omega))
    refine ⟨_, rfl, _, _, rfl, rfl, (by show (0 : Int) < 6; decide), ?_⟩
    change tSeq _ _ _ [some (.str (T l)), some (.int z), some (.ref d2), some (.ref d), some (.int (z / 6 % (as.length : Int))), some (.int (z % 6)), none, none] H1
    generalize z / 6 % (as.length : Int) = at_ at *
    generalize z % 6 = kd at *
    have C0 : Chg H0 l z d2 at_ kd 0 [some (.str (T l)), some (.int z), some (.ref d2), some (.ref d), some (.int at_), some (.int kd), none, none] H1 := ⟨d, as, ps, rfl, hd, s1, h1, hT1, by (first | lia | omega), .inr ⟨hat1, by (first | lia | omega)⟩⟩
    clear hat1 hlen hpos hle hne hT1 hT h1 hd
    -- 1: one left out
    refine ⟨Chg H0 l z d2 at_ kd 1, ?_, ?_⟩
    · refine ⟨_, rfl, rfl, _, rfl, ?_⟩
      refine ite2 (fun h => ?_) (fun h => ?_)
      · have hk : kd = 1 := V.int.inj (of_decide_eq_true h)
        obtain ⟨d, as, ps, e0, hd, sH, h1, hT, hzl, ho⟩ := C0
        cases e0
        obtain ⟨b1, q1, c1, t1, z1⟩ := tups_cut hT none (some at_)
        obtain ⟨b2, q2, c2, t2, z2⟩ := tups_cut hT (some (at_ + 1)) none
        refine ⟨_, rfl, _, rfl, _, rfl, d, _, rfl, SqL.of h1, fun p1 hp1 => ?_⟩
        rw [c1]
        have u1 := same_new (o := .lst (b1.map V.ref)) hp1
        have g1 : upd H1 p1 (.lst (b1.map V.ref)) p1 = some (.lst (b1.map V.ref)) := upd_same
        generalize upd H1 p1 (.lst (b1.map V.ref)) = Ha at *
        refine ⟨_, rfl, _, rfl, _, _, rfl, rfl, _, rfl, d, _, rfl, SqL.of (u1 _ _ h1), fun p2 hp2 => ?_⟩
        rw [c2]
        have u2 := same_new (o := .lst (b2.map V.ref)) hp2
        have g2 : upd Ha p2 (.lst (b2.map V.ref)) p2 = some (.lst (b2.map V.ref)) := upd_same
        generalize upd Ha p2 (.lst (b2.map V.ref)) = Hb at *
        refine ⟨p1, p2, _, _, rfl, rfl, u2 _ _ g1, g2, by rw [List.length_map, List.length_map]; (first | lia | omega), fun p3 hp3 => ?_⟩
        rw [← List.map_append]
        have sab := (sH.trans u1).trans u2
        have u3 := same_new (o := .lst ((b1 ++ b2).map V.ref)) hp3
        refine ⟨p3, b1 ++ b2, q1 ++ q2, rfl, none_of sab hp3, sab.trans u3, upd_same, tups_mono (tups_mono (tups_mono (tups_app t1 t2) u1.tup) u2.tup) u3.tup, by rw [List.length_append]; (first | lia | omega), .inl (by (first | lia | omega))⟩
      · exact C0.mono (by decide)
    -- 2: one twice
    rintro σ1 H1' C1
    obtain ⟨d, as, ps, rfl, hd, sH, h1, hT, hzl, ho⟩ := id C1
    refine ⟨Chg H0 l z d2 at_ kd 2, ?_, ?_⟩
    · refine ⟨_, rfl, rfl, _, rfl, ?_⟩
      refine ite2 (fun h => ?_) (fun h => ?_)
      · have hk : kd = 2 := V.int.inj (of_decide_eq_true h)
        obtain ⟨b1, q1, c1, t1, z1⟩ := tups_cut hT none (some at_)
        obtain ⟨b2, q2, c2, t2, z2⟩ := tups_cut hT (some at_) (some (at_ + 1))
        obtain ⟨b3, q3, c3, t3, z3⟩ := tups_cut hT (some at_) none
        refine ⟨_, rfl, _, rfl, _, rfl, d, _, rfl, SqL.of h1, fun p1 hp1 => ?_⟩
        rw [c1]
        have u1 := same_new (o := .lst (b1.map V.ref)) hp1
        have g1 : upd H1' p1 (.lst (b1.map V.ref)) p1 = some (.lst (b1.map V.ref)) := upd_same
        generalize upd H1' p1 (.lst (b1.map V.ref)) = Ha at *
        refine ⟨_, rfl, _, rfl, _, rfl, _, rfl, _, _, rfl, rfl, _, rfl, d, _, rfl, SqL.of (u1 _ _ h1), fun p2 hp2 => ?_⟩
        rw [c2]
        have u2 := same_new (o := .lst (b2.map V.ref)) hp2
        have g2 : upd Ha p2 (.lst (b2.map V.ref)) p2 = some (.lst (b2.map V.ref)) := upd_same
        generalize upd Ha p2 (.lst (b2.map V.ref)) = Hb at *
        refine ⟨p1, p2, _, _, rfl, rfl, u2 _ _ g1, g2, by rw [List.length_map, List.length_map]; (first | lia | omega), fun p3 hp3 => ?_⟩
        rw [← List.map_append]
        have u3 := same_new (o := .lst ((b1 ++ b2).map V.ref)) hp3
        have g3 : upd Hb p3 (.lst ((b1 ++ b2).map V.ref)) p3 = some (.lst ((b1 ++ b2).map V.ref)) := upd_same
        generalize upd Hb p3 (.lst ((b1 ++ b2).map V.ref)) = Hc at *
        refine ⟨_, rfl, _, rfl, _, rfl, d, _, rfl, SqL.of (u3 _ _ (u2 _ _ (u1 _ _ h1))), fun p4 hp4 => ?_⟩
        rw [c3]
        have u4 := same_new (o := .lst (b3.map V.ref)) hp4
        have g4 : upd Hc p4 (.lst (b3.map V.ref)) p4 = some (.lst (b3.map V.ref)) := upd_same
        generalize upd Hc p4 (.lst (b3.map V.ref)) = Hd at *
        refine ⟨p3, p4, _, _, rfl, rfl, u4 _ _ g3, g4, by rw [List.length_map, List.length_map, List.length_append]; (first | lia | omega), fun p5 hp5 => ?_⟩
        rw [← List.map_append]
        have sab := (((sH.trans u1).trans u2).trans u3).trans u4
        have u5 := same_new (o := .lst ((b1 ++ b2 ++ b3).map V.ref)) hp5
        refine ⟨p5, b1 ++ b2 ++ b3, q1 ++ q2 ++ q3, rfl, none_of sab hp5, sab.trans u5, upd_same, tups_mono (tups_mono (tups_mono (tups_mono (tups_mono (tups_app (tups_app t1 t2) t3) u1.tup) u2.tup) u3.tup) u4.tup) u5.tup, by rw [List.length_append, List.length_append]; (first | lia | omega), .inl (by (first | lia | omega))⟩
      · exact C1.mono (by decide)
    clear C1 hd sH h1 hT hzl ho
    -- 3: in another turn
    rintro σ2 H2' C1
    obtain ⟨d, as, ps, rfl, hd, sH, h1, hT, hzl, ho⟩ := id C1
    refine ⟨Chg H0 l z d2 at_ kd 3, ?_, ?_⟩
    · refine ⟨_, rfl, rfl, _, rfl, ?_⟩
      refine ite2 (fun h => ?_) (fun h => ?_)
      · have hk : kd = 3 := V.int.inj (of_decide_eq_true h)
        refine ⟨_, rfl, _, rfl, d, _, _, rfl, rfl, (by decide), SqL.of h1, fun p1 hp1 => ?_⟩
        rw [pickV_back, ← List.map_reverse]
        have u1 := same_new (o := .lst (as.reverse.map V.ref)) hp1
        refine ⟨p1, as.reverse, ps.reverse, rfl, none_of sH hp1, sH.trans u1, upd_same, tups_mono (tups_rev hT) u1.tup, by rw [List.length_reverse]; (first | lia | omega), .inl (by (first | lia | omega))⟩
      · exact C1.mono (by decide)
    clear C1 hd sH h1 hT hzl ho
    -- 4: one changed
    rintro σ3 H3' C1
    obtain ⟨d, as, ps, rfl, hd, sH, h1, hT, hzl, ho⟩ := id C1
    refine ⟨Chg H0 l z d2 at_ kd 4, ?_, ?_⟩
    · refine ⟨_, rfl, rfl, _, rfl, ?_⟩
      refine ite2 (fun h => ?_) (fun h => ?_)
      · have hk : kd = 4 := V.int.inj (of_decide_eq_true h)
        have hlt : at_.toNat < as.length := by (first | lia | omega)
        have eat : ((at_.toNat : Nat) : Int) = at_ := by (first | lia | omega)
        obtain ⟨q, hq, hta⟩ := paired_get hT (List.getElem?_eq_getElem hlt)
        have ha : (as.map V.ref)[at_.toNat]? = some (.ref as[at_.toNat]) := by rw [List.getElem?_map, List.getElem?_eq_getElem hlt]; rfl
        have hat2 : atI (as.map V.ref) at_ = some (.ref as[at_.toNat]) := by have := atI_nat ha; rwa [eat] at this
        refine ⟨_, rfl, _, rfl, d, _, _, _, rfl, rfl, SqL.of h1, hat2, _, _, _, _, rfl, rfl, SqT.of hta, rfl, _, rfl, _, rfl, d, _, _, _, rfl, rfl, SqL.of h1, hat2, _, _, _, _, rfl, rfl, SqT.of hta, rfl, _, _, rfl, rfl, two_le, fun p1 hp1 => ?_⟩
        have u1 := same_new (o := .tup [.int q.1, .int (q.2 + 1)]) hp1
        have g1 : upd H3' p1 (.tup [.int q.1, .int (q.2 + 1)]) p1 = some (.tup [.int q.1, .int (q.2 + 1)]) := upd_same
        generalize upd H3' p1 (.tup [.int q.1, .int (q.2 + 1)]) = Ha at *
        have hix : ixN (as.map V.ref).length at_ = some at_.toNat := by
          unfold ixN
          rw [if_pos hat0, List.length_map, if_pos (by (first | lia | omega))]
        refine ⟨_, rfl, _, rfl, d, _, _, _, rfl, rfl, u1 _ _ h1, hix, ?_⟩
        rw [← List.map_set]
        have ts : TSame Ha (upd Ha d (.lst ((as.set at_.toNat p1).map V.ref))) := tsame_lst (u1 _ _ h1)
        refine ⟨d, as.set at_.toNat p1, ps.set at_.toNat (q.1, q.2 + 1), rfl, hd, same_upd hd (sH.trans u1), upd_same, tups_mono (tups_set (q := (q.1, q.2 + 1)) g1 _ (tups_mono hT u1.tup)) ts, by rw [List.length_set]; (first | lia | omega), .inl (by (first | lia | omega))⟩
      · exact C1.mono (by decide)
    clear C1 hd sH h1 hT hzl ho
    -- 5: all, with those that come twice
    rintro σ4 H4' C1
    obtain ⟨d, as, ps, rfl, hd, sH, h1, hT, hzl, ho⟩ := id C1
    refine ⟨Chg H0 l z d2 at_ kd 5, ?_, ?_⟩
    · refine ⟨_, rfl, rfl, _, rfl, ?_⟩
      refine ite2 (fun h => ?_) (fun h => ?_)
      · have hk : kd = 5 := V.int.inj (of_decide_eq_true h)
        refine ⟨_, rfl, d2, as2, plOf l, rfl, SqL.of (sH _ _ h21), tups_mono h22 sH.tup, fun e as' ps' he hpe hT' hpp hso => ?_⟩
        have u1 := same_new (o := .lst (as'.map V.ref)) he
        refine ⟨e, as', ps', rfl, none_of sH he, sH.trans u1, upd_same, tups_mono hT' u1.tup, by rw [hpe.length_eq]; (first | lia | omega), .inl (by (first | lia | omega))⟩
      · exact C1.mono (by decide)
    clear C1 hd sH h1 hT hzl ho
    rintro σ5 H5' ⟨d, as, ps, rfl, hd, sH, h1, hT, hzl, -⟩
    have hln : as.length = ps.length := Paired.length hT
    refine ⟨_, rfl, d, _, rfl, .inl (SqL.of h1), fun hn hhn => ?_⟩
    have u1 := same_new (o := .lst (as.map V.ref)) hhn
    have g1 : upd H5' hn (.lst (as.map V.ref)) hn = some (.lst (as.map V.ref)) := upd_same
    change tSeq _ _ _ _ (upd H5' hn (.lst (as.map V.ref)))
    generalize upd H5' hn (.lst (as.map V.ref)) = Ha at *
    refine ⟨_, rfl, fun x dx hx hdx hxd => ?_⟩
    have hex : hn ≠ x := ne_of_none g1 hx
    have hed : hn ≠ dx := ne_of_none g1 hdx
    refine ⟨x, dx, hn, as.map V.ref, rfl, upd_same, SqL.of (by rw [upd_ne hex, upd_ne hed]; exact g1), fun d5 hd5 => ⟨rfl, ?_⟩⟩
    have hdx' : d5 ≠ x := fun z => by rw [z, upd_same] at hd5; cases hd5
    have hdd : d5 ≠ dx := fun z => by rw [z, upd_ne hxd, upd_same] at hd5; cases hd5
    have hd4 : Ha d5 = none := by rw [upd_ne hdx', upd_ne hdd] at hd5; exact hd5
    have old : ∀ y o, Ha y = some o → upd (upd (upd (upd Ha dx (.own x)) x (.ins Cs dx [])) d5 (.lst (as.map V.ref))) x (.ins Cs dx (fsS d5)) y = some o := fun y o e' => by
      rw [upd_ne (ne_of_none e' hx), upd_ne (ne_of_none e' hd4), upd_ne (ne_of_none e' hx), upd_ne (ne_of_none e' hdx)]
      exact e'
    have hX : upd (upd (upd (upd Ha dx (.own x)) x (.ins Cs dx [])) d5 (.lst (as.map V.ref))) x (.ins Cs dx (fsS d5)) x = some (.ins Cs dx (fsS d5)) := upd_same
    have hD : upd (upd (upd (upd Ha dx (.own x)) x (.ins Cs dx [])) d5 (.lst (as.map V.ref))) x (.ins Cs dx (fsS d5)) d5 = some (.lst (as.map V.ref)) := by rw [upd_ne hdx', upd_same]
    change tSeq _ _ _ _ (upd (upd (upd (upd Ha dx (.own x)) x (.ins Cs dx [])) d5 (.lst (as.map V.ref))) x (.ins Cs dx (fsS d5)))
    generalize upd (upd (upd (upd Ha dx (.own x)) x (.ins Cs dx [])) d5 (.lst (as.map V.ref))) x (.ins Cs dx (fsS d5)) = Hb at *
    have hlk : (fsS d5).lookup ("places" : Str) = some (.ref d5) := rfl
    have hdn : d5 ≠ hn := fun z => by rw [z] at hd4; rw [hd4] at g1; cases g1
    have hh0 : H0 hn = none := none_of sH hhn
    refine ⟨_, rfl, .inl ⟨rfl, _, SqL.of (old _ _ g1)⟩, two_le, fun b hb => ?_⟩
    have u2 := same_new (o := .tup [.int 0, .int 0]) hb
    have gN := u2 _ _ (old _ _ g1)
    generalize upd Hb b (.tup [.int 0, .int 0]) = Hc at *
    refine ⟨hn, _, _, rfl, rfl, gN, by rw [List.length_map]; (first | lia | omega), ?_⟩
    have sOld : ∀ y o, y ≠ hn → Hb y = some o → upd Hc hn (.lst (as.map V.ref ++ [.ref b])) y = some o := fun y o hy e => by
      rw [upd_ne hy]
      exact u2 _ _ e
    have hX2 := sOld x _ (Ne.symm hex) hX
    have hD2 := sOld d5 _ hdn hD
    have hdh : d ≠ hn := ne_of_none h1 hhn
    have h1' := sOld d _ hdh (old _ _ (u1 _ _ h1))
    have tC : TSame Hb (upd Hc hn (.lst (as.map V.ref ++ [.ref b]))) := fun y xs e => by
      have := u2 _ _ e
      rw [upd_ne (ne_of this gN (by intro z; cases z))]
      exact this
    have hTB : Tups Hb as ps := hT.mono fun y xs e => old _ _ (u1 _ _ e)
    have hTC : Tups (upd Hc hn (.lst (as.map V.ref ++ [.ref b]))) as ps := hTB.mono tC
    have sF : Same H0 (upd Hc hn (.lst (as.map V.ref ++ [.ref b]))) := fun y o e => sOld y o (ne_of_none e hh0) (old _ _ (u1 _ _ (sH _ _ e)))
    generalize upd Hc hn (.lst (as.map V.ref ++ [.ref b])) = Hd at *
    refine ⟨_, rfl, x, Cs, dx, _, _, rfl, hX2, O.S.cl, O.nP, hlk, _, rfl, ?_⟩
    refine ⟨_, _, dat_pl (ps := ps) ⟨as, hD2, hTC⟩, dat_pl (ps := ps) ⟨as, h1', hTC⟩, shaped_pl _, shaped_pl _, _, rfl, ?_⟩
    rw [eqv_plist, decide_eq_true rfl]
    refine iteT ?_
    refine ⟨_, rfl, x, dx, _, rfl, hX2, rfl, _, rfl, x, l, ps, rfl, ⟨dx, d5, as, hX2, hD2, hTC⟩, by (first | lia | omega), hl, by (first | lia | omega), fun He u3 => ?_⟩
    refine ⟨_, rfl, _, rfl, l, d, ps, rfl, hl, by (first | lia | omega), ⟨as, u3 _ _ h1', tups_mono hTC u3.tup⟩, fun Hf u4 => ?_⟩
    refine ⟨_, _, rfl, ?_⟩
    rw [beq_self_eq_true]
    exact k Hf (((s0.trans sF).trans u3).trans u4)
/-! ### the law -/
abbrev NLaw : List Str := ["_law_script", "_law_walk_here", "_law_some", "_law_at", "_law_cell", "_law_first"]
theorem scLaw : FnScope NLaw ["_law_script"] (defScope sLaw) := ⟨rfl, rfl, rfl, by decide +kernel, rfl, by decide +kernel, by decide +kernel⟩
def spLaw (K : PySem.W.Frag) : Sp := fun vs H Q _ => ∃ (a : Addr) (ns : List Int), vs = [.ref a] ∧ SqL K H a (ns.map V.int) ∧ ns.length ≤ 63 ∧ ∀ H', Q (.bl true) H'
theorem isW_cut {l : List Nat} (h : IsW l) (lo hi : Option Int) : IsW (cutL l lo hi) := fun c hc => h c (List.mem_of_mem_drop (List.mem_of_mem_take hc))
theorem srt_one : srtP (cntP []) = [(0, 0)] := List.mergeSort_singleton _
/-- Simple(a list) -/
theorem make_simple {Cs e x dx : Addr} {H : Hp} {Q : Hp → Prop} {as : List Addr} {ps : List Pt} (he : H e = some (.lst (as.map V.ref))) (hT : Tups H as ps) (hx : H x = none) (hdx : H dx = none) (hxd : dx ≠ x) (q : ∀ H', Same H H' → SimpAt Cs H' x ps → Q H') :
    spSimpInit K Cs [.ref x, .ref e] (upd (upd H dx (.own x)) x (.ins Cs dx [])) (fun r H' => r = .non ∧ Q H') E0 := by
  have hex : e ≠ x := ne_of_none he hx
  have hed : e ≠ dx := ne_of_none he hdx
  refine ⟨x, dx, e, as.map V.ref, rfl, upd_same, SqL.of (by rw [upd_ne hex, upd_ne hed]; exact he), fun d5 hd5 => ⟨rfl, ?_⟩⟩
  have hdx' : d5 ≠ x := fun z => by rw [z, upd_same] at hd5; cases hd5
  have hdd : d5 ≠ dx := fun z => by rw [z, upd_ne hxd, upd_same] at hd5; cases hd5
  have hd4 : H d5 = none := by rw [upd_ne hdx', upd_ne hdd] at hd5; exact hd5
  have old : Same H (upd (upd (upd (upd H dx (.own x)) x (.ins Cs dx [])) d5 (.lst (as.map V.ref))) x (.ins Cs dx (fsS d5))) := fun y o e' => by
    rw [upd_ne (ne_of_none e' hx), upd_ne (ne_of_none e' hd4), upd_ne (ne_of_none e' hx), upd_ne (ne_of_none e' hdx)]
    exact e'
  exact q _ old ⟨dx, d5, as, upd_same, by rw [upd_ne hdx', upd_same], tups_mono hT old.tup⟩
theorem ok_law {f : Addr} {fd : FuncData} (F : Df K mg "law" sLaw ["_law_script"] f fd) (B : Bltn mg) {Cs Ct fSI fSS fTI fTS : Addr} {dSI dSS dTI dTS : FuncData} (O : Two K mg Cs Ct fSI fSS fTI fTS dSI dSS dTI dTS)
    {f1 f3 f4 f5 f6 : Addr} {d1 d3 d4 d5 d6 : FuncData}
    (LW : Df K mg "_law_walk" sLawWalk ["_law_cells"] f1 d1) (GW : FnOk P w K mg base CX0 1 f1 d1 ["_law_cells"] (spLawWalk K))
    (LC : Df K mg "_law_closed" sLawClosed ["_law_script"] f3 d3) (GC : FnOk P w K mg base CX0 2 f3 d3 ["_law_script"] (spLawClosed K))
    (LS : Df K mg "_law_simple_right" sLawSimpleRight ["_law_walk_here", "_law_cell"] f4 d4) (GLS : FnOk P w K mg base CX0 5 f4 d4 ["_law_walk_here", "_law_cell"] spSimpleRight)
    (LT : Df K mg "_law_twice_right" sLawTwiceRight ["_law_walk_here", "_law_first", "_law_second"] f5 d5) (GLT : FnOk P w K mg base CX0 5 f5 d5 ["_law_walk_here", "_law_first", "_law_second"] spTwiceRight)
    (Sy : Df K mg "_law_says" sLawSays ["_law_said", "_law_due"] f6 d6) (GS : FnOk P w K mg base CX0 1 f6 d6 ["_law_said", "_law_due"] spSays)
    (GSI : FnOk P w K mg base CX0 1 fSI dSI ["self", "places"] (spSimpInit K Cs)) (GSS : FnOk P w K mg base CX0 4 fSS dSS ["self", "walk"] (spSimpShows Cs)) : FnOk P w K mg base CX0 10 f fd ["_law_script"] (spLaw K) := by
  refine F.fn.ok scLaw (fun vs H Q E h => ?_) (fun cdv A outer s H vs Q E hr h => ?_)
  · obtain ⟨a, ns, rfl, _⟩ := h
    rfl
  · obtain ⟨a, ns, rfl, hS, hz, k⟩ := h
    have esz : sizeLine = 16777216 := PySem.sizeLine_eq
    have hr1 : Room 1 _ := hr.mono (by decide)
    have hr2 : Room 2 _ := hr.mono (by decide)
    have hrM : Room (1 + 1) _ := hr.mono (by decide)
    have hr4 : Room 4 _ := hr.mono (by decide)
    have hr5 : Room 5 _ := hr.mono (by decide)
    refine ⟨_, (pss_cons (ps_set (i := 1) scLaw.nd rfl (Or.inl rfl) (pe_call GW hr1 rfl LW.at_ LW.fn.kp LW.bi .nil pass0 (pa_cons (pv 0) pa_nil)))
      (pss_cons (ps_for PassesOwn.never rfl (pi_list (pe_lst (pa_cons (pv 1) (pa_cons (pe_call GC hr2 rfl LC.at_ LC.fn.kp LC.bi .nil pass0 (pa_cons (pv 0) pa_nil)) (pa_cons (pe_slice sl_str (pv 1) po_none (po_some pe_int)) (pa_cons pe_str pa_nil)))))) (pg_name (i := 2) scLaw.nd rfl (Or.inl rfl))
        (pss_cons (ps_for PassesOwn.never rfl (pi_enumL rfl B.enumerate (pa_cons (pe_slice sl_list (pv 0) po_none (po_some pe_int)) pa_nil)) (pg_tup (n := 2) rfl (pgs_cons (pg_name (i := 3) scLaw.nd rfl (Or.inl rfl)) (pgs_cons (pg_name (i := 4) scLaw.nd rfl (Or.inl rfl)) pgs_nil)))
          (pss_cons (ps_if (PW.pt (pw_or (pt_not (pt_val (pe_call GLS hr5 rfl LS.at_ LS.fn.kp LS.bi .nil pass0 (pa_cons (pv 2) (pa_cons (pv 4) pa_nil)))))
            (pw_or1 (pt_not (pt_val (pe_call GLT hr5 rfl LT.at_ LT.fn.kp LT.bi .nil pass0 (pa_cons (pv 2) (pa_cons (pv 3) (pa_cons (pe_op op_add (pv 3) pe_int) pa_nil))))))))) pss_never pss_nil)
          (pss_cons (ps_set (i := 5) scLaw.nd rfl (Or.inl rfl) (pe_op op_sub (pe_op op_mod (pe_op op_fdiv (pv 4) pe_int) (pe_op op_add (pe_callB call_len_str rfl B.len PySem.boot_len (pa_cons (pv 2) pa_nil)) pe_int)) pe_int))
          (pss_one (ps_if (pt_not (pt_val (pe_call GLT hr5 rfl LT.at_ LT.fn.kp LT.bi .nil pass0 (pa_cons (pv 2) (pa_cons (pv 5) (pa_cons (pe_op op_sub (pe_op op_mod (pe_op op_fdiv (pv 4) pe_int) (pe_op op_add (pe_callB call_len_str rfl B.len PySem.boot_len (pa_cons (pv 2) pa_nil)) pe_int)) pe_int) pa_nil)))))) pss_never pss_nil)))))
        (pss_one (ps_if (pt_not (pt_val (pe_call GLT hr5 rfl LT.at_ LT.fn.kp LT.bi .nil pass0 (pa_cons (pv 2) (pa_cons pe_int (pa_cons (pe_callB call_len_str rfl B.len PySem.boot_len (pa_cons (pv 2) pa_nil)) pa_nil)))))) pss_never pss_nil))))
      (pss_one (ps_ret (pe_and (pe_call GS hr1 rfl Sy.at_ Sy.fn.kp Sy.bi .nil pass0 (pa_cons (pe_meth (pe_make O.S.mkr GSI hrM rfl O.S.at_ O.SI.bi .nil pass0 (pa_cons (pe_lst (pa_cons (pe_tup (pa_cons pe_int (pa_cons pe_int pa_nil))) pa_nil)) pa_nil)) O.S.cl O.S.ms GSS hr4 O.SS.bi .nil pass0 (pa_cons pe_str pa_nil)) (pa_cons pe_bl pa_nil)))
        (pe_one (pe_call GS hr1 rfl Sy.at_ Sy.fn.kp Sy.bi .nil pass0 (pa_cons (pe_meth (pe_make O.S.mkr GSI hrM rfl O.S.at_ O.SI.bi .nil pass0 (pa_cons (pe_lst pa_nil) pa_nil)) O.S.cl O.S.ms GSS hr4 O.SS.bi .nil pass0 (pa_cons pe_str pa_nil)) (pa_cons pe_bl pa_nil))))))))), ?_⟩
    have hlw := lawW_length ns
    refine ⟨_, rfl, a, ns, rfl, hS, hz, fun H1 s1 => ?_⟩
    have hS1 := s1.seq hS
    have hW := isW_lawW ns
    have hcw := isW_closedL (b := decide (ns.sum % 2 = 0)) (isW_lawW ns)
    have hcl := closedL_length (decide (ns.sum % 2 = 0)) (lawW ns)
    refine ⟨_, rfl, _, rfl, a, ns, rfl, hS1, hz, fun H4 s4 => ⟨_, rfl, _, rfl, _, rfl, by (first | lia | omega), (by show 4 ≤ sizeLine; decide), fun e he => ?_⟩⟩
    generalize closedL (decide (ns.sum % 2 = 0)) (lawW ns) = c at *
    have hk := cutL_length (lawW ns) none (some 3)
    have hkw := isW_cut hW none (some 3)
    have w4 : IsW [110, 101, 115, 119] := by intro c hc; unfold Lt; revert c; decide
    have hS4 := s4.seq hS1
    rw [lit_nesw] at *
    generalize cutL (lawW ns) none (some 3) = n at *
    let ws : List (List Nat) := [lawW ns, c, n, [110, 101, 115, 119]]
    have hws : ∀ x ∈ ws, IsW x ∧ x.length ≤ 900 := by
      intro x hx
      simp only [ws, List.mem_cons, List.not_mem_nil, or_false] at hx
      rcases hx with rfl | rfl | rfl | rfl
      · exact ⟨hW, by (first | lia | omega)⟩
      · exact ⟨hcw, by (first | lia | omega)⟩
      · exact ⟨hkw, by (first | lia | omega)⟩
      · exact ⟨w4, by decide⟩
    have h5 : upd H4 e (.lst [.str (T (lawW ns)), .str (T c), .str (T n), .str (T [110, 101, 115, 119])]) e = some (.lst (ws.map fun x => V.str (T x))) := upd_same
    have s5 := same_new (o := .lst [.str (T (lawW ns)), .str (T c), .str (T n), .str (T [110, 101, 115, 119])]) he
    generalize upd H4 e (.lst [.str (T (lawW ns)), .str (T c), .str (T n), .str (T [110, 101, 115, 119])]) = H5 at *
    have hS5 := s5.seq hS4
    refine ⟨e, rfl, ⟨_, SqL.of h5⟩, for_list (K := K) (a := e) (xs := ws.map fun x => V.str (T x)) (fun _ σ H' => ∃ v2 v3 v4 v5 : Option V, σ = [some (.ref a), some (.str (T (lawW ns))), v2, v3, v4, v5] ∧ Same H5 H') ⟨none, none, none, none, rfl, Same.refl _⟩ (fun _ σ H' _ ⟨_, _, _, _, _, s⟩ => SqL.of (s _ _ h5)) ?_ ?_⟩
    · rintro i0 x σ H' hx ⟨v2, v3, v4, v5, rfl, sH⟩
      rw [List.getElem?_map] at hx
      obtain ⟨y, hy, rfl⟩ := Option.map_eq_some_iff.mp hx
      obtain ⟨hyw, hyl⟩ := hws y (List.mem_of_getElem? hy)
      refine ⟨_, rfl, _, rfl, a, _, rfl, sH.seq hS5, fun p1 hp1 => ?_⟩
      have u1 := same_new (o := .lst (cutV (ns.map V.int) none (some 10))) hp1
      have g1 : upd H' p1 (.lst (cutV (ns.map V.int) none (some 10))) p1 = some (.lst (cutV (ns.map V.int) none (some 10))) := upd_same
      generalize upd H' p1 (.lst (cutV (ns.map V.int) none (some 10))) = Ha at *
      have hin : ∀ x ∈ cutV (ns.map V.int) none (some 10), ∃ z, x = V.int z := fun x hx => by
        obtain ⟨z, _, rfl⟩ := List.mem_map.mp (List.mem_of_mem_drop (List.mem_of_mem_take hx))
        exact ⟨z, rfl⟩
      generalize cutV (ns.map V.int) none (some 10) = xs at *
      refine ⟨p1, rfl, ⟨_, SqL.of g1⟩, ?_⟩
      refine for_enumL (K := K) (a := p1) (xs := xs) (fun i σ H' => ∃ v3 v4 v5 : Option V, σ = [some (.ref a), some (.str (T (lawW ns))), some (.str (T y)), v3, v4, v5] ∧ Same Ha H') ⟨v3, v4, v5, rfl, Same.refl _⟩ (fun i σ H' _ ⟨_, _, _, _, s⟩ => SqL.of (s _ _ g1)) ?_ ?_
      · rintro i v σ H6 b hv ⟨w3, w4, w5, rfl, sI⟩ hb
        obtain ⟨z, rfl⟩ := hin v (List.mem_of_getElem? hv)
        have sb := same_new (o := .tup [.int (i : Int), .int z]) hb
        have tb : upd H6 b (.tup [.int (i : Int), .int z]) b = some (.tup [.int (i : Int), .int z]) := upd_same
        change gTup _ _ _ _ _ (upd H6 b (.tup [.int (i : Int), .int z])) _
        generalize upd H6 b (.tup [.int (i : Int), .int z]) = H7 at *
        refine ⟨b, _, rfl, SqT.of tb, rfl, _, _, rfl, _, _, rfl, rfl, ?_⟩
        refine ⟨_, rfl, _, rfl, y, z, rfl, hyw, hyl, fun H8 s8 => ⟨_, rfl, iteF ?_⟩⟩
        refine ⟨_, rfl, _, rfl, _, rfl, _, _, rfl, rfl, y, _, _, rfl, hyw, hyl, fun H9 s9 => ⟨_, rfl, iteF ?_⟩⟩
        refine ⟨_, rfl, _, _, rfl, rfl, ⟨(by show (0 : Int) < 5; decide), (by show (5 : Int) < 1073741824; decide)⟩, _, rfl, _, rfl, (by rw [T_len]; (first | lia | omega)), _, _, rfl, rfl, _, _, rfl, rfl, (by rw [T_len]; show (0 : Int) < (y.length : Int) + 3; (first | lia | omega)), _, _, rfl, rfl, ?_⟩
        refine ⟨_, rfl, _, rfl, _, rfl, _, _, rfl, rfl, ⟨(by show (0 : Int) < 7; decide), (by show (7 : Int) < 1073741824; decide)⟩, _, rfl, _, rfl, (by rw [T_len]; (first | lia | omega)), _, _, rfl, rfl, _, _, rfl, rfl, (by rw [T_len]; show (0 : Int) < (y.length : Int) + 3; (first | lia | omega)), _, _, rfl, rfl, y, _, _, rfl, hyw, hyl, fun H10 s10 => ⟨_, rfl, iteF ?_⟩⟩
        exact ⟨_, _, _, rfl, (((sI.trans sb).trans s8).trans s9).trans s10⟩
      · rintro σ H6 ⟨w3, w4, w5, rfl, sI⟩
        refine ⟨_, rfl, _, rfl, _, rfl, (by rw [T_len]; (first | lia | omega)), y, _, _, rfl, hyw, hyl, fun H7 s7 => ⟨_, rfl, iteF ?_⟩⟩
        exact ⟨_, _, _, _, rfl, ((sH.trans u1).trans sI).trans s7⟩
    · rintro σ H6 ⟨v2, v3, v4, v5, rfl, sH⟩
      refine ⟨two_le, fun b hb => ⟨(by show 1 ≤ sizeLine; decide), fun d hd => ?_⟩⟩
      have ub := same_new (o := .tup [.int 0, .int 0]) hb
      have tb : upd H6 b (.tup [.int 0, .int 0]) b = some (.tup [.int 0, .int 0]) := upd_same
      generalize upd H6 b (.tup [.int 0, .int 0]) = H7 at *
      have ud := same_new (o := .lst [.ref b]) hd
      have td : upd H7 d (.lst [.ref b]) d = some (.lst ([b].map V.ref)) := upd_same
      have tb8 := ud _ _ tb
      generalize upd H7 d (.lst [.ref b]) = H8 at *
      intro x dx0 hx hdx hxd
      refine make_simple (K := K) (as := [b]) (ps := [(0, 0)]) td (.cons tb8 .nil) hx hdx hxd fun H9 s9 hSm => ?_
      obtain ⟨dx, d5, as5, hX, hD5, hT5⟩ := id hSm
      refine ⟨x, dx, _, rfl, hX, rfl, x, [], _, by rw [lit_0]; rfl, hSm, by decide, isW_nil, by decide, fun H10 s10 => ?_⟩
      rw [srt_one, decide_eq_true ⟨rfl, (by decide : (cntP []).Nodup)⟩]
      refine ⟨_, _, rfl, _, rfl, iteT ?_⟩
      refine ⟨(by show 0 ≤ sizeLine; decide), fun g hg => ?_⟩
      have tg : upd H10 g (.lst []) g = some (.lst (([] : List Addr).map V.ref)) := upd_same
      generalize upd H10 g (.lst []) = H11 at *
      intro x dx1 hx1 hdx1 hxd1
      refine make_simple (K := K) (as := []) (ps := []) tg .nil hx1 hdx1 hxd1 fun H12 s12 hSm => ?_
      obtain ⟨dx, d5, as5, hX, hD5, hT5⟩ := id hSm
      refine ⟨x, dx, _, rfl, hX, rfl, x, [], _, by rw [lit_0]; rfl, hSm, by decide, isW_nil, by decide, fun H13 s13 => ?_⟩
      rw [srt_one, decide_eq_false fun z => by cases z.1]
      exact ⟨_, _, rfl, k _⟩
theorem law_all {f : Addr} {fd : FuncData} (F : Df K mg "law" sLaw ["_law_script"] f fd) (X : Txt K mg) (G : Own K mg) (B : Bltn mg) (D : Fns K mg) : FnOk P w K mg base CX0 10 f fd ["_law_script"] (spLaw K) := by
  obtain ⟨_, _, d_check_walk⟩ := D.CheckWalk
  obtain ⟨_, _, d_is_number⟩ := D.IsNumber
  obtain ⟨_, _, d_is_pair⟩ := D.IsPair
  obtain ⟨_, _, d_is_closed⟩ := D.IsClosed
  obtain ⟨_, _, d_stepped⟩ := D.Stepped
  obtain ⟨_, _, d_places⟩ := D.Places
  obtain ⟨_, _, d_counted_places⟩ := D.CountedPlaces
  obtain ⟨_, _, d_end⟩ := D.End
  obtain ⟨_, _, d_rises⟩ := D.Rises
  obtain ⟨_, _, d__law_walk⟩ := D.LawWalk
  obtain ⟨_, _, d__law_places⟩ := D.LawPlaces
  obtain ⟨_, _, d__law_closed⟩ := D.LawClosed
  obtain ⟨_, _, d__law_says⟩ := D.LawSays
  obtain ⟨_, _, d__law_simple⟩ := D.LawSimple
  obtain ⟨_, _, d__law_simple_right⟩ := D.LawSimpleRight
  obtain ⟨_, _, d__law_twice_right⟩ := D.LawTwiceRight
  obtain ⟨Cs, Ct, fSI, fSS, fTI, fTS, dSI, dSS, dTI, dTS, O⟩ := G.out
  have GP : FnOk P w K mg base CX0 2 _ _ ["walk"] spPlaces := ok_places d_places X d_check_walk d_stepped
  have GC := ok_counted_places (P := P) (w := w) (base := base) d_counted_places B.len d_places GP
  have GSI := ok_simple_init (P := P) (w := w) (base := base) (mg := mg) O.SI B.list O.S.cl O.nP
  have GTI := ok_twice_init (P := P) (w := w) (base := base) (mg := mg) O.TI O.Tw.cl O.nF O.nS
  have GSS := ok_simple_shows (P := P) (w := w) (base := base) O.SS B.sorted B.all O.S.cl O.nP d_counted_places GC d_rises (ok_rises d_rises B.all B.zip) d_is_pair (ok_is_pair d_is_pair X B.tuple B.len d_is_number)
  have GTS := ok_twice_shows (P := P) (w := w) (base := base) O.TS B.len O.Tw.cl O.nF O.nS d_check_walk (ok_check_walk d_check_walk X) d_is_number (ok_is_number d_is_number X) d_is_closed (ok_is_closed d_is_closed X d_check_walk d_end)
  have GLP : FnOk P w K mg base CX0 1 _ _ ["_law_walk_here"] spPlaces := ok_law_places d__law_places
  have GS := ok_law_says (P := P) (w := w) (base := base) d__law_says X
  have GM := ok_law_simple (P := P) (w := w) (base := base) d__law_simple B d__law_places GLP
  exact ok_law F B O d__law_walk (ok_law_walk d__law_walk) d__law_closed (ok_law_closed d__law_closed d__law_walk d__law_places B.abs B.sum) d__law_simple_right (ok_law_simple_right d__law_simple_right B O GSI GSS d__law_says GS d__law_simple GM d__law_places GLP) d__law_twice_right (ok_law_twice_right d__law_twice_right B O GTI GTS d__law_says GS d__law_places GLP) d__law_says GS GSI GSS
end
theorem df_mk {K : PySem.W.Frag} {mg : Str → Option Value} {h : Heap} {x : Str} {st : Stmt} {ps : List Str} {f : Addr} {oc : Value} {od an : Option Addr} {osl : Array (Option Value)} {kV doc pm cdv ct : Value} (X : K.In h) (G : h.Ns mainGlobals mg)
    (hb : ∀ (kV doc pm : Value) (an : Option Addr) (cdv ct : Value) (us : List Value), us.length = ps.length → bindArgs (PySem.W.fnOf x x (defArgs st) (defBody st) (defScope st) .none kV doc pm an cdv ct) ⟨us, []⟩ = pure (ps.zip us))
    (a : PySem.W.nsIn K mainGlobals x = some (some (.ref f))) (l : K.lookup f = some ⟨oc, od, .func (PySem.W.fnOf x x (defArgs st) (defBody st) (defScope st) .none kV doc pm an cdv ct), osl⟩) (c : PySem.W.codeIn K cdv x = true) (k : PySem.W.keepIn K (.ref f) = true) :
    ∃ f fd, Df K mg x st ps f fd := ⟨f, _, fun_mk l c k, (fun_mk l c k).binds hb, PySem.W.mg_of X G a⟩
theorem lw_mk {K : PySem.W.Frag} {mg : Str → Option Value} {h : Heap} {t : Tok} (X : K.In h) (G : h.Ns mainGlobals mg) (a : PySem.W.nsIn K mainGlobals "LEFTWARD" = some (some (.str "nwse" t))) : ∃ t, mg "LEFTWARD" = some (.str "nwse" t) := ⟨t, PySem.W.mg_of X G a⟩
theorem law_mk {l : PySem.W.OpenLaw} {w : World} {K : PySem.W.Frag} {h : Heap} {mg : Str → Option Value} {fa : Addr} (X : K.In h) (G : h.Ns mainGlobals mg) (hfa : mg "law" = some (.ref fa)) (T : Txt K mg) (Gw : Own K mg) (B : Bltn mg) (D : Fns K mg)
    {f4 : Addr} {od4 an4 : Option Addr} {sl4 : Array (Option Value)} {oc4 kV4 dc4 pm4 cd4 ct4 : Value}
    (a4 : PySem.W.nsIn K mainGlobals "law" = some (some (.ref f4))) (l4 : K.lookup f4 = some ⟨oc4, od4, .func (PySem.W.fnOf "law" "law" (defArgs sLaw) (defBody sLaw) (defScope sLaw) .none kV4 dc4 pm4 an4 cd4 ct4), sl4⟩) (c4 : PySem.W.codeIn K cd4 "law" = true) (k4 : PySem.W.keepIn K (.ref f4) = true) :
    ∃ fd : FuncData, (∀ (s : Shared) (v : Value), BindsTo s fd ⟨[v], []⟩ [("_law_script", v)]) ∧ ∀ base : Heap, K.In base → base.Ns mainGlobals mg → FnOk l.prog w K mg base CX0 10 fa fd ["_law_script"] (spLaw K) := by
  have e := hfa.symm.trans (PySem.W.mg_of X G a4)
  cases e
  have F4 := fun_mk (st := sLaw) l4 c4 k4
  have b4 := F4.binds (ps := ["_law_script"]) fun _ _ _ _ _ _ us hl => match us, hl with | [_], _ => rfl
  exact ⟨PySem.W.fnOf "law" "law" (defArgs sLaw) (defBody sLaw) (defScope sLaw) .none kV4 dc4 pm4 an4 cd4 ct4, fun s v => .of_eq rfl, fun base _ _ => law_all ⟨F4, b4, PySem.W.mg_of X G a4⟩ T Gw B D⟩
theorem walk {l : PySem.W.OpenLaw} {q : Program} {loose : List Str} {XP : (Str → Option Value) → Heap → Prop} {YP : World → Heap → Prop} {d : DefRec} {K : Params → PySem.W.Frag} (hn : l.most = some 63) (hdf : d.params.defaults = [])
    (hY : ∀ (w : World) (h : Heap), YP w h → (K w.params).In h)
    (F : ∀ (w : World) (mg : Str → Option Value) (fa : Addr) (h : Heap), (K w.params).In h → h.Ns mainGlobals mg → mg d.name = some (.ref fa) →
      ∃ fd : FuncData, (∀ (s : Shared) (u : Value), BindsTo s fd ⟨[u], []⟩ [("_law_script", u)]) ∧ ∀ base : Heap, (K w.params).In base → base.Ns mainGlobals mg → FnOk l.prog w (K w.params) mg base CX0 10 fa fd ["_law_script"] (spLaw (K w.params))) :
    PySem.W.WalkO q loose XP YP l.row.toRowW d [] (fun f vs => PySem.call f vs) :=
  L2.walk_of (n := 63) (k := 10) (x := "_law_script") (CX := fun _ => CX0) (sp := fun w => spLaw (K w.params)) hn (by decide) hdf ⟨rfl, by decide, by decide⟩ hY F (fun _ _ a ns hl _ hS => ⟨a, ns, rfl, hS, hl, fun _ => rfl⟩) fun _ _ _ _ _ z => z
end SW
open PySem PySem.W PyProof.Rows
set_option maxRecDepth 100000 in
set_option maxHeartbeats 0 in
theorem PySem.Challenge.cw_squarewalk_k07_answers_by_hand_holds : PySem.Challenge.rw_squarewalk_k07_answers_by_hand.Holds := by
  w_on; o_law; k_head; (case hw => w_witness2)
  k_fill
  refine SW.walk (l := PySem.Challenge.rw_squarewalk_k07_answers_by_hand) rfl rfl (fun w h Y => PySem.W.kIn_of Y) ?F
  case F =>
    intro w mg fa h KX G hmg
    refine' SW.law_mk KX G hmg ?T ?Gw ?B ?D ?a4 ?l4 ?c4 ?k4
    (case a4 => k_is); (case l4 => k_is); (case c4 => k_is); (case k4 => k_is)
    case T =>
      refine ⟨PySem.W.mg_none_of KX G ?_, PySem.W.mg_none_of KX G ?_, PySem.W.mg_none_of KX G ?_, PySem.W.mg_none_of KX G ?_, ?_⟩
      · k_is
      · k_is
      · k_is
      · k_is
      · refine' SW.lw_mk KX G ?a
        (case a => k_is)
    case Gw =>
      refine' SW.own_mk ?S ?Tw ?nP ?nF ?nS ?l1 ?c1 ?k1 ?l2 ?c2 ?l3 ?c3 ?k3 ?l4 ?c4
      case S =>
        refine' SW.cls_mk KX G ?aC ?pg ?hd ?po ?sa ?mk ?kc ?a1 ?i1 ?a2 ?i2 ?k2 ?ha ?hn ?htk ?hm
        (case aC => k_is); (case pg => k_is); (case hd => k_is); (case po => k_is); (case sa => k_is); (case mk => k_is); (case kc => k_is); (case a1 => k_is); (case i1 => k_is); (case a2 => k_is); (case i2 => k_is); (case k2 => k_is)
        (case ha => k_is); (case hn => k_is); (case htk => k_is); (case hm => k_is)
      case Tw =>
        refine' SW.cls_mk KX G ?aC ?pg ?hd ?po ?sa ?mk ?kc ?a1 ?i1 ?a2 ?i2 ?k2 ?ha ?hn ?htk ?hm
        (case aC => k_is); (case pg => k_is); (case hd => k_is); (case po => k_is); (case sa => k_is); (case mk => k_is); (case kc => k_is); (case a1 => k_is); (case i1 => k_is); (case a2 => k_is); (case i2 => k_is); (case k2 => k_is)
        (case ha => k_is); (case hn => k_is); (case htk => k_is); (case hm => k_is)
      (case nP => k_is); (case nF => k_is); (case nS => k_is)
      (case l1 => k_is); (case c1 => k_is); (case k1 => k_is); (case l2 => k_is); (case c2 => k_is); (case l3 => k_is); (case c3 => k_is); (case k3 => k_is); (case l4 => k_is); (case c4 => k_is)
    case B =>
      refine ⟨PySem.W.mg_none_of KX G ?_, PySem.W.mg_none_of KX G ?_, PySem.W.mg_none_of KX G ?_, PySem.W.mg_none_of KX G ?_, PySem.W.mg_none_of KX G ?_, PySem.W.mg_none_of KX G ?_, PySem.W.mg_none_of KX G ?_, PySem.W.mg_none_of KX G ?_, PySem.W.mg_none_of KX G ?_, PySem.W.mg_none_of KX G ?_⟩
      all_goals k_is
    case D =>
      refine ⟨?_, ?_, ?_, ?_, ?_, ?_, ?_, ?_, ?_, ?_, ?_, ?_, ?_, ?_, ?_, ?_⟩
      all_goals
        refine' SW.df_mk KX G ?hb ?a ?l ?c ?k
        (case a => k_is); (case l => k_is); (case c => k_is); (case k => k_is)
        case hb => first | exact (fun _ _ _ _ _ _ us hl => match us, hl with | [_], _ => rfl) | exact (fun _ _ _ _ _ _ us hl => match us, hl with | [_, _], _ => rfl) | exact (fun _ _ _ _ _ _ us hl => match us, hl with | [_, _, _], _ => rfl)

