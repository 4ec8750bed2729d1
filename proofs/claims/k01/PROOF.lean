import PyProof.Rows.All
import Wide.All
import OpenK.AllK
import Wide.FinOn
import Lean
import PyProof.EqAt
import PyProof.EqKinds
import PyProof.TupleCall
import PyProof.Rows.SortRuns
import PyProof.Rows.SortShell
import KE.KSortTup
import PySem.Challenge.RW_squarewalk_k01_whole_walks
set_option Elab.async false
set_option linter.all false
set_option maxRecDepth 100000
/-! THE HAND LAYER, for ints, bools, texts, own classes, DICTS (int and text keys), calls, loops. Paste it whole ahead of your own text; what your proof does not reach may be deleted. -/
namespace L2
open PySem PySem.Spec PyProof.Rows

/-- a key: an int or a str -/
abbrev Key := Sum Int Str
def keyIs : Key → Value → Bool
  | .inl k, v => Value.isInt k v
  | .inr x, v => Value.isStrOf x v
def keyH (w : World) : Key → Int
  | .inl k => hashInt k
  | .inr x => hashStr w x
theorem keyIs_shape : ∀ {k : Key} {v : Value}, keyIs k v = true → (∃ i t, k = Sum.inl i ∧ v = Value.int i t) ∨ (∃ x t, k = Sum.inr x ∧ v = Value.str x t)
  | .inl i, v, h => by
    obtain ⟨t, e⟩ := Value.isInt_shape (k := i) (v := v) h
    exact .inl ⟨i, t, rfl, e⟩
  | .inr x, v, h => by
    obtain ⟨t, e⟩ := Value.isStrOf_shape (x := x) (v := v) h
    exact .inr ⟨x, t, rfl, e⟩
theorem keyIs_int (i : Int) (t : Tok) : keyIs (.inl i) (.int i t) = true := by simp [keyIs, Value.isInt]
theorem keyIs_str (x : Str) (t : Tok) : keyIs (.inr x) (.str x t) = true := by simp [keyIs, Value.isStrOf]
theorem key_ll (a b : Int) : decide ((Sum.inl a : Key) = Sum.inl b) = (a == b) := by
  by_cases e : a = b
  · subst e; simp
  · have h : ¬ (Sum.inl a : Key) = Sum.inl b := fun q => e (Sum.inl.inj q)
    rw [decide_eq_false h]
    exact (beq_eq_false_iff_ne.mpr e).symm
theorem key_rr (a b : Str) : decide ((Sum.inr a : Key) = Sum.inr b) = decide (a = b) := by
  by_cases e : a = b
  · subst e; simp
  · have h : ¬ (Sum.inr a : Key) = Sum.inr b := fun q => e (Sum.inr.inj q)
    rw [decide_eq_false h, decide_eq_false e]
theorem key_lr (a : Int) (b : Str) : decide ((Sum.inl a : Key) = Sum.inr b) = false := decide_eq_false (fun q => nomatch q)
theorem key_rl (a : Str) (b : Int) : decide ((Sum.inr a : Key) = Sum.inl b) = false := decide_eq_false (fun q => nomatch q)

def mixKind (prog : Program) (w : World) : PySem.KeyKind prog w Key where
  is := keyIs
  hash := keyH w
  inj := fun v a b ha hb => by
    rcases keyIs_shape ha with ⟨i, t, rfl, rfl⟩ | ⟨x, t, rfl, rfl⟩
    · rcases keyIs_shape hb with ⟨j, u, rfl, e⟩ | ⟨y, u, rfl, e⟩
      · injection e with e1 _; rw [e1]
      · exact nomatch e
    · rcases keyIs_shape hb with ⟨j, u, rfl, e⟩ | ⟨y, u, rfl, e⟩
      · exact nomatch e
      · injection e with e1 _; rw [e1]
  byValue := fun k v h => by
    rcases keyIs_shape h with ⟨i, t, rfl, rfl⟩ | ⟨x, t, rfl, rfl⟩ <;> rfl
  pyHash := fun hv h => by
    rcases keyIs_shape hv with ⟨i, t, rfl, rfl⟩ | ⟨x, t, rfl, rfl⟩
    · exact wpAny_pyHash_int h
    · exact wpAny_pyHash_str h
  eqBool := fun hu hv h => by
    rcases keyIs_shape hu with ⟨i, t, rfl, rfl⟩ | ⟨x, t, rfl, rfl⟩
    · rcases keyIs_shape hv with ⟨j, u, rfl, rfl⟩ | ⟨y, u, rfl, rfl⟩
      · rw [key_ll] at h; exact wpAny_eqBool_int h
      · rw [key_lr] at h; exact SeqAt.EqAt.int_str i t y u _ _ _ _ h
    · rcases keyIs_shape hv with ⟨j, u, rfl, rfl⟩ | ⟨y, u, rfl, rfl⟩
      · rw [key_rl] at h; exact SeqAt.EqAt.str_int x t j u _ _ _ _ h
      · rw [key_rr] at h; exact wpAny_eqBool_str h
  «strs» := fun k x t v h => by
    rcases keyIs_shape h with ⟨i, u, rfl, e⟩ | ⟨y, u, rfl, e⟩
    · exact nomatch e
    · injection e with e1 _
      subst e1
      cases v <;> rfl

theorem mixKind_int (prog : Program) (w : World) (i : Int) (t : Tok) : (mixKind prog w).is (.inl i) (.int i t) = true := keyIs_int i t
theorem mixKind_str (prog : Program) (w : World) (x : Str) (t : Tok) : (mixKind prog w).is (.inr x) (.str x t) = true := keyIs_str x t
end L2

namespace L2
open PySem PySem.Spec PyProof.Rows

/-- a value, without the heap -/
inductive V where
  | non | bl (b : Bool) | int (i : Int) | str (x : Str) | byt (b : Array UInt8) | flt (b : UInt64) | ref (a : Addr) | ty (n : String)
  deriving DecidableEq

def RelV : V → Value → Prop
  | .non, u => u = Value.none
  | .bl b, u => u = Value.bool b
  | .int i, u => ∃ t, u = Value.int i t
  | .str x, u => ∃ t, u = Value.str x t
  | .byt b, u => ∃ t, u = Value.bytes b t
  | .flt b, u => ∃ t, u = Value.float b t
  | .ref a, u => u = Value.ref a
  | .ty n, u => u = Value.type n

abbrev Vals : List V → List Value → Prop := Paired RelV
theorem Vals.length {xs : List V} {us : List Value} (r : Vals xs us) : xs.length = us.length := Paired.length r
theorem Vals.get : ∀ {xs : List V} {us : List Value} {i : Nat} {x : V}, Vals xs us → xs[i]? = some x → ∃ u, us[i]? = some u ∧ RelV x u
  | _, _, _, _, .nil, e => by simp at e
  | _, _, 0, _, .cons r _, e => by simp at e; subst e; exact ⟨_, rfl, r⟩
  | _, _, i + 1, x, .cons _ t, e => by
    obtain ⟨u, h1, h2⟩ := Vals.get (i := i) (x := x) t (by simpa using e)
    exact ⟨u, by simpa using h1, h2⟩
theorem Vals.append : ∀ {xs ys : List V} {us ws : List Value}, Vals xs us → Vals ys ws → Vals (xs ++ ys) (us ++ ws)
  | _, _, _, _, .nil, s => s
  | _, _, _, _, .cons r t, s => .cons r (Vals.append t s)

def RelO : Option V → Option Value → Prop
  | some v, some u => RelV v u
  | none, none => True
  | _, _ => False
def KV {κ : Type} : List (κ × V) → List (κ × Value) → Prop := Paired fun (p : κ × V) (q : κ × Value) => p.1 = q.1 ∧ RelV p.2 q.2

/-- a key of a dict (00_mix): an int or a text -/
def kV : Key → V
  | .inl i => .int i
  | .inr x => .str x

/-- what stands at a tracked address -/
inductive HO where
  /-- a list -/
  | lst (xs : List V)
  /-- a tuple (never changes) -/
  | tup (xs : List V)
  /-- a dict whose keys are ints and texts; one whose keys are tuples of ints and texts (the empty one is both) -/
  | dK (kvs : List (Key × V)) | dT (kvs : List (List Key × V))
  /-- a set of ints: its members, its size -/
  | set (S : Int → Bool) (n : Nat)
  /-- an instance of the class at C, its dict at dx, its attributes -/
  | ins (C dx : Addr) (fs : List (Str × V))
  /-- the dict of the instance at x -/
  | own (x : Addr)
  /-- the dict of an exception -/
  | xd (fs : List (Str × V))
  /-- a bound method, f of x -/
  | met (f x : Addr)
  /-- a range object lo, lo + 1, .. below hi -/
  | rng (lo hi : Int)
  /-- a thing that is known to the object (the script; a dict while a loop walks it): read, never written while it is so -/
  | frz (o : Obj) (u : HO)
  /-- a code object's table -/
  | tbl (ps : Array Value)
  /-- any other thing, by what is true of its one object (a def of one's own: SetO a S n := HO.ext fun h => ..) -/
  | ext (φ : Heap → Prop)

abbrev Hp := Addr → Option HO
def upd (H : Hp) (a : Addr) (o : HO) : Hp := fun b => if b = a then some o else H b
theorem upd_same {H : Hp} {a : Addr} {o : HO} : upd H a o a = some o := by unfold upd; rw [if_pos rfl]
theorem upd_ne {H : Hp} {a b : Addr} {o : HO} (h : b ≠ a) : upd H a o b = H b := by unfold upd; rw [if_neg h]
/-- two objects of different content stand apart -/
theorem ne_of {H : Hp} {a b : Addr} {o u : HO} (h : H a = some o) (h' : H b = some u) (d : o ≠ u) : a ≠ b := by
  intro e; subst e; rw [h] at h'; exact d (Option.some.inj h')
theorem ne_of_none {H : Hp} {a b : Addr} {o : HO} (h : H a = some o) (h' : H b = none) : a ≠ b := by
  intro e; subst e; rw [h] at h'; cases h'

section
variable (P : Program) (w : World)
def ObjOk (H : Hp) (h : Heap) (a : Addr) : HO → Prop
  | .lst xs => xs.length ≤ sizeLine ∧ ∃ (its : List Value) (n : Nat), Vals xs its ∧ h.get? a = some { cls := .type "list", data := .seq its.toArray n }
  | .tup xs => xs.length ≤ sizeLine ∧ ∃ its : List Value, Vals xs its ∧ IsTup h a its.toArray
  | .dK kvs => kvs.length ≤ sizeLine ∧ (a == sysModules) = false ∧ ∃ vs, KV kvs vs ∧ h.DictOf (mixKind P w) a vs
  | .dT kvs => kvs.length ≤ sizeLine ∧ (a == sysModules) = false ∧ ∃ xs : List (List Key × Addr × Value),
      Paired (fun (p : List Key × V) (q : List Key × Addr × Value) => p.1 = q.1 ∧ H q.2.1 = some (.tup (p.1.map kV)) ∧ RelV p.2 q.2.2) kvs xs ∧
      ∃ o es ep, h.get? a = some o ∧ o.ExactDict ∧ o.data = .dict es ep ∧ es.toList = xs.map (entryOfKey (tupleKind (mixKind P w))) ∧ (xs.map (·.1)).Nodup
  | .set S n => h.SetOf (intKind P w) a S n
  | .ins C dx fs => H dx = some (.own a) ∧ fs.length ≤ 1000 ∧ dx ≠ a ∧ h.get? a = some (PySem.W.instObj C dx) ∧
      ∃ mA, h.Ns1 dx mA ∧ (∀ f, RelO (fs.lookup f) (mA f)) ∧ PySem.Within mA (fs.map (·.1))
  | .own _ => ∃ o, h.get? a = some o
  | .xd fs => ∃ mA, h.Ns1 a mA ∧ ∀ f, RelO (fs.lookup f) (mA f)
  | .rng lo hi => ∃ t u v, h.get? a = some { cls := .type "range", data := .fields #[.int lo t, .int hi u, .int 1 v] }
  | .frz o u => h.get? a = some o ∧ ObjOk H h a u
  | .tbl ps => h.get? a = some { cls := .none, data := .fields ps }
  | .met f x => h.get? a = some (PySem.W.methodObj (.ref f) (.ref x))
  | .ext φ => φ h ∧ (∃ o, h.get? a = some o) ∧ ∀ h1 h2 : Heap, φ h1 → (∀ o, h1.get? a = some o → h2.get? a = some o) → φ h2
/-- the abstract heap is held -/
def HOk (H : Hp) (h : Heap) : Prop := ∀ a o, H a = some o → ObjOk P w H h a o
end

section
variable {P : Program} {w : World} {H H' : Hp} {h h' : Heap} {a : Addr} {o : HO}
theorem ObjOk.lt (x : ObjOk P w H h a o) : a < h.objs.size := by
  cases o with
  | lst xs => obtain ⟨_, _, _, _, e⟩ := x; exact Heap.lt_size e
  | tup xs => obtain ⟨_, _, _, p⟩ := x; exact p.lt
  | dK kvs => obtain ⟨_, _, _, _, o, _, _, e, _⟩ := x; exact Heap.lt_size e
  | dT kvs => obtain ⟨_, _, _, _, o, _, _, e, _⟩ := x; exact Heap.lt_size e
  | set S n => obtain ⟨o, _, _, _, e, _⟩ := x; exact Heap.lt_size e
  | ins C dx fs => obtain ⟨_, _, _, e, _⟩ := x; exact Heap.lt_size e
  | own y => obtain ⟨_, e⟩ := x; exact Heap.lt_size e
  | xd fs => obtain ⟨_, ⟨_, _, _, e, _⟩, _⟩ := x; exact Heap.lt_size e
  | rng lo hi => obtain ⟨_, _, _, e⟩ := x; exact Heap.lt_size e
  | frz ob u => obtain ⟨e, _⟩ := x; exact Heap.lt_size e
  | tbl ps => exact Heap.lt_size (show h.get? a = some _ from x)
  | met f y => exact Heap.lt_size (show h.get? a = some _ from x)
  | ext φ => obtain ⟨_, ⟨_, e⟩, _⟩ := x; exact Heap.lt_size e
theorem Paired.mapP {α β : Type} {F G : α → β → Prop} : ∀ {l₁ : List α} {l₂ : List β}, Paired F l₁ l₂ → (∀ a b, F a b → G a b) → Paired G l₁ l₂
  | _, _, .nil, _ => .nil
  | _, _, .cons r t, f => .cons (f _ _ r) (Paired.mapP t f)
/-- what an object's description leans on: its own object, its own dict, the tuples -/
theorem ObjOk.stay (x : ObjOk P w H h a o) (k : ∀ b u, (b = a ∨ H b = some (.own a)) → h.get? b = some u → h'.get? b = some u)
    (ho : ∀ b, H b = some (.own a) → H' b = some (.own a)) (ht : ∀ b xs, H b = some (.tup xs) → H' b = some (.tup xs)) : ObjOk P w H' h' a o := by
  induction o with
  | lst xs => obtain ⟨z, its, n, r, e⟩ := x; exact ⟨z, its, n, r, k _ _ (.inl rfl) e⟩
  | tup xs => obtain ⟨z, its, r, ob, e, c⟩ := x; exact ⟨z, its, r, ob, k _ _ (.inl rfl) e, c⟩
  | dK kvs => obtain ⟨z, y, vs, r, ob, es, ep, e, c⟩ := x; exact ⟨z, y, vs, r, ob, es, ep, k _ _ (.inl rfl) e, c⟩
  | dT kvs =>
    obtain ⟨z, y, xs, r, ob, es, ep, e, c⟩ := x
    exact ⟨z, y, xs, Paired.mapP r fun p q z => ⟨z.1, ht _ _ z.2.1, z.2.2⟩, ob, es, ep, k _ _ (.inl rfl) e, c⟩
  | set S n => obtain ⟨ob, es, ep, t, e, c⟩ := x; exact ⟨ob, es, ep, t, k _ _ (.inl rfl) e, c⟩
  | ins C dx fs =>
    obtain ⟨d, z, ne, e, mA, ⟨od, es, ep, e2, c⟩, r⟩ := x
    exact ⟨ho _ d, z, ne, k _ _ (.inl rfl) e, mA, ⟨od, es, ep, k _ _ (.inr d) e2, c⟩, r⟩
  | own y => obtain ⟨ob, e⟩ := x; exact ⟨ob, k _ _ (.inl rfl) e⟩
  | xd fs => obtain ⟨mA, ⟨od, es, ep, e, c⟩, r⟩ := x; exact ⟨mA, ⟨od, es, ep, k _ _ (.inl rfl) e, c⟩, r⟩
  | rng lo hi => obtain ⟨t, u, v, e⟩ := x; exact ⟨t, u, v, k _ _ (.inl rfl) e⟩
  | frz ob u ih => obtain ⟨e, q⟩ := x; exact ⟨k _ _ (.inl rfl) e, ih q⟩
  | tbl ps =>
    have e : h.get? a = some { cls := .none, data := .fields ps } := x
    show h'.get? a = some { cls := .none, data := .fields ps }
    exact k a _ (.inl rfl) e
  | met f y =>
    have e : h.get? a = some (PySem.W.methodObj (.ref f) (.ref y)) := x
    show h'.get? a = some (PySem.W.methodObj (.ref f) (.ref y))
    exact k a _ (.inl rfl) e
  | ext φ => obtain ⟨p, ⟨o, e⟩, st⟩ := x; exact ⟨st _ _ p fun o q => k _ _ (.inl rfl) q, ⟨o, k _ _ (.inl rfl) e⟩, st⟩
theorem HOk.lt (x : HOk P w H h) (e : H a = some o) : a < h.objs.size := (x a o e).lt
theorem HOk.fresh (x : HOk P w H h) (e : h.objs.size ≤ a) : H a = none := by
  cases q : H a with
  | none => rfl
  | some u => exact absurd (Nat.lt_of_lt_of_le (x.lt q) e) (Nat.lt_irrefl _)
/-- every object of the heap is kept -/
theorem HOk.kept (x : HOk P w H h) (k : ∀ b u, h.get? b = some u → h'.get? b = some u) : HOk P w H h' := fun a o e =>
  (x a o e).stay (fun b u _ q => k b u q) (fun _ q => q) fun _ _ q => q
/-- a new object is laid and tracked -/
theorem HOk.laid (x : HOk P w H h) (k : ∀ b u, h.get? b = some u → h'.get? b = some u) (hp : h.objs.size ≤ a) (new : ObjOk P w (upd H a o) h' a o) : HOk P w (upd H a o) h' := fun b u e => by
  have hn := x.fresh hp
  by_cases hb : b = a
  · subst hb; rw [upd_same] at e; cases e; exact new
  · rw [upd_ne hb] at e
    exact (x b u e).stay (fun c v _ q => k c v q) (fun c q => by rw [upd_ne (ne_of_none q hn)]; exact q) fun c xs q => by rw [upd_ne (ne_of_none q hn)]; exact q
end

/-- what may be read as u: it is u, or a known u -/
def Rd (H : Hp) (a : Addr) (u : HO) : Prop := H a = some u ∨ ∃ o, H a = some (.frz o u)
theorem Rd.ok {P : Program} {w : World} {H : Hp} {h : Heap} {a : Addr} {u : HO} (r : Rd H a u) (x : HOk P w H h) : ObjOk P w H h a u := by
  rcases r with r | ⟨o, r⟩
  · exact x a u r
  · obtain ⟨_, q⟩ := x a _ r
    exact q
/-- what may be written -/
def Mut : Option HO → Prop
  | some (.lst _) => True
  | some (.dK _) => True
  | some (.dT _) => True
  | some (.set _ _) => True
  | some (.ins _ _ _) => True
  | some (.ext _) => True
  | _ => False
section
variable {P : Program} {w : World} {H : Hp} {h h' : Heap} {x e : Addr} {o' : HO}
/-- the object at e is changed: x itself, or the dict of the instance x -/
theorem HOk.write (ok : HOk P w H h) (mu : Mut (H x)) (he : e = x ∨ H e = some (.own x)) (k : ∀ b u, b ≠ e → h.get? b = some u → h'.get? b = some u) (heo : ∃ u, h'.get? e = some u)
    (new : ObjOk P w (upd H x o') h' x o') : HOk P w (upd H x o') h' := fun b u q => by
  have nown : ∀ c y, H c = some (.own y) → c ≠ x := fun c y r z => by subst z; rw [r] at mu; exact mu
  have ntup : ∀ c xs, H c = some (.tup xs) → c ≠ x := fun c xs r z => by subst z; rw [r] at mu; exact mu
  by_cases hb : b = x
  · subst hb; rw [upd_same] at q; cases q; exact new
  · rw [upd_ne hb] at q
    by_cases hbe : b = e
    · have q' : H b = some (.own x) := by
        rcases he with z | z
        · exact absurd (hbe.trans z) hb
        · rw [hbe]; exact z
      rw [q] at q'; cases q'
      obtain ⟨v, hv⟩ := heo
      exact ⟨v, by rw [hbe]; exact hv⟩
    · refine (ok b u q).stay (fun c v hc r => k c v ?_ r) (fun c r => by rw [upd_ne (nown c b r)]; exact r) fun c xs r => by rw [upd_ne (ntup c xs r)]; exact r
      rcases hc with rfl | hc
      · exact hbe
      · rintro rfl
        rcases he with z | z
        · exact nown c b hc z
        · rw [hc] at z; cases z; exact hb rfl
end

/-! ### kept unless tracked; of the frames at fs (the callers') the slots may change (an exception that passes writes there); of the records at ex (iterators) nothing is said -/
structure Un (fs ex : List Addr) (H H' : Hp) (h h' : Heap) : Prop where
  keep : ∀ b o, h.get? b = some o → H b = none → b ∉ fs → b ∉ ex → h'.get? b = some o
  slot : ∀ b o, h.get? b = some o → H b = none → b ∈ fs → b ∉ ex → ∃ sl, h'.get? b = some { o with slots := sl }
  free : ∀ b o, h.get? b = some o → H b = none → b ∉ ex → H' b = none
  there : ∀ b o, h.get? b = some o → b ∉ ex → ∃ o', h'.get? b = some o'
  tups : ∀ b xs, H b = some (.tup xs) → H' b = some (.tup xs)
  frzs : ∀ b o u, H b = some (.frz o u) → H' b = some (.frz o u)
  tbls : ∀ b ps, H b = some (.tbl ps) → ∃ more, H' b = some (.tbl (ps ++ more))
section
variable {fs fs' ex ex' : List Addr} {H H1 H2 : Hp} {h h1 h2 h' : Heap} {a x e : Addr} {o : HO}
theorem Un.any (u : Un fs ex H H1 h h1) {b : Addr} {ob : Obj} (q : h.get? b = some ob) (n : H b = none) (hx : b ∉ ex) : ∃ sl, h1.get? b = some { ob with slots := sl } := by
  by_cases hb : b ∈ fs
  · exact u.slot b ob q n hb hx
  · exact ⟨ob.slots, u.keep b ob q n hb hx⟩
theorem Un.kept (k : ∀ b u, h.get? b = some u → h'.get? b = some u) : Un fs ex H H h h' :=
  ⟨fun b ob q _ _ _ => k b ob q, fun b ob q _ _ _ => ⟨ob.slots, k b ob q⟩, fun _ _ _ n _ => n, fun b ob q _ => ⟨ob, k b ob q⟩, fun _ _ q => q, fun _ _ _ q => q, fun _ ps q => ⟨#[], by rw [q]; simp⟩⟩
theorem Un.refl : Un fs ex H H h h := Un.kept fun _ _ q => q
theorem Un.laid (k : ∀ b u, h.get? b = some u → h'.get? b = some u) (hp : h.objs.size ≤ a) (hn : H a = none) : Un fs ex H (upd H a o) h h' where
  keep := fun b u q _ _ _ => k b u q
  slot := fun b u q _ _ _ => ⟨u.slots, k b u q⟩
  free := fun b u q n _ => by rw [upd_ne (Nat.ne_of_lt (Nat.lt_of_lt_of_le (Heap.lt_size q) hp))]; exact n
  there := fun b u q _ => ⟨u, k b u q⟩
  tups := fun b xs q => by rw [upd_ne (ne_of_none q hn)]; exact q
  frzs := fun b u xs q => by rw [upd_ne (ne_of_none q hn)]; exact q
  tbls := fun b ps q => ⟨#[], by rw [upd_ne (ne_of_none q hn), q]; simp⟩
theorem Un.write (mu : Mut (H x)) (he : e = x ∨ H e = some (.own x)) (k : ∀ b u, b ≠ e → h.get? b = some u → h'.get? b = some u) (heo : ∃ u, h'.get? e = some u) : Un fs ex H (upd H x o) h h' := by
  have hx : ∀ b, H b = none → b ≠ x := fun b n z => by subst z; rw [n] at mu; exact mu
  have hb : ∀ b, H b = none → b ≠ e := fun b n z => by
    subst z
    rcases he with r | r
    · exact hx b n r
    · rw [n] at r; cases r
  have hm : ∀ b u, H b = some u → ¬ Mut (some u) → b ≠ x := fun b u q nm z => by subst z; rw [q] at mu; exact nm mu
  refine ⟨fun b u q n _ _ => k b u (hb b n) q, fun b u q n _ _ => ⟨u.slots, k b u (hb b n) q⟩, fun b u q n _ => by rw [upd_ne (hx b n)]; exact n, fun b u q _ => ?_,
    fun b xs q => by rw [upd_ne (hm b _ q fun z => z)]; exact q, fun b u xs q => by rw [upd_ne (hm b _ q fun z => z)]; exact q, fun b ps q => ⟨#[], by rw [upd_ne (hm b _ q fun z => z), q]; simp⟩⟩
  by_cases hbe : b = e
  · subst hbe; exact heo
  · exact ⟨u, k b u hbe q⟩
end

/-! ### the heap without what is tracked -/
def trk (h : Heap) (H : Hp) : List Addr := (List.range h.objs.size).filter fun a => (H a).isSome
def hidT (h : Heap) (H : Hp) : Heap := PySem.W.hideAll h (trk h H)
theorem hidT_size (h : Heap) (H : Hp) : (hidT h H).objs.size = h.objs.size := PySem.W.hideAll_size _ _
theorem hidT_get {h : Heap} {H : Hp} {b : Addr} {o : Obj} (e : h.get? b = some o) (n : H b = none) : (hidT h H).get? b = some o :=
  PySem.W.hideAll_get _ e fun hm => by
    have q : (H b).isSome = true := (List.mem_filter.mp hm).2
    rw [n] at q; simp at q
theorem of_hidT {h : Heap} {H : Hp} {b : Addr} {o : Obj} (e : (hidT h H).get? b = some o) : h.get? b = some o ∧ H b = none := by
  have e' : h.get? b = some o := PySem.W.of_hideAll (trk h H) e
  refine ⟨e', ?_⟩
  cases q : H b with
  | none => rfl
  | some x =>
    have hm : b ∈ trk h H := List.mem_filter.mpr ⟨List.mem_range.mpr (Heap.lt_size e'), by simp [q]⟩
    have z : (hidT h H).get? b = none := PySem.W.hideAll_none (trk h H) hm
    rw [z] at e; cases e

/-! ### OpenK's ledger, filled with every new object but one -/
def allNews (g h : Heap) (L : Addr) : List (Addr × Obj) := (List.range h.objs.size).filterMap fun a => if a = L ∨ (g.get? a).isSome = true then none else (h.get? a).map fun o => (a, o)
def rest (g h : Heap) (L d : Addr) : List (Addr × Obj) := (allNews g h L).filter fun p => decide (p.1 ≠ d)
end L2

namespace L2
open PySem PySem.Spec PyProof.Rows

/-- the module's facts, over the base: the heap at the law's entry without what is tracked there -/
structure Mod (K : PySem.W.Frag) (mg : Str → Option Value) (base : Heap) : Prop where
  kin : K.In base
  glob : base.Ns mainGlobals mg
  blt : ∃ mb, base.Ns builtinsNs mb ∧ ∀ x : Str, x ≠ "__name__" → mb x = bootBuiltins x
  nolimit : base.NoLimit

/-- the context: a def's body (or a comprehension's block) running. base: fixed through the whole law; s₀, H₀: the entry; outer: the frames whose slots others may change (a def's callers); stack: all frames that run;
   ex: iterators that were made ahead of the entry and are walked here (a comprehension's); fn: the names whose cells were made at the entry (a def: all; a comprehension's block: its own); calm: not within an except suite; pn: pins that every state bears; xe: what is wanted of an exception that leaves the code -/
structure Cx where
  prog : Program
  w : World
  K : PySem.W.Frag
  mg : Str → Option Value
  base : Heap
  A : Around
  N : List Str
  s₀ : Shared
  H₀ : Hp
  env : Env
  outer : List Env
  stack : List Env
  ex : List Addr
  fn : Str → Bool
  calm : Bool
  pn : List (Addr × Obj)
  xe : Value → Shared → Prop
/-- the callers' frames -/
def frs (l : List Env) : List Addr := l.filterMap (·.frame)
abbrev Cx.fs (X : Cx) : List Addr := frs X.outer

def Vis (sc : Scope) (x : Str) : Prop := sc.names.lookup x = some .local ∨ sc.names.lookup x = some .cell ∨ sc.names.lookup x = some .free
def Loc (sc : Scope) (x : Str) : Prop := sc.names.lookup x = some .local ∨ sc.names.lookup x = some .cell
def Look (env : Env) (h : Heap) (m : Str → Option Value) (x : Str) (u : Value) : Prop :=
  (env.kindOf x = some .local ∧ m x = some u) ∨ ((env.kindOf x = some .cell ∨ env.kindOf x = some .free) ∧ ∃ c, env.cells.lookup x = some c ∧ h.IsCell c (some u))

structure Cx.Ok (X : Cx) : Prop where
  mod : Mod X.K X.mg X.base
  kind : X.env.scope.kind = .function
  glob : X.env.globals = mainGlobals
  blt : X.env.builtins = builtinsNs
  above : X.s₀.heap.objs.size ≤ X.env.locals
  inj : ∀ x y c, X.env.cells.lookup x = some c → X.env.cells.lookup y = some c → x = y
  has : ∀ x, (X.env.kindOf x = some .cell ∨ X.env.kindOf x = some .free) → ∃ c, X.env.cells.lookup x = some c
  cab : ∀ x c, X.fn x = true → X.env.cells.lookup x = some c → X.s₀.heap.objs.size ≤ c
  hd : X.calm = true → X.A.handled = none
  frames : X.A.frames = some X.stack
  stk : X.stack = X.outer ∨ (X.stack = X.env :: X.outer ∧ X.env.frame = some X.env.locals)
  exf : ∀ b ∈ X.ex, b ≠ X.env.locals ∧ ∀ x c, X.env.cells.lookup x = some c → c ≠ b
  bs : ∀ b o, X.base.get? b = some o → X.s₀.heap.get? b = some o ∧ X.H₀ b = none
  bsz : X.base.objs.size ≤ X.s₀.heap.objs.size
  noex : ∀ b o, X.base.get? b = some o → b ∉ X.ex
  exfs : ∀ b ∈ X.ex, b ∉ X.fs
  funs : X.s₀.heap.FunFrames X.base X.outer
  frf : ∀ b ∈ X.fs, X.H₀ b = none

structure Inv (X : Cx) (pins : List (Addr × Obj)) (σ : List (Option V)) (H : Hp) (s : Shared) : Prop where
  ok : X.Ok
  os : s.os = X.s₀.os
  bare : AllBare s.gens
  base : Un X.fs X.ex X.H₀ H X.s₀.heap s.heap
  loc : ∃ m, s.heap.Ns X.env.locals m ∧ ∀ (i : Nat) (x : Str) (v : V), X.N[i]? = some x → σ[i]? = some (some v) → Vis X.env.scope x → ∃ u, RelV v u ∧ Look X.env s.heap m x u
  cell : ∀ x c, X.env.cells.lookup x = some c → ∃ v, s.heap.IsCell c v
  free : H X.env.locals = none
  freeC : ∀ x c, X.env.cells.lookup x = some c → H c = none
  pin : ∀ p ∈ X.pn ++ pins, s.heap.get? p.1 = some p.2 ∧ H p.1 = none ∧ p.1 ≠ X.env.locals ∧ p.1 ∉ X.fs ∧ ∀ v, p.2.data ≠ .cell v
  hok : HOk X.prog X.w H s.heap
  len : σ.length = X.N.length

section
variable {X : Cx} {pins : List (Addr × Obj)} {σ : List (Option V)} {H H' : Hp} {s : Shared} {h' : Heap}

theorem Cx.Ok.nofr (ok : X.Ok) {b : Addr} {o : Obj} (e : X.base.get? b = some o) : b ∉ X.fs := fun hb => by
  have := (ok.funs.mem hb).1
  rw [e] at this; cases this
theorem Inv.bs (I : Inv X pins σ H s) : ∀ b o, X.base.get? b = some o → s.heap.get? b = some o ∧ H b = none := fun b o e =>
  ⟨I.base.keep b o (I.ok.bs b o e).1 (I.ok.bs b o e).2 (I.ok.nofr e) (I.ok.noex b o e), I.base.free b o (I.ok.bs b o e).1 (I.ok.bs b o e).2 (I.ok.noex b o e)⟩
theorem Inv.bk (I : Inv X pins σ H s) : ∀ b o, X.base.get? b = some o → s.heap.get? b = some o := fun b o e => (I.bs b o e).1
theorem Inv.mod (I : Inv X pins σ H s) : Mod X.K X.mg X.base := I.ok.mod
theorem Inv.kIn (I : Inv X pins σ H s) : X.K.In s.heap := I.ok.mod.kin.keeps I.bk
theorem Inv.lt (I : Inv X pins σ H s) : X.env.locals < s.heap.objs.size := let ⟨_, hn, _⟩ := I.loc; hn.lt
theorem Inv.sz (I : Inv X pins σ H s) : X.s₀.heap.objs.size ≤ s.heap.objs.size := Nat.le_trans I.ok.above (Nat.le_of_lt I.lt)
theorem Inv.nofs (I : Inv X pins σ H s) {a : Addr} (h : s.heap.objs.size ≤ a) : a ∉ X.fs := fun hb => by
  obtain ⟨_, o, ho, _⟩ := I.ok.funs.mem hb
  exact absurd (Nat.lt_of_lt_of_le (Heap.lt_size ho) (Nat.le_trans I.sz h)) (Nat.lt_irrefl _)
theorem Inv.cne (I : Inv X pins σ H s) : ∀ x c, X.env.cells.lookup x = some c → c ≠ X.env.locals := fun x c e z => by
  obtain ⟨v, o, ho, hd⟩ := I.cell x c e
  obtain ⟨m, ⟨o', es, ep, ho', hd', _⟩, _⟩ := I.loc
  rw [z, ho'] at ho; cases ho; rw [hd'] at hd; cases hd
theorem Inv.funs (I : Inv X pins σ H s) : s.heap.FunFrames X.base X.outer := by
  have all : ∀ (l : List Env), (∀ b ∈ frs l, b ∈ X.fs) → X.s₀.heap.FunFrames X.base l → s.heap.FunFrames X.base l := by
    intro l
    induction l with
    | nil => intro _ _; trivial
    | cons env r ih =>
      intro hs hl
      obtain ⟨hk, ⟨L, o, hf, hn, ho, hd⟩, hr⟩ := hl
      have hL : L ∈ X.fs := hs L (by unfold frs; rw [List.filterMap_cons, hf]; exact List.mem_cons_self)
      obtain ⟨sl, e⟩ := I.base.slot L o ho (I.ok.frf L hL) hL fun z => I.ok.exfs L z hL
      exact ⟨hk, ⟨L, _, hf, hn, e, hd⟩, ih (fun b hb => hs b (by unfold frs; rw [List.filterMap_cons, hf]; exact List.mem_cons_of_mem _ hb)) hr⟩
  exact all X.outer (fun _ hb => hb) I.ok.funs

/-- the frames that run, for a call -/
theorem Inv.stack (I : Inv X pins σ H s) : s.heap.FunFrames X.base X.stack := by
  rcases I.ok.stk with e | ⟨e, hf⟩
  · rw [e]; exact I.funs
  · rw [e]
    obtain ⟨m, hn, _⟩ := I.loc
    refine .cons (by rw [I.ok.kind]; decide) hf hn ?_ I.funs
    exact Heap.get?_none_of_le (Nat.le_trans I.ok.bsz I.ok.above)
theorem Inv.stkSub (I : Inv X pins σ H s) : ∀ b ∈ frs X.stack, b ∈ X.env.locals :: X.fs := fun b hb => by
  rcases I.ok.stk with e | ⟨e, hf⟩
  · rw [e] at hb; exact List.mem_cons_of_mem _ hb
  · rw [e] at hb
    unfold frs at hb
    rw [List.filterMap_cons, hf] at hb
    exact hb
theorem Inv.stkFree (I : Inv X pins σ H s) : ∀ b ∈ frs X.stack, H b = none := fun b hb => by
  rcases List.mem_cons.mp (I.stkSub b hb) with e | hb
  · rw [e]; exact I.free
  · obtain ⟨_, o, ho, _⟩ := I.ok.funs.mem hb
    exact I.base.free b o ho (I.ok.frf b hb) fun z => I.ok.exfs b z hb

/-- THE STEP: the untracked objects but the frame and the records at ch are kept (the callers' frames up to slots), the frame's map is kept, the new abstract heap is held -/
theorem Inv.step {g' : Array GenState} {t' : Nat} {d' : Drawn} {ch : List Addr} (I : Inv X pins σ H s)
    (hch : ∀ b ∈ ch, (b ∈ X.ex ∨ X.s₀.heap.objs.size ≤ b) ∧ b ≠ X.env.locals ∧ (∀ x c, X.env.cells.lookup x = some c → c ≠ b) ∧ ∀ p ∈ X.pn ++ pins, p.1 ≠ b)
    (keep : ∀ b o, b ≠ X.env.locals → b ∉ X.fs → b ∉ ch → s.heap.get? b = some o → H b = none → h'.get? b = some o)
    (slot : ∀ b o, b ≠ X.env.locals → b ∈ X.fs → b ∉ ch → s.heap.get? b = some o → H b = none → ∃ sl, h'.get? b = some { o with slots := sl }) (free : ∀ b o, b ∉ ch → s.heap.get? b = some o → H b = none → H' b = none)
    (there : ∀ b o, b ∉ ch → s.heap.get? b = some o → ∃ o', h'.get? b = some o')
    (tups : ∀ b xs, H b = some (.tup xs) → H' b = some (.tup xs)) (frzs : ∀ b o u, H b = some (.frz o u) → H' b = some (.frz o u)) (tbls : ∀ b ps, H b = some (.tbl ps) → ∃ more, H' b = some (.tbl (ps ++ more)))
    (ns : ∀ m, s.heap.Ns X.env.locals m → h'.Ns X.env.locals m) (hok : HOk X.prog X.w H' h') (hg : AllBare g') :
    Inv X pins σ H' { s with heap := h', gens := g', drawn := d', toks := t' } := by
  have neL : ∀ b o, X.s₀.heap.get? b = some o → b ≠ X.env.locals := fun b o e => Nat.ne_of_lt (Nat.lt_of_lt_of_le (Heap.lt_size e) I.ok.above)
  have neC : ∀ b o, X.s₀.heap.get? b = some o → b ∉ X.ex → b ∉ ch := fun b o e hx hb => by
    rcases (hch b hb).1 with z | z
    · exact hx z
    · exact absurd (Nat.lt_of_lt_of_le (Heap.lt_size e) z) (Nat.lt_irrefl _)
  have cellK : ∀ x c, X.env.cells.lookup x = some c → ∀ v, s.heap.IsCell c v → h'.IsCell c v := fun x c e v ⟨o, ho, hd⟩ => by
    have nch : c ∉ ch := fun z => (hch c z).2.2.1 x c e rfl
    by_cases hc : c ∈ X.fs
    · obtain ⟨sl, q⟩ := slot c o (I.cne x c e) hc nch ho (I.freeC x c e)
      exact ⟨_, q, hd⟩
    · exact ⟨o, keep c o (I.cne x c e) hc nch ho (I.freeC x c e), hd⟩
  refine ⟨I.ok, I.os, hg, ⟨fun b o e n hb hx => ?_, fun b o e n hb hx => ?_, fun b o e n hx => ?_, fun b o e hx => ?_, fun b xs e => tups b xs (I.base.tups b xs e), fun b o xs e => frzs b o xs (I.base.frzs b o xs e), fun b ps e => ?_⟩, ?_, fun x c e => ?_, ?_, fun x c e => ?_, fun p hp => ?_, hok, I.len⟩
  · exact keep b o (neL b o e) hb (neC b o e hx) (I.base.keep b o e n hb hx) (I.base.free b o e n hx)
  · obtain ⟨sl, e1⟩ := I.base.slot b o e n hb hx
    obtain ⟨sl', e2⟩ := slot b _ (neL b o e) hb (neC b o e hx) e1 (I.base.free b o e n hx)
    exact ⟨sl', e2⟩
  · obtain ⟨o', e1⟩ := I.base.there b o e hx
    exact free b o' (neC b o e hx) e1 (I.base.free b o e n hx)
  · obtain ⟨o', e1⟩ := I.base.there b o e hx
    exact there b o' (neC b o e hx) e1
  · obtain ⟨m1, e1⟩ := I.base.tbls b ps e
    obtain ⟨m2, e2⟩ := tbls b _ e1
    exact ⟨m1 ++ m2, by rw [e2, Array.append_assoc]⟩
  · obtain ⟨m, hn, hl⟩ := I.loc
    refine ⟨m, ns m hn, fun i x v e1 e2 e3 => ?_⟩
    obtain ⟨u, r, l⟩ := hl i x v e1 e2 e3
    refine ⟨u, r, ?_⟩
    rcases l with l | ⟨k, c, e, z⟩
    · exact .inl l
    · exact .inr ⟨k, c, e, cellK x c e _ z⟩
  · obtain ⟨v, z⟩ := I.cell x c e
    exact ⟨v, cellK x c e v z⟩
  · obtain ⟨m, ⟨o, _, _, ho, _⟩, _⟩ := I.loc
    exact free _ o (fun z => (hch _ z).2.1 rfl) ho I.free
  · obtain ⟨v, o, ho, hd⟩ := I.cell x c e
    exact free c o (fun z => (hch c z).2.2.1 x c e rfl) ho (I.freeC x c e)
  · obtain ⟨e, n, ne, nf, d⟩ := I.pin p hp
    have nch : p.1 ∉ ch := fun z => (hch p.1 z).2.2.2 p hp rfl
    exact ⟨keep p.1 p.2 ne nf nch e n, free p.1 p.2 nch e n, ne, nf, d⟩
/-- .. where the frame's own object is kept too -/
theorem Inv.un {t' : Nat} (I : Inv X pins σ H s) (u : Un X.fs [] H H' s.heap h') (hok : HOk X.prog X.w H' h') : Inv X pins σ H' { s with heap := h', toks := t' } := by
  obtain ⟨m, ⟨o, es, ep, ho, r⟩, _⟩ := id I.loc
  obtain ⟨sl, hL⟩ := u.any ho I.free (by simp)
  exact I.step (g' := s.gens) (d' := s.drawn) (ch := []) (fun _ z => nomatch z) (fun b o _ hb _ e n => u.keep b o e n hb (by simp)) (fun b o _ hb _ e n => u.slot b o e n hb (by simp)) (fun b o _ e n => u.free b o e n (by simp)) (fun b o _ e => u.there b o e (by simp)) u.tups u.frzs u.tbls (fun m' hm => by
    obtain ⟨o', es', ep', ho', r'⟩ := hm
    rw [ho] at ho'; cases ho'
    exact ⟨_, es', ep', hL, r'⟩) hok I.bare
/-- behind a call (or a comprehension's block): the slots of this frame may have changed too, the records at ch may have turned -/
theorem Inv.call {g' : Array GenState} {t' : Nat} {d' : Drawn} {ch : List Addr} (I : Inv X pins σ H s) (u : Un (frs X.stack) ch H H' s.heap h') (hok : HOk X.prog X.w H' h') (hg : AllBare g')
    (hch : ∀ b ∈ ch, (b ∈ X.ex ∨ X.s₀.heap.objs.size ≤ b) ∧ b ≠ X.env.locals ∧ (∀ x c, X.env.cells.lookup x = some c → c ≠ b) ∧ ∀ p ∈ X.pn ++ pins, p.1 ≠ b) :
    Inv X pins σ H' { s with heap := h', gens := g', drawn := d', toks := t' } := by
  obtain ⟨m, ⟨o, es, ep, ho, r⟩, _⟩ := id I.loc
  obtain ⟨sl, hL⟩ := u.any ho I.free fun z => (hch _ z).2.1 rfl
  exact I.step (ch := ch) hch (fun b o hL hb hc e n => u.keep b o e n (fun z => (List.mem_cons.mp (I.stkSub b z)).elim hL hb) hc) (fun b o _ _ hc e n => u.any e n hc) (fun b o hc e n => u.free b o e n hc) (fun b o hc e => u.there b o e hc) u.tups u.frzs u.tbls (fun m' hm => by
    obtain ⟨o', es', ep', ho', r'⟩ := hm
    rw [ho] at ho'; cases ho'
    exact ⟨_, es', ep', hL, r'⟩) hok hg
/-- an untracked record of ours (an iterator) has turned -/
theorem Inv.turned {t' : Nat} {it : Addr} (I : Inv X pins σ H s) (k : ∀ b o, b ≠ it → s.heap.get? b = some o → h'.get? b = some o) (hn : H it = none) (hL : it ≠ X.env.locals)
    (h1 : it ∈ X.ex ∨ X.s₀.heap.objs.size ≤ it) (h2 : ∀ x c, X.env.cells.lookup x = some c → c ≠ it) (h3 : ∀ p ∈ X.pn ++ pins, p.1 ≠ it) : Inv X pins σ H { s with heap := h', toks := t' } := by
  have nit : ∀ b u, H b = some u → b ≠ it := fun b u e z => by rw [z, hn] at e; cases e
  refine I.step (g' := s.gens) (d' := s.drawn) (ch := [it]) (fun b hb => ?_) (fun b o _ _ hc e _ => k b o (fun z => hc (by simp [z])) e) (fun b o _ _ hc e _ => ⟨o.slots, k b o (fun z => hc (by simp [z])) e⟩) (fun _ _ _ _ n => n)
    (fun b o hc e => ⟨o, k b o (fun z => hc (by simp [z])) e⟩) (fun _ _ e => e) (fun _ _ _ e => e) (fun b ps e => ⟨#[], by rw [e]; simp⟩) (fun m hm => ?_) (fun b u e => ?_) I.bare
  · have e : b = it := by simpa using hb
    subst e
    exact ⟨h1, hL, h2, h3⟩
  · obtain ⟨o, es, ep, ho, r⟩ := hm
    exact ⟨o, es, ep, k _ o (Ne.symm hL) ho, r⟩
  · refine (I.hok b u e).stay (fun c v hc q => k c v ?_ q) (fun _ q => q) fun _ _ q => q
    rcases hc with z | z
    · rw [z]; exact nit b u e
    · exact nit c _ z
theorem Inv.tok (I : Inv X pins σ H s) (t : Nat) : Inv X pins σ H { s with toks := t } := I.un (h' := s.heap) (t' := t) Un.refl I.hok
/-- all objects kept -/
theorem Inv.kept {t' : Nat} (I : Inv X pins σ H s) (k : ∀ b u, s.heap.get? b = some u → h'.get? b = some u) : Inv X pins σ H { s with heap := h', toks := t' } := I.un (Un.kept k) (I.hok.kept k)
/-- a new object laid and tracked -/
theorem Inv.laid {a : Addr} {o : HO} {t' : Nat} (I : Inv X pins σ H s) (k : ∀ b u, s.heap.get? b = some u → h'.get? b = some u) (hp : s.heap.objs.size ≤ a) (new : ObjOk X.prog X.w (upd H a o) h' a o) :
    Inv X pins σ (upd H a o) { s with heap := h', toks := t' } := I.un (Un.laid k hp (I.hok.fresh hp)) (I.hok.laid k hp new)
/-- an object written -/
theorem Inv.write {x e : Addr} {o : HO} {t' : Nat} (I : Inv X pins σ H s) (mu : Mut (H x)) (he : e = x ∨ H e = some (.own x)) (k : ∀ b u, b ≠ e → s.heap.get? b = some u → h'.get? b = some u) (heo : ∃ u, h'.get? e = some u)
    (new : ObjOk X.prog X.w (upd H x o) h' x o) : Inv X pins σ (upd H x o) { s with heap := h', toks := t' } := I.un (Un.write mu he k heo) (I.hok.write mu he k heo new)
/-- forgetting slots, pins -/
theorem Inv.weak {σ' : List (Option V)} (I : Inv X pins σ H s) (hl : σ'.length = σ.length) (w : ∀ (i : Nat) v, σ'[i]? = some (some v) → σ[i]? = some (some v)) : Inv X pins σ' H s :=
  ⟨I.ok, I.os, I.bare, I.base, let ⟨m, hn, hl'⟩ := I.loc; ⟨m, hn, fun i x v e1 e2 e3 => hl' i x v e1 (w i v e2) e3⟩, I.cell, I.free, I.freeC, I.pin, I.hok, hl.trans I.len⟩
theorem Inv.pins_of {pins' : List (Addr × Obj)} (I : Inv X pins σ H s) (h : ∀ p ∈ pins', s.heap.get? p.1 = some p.2 ∧ H p.1 = none ∧ p.1 ≠ X.env.locals ∧ p.1 ∉ X.fs ∧ ∀ v, p.2.data ≠ .cell v) : Inv X pins' σ H s :=
  ⟨I.ok, I.os, I.bare, I.base, I.loc, I.cell, I.free, I.freeC, fun p hp => (List.mem_append.mp hp).elim (fun z => I.pin p (List.mem_append_left _ z)) (h p), I.hok, I.len⟩

theorem nodup_ix {N : List Str} (hN : N.Nodup) {i j : Nat} {x : Str} (a : N[i]? = some x) (b : N[j]? = some x) : i = j := by
  obtain ⟨h1, e1⟩ := List.getElem?_eq_some_iff.mp a
  obtain ⟨h2, e2⟩ := List.getElem?_eq_some_iff.mp b
  exact (List.getElem_inj hN).mp (e1.trans e2.symm)

/-- a name is stored; what changed -/
theorem store_ok2 {M : Model} {A : Around} {E : Value → Shared → Prop} {i : Nat} {x : Str} {v : V} {u : Value} {Q : Unit → Shared → Prop} (I : Inv X pins σ H s) (hN : X.N.Nodup) (hi : X.N[i]? = some x) (hx : Loc X.env.scope x) (r : RelV v u)
    (h : ∀ s', Inv X pins (σ.set i (some v)) H s' → (∃ a, Heap.SameBut a s.heap s'.heap ∧ (a = X.env.locals ∨ X.env.cells.lookup x = some a)) → Q () s') (hf : X.fn x = true ∨ X.env.scope.names.lookup x = some .local := by first | exact .inl rfl | exact .inr rfl | assumption) : wpAny M A (storeName X.env x u) Q E s := by
  obtain ⟨m, hn, hl⟩ := id I.loc
  have hcls : (X.env.scope.kind == .class || (X.env.scope.kind == .module && X.env.locals != X.env.globals)) = false := by rw [I.ok.kind]; rfl
  have hiσ : i < σ.length := by rw [I.len]; exact (List.getElem?_eq_some_iff.mp hi).1
  have cne := I.cne
  have tracked : ∀ {a : Addr} {h' : Heap}, (∃ o, s.heap.get? a = some o ∧ H a = none) → Heap.SameBut a s.heap h' → HOk X.prog X.w H h' := fun {a h'} ha hs b ob e => by
    obtain ⟨_, _, hfree⟩ := ha
    refine (I.hok b ob e).stay (fun c w' hc q => (hs.2 c ?_).trans q) (fun _ q => q) fun _ _ q => q
    rintro rfl
    rcases hc with rfl | hc
    · rw [hfree] at e; cases e
    · rw [hfree] at hc; cases hc
  rcases hx with hk | hk
  · refine wpAny_storeName_local hk hn (fun h' hn' hs => ?_) hcls
    obtain ⟨oL, _, _, hoL, _⟩ := id hn
    refine h _ ⟨I.ok, I.os, I.bare, ⟨fun b o e n hb hx => ?_, fun b o e n hb hx => ?_, I.base.free, fun b o e hx => ?_, I.base.tups, I.base.frzs, I.base.tbls⟩, ⟨_, hn', fun j y v' e1 e2 e3 => ?_⟩, fun y c e => ?_, I.free, I.freeC, fun p hp => ?_, tracked ⟨oL, hoL, I.free⟩ hs, by simpa using I.len⟩ ⟨_, hs, .inl rfl⟩
    · exact (hs.2 b (Nat.ne_of_lt (Nat.lt_of_lt_of_le (Heap.lt_size e) I.ok.above))).trans (I.base.keep b o e n hb hx)
    · obtain ⟨sl, e1⟩ := I.base.slot b o e n hb hx
      exact ⟨sl, (hs.2 b (Nat.ne_of_lt (Nat.lt_of_lt_of_le (Heap.lt_size e) I.ok.above))).trans e1⟩
    · obtain ⟨o', e1⟩ := I.base.there b o e hx
      exact ⟨o', (hs.2 b (Nat.ne_of_lt (Nat.lt_of_lt_of_le (Heap.lt_size e) I.ok.above))).trans e1⟩
    · by_cases hj : j = i
      · subst hj
        rw [hi] at e1; cases e1
        rw [List.getElem?_set_self hiσ] at e2
        cases e2
        exact ⟨u, r, .inl ⟨hk, by simp⟩⟩
      · rw [List.getElem?_set_ne (Ne.symm hj)] at e2
        obtain ⟨u', r', q⟩ := hl j y v' e1 e2 e3
        refine ⟨u', r', ?_⟩
        rcases q with ⟨k, e⟩ | ⟨k, c, e, z⟩
        · refine .inl ⟨k, ?_⟩
          have : y ≠ x := fun e => hj (nodup_ix hN e1 (e ▸ hi))
          simp [this, e]
        · exact .inr ⟨k, c, e, z.sameBut hs (cne y c e)⟩
    · obtain ⟨w', z⟩ := I.cell y c e
      exact ⟨w', z.sameBut hs (cne y c e)⟩
    · obtain ⟨e, n, ne, nf, d⟩ := I.pin p hp
      exact ⟨(hs.2 p.1 ne).trans e, n, ne, nf, d⟩
  · have hfn : X.fn x = true := by
      rcases hf with z | z
      · exact z
      · rw [z] at hk; cases hk
    obtain ⟨c, hc⟩ := I.ok.has x (.inl hk)
    obtain ⟨w', z⟩ := I.cell x c hc
    refine wpAny_storeName_cell I.ok.kind hk hc z (fun h' hc' hs => ?_)
    obtain ⟨oc, hoc, hocd⟩ := id z
    refine h { s with heap := h' } ⟨I.ok, I.os, I.bare, ⟨fun b o e n hb hx => ?_, fun b o e n hb hx => ?_, I.base.free, fun b o e hx => ?_, I.base.tups, I.base.frzs, I.base.tbls⟩, ⟨m, hn.sameBut hs (Ne.symm (cne x c hc)), fun j y v' e1 e2 e3 => ?_⟩, fun y c' e => ?_, I.free, I.freeC, fun p hp => ?_, tracked ⟨oc, hoc, I.freeC x c hc⟩ hs, by simpa using I.len⟩ ⟨c, hs, .inr hc⟩
    · exact (hs.2 b (Nat.ne_of_lt (Nat.lt_of_lt_of_le (Heap.lt_size e) (I.ok.cab x c hfn hc)))).trans (I.base.keep b o e n hb hx)
    · obtain ⟨sl, e1⟩ := I.base.slot b o e n hb hx
      exact ⟨sl, (hs.2 b (Nat.ne_of_lt (Nat.lt_of_lt_of_le (Heap.lt_size e) (I.ok.cab x c hfn hc)))).trans e1⟩
    · obtain ⟨o', e1⟩ := I.base.there b o e hx
      exact ⟨o', (hs.2 b (Nat.ne_of_lt (Nat.lt_of_lt_of_le (Heap.lt_size e) (I.ok.cab x c hfn hc)))).trans e1⟩
    · by_cases hj : j = i
      · subst hj
        rw [hi] at e1; cases e1
        rw [List.getElem?_set_self hiσ] at e2
        cases e2
        exact ⟨u, r, .inr ⟨.inl hk, c, hc, hc'⟩⟩
      · rw [List.getElem?_set_ne (Ne.symm hj)] at e2
        obtain ⟨u', r', q⟩ := hl j y v' e1 e2 e3
        refine ⟨u', r', ?_⟩
        rcases q with q | ⟨k, c', e, z'⟩
        · exact .inl q
        · refine .inr ⟨k, c', e, z'.sameBut hs ?_⟩
          rintro rfl
          exact hj (nodup_ix hN e1 (I.ok.inj _ _ _ e hc ▸ hi))
    · by_cases hcc : c' = c
      · subst hcc; exact ⟨_, hc'⟩
      · obtain ⟨w2, z2⟩ := I.cell y c' e
        exact ⟨w2, z2.sameBut hs hcc⟩
    · obtain ⟨e, n, ne, nf, d⟩ := I.pin p hp
      refine ⟨(hs.2 p.1 ?_).trans e, n, ne, nf, d⟩
      intro q
      rw [q, hoc] at e
      have q' : oc = p.2 := Option.some.inj e
      exact d w' (by rw [← q']; exact hocd)
theorem store_ok {M : Model} {A : Around} {E : Value → Shared → Prop} {i : Nat} {x : Str} {v : V} {u : Value} {Q : Unit → Shared → Prop} (I : Inv X pins σ H s) (hN : X.N.Nodup) (hi : X.N[i]? = some x) (hx : Loc X.env.scope x) (r : RelV v u)
    (h : ∀ s', Inv X pins (σ.set i (some v)) H s' → Q () s') (hf : X.fn x = true ∨ X.env.scope.names.lookup x = some .local := by first | exact .inl rfl | exact .inr rfl | assumption) : wpAny M A (storeName X.env x u) Q E s :=
  store_ok2 I hN hi hx r (fun s' I' _ => h s' I') hf
/-- behind a call or a block, the state as it is -/
theorem Inv.call' {s' : Shared} {ch : List Addr} (I : Inv X pins σ H s) (ho : s'.os = s.os) (u : Un (frs X.stack) ch H H' s.heap s'.heap) (hok : HOk X.prog X.w H' s'.heap) (hg : AllBare s'.gens)
    (hch : ∀ b ∈ ch, (b ∈ X.ex ∨ X.s₀.heap.objs.size ≤ b) ∧ b ≠ X.env.locals ∧ (∀ x c, X.env.cells.lookup x = some c → c ≠ b) ∧ ∀ p ∈ X.pn ++ pins, p.1 ≠ b) : Inv X pins σ H' s' := by
  obtain ⟨h', g', d', t', o'⟩ := s'
  have e : o' = s.os := ho
  subst e
  exact I.call (g' := g') (t' := t') (d' := d') u hok hg hch
end

/-! ### the judgements -/
/-- an exception: its class, its own dict's address (where it has one), the abstract heap behind it -/
abbrev XK := Value → Option Addr → Hp → Prop
abbrev St := List (Option V)
abbrev VK := V → Hp → Prop
/-- an expression's reading; a test's; an argument list's -/
abbrev TE := St → Hp → VK → Prop
abbrev TT := St → Hp → (Bool → Hp → Prop) → Prop
abbrev TA := St → Hp → (List V → Hp → Prop) → Prop
/-- what is wanted behind a statement -/
structure Ends where
  nx : St → Hp → Prop
  rt : VK
  bk : St → Hp → Prop := fun _ _ => False
  ct : St → Hp → Prop := fun _ _ => False
abbrev TS := Ends → St → Hp → Prop

def EP (X : Cx) (pins : List (Addr × Obj)) (σ : St) (Q : VK) (u : Value) (s' : Shared) : Prop := ∃ v H', Inv X pins σ H' s' ∧ RelV v u ∧ Q v H'
def TP (X : Cx) (pins : List (Addr × Obj)) (σ : St) (Q : Bool → Hp → Prop) (b : Bool) (s' : Shared) : Prop := ∃ H', Inv X pins σ H' s' ∧ Q b H'
def AP (X : Cx) (pins : List (Addr × Obj)) (σ : St) (Q : List V → Hp → Prop) (us : List Value) (s' : Shared) : Prop := ∃ vs H', Inv X pins σ H' s' ∧ Vals vs us ∧ Q vs H'
def SP (X : Cx) (pins : List (Addr × Obj)) (D : Ends) (f : Flow) (s' : Shared) : Prop :=
  match f with
  | .next => ∃ σ' H', Inv X pins σ' H' s' ∧ D.nx σ' H'
  | .brk => ∃ σ' H', Inv X pins σ' H' s' ∧ D.bk σ' H'
  | .cont => ∃ σ' H', Inv X pins σ' H' s' ∧ D.ct σ' H'
  | .ret u => ∃ v σ' H', Inv X pins σ' H' s' ∧ RelV v u ∧ D.rt v H'

def PE (X : Cx) (e : Expr) (t : TE) : Prop :=
  ∀ (pins : List (Addr × Obj)) (s : Shared) (σ : St) (H : Hp) (Q : VK), Inv X pins σ H s → t σ H Q → wpAny (model X.prog X.w) X.A (eval e X.env) (EP X pins σ Q) X.xe s
def PT (X : Cx) (e : Expr) (t : TT) : Prop :=
  ∀ (pins : List (Addr × Obj)) (s : Shared) (σ : St) (H : Hp) (Q : Bool → Hp → Prop), Inv X pins σ H s → t σ H Q → wpAny (model X.prog X.w) X.A (isTrue e X.env (eval e X.env)) (TP X pins σ Q) X.xe s
/-- a test whatever its 'whole' is (and, or) -/
def PW (X : Cx) (e : Expr) (t : TT) : Prop :=
  ∀ (whole : Sem Value) (pins : List (Addr × Obj)) (s : Shared) (σ : St) (H : Hp) (Q : Bool → Hp → Prop), Inv X pins σ H s → t σ H Q → wpAny (model X.prog X.w) X.A (isTrue e X.env whole) (TP X pins σ Q) X.xe s
theorem PW.pt {X : Cx} {e : Expr} {t : TT} (h : PW X e t) : PT X e t := h _
/-- an argument list (no star), from the left -/
def PA (X : Cx) (es : List Expr) (t : TA) : Prop :=
  ∀ (pos : Pos) (pins : List (Addr × Obj)) (s : Shared) (σ : St) (H : Hp) (Q : List V → Hp → Prop), Inv X pins σ H s → t σ H Q → wpAny (model X.prog X.w) X.A (spliced (backTo pos (starEach es X.env))) (AP X pins σ Q) X.xe s
def PS (X : Cx) (st : Stmt) (t : TS) : Prop :=
  ∀ (pins : List (Addr × Obj)) (s : Shared) (σ : St) (H : Hp) (D : Ends), Inv X pins σ H s → t D σ H → wpAny (model X.prog X.w) X.A (exec st X.env) (SP X pins D) X.xe s
def PSs (X : Cx) (st : List Stmt) (t : TS) : Prop :=
  ∀ (pins : List (Addr × Obj)) (s : Shared) (σ : St) (H : Hp) (D : Ends), Inv X pins σ H s → t D σ H → wpAny (model X.prog X.w) X.A (execs st X.env) (SP X pins D) X.xe s
/-- weaken the end -/
theorem thn {α : Type} {t : Sem α} {Q Q' : α → Shared → Prop} {M : Model} {A : Around} {E : Value → Shared → Prop} {s : Shared} (h : wpAny M A t Q E s) (hQ : ∀ a s, Q a s → Q' a s) : wpAny M A t Q' E s := wpAny_mono h hQ fun _ _ x => x
end L2

namespace L2
open PySem PySem.Spec PyProof.Rows
section
variable {X : Cx}


/-! ### names and constants -/
def tVar (i : Nat) : TE := fun σ H Q => ∃ v, σ[i]? = some (some v) ∧ Q v H
def tC (v : V) : TE := fun _ H Q => Q v H
theorem pe_var {i : Nat} {x : Str} {pos : Pos} (hN : X.N[i]? = some x) (hv : Vis X.env.scope x) (hd : (x == ("__debug__" : Str)) = false := by decide) (hcd : (x == ("__classdict__" : Str)) = false := by decide) : PE X (.Name x pos) (tVar i) := by
  intro pins s σ H Q I h
  obtain ⟨v, e, h⟩ := h
  obtain ⟨m, hn, hl⟩ := I.loc
  obtain ⟨u, r, l⟩ := hl i x v hN e hv
  have fin : EP X pins σ Q u s := ⟨v, H, I, r, h⟩
  rcases l with ⟨hk, hm⟩ | ⟨hk, c, hc, hcell⟩
  · exact wpAny_Name (wpAny_loadName_local I.ok.kind hk hn hm fin) hd
  · rcases hk with hk | hk
    · exact wpAny_Name (wpAny_loadName_cell I.ok.kind hk hc hcell fin) hd
    · exact wpAny_Name (wpAny_loadName_free I.ok.kind hk hc hcell fin hcd) hd
theorem pe_int {i j pos} : PE X (.Constant (.int i) j pos) (tC (.int i)) := fun _ _ _ H _ I h => wpAny_Constant_int ⟨.int i, H, I.tok _, ⟨_, rfl⟩, h⟩
theorem pe_str {x j pos} : PE X (.Constant (.str x) j pos) (tC (.str x)) := fun _ _ _ H _ I h => Calls.Constant_str ⟨.str x, H, I.tok _, ⟨_, rfl⟩, h⟩

/-- a global name of the def -/
def Gl (X : Cx) (x : Str) : Prop := X.env.kindOf x = some .globalImplicit
theorem ld_glob {E : Value → Shared → Prop} {pins : List (Addr × Obj)} {s : Shared} {σ : St} {H : Hp} {x : Str} {u : Value} {pos : Pos} {Q : Value → Shared → Prop} (I : Inv X pins σ H s) (hg : Gl X x) (hm : X.mg x = some u) (h : Q u s)
    (hd : (x == ("__debug__" : Str)) = false := by decide) : wpAny (model X.prog X.w) X.A (eval (.Name x pos) X.env) Q E s :=
  Calls.Name_function_global I.ok.kind hg (Calls.loadGlobal_global (by rw [I.ok.glob]; exact I.mod.glob.keeps I.bk) hm h) hd
theorem ld_blt {E : Value → Shared → Prop} {pins : List (Addr × Obj)} {s : Shared} {σ : St} {H : Hp} {x : Str} {u : Value} {pos : Pos} {Q : Value → Shared → Prop} (I : Inv X pins σ H s) (hg : Gl X x) (hm : X.mg x = none) (hv : bootBuiltins x = some u) (h : Q u s)
    (hn : x ≠ "__name__" := by decide) (hd : (x == ("__debug__" : Str)) = false := by decide) : wpAny (model X.prog X.w) X.A (eval (.Name x pos) X.env) Q E s := by
  obtain ⟨mb, h1, h2⟩ := I.mod.blt
  exact Calls.Name_function_global I.ok.kind hg (Calls.loadGlobal_builtin (by rw [I.ok.glob]; exact I.mod.glob.keeps I.bk) hm (by rw [I.ok.blt]; exact h1.keeps I.bk) ((h2 x hn).trans hv) h) hd
/-- a module's constant, a class, a function, as a value -/
theorem pe_glob {x : Str} {v : V} {u : Value} {pos : Pos} (hg : Gl X x) (hm : X.mg x = some u) (r : RelV v u) (hd : (x == ("__debug__" : Str)) = false := by decide) : PE X (.Name x pos) (tC v) :=
  fun _ _ _ H _ I h => ld_glob I hg hm ⟨v, H, I, r, h⟩ hd
theorem pe_bltn {x : Str} {v : V} {u : Value} {pos : Pos} (hg : Gl X x) (hm : X.mg x = none) (hv : bootBuiltins x = some u) (r : RelV v u) (hn : x ≠ "__name__" := by decide) (hd : (x == ("__debug__" : Str)) = false := by decide) : PE X (.Name x pos) (tC v) :=
  fun _ _ _ H _ I h => ld_blt I hg hm hv ⟨v, H, I, r, h⟩ hn hd

/-! ### arithmetic -/
/-- two ints -/
def t2I (ta tb : TE) (k : Int → Int → Hp → Prop) : St → Hp → Prop := fun σ H => ta σ H fun x H1 => tb σ H1 fun y H2 => ∃ i j, x = .int i ∧ y = .int j ∧ k i j H2
def tAdd (ta tb : TE) : TE := fun σ H Q => t2I ta tb (fun i j H2 => Q (.int (i + j)) H2) σ H
def tSub (ta tb : TE) : TE := fun σ H Q => t2I ta tb (fun i j H2 => Q (.int (i - j)) H2) σ H
/-- the left factor below 2^64 -/
def tMul (ta tb : TE) : TE := fun σ H Q => t2I ta tb (fun i j H2 => (-(2 ^ 64) < i ∧ i < 2 ^ 64) ∧ Q (.int (i * j)) H2) σ H
variable {a b : Expr} {ta tb : TE} {pos : Pos}

/-! ### comparisons -/
def PC (X : Cx) (op : CmpOp) (a b : Expr) (t : TE) : Prop :=
  ∀ (pins : List (Addr × Obj)) (s : Shared) (σ : St) (H : Hp) (Q : VK), Inv X pins σ H s → t σ H Q →
    wpAny (model X.prog X.w) X.A (eval a X.env) (fun v s₁ => wpAny (model X.prog X.w) X.A (eval b X.env) (fun u s₂ => wpAny (model X.prog X.w) X.A (compareOp op v u) (EP X pins σ Q) X.xe s₂) X.xe s₁) X.xe s
def tCmp (p : Int → Int → Bool) (ta tb : TE) : TE := fun σ H Q => t2I ta tb (fun i j H2 => Q (.bl (p i j)) H2) σ H
abbrev tLt : TE → TE → TE := tCmp fun i j => decide (i < j)
abbrev tLe : TE → TE → TE := tCmp fun i j => decide (i ≤ j)
abbrev tGt : TE → TE → TE := tCmp fun i j => decide (j < i)
abbrev tGe : TE → TE → TE := tCmp fun i j => decide (j ≤ i)
abbrev tEqI : TE → TE → TE := tCmp fun i j => decide (i = j)
abbrev tNeI : TE → TE → TE := tCmp fun i j => !decide (i = j)
/-- is None -/
def tIsN (ta : TE) : TE := fun σ H Q => ta σ H fun x H1 => Q (.bl (decide (x = .non))) H1
def tNotN (ta : TE) : TE := fun σ H Q => ta σ H fun x H1 => Q (.bl (!decide (x = .non))) H1
/-- a comparison as a value, as a test -/
def tB (t : TE) : TT := fun σ H Q => t σ H fun x H1 => ∃ c, x = .bl c ∧ Q c H1
/-- an expression whose value is a bool, as a test -/
theorem pt_val {e : Expr} {t : TE} (h : PE X e t) (he : ∀ whole, isTrue e X.env whole = (do let v ← whole; standAt e.pos; holding [v] (truthy v)) := by intro _; rfl) : PT X e (tB t) := by
  intro pins s σ H Q I hw
  refine isTrue_plain (thn (h pins s σ H _ I hw) fun v s1 ⟨x, H1, I1, r1, q1⟩ => ?_) (he _)
  obtain ⟨d, rfl, q⟩ := q1
  cases r1
  exact wpAny_truthy_bool ⟨H1, I1, q⟩

/-! ### and, or, not -/
variable {tA tB' : TT} {rest : List Expr}
def tAnd (t u : TT) : TT := fun σ H Q => t σ H fun c H1 => if c = true then u σ H1 Q else Q false H1
def tOr (t u : TT) : TT := fun σ H Q => t σ H fun c H1 => if c = true then Q true H1 else u σ H1 Q
def tNot (t : TT) : TT := fun σ H Q => t σ H fun c H1 => Q (!c) H1
theorem pw_or1 (ha : PT X a tA) : PW X (.BoolOp .Or [a] pos) tA := by
  intro wh pins s σ H Q I h
  refine isTrue_or (thn (ha pins s σ H Q I h) fun c s1 e => ?_)
  cases c with
  | false => exact isTrue_or_nil e
  | true => exact e
theorem pw_or (ha : PT X a tA) (hb : PW X (.BoolOp .Or (b :: rest) pos) tB') : PW X (.BoolOp .Or (a :: b :: rest) pos) (tOr tA tB') := by
  intro wh pins s σ H Q I h
  refine isTrue_or (thn (ha pins s σ H _ I h) fun c s1 ⟨H1, I1, q1⟩ => ?_)
  cases c with
  | true => exact ⟨H1, I1, q1⟩
  | false => exact hb wh pins s1 σ H1 Q I1 q1
theorem pt_not (ha : PT X a tA) : PT X (.UnaryOp .Not a pos) (tNot tA) := by
  intro pins s σ H Q I h
  exact isTrue_not (ha pins s σ H (fun c H1 => Q (!c) H1) I h)
/-- .. as values (bools) -/
def tAndV (ta tb : TE) : TE := fun σ H Q => ta σ H fun x H1 => ∃ c, x = .bl c ∧ if c = true then tb σ H1 Q else Q (.bl false) H1
def tOrV (ta tb : TE) : TE := fun σ H Q => ta σ H fun x H1 => ∃ c, x = .bl c ∧ if c = true then Q (.bl true) H1 else tb σ H1 Q
def tNotV (ta : TE) : TE := fun σ H Q => ta σ H fun x H1 => ∃ c, x = .bl c ∧ Q (.bl (!c)) H1
theorem pe_one {op} {t : TE} (h : PE X a t) : PE X (.BoolOp op [a] pos) t := fun pins s σ H Q I hw => BoolOp_one (h pins s σ H Q I hw)
theorem pe_and (ha : PE X a ta) (hb : PE X (.BoolOp .And (b :: rest) pos) tb) : PE X (.BoolOp .And (a :: b :: rest) pos) (tAndV ta tb) := by
  intro pins s σ H Q I h
  refine BoolOp_and (thn (ha pins s σ H _ I h) fun v s1 ⟨x, H1, I1, r1, q1⟩ => ?_)
  obtain ⟨c, rfl, q1⟩ := q1
  cases r1
  refine wpAny_truthy_bool ?_
  cases c with
  | true => exact hb pins s1 σ H1 Q I1 q1
  | false => exact ⟨.bl false, H1, I1, rfl, q1⟩
theorem pe_not (ha : PE X a ta) : PE X (.UnaryOp .Not a pos) (tNotV ta) := by
  intro pins s σ H Q I h
  refine UnaryOp_ (thn (ha pins s σ H _ I h) fun v s1 ⟨x, H1, I1, r1, q1⟩ => ?_)
  obtain ⟨c, rfl, q1⟩ := q1
  cases r1
  exact not_of (wpAny_truthy_bool ⟨.bl (!c), H1, I1, rfl, q1⟩)
/-- a if t else b -/
def tIf (t : TT) (ta tb : TE) : TE := fun σ H Q => t σ H fun c H1 => if c = true then ta σ H1 Q else tb σ H1 Q
theorem pe_ifExp {c : Expr} (hc : PT X c tA) (ha : PE X a ta) (hb : PE X b tb) : PE X (.IfExp c a b pos) (tIf tA ta tb) := by
  intro pins s σ H Q I h
  refine wpAny_IfExp (thn (hc pins s σ H _ I h) fun d s1 ⟨H1, I1, q1⟩ => ?_)
  cases d with
  | true => exact ha pins s1 σ H1 Q I1 q1
  | false => exact hb pins s1 σ H1 Q I1 q1
end
end L2

namespace L2
open PySem PySem.Spec PyProof.Rows

/-! ### a list, a tuple that is read: tracked, frozen, or an object of the module -/
def SqL (K : PySem.W.Frag) (H : Hp) (a : Addr) (xs : List V) : Prop :=
  Rd H a (.lst xs) ∨
    ∃ (o : Obj) (its : Array Value) (n : Nat), K.lookup a = some o ∧ o.cls = .type "list" ∧ o.dict = none ∧ o.data = .seq its n ∧ its.size ≤ sizeLine ∧ Vals xs its.toList
def SqT (K : PySem.W.Frag) (H : Hp) (a : Addr) (xs : List V) : Prop :=
  Rd H a (.tup xs) ∨
    ∃ (o : Obj) (its : Array Value) (n : Nat), K.lookup a = some o ∧ o.cls = .type "tuple" ∧ o.data = .seq its n ∧ its.size ≤ sizeLine ∧ Vals xs its.toList
def absV : Value → Option V
  | .none => some .non
  | .bool b => some (.bl b)
  | .int i _ => some (.int i)
  | .str x _ => some (.str x)
  | .bytes b _ => some (.byt b)
  | .float b _ => some (.flt b)
  | .ref a => some (.ref a)
  | .type n => some (.ty n)
  | _ => none
theorem RelV.abs {x : V} {u : Value} (r : RelV x u) : absV u = some x := by
  cases x with
  | non => cases r; rfl
  | bl _ => cases r; rfl
  | int _ => obtain ⟨t, rfl⟩ := r; rfl
  | str _ => obtain ⟨t, rfl⟩ := r; rfl
  | byt _ => obtain ⟨t, rfl⟩ := r; rfl
  | flt _ => obtain ⟨t, rfl⟩ := r; rfl
  | ref _ => cases r; rfl
  | ty _ => cases r; rfl
theorem RelV.inj {x y : V} {u : Value} (r : RelV x u) (q : RelV y u) : x = y := Option.some.inj (r.abs.symm.trans q.abs)
theorem Vals.inj : ∀ {xs ys : List V} {us : List Value}, Vals xs us → Vals ys us → xs = ys
  | _, _, _, .nil, .nil => rfl
  | _, _, _, .cons r t, .cons r' t' => by rw [r.inj r', Vals.inj t t']
section
variable {X : Cx} {pins : List (Addr × Obj)} {σ : St} {H : Hp} {s : Shared} {a : Addr} {xs ys : List V}
theorem SqL.of {K : PySem.W.Frag} (h : H a = some (.lst xs)) : SqL K H a xs := .inl (.inl h)
theorem SqT.of {K : PySem.W.Frag} (h : H a = some (.tup xs)) : SqT K H a xs := .inl (.inl h)
theorem Inv.list (I : Inv X pins σ H s) (h : SqL X.K H a xs) : ∃ its : List Value, Vals xs its ∧ PlainL s.heap a its.toArray ∧ xs.length ≤ sizeLine := by
  rcases h with h | ⟨o, its, n, hk, hc, hd, hs, hz, r⟩
  · obtain ⟨z, its, n, r, e⟩ := h.ok I.hok
    exact ⟨its, r, ⟨_, n, e, rfl, rfl, rfl⟩, z⟩
  · refine ⟨its.toList, r, ⟨o, n, I.kIn a o hk, hc, hd, by simpa using hs⟩, ?_⟩
    have e := r.length
    simp only [Array.length_toList] at e
    omega
theorem Inv.tuple (I : Inv X pins σ H s) (h : SqT X.K H a xs) : ∃ its : List Value, Vals xs its ∧ IsTup s.heap a its.toArray ∧ xs.length ≤ sizeLine := by
  rcases h with h | ⟨o, its, n, hk, hc, hs, hz, r⟩
  · obtain ⟨z, its, r, p⟩ := h.ok I.hok
    exact ⟨its, r, p, z⟩
  · refine ⟨its.toList, r, ⟨o, I.kIn a o hk, hc, n, by simpa using hs⟩, ?_⟩
    have e := r.length
    simp only [Array.length_toList] at e
    omega
theorem Inv.list_inj (I : Inv X pins σ H s) (h : SqL X.K H a xs) (h' : SqL X.K H a ys) : xs = ys := by
  obtain ⟨its, r, ⟨o, n, e, _, _, d⟩, _⟩ := I.list h
  obtain ⟨its', r', ⟨o', n', e', _, _, d'⟩, _⟩ := I.list h'
  rw [e] at e'; cases e'
  rw [d] at d'
  injection d' with d1 _
  have : its = its' := by simpa using congrArg Array.toList d1
  subst this
  exact r.inj r'
end

/-! ### another wish about exceptions -/
abbrev Cx.wish (X : Cx) (E : Value → Shared → Prop) : Cx := { X with xe := E }
/-- no exception leaves -/
abbrev Cx.nox (X : Cx) : Cx := X.wish fun _ _ => False
theorem Cx.Ok.wish {X : Cx} (ok : X.Ok) (E : Value → Shared → Prop) : (X.wish E).Ok :=
  ⟨ok.mod, ok.kind, ok.glob, ok.blt, ok.above, ok.inj, ok.has, ok.cab, ok.hd, ok.frames, ok.stk, ok.exf, ok.bs, ok.bsz, ok.noex, ok.exfs, ok.funs, ok.frf⟩
theorem Cx.Ok.unwish {X : Cx} {E : Value → Shared → Prop} (ok : (X.wish E).Ok) : X.Ok :=
  ⟨ok.mod, ok.kind, ok.glob, ok.blt, ok.above, ok.inj, ok.has, ok.cab, ok.hd, ok.frames, ok.stk, ok.exf, ok.bs, ok.bsz, ok.noex, ok.exfs, ok.funs, ok.frf⟩
section
variable {X : Cx} {pins : List (Addr × Obj)} {σ : St} {H : Hp} {s : Shared} {E : Value → Shared → Prop}
theorem Inv.wish (I : Inv X pins σ H s) (E : Value → Shared → Prop) : Inv (X.wish E) pins σ H s := ⟨I.ok.wish E, I.os, I.bare, I.base, I.loc, I.cell, I.free, I.freeC, I.pin, I.hok, I.len⟩
theorem Inv.unwish (I : Inv (X.wish E) pins σ H s) : Inv X pins σ H s := ⟨I.ok.unwish, I.os, I.bare, I.base, I.loc, I.cell, I.free, I.freeC, I.pin, I.hok, I.len⟩
theorem SP.unwish {D : Ends} {f : Flow} {s' : Shared} (h : SP (X.wish E) pins D f s') : SP X pins D f s' := by
  cases f with
  | next => obtain ⟨σ', H', I, q⟩ := h; exact ⟨σ', H', I.unwish, q⟩
  | brk => obtain ⟨σ', H', I, q⟩ := h; exact ⟨σ', H', I.unwish, q⟩
  | cont => obtain ⟨σ', H', I, q⟩ := h; exact ⟨σ', H', I.unwish, q⟩
  | ret u => obtain ⟨v, σ', H', I, r, q⟩ := h; exact ⟨v, σ', H', I.unwish, r, q⟩
theorem PSs.nox {st : List Stmt} {t : TS} (h : PSs X.nox st t) : PSs X st t := fun pins s σ H D I hw =>
  wpAny_mono (h pins s σ H D (I.wish _) hw) (fun _ _ q => q.unwish) fun _ _ z => False.elim z
end

/-! ### blocks and small statements -/
section
variable {X : Cx} {st : Stmt} {rest : List Stmt} {t u : TS} {e : Expr} {te : TE} {pos : Pos}
def tNext : TS := fun D σ H => D.nx σ H
def tSeq (t u : TS) : TS := fun D σ H => t { D with nx := u D } σ H
theorem pss_nil : PSs X [] tNext := fun _ _ σ H _ I h => wpAny_execs_nil ⟨σ, H, I, h⟩
theorem pss_cons (h1 : PS X st t) (h2 : PSs X rest u) : PSs X (st :: rest) (tSeq t u) := by
  intro pins s σ H D I h
  refine wpAny_execs_cons (thn (h1 pins s σ H { D with nx := u D } I h) fun f s1 q => ?_)
  cases f with
  | next =>
    obtain ⟨σ', H', I', q⟩ := q
    exact h2 pins s1 σ' H' D I' q
  | ret v => exact q
  | brk => exact q
  | cont => exact q
theorem pss_one (h1 : PS X st t) : PSs X [st] t := by
  intro pins s σ H D I h
  refine wpAny_execs_cons (thn (h1 pins s σ H D I h) fun f s1 q => ?_)
  cases f with
  | next => exact wpAny_execs_nil q
  | ret v => exact q
  | brk => exact q
  | cont => exact q
def tBreak : TS := fun D σ H => D.bk σ H
def tCont : TS := fun D σ H => D.ct σ H
/-- in a def's body nothing is shown -/
theorem Inv.quiet {pins : List (Addr × Obj)} {σ : St} {H : Hp} {s : Shared} (I : Inv X pins σ H s) : interactive X.env = false := by simp [interactive, I.ok.kind]
/-- an expression whose value is dropped -/
def tDrop (te : TE) : TS := fun D σ H => te σ H fun _ H1 => D.nx σ H1
theorem ps_expr (he : PE X e te) (hs : swapsWith e none pos.line X.env = pure false := by rfl) : PS X (.Expr e pos) (tDrop te) := by
  intro pins s σ H D I h
  exact wpAny_Expr_any (thn (he pins s σ H _ I h) fun v s1 ⟨x, H1, I1, r1, q1⟩ => ⟨σ, H1, I1, q1⟩) I.quiet hs
def tRet (te : TE) : TS := fun D σ H => te σ H D.rt
theorem ps_ret (he : PE X e te) : PS X (.Return (some e) pos) (tRet te) := by
  intro pins s σ H D I h
  exact wpAny_Return_some (thn (he pins s σ H _ I h) fun v s1 ⟨x, H1, I1, r1, q1⟩ => ⟨x, σ, H1, I1, r1, q1⟩)
def tRetN : TS := fun D _ H => D.rt .non H
def tIfS (c : TT) (t u : TS) : TS := fun D σ H => c σ H fun b H1 => if b = true then t D σ H1 else u D σ H1
theorem ps_if {c : Expr} {a b : List Stmt} {tc : TT} (hc : PT X c tc) (ha : PSs X a t) (hb : PSs X b u) : PS X (.If c a b pos) (tIfS tc t u) := by
  intro pins s σ H D I h
  refine wpAny_If (thn (hc pins s σ H _ I h) fun d s1 ⟨H1, I1, q1⟩ => ?_)
  cases d with
  | true => exact ha pins s1 σ H1 D I1 q1
  | false => exact hb pins s1 σ H1 D I1 q1
/-- code that the proof never comes to -/
def tNever : TS := fun _ _ _ => False
theorem pss_never {sts : List Stmt} : PSs X sts tNever := fun _ _ _ _ _ _ h => h.elim
end

/-! ### targets -/
abbrev TG := V → St → Hp → (St → Hp → Prop) → Prop
abbrev TGs := List V → St → Hp → (St → Hp → Prop) → Prop
def PG (X : Cx) (target : Expr) (t : TG) : Prop :=
  ∀ (pins : List (Addr × Obj)) (s : Shared) (σ : St) (H : Hp) (v : V) (u : Value) (Q : St → Hp → Prop), Inv X pins σ H s → RelV v u → t v σ H Q →
    wpAny (model X.prog X.w) X.A (assign target X.env u) (fun _ s' => ∃ σ' H', Inv X pins σ' H' s' ∧ Q σ' H') X.xe s
/-- several targets, one after another -/
def PGs (X : Cx) (ts : List Expr) (t : TGs) : Prop :=
  ∀ (pins : List (Addr × Obj)) (s : Shared) (σ : St) (H : Hp) (vs : List V) (us : List Value) (Q : St → Hp → Prop), Inv X pins σ H s → Vals vs us → t vs σ H Q →
    wpAny (model X.prog X.w) X.A (assignInOrder ((assignEach ts X.env).map (·.2)) us) (fun _ s' => ∃ σ' H', Inv X pins σ' H' s' ∧ Q σ' H') X.xe s
/-- o[i] = v, by values -/
abbrev TSet := V → V → V → Hp → (Hp → Prop) → Prop
def PSet (X : Cx) (t : TSet) : Prop :=
  ∀ (pins : List (Addr × Obj)) (s : Shared) (σ : St) (H : Hp) (o i v : V) (ov iv u : Value) (Q : Hp → Prop), Inv X pins σ H s → RelV o ov → RelV i iv → RelV v u → t o i v H Q →
    wpAny (model X.prog X.w) X.A (setItem ov iv u) (fun _ s' => ∃ H', Inv X pins σ H' s' ∧ Q H') X.xe s
/-- a op= b, by values -/
abbrev TIp := V → V → Hp → VK → Prop
def PIp (X : Cx) (op : Operator) (t : TIp) : Prop :=
  ∀ (pins : List (Addr × Obj)) (s : Shared) (σ : St) (H : Hp) (x y : V) (v u : Value) (Q : VK), Inv X pins σ H s → RelV x v → RelV y u → t x y H Q →
    wpAny (model X.prog X.w) X.A (inplaceOp op v u) (EP X pins σ Q) X.xe s
section
variable {X : Cx} {pos : Pos}
def gName (i : Nat) : TG := fun v σ H Q => Q (σ.set i (some v)) H
theorem pg_name {i : Nat} {x : Str} (hN : X.N.Nodup) (hi : X.N[i]? = some x) (hx : Loc X.env.scope x) (hf : X.fn x = true ∨ X.env.scope.names.lookup x = some .local := by first | exact .inl rfl | exact .inr rfl | assumption) : PG X (.Name x pos) (gName i) := by
  intro pins s σ H v u Q I r h
  exact wpAny_assign_Name (store_ok I hN hi hx r (fun s' I' => ⟨_, H, I', h⟩) hf)
def gNil : TGs := fun vs σ H Q => vs = [] ∧ Q σ H
def gCons (t : TG) (u : TGs) : TGs := fun vs σ H Q => ∃ v r, vs = v :: r ∧ t v σ H fun σ' H' => u r σ' H' Q
theorem pgs_nil : PGs X [] gNil := by
  intro pins s σ H vs us Q I r h
  obtain ⟨e, h⟩ := h
  subst e
  cases r
  exact assignInOrder_nil ⟨σ, H, I, h⟩
theorem pgs_cons {e : Expr} {es : List Expr} {t : TG} {u : TGs} (h1 : PG X e t) (h2 : PGs X es u)
    (hs : (assignEach (e :: es) X.env).map (·.2) = assign e X.env :: (assignEach es X.env).map (·.2) := by rfl) : PGs X (e :: es) (gCons t u) := by
  intro pins s σ H vs us Q I r h
  obtain ⟨v, vr, e1, h⟩ := h
  subst e1
  cases r with
  | cons r rr =>
    rw [hs]
    refine assignInOrder_cons (thn (h1 pins s σ H _ _ _ I r h) fun _ s1 ⟨σ1, H1, I1, q1⟩ => ?_)
    exact h2 pins s1 σ1 H1 _ _ Q I1 rr q1
/-- (a, b, ..) = a tuple of that length -/
def gTup (K : PySem.W.Frag) (n : Nat) (t : TGs) : TG := fun v σ H Q => ∃ a xs, v = .ref a ∧ SqT K H a xs ∧ xs.length = n ∧ t xs σ H Q
theorem pg_tup {es : List Expr} {k : Nat} {t : TGs} {n : Nat} (hc : X.calm = true) (h : PGs X es t)
    (hn : (assignEach es X.env).length = n := by rfl) (hst : (assignEach es X.env).findIdx? (·.1) = none := by rfl) : PG X (.Tuple es k pos) (gTup X.K n t) := by
  intro pins s σ H v u Q I r hw
  obtain ⟨a, xs, e1, hq, hl, hw⟩ := hw
  subst e1
  cases r
  obtain ⟨its, rv, ht, hz⟩ := I.tuple hq
  refine assign_Tuple_tuple (I.ok.hd hc) ht (by simp [hn, ← hl, rv.length]) hst fun h' hx => ?_
  have I1 : Inv X pins σ H { s with heap := h' } := I.kept (t' := s.toks) fun b o e => hx b o (Nat.ne_of_lt (Heap.lt_size e)) e
  exact h pins _ σ H xs _ Q I1 (by simpa using rv) hw
/-- o[i] = .. -/
def gSub (to ti : TE) (t : TSet) : TG := fun v σ H Q => to σ H fun o H1 => ti σ H1 fun i H2 => t o i v H2 fun H3 => Q σ H3
/-- target = value -/
def tAsg (te : TE) (g : TG) : TS := fun D σ H => te σ H fun x H1 => g x σ H1 D.nx
theorem ps_asg {tg e : Expr} {te : TE} {g : TG} (he : PE X e te) (hg : PG X tg g) (hs : swapsWithSole [tg] e pos.line X.env = pure false := by rfl) (hw : swappedStores [tg] e X.env = pure none := by rfl)
    (h1 : (assignEach [tg] X.env).map (·.2) = [assign tg X.env] := by rfl) : PS X (.Assign [tg] e pos) (tAsg te g) := by
  intro pins s σ H D I h
  refine wpAny_Assign_stores (thn (he pins s σ H _ I h) fun v s1 ⟨x, H1, I1, r1, q1⟩ => ?_) hs hw
  rw [h1]
  exact thn (hg pins s1 σ H1 x v _ I1 r1 q1) fun _ s2 q => q
/-- name = value -/
theorem ps_set {i : Nat} {x : Str} {e : Expr} {te : TE} {pos' : Pos} (hN : X.N.Nodup) (hi : X.N[i]? = some x) (hx : Loc X.env.scope x) (he : PE X e te) (hs : swapsWith e (some (.Name x pos')) pos.line X.env = pure false := by rfl) (hf : X.fn x = true ∨ X.env.scope.names.lookup x = some .local := by first | exact .inl rfl | exact .inr rfl | assumption) :
    PS X (.Assign [.Name x pos'] e pos) (tAsg te (gName i)) := by
  intro pins s σ H D I h
  refine wpAny_Assign_Name (thn (he pins s σ H _ I h) fun v s1 ⟨y, H1, I1, r1, q1⟩ => ?_) hs
  exact store_ok I1 hN hi hx r1 (fun s2 I2 => ⟨_, H1, I2, q1⟩) hf
/-- a, b = x, y with plain local names: stored from the right; the pair itself is not tracked (the opening rows as in PyProof/Rows/TupAssign.lean:23) -/
def tPar (i j : Nat) (ta : TA) : TS := fun D σ H => ta σ H fun vs H1 => ∃ v w, vs = [v, w] ∧ D.nx ((σ.set i (some v)).set j (some w)) H1
/-- name op= e -/
def tAug (i : Nat) (te : TE) (ti : TIp) : TS := fun D σ H => ∃ x, σ[i]? = some (some x) ∧ te σ H fun y H1 => ti x y H1 fun z H2 => D.nx (σ.set i (some z)) H2
/-- o[i] op= e -/
def tAugS (to ti te : TE) (tget : V → V → Hp → VK → Prop) (tip : TIp) (tset : TSet) : TS := fun D σ H => to σ H fun o H1 => ti σ H1 fun i H2 => tget o i H2 fun x H3 => te σ H3 fun y H4 => tip x y H4 fun z H5 => tset o i z H5 fun H6 => D.nx σ H6
/-- o[i], by values -/
def PGet (X : Cx) (t : V → V → Hp → VK → Prop) : Prop :=
  ∀ (pins : List (Addr × Obj)) (s : Shared) (σ : St) (H : Hp) (o i : V) (ov iv : Value) (Q : VK), Inv X pins σ H s → RelV o ov → RelV i iv → t o i H Q →
    wpAny (model X.prog X.w) X.A (getItem ov iv) (EP X pins σ Q) X.xe s
/-- ints -/
def ipI (f : Int → Int → Int) : TIp := fun x y H Q => ∃ i j, x = .int i ∧ y = .int j ∧ Q (.int (f i j)) H
end

/-! ### while -/
section
variable {X : Cx} {pos : Pos}
/-- the invariant W with its measure -/
def tWhile (c : TT) (tb : TS) : TS := fun D σ H => ∃ W : Nat → St → Hp → Prop, (∃ m, W m σ H) ∧ ∀ m σ H, W m σ H →
  c σ H fun b H1 => if b = true then ∃ N : St → Hp → Prop, (∀ σ' H', N σ' H' → ∃ m', m' < m ∧ W m' σ' H') ∧ tb { D with nx := N, ct := N, bk := D.nx } σ H1 else D.nx σ H1
end

/-! ### what a loop or a comprehension walks -/
/-- at turn i: it yields x (the heap may grow), or it stops -/
structure It where
  go : Nat → Hp → Prop
  yld : Nat → Hp → V → Hp → Prop
  stop : Nat → Hp → Prop
/-- the iterator's own objects may turn: they are not the frame's, not pinned, younger than the entry (or a comprehension's own) -/
def FpOk (X : Cx) (pins : List (Addr × Obj)) (H : Hp) (b : Addr) : Prop :=
  H b = none ∧ b ≠ X.env.locals ∧ b ∉ X.fs ∧ (b ∈ X.ex ∨ X.s₀.heap.objs.size ≤ b) ∧ (∀ x c, X.env.cells.lookup x = some c → c ≠ b) ∧ ∀ p ∈ X.pn ++ pins, p.1 ≠ b
theorem Inv.fpOk {X : Cx} {pins : List (Addr × Obj)} {σ : St} {H H' : Hp} {s : Shared} {b : Addr} (I : Inv X pins σ H s) (hb : s.heap.objs.size ≤ b) (hn : H' b = none) : FpOk X pins H' b := by
  refine ⟨hn, Nat.ne_of_gt (Nat.lt_of_lt_of_le I.lt hb), I.nofs hb, .inr (Nat.le_trans I.sz hb), fun x c e z => ?_, fun p hp z => ?_⟩
  · obtain ⟨v, q⟩ := I.cell x c e
    exact absurd (Nat.lt_of_lt_of_le q.lt (by rw [z]; exact hb)) (Nat.lt_irrefl _)
  · exact absurd (Nat.lt_of_lt_of_le (Heap.lt_size (I.pin p hp).1) (by rw [z]; exact hb)) (Nat.lt_irrefl _)
structure Turn (P : Program) (w : World) (K : PySem.W.Frag) (tg : Expr) (J : It) (fp : List Addr) (it : Addr) (tn : Nat → Heap → Prop) : Prop where
  mem : it ∈ fp
  obj : ∀ i h, tn i h → ∀ b ∈ fp, ∃ o, h.get? b = some o ∧ ∀ v, o.data ≠ .cell v
  keep : ∀ i h h', tn i h → (∀ b ∈ fp, ∀ o, h.get? b = some o → h'.get? b = some o) → tn i h'
  item : ∀ (X : Cx), X.prog = P → X.w = w → X.K = K → X.calm = true → ∀ (i : Nat) (pins : List (Addr × Obj)) (s : Shared) (σ : St) (H : Hp) (E : Value → Shared → Prop), Inv X pins σ H s → (∀ b ∈ fp, FpOk X pins H b) → tn i s.heap → J.go i H →
    wpAny (model P w) X.A (pyNext (.ref it)) (fun r s1 => ∃ u, r = some u ∧
      wpAny (model P w) X.A (letOwnedTupleGo tg (.ref it) u) (fun _ s2 => ∃ x H', Inv X pins σ H' s2 ∧ RelV x u ∧ J.yld i H x H' ∧ tn (i + 1) s2.heap ∧ ∀ b ∈ fp, H' b = none) E s1) E s
  done : ∀ (X : Cx), X.prog = P → X.w = w → X.K = K → X.calm = true → ∀ (i : Nat) (pins : List (Addr × Obj)) (s : Shared) (σ : St) (H : Hp) (E : Value → Shared → Prop), Inv X pins σ H s → (∀ b ∈ fp, FpOk X pins H b) → tn i s.heap → J.stop i H →
    wpAny (model P w) X.A (pyNext (.ref it)) (fun r s1 => r = none ∧ Inv X pins σ H s1) E s
  self : ∀ (A : Around) (i : Nat) (s : Shared) (Q : Value → Shared → Prop) (E : Value → Shared → Prop), tn i s.heap → Q (.ref it) s → wpAny (model P w) A (pyIter (.ref it)) Q E s
abbrev TI := St → Hp → (It → Hp → Prop) → Prop
/-- an iterator has come -/
def PIE (X : Cx) (pins : List (Addr × Obj)) (σ : St) (tg : Expr) (R : It → Hp → Prop) (itv : Value) (s2 : Shared) : Prop :=
  ∃ (it : Addr) (fp : List Addr) (tn : Nat → Heap → Prop) (J : It) (H' : Hp), itv = .ref it ∧ Inv X pins σ H' s2 ∧ Turn X.prog X.w X.K tg J fp it tn ∧ tn 0 s2.heap ∧ (∀ b ∈ fp, FpOk X pins H' b) ∧ R J H'
def PI (X : Cx) (tg iter : Expr) (wi : TI) : Prop :=
  ∀ (pins : List (Addr × Obj)) (s : Shared) (σ : St) (H : Hp) (R : It → Hp → Prop), Inv X pins σ H s → wi σ H R →
    wpAny (model X.prog X.w) X.A (eval iter X.env) (fun v s1 => wpAny (model X.prog X.w) X.A (pyIter v) (PIE X pins σ tg R) X.xe s1) X.xe s

/-- the step ahead of the store is nothing for an iterator that keeps no tuple -/
theorem go_of {M : Model} {A : Around} {E : Value → Shared → Prop} {s : Shared} {tg : Expr} {it : Addr} {u : Value} {o : Obj} {n : String} {vs : Array Value} {Q : Unit → Shared → Prop} (ho : s.heap.get? it = some o) (hc : o.cls = .type n) (hd : o.data = .fields vs)
    (hn : ["enumerate", "zip", "dict_itemiterator", "dict_reverseitemiterator", "odict_iterator", "itertools.zip_longest", "itertools.pairwise"].contains n = false) (hQ : Q () s) : wpAny M A (letOwnedTupleGo tg (.ref it) u) Q E s := by
  unfold letOwnedTupleGo
  cases tg <;> first
    | exact wpAny_pure hQ
    | (cases u <;> first
        | exact wpAny_pure hQ
        | (refine wpAny_bind (wpAny_load ho ?_)
           rw [hc, hd]
           show wpAny M A (if (["enumerate", "zip", "dict_itemiterator", "dict_reverseitemiterator", "odict_iterator", "itertools.zip_longest", "itertools.pairwise"].contains n && vs[0]? == some (rawInt _)) = true then _ else _) Q E s
           rw [if_neg (by intro h; rw [hn, Bool.false_and] at h; cases h)]
           exact wpAny_pure hQ))

/-- the list at a, as it stands at each turn (a loop may append to it) -/
def Itl (K : PySem.W.Frag) (a : Addr) : It :=
  ⟨fun i H => ∃ xs x, SqL K H a xs ∧ xs[i]? = some x, fun i H x H' => H' = H ∧ ∀ xs, SqL K H a xs → xs[i]? = some x, fun i H => ∃ xs, SqL K H a xs ∧ xs.length ≤ i⟩
def Itt (K : PySem.W.Frag) (a : Addr) : It :=
  ⟨fun i H => ∃ xs x, SqT K H a xs ∧ xs[i]? = some x, fun i H x H' => H' = H ∧ ∀ xs, SqT K H a xs → xs[i]? = some x, fun i H => ∃ xs, SqT K H a xs ∧ xs.length ≤ i⟩
/-- lo, lo + 1, .. (n of them) -/
def Itr (lo : Int) (n : Nat) : It := ⟨fun i _ => i < n, fun i H x H' => H' = H ∧ x = .int (lo + i), fun i _ => n ≤ i⟩
theorem turn_list {P : Program} {w : World} {K : PySem.W.Frag} {tg : Expr} (a it : Addr) : Turn P w K tg (Itl K a) [it] it (fun i h => h.IsListIter it a i) where
  mem := by simp
  obj := fun i h st b hb => by
    have e : b = it := by simpa using hb
    subst e
    obtain ⟨o, e, c, d⟩ := st
    exact ⟨o, e, fun v z => by rw [d] at z; cases z⟩
  keep := fun i h h' st k => st.at fun o e => k it (by simp) o e
  item := by
    intro X hP hw hK hc i pins s σ H E I hf st hg
    subst hP hw hK
    obtain ⟨xs, x, hq, hx⟩ := hg
    obtain ⟨its, rv, p, hz⟩ := I.list hq
    obtain ⟨u, hu, ru⟩ := rv.get hx
    obtain ⟨f0, f1, f2, f3, f4, f5⟩ := hf it (by simp)
    refine wpAny_pyNext_list_item st p.isList (x := u) (by simpa using hu) fun h' st' sb => ?_
    have I1 : Inv X pins σ H { s with heap := h' } := I.turned (t' := s.toks) (fun b o hb e => (sb.2 b hb).trans e) f0 f1 f3 f4 f5
    obtain ⟨o, e, c, d⟩ := id st'
    exact ⟨u, rfl, go_of (s := { s with heap := h' }) e c d (by decide) ⟨x, H, I1, ru, ⟨rfl, fun ys hy => by rw [I.list_inj hy hq]; exact hx⟩, st', fun b hb => (hf b hb).1⟩⟩
  done := by
    intro X hP hw hK hc i pins s σ H E I hf st hg
    subst hP hw hK
    obtain ⟨xs, hq, hx⟩ := hg
    obtain ⟨its, rv, p, hz⟩ := I.list hq
    obtain ⟨f0, f1, f2, f3, f4, f5⟩ := hf it (by simp)
    have hl := rv.length
    exact wpAny_pyNext_list_end (I.ok.hd hc) st p.isList (by simp; omega) fun h' eb => ⟨rfl, I.turned (t' := s.toks) (fun b o hb e => eb b o hb e) f0 f1 f3 f4 f5⟩
  self := fun _ _ _ _ _ st h => wpAny_pyIter_listiter st h
theorem turn_range {P : Program} {w : World} {K : PySem.W.Frag} {tg : Expr} (it : Addr) (lo : Int) (n : Nat) : Turn P w K tg (Itr lo n) [it] it (fun i h => IsRangeIter h it (lo + (i : Nat) * 1) ((n : Int) - (i : Nat)) 1) where
  mem := by simp
  obj := fun i h st b hb => by
    have e : b = it := by simpa using hb
    subst e
    exact ⟨_, st, fun v z => by
      have z' : Data.fields _ = Data.cell v := z
      cases z'⟩
  keep := fun i h h' st k => k it (by simp) _ st
  item := by
    intro X hP hw hK hc i pins s σ H E I hf st hg
    subst hP hw hK
    obtain ⟨f0, f1, f2, f3, f4, f5⟩ := hf it (by simp)
    have W := Walks.range (prog := X.prog) (w := X.w) (I.ok.hd hc) it lo 1 n
    refine W.item i s _ _ hg st fun v h' tk hv st' kk => ?_
    obtain ⟨t, rfl⟩ := hv
    have I1 : Inv X pins σ H { s with heap := h', toks := tk } := I.turned (fun b o hb e => kk b o (by simpa using hb) e) f0 f1 f3 f4 f5
    refine ⟨_, rfl, go_of (s := { s with heap := h', toks := tk }) (n := "range_iterator") st' rfl rfl (by decide) ⟨.int (lo + i), H, I1, ⟨t, ?_⟩, ⟨rfl, rfl⟩, st', fun b hb => (hf b hb).1⟩⟩
    rw [Int.mul_one]
  done := by
    intro X hP hw hK hc i pins s σ H E I hf st hg
    subst hP hw hK
    obtain ⟨f0, f1, f2, f3, f4, f5⟩ := hf it (by simp)
    exact wpAny_pyNext_range_end (I.ok.hd hc) st (by have : n ≤ i := hg; omega) fun h' eb => ⟨rfl, I.turned (t' := s.toks) (fun b o hb e => eb b o hb e) f0 f1 f3 f4 f5⟩
  self := fun _ _ _ _ _ st h => wpAny_pyIter_rangeiter st h
end L2

namespace L2
open PySem PySem.Spec PyProof.Rows
section
variable {X : Cx} {tg : Expr}
def iList (K : PySem.W.Frag) (tl : TE) : TI := fun σ H R => tl σ H fun x H1 => ∃ a, x = .ref a ∧ (∃ xs, SqL K H1 a xs) ∧ R (Itl K a) H1
def iTup (K : PySem.W.Frag) (tl : TE) : TI := fun σ H R => tl σ H fun x H1 => ∃ a, x = .ref a ∧ (∃ xs, SqT K H1 a xs) ∧ R (Itt K a) H1
theorem pi_list {l : Expr} {tl : TE} (hl : PE X l tl) : PI X tg l (iList X.K tl) := by
  intro pins s σ H R I h
  refine thn (hl pins s σ H _ I h) fun v s1 ⟨x, H1, I1, r1, q1⟩ => ?_
  obtain ⟨a, e, ⟨xs, hq⟩, q⟩ := q1
  subst e
  cases r1
  obtain ⟨its, rv, p, hz⟩ := I1.list hq
  refine wpAny_pyIter_list p.isList ?_
  refine ⟨s1.heap.objs.size, [s1.heap.objs.size], _, _, H1, rfl, I1.kept (t' := s1.toks) fun b o e => Heap.get?_push_of_some _ e, turn_list a _, ⟨_, Heap.get?_push_size _ rfl, rfl, rfl⟩, fun b hb => ?_, q⟩
  have e : b = s1.heap.objs.size := by simpa using hb
  subst e
  exact I1.fpOk (Nat.le_refl _) (I1.hok.fresh (Nat.le_refl _))
/-- a range object just made, walked -/
theorem range_it {pins : List (Addr × Obj)} {σ : St} {H : Hp} {s : Shared} {R : It → Hp → Prop} {E : Value → Shared → Prop} {lo hi : Int} {t u v : Tok} {tk : Nat} (I : Inv X pins σ H s) (h1 : -(2 ^ 62) ≤ lo) (h2 : lo < 2 ^ 62) (h3 : -(2 ^ 62) ≤ hi) (h4 : hi < 2 ^ 62)
    (q : R (Itr lo (hi - lo).toNat) H) : wpAny (model X.prog X.w) X.A (pyIter (.ref s.heap.objs.size)) (PIE X pins σ tg R) E { s with heap := s.heap.push { cls := .type "range", data := .fields #[.int lo t, .int hi u, .int 1 v] }, toks := tk } := by
  refine wpAny_pyIter_range (IsRange.new ..) (small_one h1 h2 h3 h4) ?_
  have I1 : Inv X pins σ H { s with heap := s.heap.push { cls := .type "range", data := .fields #[.int lo t, .int hi u, .int 1 v] }, toks := tk } := I.kept fun b o e => Heap.get?_push_of_some _ e
  refine ⟨(s.heap.push { cls := .type "range", data := .fields #[.int lo t, .int hi u, .int 1 v] }).objs.size, [(s.heap.push { cls := .type "range", data := .fields #[.int lo t, .int hi u, .int 1 v] }).objs.size], _, _, H, rfl,
    I1.kept (t' := tk) fun b o e => Heap.get?_push_of_some _ e, turn_range _ lo (hi - lo).toNat, ?_, fun b hb => ?_, q⟩
  · have e1 : lo + ((0 : Nat) : Int) * 1 = lo := by simp
    have e2 : (((hi - lo).toNat : Nat) : Int) - ((0 : Nat) : Int) = Builtin.Range.rangeSize lo hi 1 := by rw [rangeSize_one]; split <;> omega
    show IsRangeIter _ _ (lo + ((0 : Nat) : Int) * 1) ((((hi - lo).toNat : Nat) : Int) - ((0 : Nat) : Int)) 1
    rw [e1, e2]
    exact Heap.get?_push_size _ rfl
  · have e : b = (s.heap.push { cls := .type "range", data := .fields #[.int lo t, .int hi u, .int 1 v] }).objs.size := by simpa using hb
    subst e
    exact I1.fpOk (Nat.le_refl _) (I1.hok.fresh (Nat.le_refl _))
def iRng1 (ta : TA) : TI := fun σ H R => ta σ H fun vs H1 => ∃ j : Int, vs = [.int j] ∧ -(2 ^ 62) ≤ j ∧ j < 2 ^ 62 ∧ R (Itr 0 j.toNat) H1
def iRng2 (ta : TA) : TI := fun σ H R => ta σ H fun vs H1 => ∃ i j : Int, vs = [.int i, .int j] ∧ (-(2 ^ 62) ≤ i ∧ i < 2 ^ 62 ∧ -(2 ^ 62) ≤ j ∧ j < 2 ^ 62) ∧ R (Itr i (j - i).toNat) H1
theorem pi_range1 {a : Expr} {ta : TA} {p pos : Pos} (hg : Gl X "range") (hm : X.mg "range" = none) (ha : PA X [a] ta) (hs : starEach [a] X.env = [(false, eval a X.env)] := by rfl) : PI X tg (.Call (.Name "range" p) [a] [] pos) (iRng1 ta) := by
  intro pins s σ H R I h
  refine Call_ (ld_blt I hg hm boot_range (PyProof.Rows.callWith_type1 (thn (ha pos pins s σ H _ I h) fun us s1 ⟨vs, H1, I1, r1, q1⟩ => ?_) hs rfl))
  obtain ⟨j, e, q1, q2, q⟩ := q1
  subst e
  cases r1 with
  | cons r rr =>
    cases rr
    obtain ⟨t, rfl⟩ := r
    exact call_range_1 (range_it I1 (by omega) (by omega) q1 q2 (by simpa using q))

/-! ### for -/
/-- W: the invariant by the turn and a measure; N: what the body is to reach -/
def tFor (wi : TI) (g : TG) (tb : TS) : TS := fun D σ H => wi σ H fun J H1 => ∃ W : Nat → Nat → St → Hp → Prop, (∃ m, W 0 m σ H1) ∧ ∀ i m σ H, W i m σ H →
  (J.stop i H ∧ D.nx σ H) ∨ (J.go i H ∧ ∃ N : St → Hp → Prop, (∀ σ' H', N σ' H' → ∃ m', m' < m ∧ W (i + 1) m' σ' H') ∧ ∀ x H', J.yld i H x H' → g x σ H' fun σ2 H2 => tb { D with nx := N, ct := N, bk := D.nx } σ2 H2)
/-- the records at fp as they stand -/
def pinsAt (fp : List Addr) (h : Heap) : List (Addr × Obj) := fp.filterMap fun b => (h.get? b).map fun o => (b, o)
theorem mem_pinsAt {fp : List Addr} {h : Heap} {b : Addr} {o : Obj} (hb : b ∈ fp) (e : h.get? b = some o) : (b, o) ∈ pinsAt fp h := List.mem_filterMap.mpr ⟨b, hb, by rw [e]; rfl⟩
theorem of_pinsAt {fp : List Addr} {h : Heap} {p : Addr × Obj} (hp : p ∈ pinsAt fp h) : p.1 ∈ fp ∧ h.get? p.1 = some p.2 := by
  obtain ⟨b, hb, e⟩ := List.mem_filterMap.mp hp
  cases q : h.get? b with
  | none => rw [q] at e; cases e
  | some o =>
    rw [q] at e
    have e' : (b, o) = p := Option.some.inj e
    subst e'
    exact ⟨hb, q⟩
theorem Inv.pinned {pins : List (Addr × Obj)} {σ : St} {H : Hp} {s : Shared} {fp : List Addr} (I : Inv X pins σ H s) (hf : ∀ b ∈ fp, FpOk X pins H b) (ho : ∀ b ∈ fp, ∃ o, s.heap.get? b = some o ∧ ∀ v, o.data ≠ .cell v) : Inv X (pins ++ pinsAt fp s.heap) σ H s :=
  I.pins_of fun p hp => (List.mem_append.mp hp).elim (fun z => I.pin p (List.mem_append_right _ z)) fun z => by
    obtain ⟨hb, e⟩ := of_pinsAt z
    obtain ⟨f0, f1, f2, _⟩ := hf p.1 hb
    obtain ⟨o, e', d⟩ := ho p.1 hb
    rw [e] at e'; cases e'
    exact ⟨e, f0, f1, f2, d⟩
theorem Inv.unpinned {pins pl : List (Addr × Obj)} {σ : St} {H : Hp} {s : Shared} (I : Inv X (pins ++ pl) σ H s) : Inv X pins σ H s := I.pins_of fun p hp => I.pin p (List.mem_append_right _ (List.mem_append_left _ hp))
theorem ps_for {iter : Expr} {body : List Stmt} {wi : TI} {g : TG} {tb : TS} {pos : Pos} (hp : PassesOwn (model X.prog X.w) X.A X.env X.xe) (hc : X.calm = true) (hi : PI X tg iter wi) (hg : PG X tg g) (hb : PSs X body tb)
    (hs : ∀ x, foldedSetIterable iter X.env x = pure x := by intro _; rfl) : PS X (.For tg iter body [] pos) (tFor wi g tb) := by
  intro pins s σ H D I h
  refine wpAny_For (thn (hi pins s σ H _ I h) fun v s1 h1 => thn h1 fun itv s2 h2 => ?_) hs
  obtain ⟨it, fp, tn, J, H2, e, I2, T, st2, f2, W, ⟨m0, w0⟩, turn⟩ := h2
  subst e
  -- what stays true of the iterator's objects through the loop
  have stat : ∀ {H' : Hp}, (∀ b ∈ fp, H' b = none) → ∀ b ∈ fp, FpOk X pins H' b := fun hn b hb => ⟨hn b hb, (f2 b hb).2⟩
  refine codeAny_forLoop_any (fun n s' => ∃ i σ' H', Inv X pins σ' H' s' ∧ tn i s'.heap ∧ (∀ b ∈ fp, H' b = none) ∧ W i n σ' H') ?_ m0 ⟨0, σ, H2, I2, st2, fun b hb => (f2 b hb).1, w0⟩
  rintro n s3 ⟨i, σ3, H3, I3, st3, fr3, w3⟩
  rcases turn i n σ3 H3 w3 with ⟨stop, qn⟩ | ⟨go, N, hN, step⟩
  · refine wpAny_passesOwn hp (thn (T.done X rfl rfl rfl hc i pins s3 σ3 H3 X.xe I3 (stat fr3) st3 stop) fun r s4 ⟨hr, I4⟩ => ?_)
    subst hr
    exact wpAny_execs_nil ⟨σ3, H3, I4, qn⟩
  · refine wpAny_passesOwn hp (thn (T.item X rfl rfl rfl hc i pins s3 σ3 H3 X.xe I3 (stat fr3) st3 go) fun r s4 ⟨u, hr, h4⟩ => ?_)
    subst hr
    refine wpAny_passesOwn hp (thn h4 fun _ s5 ⟨x, H5, I5, r5, y5, st5, fr5⟩ => ?_)
    have I5' := I5.pinned (stat fr5) (T.obj _ _ st5)
    refine wpAny_passesOwn hp (thn (hg _ s5 σ3 H5 x u _ I5' r5 (step x H5 y5)) fun _ s6 ⟨σ6, H6, I6, q6⟩ => ?_)
    refine wpAny_passesOwn hp (thn (hb _ s6 σ6 H6 _ I6 q6) fun f s7 q7 => ?_)
    have again : ∀ {σ7 : St} {H7 : Hp}, Inv X (pins ++ pinsAt fp s5.heap) σ7 H7 s7 → N σ7 H7 → ∃ m, m < n ∧ ∃ i σ' H', Inv X pins σ' H' s7 ∧ tn i s7.heap ∧ (∀ b ∈ fp, H' b = none) ∧ W i m σ' H' := fun {σ7 H7} I7 n7 => by
      obtain ⟨m', hm, w7⟩ := hN σ7 H7 n7
      refine ⟨m', hm, i + 1, σ7, H7, I7.unpinned, T.keep _ _ _ st5 fun b hb o e => (I7.pin (b, o) (List.mem_append_right _ (List.mem_append_right _ (mem_pinsAt hb e)))).1, fun b hb => ?_, w7⟩
      obtain ⟨o, e, d⟩ := T.obj _ _ st5 b hb
      exact (I7.pin (b, o) (List.mem_append_right _ (List.mem_append_right _ (mem_pinsAt hb e)))).2.1
    cases f with
    | next => obtain ⟨σ7, H7, I7, n7⟩ := q7; exact again I7 n7
    | cont => obtain ⟨σ7, H7, I7, n7⟩ := q7; exact again I7 n7
    | brk => obtain ⟨σ7, H7, I7, q7⟩ := q7; exact ⟨σ7, H7, I7.unpinned, q7⟩
    | ret v => obtain ⟨x7, σ7, H7, I7, r7, q7⟩ := q7; exact ⟨x7, σ7, H7, I7.unpinned, r7, q7⟩
end

/-! ### the forms one uses -/
/-- over a list that the body leaves as it is -/
theorem for_list {K : PySem.W.Frag} {a : Addr} {xs : List V} {g : TG} {tb : TS} {D : Ends} {σ : St} {H : Hp} (Pv : Nat → St → Hp → Prop) (h0 : Pv 0 σ H) (hl : ∀ i σ H, i ≤ xs.length → Pv i σ H → SqL K H a xs)
    (hs : ∀ i x σ H, xs[i]? = some x → Pv i σ H → g x σ H fun σ2 H2 => tb { D with nx := Pv (i + 1), ct := Pv (i + 1), bk := D.nx } σ2 H2) (hd : ∀ σ H, Pv xs.length σ H → D.nx σ H) :
    ∃ W : Nat → Nat → St → Hp → Prop, (∃ m, W 0 m σ H) ∧ ∀ i m σ H, W i m σ H →
      ((Itl K a).stop i H ∧ D.nx σ H) ∨ ((Itl K a).go i H ∧ ∃ N : St → Hp → Prop, (∀ σ' H', N σ' H' → ∃ m', m' < m ∧ W (i + 1) m' σ' H') ∧ ∀ x H', (Itl K a).yld i H x H' → g x σ H' fun σ2 H2 => tb { D with nx := N, ct := N, bk := D.nx } σ2 H2) := by
  refine ⟨fun i m σ H => m = xs.length - i ∧ i ≤ xs.length ∧ Pv i σ H, ⟨xs.length, by simp, Nat.zero_le _, h0⟩, ?_⟩
  rintro i m σ H ⟨rfl, hi, p⟩
  have q := hl i σ H hi p
  by_cases hlt : i < xs.length
  · refine .inr ⟨⟨xs, xs[i], q, by simp [hlt]⟩, Pv (i + 1), fun σ' H' p' => ⟨xs.length - (i + 1), by omega, rfl, hlt, p'⟩, fun x H' y => ?_⟩
    obtain ⟨e, y⟩ := y
    subst e
    exact hs i x σ _ (y xs q) p
  · have e : i = xs.length := by omega
    subst e
    exact .inl ⟨⟨xs, q, Nat.le_refl _⟩, hd σ H p⟩
theorem for_range {lo : Int} {n : Nat} {g : TG} {tb : TS} {D : Ends} {σ : St} {H : Hp} (Pv : Nat → St → Hp → Prop) (h0 : Pv 0 σ H)
    (hs : ∀ i σ H, i < n → Pv i σ H → g (.int (lo + i)) σ H fun σ2 H2 => tb { D with nx := Pv (i + 1), ct := Pv (i + 1), bk := D.nx } σ2 H2) (hd : ∀ σ H, Pv n σ H → D.nx σ H) :
    ∃ W : Nat → Nat → St → Hp → Prop, (∃ m, W 0 m σ H) ∧ ∀ i m σ H, W i m σ H →
      ((Itr lo n).stop i H ∧ D.nx σ H) ∨ ((Itr lo n).go i H ∧ ∃ N : St → Hp → Prop, (∀ σ' H', N σ' H' → ∃ m', m' < m ∧ W (i + 1) m' σ' H') ∧ ∀ x H', (Itr lo n).yld i H x H' → g x σ H' fun σ2 H2 => tb { D with nx := N, ct := N, bk := D.nx } σ2 H2) := by
  refine ⟨fun i m σ H => m = n - i ∧ i ≤ n ∧ Pv i σ H, ⟨n, by simp, Nat.zero_le _, h0⟩, ?_⟩
  rintro i m σ H ⟨rfl, hi, p⟩
  by_cases hlt : i < n
  · refine .inr ⟨hlt, Pv (i + 1), fun σ' H' p' => ⟨n - (i + 1), by omega, rfl, hlt, p'⟩, fun x H' y => ?_⟩
    obtain ⟨e, y⟩ := y
    subst e y
    exact hs i σ _ hlt p
  · have e : i = n := by omega
    subst e
    exact .inl ⟨Nat.le_refl _, hd σ H p⟩
end L2

namespace L2
open PySem PySem.Spec PyProof.Rows

abbrev R2 := V → V → Hp → VK → Prop
/-- a two-place operation on values: f is binaryOp op, inplaceOp op or compareOp op -/
def OpR (X : Cx) (f : Value → Value → Sem Value) (r : R2) : Prop :=
  ∀ (pins : List (Addr × Obj)) (s : Shared) (σ : St) (H : Hp) (x y : V) (v u : Value) (Q : VK), Inv X pins σ H s → RelV x v → RelV y u → r x y H Q →
    wpAny (model X.prog X.w) X.A (f v u) (EP X pins σ Q) X.xe s
/-- a one-place operation -/
def UnR (X : Cx) (f : Value → Sem Value) (r : V → Hp → VK → Prop) : Prop :=
  ∀ (pins : List (Addr × Obj)) (s : Shared) (σ : St) (H : Hp) (x : V) (v : Value) (Q : VK), Inv X pins σ H s → RelV x v → r x H Q →
    wpAny (model X.prog X.w) X.A (f v) (EP X pins σ Q) X.xe s
/-- a call of a value that is known (a builtin, a type) with values -/
def CallR (X : Cx) (f : Value) (r : List V → Hp → VK → Prop) : Prop :=
  ∀ (pins : List (Addr × Obj)) (s : Shared) (σ : St) (H : Hp) (xs : List V) (us : List Value) (Q : VK), Inv X pins σ H s → Vals xs us → r xs H Q →
    wpAny (model X.prog X.w) X.A (call f us) (EP X pins σ Q) X.xe s
/-- a value's truth -/
def TruR (X : Cx) (r : V → Hp → (Bool → Hp → Prop) → Prop) : Prop :=
  ∀ (pins : List (Addr × Obj)) (s : Shared) (σ : St) (H : Hp) (x : V) (v : Value) (Q : Bool → Hp → Prop), Inv X pins σ H s → RelV x v → r x H Q →
    wpAny (model X.prog X.w) X.A (truthy v) (TP X pins σ Q) X.xe s

def tOp (r : R2) (ta tb : TE) : TE := fun σ H Q => ta σ H fun x H1 => tb σ H1 fun y H2 => r x y H2 Q
def tUn (r : V → Hp → VK → Prop) (ta : TE) : TE := fun σ H Q => ta σ H fun x H1 => r x H1 Q
/-- ints in, under C, and a value out -/
def rI (C : Int → Int → Prop) (g : Int → Int → V) : R2 := fun x y H Q => ∃ i j, x = .int i ∧ y = .int j ∧ C i j ∧ Q (g i j) H
def rI0 (g : Int → Int → V) : R2 := fun x y H Q => ∃ i j, x = .int i ∧ y = .int j ∧ Q (g i j) H
def rU (g : Int → V) : V → Hp → VK → Prop := fun x H Q => ∃ i, x = .int i ∧ Q (g i) H

section
variable {X : Cx} {a b c : Expr} {ta tb tc : TE} {pos : Pos}

theorem binT (ha : PE X a ta) (hb : PE X b tb) {pins : List (Addr × Obj)} {s : Shared} {σ : St} {H : Hp} {R : V → V → Hp → Prop} (I : Inv X pins σ H s)
    (h : ta σ H fun x H1 => tb σ H1 fun y H2 => R x y H2) {Q : Value → Shared → Prop} {f : Value → Value → Sem Value}
    (hf : ∀ v u s2 x y H2, Inv X pins σ H2 s2 → RelV x v → RelV y u → R x y H2 → wpAny (model X.prog X.w) X.A (f v u) Q X.xe s2) :
    wpAny (model X.prog X.w) X.A (eval a X.env) (fun v s₁ => wpAny (model X.prog X.w) X.A (eval b X.env) (fun u s₂ => wpAny (model X.prog X.w) X.A (f v u) Q X.xe s₂) X.xe s₁) X.xe s := by
  refine thn (ha pins s σ H _ I h) fun v s1 ⟨x, H1, I1, r1, q1⟩ => ?_
  refine thn (hb pins s1 σ H1 _ I1 q1) fun u s2 ⟨y, H2, I2, r2, q2⟩ => ?_
  exact hf v u s2 x y H2 I2 r1 r2 q2

theorem pe_op {op : Operator} {r : R2} (ho : OpR X (binaryOp op) r) (ha : PE X a ta) (hb : PE X b tb) : PE X (.BinOp a op b pos) (tOp r ta tb) := by
  intro pins s σ H Q I h
  exact wpAny_BinOp (binT ha hb I h fun v u s2 x y H2 I2 rx ry q => ho pins s2 σ H2 x y v u Q I2 rx ry q)
theorem pe_un {op : UnaryOp} {r : V → Hp → VK → Prop} (ho : UnR X (unaryOp op) r) (ha : PE X a ta) : PE X (.UnaryOp op a pos) (tUn r ta) := by
  intro pins s σ H Q I h
  exact UnaryOp_ (thn (ha pins s σ H _ I h) fun v s1 ⟨x, H1, I1, r1, q1⟩ => ho pins s1 σ H1 x v Q I1 r1 q1)

/-! ### ints -/
theorem opI {f : Value → Value → Sem Value} {C : Int → Int → Prop} {g : Int → Int → Int}
    (rule : ∀ (i j : Int) (t u : Tok) (s : Shared) (Q : Value → Shared → Prop) (E : Value → Shared → Prop), C i j → Q (.int (g i j) s.toks) { s with toks := s.toks + 1 } → wpAny (model X.prog X.w) X.A (f (.int i t) (.int j u)) Q E s) :
    OpR X f (rI C fun i j => .int (g i j)) := by
  intro pins s σ H x y v u Q I rx ry h
  obtain ⟨i, j, rfl, rfl, hc, q⟩ := h
  obtain ⟨t, rfl⟩ := rx
  obtain ⟨t', rfl⟩ := ry
  exact rule i j t t' s _ _ hc ⟨.int (g i j), H, I.tok _, ⟨_, rfl⟩, q⟩
theorem opI0 {f : Value → Value → Sem Value} {g : Int → Int → Int}
    (rule : ∀ (i j : Int) (t u : Tok) (s : Shared) (Q : Value → Shared → Prop) (E : Value → Shared → Prop), Q (.int (g i j) s.toks) { s with toks := s.toks + 1 } → wpAny (model X.prog X.w) X.A (f (.int i t) (.int j u)) Q E s) :
    OpR X f (rI0 fun i j => .int (g i j)) := by
  intro pins s σ H x y v u Q I rx ry h
  obtain ⟨i, j, rfl, rfl, q⟩ := h
  obtain ⟨t, rfl⟩ := rx
  obtain ⟨t', rfl⟩ := ry
  exact rule i j t t' s _ _ ⟨.int (g i j), H, I.tok _, ⟨_, rfl⟩, q⟩
theorem opB0 {f : Value → Value → Sem Value} {g : Int → Int → Bool}
    (rule : ∀ (i j : Int) (t u : Tok) (s : Shared) (Q : Value → Shared → Prop) (E : Value → Shared → Prop), Q (.bool (g i j)) s → wpAny (model X.prog X.w) X.A (f (.int i t) (.int j u)) Q E s) :
    OpR X f (rI0 fun i j => .bl (g i j)) := by
  intro pins s σ H x y v u Q I rx ry h
  obtain ⟨i, j, rfl, rfl, q⟩ := h
  obtain ⟨t, rfl⟩ := rx
  obtain ⟨t', rfl⟩ := ry
  exact rule i j t t' s _ _ ⟨.bl (g i j), H, I, rfl, q⟩

def CDiv (i j : Int) : Prop := 0 < j ∧ j < 1073741824
def CDivN (i j : Int) : Prop := j ≠ 0 ∧ j.natAbs < 1073741824
def CPow (i j : Int) : Prop := 0 ≤ j ∧ j ≤ 1000000 ∧ i.natAbs < 2 ^ 64
def CMul (i j : Int) : Prop := (-(2 ^ 64) < i ∧ i < 2 ^ 64) ∨ (-(2 ^ 64) < j ∧ j < 2 ^ 64)

theorem op_add : OpR X (binaryOp .Add) (rI0 fun i j => .int (i + j)) := opI0 fun _ _ _ _ _ _ _ q => add_int q
theorem op_sub : OpR X (binaryOp .Sub) (rI0 fun i j => .int (i - j)) := opI0 fun _ _ _ _ _ _ _ q => sub_int q
/-- % by a positive divisor of any size -/
theorem op_mod : OpR X (binaryOp .Mod) (rI (fun _ j => 0 < j) fun i j => .int (i % j)) := opI fun i j _ _ _ _ _ hc q => by
  have h1 : (0 : Int) < j := hc
  exact mod_int' (by omega) (by rw [Int.fmod_eq_emod_of_nonneg i (by omega)]; exact q)


theorem unI {f : Value → Sem Value} {g : Int → Int}
    (rule : ∀ (i : Int) (t : Tok) (s : Shared) (Q : Value → Shared → Prop) (E : Value → Shared → Prop), Q (.int (g i) s.toks) { s with toks := s.toks + 1 } → wpAny (model X.prog X.w) X.A (f (.int i t)) Q E s) :
    UnR X f (rU fun i => .int (g i)) := by
  intro pins s σ H x v Q I rx h
  obtain ⟨i, rfl, q⟩ := h
  obtain ⟨t, rfl⟩ := rx
  exact rule i t s _ _ ⟨.int (g i), H, I.tok _, ⟨_, rfl⟩, q⟩
theorem un_neg : UnR X (unaryOp .USub) (rU fun i => .int (-i)) := unI fun _ _ _ _ _ q => neg_int q

/-! ### bools among ints: n += (a < b) -/
end

/-! ### comparisons -/
/-- the scalars that == tells apart as data does -/
def scal : V → V → Bool
  | .non, .non => true | .non, .int _ => true | .int _, .non => true | .non, .bl _ => true | .bl _, .non => true | .non, .str _ => true | .str _, .non => true
  | .int _, .int _ => true | .bl _, .bl _ => true | .str _, .str _ => true | .byt _, .byt _ => true
  | .int _, .str _ => true | .str _, .int _ => true | .bl _, .str _ => true | .str _, .bl _ => true
  | _, _ => false
def rEq : R2 := fun x y H Q => scal x y = true ∧ Q (.bl (decide (x = y))) H
def rNe : R2 := fun x y H Q => scal x y = true ∧ Q (.bl (!decide (x = y))) H

theorem dec_int {i j : Int} : decide (V.int i = V.int j) = (i == j) := by
  rw [Bool.eq_iff_iff]
  simp
theorem dec_bl {i j : Bool} : decide (V.bl i = V.bl j) = (i == j) := by
  rw [Bool.eq_iff_iff]
  simp
theorem dec_str {i j : Str} : decide (V.str i = V.str j) = (i == j) := by
  rw [Bool.eq_iff_iff]
  simp
theorem dec_byt {i j : Array UInt8} : decide (V.byt i = V.byt j) = (i.toList == j.toList) := by
  rw [Bool.eq_iff_iff]
  cases i
  cases j
  simp

section
variable {X : Cx} {a b c : Expr} {ta tb tc : TE} {pos : Pos}
theorem fin_bl {pins : List (Addr × Obj)} {σ : St} {H : Hp} {s : Shared} {Q : VK} {k k' : Bool} (I : Inv X pins σ H s) (q : Q (.bl k) H) (e : k = k') : EP X pins σ Q (.bool k') s := by
  subst e
  exact ⟨.bl k, H, I, rfl, q⟩
theorem op_eq : OpR X (compareOp .Eq) rEq := by
  intro pins s σ H x y v u Q I rx ry h
  obtain ⟨hs, q⟩ := h
  cases x with
  | non =>
    cases rx
    cases y with
    | non => cases ry; exact PySem.EqNone.eq_none_none (fin_bl I q (by simp))
    | bl j => cases ry; exact PySem.EqNone.eq_none_bool (fin_bl I q (by simp))
    | int j => obtain ⟨t', rfl⟩ := ry; exact PySem.EqNone.eq_none_int (fin_bl I q (by simp))
    | str j => obtain ⟨t', rfl⟩ := ry; exact PySem.EqNone.eq_none_str (fin_bl I q (by simp))
    | _ => exact absurd (show false = true from hs) Bool.false_ne_true
  | bl i =>
    cases rx
    cases y with
    | non => cases ry; exact PySem.EqNone.eq_bool_none (fin_bl I q (by simp))
    | bl j => cases ry; exact eq_bool (fin_bl I q dec_bl)
    | str j => obtain ⟨t', rfl⟩ := ry; exact PySem.EqMixed.eq_bool_str (fin_bl I q (by simp))
    | _ => exact absurd (show false = true from hs) Bool.false_ne_true
  | int i =>
    obtain ⟨t, rfl⟩ := rx
    cases y with
    | non => cases ry; exact PySem.EqNone.eq_int_none (fin_bl I q (by simp))
    | int j => obtain ⟨t', rfl⟩ := ry; exact eq_int (fin_bl I q dec_int)
    | str j => obtain ⟨t', rfl⟩ := ry; exact PySem.EqMixed.eq_int_str (fin_bl I q (by simp))
    | _ => exact absurd (show false = true from hs) Bool.false_ne_true
  | str i =>
    obtain ⟨t, rfl⟩ := rx
    cases y with
    | non => cases ry; exact PySem.EqNone.eq_str_none (fin_bl I q (by simp))
    | bl j => cases ry; exact PySem.EqMixed.eq_str_bool (fin_bl I q (by simp))
    | int j => obtain ⟨t', rfl⟩ := ry; exact PySem.EqMixed.eq_str_int (fin_bl I q (by simp))
    | str j => obtain ⟨t', rfl⟩ := ry; exact eq_str (fin_bl I q dec_str)
    | _ => exact absurd (show false = true from hs) Bool.false_ne_true
  | byt i =>
    obtain ⟨t, rfl⟩ := rx
    cases y with
    | byt j => obtain ⟨t', rfl⟩ := ry; exact PySem.W.eq_bytes (fin_bl I q dec_byt)
    | _ => exact absurd (show false = true from hs) Bool.false_ne_true
  | _ => cases y <;> exact absurd (show false = true from hs) Bool.false_ne_true
theorem op_ne : OpR X (compareOp .NotEq) rNe := by
  intro pins s σ H x y v u Q I rx ry h
  obtain ⟨hs, q⟩ := h
  cases x with
  | non =>
    cases rx
    cases y with
    | non => cases ry; exact PySem.EqNone.ne_none_none (fin_bl I q (by simp))
    | bl j => cases ry; exact PySem.EqNone.ne_none_bool (fin_bl I q (by simp))
    | int j => obtain ⟨t', rfl⟩ := ry; exact PySem.EqNone.ne_none_int (fin_bl I q (by simp))
    | str j => obtain ⟨t', rfl⟩ := ry; exact PySem.EqNone.ne_none_str (fin_bl I q (by simp))
    | _ => exact absurd (show false = true from hs) Bool.false_ne_true
  | bl i =>
    cases rx
    cases y with
    | non => cases ry; exact PySem.EqNone.ne_bool_none (fin_bl I q (by simp))
    | bl j => cases ry; exact ne_bool (fin_bl I q (congrArg not dec_bl))
    | str j => obtain ⟨t', rfl⟩ := ry; exact PySem.EqMixed.ne_bool_str (fin_bl I q (by simp))
    | _ => exact absurd (show false = true from hs) Bool.false_ne_true
  | int i =>
    obtain ⟨t, rfl⟩ := rx
    cases y with
    | non => cases ry; exact PySem.EqNone.ne_int_none (fin_bl I q (by simp))
    | int j => obtain ⟨t', rfl⟩ := ry; exact ne_int (fin_bl I q (congrArg not dec_int))
    | str j => obtain ⟨t', rfl⟩ := ry; exact PySem.EqMixed.ne_int_str (fin_bl I q (by simp))
    | _ => exact absurd (show false = true from hs) Bool.false_ne_true
  | str i =>
    obtain ⟨t, rfl⟩ := rx
    cases y with
    | non => cases ry; exact PySem.EqNone.ne_str_none (fin_bl I q (by simp))
    | bl j => cases ry; exact PySem.EqMixed.ne_str_bool (fin_bl I q (by simp))
    | int j => obtain ⟨t', rfl⟩ := ry; exact PySem.EqMixed.ne_str_int (fin_bl I q (by simp))
    | str j => obtain ⟨t', rfl⟩ := ry; exact ne_str (fin_bl I q (congrArg not dec_str))
    | _ => exact absurd (show false = true from hs) Bool.false_ne_true
  | byt i =>
    obtain ⟨t, rfl⟩ := rx
    cases y with
    | byt j => obtain ⟨t', rfl⟩ := ry; exact PySem.W.ne_bytes (fin_bl I q (congrArg not dec_byt))
    | _ => exact absurd (show false = true from hs) Bool.false_ne_true
  | _ => cases y <;> exact absurd (show false = true from hs) Bool.false_ne_true

theorem op_gt : OpR X (compareOp .Gt) (rI0 fun i j => .bl (decide (j < i))) := opB0 fun _ _ _ _ _ _ _ q => gt_int q


theorem op_notin_str : OpR X (compareOp .NotIn) (fun x y H Q => ∃ i j, x = .str i ∧ y = .str j ∧ Q (.bl (!(!(Builtin.Str.occurrences j i 0 j.length 1).isEmpty))) H) := by
  intro pins s σ H x y v u Q I rx ry h
  obtain ⟨i, j, rfl, rfl, q⟩ := h
  obtain ⟨t, rfl⟩ := rx
  obtain ⟨t', rfl⟩ := ry
  exact notIn_str (fin_bl I q rfl)
/-- is, is not of two objects that are tracked lists or instances -/
def isObj : HO → Bool
  | .lst _ => true
  | .ins _ _ _ => true
  | _ => false


theorem nomark (b : Expr) {op : CmpOp} (h : op ≠ .In := by decide) (h2 : op ≠ .NotIn := by decide) : behindInMarks op b = false := by
  have e1 : (op == CmpOp.In) = false := by cases op <;> first | rfl | exact absurd rfl h
  have e2 : (op == CmpOp.NotIn) = false := by cases op <;> first | rfl | exact absurd rfl h2
  cases b <;> simp [behindInMarks, e1, e2]
/-- a comparison as a value; hm: nomark b, or (for in, not in) by with_unfolding_all rfl -/
theorem pe_cmpR {op : CmpOp} {r : R2} (ho : OpR X (compareOp op) r) (ha : PE X a ta) (hb : PE X b tb) (hm : behindInMarks op b = false) : PE X (.Compare a [op] [b] pos) (tOp r ta tb) := by
  intro pins s σ H Q I h
  exact wpAny_Compare1 (binT ha hb I h fun v u s2 x y H2 I2 rx ry q => ho pins s2 σ H2 x y v u Q I2 rx ry q) hm
/-- a reading of a value as a test -/
def tTest (t : TE) : TT := fun σ H Q => t σ H fun x H' => ∃ k, x = .bl k ∧ Q k H'
theorem pt_cmpR {op : CmpOp} {r : R2} (ho : OpR X (compareOp op) r) (ha : PE X a ta) (hb : PE X b tb) (hm : behindInMarks op b = false) : PT X (.Compare a [op] [b] pos) (tTest (tOp r ta tb)) := by
  intro pins s σ H Q I h
  refine wpAny_isTrue_Compare1 (thn (ha pins s σ H _ I h) fun v s1 ⟨x, H1, I1, r1, q1⟩ => thn (hb pins s1 σ H1 _ I1 q1) fun u s2 ⟨y, H2, I2, r2, q2⟩ =>
    thn (ho pins s2 σ H2 x y v u _ I2 r1 r2 q2) fun c s3 ⟨z, H3, I3, r3, k, e, q3⟩ => ?_) hm
  subst e
  cases r3
  exact wpAny_truthy_bool ⟨H3, I3, q3⟩
/-- a op1 b op2 c -/
def tChain (r r' : R2) (ta tb tc : TE) : TE := fun σ H Q => ta σ H fun x H1 => tb σ H1 fun y H2 => r x y H2 fun z H3 => ∃ k, z = .bl k ∧
  (if k = true then tc σ H3 fun w' H4 => r' y w' H4 Q else Q (.bl false) H3)

/-! ### truth -/
/-- a value's truth by the abstract heap -/
def TruV (K : PySem.W.Frag) (x : V) (H : Hp) (k : Bool) : Prop :=
  match x with
  | .non => k = false
  | .bl b => k = b
  | .int i => k = (i != 0)
  | .str y => y.length ≤ sizeLine ∧ k = ((y.length : Int) != 0)
  | .byt y => y.size ≤ sizeLine ∧ k = ((y.size : Int) != 0)
  | .ref p => (∃ xs, SqL K H p xs ∧ k = !xs.isEmpty) ∨ (∃ xs, SqT K H p xs ∧ k = !xs.isEmpty) ∨ ∃ kvs, H p = some (.dK kvs) ∧ k = !kvs.isEmpty
  | _ => False
theorem line63 : (sizeLine : Nat) < 2 ^ 63 := by rw [sizeLine_eq]; decide

/-! ### strs and bytes -/
theorem op_add_str : OpR X (binaryOp .Add) (fun x y H Q => ∃ i j, x = .str i ∧ y = .str j ∧ i.length + j.length ≤ sizeLine ∧ Q (.str (i ++ j)) H) := by
  intro pins s σ H x y v u Q I rx ry h
  obtain ⟨i, j, rfl, rfl, hz, q⟩ := h
  obtain ⟨t, rfl⟩ := rx
  obtain ⟨t', rfl⟩ := ry
  exact add_str (fun t' tk => ⟨.str (i ++ j), H, I.tok _, ⟨_, rfl⟩, q⟩) hz

def PlainIxT (b : Expr) : Prop := ∀ o i, subscripted b false o i = operate [o, i] (getItem o i)

/-! ### scalar builtins, by CallR -/
theorem vals1 {x : V} {us : List Value} (r : Vals [x] us) : ∃ u, us = [u] ∧ RelV x u := by
  cases r with
  | cons r1 r2 => cases r2; exact ⟨_, rfl, r1⟩
theorem vals2 {x y : V} {us : List Value} (r : Vals [x, y] us) : ∃ u w', us = [u, w'] ∧ RelV x u ∧ RelV y w' := by
  cases r with
  | cons r1 r2 =>
    cases r2 with
    | cons r3 r4 => cases r4; exact ⟨_, _, rfl, r1, r3⟩
theorem call_abs : CallR X (.builtin "abs") (fun xs H Q => ∃ i, xs = [.int i] ∧ Q (.int (if i < 0 then -i else i)) H) := by
  intro pins s σ H xs us Q I r h
  obtain ⟨i, rfl, q⟩ := h
  obtain ⟨u, rfl, t, rfl⟩ := vals1 r
  exact call_abs_int fun u tk => ⟨.int (if i < 0 then -i else i), H, I.tok _, ⟨_, rfl⟩, q⟩
/-- len of a str, a bytes, a list, a tuple -/
def LenV (K : PySem.W.Frag) (x : V) (H : Hp) (n : Nat) : Prop :=
  match x with
  | .str y => y.length ≤ sizeLine ∧ n = y.length
  | .byt y => y.size ≤ sizeLine ∧ n = y.size
  | .ref p => (∃ xs, SqL K H p xs ∧ n = xs.length) ∨ ∃ xs, SqT K H p xs ∧ n = xs.length
  | _ => False
end
end L2

namespace L2
open PySem PySem.Spec PyProof.Rows

/-! ### an instance, its attributes a map -/
structure ObjM (h : Heap) (x dx C : Addr) (mA : Str → Option Value) : Prop where
  obj : h.get? x = some (PySem.W.instObj C dx)
  ns : h.Ns1 dx mA
  ne : dx ≠ x

theorem lookIn_ns {h : Heap} {dx : Addr} {mA : Str → Option Value} (n : h.Ns1 dx mA) : ∃ od, h.get? dx = some od ∧ ∀ name, PySem.W.lookIn name od = some (mA name) := by
  obtain ⟨o, es, ep, ho, hd, hk, _, hm⟩ := n
  refine ⟨o, ho, fun name => ?_⟩
  have e := hm name
  unfold nsFind findBy at e
  rw [← Array.find?_toList] at e
  unfold PySem.W.lookIn
  rw [hd]
  dsimp only
  split
  · rename_i y q
    rw [q] at e
    exact congrArg some e
  · rename_i q
    rw [q] at e
    have a : es.toList.any (·.refKey) = false := by
      rw [List.any_eq_false]
      intro y hy
      obtain ⟨z, t, hkey⟩ := hk y (Array.mem_toList_iff.mp hy)
      simp [DictEntry.refKey, hkey]
    have a' : ¬ es.toList.any (·.refKey) = true := by rw [a]; exact Bool.false_ne_true
    rw [if_neg a']
    exact congrArg some e

theorem ObjM.look {h : Heap} {x dx C : Addr} {mA : Str → Option Value} (I : ObjM h x dx C mA) : ∃ od, PySem.W.InstAt h x (PySem.W.instObj C dx) C (some od) ∧ ∀ name, PySem.W.lookIn name od = some (mA name) :=
  let ⟨od, ho, hl⟩ := lookIn_ns I.ns
  ⟨od, ⟨I.obj, rfl, rfl, ho⟩, hl⟩

section
variable {prog : Program} {w : World} {A : Around} {E : Value → Shared → Prop} {s : Shared} {K : PySem.W.Frag} {x dx C f : Addr} {mA : Str → Option Value} {name : Str} {v : Value}





end

/-! ### the attributes as a list of pairs -/
def putF (f : Str) (v : V) : List (Str × V) → List (Str × V)
  | [] => [(f, v)]
  | (g, x) :: r => if g = f then (g, v) :: r else (g, x) :: putF f v r

theorem RelO.some_of {v : V} {o : Option Value} (r : RelO (some v) o) : ∃ u, o = some u ∧ RelV v u := by
  cases o with
  | none => exact (show False from r).elim
  | some u => exact ⟨u, rfl, r⟩

section
variable {P : Program} {w : World} {H H' : Hp} {h h' : Heap} {a C dx : Addr} {fs fs' : List (Str × V)}
theorem ins_get (hok : HOk P w H h) (e : H a = some (.ins C dx fs)) : ∃ mA, ObjM h a dx C mA ∧ (∀ f, RelO (fs.lookup f) (mA f)) ∧ PySem.Within mA (fs.map (·.1)) ∧ fs.length ≤ 1000 ∧ H dx = some (.own a) := by
  obtain ⟨d, z, ne, ob, mA, n, r, q⟩ := (show ObjOk P w H h a (.ins C dx fs) from hok a _ e)
  exact ⟨mA, ⟨ob, n, ne⟩, r, q, z, d⟩
end

/-! ### what of the text a class must have -/
structure Cls (K : PySem.W.Frag) (C : Addr) : Prop where
  pg : PySem.W.plainGet K C Str.empty = true
  hd : PySem.W.hasDictIn K C = true
  po : PySem.W.plainOver K C = true
  sa : PySem.W.findIn K (.ref C) "__setattr__" = some (some (.builtin "object.__setattr__"))
theorem Cls.get {K : PySem.W.Frag} {C : Addr} (c : Cls K C) (f : Str) : PySem.W.plainGet K C f = true := c.pg
/-- no class of it has the name -/
def NoAttr (K : PySem.W.Frag) (C : Addr) (f : Str) : Prop := PySem.W.findIn K (.ref C) f = some none
/-- a constant of the class -/
structure Con (K : PySem.W.Frag) (C : Addr) (f : Str) (v : V) (u : Value) : Prop where
  at_ : PySem.W.findIn K (.ref C) f = some (some u)
  rel : RelV v u
  get : PySem.W.specialIn K u "__get__" = some none
  cp : PySem.W.copiedNames.contains f = false
/-- a method: a plain def of the class or of one above it -/
structure Meth (K : PySem.W.Frag) (C : Addr) (m : Str) (f : Addr) : Prop where
  at_ : PySem.W.findIn K (.ref C) m = some (some (.ref f))
  fn : PySem.W.isFn K (.ref f) = true
  kp : PySem.W.keepIn K (.ref f) = true

section
variable {X : Cx} {pins : List (Addr × Obj)} {σ : St} {H : Hp} {s : Shared} {a C dx : Addr} {fs : List (Str × V)} {f : Str} {v : V} {A : Around} {E : Value → Shared → Prop}






end

/-! ### readings and rules -/
/-- e.f, an attribute of the instance -/
def tFld (K : PySem.W.Frag) (ta : TE) (f : Str) : TE := fun σ H Q => ta σ H fun x H1 => ∃ a C dx fs v, x = .ref a ∧ H1 a = some (.ins C dx fs) ∧ Cls K C ∧ NoAttr K C f ∧ fs.lookup f = some v ∧ Q v H1
/-- e.f, a constant of the class -/
def tCon (K : PySem.W.Frag) (ta : TE) (f : Str) : TE := fun σ H Q => ta σ H fun x H1 => ∃ a C dx fs v u, x = .ref a ∧ H1 a = some (.ins C dx fs) ∧ Cls K C ∧ Con K C f v u ∧ fs.lookup f = none ∧ Q v H1
/-- e.f = value -/
def sFld (K : PySem.W.Frag) (ta tv : TE) (f : Str) : TS := fun D σ H => tv σ H fun y H1 => ta σ H1 fun x H2 => ∃ a C dx fs, x = .ref a ∧ H2 a = some (.ins C dx fs) ∧ Cls K C ∧ NoAttr K C f ∧ fs.length < 1000 ∧
  D.nx σ (upd H2 a (.ins C dx (putF f y fs)))
/-- an augmented operator on two values -/
def InOp (X : Cx) (op : Operator) (rd : V → V → Hp → VK → Prop) : Prop :=
  ∀ (pins : List (Addr × Obj)) (s : Shared) (σ : St) (H : Hp) (x y : V) (u v : Value) (Q : VK), Inv X pins σ H s → RelV x u → RelV y v → rd x y H Q → wpAny (model X.prog X.w) X.A (inplaceOp op u v) (EP X pins σ Q) X.xe s
/-- e.f op= value -/
def sFldAug (K : PySem.W.Frag) (ta tv : TE) (rd : V → V → Hp → VK → Prop) (f : Str) : TS := fun D σ H => ta σ H fun x H1 => ∃ a C dx fs v, x = .ref a ∧ H1 a = some (.ins C dx fs) ∧ Cls K C ∧ NoAttr K C f ∧ fs.lookup f = some v ∧
  tv σ H1 fun y H2 => rd v y H2 fun z H3 => ∃ dx' fs', H3 a = some (.ins C dx' fs') ∧ fs'.length < 1000 ∧ D.nx σ (upd H3 a (.ins C dx' (putF f z fs')))

section
variable {X : Cx} {o e value : Expr} {f : Str} {pos pos' tpos : Pos} {ta tv : TE}
def rAdd : V → V → Hp → VK → Prop := fun x y H Q => ∃ i j, x = .int i ∧ y = .int j ∧ Q (.int (i + j)) H
def rSub : V → V → Hp → VK → Prop := fun x y H Q => ∃ i j, x = .int i ∧ y = .int j ∧ Q (.int (i - j)) H

end

/-! ### isinstance -/
section
variable {X : Cx} {pins : List (Addr × Obj)} {σ : St} {H : Hp} {s : Shared} {A : Around} {E : Value → Shared → Prop} {Q : Value → Shared → Prop} {c : Value} {b : Bool}
/-- the type of a value, as the fragment's deciders take it; for an instance its class -/
inductive TyOf (K : PySem.W.Frag) (H : Hp) : V → Value → Prop where
  | non : TyOf K H .non (.type "NoneType")
  | bl (x : Bool) : TyOf K H (.bl x) (.type "bool")
  | int (i : Int) : TyOf K H (.int i) (.type "int")
  | str (x : Str) : TyOf K H (.str x) (.type "str")
  | flt (x : UInt64) : TyOf K H (.flt x) (.type "float")
  | lst {a : Addr} {xs : List V} (e : H a = some (.lst xs)) : TyOf K H (.ref a) (.type "list")
  | frz {a : Addr} {o : Obj} {xs : List V} (e : H a = some (.frz o (.lst xs))) : TyOf K H (.ref a) (.type "list")
  | tup {a : Addr} {xs : List V} (e : H a = some (.tup xs)) : TyOf K H (.ref a) (.type "tuple")
  | dK {a : Addr} {kvs : List (Key × V)} (e : H a = some (.dK kvs)) : TyOf K H (.ref a) (.type "dict")
  | dT {a : Addr} {kvs : List (List Key × V)} (e : H a = some (.dT kvs)) : TyOf K H (.ref a) (.type "dict")
  | ins {a C dx : Addr} {fs : List (Str × V)} (e : H a = some (.ins C dx fs)) (cl : Cls K C) (ha : PySem.W.findIn K (.ref C) "__class__" = some (some (.builtin "object.__class__")))
      (hn : PySem.W.specialIn K (.builtin "object.__class__") "__get__" = some (some (.builtin "getset_descriptor.__get__"))) (htk : PySem.W.takesIn K (.builtin "object.__class__") = some true)
      (hm : PySem.W.mroIn K C (.type "object") = some true) : TyOf K H (.ref a) (.ref C)
/-- isinstance(x, c) for one class c, a built-in or an own one: kitOne's answer -/
theorem isinst_ok {x : V} {u t : Value} (I : Inv X pins σ H s) (rx : RelV x u) (ty : TyOf X.K H x t) (e : PySem.W.kitOne X.K t c = some b) (h : ∀ tk, Q (.bool b) { s with toks := tk }) :
    wpAny (model X.prog X.w) A (call (.builtin "isinstance") [u, c]) Q E s := by
  cases ty with
  | non => cases (show u = Value.none from rx); exact PySem.W.kia_one PySem.W.kitx_none I.kIn True.intro e (fun z => nomatch z) h
  | bl y => cases (show u = Value.bool y from rx); exact PySem.W.kia_one PySem.W.kitx_bool I.kIn True.intro e (fun z => nomatch z) h
  | int i => obtain ⟨t, q⟩ := (show ∃ t, u = Value.int i t from rx); cases q; exact PySem.W.kia_one PySem.W.kitx_int I.kIn True.intro e (fun z => nomatch z) h
  | str y => obtain ⟨t, q⟩ := (show ∃ t, u = Value.str y t from rx); cases q; exact PySem.W.kia_one PySem.W.kitx_str I.kIn True.intro e (fun z => nomatch z) h
  | flt y => obtain ⟨t, q⟩ := (show ∃ t, u = Value.float y t from rx); cases q; exact PySem.W.kia_one PySem.W.kitx_float I.kIn True.intro e (fun z => nomatch z) h
  | @lst a xs ea =>
    cases (show u = Value.ref a from rx)
    obtain ⟨_, _, n, _, h1⟩ := (show ObjOk X.prog X.w H s.heap a (.lst xs) from I.hok a _ ea)
    exact PySem.W.kia_one PySem.W.kitx_list I.kIn ⟨_, h1, rfl⟩ e (fun z => nomatch z) h
  | @frz a ob xs ea =>
    cases (show u = Value.ref a from rx)
    obtain ⟨_, _, _, n, _, h1⟩ := (show ObjOk X.prog X.w H s.heap a (.frz ob (.lst xs)) from I.hok a _ ea)
    exact PySem.W.kia_one PySem.W.kitx_list I.kIn ⟨_, h1, rfl⟩ e (fun z => nomatch z) h
  | @tup a xs ea =>
    cases (show u = Value.ref a from rx)
    obtain ⟨_, _, _, p⟩ := (show ObjOk X.prog X.w H s.heap a (.tup xs) from I.hok a _ ea)
    obtain ⟨o, h1, h2, _⟩ := p
    exact PySem.W.kia_one PySem.W.kitx_tuple I.kIn ⟨o, h1, h2⟩ e (fun z => nomatch z) h
  | @dK a kvs ea =>
    cases (show u = Value.ref a from rx)
    obtain ⟨_, _, vs, _, p⟩ := (show ObjOk X.prog X.w H s.heap a (.dK kvs) from I.hok a _ ea)
    obtain ⟨o, es, ep, h1, h2, _⟩ := p
    exact PySem.W.kia_one PySem.W.kitx_dict I.kIn ⟨o, h1, h2.1⟩ e (fun z => nomatch z) h
  | @dT a kvs ea =>
    cases (show u = Value.ref a from rx)
    obtain ⟨_, _, xs, _, o, es, ep, h1, h2, _⟩ := (show ObjOk X.prog X.w H s.heap a (.dT kvs) from I.hok a _ ea)
    exact PySem.W.kia_one PySem.W.kitx_dict I.kIn ⟨o, h1, h2.1⟩ e (fun z => nomatch z) h
  | @ins a C dx fs ea cl ha hn htk hm =>
    cases (show u = Value.ref a from rx)
    obtain ⟨mA, O, _⟩ := ins_get I.hok ea
    obtain ⟨od, J, _⟩ := O.look
    exact PySem.W.kia_one (PySem.W.kitx_own (cl.get _) cl.hd ha hn htk hm) I.kIn J e (fun z => nomatch z) h
end
end L2

namespace L2
open PySem PySem.Spec PyProof.Rows

/-! ### room -/
structure Room (k : Nat) (A : Around) : Prop where
  hd : A.handled = none
  dp : A.depth + 3 * k + 5 < recursionLimit
  un : A.units + 16 * k + 200 < cLine
theorem Room.mono {j k : Nat} {A : Around} (r : Room k A) (h : j ≤ k) : Room j A := ⟨r.hd, by have := r.dp; omega, by have := r.un; omega⟩
theorem Room.deeper {k : Nat} {A : Around} (r : Room (k + 1) A) (env : Env) : Room k (A.deeper env) :=
  ⟨r.hd, by have := r.dp; show A.depth + 1 + 3 * k + 5 < _; omega, by have := r.un; show A.units + 3 + 16 * k + 200 < _; omega⟩
theorem Room.depth {k : Nat} {A : Around} (r : Room k A) : A.depth < recursionLimit := by have := r.dp; omega
theorem Room.units {k : Nat} {A : Around} (r : Room k A) : A.units + 64 < cLine := by have := r.un; omega

/-! ### argument lists and displays -/
def tNil : TA := fun _ H Q => Q [] H
def tCons (ta : TE) (tr : TA) : TA := fun σ H Q => ta σ H fun x H1 => tr σ H1 fun xs H2 => Q (x :: xs) H2
section
variable {X : Cx} {e : Expr} {es : List Expr} {te : TE} {t : TA} {pos : Pos}
theorem pa_nil : PA X [] tNil := fun _ _ _ _ H Q I h => Calls.spliced_nil ⟨[], H, I, .nil, h⟩
theorem pa_cons (ha : PE X e te) (hr : PA X es t) (hs : starEach (e :: es) X.env = (false, eval e X.env) :: starEach es X.env := by rfl) : PA X (e :: es) (tCons te t) := by
  intro pos pins s σ H Q I h
  rw [hs]
  show wpAny _ _ (spliced ((false, eval e X.env) :: backTo pos (starEach es X.env))) _ _ s
  refine Calls.spliced_cons (thn (ha pins s σ H _ I h) fun u s1 ⟨x, H1, I1, r1, q1⟩ => ?_)
  exact thn (hr pos pins s1 σ H1 _ I1 q1) fun us s2 ⟨xs, H2, I2, r2, q2⟩ => ⟨x :: xs, H2, I2, .cons r1 r2, q2⟩

/-- a tuple, a list of written items -/
def tTup (t : TA) : TE := fun σ H Q => t σ H fun xs H1 => xs.length ≤ sizeLine ∧ ∀ p, H1 p = none → Q (.ref p) (upd H1 p (.tup xs))
def tLst (t : TA) : TE := fun σ H Q => t σ H fun xs H1 => xs.length ≤ sizeLine ∧ ∀ p, H1 p = none → Q (.ref p) (upd H1 p (.lst xs))
theorem pe_tup {x1} (h : PA X es t) : PE X (.Tuple es x1 pos) (tTup t) := by
  intro pins s σ H Q I hq
  refine wpAny_Tuple_spliced (thn (h pos pins s σ H _ I hq) fun us s1 ⟨xs, H1, I1, r, z, q⟩ => ⟨by rw [← r.length]; exact z, ?_⟩)
  have hf : H1 s1.heap.objs.size = none := I1.hok.fresh (Nat.le_refl _)
  refine ⟨.ref s1.heap.objs.size, upd H1 s1.heap.objs.size (.tup xs), I1.laid (t' := s1.toks) (fun b u e => Heap.get?_push_of_some _ e) (Nat.le_refl _) ?_, rfl, q _ hf⟩
  exact ⟨z, us, r, ⟨_, Heap.get?_push_size _ rfl, rfl, _, rfl⟩⟩
theorem pe_lst (h : PA X es t) : PE X (.List es pos) (tLst t) := by
  intro pins s σ H Q I hq
  refine wpAny_List_spliced (thn (h pos pins s σ H _ I hq) fun us s1 ⟨xs, H1, I1, r, z, q⟩ => ⟨by rw [← r.length]; exact z, ?_⟩)
  have hf : H1 s1.heap.objs.size = none := I1.hok.fresh (Nat.le_refl _)
  refine ⟨.ref s1.heap.objs.size, upd H1 s1.heap.objs.size (.lst xs), I1.laid (t' := s1.toks) (fun b u e => Heap.get?_push_of_some _ e) (Nat.le_refl _) ?_, rfl, q _ hf⟩
  exact ⟨z, us, 0, r, Heap.get?_push_size _ rfl⟩
end

/-! ### what a def promises -/
/-- a def's promise: the bound arguments in the parameters' order, the heap, the wanted end, the wanted exception -/
abbrev Sp := List V → Hp → VK → XK → Prop
/-- how an exception lies behind a call (file 08 gives it): the callers' frames, abstract heap and state ahead of the call, the wish, the exception, the state -/
abbrev CXT := List Env → Hp → Shared → XK → Value → Shared → Prop

/-- the state at a call -/
structure Env0 (P : Program) (w : World) (K : PySem.W.Frag) (mg : Str → Option Value) (base : Heap) (A : Around) (outer : List Env) (s : Shared) (H : Hp) : Prop where
  frames : A.frames = some outer
  mod : Mod K mg base
  bs : ∀ b o, base.get? b = some o → s.heap.get? b = some o ∧ H b = none
  bsz : base.objs.size ≤ s.heap.objs.size
  funs : s.heap.FunFrames base outer
  frf : ∀ b ∈ frs outer, H b = none
  hok : HOk P w H s.heap
  bare : AllBare s.gens
/-- a call's end -/
def CE (outer : List Env) (P : Program) (w : World) (H : Hp) (s : Shared) (Q : VK) (u : Value) (s' : Shared) : Prop :=
  ∃ v H', s'.os = s.os ∧ AllBare s'.gens ∧ Un (frs outer) [] H H' s.heap s'.heap ∧ HOk P w H' s'.heap ∧ RelV v u ∧ Q v H'
def CR (CX : CXT) (outer : List Env) (P : Program) (w : World) (H : Hp) (s : Shared) (Q : VK) (E : XK) (r : Result) (s' : Shared) : Prop :=
  match r with
  | .ok (.ret u) => CE outer P w H s Q u s'
  | .ok _ => False
  | .error e => CX outer H s E e s'
structure FnOk (P : Program) (w : World) (K : PySem.W.Frag) (mg : Str → Option Value) (base : Heap) (CX : CXT) (k : Nat) (f : Addr) (fd : FuncData) (ps : List Str) (sp : Sp) : Prop where
  len : ∀ vs H Q E, sp vs H Q E → vs.length = ps.length
  run : ∀ (A : Around) (outer : List Env) (s : Shared) (H : Hp) (args : Args) (us : List Value) (vs : List V) (Q : VK) (E : XK), Room k A → Env0 P w K mg base A outer s H → BindsTo s fd args (ps.zip us) → Vals vs us → sp vs H Q E →
    codeAny (model P w) A (.call (.ref f) args) (CR CX outer P w H s Q E) s


section
variable {X : Cx} {pins : List (Addr × Obj)} {σ : St} {H : Hp} {s s' : Shared}
/-- from a body: what a callee wants -/
theorem Inv.env0 (I : Inv X pins σ H s) : Env0 X.prog X.w X.K X.mg X.base X.A X.stack s H :=
  ⟨I.ok.frames, I.ok.mod, I.bs, Nat.le_trans I.ok.bsz I.sz, I.stack, I.stkFree, I.hok, I.bare⟩
/-- behind a call -/
theorem Inv.after {Q : VK} {u : Value} (I : Inv X pins σ H s) (h : CE X.stack X.prog X.w H s Q u s') : EP X pins σ Q u s' := by
  obtain ⟨v, H', os, bare, un, hok, r, q⟩ := h
  obtain ⟨hh, g, d, t, os'⟩ := s'
  obtain rfl : os' = s.os := os
  exact ⟨v, H', I.call (h' := hh) (g' := g) (d' := d) (t' := t) (ch := []) un hok bare (fun b z => absurd z (by simp)), r, q⟩
end

/-! ### calls -/
/-- f(..): the written arguments, then the defaults dvs; E: what is wanted of an exception -/
def tCall (sp : Sp) (dvs : List V) (E : XK) (t : TA) : TE := fun σ H Q => t σ H fun vs H1 => sp (vs ++ dvs) H1 Q E
/-- o.m(..) of an instance of the class at C -/
def tMeth (C : Addr) (m : Str) (sp : Sp) (dvs : List V) (E : XK) (ta : TE) (t : TA) : TE := fun σ H Q => ta σ H fun x H1 => ∃ a dx fs, x = .ref a ∧ H1 a = some (.ins C dx fs) ∧ fs.lookup m = none ∧
  t σ H1 fun vs H2 => sp (x :: (vs ++ dvs)) H2 Q E
/-- C(..): a new instance and its dict, then __init__ -/
def tMake (C : Addr) (sp : Sp) (dvs : List V) (E : XK) (t : TA) : TE := fun σ H Q => t σ H fun vs H1 => ∀ x dx, H1 x = none → H1 dx = none → dx ≠ x →
  sp (.ref x :: (vs ++ dvs)) (upd (upd H1 dx (.own x)) x (.ins C dx [])) (fun v H2 => v = .non ∧ Q (.ref x) H2) E

/-- how the parameters are bound: us the positional arguments, kw the keywords' values by name, ds the defaults that fill up -/
def Binds (K : PySem.W.Frag) (fd : FuncData) (ps : List Str) (ds : List Value) : Prop :=
  ∀ (s : Shared) (us : List Value), K.In s.heap → (us ++ ds).length = ps.length → BindsTo s fd ⟨us, []⟩ (ps.zip (us ++ ds))
/-- every parameter is given -/
theorem Binds.all {K : PySem.W.Frag} {fd : FuncData} {ps : List Str} (h : ∀ us : List Value, us.length = ps.length → bindArgs fd ⟨us, []⟩ = pure (ps.zip us)) : Binds K fd ps [] := fun s us _ hl => by
  rw [List.append_nil] at hl ⊢
  exact .of_eq (h us hl)

/-- an exception of a callee reaches what this body wants of exceptions -/
def Passes (CX : CXT) (X : Cx) (E : XK) : Prop := ∀ (pins : List (Addr × Obj)) (σ : St) (H : Hp) (s : Shared) (e : Value) (s' : Shared), Inv X pins σ H s → CX X.stack H s E e s' → X.xe e s'

section
variable {X : Cx} {CX : CXT} {k : Nat} {f C : Addr} {fd : FuncData} {ps : List Str} {sp : Sp} {dvs : List V} {ds : List Value} {E : XK} {x m : Str} {p pos apos : Pos} {e o : Expr} {es : List Expr} {ta : TE} {t : TA}

/-- the callee runs -/
theorem run_fn {pins : List (Addr × Obj)} {σ : St} {H : Hp} {s : Shared} {Q : VK} {us : List Value} {vs : List V} (F : FnOk X.prog X.w X.K X.mg X.base CX k f fd ps sp) (hr : Room k X.A) (hb : Binds X.K fd ps ds) (hd : Vals dvs ds) (hx : Passes CX X E)
    (I : Inv X pins σ H s) (r : Vals vs us) (h : sp (vs ++ dvs) H Q E) : wpAny (model X.prog X.w) X.A (call (.ref f) us) (EP X pins σ Q) X.xe s := by
  have r2 : Vals (vs ++ dvs) (us ++ ds) := r.append hd
  have hl : (us ++ ds).length = ps.length := by rw [← r2.length]; exact F.len _ _ _ _ h
  refine wpAny_call (codeAny_mono (F.run X.A X.stack s H ⟨us, []⟩ (us ++ ds) (vs ++ dvs) Q E hr I.env0 (hb s us I.kIn hl) r2 h) fun r s' hq => ?_)
  cases r with
  | error e => exact hx pins σ H s e s' I hq
  | ok fl =>
    cases fl with
    | ret u => exact I.after hq
    | next => exact False.elim hq
    | brk => exact False.elim hq
    | cont => exact False.elim hq

theorem pe_call (F : FnOk X.prog X.w X.K X.mg X.base CX k f fd ps sp) (hr : Room k X.A) (hg : Gl X x) (hm : X.mg x = some (.ref f)) (hk : PySem.W.keepIn X.K (.ref f) = true) (hb : Binds X.K fd ps ds) (hd : Vals dvs ds) (hx : Passes CX X E)
    (ha : PA X (e :: es) t) (hdb : (x == ("__debug__" : Str)) = false := by decide) (he : starEach (e :: es) X.env = (false, eval e X.env) :: starEach es X.env := by rfl) (hpl : (backTo pos (starEach es X.env)).any (·.1) = false := by rfl) :
    PE X (.Call (.Name x p) (e :: es) [] pos) (tCall sp dvs E t) := by
  intro pins s σ H Q I h
  refine wpAny_Call_Name_kw (ld_glob I hg hm ?_ hdb)
  refine PySem.W.callWith_K (h₀ := X.base) I.ok.mod.kin hk (thn (ha pos pins s σ H _ I h) fun us s1 ⟨vs, H1, I1, r, q⟩ => ⟨I1.kIn, ?_⟩) he hpl
  exact run_fn F hr hb hd hx I1 r q


/-- what a class must have to be made -/
structure Mk (K : PySem.W.Frag) (C f : Addr) : Prop where
  makes : PySem.W.makesIn K C = true
  init : PySem.W.findIn K (.ref C) "__init__" = some (some (.ref f))
  fn : PySem.W.isFn K (.ref f) = true
  kp : PySem.W.keepIn K (.ref C) = true

end

/-! ### keywords -/
/-- the values of the keywords, from the left -/
def PK (X : Cx) (kws : List Keyword) (t : TA) : Prop :=
  ∀ (pos : Pos) (pins : List (Addr × Obj)) (s : Shared) (σ : St) (H : Hp) (Q : List V → Hp → Prop), Inv X pins σ H s → t σ H Q → wpAny (model X.prog X.w) X.A (evalAll ((backToKw pos (keywordEach kws X.env)).map (·.2))) (AP X pins σ Q) X.xe s
section
variable {X : Cx} {CX : CXT} {k : Nat} {f C : Addr} {fd : FuncData} {ps ks : List Str} {sp : Sp} {E : XK} {x m : Str} {p pos apos kpos : Pos} {e o : Expr} {es : List Expr} {kws : List Keyword} {te ta : TE} {t tk : TA} {nm : Option Str}

/-- how a call with keywords binds: g puts the positional values us and the keywords' values ws (names ks) in the parameters' order, defaults among them -/
structure KBinds (K : PySem.W.Frag) (fd : FuncData) (ps ks : List Str) (g : List Value → List Value → List Value) (gV : List V → List V → List V) : Prop where
  to : ∀ (s : Shared) (us ws : List Value), K.In s.heap → (g us ws).length = ps.length → BindsTo s fd ⟨us, ks.zip ws⟩ (ps.zip (g us ws))
  rel : ∀ {vs : List V} {us : List Value} {zs : List V} {ws : List Value}, Vals vs us → Vals zs ws → Vals (gV vs zs) (g us ws)
def tCallK (sp : Sp) (gV : List V → List V → List V) (E : XK) (t tk : TA) : TE := fun σ H Q => t σ H fun vs H1 => tk σ H1 fun zs H2 => sp (gV vs zs) H2 Q E
variable {g : List Value → List Value → List Value} {gV : List V → List V → List V}
end

/-! ### a def's body keeps its promise -/
/-- names: the parameters first -/
structure FnScope (N P : List Str) (sc : Scope) : Prop where
  kind : sc.kind = .function
  co : sc.isCoroutine = false
  gen : sc.isGenerator = false
  nd : N.Nodup
  pre : N.take P.length = P
  par : ∀ x ∈ P, sc.names.lookup x = some .local ∨ sc.names.lookup x = some .cell
  nofree : ∀ y ∈ sc.names, y.2 ≠ .free

theorem bindL_out {kindOf : Str → Option NameKind} {x : Str} : ∀ {binds : List (Str × Value)} {m : Str → Option Value}, (∀ v, (x, v) ∉ binds) → bindL kindOf binds m x = m x
  | [], _, _ => rfl
  | (n, v) :: r, m, h => by
    unfold bindL
    rw [bindL_out fun w hw => h w (List.mem_cons_of_mem _ hw)]
    split
    · have : x ≠ n := by rintro rfl; exact h v List.mem_cons_self
      simp [this]
    · rfl
theorem bindC_out {kindOf : Str → Option NameKind} {x : Str} : ∀ {binds : List (Str × Value)} {m : Str → Option Value}, (∀ v, (x, v) ∉ binds) → bindC kindOf binds m x = m x
  | [], _, _ => rfl
  | (n, v) :: r, m, h => by
    unfold bindC
    rw [bindC_out fun w hw => h w (List.mem_cons_of_mem _ hw)]
    split
    · rfl
    · have : x ≠ n := by rintro rfl; exact h v List.mem_cons_self
      simp [this]
theorem bindL_get {kindOf : Str → Option NameKind} {x : Str} {v : Value} : ∀ {P : List Str} {vs : List Value} {i : Nat} {m : Str → Option Value}, P.Nodup → P[i]? = some x → vs[i]? = some v → kindOf x = some .local →
    bindL kindOf (P.zip vs) m x = some v
  | [], _, _, _, _, h, _, _ => by simp at h
  | _ :: _, [], _, _, _, _, h, _ => by simp at h
  | p :: P, w :: vs, 0, m, nd, h1, h2, hk => by
    simp at h1 h2; subst h1; subst h2
    show bindL kindOf ((p, w) :: P.zip vs) m p = _
    unfold bindL
    rw [bindL_out fun v hv => (List.nodup_cons.mp nd).1 (List.of_mem_zip hv).1, if_pos hk]
    simp
  | p :: P, w :: vs, i + 1, m, nd, h1, h2, hk => by
    show bindL kindOf ((p, w) :: P.zip vs) m x = _
    unfold bindL
    exact bindL_get (i := i) (List.nodup_cons.mp nd).2 (by simpa using h1) (by simpa using h2) hk
theorem bindC_get {kindOf : Str → Option NameKind} {x : Str} {v : Value} : ∀ {P : List Str} {vs : List Value} {i : Nat} {m : Str → Option Value}, P.Nodup → P[i]? = some x → vs[i]? = some v → kindOf x ≠ some .local →
    bindC kindOf (P.zip vs) m x = some v
  | [], _, _, _, _, h, _, _ => by simp at h
  | _ :: _, [], _, _, _, _, h, _ => by simp at h
  | p :: P, w :: vs, 0, m, nd, h1, h2, hk => by
    simp at h1 h2; subst h1; subst h2
    show bindC kindOf ((p, w) :: P.zip vs) m p = _
    unfold bindC
    rw [bindC_out fun v hv => (List.nodup_cons.mp nd).1 (List.of_mem_zip hv).1, if_neg hk]
    simp
  | p :: P, w :: vs, i + 1, m, nd, h1, h2, hk => by
    show bindC kindOf ((p, w) :: P.zip vs) m x = _
    unfold bindC
    exact bindC_get (i := i) (List.nodup_cons.mp nd).2 (by simpa using h1) (by simpa using h2) hk

/-- the names' values at the entry -/
def start (N : List Str) (vs : List V) : St := vs.map some ++ List.replicate (N.length - vs.length) none

/-- the context of a def's body, at its entry; an exception leaves the frame, then lies as CX says -/
def cxOf (CX : CXT) (P : Program) (w : World) (K : PySem.W.Frag) (mg : Str → Option Value) (base : Heap) (N : List Str) (qual : Str) (scope : Scope) (f : Addr) (cd : Value) (A : Around) (outer : List Env) (s : Shared) (H : Hp) (E : XK) : Cx where
  prog := P
  w := w
  K := K
  mg := mg
  base := base
  A := A.deeper (envOfC qual scope s.heap.objs.size f cd)
  N := N
  s₀ := s
  H₀ := H
  env := envOfC qual scope s.heap.objs.size f cd
  outer := outer
  stack := envOfC qual scope s.heap.objs.size f cd :: outer
  ex := []
  calm := true
  fn := fun _ => true
  pn := []
  xe := fun e s' => wpAny (model P w) (A.deeper (envOfC qual scope s.heap.objs.size f cd)) (leaving (envOfC qual scope s.heap.objs.size f cd) e) (fun _ s'' => CX outer H s E e s'') (fun e' s'' => CX outer H s E e' s'') s'

theorem cell_has {sc : Scope} {n : Nat} {x : Str} (h : sc.names.lookup x = some .cell) : ∃ c, (cellsFrom n sc.names []).lookup x = some c := by
  have q := PySem.W.cellsFrom_some sc.names n [] (.inl h)
  exact Option.isSome_iff_exists.mp q

theorem inv_start {CX : CXT} {P : Program} {w : World} {K : PySem.W.Frag} {mg : Str → Option Value} {base : Heap} {N ps : List Str} {qual : Str} {scope : Scope} {f : Addr} {cd : Value} {A : Around} {outer : List Env} {s s1 : Shared} {H : Hp} {E : XK} {us : List Value} {vs : List V}
    (S : FnScope N ps scope) (hd : A.handled = none) (e0 : Env0 P w K mg base A outer s H) (hl : vs.length = ps.length) (r : Vals vs us)
    (x : InCallC s s.heap.objs.size (bindL (envOfC qual scope s.heap.objs.size f cd).kindOf (ps.zip us) fun _ => none) (cellsFrom (s.heap.objs.size + 1) scope.names []) (bindC (envOfC qual scope s.heap.objs.size f cd).kindOf (ps.zip us) fun _ => none) s1) :
    Inv (cxOf CX P w K mg base N qual scope f cd A outer s H E) [] (start N vs) H s1 := by
  have hpl : ps.length ≤ N.length := by have := congrArg List.length S.pre; rw [List.length_take] at this; omega
  obtain ⟨h1, tk, rfl, hk⟩ := x.done
  have noA : ∀ b : Addr, b ∉ (cxOf CX P w K mg base N qual scope f cd A outer s H E).ex := fun b z => absurd (show b ∈ ([] : List Addr) from z) (by simp)
  refine ⟨⟨e0.mod, S.kind, rfl, rfl, Nat.le_refl _, fun y z c h1 h2 => ?_, fun y hy => ?_, fun y c _ h => ?_, fun _ => hd, Around.frames_deeper e0.frames, .inr ⟨rfl, rfl⟩, fun b z => absurd z (noA b), e0.bs, e0.bsz, fun b _ _ => noA b, fun b z => absurd z (noA b), e0.funs, e0.frf⟩,
    rfl, e0.bare, Un.kept hk, ⟨_, x.toInCall.ns, fun i y v h1 h2 h3 => ?_⟩, fun y c h => ⟨_, x.cell y c h⟩, e0.hok.fresh (Nat.le_refl _), fun y c h => ?_, fun p hp => absurd (show p ∈ ([] : List (Addr × Obj)) from hp) (by simp), e0.hok.kept hk, ?_⟩
  · exact name_of_addr x.apart (PySem.mem_of_lookup h1) (PySem.mem_of_lookup h2)
  · have hy : scope.names.lookup y = some .cell ∨ scope.names.lookup y = some .free := hy
    rcases hy with hy | hy
    · exact cell_has hy
    · exact absurd rfl (S.nofree _ (PySem.mem_of_lookup hy))
  · exact Nat.le_of_lt (x.above y c (PySem.mem_of_lookup h))
  · have hi : i < vs.length := by
      unfold start at h2
      by_cases hi : i < vs.length
      · exact hi
      · rw [List.getElem?_append_right (by simpa using hi)] at h2
        rw [List.getElem?_replicate] at h2
        split at h2 <;> cases h2
    have ha : vs[i]? = some v := by
      unfold start at h2
      rw [List.getElem?_append_left (by simpa using hi), List.getElem?_map] at h2
      cases e : vs[i]? with
      | none => rw [e] at h2; cases h2
      | some a => rw [e] at h2; cases h2; rfl
    obtain ⟨u, hu, rv⟩ := r.get ha
    have hp : ps[i]? = some y := by
      rw [← S.pre, List.getElem?_take_of_lt (by omega)]; exact h1
    have ndP : ps.Nodup := by rw [← S.pre]; exact S.nd.sublist (List.take_sublist _ _)
    refine ⟨u, rv, ?_⟩
    rcases S.par y (List.mem_of_getElem? hp) with k | k
    · exact .inl ⟨k, bindL_get ndP hp hu k⟩
    · obtain ⟨c, e⟩ := cell_has (n := s.heap.objs.size + 1) k
      refine .inr ⟨.inl k, c, e, ?_⟩
      have q := x.cell y c e
      rw [bindC_get ndP hp hu (by show scope.names.lookup y ≠ _; rw [k]; decide)] at q
      exact q
  · exact e0.hok.fresh (Nat.le_of_lt (x.above y c (PySem.mem_of_lookup h)))
  · unfold start
    show _ = N.length
    rw [List.length_append, List.length_map, List.length_replicate]
    omega

/-- THE RULE: a def (or a method) of the text, by its body. The body's reading t is chosen for each entry; it is run at the parameters' values -/
theorem fn_of {CX : CXT} {P : Program} {w : World} {K : PySem.W.Frag} {mg : Str → Option Value} {base : Heap} {k : Nat} {f : Addr} {name qual : Str} {params : Arguments} {body : List Stmt} {scope : Scope} {dV kV doc pm cdv ct oc : Value} {an od : Option Addr}
    {osl : Array (Option Value)} {N ps : List Str} {sp : Sp} (lk : K.lookup f = some ⟨oc, od, .func (PySem.W.fnOf name qual params body scope dV kV doc pm an cdv ct), osl⟩) (hcd : PySem.W.codeIn K cdv qual = true) (S : FnScope N ps scope)
    (len : ∀ vs H Q E, sp vs H Q E → vs.length = ps.length)
    (hbody : ∀ (A : Around) (outer : List Env) (s : Shared) (H : Hp) (vs : List V) (Q : VK) (E : XK), Room k (A.deeper (envOfC qual scope s.heap.objs.size f cdv)) → sp vs H Q E →
      ∃ t, PSs (cxOf CX P w K mg base N qual scope f cdv A outer s H E) body t ∧ t { nx := fun _ H' => Q .non H', rt := Q } (start N vs) H) :
    FnOk P w K mg base CX (k + 1) f (PySem.W.fnOf name qual params body scope dV kV doc pm an cdv ct) ps sp := by
  refine ⟨len, fun A outer s H args us vs Q E hr e0 hb r hsp => ?_⟩
  have hl := len _ _ _ _ hsp
  have KX : K.In s.heap := e0.mod.kin.keeps fun b o e => (e0.bs b o e).1
  have lim : s.heap.NoLimit := e0.mod.nolimit.keeps fun b o e => (e0.bs b o e).1
  have hkind : ∀ y ∈ ps.zip us, scope.names.lookup y.1 = some .local ∨ (scope.names.lookup y.1 = some .cell ∧ ((cellsFrom (s.heap.objs.size + 1) scope.names []).lookup y.1).isSome = true) := fun ⟨n, v⟩ hy => by
    rcases S.par n (List.of_mem_zip hy).1 with q | q
    · exact .inl q
    · exact .inr ⟨q, PySem.W.cellsFrom_some _ _ _ (.inl q)⟩
  refine codeAny_call_function hr.depth (KX _ _ lk) rfl S.co S.gen rfl (PySem.W.codeRec_of KX hcd) (hb _ _ _ _ ?_)
  refine wpAny_newFunctionEnv_cells S.kind hkind fun env he s1 x => ?_
  subst he
  refine ⟨lim.keeps x.toInCall.keep, codeAny_func ?_⟩
  obtain ⟨t, ht, hq⟩ := hbody A outer s H vs Q E (hr.deeper _) hsp
  have I : Inv (cxOf CX P w K mg base N qual scope f cdv A outer s H E) [] (start N vs) H s1 := inv_start S hr.hd e0 hl r x
  refine wpAny_mono (ht [] s1 (start N vs) H _ I hq) (fun fl s' hs => ?_) fun e s' hs => hs
  have fin : ∀ {σ' : St} {H' : Hp} {v : V} {u : Value}, Inv (cxOf CX P w K mg base N qual scope f cdv A outer s H E) [] σ' H' s' → RelV v u → Q v H' → CE outer P w H s Q u s' :=
    fun {σ' H' v u} J rv q => ⟨v, H', J.os, J.bare, J.base, J.hok, rv, q⟩
  cases fl with
  | ret u =>
    obtain ⟨v, σ', H', J, rv, q⟩ := hs
    exact fin J rv q
  | next =>
    obtain ⟨σ', H', J, q⟩ := hs
    exact fin (v := V.non) (u := Value.none) J rfl q
  | brk =>
    obtain ⟨_, _, _, q⟩ := hs
    exact False.elim q
  | cont =>
    obtain ⟨_, _, _, q⟩ := hs
    exact False.elim q
end L2

namespace L2
open PySem PySem.Spec PyProof.Rows
section
variable {X : Cx} {x : Str} {p pos : Pos} {e : Expr} {es : List Expr} {t : TA} {id T : String} {r : List V → Hp → VK → Prop}

def tCB (r : List V → Hp → VK → Prop) (t : TA) : TE := fun σ H Q => t σ H fun vs H1 => r vs H1 Q
/-- f(e, ..), f a built-in function -/
theorem pe_callB (hc : CallR X (.builtin id) r) (hg : Gl X x) (hm : X.mg x = none) (hv : bootBuiltins x = some (.builtin id)) (ha : PA X (e :: es) t) (hn : x ≠ "__name__" := by decide) (hdb : (x == ("__debug__" : Str)) = false := by decide)
    (he : starEach (e :: es) X.env = (false, eval e X.env) :: starEach es X.env := by rfl) (hpl : (backTo pos (starEach es X.env)).any (·.1) = false := by rfl) : PE X (.Call (.Name x p) (e :: es) [] pos) (tCB r t) := by
  intro pins s σ H Q I h
  refine wpAny_Call_Name_kw (ld_blt I hg hm hv ?_ hn hdb)
  exact PyProof.Rows.callWith_builtin1 (thn (ha pos pins s σ H _ I h) fun us s1 ⟨vs, H1, I1, r1, q1⟩ => hc pins s1 σ H1 vs us Q I1 r1 q1) he hpl
end
end L2

namespace L2
open PySem PySem.Spec PyProof.Rows

/-! ### lists of pairs as tables -/
section
variable {κ : Type} [DecidableEq κ]
def valV (kvs : List (κ × V)) (k : κ) : Option V := (kvs.find? fun kv => decide (kv.1 = k)).map (·.2)
/-- in its place, or at the end -/
def putK (kvs : List (κ × V)) (k : κ) (v : V) : List (κ × V) :=
  if (kvs.any fun kv => decide (kv.1 = k)) = true then kvs.map (fun kv => if kv.1 = k then (kv.1, v) else kv) else kvs ++ [(k, v)]
def dropK (kvs : List (κ × V)) (k : κ) : List (κ × V) := kvs.filter fun kv => decide (kv.1 ≠ k)

theorem valV_nil {k : κ} : valV ([] : List (κ × V)) k = none := rfl
theorem valV_pos {p : κ × V} {r : List (κ × V)} {k : κ} (e : p.1 = k) : valV (p :: r) k = some p.2 := by simp [valV, List.find?_cons, e]
theorem valV_neg {p : κ × V} {r : List (κ × V)} {k : κ} (e : ¬ p.1 = k) : valV (p :: r) k = valV r k := by simp [valV, List.find?_cons, e]
theorem valV_any (k : κ) : ∀ kvs : List (κ × V), (kvs.any fun kv => decide (kv.1 = k)) = (valV kvs k).isSome
  | [] => rfl
  | p :: r => by
    rw [List.any_cons]
    by_cases e : p.1 = k
    · simp only [valV_pos e, decide_eq_true e, Bool.true_or, Option.isSome_some]
    · rw [valV_neg e, decide_eq_false e, Bool.false_or]; exact valV_any k r
theorem length_putK (kvs : List (κ × V)) (k : κ) (v : V) : (putK kvs k v).length ≤ kvs.length + 1 := by
  unfold putK
  split
  · rw [List.length_map]; omega
  · rw [List.length_append, List.length_cons, List.length_nil]; omega
theorem putK_new {kvs : List (κ × V)} {k : κ} (v : V) (h : valV kvs k = none) : putK kvs k v = kvs ++ [(k, v)] := by
  unfold putK
  rw [valV_any, h]
  exact if_neg (by decide)


/-- raw tables of the same keys -/
theorem KV.val {kvs : List (κ × V)} {vs : List (κ × Value)} (r : KV kvs vs) (k : κ) : RelO (valV kvs k) (valueAt vs k) := by
  unfold KV at r
  induction r with
  | nil => exact True.intro
  | @cons p q ps qs h t ih =>
    obtain ⟨h1, h2⟩ := h
    by_cases e : p.1 = k
    · have e' : q.1 = k := h1.symm.trans e
      have b : valueAt (q :: qs) k = some q.2 := by simp [valueAt, List.find?_cons, e']
      rw [valV_pos e, b]; exact h2
    · have e' : ¬ q.1 = k := fun z => e (h1.trans z)
      have b : valueAt (q :: qs) k = valueAt qs k := by simp [valueAt, List.find?_cons, e']
      rw [valV_neg e, b]; exact ih
theorem KV.any {kvs : List (κ × V)} {vs : List (κ × Value)} (r : KV kvs vs) (k : κ) : (kvs.any fun kv => decide (kv.1 = k)) = vs.any fun kv => decide (kv.1 = k) := by
  unfold KV at r
  induction r with
  | nil => rfl
  | cons h t ih => rw [List.any_cons, List.any_cons, ih, h.1]
theorem KV.repl {kvs : List (κ × V)} {vs : List (κ × Value)} (r : KV kvs vs) (k : κ) {y : V} {u : Value} (ry : RelV y u) :
    KV (kvs.map fun kv => if kv.1 = k then (kv.1, y) else kv) (vs.map fun kv => if kv.1 = k then (kv.1, u) else kv) := by
  unfold KV at r ⊢
  induction r with
  | nil => exact .nil
  | @cons p q ps qs h t ih =>
    rw [List.map_cons, List.map_cons]
    refine .cons ?_ ih
    obtain ⟨h1, h2⟩ := h
    by_cases e : p.1 = k
    · rw [if_pos e, if_pos (h1.symm.trans e)]; exact ⟨h1, ry⟩
    · rw [if_neg e, if_neg (fun z => e (h1.trans z))]; exact ⟨h1, h2⟩
theorem KV.put {kvs : List (κ × V)} {vs : List (κ × Value)} (r : KV kvs vs) (k : κ) {y : V} {u : Value} (ry : RelV y u) : KV (putK kvs k y) (stored vs k u) := by
  unfold putK stored
  rw [r.any k]
  by_cases e : (vs.any fun kv => decide (kv.1 = k)) = true
  · rw [if_pos e, if_pos e]; exact r.repl k ry
  · rw [if_neg e, if_neg e]; exact Paired.snoc r ⟨rfl, ry⟩
end


/-! ### a tracked dict, its keys ints and texts or tuples of these -/
theorem kV_is {P : Program} {w : World} {k : Key} {u : Value} (r : RelV (kV k) u) : (mixKind P w).is k u = true := by
  cases k with
  | inl i => obtain ⟨t, e⟩ := (show ∃ t, u = Value.int i t from r); subst e; exact mixKind_int P w i t
  | inr x => obtain ⟨t, e⟩ := (show ∃ t, u = Value.str x t from r); subst e; exact mixKind_str P w x t
theorem items_are {P : Program} {w : World} : ∀ {ks : List Key} {us : List Value}, Vals (ks.map kV) us → ItemsAre (mixKind P w) ks us
  | [], _, r => by rw [List.map_nil] at r; cases r; exact .nil
  | k :: ks, _, r => by
    rw [List.map_cons] at r
    cases r with
    | cons h t => exact .cons (kV_is h) (items_are t)

/-- raw entries of a dict with tuple keys -/
abbrev KT (H : Hp) : List (List Key × V) → List (List Key × Addr × Value) → Prop := Paired fun p q => p.1 = q.1 ∧ H q.2.1 = some (.tup (p.1.map kV)) ∧ RelV p.2 q.2.2
theorem KT.val {H : Hp} {kvs : List (List Key × V)} {xs : List (List Key × Addr × Value)} (r : KT H kvs xs) (k : List Key) : RelO (valV kvs k) ((atKey xs k).map (·.2)) := by
  induction r with
  | nil => exact True.intro
  | @cons p q ps qs h t ih =>
    obtain ⟨h1, _, h2⟩ := h
    by_cases e : p.1 = k
    · have e' : q.1 = k := h1.symm.trans e
      have b : atKey (q :: qs) k = some q.2 := by simp [atKey, List.find?_cons, e']
      rw [valV_pos e, b]; exact h2
    · have e' : ¬ q.1 = k := fun z => e (h1.trans z)
      have b : atKey (q :: qs) k = atKey qs k := by simp [atKey, List.find?_cons, e']
      rw [valV_neg e, b]; exact ih

section
variable {P : Program} {w : World} {H : Hp} {h : Heap} {a : Addr}
theorem rd_of {u : HO} (ok : HOk P w H h) (e : Rd H a u) : ObjOk P w H h a u := e.ok ok
theorem dk_rd {kvs : List (Key × V)} (ok : HOk P w H h) (e : Rd H a (.dK kvs)) : kvs.length ≤ sizeLine ∧ (a == sysModules) = false ∧ ∃ vs, KV kvs vs ∧ h.DictOf (mixKind P w) a vs :=
  show ObjOk P w H h a (.dK kvs) from rd_of ok e
theorem dk_of {kvs : List (Key × V)} (ok : HOk P w H h) (e : H a = some (.dK kvs)) : kvs.length ≤ sizeLine ∧ (a == sysModules) = false ∧ ∃ vs, KV kvs vs ∧ h.DictOf (mixKind P w) a vs := dk_rd ok (.inl e)
/-- a tracked tuple of ints and texts is a key -/
theorem key_of {ks : List Key} (ok : HOk P w H h) (e : H a = some (.tup (ks.map kV))) : (tupleKind (mixKind P w)).is h ks a := by
  obtain ⟨_, its, r, o, h1, h2, n, h3⟩ := (show ObjOk P w H h a (.tup (ks.map kV)) from ok a _ e)
  exact ⟨o, its.toArray, n, h1, h2, h3, by simpa using items_are r⟩
theorem dt_rd {kvs : List (List Key × V)} (ok : HOk P w H h) (e : Rd H a (.dT kvs)) : kvs.length ≤ sizeLine ∧ (a == sysModules) = false ∧
    ∃ xs, KT H kvs xs ∧ h.DictOfH (tupleKind (mixKind P w)) a xs := by
  obtain ⟨z, y, xs, r, o, es, ep, h1, h2, h3, h4, h5⟩ := (show ObjOk P w H h a (.dT kvs) from rd_of ok e)
  refine ⟨z, y, xs, r, o, es, ep, h1, h2, h3, h4, fun x hx => ?_, h5⟩
  have all : ∀ {l : List (List Key × V)} {m : List (List Key × Addr × Value)}, KT H l m → ∀ x ∈ m, (tupleKind (mixKind P w)).is h x.1 x.2.1 := by
    intro l m q
    induction q with
    | nil => intro x hx; exact nomatch hx
    | @cons p q ps qs hq t ih =>
      intro x hx
      rcases List.mem_cons.mp hx with e | hx
      · subst e
        exact key_of ok (by rw [← hq.1]; exact hq.2.1)
      · exact ih x hx
  exact all r x hx
end

/-- what the dict at a holds at the key y -/
def DGet (H : Hp) (a : Addr) (y : V) (r : Option V) : Prop :=
  (∃ kvs k, Rd H a (.dK kvs) ∧ y = kV k ∧ r = valV kvs k) ∨ ∃ kvs k b, Rd H a (.dT kvs) ∧ y = .ref b ∧ H b = some (.tup (k.map kV)) ∧ r = valV kvs k
/-- the heap behind a[y] = v -/
def DPut (H : Hp) (a : Addr) (y v : V) (H' : Hp) : Prop :=
  (∃ kvs k, H a = some (.dK kvs) ∧ y = kV k ∧ kvs.length < sizeLine ∧ H' = upd H a (.dK (putK kvs k v))) ∨
  ∃ kvs k b, H a = some (.dT kvs) ∧ y = .ref b ∧ H b = some (.tup (k.map kV)) ∧ kvs.length < sizeLine ∧ H' = upd H a (.dT (putK kvs k v))
theorem DGet.k {H : Hp} {a : Addr} {kvs : List (Key × V)} {k : Key} (e : H a = some (.dK kvs)) : DGet H a (kV k) (valV kvs k) := .inl ⟨kvs, k, .inl e, rfl, rfl⟩


section
variable {X : Cx} {pins : List (Addr × Obj)} {σ : St} {H : Hp} {s : Shared} {a : Addr} {y v : V} {u r : Value} {o : Option V} {A : Around} {E : Value → Shared → Prop}

theorem Inv.big (I : Inv X pins σ H s) : sysModules < s.heap.objs.size := by
  have h : mainGlobals < s.heap.objs.size := (I.mod.glob.keeps I.bk).lt
  exact Nat.lt_trans (by decide) h

/-- d[y], there -/
theorem d_getItem {Q : Value → Shared → Prop} (hu : A.units + 1 < cLine) (I : Inv X pins σ H s) (g : DGet H a y (some v)) (ry : RelV y u) (h : ∀ w' s', Inv X pins σ H s' → RelV v w' → Q w' s') :
    wpAny (model X.prog X.w) A (getItem (.ref a) u) Q E s := by
  rcases g with ⟨kvs, k, e, ey, l⟩ | ⟨kvs, k, b, e, ey, eb, l⟩
  · subst ey
    obtain ⟨z, hd, vs, rel, dd⟩ := dk_rd I.hok e
    obtain ⟨w', hw, rw'⟩ := RelO.some_of (v := v) (o := valueAt vs k) (by rw [l]; exact rel.val k)
    exact wpAny_getItem_of (kV_is ry) dd.mapOf hw (h w' _ (I.tok _) rw')
  · subst ey
    cases (show u = Value.ref b from ry)
    obtain ⟨z, hd, xs, rel, dd⟩ := dt_rd I.hok e
    obtain ⟨w', hw, rw'⟩ := RelO.some_of (v := v) (o := (atKey xs k).map (·.2)) (by rw [l]; exact rel.val k)
    obtain ⟨p, hp, hp2⟩ := Option.map_eq_some_iff.mp hw
    refine wpAny_getItem_heap (tupleKind_room_in1 hu) (key_of I.hok eb) dd hp ?_
    rw [hp2]
    exact h w' _ (I.tok _) rw'
/-- a dict's object is replaced -/
theorem d_write {h' : Heap} {t' : Nat} {ob : HO} (I : Inv X pins σ H s) (mu : Mut (H a)) (hs : Heap.SameBut a s.heap h') (he : ∃ q, h'.get? a = some q) (new : ObjOk X.prog X.w (upd H a ob) h' a ob) :
    Inv X pins σ (upd H a ob) { s with heap := h', toks := t' } :=
  I.write (x := a) (e := a) mu (.inl rfl) (fun b q hb z => (hs.2 b hb).trans z) he new
theorem dk_new {P : Program} {w : World} {H' : Hp} {h' : Heap} {kvs : List (Key × V)} {vs : List (Key × Value)} (z : kvs.length ≤ sizeLine) (hd : (a == sysModules) = false) (rel : KV kvs vs) (dd : h'.DictOf (mixKind P w) a vs) :
    ObjOk P w H' h' a (.dK kvs) := ⟨z, hd, vs, rel, dd⟩
end

section
variable {X : Cx} {pins : List (Addr × Obj)} {σ : St} {H : Hp} {s : Shared} {a : Addr} {kvs : List (Key × V)} {k : Key} {u : Value} {A : Around} {E : Value → Shared → Prop}
end


/-! ### readings and rules -/
/-- the element of a subscription, not a slice -/
def NoSl (i : Expr) : Prop := ∀ ov iv, subscripted i false ov iv = operate [ov, iv] (getItem ov iv)
theorem subD_of {prog : Program} {w : World} {A : Around} {E : Value → Shared → Prop} {s : Shared} {env : Env} {value slice : Expr} {pos : Pos} {T id : String} {Q : Value → Shared → Prop}
    (hl : typeLookup (.type T) "__getitem__" = pure (some (.builtin id))) (hs : NoSl slice)
    (h : wpAny (model prog w) A (eval value env) (fun o s₁ => wpAny (model prog w) A (eval slice env) (fun i s₂ => s₂.TypeIs o T ∧ wpAny (model prog w) A (getItem o i) Q E s₂) E s₁) E s) :
    wpAny (model prog w) A (eval (.Subscript value slice pos) env) Q E s := by
  refine Subscript_ (wpAny_mono h (fun o s₁ h₁ => wpAny_mono h₁ (fun i s₂ h₂ => ?_) fun _ _ x => x) fun _ _ x => x)
  obtain ⟨hT, h₂⟩ := h₂
  unfold subscriptTail
  refine wpAny_bind ?_
  rw [getitemInPython_of_ne hT.not_modules]
  refine wpAny_bind (wpAny_specialOf hT hl ?_)
  have fin : wpAny (model prog w) A (subscripted slice false o i) (fun r s₃ => wpAny (model prog w) A (letTemporaryGo value o r >>= fun _ => pure r) Q E s₃) E s₂ := by
    rw [hs o i]
    exact wpAny_operating (wpAny_mono h₂ (fun r s₃ h₃ => wpAny_bind (wpAny_letTemporaryGo (wpAny_pure h₃))) fun _ _ x => x)
  first
    | exact wpAny_pure (wpAny_bind fin)
    | exact wpAny_bind (wpAny_pure (wpAny_bind fin))
    | exact wpAny_bind fin

theorem dict_typeIs {X : Cx} {pins : List (Addr × Obj)} {σ : St} {H : Hp} {s : Shared} {a : Addr} {y : V} {o : Option V} (I : Inv X pins σ H s) (g : DGet H a y o) : s.TypeIs (.ref a) "dict" := by
  rcases g with ⟨kvs, k, e, _, _⟩ | ⟨kvs, k, b, e, _, _, _⟩
  · obtain ⟨_, _, vs, _, dd⟩ := dk_rd I.hok e
    exact dd.typeIs
  · obtain ⟨_, _, xs, _, dd⟩ := dt_rd I.hok e
    exact dd.typeIs

/-- d[y] -/
def tDGet (td ty : TE) : TE := fun σ H Q => td σ H fun x H1 => ty σ H1 fun y H2 => ∃ a v, x = .ref a ∧ DGet H2 a y (some v) ∧ Q v H2
/-- y in d, y not in d -/
def tDIn (ty td : TE) : TE := fun σ H Q => ty σ H fun y H1 => td σ H1 fun x H2 => ∃ a o, x = .ref a ∧ DGet H2 a y o ∧ Q (.bl o.isSome) H2
def tDNotIn (ty td : TE) : TE := fun σ H Q => ty σ H fun y H1 => td σ H1 fun x H2 => ∃ a o, x = .ref a ∧ DGet H2 a y o ∧ Q (.bl (!o.isSome)) H2
/-- d[y] = v -/
def sDPut (td ty tv : TE) : TS := fun D σ H => tv σ H fun v H1 => td σ H1 fun x H2 => ty σ H2 fun y H3 => ∃ a H4, x = .ref a ∧ DPut H3 a y v H4 ∧ D.nx σ H4
/-- d[y] op= v -/
def sDAug (td ty tv : TE) (rd : V → V → Hp → VK → Prop) : TS := fun D σ H => td σ H fun x H1 => ty σ H1 fun y H2 => ∃ a v, x = .ref a ∧ DGet H2 a y (some v) ∧
  tv σ H2 fun y2 H3 => rd v y2 H3 fun z H4 => ∃ H5, DPut H4 a y z H5 ∧ D.nx σ H5
/-- del d[y] -/
def sDDel (td ty : TE) : TS := fun D σ H => td σ H fun x H1 => ty σ H1 fun y H2 => ∃ a kvs k, x = .ref a ∧ H2 a = some (.dK kvs) ∧ y = kV k ∧ (valV kvs k).isSome = true ∧ D.nx σ (upd H2 a (.dK (dropK kvs k)))

section
variable {X : Cx} {o i e value : Expr} {pos pos' tpos : Pos} {td ty tv : TE}
theorem pe_dget (hu : X.A.units + 1 < cLine) (ho : PE X o td) (hi : PE X i ty) (hs : NoSl i) : PE X (.Subscript o i pos) (tDGet td ty) := by
  intro pins s σ H Q I h
  refine subD_of PySem.F.slot_dict_getitem.lookup hs (thn (ho pins s σ H _ I h) fun u s1 ⟨x, H1, I1, rx, q1⟩ => thn (hi pins s1 σ H1 _ I1 q1) fun iv s2 ⟨y, H2, I2, ry, a, v, ex, g, q2⟩ => ?_)
  subst ex
  obtain rfl : u = Value.ref a := rx
  exact ⟨dict_typeIs I2 g, d_getItem hu I2 g ry fun w' s3 I3 rw' => ⟨v, H2, I3, rw', q2⟩⟩
end


/-! ### displays -/
theorem dk_empty {P : Program} {w : World} {H : Hp} (h : Heap) (hb : sysModules < h.objs.size) : ObjOk P w H (h.push { cls := .type "dict", data := .dict #[] }) h.objs.size (.dK []) :=
  ⟨Nat.zero_le _, beq_eq_false_iff_ne.mpr (Ne.symm (Nat.ne_of_lt hb)), [], .nil, Heap.DictOf.new h⟩
/-- {}, to be a dict of the kind that is wanted -/
def tDNewK : TE := fun _ H Q => ∀ p, H p = none → Q (.ref p) (upd H p (.dK []))
def tDNewT : TE := fun _ H Q => ∀ p, H p = none → Q (.ref p) (upd H p (.dT []))
section
variable {X : Cx} {pos : Pos}
end

/-- the pairs of a display, from the left -/
def tPairs : List (TE × TE) → St → Hp → (List (V × V) → Hp → Prop) → Prop
  | [], _, H, Q => Q [] H
  | (tk, tv) :: r, σ, H, Q => tk σ H fun x H1 => tv σ H1 fun y H2 => tPairs r σ H2 fun ps H3 => Q ((x, y) :: ps) H3
abbrev VV : List (V × V) → List (Value × Value) → Prop := Paired fun p q => RelV p.1 q.1 ∧ RelV p.2 q.2
def PPs (X : Cx) (pos : Pos) (keys : List (Option Expr)) (values : List Expr) (trs : List (TE × TE)) : Prop :=
  ∀ (pins : List (Addr × Obj)) (s : Shared) (σ : St) (H : Hp) (Q : List (V × V) → Hp → Prop), Inv X pins σ H s → tPairs trs σ H Q →
    wpAny (model X.prog X.w) X.A (evalPairs (pairTrees keys values X.env pos)) (fun vs s' => ∃ ps H', Inv X pins σ H' s' ∧ VV ps vs ∧ Q ps H') X.xe s
theorem pps_nil {X : Cx} {pos : Pos} : PPs X pos [] [] [] := fun pins s σ H Q I h => pairTrees_nil_walk ⟨[], H, I, .nil, h⟩
theorem pps_cons {X : Cx} {pos : Pos} {k v : Expr} {ks : List (Option Expr)} {vs : List Expr} {tk tv : TE} {trs : List (TE × TE)} (hk : PE X k tk) (hv : PE X v tv) (hr : PPs X pos ks vs trs) :
    PPs X pos (some k :: ks) (v :: vs) ((tk, tv) :: trs) := fun pins s σ H Q I h =>
  pairTrees_cons_walk (thn (hk pins s σ H _ I h) fun u s1 ⟨x, H1, I1, rx, q1⟩ => thn (hv pins s1 σ H1 _ I1 q1) fun w2 s2 ⟨y, H2, I2, ry, q2⟩ =>
    thn (hr pins s2 σ H2 _ I2 q2) fun ws s3 ⟨ps, H3, I3, rel, q3⟩ => ⟨(x, y) :: ps, H3, I3, .cons ⟨rx, ry⟩ rel, q3⟩)

def mergeK (kvs more : List (Key × V)) : List (Key × V) := more.foldl (fun acc kv => putK acc kv.1 kv.2) kvs
theorem KV.merge : ∀ {more : List (Key × V)} {rs : List (Key × Value)} {kvs : List (Key × V)} {vs : List (Key × Value)}, KV more rs → KV kvs vs → KV (mergeK kvs more) (merged vs rs) := by
  intro more rs kvs vs r
  unfold KV at r
  induction r generalizing kvs vs with
  | nil => intro q; exact q
  | @cons p q ps qs h t ih =>
    intro r0
    have e : KV (putK kvs p.1 p.2) (stored vs q.1 q.2) := by
      have := r0.put p.1 h.2
      rw [← h.1]; exact this
    exact ih e
theorem length_mergeK : ∀ (more kvs : List (Key × V)), (mergeK kvs more).length ≤ kvs.length + more.length
  | [], kvs => by show kvs.length ≤ kvs.length + 0; omega
  | p :: r, kvs => by
    have h1 := length_mergeK r (putK kvs p.1 p.2)
    have h2 := length_putK kvs p.1 p.2
    show (mergeK (putK kvs p.1 p.2) r).length ≤ _
    rw [List.length_cons]; omega
theorem carries_of {P : Program} {w : World} : ∀ {kvs : List (Key × V)} {ws : List (Value × Value)}, VV (kvs.map fun kv => (kV kv.1, kv.2)) ws → ∃ rs, Carries (mixKind P w) ws rs ∧ KV kvs rs
  | [], _, r => by rw [List.map_nil] at r; cases r; exact ⟨[], True.intro, .nil⟩
  | p :: kvs, _, r => by
    rw [List.map_cons] at r
    cases r with
    | @cons a b as bs h t =>
      obtain ⟨rs, c, q⟩ := carries_of (P := P) (w := w) t
      obtain ⟨b1, b2⟩ := b
      exact ⟨(p.1, b2) :: rs, ⟨kV_is h.1, rfl, c⟩, .cons ⟨rfl, h.2⟩ q⟩
/-- {k: v, ..} with keys ints and texts; the new dict stands empty while the pairs are made -/
def tDisp (trs : List (TE × TE)) : TE := fun σ H Q => ∀ p, H p = none → tPairs trs σ (upd H p (.dK [])) fun ps H2 => H2 p = some (.dK []) ∧ ∃ kvs : List (Key × V), ps = kvs.map (fun kv => (kV kv.1, kv.2)) ∧ kvs.length ≤ 15 ∧ Q (.ref p) (upd H2 p (.dK (mergeK [] kvs)))
theorem pe_disp {X : Cx} {pos : Pos} {keys : List (Option Expr)} {values : List Expr} {trs : List (TE × TE)} (h : PPs X pos keys values trs) (hall : keys.all (·.isSome) = true) (hl : keys.length = values.length) (h0 : keys ≠ [])
    (h15 : keys.length ≤ 15) : PE X (.Dict keys values pos) (tDisp trs) := by
  intro pins s σ H Q I q
  have hn := I.hok.fresh (Nat.le_refl s.heap.objs.size)
  have I1 := I.laid (a := s.heap.objs.size) (o := .dK []) (h' := s.heap.push { cls := .type "dict", data := .dict #[] }) (t' := s.toks) (fun _ _ q => Heap.get?_push_of_some _ q) (Nat.le_refl _) (dk_empty s.heap I.big)
  refine wpAny_Dict_walk (knd := mixKind X.prog X.w) hall hl h0 h15 (thn (h pins _ σ _ _ I1 (q _ hn)) fun ws s2 ⟨ps, H2, I2, rel, e, kvs, ep, lk, q2⟩ => ?_)
  subst ep
  obtain ⟨rs, c, rk⟩ := carries_of (P := X.prog) (w := X.w) rel
  obtain ⟨z, hd, vs0, r0, dd⟩ := dk_of I2.hok e
  cases r0
  refine ⟨rs, c, dd, fun h' dd' hs => ⟨.ref s.heap.objs.size, _, ?_, rfl, q2⟩⟩
  have hz : (mergeK [] kvs).length ≤ sizeLine := by
    have h1 := length_mergeK kvs []
    rw [List.length_nil] at h1
    rw [sizeLine_eq]; omega
  have he : ∃ q, h'.get? s.heap.objs.size = some q := let ⟨q, _, _, hq, _⟩ := dd'; ⟨q, hq⟩
  exact d_write I2 (by rw [e]; exact True.intro) hs he (dk_new hz hd (rk.merge .nil) dd')


/-! ### methods -/
/-- a method call o.m(e) of a built-in, with one argument: what must be seen of the text -/
structure M1 (X : Cx) (o : Expr) (m : Str) (apos : Pos) (e : Expr) (cpos : Pos) : Prop where
  base : attributeBase o m X.env (eval o X.env) = eval o X.env
  few : ((backTo cpos (starEach [e] X.env)).all (fun x => !x.1) && (backToKw cpos (keywordEach [] X.env)).all (fun x => x.1.isSome)
    && decide (([e] : List Expr).length + ([] : List Keyword).length + (if ([] : List Keyword).isEmpty then 0 else 1) < 30)) = true
  line : (apos.endLine == cpos.line) = true
  trees : backTo cpos (starEach [e] X.env) = [(false, eval e X.env)]
structure M2 (X : Cx) (o : Expr) (m : Str) (apos : Pos) (e f : Expr) (cpos : Pos) : Prop where
  base : attributeBase o m X.env (eval o X.env) = eval o X.env
  few : ((backTo cpos (starEach [e, f] X.env)).all (fun x => !x.1) && (backToKw cpos (keywordEach [] X.env)).all (fun x => x.1.isSome)
    && decide (([e, f] : List Expr).length + ([] : List Keyword).length + (if ([] : List Keyword).isEmpty then 0 else 1) < 30)) = true
  line : (apos.endLine == cpos.line) = true
  trees : backTo cpos (starEach [e, f] X.env) = [(false, eval e X.env), (false, eval f X.env)]

/-- a is a dict, whatever its keys -/
def IsD (H : Hp) (a : Addr) : Prop := (∃ kvs, Rd H a (.dK kvs)) ∨ ∃ kvs, Rd H a (.dT kvs)

section
variable {X : Cx} {pins : List (Addr × Obj)} {σ : St} {H : Hp} {s : Shared} {a : Addr} {y d : V} {u r : Value} {o : Option V} {A : Around} {E : Value → Shared → Prop}
end

def tDGet1 (td ty : TE) : TE := fun σ H Q => td σ H fun x H1 => ∃ a, x = .ref a ∧ IsD H1 a ∧ ty σ H1 fun y H2 => ∃ o, DGet H2 a y o ∧ Q (o.getD .non) H2
def tDGet2 (td ty tx : TE) : TE := fun σ H Q => td σ H fun x H1 => ∃ a, x = .ref a ∧ IsD H1 a ∧ ty σ H1 fun y H2 => tx σ H2 fun z H3 => ∃ o, DGet H3 a y o ∧ Q (o.getD z) H3
/-- d.pop(k): there; d.pop(k, x): there or not -/
def tDPop1 (td ty : TE) : TE := fun σ H Q => td σ H fun x H1 => ∃ a, x = .ref a ∧ IsD H1 a ∧ ty σ H1 fun y H2 => ∃ kvs k v, H2 a = some (.dK kvs) ∧ y = kV k ∧ valV kvs k = some v ∧ Q v (upd H2 a (.dK (dropK kvs k)))
def tDPop2 (td ty tx : TE) : TE := fun σ H Q => td σ H fun x H1 => ∃ a, x = .ref a ∧ IsD H1 a ∧ ty σ H1 fun y H2 => tx σ H2 fun z H3 => ∃ kvs k, H3 a = some (.dK kvs) ∧ y = kV k ∧
  (∀ v, valV kvs k = some v → Q v (upd H3 a (.dK (dropK kvs k)))) ∧ (valV kvs k = none → Q z H3)
section
variable {X : Cx} {o e f : Expr} {apos cpos : Pos} {td ty tx : TE}
end

/-! ### dict(d): a copy -/
section
variable {X : Cx} {pins : List (Addr × Obj)} {σ : St} {H : Hp} {s : Shared} {a : Addr} {kvs : List (Key × V)} {A : Around} {E : Value → Shared → Prop}
end


section
variable {X : Cx} {pins : List (Addr × Obj)} {σ : St} {H : Hp} {s : Shared} {a : Addr} {y : V} {u : Value} {A : Around} {E : Value → Shared → Prop}
end
end L2

namespace HT
open PySem PyProof.Rows

/-- t < u of tuples of ints -/
def lexLt : List Int → List Int → Bool
  | [], [] => false
  | [], _ :: _ => true
  | _ :: _, [] => false
  | x :: xs, y :: ys => if x = y then lexLt xs ys else decide (x < y)


section
open PySem.SeqAt
open PySem.AutoSeq1 (wpAny_loadPart')
open PySem.MeetsSeq PySem.MeetsSeq2 PySem.MeetsSeq3

end

section
variable {prog : Program} {w : World} {A : Around} {E : Value → Shared → Prop} {s : Shared}



/-! ### t[a:b], not the whole -/
/-- a slice's bound as a place among n (d where it is left out) -/
def sIx (n d : Nat) : Option Int → Nat
  | none => d
  | some v => if v < 0 then (v + (n : Int)).toNat else min v.toNat n
theorem sIx_none (n d : Nat) : sIx n d none = d := rfl
theorem sIx_nat (n d k : Nat) : sIx n d (some (k : Int)) = min k n := by
  show (if (k : Int) < 0 then ((k : Int) + (n : Int)).toNat else min (k : Int).toNat n) = min k n
  rw [if_neg (by omega), Int.toNat_natCast]
theorem sIx_le (n d : Nat) (hd : d ≤ n) (o : Option Int) : sIx n d o ≤ n := by
  cases o with
  | none => exact hd
  | some v =>
    show (if v < 0 then (v + (n : Int)).toNat else min v.toNat n) ≤ n
    by_cases hv : v < 0
    · rw [if_pos hv]; omega
    · rw [if_neg hv]; exact Nat.min_le_right _ _

end
end HT

namespace L2
open PySem PySem.Spec PyProof.Rows

/-! ### the parts of a slice -/
abbrev TO := St → Hp → (Option Int → Hp → Prop) → Prop
/-- a slice's part (left out, or an int) -/
def PO (X : Cx) (e : Option Expr) (t : TO) : Prop :=
  ∀ (pins : List (Addr × Obj)) (s : Shared) (σ : St) (H : Hp) (Q : Option Int → Hp → Prop), Inv X pins σ H s → t σ H Q →
    wpAny (model X.prog X.w) X.A (evalPart e X.env) (fun u s' => ∃ o H', Inv X pins σ H' s' ∧ IsPart u o ∧ Q o H') X.xe s
def tNoPart : TO := fun _ H Q => Q none H
def tPart (t : TE) : TO := fun σ H Q => t σ H fun x H1 => ∃ i, x = .int i ∧ Q (some i) H1

theorem intsAre_of {ns : List Int} : ∀ {us : List Value}, Vals (ns.map V.int) us → IntsAre us ns := by
  induction ns with
  | nil => intro us r; rw [List.map_nil] at r; cases r; exact .nil
  | cons n ns ih =>
    intro us r
    rw [List.map_cons] at r
    cases r with
    | cons r1 r2 =>
      obtain ⟨t, e⟩ := r1
      subst e
      exact .cons n t (ih r2)

section
variable {X : Cx} {e : Expr} {te : TE} {lo hi : Option Expr} {tl th : TO} {pos p2 : Pos}

theorem po_none : PO X none tNoPart := by
  intro pins s σ H Q I h
  rw [evalPart_none]
  exact wpAny_pure ⟨none, H, I, .none, h⟩
theorem po_some (h : PE X e te) : PO X (some e) (tPart te) := by
  intro pins s σ H Q I hw
  rw [evalPart_some]
  refine thn (h pins s σ H _ I hw) fun u s1 ⟨x, H1, I1, r1, q1⟩ => ?_
  obtain ⟨i, rfl, q⟩ := q1
  obtain ⟨t, rfl⟩ := r1
  exact ⟨some i, H1, I1, .int i t, q⟩

/-- what a slice of a value is, by values: the slice object stands at sl -/
def SlR (X : Cx) (r : V → Option Int → Option Int → Hp → VK → Prop) : Prop :=
  ∀ (pins : List (Addr × Obj)) (s : Shared) (σ : St) (H : Hp) (x : V) (v vl vu : Value) (lo hi : Option Int) (sl : Addr) (Q : VK), Inv X pins σ H s → RelV x v → s.heap.IsSliceOf sl vl vu .none → IsPart vl lo → IsPart vu hi → r x lo hi H Q →
    ∃ T id, typeLookup (.type T) "__getitem__" = pure (some (.builtin id)) ∧ s.TypeIs v T ∧ wpAny (model X.prog X.w) X.A (getItem v (.ref sl)) (EP X pins σ Q) X.xe s
def tSl (r : V → Option Int → Option Int → Hp → VK → Prop) (te : TE) (tl th : TO) : TE := fun σ H Q => te σ H fun x H1 => tl σ H1 fun l H2 => th σ H2 fun u H3 => r x l u H3 Q
/-- a[lo:hi], any a -/
theorem pe_slice {r : V → Option Int → Option Int → Hp → VK → Prop} (hr : SlR X r) (he : PE X e te) (hl : PO X lo tl) (hu : PO X hi th) : PE X (.Subscript e (.Slice lo hi none p2) pos) (tSl r te tl th) := by
  intro pins s σ H Q I h
  refine Subscript_ (thn (he pins s σ H _ I h) fun v s1 ⟨x, H1, I1, r1, q1⟩ => ?_)
  refine wpAny_Slice (thn (hl pins s1 σ H1 _ I1 q1) fun vl s2 ⟨l, H2, I2, pl, q2⟩ => thn (hu pins s2 σ H2 _ I2 q2) fun vu s3 ⟨u, H3, I3, pu, q3⟩ => ?_)
  rw [evalPart_none]
  refine wpAny_pure ?_
  have I4 : Inv X pins σ H3 { s3 with heap := s3.heap.push { cls := .type "slice", data := .fields #[vl, vu, .none] } } := I3.kept (t' := s3.toks) fun b ob q => Heap.get?_push_of_some _ q
  obtain ⟨T, id, hT, ht, hg⟩ := hr pins { s3 with heap := s3.heap.push { cls := .type "slice", data := .fields #[vl, vu, .none] } } σ H3 x v vl vu l u s3.heap.objs.size Q I4 r1 (Heap.IsSliceOf.new ..) pl pu q3
  show wpAny (model X.prog X.w) X.A (subscriptTail e (.Slice lo hi none p2) v (.ref s3.heap.objs.size)) (EP X pins σ Q) X.xe { s3 with heap := s3.heap.push { cls := .type "slice", data := .fields #[vl, vu, .none] } }
  exact tail_any (ops := [.ref s3.heap.objs.size, v]) ht hT hg (by with_unfolding_all rfl)

/-- the items of xs[lo:hi] -/
def cutV (xs : List V) (lo hi : Option Int) : List V := (xs.drop (HT.sIx xs.length 0 lo)).take (HT.sIx xs.length xs.length hi - HT.sIx xs.length 0 lo)
/-- t[lo:hi], not the whole of it (the whole would be t itself) -/
def rSlT (K : PySem.W.Frag) : V → Option Int → Option Int → Hp → VK → Prop := fun x lo hi H Q => ∃ a xs, x = .ref a ∧ SqT K H a xs ∧
  ¬ (HT.sIx xs.length 0 lo = 0 ∧ HT.sIx xs.length xs.length hi = xs.length) ∧ ∀ p, H p = none → Q (.ref p) (upd H p (.tup (cutV xs lo hi)))

/-! ### t < u, t + u -/
def rLtT (K : PySem.W.Frag) : R2 := fun x y H Q => ∃ a b ns ms, x = .ref a ∧ y = .ref b ∧ SqT K H a (ns.map V.int) ∧ SqT K H b (ms.map V.int) ∧ Q (.bl (HT.lexLt ns ms)) H
/-- t + u, t not empty: u empty gives t itself -/
def rCatT (K : PySem.W.Frag) : R2 := fun x y H Q => ∃ a b xs ys, x = .ref a ∧ y = .ref b ∧ SqT K H a xs ∧ SqT K H b ys ∧ xs ≠ [] ∧ xs.length + ys.length ≤ sizeLine ∧
  (ys = [] → Q (.ref a) H) ∧ (ys ≠ [] → ∀ p, H p = none → Q (.ref p) (upd H p (.tup (xs ++ ys))))
end
end L2

namespace L2
open PySem PySem.Spec PyProof.Rows

/-! ### places -/
/-- the place that an index of any sign means -/
def ixN (n : Nat) (i : Int) : Option Nat := if 0 ≤ i then (if i < n then some i.toNat else none) else if -(n : Int) ≤ i then some (i + n).toNat else none
def atI {α : Type} (xs : List α) (i : Int) : Option α := (ixN xs.length i).bind fun j => xs[j]?
theorem ixN_seq {n : Nat} {i : Int} {j : Nat} (h : ixN n i = some j) : seqIndex? i n = some j ∧ j < n ∧ -(n : Int) ≤ i ∧ i < n := by
  unfold ixN at h
  by_cases h0 : 0 ≤ i
  · rw [if_pos h0] at h
    by_cases h1 : i < n
    · rw [if_pos h1] at h
      have e : i.toNat = j := Option.some.inj h
      exact ⟨by rw [seqIndex_of h0 h1, e], by omega, by omega, h1⟩
    · rw [if_neg h1] at h; cases h
  · rw [if_neg h0] at h
    by_cases h1 : -(n : Int) ≤ i
    · rw [if_pos h1] at h
      have e : (i + n).toNat = j := Option.some.inj h
      exact ⟨by rw [seqIndex_neg (by omega) h1, e], by omega, h1, by omega⟩
    · rw [if_neg h1] at h; cases h
theorem atI_get {α : Type} {xs : List α} {i : Int} {v : α} (h : atI xs i = some v) : ∃ j, seqIndex? i xs.length = some j ∧ xs[j]? = some v ∧ j < xs.length ∧ -(xs.length : Int) ≤ i ∧ i < xs.length := by
  unfold atI at h
  cases e : ixN xs.length i with
  | none => rw [e] at h; cases h
  | some j =>
    rw [e] at h
    obtain ⟨h1, h2, h3, h4⟩ := ixN_seq e
    exact ⟨j, h1, h, h2, h3, h4⟩
theorem atI_nat {α : Type} {xs : List α} {j : Nat} {v : α} (h : xs[j]? = some v) : atI xs (j : Int) = some v := by
  have hj : j < xs.length := (List.getElem?_eq_some_iff.mp h).1
  have e : ixN xs.length (j : Int) = some j := by
    unfold ixN
    rw [if_pos (by omega), if_pos (by omega)]; simp
  unfold atI; rw [e]; exact h
theorem atI_last {α : Type} (xs : List α) (v : α) : atI (xs ++ [v]) (-1) = some v := by
  have hl : (xs ++ [v]).length = xs.length + 1 := by simp
  have e : ixN (xs ++ [v]).length (-1) = some xs.length := by
    unfold ixN
    rw [hl, if_neg (by decide), if_pos (by omega)]
    congr 1
    omega
  unfold atI
  rw [e]
  show (xs ++ [v])[xs.length]? = some v
  simp

/-! ### what may be subscripted -/
/-- what stands as an index of a plain subscript -/
def PlainIx (b : Expr) : Prop := ∀ o i, subscripted b false o i = operate [o, i] (getItem o i)
/-- a subscript by values -/
def IxR (X : Cx) (r : R2) : Prop :=
  ∀ (value slice : Expr) (pins : List (Addr × Obj)) (s : Shared) (σ : St) (H : Hp) (x y : V) (v u : Value) (Q : VK), Inv X pins σ H s → RelV x v → RelV y u → r x y H Q →
    subscripted slice false v u = operate [v, u] (getItem v u) → wpAny (model X.prog X.w) X.A (subscriptTail value slice v u) (EP X pins σ Q) X.xe s
/-- a call of a builtin's method by values: the receiver, the arguments -/
def MtR (X : Cx) (id : String) (r : V → List V → Hp → VK → Prop) : Prop :=
  ∀ (pins : List (Addr × Obj)) (s : Shared) (σ : St) (H : Hp) (x : V) (xs : List V) (v : Value) (us : List Value) (Q : VK), Inv X pins σ H s → RelV x v → Vals xs us → r x xs H Q →
    wpAny (model X.prog X.w) X.A (call (.builtin id) (v :: us)) (EP X pins σ Q) X.xe s
section
variable {X : Cx} {a b : Expr} {ta tb : TE} {pos : Pos}
/-- a[b] -/
theorem pe_ix {r : R2} (hr : IxR X r) (ha : PE X a ta) (hb : PE X b tb) (hs : PlainIx b) : PE X (.Subscript a b pos) (tOp r ta tb) := by
  intro pins s σ H Q I h
  exact Subscript_ (binT ha hb I h fun v u s2 x y H2 I2 rx ry q => hr a b pins s2 σ H2 x y v u Q I2 rx ry q (hs _ _))

def rIxL (K : PySem.W.Frag) : R2 := fun x y H Q => ∃ p xs i v, x = .ref p ∧ y = .int i ∧ SqL K H p xs ∧ atI xs i = some v ∧ Q v H
def rIxT (K : PySem.W.Frag) : R2 := fun x y H Q => ∃ p xs i v, x = .ref p ∧ y = .int i ∧ SqT K H p xs ∧ atI xs i = some v ∧ Q v H
def rIxS : R2 := fun x y H Q => ∃ z i c, x = .str z ∧ y = .int i ∧ z.length ≤ sizeLine ∧ atI z.cps.toList i = some c ∧ Q (.str ⟨#[c]⟩) H
theorem ix_list : IxR X (rIxL X.K) := by
  intro value slice pins s σ H x y v u Q I rx ry h hs
  obtain ⟨p, xs, i, z, rfl, rfl, hq, he, q⟩ := h
  cases rx
  obtain ⟨t, rfl⟩ := ry
  obtain ⟨its, r, pl, hz⟩ := I.list hq
  obtain ⟨j, h1, h2, h3, h4, h5⟩ := atI_get he
  obtain ⟨w, ew, rw'⟩ := r.get h2
  have hl := r.length
  have hn := line63
  have fin : EP X pins σ Q w s := ⟨z, H, I, rw', q⟩
  by_cases h0 : 0 ≤ i
  · have hj : i.toNat = j := by
      rw [seqIndex_of h0 h5] at h1
      exact Option.some.inj h1
    exact item_listR pl.isList h0 (by omega) (by rw [hj]; simpa using ew) fin hs
  · have hj : (i + (its.toArray.size : Int)).toNat = j := by
      rw [seqIndex_neg (by omega) h4] at h1
      rw [List.size_toArray, ← hl]
      exact Option.some.inj h1
    exact subscriptTail_builtinR (x := w) pl.isList.typeIs slot_list_getitem.lookup
      (wpAny_getItem_list_neg (Q := fun r s' => r = w ∧ EP X pins σ Q r s') pl.isList (by omega) (by rw [List.size_toArray] <;> omega) (by omega) (by rw [hj]; simpa using ew) ⟨rfl, fin⟩) hs
theorem ix_tup : IxR X (rIxT X.K) := by
  intro value slice pins s σ H x y v u Q I rx ry h hs
  obtain ⟨p, xs, i, z, rfl, rfl, hq, he, q⟩ := h
  cases rx
  obtain ⟨t, rfl⟩ := ry
  obtain ⟨its, r, pl, hz⟩ := I.tuple hq
  obtain ⟨j, h1, h2, h3, h4, h5⟩ := atI_get he
  obtain ⟨w, ew, rw'⟩ := r.get h2
  have hl := r.length
  have hn := line63
  have fin : EP X pins σ Q w s := ⟨z, H, I, rw', q⟩
  exact subscriptTail_builtinR (x := w) pl.typeIs slot_tuple_getitem.lookup
    (getItem_tuple (j := j) (Q := fun r s' => r = w ∧ EP X pins σ Q r s') pl (by omega) (by omega) (by rw [List.size_toArray, ← hl]; exact h1) (by simpa using ew) ⟨rfl, fin⟩) hs
theorem ix_str : IxR X rIxS := by
  intro value slice pins s σ H x y v u Q I rx ry h hs
  obtain ⟨z, i, c, rfl, rfl, hz, he, q⟩ := h
  obtain ⟨t, rfl⟩ := rx
  obtain ⟨t', rfl⟩ := ry
  obtain ⟨j, h1, h2, h3, h4, h5⟩ := atI_get he
  have hl : z.cps.toList.length = z.length := by simp [Str.length]
  rw [hl] at h1 h4 h5
  have hn := line63
  exact tail_any (typeIs_str s z t) slot_str_getitem.lookup (getItem_str (c := c) (by
    have e1 : decide (i < -(2 ^ 63 : Int)) = false := decide_eq_false (by omega)
    have e2 : decide (i ≥ 2 ^ 63) = false := decide_eq_false (by omega)
    rw [e1, e2, Bool.or_false]) (by rw [h1]; simpa using h2) ⟨.str ⟨#[c]⟩, H, I.tok _, ⟨_, rfl⟩, q⟩) hs
/-- list, tuple or str -/
def rIx (K : PySem.W.Frag) : R2 := fun x y H Q => rIxL K x y H Q ∨ rIxT K x y H Q ∨ rIxS x y H Q

/-! ### xs[i] = v, any sign -/
def rSetL : V → V → V → Hp → (Hp → Prop) → Prop := fun o i v H Q => ∃ p xs k j, o = .ref p ∧ i = .int k ∧ H p = some (.lst xs) ∧ ixN xs.length k = some j ∧ Q (upd H p (.lst (xs.set j v)))

/-! ### slices -/
/-- xs[lo:hi] of a list: a new list -/
def rSlL (K : PySem.W.Frag) : V → Option Int → Option Int → Hp → VK → Prop := fun x lo hi H Q => ∃ a xs, x = .ref a ∧ SqL K H a xs ∧ ∀ p, H p = none → Q (.ref p) (upd H p (.lst (cutV xs lo hi)))

/-! ### in, not in: flat items -/
def flatV : V → Bool
  | .non => true
  | .bl _ => true
  | .int _ => true
  | .str _ => true
  | _ => false
/-- == of flat values -/
def eqV : V → V → Bool
  | .non, .non => true
  | .bl a, .bl b => a == b
  | .bl a, .int b => (if a then 1 else 0) == b
  | .int a, .bl b => a == (if b then 1 else 0)
  | .int a, .int b => a == b
  | .str a, .str b => a == b
  | _, _ => false
/-- the items' answers, read off the values (a value's own answer does not lean on its token) -/
def eqU (x : V) (u : Value) : Bool := match u with
  | .none => eqV .non x
  | .bool b => eqV (.bl b) x
  | .int i _ => eqV (.int i) x
  | .str z _ => eqV (.str z) x
  | _ => false
def inV (x : V) (xs : List V) : Bool := xs.any fun y => eqV y x
/-- x in a list or tuple of flat items -/
def rIn (K : PySem.W.Frag) (neg : Bool) : R2 := fun x y H Q => ∃ p xs, y = .ref p ∧ (SqL K H p xs ∨ SqT K H p xs) ∧ flatV x = true ∧ xs.all flatV = true ∧ Q (.bl (if neg then !inV x xs else inV x xs)) H

/-! ### len, list(x), tuple(x) of any list or tuple that is read -/
theorem call_len_str : CallR X (.builtin "len") (fun xs H Q => ∃ z, xs = [.str z] ∧ z.length ≤ sizeLine ∧ Q (.int z.length) H) := by
  intro pins s σ H xs us Q I r h
  obtain ⟨z, rfl, hz, q⟩ := h
  obtain ⟨u, rfl, t, rfl⟩ := vals1 r
  have hn := line63
  exact len_str (by omega) ⟨.int z.length, H, I.tok _, ⟨_, rfl⟩, q⟩

/-! ### the call of a builtin's method: o.m(..) -/
/-- the value is of that builtin type -/
def tyV (K : PySem.W.Frag) (T : String) (x : V) (H : Hp) : Prop := match x with
  | .str _ => T = "str"
  | .int _ => T = "int"
  | .ref p => (T = "list" ∧ ∃ xs, SqL K H p xs) ∨ (T = "tuple" ∧ ∃ o, K.lookup p = some o ∧ o.cls = .type "tuple" ∧ o.dict = none) ∨
      (T = "dict" ∧ ((∃ kvs, H p = some (.dK kvs)) ∨ ∃ kvs, H p = some (.dT kvs))) ∨ (T = "set" ∧ ∃ S n, H p = some (.set S n))
  | _ => False
theorem tyV_is {pins : List (Addr × Obj)} {σ : St} {H : Hp} {s : Shared} {T : String} {x : V} {v : Value} (I : Inv X pins σ H s) (r : RelV x v) (ty : tyV X.K T x H) :
    s.TypeIs v T ∧ ∀ a, v = .ref a → ∃ ob, s.heap.get? a = some ob ∧ ob.dict = none := by
  cases x with
  | str z =>
    obtain ⟨t, rfl⟩ := r
    cases (show T = "str" from ty)
    exact ⟨typeIs_str s z t, fun _ e => nomatch e⟩
  | int i =>
    obtain ⟨t, rfl⟩ := r
    cases (show T = "int" from ty)
    exact ⟨typeIs_int s i t, fun _ e => nomatch e⟩
  | ref p =>
    cases r
    rcases ty with ⟨rfl, xs, hq⟩ | ⟨rfl, o, hk, hc, hd⟩ | ⟨rfl, hk⟩ | ⟨rfl, S, n, hk⟩
    · obtain ⟨its, _, pl, _⟩ := I.list hq
      refine ⟨pl.isList.typeIs, fun a e => ?_⟩
      cases e
      obtain ⟨o, n, e, c, hd, _⟩ := pl
      exact ⟨o, e, hd⟩
    · refine ⟨⟨o, I.kIn p o hk, hc⟩, fun a e => ?_⟩
      cases e
      exact ⟨o, I.kIn _ o hk, hd⟩
    · have z : ∃ o, s.heap.get? p = some o ∧ o.ExactDict := by
        rcases hk with ⟨kvs, hk⟩ | ⟨kvs, hk⟩
        · obtain ⟨_, _, _, _, o, _, _, e, ex, _⟩ := I.hok p _ hk
          exact ⟨o, e, ex⟩
        · obtain ⟨_, _, _, _, o, _, _, e, ex, _⟩ := I.hok p _ hk
          exact ⟨o, e, ex⟩
      obtain ⟨o, e, ex⟩ := z
      refine ⟨⟨o, e, ex.1⟩, fun a e2 => ?_⟩
      cases e2
      exact ⟨o, e, ex.2.1⟩
    · obtain ⟨o, _, _, _, e, ex, _⟩ := I.hok p _ hk
      refine ⟨⟨o, e, ex.1⟩, fun a e2 => ?_⟩
      cases e2
      exact ⟨o, e, ex.2.1⟩
  | _ => exact False.elim ty
def tBM0 (K : PySem.W.Frag) (T : String) (r : V → List V → Hp → VK → Prop) (to : TE) : TE := fun σ H Q => to σ H fun x H1 => tyV K T x H1 ∧ r x [] H1 Q
def tBM (K : PySem.W.Frag) (T : String) (r : V → List V → Hp → VK → Prop) (to : TE) (t : TA) : TE := fun σ H Q => to σ H fun x H1 => tyV K T x H1 ∧ t σ H1 fun xs H2 => r x xs H2 Q
variable {o e : Expr} {es : List Expr} {to : TE} {t : TA} {name : Str} {apos cpos : Pos} {T id : String} {r : V → List V → Hp → VK → Prop}
theorem pe_bm (pa : PlainAttrs T) (slot : Slot T name id) (hty : typeOf (.builtin id) = pure (.type "method_descriptor")) (hm : MtR X id r) (ho : PE X o to) (ha : PA X (e :: es) t)
    (hbase : attributeBase o name X.env (eval o X.env) = eval o X.env := by rfl)
    (hfew : ((backTo cpos (starEach (e :: es) X.env)).all (fun x => !x.1) && (backToKw cpos (keywordEach [] X.env)).all (fun x => x.1.isSome)
      && decide ((e :: es).length + ([] : List Keyword).length + (if ([] : List Keyword).isEmpty then 0 else 1) < 30)) = true := by rfl)
    (hline : (apos.endLine == cpos.line) = true := by rfl) (hs : starEach (e :: es) X.env = (false, eval e X.env) :: starEach es X.env := by rfl) (hplain : (backTo cpos (starEach es X.env)).any (·.1) = false := by rfl) :
    PE X (.Call (.Attribute o name apos) (e :: es) [] cpos) (tBM X.K T r to t) := by
  intro pins s σ H Q I h
  refine wpAny_Call_method_late hbase hfew hline rfl (thn (ho pins s σ H _ I h) fun v s1 ⟨x, H1, I1, r1, ty, q1⟩ => ?_)
  obtain ⟨h1, h2⟩ := tyV_is I1 r1 ty
  refine ⟨T, id, pa, slot, hty, h1, h2, ?_⟩
  have hA := ha cpos pins s1 σ H1 _ I1 q1
  rw [hs] at hA ⊢
  refine Calls.callWith_builtin (by show (false || (backTo cpos (starEach es X.env)).any (·.1)) = false; rw [hplain] <;> rfl) (Calls.evalArgs_plain ?_)
  exact thn hA fun us s2 ⟨vs, H2, I2, r2, q2⟩ => hm pins s2 σ H2 x vs v us Q I2 r1 r2 q2
/- xs.append(e), list.index on a module's tuple .. are MtR facts of 06m -/
end
end L2

namespace L2
open PySem PySem.Spec PyProof.Rows

def MtM (X : Cx) (id : String) (r : V → List V → Hp → VK → Prop) : Prop :=
  ∀ (pins : List (Addr × Obj)) (s : Shared) (σ : St) (H : Hp) (x : V) (xs : List V) (v : Value) (us : List Value) (Q : VK), Inv X pins σ H s → RelV x v → Vals xs us → r x xs H Q →
    wpAny (model X.prog X.w) X.A (call (.builtin id) (v :: us)) (EP X pins σ Q) X.xe s

/-! ### lists of values -/
theorem Vals.one : ∀ {x : V} {us : List Value}, Vals [x] us → ∃ u, us = [u] ∧ RelV x u
  | _, _, .cons r .nil => ⟨_, rfl, r⟩

section
variable {X : Cx} {pins : List (Addr × Obj)} {σ : St} {H : Hp} {s : Shared} {l b : Addr} {xs ys zs : List V}

/-! ### the two steps: a tracked list is rewritten, a new list is laid -/
theorem Inv.lset {its its' : List Value} {n : Nat} {f : Array Value → Array Value} {t' : Nat} (I : Inv X pins σ H s) (hH : H l = some (.lst xs))
    (e : s.heap.get? l = some { cls := .type "list", data := .seq its.toArray n }) (hf : f its.toArray = its'.toArray) (hv : Vals ys its') (hz : ys.length ≤ sizeLine) :
    Inv X pins σ (upd H l (.lst ys)) { s with heap := s.heap.update l (Obj.mapSeq f), toks := t' } := by
  have q := PySem.IsL.update e f
  rw [hf] at q
  refine I.write (x := l) (e := l) (by rw [hH]; exact trivial) (.inl rfl) (fun b' u hb hu => (Heap.get?_update_other s.heap (Obj.mapSeq f) (Ne.symm hb)).trans hu) ⟨_, q⟩ ?_
  exact ⟨hz, its', _, hv, q⟩
theorem Inv.lnew {its : List Value} {t' : Nat} (I : Inv X pins σ H s) (hv : Vals ys its) (hz : ys.length ≤ sizeLine) :
    Inv X pins σ (upd H s.heap.objs.size (.lst ys)) { s with heap := s.heap.push { cls := .type "list", data := .seq its.toArray }, toks := t' } :=
  I.laid (fun _ _ q => Heap.get?_push_of_some _ q) (Nat.le_refl _) ⟨hz, its, 0, hv, Heap.get?_push_size _ rfl⟩
theorem Inv.lstM (I : Inv X pins σ H s) (hH : H l = some (.lst xs)) : xs.length ≤ sizeLine ∧ ∃ (its : List Value) (n : Nat), Vals xs its ∧ xs.length = its.length ∧ s.heap.get? l = some { cls := .type "list", data := .seq its.toArray n } := by
  obtain ⟨z, its, n, r, e⟩ := I.hok l _ hH
  exact ⟨z, its, n, r, r.length, e⟩

theorem notLongL {n : Nat} (h : n ≤ sizeLine) : Builtin.List.listTooLong n = false := by
  unfold Builtin.List.listTooLong
  exact decide_eq_false (by omega)
end

section
variable {X : Cx}

/-! ### methods -/
def rAppend : V → List V → Hp → VK → Prop := fun x vs H Q => ∃ l xs y, x = .ref l ∧ vs = [y] ∧ H l = some (.lst xs) ∧ xs.length < sizeLine ∧ Q .non (upd H l (.lst (xs ++ [y])))
theorem mt_append : MtM X "list.append" rAppend := by
  intro pins s σ H x vs v us Q I rx rv h
  obtain ⟨l, xs, y, rfl, rfl, hH, hz, q⟩ := h
  cases rx
  obtain ⟨u, rfl, ru⟩ := rv.one
  obtain ⟨z, its, n, r, hl, e⟩ := I.lstM hH
  refine call_meets F.slot_list_append ⟨_, e, rfl⟩ F.entry_list_append (F.args_list_append_2 _ _) (PySem.list_append l its.toArray n u (by rw [List.size_toArray]; omega)) ⟨e, ?_⟩
  refine ⟨.non, _, I.lset (its' := its ++ [u]) hH e (by simp) (r.append (.cons ru .nil)) ?_, rfl, q⟩
  rw [List.length_append, List.length_singleton]
  omega

def rExtend : V → List V → Hp → VK → Prop := fun x vs H Q => ∃ l b xs zs, x = .ref l ∧ vs = [.ref b] ∧ H l = some (.lst xs) ∧ H b = some (.lst zs) ∧ xs.length + zs.length ≤ sizeLine ∧ Q .non (upd H l (.lst (xs ++ zs)))

def rPop : V → List V → Hp → VK → Prop := fun x vs H Q => ∃ l xs y, x = .ref l ∧ vs = [] ∧ H l = some (.lst xs) ∧ xs[xs.length - 1]? = some y ∧ Q y (upd H l (.lst xs.dropLast))

def rPopAt : V → List V → Hp → VK → Prop := fun x vs H Q => ∃ l xs i k y, x = .ref l ∧ vs = [.int i] ∧ H l = some (.lst xs) ∧ -(2 ^ 63) ≤ i ∧ i < 2 ^ 63 ∧ seqIndex? i xs.length = some k ∧ xs[k]? = some y ∧ Q y (upd H l (.lst (xs.eraseIdx k)))

def rReverse : V → List V → Hp → VK → Prop := fun x vs H Q => ∃ l xs, x = .ref l ∧ vs = [] ∧ H l = some (.lst xs) ∧ Q .non (upd H l (.lst xs.reverse))

def rClear : V → List V → Hp → VK → Prop := fun x vs H Q => ∃ l xs, x = .ref l ∧ vs = [] ∧ H l = some (.lst xs) ∧ Q .non (upd H l (.lst []))

/-! ### list + list, list += list, list * int -/
def rCat : R2 := fun x y H Q => ∃ l b xs zs, x = .ref l ∧ y = .ref b ∧ H l = some (.lst xs) ∧ H b = some (.lst zs) ∧ xs.length + zs.length ≤ sizeLine ∧ ∀ p, H p = none → Q (.ref p) (upd H p (.lst (xs ++ zs)))
/-- a list times an int (a negative one is nothing) -/
def rRep : R2 := fun x y H Q => ∃ l k xs, x = .ref l ∧ y = .int k ∧ H l = some (.lst xs) ∧ -(2 ^ 63) ≤ k ∧ k < 2 ^ 63 ∧ xs.length * k.toNat ≤ sizeLine ∧
  ∀ p, H p = none → Q (.ref p) (upd H p (.lst (List.replicate k.toNat xs).flatten))

/-! ### del xs[i] -/
end

/-! ### xs[a:b] = ys -/
section
variable {prog : Program} {w : World} {A : Around} {E : Value → Shared → Prop} {s : Shared}
theorem bounds_run {a c n : Nat} (hac : a ≤ c) (hc : c ≤ n) : sliceBounds (some (a : Int)) (some (c : Int)) none n = ((a : Int), (c : Int), 1) := by
  simp only [sliceBounds, Option.getD_none]
  have h1 : ¬ ((a : Int) < 0) := by omega
  have h2 : ¬ ((c : Int) < 0) := by omega
  simp only [h1, h2, if_false, show (1 : Int) > 0 by decide, if_true]
  congr 1
  · omega
  · congr 1; omega
set_option maxRecDepth 100000 in
/-- list.__setitem__ with a slice of step one and another list -/
theorem setItem_slice {l b sl : Addr} {items new : Array Value} {n n2 : Nat} {vl vu : Value} {a c : Nat} {Q : Unit → Shared → Prop}
    (e : s.heap.get? l = some { cls := .type "list", data := .seq items n }) (e2 : s.heap.get? b = some { cls := .type "list", data := .seq new n2 }) (hne : l ≠ b)
    (hs : s.heap.IsSliceOf sl vl vu .none) (pl : IsPart vl (some (a : Int))) (pu : IsPart vu (some (c : Int))) (hac : a ≤ c) (hc : c ≤ items.size)
    (hsz : items.size + new.size ≤ sizeLine) (h : Q () { s with heap := s.heap.update l (Obj.mapSeq fun xs => xs.extract 0 a ++ new ++ xs.extract c xs.size) }) :
    wpAny (model prog w) A (setItem (.ref l) (.ref sl) (.ref b)) Q E s := by
  have hl : s.heap.IsList l items := PySem.IsL.isList e
  have hb : s.heap.IsList b new := PySem.IsL.isList e2
  obtain ⟨os, hos, hcs, hds⟩ := id hs
  have hTs : s.TypeIs (.ref sl) "slice" := ⟨os, hos, hcs⟩
  have hstep : ¬ ((rawPart none == rawInt 0) = true) := Bool.false_ne_true
  have hsame : Builtin.List.listSameRef (.ref l) (.ref b) = false := by
    unfold Builtin.List.listSameRef
    exact beq_eq_false_iff_ne.mpr hne
  have hmax : (max (a : Int) (c : Int)).toNat = c := by omega
  have hz' : ((fun xs : Array Value => xs.extract 0 a ++ new ++ xs.extract c xs.size) items).size ≤ sizeLine + 1 := by
    simp only [Array.size_append, Array.size_extract]
    omega
  unfold setItem
  try with_reducible refine wpAny_holding ?_
  first | refine wpAny_bind (wpAny_pure ?_) | skip
  refine wpAny_bind (wpAny_sequenceKey hl.typeIs (by decide) ?_)
  refine wpAny_bind (wpAny_callSpecial?_slot (name := Str.ofString "__setitem__") hl.typeIs slot_list_setitem
    (wpAny_call_entry slot_list_setitem hl.typeIs entry_list_setitem ?_ (args_list_setitem _ _ _)))
  show wpAny _ _ (Builtin.List.listSubscript? (.ref sl) >>= _) _ _ s
  refine wpAny_bind ?_
  unfold Builtin.List.listSubscript?
  refine wpAny_bind (wpAny_specialOf hTs slice_no_index ?_)
  simp only [Option.isNone_none, if_true]
  refine wpAny_pure ?_
  show wpAny _ _ (typeOf (.ref sl) >>= _) _ _ s
  refine wpAny_bind (wpAny_typeOf hTs ?_)
  first
    | rw [if_neg (by decide)]
    | refine PySem.W.KFB.if_not (by decide) ?_
  rw [listSliceParts_eq]
  refine wpAny_bind (wpAny_bind (wpAny_field hos hds (x := .none) rfl (wpAny_bind (wpAny_listPart .none ?_))))
  rw [if_neg hstep]
  refine wpAny_bind (wpAny_field hos hds (x := vl) rfl (wpAny_bind (wpAny_listPart pl ?_)))
  refine wpAny_bind (wpAny_field hos hds (x := vu) rfl (wpAny_bind (wpAny_listPart pu (wpAny_pure ?_))))
  first
    | simp only [hsame, Bool.false_eq_true, if_false]
    | refine PySem.W.KFB.if_not hsame ?_
    | (dsimp only
       rw [if_neg (by rw [hsame]; exact Bool.false_ne_true)])
  refine wpAny_bind (m := Builtin.List.listAllItems (.ref b) "must assign iterable to extended slice") ?_
  unfold Builtin.List.listAllItems
  refine wpAny_bind (wpAny_typeOf hb.typeIs ?_)
  first
    | refine PySem.W.KFB.if_so (by decide) ?_
    | rw [if_pos (by decide)]
    | simp only [beq_self_eq_true, Bool.true_or, if_true]
  unfold Builtin.List.listItems
  refine wpAny_bind (wpAny_seqItems e2 rfl (wpAny_pure ?_))
  refine wpAny_bind (wpAny_bind (wpAny_seqItems e rfl (wpAny_pure ?_)))
  refine wpAny_bind (wpAny_of_eq ((sliceIndices_raw (some (a : Int)) (some (c : Int)) none items.size (by simp)).trans (congrArg (pure : Int × Int × Int → Sem (Int × Int × Int)) (bounds_run hac hc))) ?_)
  show wpAny _ _ (if ((1 : Int) == 1) = true then _ else _) _ _ s
  rw [if_pos (by decide)]
  refine wpAny_bind (wpAny_rule ?_)
  first
    | simp only [notLongL hsz, Bool.false_eq_true, if_false]
    | refine PySem.W.KFB.if_not (notLongL hsz) ?_
  first | refine wpAny_bind (wpAny_pure ?_) | skip
  show wpAny _ _ (updateSeq l (fun xs => xs.extract 0 ((a : Int)).toNat ++ new ++ xs.extract (max (a : Int) (c : Int)).toNat xs.size) >>= _) _ _ s
  rw [hmax, Int.toNat_natCast]
  refine wpAny_bind (wpAny_updateSeq (hz := Nat.le_trans (Nat.le_add_right _ _) hsz) (_hz' := hz') e rfl ?_)
  refine wpAny_bind (wpAny_letGo ?_)
  first
    | exact wpAny_bind (wpAny_pure (wpAny_pure ⟨.none, rfl, wpAny_pure h⟩))
    | exact wpAny_pure ⟨.none, rfl, wpAny_pure h⟩
end

section
variable {X : Cx}
end
end L2

namespace Att
open PySem PySem.W PySem.Calls PyProof.Rows

/-! ### the script -/
theorem ints_of_wellAll {P : Params} {h : Heap} : ∀ (ns : List Int) (vs : List Value), WellAll P h vs (ns.map WData.int) → IntsAre vs ns := by
  intro ns
  induction ns with
  | nil =>
    intro vs w
    rw [List.map_nil] at w
    cases w
    exact .nil
  | cons n ns ih =>
    intro vs w
    rw [List.map_cons] at w
    cases w with
    | cons a b =>
      cases a
      exact .cons _ _ (ih _ b)

theorem script_of {l : OpenLaw} {n : Nat} (hn : l.most = some n) {P : Params} {h : Heap} {args : List WData} {vals : List Value}
    (hpre : l.row.toRowW.claim.pre args = true) (hwl : WellAll P h vals args) :
    ∃ a vs ns, vals = [Value.ref a] ∧ args = [WData.list (ns.map WData.int)] ∧ h.get? a = some { cls := .type "list", data := .seq vs.toArray } ∧ IntsAre vs ns ∧ ns.length ≤ n := by
  have hsh : WShape.hasAll [] args [.list .int] = true := (pre_splitW hpre).1
  have hc : l.pre.holds [] { args := args } = true := (pre_splitW hpre).2
  obtain ⟨d, r, rfl, h1, h2⟩ := hasAllW_cons hsh
  obtain rfl := hasAllW_nil h2
  obtain ⟨xs, rfl, h3⟩ := hasW_list h1
  obtain ⟨ns, rfl⟩ := items_int h3
  have hlen : ns.length ≤ n := by
    unfold OpenLaw.pre at hc
    have h4 : (WTm.not (.lt (.lit (.int (n : Int))) (.len (.arg 0)))).holds [] { args := [.list (ns.map .int)] } = true := by
      have h4 := (holds_andW hc).1
      rw [hn] at h4
      exact h4
    have h5 := condW_of h4 (w_not (w_lt w_lit (w_len_list (w_arg rfl))))
    rw [List.length_map] at h5
    refine Nat.le_of_not_lt fun q => ?_
    have q' : (n : Int) < ((ns.length : Nat) : Int) := by omega
    first
      | (rw [decide_eq_true q'] at h5; exact absurd h5 (by decide))
      | (simp at h5; omega)
  cases hwl with
  | cons w1 w2 =>
    cases w2
    cases w1 with
    | list ho hall => exact ⟨_, _, ns, rfl, rfl, ho, ints_of_wellAll ns _ hall, hlen⟩

theorem post_true (l : OpenLaw) (args : List WData) : l.row.toRowW.claim.post args (.bool true) args = true :=
  postW_of (r := l.row.toRowW) (X := (true == true))
    (show WShape.has [] (.bool true) .bool = true by first | rfl | decide | simp [WShape.has, WShape.arms, WShape.armsAll])
    (show (WTm.eq .res (.lit (.bool true))).value [] { args := args, res := some (.bool true), after := args } = some (.bool (true == true)) from w_eq_bool (w_res rfl) w_lit) rfl

/-! ### the attachment: holds_open's last premise (the goal 'hc' behind k_head) from a wpAny of the law's body -/

/-- the same from a codeAny of the CALL (for a layer whose function contracts speak of calls) -/
theorem attach_call {l : OpenLaw} {n : Nat} {q : Program} {loose : List Str} {XP : (Str → Option Value) → Heap → Prop} {YP : World → Heap → Prop} {d : DefRec}
    (hn : l.most = some n) (hdf : d.params.defaults = [])
    (call : ∀ (w : World) (s₀ s₁ : Shared) (mg mb : Str → Option Value) (fa : Addr) (o : Obj) (pm cd doc : Value) (a : Addr) (vs : List Value) (ns : List Int),
      Ground q loose [] XP w s₀ mg mb s₁.heap → YP w s₁.heap →
      s₁.heap.get? fa = some o → o.data = .func (docDef d.name d.params d.body d.scope pm cd doc) → s₁.heap.CodeRec cd d.name → mg d.name = some (.ref fa) →
      s₁.heap.get? a = some { cls := .type "list", data := .seq vs.toArray } → IntsAre vs ns → ns.length ≤ n → s₁.gens = #[] →
      codeAny (model l.prog w) callerA (.call (.ref fa) ⟨[.ref a], []⟩) (fun r s' => r = .ok (.ret (.bool true)) ∧ OldK s₁.heap s'.heap ∧ s'.os = s₁.os ∧ AllBare s'.gens) s₁) :
    WalkO q loose XP YP l.row.toRowW d [] (fun f vs => PySem.call f vs) := by
  intro w s₀ s₁ mg mb G Y fa o pm cd doc dV kV ho hd hcd hD hmg hg args vals as hpre hlay hrd hwl hlo
  obtain rfl : dV = .none := Dflts.none hD hdf
  obtain rfl : kV = .none := Dflts.noKw hD
  obtain ⟨a, vs, ns, rfl, rfl, hobj, hints, hlen⟩ := script_of hn hpre hwl
  refine enter_call (codeAny_mono (call w s₀ s₁ mg mb fa o pm cd doc a vs ns G Y ho (fd_plain hd) hcd hmg hobj hints hlen hg) fun r s' hq => ?_)
  obtain ⟨rfl, h2, h3, h4⟩ := hq
  exact ⟨.inl ⟨.bool true, .bool true, [], rfl, fun _ => rfl, .bool true, post_true l _, fun _ => ⟨List.Pairwise.nil, fun _ hm => (nomatch hm)⟩⟩, h2, h3, h4⟩


/-! ### rules over ANY heap (no ledger) from facts about the written part K: the library's own take a ledger (News) for what they write -/
section
variable {prog : Program} {w : World} {A : Around} {E : Value → Shared → Prop} {s : Shared} {K : Frag}





/-! the whole heap as the ledger: makes every rule that writes through a ledger a rule over any heap -/
def noObjs (h : Heap) : Heap := { h with objs := #[] }
def ledger (h : Heap) (L d : Addr) : List (Addr × Obj) := (List.range h.objs.size).filterMap fun a => if a = L ∨ a = d then none else (h.get? a).map fun o => (a, o)

end
end Att

namespace L2
open PySem PySem.Spec PyProof.Rows

theorem vals_ints : ∀ {vs : List Value} {ns : List Int}, IntsAre vs ns → Vals (ns.map V.int) vs
  | _, _, .nil => .nil
  | _, _, .cons n t h => .cons ⟨t, rfl⟩ (vals_ints h)

/-- nothing is tracked but the script, known to the object (or it is an object of the module) -/
def Only (H : Hp) : Prop := ∀ b, H b = none ∨ ∃ o xs, H b = some (.frz o (.lst xs))

/-- THE HEAD: the law's promise, at the heap behind the top. F, the promise of the law's def, may use that base is part of the heap (so K.In base, base.Ns mainGlobals mg stand in Mod) -/
theorem law_call {P : Program} {w : World} {K : PySem.W.Frag} {mg mb : Str → Option Value} {CX : CXT} {k : Nat} {fa a : Addr} {fd : FuncData} {x : Str} {sp : Sp} {s₁ : Shared} {vs : List Value} {ns : List Int}
    (KX : K.In s₁.heap) (hns : s₁.heap.Ns mainGlobals mg) (hb : s₁.heap.Ns builtinsNs mb) (hbb : ∀ x : Str, x ≠ "__name__" → mb x = bootBuiltins x) (hlim : s₁.heap.NoLimit) (hg : s₁.gens = #[])
    (ha : s₁.heap.get? a = some { cls := .type "list", data := .seq vs.toArray }) (hi : IntsAre vs ns) (hl : ns.length ≤ sizeLine) (hr : Room k callerA)
    (F : ∀ base : Heap, K.In base → base.Ns mainGlobals mg → FnOk P w K mg base CX k fa fd [x] sp) (hbind : ∀ (s : Shared) (u : Value), BindsTo s fd ⟨[u], []⟩ [(x, u)])
    (hsp : ∀ H : Hp, Only H → SqL K H a (ns.map V.int) → sp [.ref a] H (fun v _ => v = .bl true) fun _ _ _ => False)
    (hCX : ∀ H e s', CX [] H s₁ (fun _ _ _ => False) e s' → False) :
    codeAny (model P w) callerA (.call (.ref fa) ⟨[.ref a], []⟩) (fun r s' => r = .ok (.ret (.bool true)) ∧ OldK s₁.heap s'.heap ∧ s'.os = s₁.os ∧ AllBare s'.gens) s₁ := by
  have rv := vals_ints hi
  have lenV := hi.length
  -- from an abstract heap in which nothing but the script may be tracked
  have core : ∀ H : Hp, Only H → SqL K H a (ns.map V.int) → HOk P w H s₁.heap → (∀ b, H b ≠ none → b = a) → (H a ≠ none → K.lookup a = none) →
      codeAny (model P w) callerA (.call (.ref fa) ⟨[.ref a], []⟩) (fun r s' => r = .ok (.ret (.bool true)) ∧ OldK s₁.heap s'.heap ∧ s'.os = s₁.os ∧ AllBare s'.gens) s₁ := by
    intro H hO hS hok hA hK
    have base_of : ∀ {b : Addr} {o : Obj}, s₁.heap.get? b = some o → H b = none → (hidT s₁.heap H).get? b = some o := fun e n => hidT_get e n
    have noA : ∀ {b : Addr} {o : Obj} {es : Array DictEntry} {ep : Nat}, s₁.heap.get? b = some o → o.data = .dict es ep → H b = none := fun {b o es ep} e d => by
      cases q : H b with
      | none => rfl
      | some u =>
        have e' : b = a := hA b (by rw [q]; simp)
        subst e'
        rw [ha] at e; cases e
        have d' : Data.seq vs.toArray _ = Data.dict es ep := d
        cases d'
    have nsK : ∀ {b : Addr} {m : Str → Option Value}, s₁.heap.Ns b m → (hidT s₁.heap H).Ns b m := fun {b m} ⟨o, es, ep, e, d, r⟩ => ⟨o, es, ep, base_of e (noA e d), d, r⟩
    have hKb : K.In (hidT s₁.heap H) := fun b o e => base_of (KX b o e) (by
      cases q : H b with
      | none => rfl
      | some u =>
        have e' : b = a := hA b (by rw [q]; simp)
        subst e'
        rw [hK (by rw [q]; simp)] at e; cases e)
    have hM : Mod K mg (hidT s₁.heap H) := ⟨hKb, nsK hns, ⟨mb, nsK hb, hbb⟩, let ⟨mc, h1, h2⟩ := hlim; ⟨mc, nsK h1, h2⟩⟩
    have e0 : Env0 P w K mg (hidT s₁.heap H) callerA [] s₁ H := ⟨rfl, hM, fun b o e => of_hidT e, Nat.le_of_eq (hidT_size _ _), trivial, fun b hb => absurd (show b ∈ ([] : List Addr) from hb) (by simp), hok, .of_eq hg⟩
    refine codeAny_mono ((F _ hKb (nsK hns)).run callerA [] s₁ H ⟨[.ref a], []⟩ [.ref a] [.ref a] _ _ hr e0 (hbind s₁ (.ref a)) (.cons rfl .nil) (hsp H hO hS)) fun r s' h => ?_
    cases r with
    | error e => exact (hCX H e s' h).elim
    | ok fl =>
      cases fl with
      | next => exact False.elim h
      | brk => exact False.elim h
      | cont => exact False.elim h
      | ret u =>
        obtain ⟨v, H', os, bare, un, hok', r', q⟩ := h
        have q' : v = .bl true := q
        subst q'
        obtain rfl : u = Value.bool true := r'
        refine ⟨rfl, OldK.of_keep fun b o e => ?_, os, bare⟩
        cases q : H b with
        | none => exact un.keep b o e q (by intro z; exact absurd (show b ∈ ([] : List Addr) from z) (by simp)) (by simp)
        | some u =>
          rcases hO b with z | ⟨ob, xs, z⟩
          · rw [q] at z; cases z
          · have z2 := un.frzs b ob _ z
            obtain ⟨e1, _⟩ := hok b _ z
            obtain ⟨e2, _⟩ := hok' b _ z2
            rw [e] at e1; cases e1
            exact e2
  cases hk : K.lookup a with
  | some o =>
    -- the script is one of the module's own objects
    have e := KX a o hk
    rw [ha] at e
    cases e
    refine core (fun _ => none) (fun _ => .inl rfl) (.inr ⟨_, vs.toArray, _, hk, rfl, rfl, rfl, by rw [List.size_toArray, lenV]; exact hl, by simpa using rv⟩) (fun b u z => by have z' : (none : Option HO) = some u := z; cases z') (fun b z => absurd rfl z) fun z => absurd rfl z
  | none =>
    refine core (fun b => if b = a then some (.frz { cls := .type "list", data := .seq vs.toArray } (.lst (ns.map V.int))) else none) (fun b => ?_) (.inl (.inr ⟨{ cls := .type "list", data := .seq vs.toArray }, if_pos rfl⟩)) (fun b u z => ?_) (fun b z => ?_) fun _ => hk
    · by_cases hb : b = a
      · exact .inr ⟨_, _, if_pos hb⟩
      · exact .inl (if_neg hb)
    · by_cases hb : b = a
      · have z' := (if_pos hb).symm.trans z
        cases z'
        subst hb
        exact ⟨ha, by rw [List.length_map]; exact hl, vs, _, rv, ha⟩
      · have z' := (if_neg hb).symm.trans z
        cases z'
    · by_cases hb : b = a
      · exact hb
      · exact absurd (if_neg hb) z
end L2

namespace L2
open PySem PySem.Spec PyProof.Rows

abbrev KOf {K : PySem.W.Frag} {h : Heap} (_ : K.In h) : PySem.W.Frag := K

/-- the goal that k_head leaves (case hc), from the law's promise. F gives the function object fd (K's own) once, then the promise over every base -/
theorem walk_of {l : PySem.W.OpenLaw} {n k : Nat} {q : Program} {loose : List Str} {XP : (Str → Option Value) → Heap → Prop} {YP : World → Heap → Prop} {d : DefRec} {K : Params → PySem.W.Frag} {CX : World → CXT} {sp : World → Sp} {x : Str}
    (hn : l.most = some n) (hn2 : n ≤ sizeLine) (hdf : d.params.defaults = []) (hr : Room k callerA)
    (hY : ∀ (w : World) (h : Heap), YP w h → (K w.params).In h)
    (F : ∀ (w : World) (mg : Str → Option Value) (fa : Addr) (h : Heap), (K w.params).In h → h.Ns mainGlobals mg → mg d.name = some (.ref fa) →
      ∃ fd : FuncData, (∀ (s : Shared) (u : Value), BindsTo s fd ⟨[u], []⟩ [(x, u)]) ∧
        ∀ base : Heap, (K w.params).In base → base.Ns mainGlobals mg → FnOk l.prog w (K w.params) mg base (CX w) k fa fd [x] (sp w))
    (hsp : ∀ (w : World) (H : Hp) (a : Addr) (ns : List Int), ns.length ≤ n → Only H → SqL (K w.params) H a (ns.map V.int) → sp w [.ref a] H (fun v _ => v = .bl true) fun _ _ _ => False)
    (hCX : ∀ (w : World) (H : Hp) (s : Shared) (e : Value) (s' : Shared), CX w [] H s (fun _ _ _ => False) e s' → False) :
    PySem.W.WalkO q loose XP YP l.row.toRowW d [] (fun f vs => PySem.call f vs) := by
  refine Att.attach_call hn hdf fun w s₀ s₁ mg mb fa o pm cd doc a vs ns G Y ho hd hcd hmg hobj hints hlen hg => ?_
  have KX := hY w _ Y
  obtain ⟨fd, hb, hF⟩ := F w mg fa _ KX G.T.g hmg
  exact law_call KX G.T.g G.T.b G.T.builtins G.T.nolimit hg hobj hints (Nat.le_trans hlen hn2) hr hF hb (fun H hO hS => hsp w H a ns hlen hO hS) fun H e s' => hCX w H s₁ e s'
end L2

/- THE LAST THEOREM (shape; LID, My.* are yours):
   My.Adr: a structure of the addresses that your layer names (classes, functions); My.Txt K t: a structure (Prop) of the equations over K;
   My.txt_mk : {K} {implicit addresses ..} (e1 : nsIn K mainGlobals "law" = some (some (.ref f))) (e2 : K.lookup f = some ⟨oc, od, .func (fnOf "law" "law" params body scope dV kV doc pm an cdv ct), sl⟩) (e3 : codeIn K cdv "law" = true) .. : ∃ t, My.Txt K t

set_option maxRecDepth 100000 in
set_option maxHeartbeats 0 in
theorem PySem.Challenge.cw_LID_holds : PySem.Challenge.rw_LID.Holds := by
  w_on; o_law; k_head; (case hw => w_witness2)
  k_fill
  refine L2.walk_of (l := PySem.Challenge.rw_LID) (n := 63) (k := 40) (x := "script") (CX := fun w => ..) (sp := fun _ => My.sp_law) rfl (by decide) rfl ⟨rfl, by decide, by decide⟩ (fun w h Y => PySem.W.kIn_of Y) ?F ?S ?C
  case F =>
    intro w mg fa h KX G hmg
    have T : ∃ t, My.Txt (L2.KOf KX) t := by
      dsimp only [L2.KOf]                          -- K must stand as «<heap const> w.params» for k_is
      refine' My.txt_mk ?e1 ?e2 ?e3 ..
      (case e1 => PySem.W.k_is)                    -- in the order: a name -> its address -> its object -> its parts
      (case e2 => PySem.W.k_is)
      ..
    obtain ⟨t, T⟩ := T
    have e0 := hmg.symm.trans (PySem.W.mg_of KX G T.law)
    cases e0                                       -- fa is the law's own address
    exact ⟨_, fun s u => .of_eq rfl, fun base kb nb => My.law_fn T kb nb⟩     -- if «.of_eq rfl» comes too early: refine' ⟨_, ?b, fun base kb nb => My.law_fn T kb nb⟩; exact fun s u => .of_eq rfl
  case S => exact fun w H a ns hl hO hS => ..
  case C => exact ..
(the tactic k_is has no namespace: write k_is) -/

/-! SHORT WORDS over the layer: a def of the text, its body, what a loop and a test want. -/
namespace L2
open PySem PySem.Spec PyProof.Rows

/-! ### the text by places -/
/-- the j-th statement of a class's body -/
def inClass (s : Stmt) (j : Nat) : Stmt := match s with
  | .ClassDef _ _ _ body _ _ _ _ _ _ _ => body.getD j (.Pass ⟨0, 0, 0, 0⟩)
  | _ => .Pass ⟨0, 0, 0, 0⟩
def defArgs (s : Stmt) : Arguments := match s with
  | .FunctionDef _ a _ _ _ _ _ _ _ _ => a
  | _ => { posonlyargs := [], args := [], vararg := none, kwonlyargs := [], kw_defaults := [], kwarg := none, defaults := [] }
def defBody (s : Stmt) : List Stmt := match s with
  | .FunctionDef _ _ b _ _ _ _ _ _ _ => b
  | _ => []
def defScope (s : Stmt) : Scope := match s with
  | .FunctionDef _ _ _ _ _ _ sc _ _ _ => sc
  | _ => { kind := .function, names := [], isGenerator := false, isCoroutine := false }

/-! ### no exception leaves a def -/
abbrev CX0 : CXT := fun _ _ _ _ _ _ => False
abbrev E0 : XK := fun _ _ _ => False
theorem pass0 {X : Cx} : Passes CX0 X E0 := fun _ _ _ _ _ _ _ h => h.elim

/-! ### a def (or method) of the text as it stands behind the top -/
structure Fun (K : PySem.W.Frag) (x qual : Str) (st : Stmt) (f : Addr) (fd : FuncData) : Prop where
  ex : ∃ (oc : Value) (od : Option Addr) (kV doc pm : Value) (an : Option Addr) (cdv ct : Value) (osl : Array (Option Value)),
    fd = PySem.W.fnOf x qual (defArgs st) (defBody st) (defScope st) .none kV doc pm an cdv ct ∧ K.lookup f = some ⟨oc, od, .func fd, osl⟩ ∧ PySem.W.codeIn K cdv qual = true
  kp : PySem.W.keepIn K (.ref f) = true
section
variable {P : Program} {w : World} {K : PySem.W.Frag} {mg : Str → Option Value} {base : Heap}
/-- THE RULE for a def: its body as a term of rules, and the reading of that term -/
theorem Fun.ok {x qual : Str} {st : Stmt} {f : Addr} {fd : FuncData} {N ps : List Str} {k : Nat} {sp : Sp} (F : Fun K x qual st f fd) (S : FnScope N ps (defScope st)) (len : ∀ vs H Q E, sp vs H Q E → vs.length = ps.length)
    (hbody : ∀ (cdv : Value) (A : Around) (outer : List Env) (s : Shared) (H : Hp) (vs : List V) (Q : VK) (E : XK), Room k (A.deeper (envOfC qual (defScope st) s.heap.objs.size f cdv)) → sp vs H Q E →
      ∃ t, PSs (cxOf CX0 P w K mg base N qual (defScope st) f cdv A outer s H E).nox (defBody st) t ∧ t { nx := fun _ H' => Q .non H', rt := Q } (start N vs) H) : FnOk P w K mg base CX0 (k + 1) f fd ps sp := by
  obtain ⟨oc, od, kV, doc, pm, an, cdv, ct, osl, rfl, lk, hcd⟩ := F.ex
  refine fn_of lk hcd S len fun A outer s H vs Q E hr hsp => ?_
  obtain ⟨t, h, q⟩ := hbody cdv A outer s H vs Q E hr hsp
  exact ⟨t, h.nox, q⟩
/-- how its arguments bind (no defaults): h is «fun _ _ _ _ _ _ us hl => match us, hl with | [_, _], _ => rfl», one _ a parameter -/
theorem Fun.binds {x qual : Str} {st : Stmt} {f : Addr} {fd : FuncData} {ps : List Str} (F : Fun K x qual st f fd)
    (h : ∀ (kV doc pm : Value) (an : Option Addr) (cdv ct : Value) (us : List Value), us.length = ps.length → bindArgs (PySem.W.fnOf x qual (defArgs st) (defBody st) (defScope st) .none kV doc pm an cdv ct) ⟨us, []⟩ = pure (ps.zip us)) : Binds K fd ps [] := by
  obtain ⟨oc, od, kV, doc, pm, an, cdv, ct, osl, rfl, lk, hcd⟩ := F.ex
  exact .all (h kV doc pm an cdv ct)
theorem fun_mk {x qual : Str} {st : Stmt} {f : Addr} {oc : Value} {od an : Option Addr} {osl : Array (Option Value)} {kV doc pm cdv ct : Value} (l : K.lookup f = some ⟨oc, od, .func (PySem.W.fnOf x qual (defArgs st) (defBody st) (defScope st) .none kV doc pm an cdv ct), osl⟩)
    (c : PySem.W.codeIn K cdv qual = true) (k : PySem.W.keepIn K (.ref f) = true) : Fun K x qual st f (PySem.W.fnOf x qual (defArgs st) (defBody st) (defScope st) .none kV doc pm an cdv ct) := ⟨⟨oc, od, kV, doc, pm, an, cdv, ct, osl, rfl, l, c⟩, k⟩
end
theorem hu_of {A : Around} {k : Nat} (hr : Room k A) : A.units + 1 < cLine := Nat.lt_of_le_of_lt (Nat.add_le_add_left (by decide : 1 ≤ 64) _) hr.units

/-! ### expressions in short: the name that stands in the i-th slot -/
section
variable {X : Cx}
theorem pv (i : Nat) {x : Str} {pos : Pos} (hN : X.N[i]? = some x := by rfl) (hv : Vis X.env.scope x := by first | exact Or.inl rfl | exact Or.inr (Or.inl rfl) | exact Or.inr (Or.inr rfl)) (hd : (x == ("__debug__" : Str)) = false := by decide)
    (hcd : (x == ("__classdict__" : Str)) = false := by decide) : PE X (.Name x pos) (tVar i) := pe_var hN hv hd hcd
end

/-! ### tests -/
theorem iteF {A B : Prop} (h : B) : if false = true then A else B := by
  rw [if_neg Bool.false_ne_true]
  exact h
theorem iteT {A B : Prop} (h : A) : if true = true then A else B := by
  rw [if_pos rfl]
  exact h
theorem ite2 {c A B : Prop} [Decidable c] (h1 : c → A) (h2 : ¬ c → B) : if c then A else B := by
  by_cases h : c
  · rw [if_pos h]
    exact h1 h
  · rw [if_neg h]
    exact h2 h
theorem iteNS {c A B : Prop} [Decidable c] (hc : c) (h : B) : if (!decide c) = true then A else B := by
  rw [decide_eq_true hc]
  exact iteF h

/-! ### heaps -/
/-- all that was tracked is as it was -/
def Same (H H' : Hp) : Prop := ∀ b o, H b = some o → H' b = some o
theorem Same.refl (H : Hp) : Same H H := fun _ _ h => h
theorem Same.trans {H H1 H2 : Hp} (a : Same H H1) (b : Same H1 H2) : Same H H2 := fun c o h => b c o (a c o h)
theorem Same.seq {K : PySem.W.Frag} {H H' : Hp} {a : Addr} {xs : List V} (e : Same H H') (h : SqL K H a xs) : SqL K H' a xs := by
  rcases h with (h | ⟨o, h⟩) | h
  · exact .inl (.inl (e _ _ h))
  · exact .inl (.inr ⟨o, e _ _ h⟩)
  · exact .inr h

/-! ### a dict's pairs: keys that differ -/
section
variable {κ : Type} [DecidableEq κ]
end
end L2

set_option Elab.async false
set_option linter.all false
set_option maxRecDepth 100000
/-! More rules over the hand layer: texts, comprehensions. -/
namespace L2
open PySem PySem.Spec PyProof.Rows

/-! ### texts by their codes -/
def T (l : List Nat) : Str := ⟨l.toArray⟩
theorem T_len (l : List Nat) : (T l).length = l.length := by
  show l.toArray.size = l.length
  simp
theorem T_list (l : List Nat) : (T l).cps.toList = l := rfl
theorem T_inj {a b : List Nat} (h : T a = T b) : a = b := congrArg (fun x : Str => x.cps.toList) h
theorem T_app (a b : List Nat) : T a ++ T b = T (a ++ b) := by
  refine ext_toList ?_
  rw [PySem.W.KT.app_list]
  rfl

/-! ### the signs of a text, walked -/
def Its (l : List Nat) : It := ⟨fun i _ => i < l.length, fun i H x H' => H' = H ∧ ∃ c, l[i]? = some c ∧ x = .str (T [c]), fun i _ => l.length ≤ i⟩
theorem T_at {l : List Nat} {i c : Nat} (h : l[i]? = some c) : (T l).cps[i]? = some c := by
  show l.toArray[i]? = some c
  simpa using h
theorem T_past {l : List Nat} {i : Nat} (h : l.length ≤ i) : (T l).cps[i]? = none := by
  show l.toArray[i]? = none
  simpa using h
theorem turn_strA {P : Program} {w : World} {K : PySem.W.Frag} {tg : Expr} (l : List Nat) (t : Tok) (it : Addr) : Turn P w K tg (Its l) [it] it (fun i h => h.IsStrIter it "str_ascii_iterator" (T l) t i) where
  mem := by simp
  obj := fun i h st b hb => by
    have e : b = it := by simpa using hb
    subst e
    obtain ⟨o, e, c, d⟩ := st
    exact ⟨o, e, fun v z => by rw [d] at z; cases z⟩
  keep := fun i h h' st k => by
    obtain ⟨o, e, r⟩ := st
    exact ⟨o, k it (by simp) o e, r⟩
  item := by
    intro X hP hw hK hc i pins s σ H E I hf st hg
    subst hP hw hK
    have hi : i < l.length := hg
    have hx : l[i]? = some l[i] := by simp [hi]
    obtain ⟨f0, f1, f2, f3, f4, f5⟩ := hf it (by simp)
    refine wpAny_pyNext_ascii_item st (T_at hx) fun h' st' sb => ?_
    have I1 : Inv X pins σ H { s with heap := h', toks := s.toks + 1 } := I.turned (t' := s.toks + 1) (fun b o hb e => (sb.2 b hb).trans e) f0 f1 f3 f4 f5
    obtain ⟨o, e, c, d⟩ := id st'
    exact ⟨_, rfl, go_of (s := { s with heap := h', toks := s.toks + 1 }) e c d (by decide) ⟨.str (T [l[i]]), H, I1, ⟨_, rfl⟩, ⟨rfl, l[i], hx, rfl⟩, st', fun b hb => (hf b hb).1⟩⟩
  done := by
    intro X hP hw hK hc i pins s σ H E I hf st hg
    subst hP hw hK
    obtain ⟨f0, f1, f2, f3, f4, f5⟩ := hf it (by simp)
    exact wpAny_pyNext_ascii_end (I.ok.hd hc) st (T_past hg) fun h' eb => ⟨rfl, I.turned (t' := s.toks) (fun b o hb e => eb b o hb e) f0 f1 f3 f4 f5⟩
  self := fun _ _ _ _ _ st h => wpAny_pyIter_striter_ascii st h
theorem turn_strW {P : Program} {w : World} {K : PySem.W.Frag} {tg : Expr} (l : List Nat) (t : Tok) (it : Addr) : Turn P w K tg (Its l) [it] it (fun i h => h.IsStrIter it "str_iterator" (T l) t i) where
  mem := by simp
  obj := fun i h st b hb => by
    have e : b = it := by simpa using hb
    subst e
    obtain ⟨o, e, c, d⟩ := st
    exact ⟨o, e, fun v z => by rw [d] at z; cases z⟩
  keep := fun i h h' st k => by
    obtain ⟨o, e, r⟩ := st
    exact ⟨o, k it (by simp) o e, r⟩
  item := by
    intro X hP hw hK hc i pins s σ H E I hf st hg
    subst hP hw hK
    have hi : i < l.length := hg
    have hx : l[i]? = some l[i] := by simp [hi]
    obtain ⟨f0, f1, f2, f3, f4, f5⟩ := hf it (by simp)
    refine wpAny_pyNext_wide_item st (T_at hx) fun h' st' sb => ?_
    have I1 : Inv X pins σ H { s with heap := h', toks := s.toks + 1 } := I.turned (t' := s.toks + 1) (fun b o hb e => (sb.2 b hb).trans e) f0 f1 f3 f4 f5
    obtain ⟨o, e, c, d⟩ := id st'
    exact ⟨_, rfl, go_of (s := { s with heap := h', toks := s.toks + 1 }) e c d (by decide) ⟨.str (T [l[i]]), H, I1, ⟨_, rfl⟩, ⟨rfl, l[i], hx, rfl⟩, st', fun b hb => (hf b hb).1⟩⟩
  done := by
    intro X hP hw hK hc i pins s σ H E I hf st hg
    subst hP hw hK
    obtain ⟨f0, f1, f2, f3, f4, f5⟩ := hf it (by simp)
    exact wpAny_pyNext_wide_end (I.ok.hd hc) st (T_past hg) fun h' eb => ⟨rfl, I.turned (t' := s.toks) (fun b o hb e => eb b o hb e) f0 f1 f3 f4 f5⟩
  self := fun _ _ _ _ _ st h => wpAny_pyIter_striter_wide st h
def iStr (tl : TE) : TI := fun σ H R => tl σ H fun x H1 => ∃ l, x = .str (T l) ∧ R (Its l) H1
theorem pi_str {X : Cx} {tg e : Expr} {tl : TE} (hl : PE X e tl) : PI X tg e (iStr tl) := by
  intro pins s σ H R I h
  refine thn (hl pins s σ H _ I h) fun v s1 ⟨x, H1, I1, r1, q1⟩ => ?_
  obtain ⟨l, rfl, q⟩ := q1
  obtain ⟨t, rfl⟩ := (show ∃ t, v = Value.str (T l) t from r1)
  cases ha : (T l).cps.all (· < 128) with
  | true =>
    refine wpAny_pyIter_ascii ha ?_
    refine ⟨s1.heap.objs.size, [s1.heap.objs.size], _, _, H1, rfl, I1.kept (t' := s1.toks) fun b o e => Heap.get?_push_of_some _ e, turn_strA l t _, ⟨_, Heap.get?_push_size _ rfl, rfl, rfl⟩, fun b hb => ?_, q⟩
    have e : b = s1.heap.objs.size := by simpa using hb
    subst e
    exact I1.fpOk (Nat.le_refl _) (I1.hok.fresh (Nat.le_refl _))
  | false =>
    refine wpAny_pyIter_wide ha ?_
    refine ⟨s1.heap.objs.size, [s1.heap.objs.size], _, _, H1, rfl, I1.kept (t' := s1.toks) fun b o e => Heap.get?_push_of_some _ e, turn_strW l t _, ⟨_, Heap.get?_push_size _ rfl, rfl, rfl⟩, fun b hb => ?_, q⟩
    have e : b = s1.heap.objs.size := by simpa using hb
    subst e
    exact I1.fpOk (Nat.le_refl _) (I1.hok.fresh (Nat.le_refl _))
/-- over the signs of a text -/
theorem for_str {l : List Nat} {g : TG} {tb : TS} {D : Ends} {σ : St} {H : Hp} (Pv : Nat → St → Hp → Prop) (h0 : Pv 0 σ H)
    (hs : ∀ i c σ H, l[i]? = some c → Pv i σ H → g (.str (T [c])) σ H fun σ2 H2 => tb { D with nx := Pv (i + 1), ct := Pv (i + 1), bk := D.nx } σ2 H2) (hd : ∀ σ H, Pv l.length σ H → D.nx σ H) :
    ∃ W : Nat → Nat → St → Hp → Prop, (∃ m, W 0 m σ H) ∧ ∀ i m σ H, W i m σ H →
      ((Its l).stop i H ∧ D.nx σ H) ∨ ((Its l).go i H ∧ ∃ N : St → Hp → Prop, (∀ σ' H', N σ' H' → ∃ m', m' < m ∧ W (i + 1) m' σ' H') ∧ ∀ x H', (Its l).yld i H x H' → g x σ H' fun σ2 H2 => tb { D with nx := N, ct := N, bk := D.nx } σ2 H2) := by
  refine ⟨fun i m σ H => m = l.length - i ∧ i ≤ l.length ∧ Pv i σ H, ⟨l.length, by simp, Nat.zero_le _, h0⟩, ?_⟩
  rintro i m σ H ⟨rfl, hi, p⟩
  by_cases hlt : i < l.length
  · refine .inr ⟨hlt, Pv (i + 1), fun σ' H' p' => ⟨l.length - (i + 1), by omega, rfl, hlt, p'⟩, fun x H' y => ?_⟩
    obtain ⟨e, c, hc, rfl⟩ := y
    subst e
    exact hs i c σ _ hc p
  · have e : i = l.length := by omega
    subst e
    exact .inl ⟨Nat.le_refl _, hd σ H p⟩

/-! ### a comprehension's block -/
def clGo (cells : List (Str × Addr)) : List (Str × NameKind) → List (Str × Addr) → List (Str × Addr)
  | [], acc => acc
  | (n, k) :: r, acc => clGo cells r (if k == NameKind.free then (n, (cells.lookup n).getD 0) :: acc else acc)
def clOf (scope : Scope) (env : Env) : List (Str × Addr) := clGo env.cells scope.names []
theorem clGo_sub {cells : List (Str × Addr)} : ∀ {names : List (Str × NameKind)} {acc : List (Str × Addr)}, (∀ y ∈ names, y.2 = .free → ∃ c, cells.lookup y.1 = some c) → (∀ x c, acc.lookup x = some c → cells.lookup x = some c) →
    ∀ x c, (clGo cells names acc).lookup x = some c → cells.lookup x = some c
  | [], _, _, h, x, c, e => h x c e
  | (n, k) :: r, acc, hf, h, x, c, e => by
    refine clGo_sub (names := r) (fun y hy => hf y (List.mem_cons_of_mem _ hy)) ?_ x c e
    intro z d hz
    by_cases hk : k = .free
    · have hkb : (k == NameKind.free) = true := by rw [hk]; rfl
      rw [if_pos hkb] at hz
      obtain ⟨c0, h0⟩ := hf (n, k) List.mem_cons_self hk
      cases hzn : z == n with
      | true =>
        rw [List.lookup_cons, hzn] at hz
        have : z = n := eq_of_beq hzn
        subst this
        have h0' : cells.lookup z = some c0 := h0
        rw [h0'] at hz ⊢
        exact hz
      | false =>
        rw [List.lookup_cons, hzn] at hz
        exact h z d hz
    · have hkb : ¬ ((k == NameKind.free) = true) := fun q => hk (eq_of_beq q)
      rw [if_neg hkb] at hz
      exact h z d hz
theorem clGo_acc {cells : List (Str × Addr)} : ∀ {names : List (Str × NameKind)} {acc : List (Str × Addr)} {x : Str}, (∃ c, acc.lookup x = some c) → ∃ c, (clGo cells names acc).lookup x = some c
  | [], _, _, h => h
  | (n, k) :: r, acc, x, h => by
    refine clGo_acc (names := r) ?_
    by_cases hkb : (k == NameKind.free) = true
    · rw [if_pos hkb]
      cases hzn : x == n with
      | true => rw [List.lookup_cons, hzn]; exact ⟨_, rfl⟩
      | false => rw [List.lookup_cons, hzn]; exact h
    · rw [if_neg hkb]; exact h
theorem clGo_has {cells : List (Str × Addr)} : ∀ {names : List (Str × NameKind)} {acc : List (Str × Addr)} {x : Str}, (x, NameKind.free) ∈ names → ∃ c, (clGo cells names acc).lookup x = some c
  | (n, k) :: r, acc, x, h => by
    rcases List.mem_cons.mp h with e | h
    · cases e
      refine clGo_acc (names := r) ?_
      rw [if_pos (show (NameKind.free == NameKind.free) = true from rfl)]
      exact ⟨_, by rw [List.lookup_cons, beq_self_eq_true]⟩
    · exact clGo_has (names := r) h
theorem closure_eq {scope : Scope} {env : Env} (hf : ∀ y ∈ scope.names, y.2 = .free → ∃ c, env.cells.lookup y.1 = some c) : closureFor scope env = pure (clOf scope env) := by
  have key : ∀ (names : List (Str × NameKind)) (acc : List (Str × Addr)), (∀ y ∈ names, y.2 = .free → ∃ c, env.cells.lookup y.1 = some c) →
      (forIn names acc (fun x (r : List (Str × Addr)) => if (x.2 == NameKind.free) = true then do let a ← cellOf env x.1; pure (ForInStep.yield ((x.1, a) :: r)) else pure (ForInStep.yield r)) : Sem (List (Str × Addr))) = pure (clGo env.cells names acc) := by
    intro names
    induction names with
    | nil => intro acc _; rfl
    | cons y r ih =>
      obtain ⟨n, k⟩ := y
      intro acc h
      rw [List.forIn_cons]
      have ih' := fun acc => ih acc fun y hy => h y (List.mem_cons_of_mem _ hy)
      by_cases hkb : (k == NameKind.free) = true
      · obtain ⟨c, hc⟩ := h (n, k) List.mem_cons_self (eq_of_beq hkb)
        have hc' : env.cells.lookup n = some c := hc
        have e1 : cellOf env n = pure c := by unfold cellOf; rw [hc']
        have e2 : clGo env.cells ((n, k) :: r) acc = clGo env.cells r ((n, c) :: acc) := by
          show clGo env.cells r (if (k == NameKind.free) = true then (n, (env.cells.lookup n).getD 0) :: acc else acc) = _
          rw [if_pos hkb, hc']
          rfl
        rw [e2, ← ih']
        simp only [hkb, if_true, e1, pure_bind]
      · have e2 : clGo env.cells ((n, k) :: r) acc = clGo env.cells r acc := by
          show clGo env.cells r (if (k == NameKind.free) = true then (n, (env.cells.lookup n).getD 0) :: acc else acc) = _
          rw [if_neg hkb]
        rw [e2, ← ih']
        have hkf : (k == NameKind.free) = false := by
          cases q : k == NameKind.free with
          | false => rfl
          | true => exact absurd q hkb
        simp only [hkf, Bool.false_eq_true, if_false, pure_bind]
  unfold closureFor clOf
  simp only [bind_pure_comp]
  have := key scope.names [] hf
  simp only [bind_pure_comp] at this
  rw [this]
  rfl
theorem lookup_relabel {env : Env} : ∀ {names : List (Str × NameKind)} {x : Str},
    (names.map fun (n, k) => if (k == NameKind.free && env.scope.kind == .function && env.kindOf n == some .cell) then (n, NameKind.cell) else (n, k)).lookup x =
      (names.lookup x).map fun k => if (k == NameKind.free && env.scope.kind == .function && env.kindOf x == some .cell) = true then NameKind.cell else k
  | [], _ => rfl
  | (n, k) :: r, x => by
    have ih := @lookup_relabel env r x
    show List.lookup x ((if (k == NameKind.free && env.scope.kind == .function && env.kindOf n == some .cell) = true then (n, NameKind.cell) else (n, k)) :: _) = _
    cases hx : x == n with
    | true =>
      have e : x = n := eq_of_beq hx
      subst e
      by_cases hc : (k == NameKind.free && env.scope.kind == .function && env.kindOf x == some .cell) = true
      · rw [if_pos hc]; simp only [List.lookup_cons, hx, Option.map_some, if_pos hc]
      · rw [if_neg hc]; simp only [List.lookup_cons, hx, Option.map_some, if_neg hc]
    | false =>
      by_cases hc : (k == NameKind.free && env.scope.kind == .function && env.kindOf n == some .cell) = true
      · rw [if_pos hc]; simp only [List.lookup_cons, hx]; exact ih
      · rw [if_neg hc]; simp only [List.lookup_cons, hx]; exact ih
theorem mem_of_look {α : Type} : ∀ {l : List (Str × α)} {x : Str} {a : α}, l.lookup x = some a → (x, a) ∈ l
  | (n, k) :: r, x, a, h => by
    cases hx : x == n with
    | true =>
      rw [List.lookup_cons, hx] at h
      cases h
      rw [eq_of_beq hx]
      exact List.mem_cons_self
    | false =>
      rw [List.lookup_cons, hx] at h
      exact List.mem_cons_of_mem _ (mem_of_look h)

/-- the context of a comprehension's block -/
def blk (X : Cx) (M : List Str) (scope : Scope) (C : Addr) (fp : List Addr) (s₃ : Shared) (H₃ : Hp) : Cx where
  prog := X.prog
  w := X.w
  K := X.K
  mg := X.mg
  base := X.base
  A := X.A
  N := X.N ++ M
  s₀ := s₃
  H₀ := H₃
  env := compEnvC scope (clOf scope X.env) C X.env
  outer := X.stack
  stack := X.stack
  ex := fp
  fn := fun _ => false
  calm := X.calm
  pn := []
  xe := fun _ _ => False
/-- what of the scope must be seen -/
structure CompSc (X : Cx) (scope : Scope) : Prop where
  kind : scope.kind = .function
  cell : ∀ y ∈ scope.names, y.2 ≠ .cell
  loc : ∀ y ∈ scope.names, y.2 = .local → scope.names.lookup y.1 = some .local
  free : ∀ y ∈ scope.names, y.2 = .free → X.env.kindOf y.1 = some .cell ∨ X.env.kindOf y.1 = some .free
  apart : ∀ x ∈ X.N, scope.names.lookup x ≠ some .local
section
variable {X : Cx}
theorem CompSc.vis {scope : Scope} (S : CompSc X scope) {C : Addr} {x : Str} (h : (compEnvC scope (clOf scope X.env) C X.env).kindOf x = some .cell ∨ (compEnvC scope (clOf scope X.env) C X.env).kindOf x = some .free) :
    (x, NameKind.free) ∈ scope.names := by
  have e : (compEnvC scope (clOf scope X.env) C X.env).kindOf x = (scope.names.lookup x).map fun k => if (k == NameKind.free && X.env.scope.kind == .function && X.env.kindOf x == some .cell) = true then NameKind.cell else k := lookup_relabel
  rw [e] at h
  cases hl : scope.names.lookup x with
  | none => rw [hl] at h; rcases h with h | h <;> cases h
  | some k =>
    have hm := mem_of_look hl
    have nc := S.cell _ hm
    rw [hl] at h
    by_cases hk : k = .free
    · rw [hk] at hm; exact hm
    · have hkb : (k == NameKind.free) = false := by
        cases q : k == NameKind.free with
        | false => rfl
        | true => exact absurd (eq_of_beq q) hk
      simp only [Option.map_some, hkb, Bool.false_and, Bool.false_eq_true, if_false, Option.some.injEq] at h
      rcases h with h | h
      · exact absurd h nc
      · exact absurd h hk
theorem CompSc.cells {scope : Scope} (S : CompSc X scope) (ok : X.Ok) : ∀ y ∈ scope.names, y.2 = .free → ∃ c, X.env.cells.lookup y.1 = some c := fun y hy e => ok.has y.1 (S.free y hy e)
theorem CompSc.sub {scope : Scope} (S : CompSc X scope) (ok : X.Ok) : ∀ x c, (clOf scope X.env).lookup x = some c → X.env.cells.lookup x = some c :=
  clGo_sub (S.cells ok) (fun _ _ h => nomatch h)

theorem blk_ok {pins : List (Addr × Obj)} {σ : St} {H₃ : Hp} {s₃ : Shared} {M : List Str} {scope : Scope} {fp : List Addr} (S : CompSc X scope) (I : Inv X pins σ H₃ s₃) (hf : ∀ b ∈ fp, FpOk X pins H₃ b) (hl : ∀ b ∈ fp, b < s₃.heap.objs.size) :
    (blk X M scope s₃.heap.objs.size fp s₃ H₃).Ok where
  mod := I.mod
  kind := S.kind
  glob := I.ok.glob
  blt := I.ok.blt
  above := Nat.le_refl _
  inj := fun x y c h1 h2 => I.ok.inj x y c (S.sub I.ok x c h1) (S.sub I.ok y c h2)
  has := fun x h => clGo_has (S.vis h)
  cab := fun x c h => nomatch h
  hd := I.ok.hd
  frames := I.ok.frames
  stk := .inl rfl
  exf := fun b hb => ⟨Nat.ne_of_lt (hl b hb), fun x c h => (hf b hb).2.2.2.2.1 x c (S.sub I.ok x c h)⟩
  bs := I.bs
  bsz := Nat.le_trans I.ok.bsz I.sz
  noex := fun b o e hb => by
    rcases (hf b hb).2.2.2.1 with z | z
    · exact I.ok.noex b o e z
    · exact absurd (Nat.lt_of_lt_of_le (Heap.lt_size (I.ok.bs b o e).1) z) (Nat.lt_irrefl _)
  exfs := fun b hb hfs => by
    rcases List.mem_cons.mp (I.stkSub b hfs) with e | e
    · exact (hf b hb).2.1 e
    · exact (hf b hb).2.2.1 e
  funs := I.stack
  frf := I.stkFree
theorem blk_inv {pins : List (Addr × Obj)} {σ : St} {H₃ : Hp} {s₃ : Shared} {M : List Str} {scope : Scope} {fp : List Addr} {h' : Heap} {m : Str → Option Value} {tk : Nat} (S : CompSc X scope) (I : Inv X pins σ H₃ s₃) (hf : ∀ b ∈ fp, FpOk X pins H₃ b)
    (hl : ∀ b ∈ fp, b < s₃.heap.objs.size) (hk : ∀ b o, s₃.heap.get? b = some o → h'.get? b = some o) (hn : h'.Ns s₃.heap.objs.size m) :
    Inv (blk X M scope s₃.heap.objs.size fp s₃ H₃) [] (σ ++ List.replicate M.length none) H₃ { s₃ with heap := h', toks := tk } where
  ok := blk_ok S I hf hl
  os := rfl
  bare := I.bare
  base := Un.kept hk
  loc := by
    refine ⟨m, hn, fun i x v e1 e2 e3 => ?_⟩
    have hi : i < σ.length := by
      by_cases q : i < σ.length
      · exact q
      · rw [List.getElem?_append_right (by omega)] at e2
        have := List.mem_of_getElem? e2
        rw [(List.mem_replicate.mp this).2] at this
        obtain ⟨_, h2⟩ := List.mem_replicate.mp this
        rw [List.getElem?_replicate] at e2
        split at e2 <;> cases e2
    rw [List.getElem?_append_left hi] at e2
    have e1' : X.N[i]? = some x := by
      have e1'' : (X.N ++ M)[i]? = some x := e1
      rw [List.getElem?_append_left (by rw [← I.len]; exact hi)] at e1''
      exact e1''
    have hxN : x ∈ X.N := List.mem_of_getElem? e1'
    have kl : ¬ (relabel scope X.env).names.lookup x = some .local := by
      intro q
      have q' : (scope.names.lookup x).map (fun k => if (k == NameKind.free && X.env.scope.kind == .function && X.env.kindOf x == some .cell) = true then NameKind.cell else k) = some .local := (lookup_relabel (env := X.env)).symm.trans q
      cases hlk : scope.names.lookup x with
      | none => rw [hlk] at q'; cases q'
      | some k =>
        rw [hlk] at q'
        have nl : k ≠ .local := fun z => S.apart x hxN (by rw [hlk, z])
        simp only [Option.map_some, Option.some.injEq] at q'
        split at q'
        · cases q'
        · exact nl q'
    have e3' : (compEnvC scope (clOf scope X.env) s₃.heap.objs.size X.env).kindOf x = some .cell ∨ (compEnvC scope (clOf scope X.env) s₃.heap.objs.size X.env).kindOf x = some .free := by
      rcases e3 with z | z | z
      · exact absurd z kl
      · exact .inl z
      · exact .inr z
    have hm := S.vis e3'
    have hX := S.free _ hm rfl
    obtain ⟨m0, hn0, hl0⟩ := I.loc
    obtain ⟨u, ru, lk⟩ := hl0 i x v e1' e2 (by rcases hX with z | z; exact .inr (.inl z); exact .inr (.inr z))
    refine ⟨u, ru, .inr ⟨e3', ?_⟩⟩
    rcases lk with ⟨z, _⟩ | ⟨_, c, hc, o, ho, hd⟩
    · rcases hX with q | q
      · have : X.env.kindOf x = some .cell := q
        rw [this] at z; cases z
      · have : X.env.kindOf x = some .free := q
        rw [this] at z; cases z
    · obtain ⟨c', hc'⟩ := clGo_has (cells := X.env.cells) (acc := []) hm
      have := S.sub I.ok x c' hc'
      rw [hc] at this; cases this
      exact ⟨c, hc', o, hk c o ho, hd⟩
  cell := fun x c h => by
    obtain ⟨v, o, ho, hd⟩ := I.cell x c (S.sub I.ok x c h)
    exact ⟨v, o, hk c o ho, hd⟩
  free := I.hok.fresh (Nat.le_refl _)
  freeC := fun x c h => I.freeC x c (S.sub I.ok x c h)
  pin := fun p hp => nomatch hp
  hok := I.hok.kept hk
  len := by
    show (σ ++ List.replicate M.length none).length = (X.N ++ M).length
    rw [List.length_append, List.length_append, List.length_replicate, I.len]
/-- out of the block again -/
theorem blk_out {pins pins' : List (Addr × Obj)} {σ σ' : St} {H₃ H' : Hp} {s₃ s' : Shared} {M : List Str} {scope : Scope} {fp : List Addr} {h' : Heap} (I : Inv X pins σ H₃ s₃) (hf : ∀ b ∈ fp, FpOk X pins H₃ b)
    (J : Inv (blk X M scope s₃.heap.objs.size fp s₃ H₃) pins' σ' H' s') (hs : Heap.SameBut s₃.heap.objs.size s'.heap h') : Inv X pins σ H' { s' with heap := h' } := by
  have ne : ∀ b o, s₃.heap.get? b = some o → b ≠ s₃.heap.objs.size := fun b o e => Nat.ne_of_lt (Heap.lt_size e)
  have B := J.base
  refine I.call' (s' := { s' with heap := h' }) (ch := fp) J.os ⟨fun b o e n hb hx => ?_, fun b o e n hb hx => ?_, B.free, fun b o e hx => ?_, B.tups, B.frzs, B.tbls⟩ ?_ J.bare fun b hb => (hf b hb).2.2.2.elim fun z r => ?_
  · exact (hs.2 b (ne b o e)).trans (B.keep b o e n hb hx)
  · obtain ⟨sl, q⟩ := B.slot b o e n hb hx
    exact ⟨sl, (hs.2 b (ne b o e)).trans q⟩
  · obtain ⟨o', q⟩ := B.there b o e hx
    exact ⟨o', (hs.2 b (ne b o e)).trans q⟩
  · intro b u e
    have hb : b ≠ s₃.heap.objs.size := fun z => by
      have := J.free
      have q : H' s₃.heap.objs.size = none := this
      rw [z, q] at e; cases e
    refine (J.hok b u e).stay (fun c v hc q => (hs.2 c ?_).trans q) (fun _ q => q) fun _ _ q => q
    rcases hc with z | z
    · rw [z]; exact hb
    · intro z2
      have q : H' s₃.heap.objs.size = none := J.free
      rw [z2, q] at z; cases z
  · exact ⟨z, (hf b hb).2.1, r.1, r.2⟩

/-! ### tests of a comprehension -/
def PTs (X : Cx) (ifs : List Expr) (t : TT) : Prop :=
  ∀ (pins : List (Addr × Obj)) (s : Shared) (σ : St) (H : Hp) (Q : Bool → Hp → Prop), Inv X pins σ H s → t σ H Q →
    wpAny (model X.prog X.w) X.A (forIn ifs true fun c r => if r = true then do let ok ← isTrue c X.env (eval c X.env); pure (ForInStep.yield ok) else pure (ForInStep.yield r)) (TP X pins σ Q) X.xe s
def tTrue : TT := fun _ H Q => Q true H
theorem pts_nil : PTs X [] tTrue := fun pins s σ H Q I h => wpAny_tests_nil ⟨H, I, h⟩

theorem comp_loop {prog : Program} {w : World} {A : Around} {R : Result → Shared → Prop} {s : Shared} {elt target iter : Expr} {ifs : List Expr} {scope : Scope} {pos : Pos} {it acc : Value} {env : Env} (I : Nat → Shared → Prop)
    (turn : ∀ n s, I n s → wpAny (model prog w) A (pyNext it) (fun r s₁ => match r with
      | none => R (.ok .next) s₁
      | some v => wpAny (model prog w) A (letOwnedTupleGo target it v) (fun _ s₁ => wpAny (model prog w) A (assign target env v) (fun _ s₂ =>
          wpAny (model prog w) A (forIn ifs true fun c r => if r = true then do let ok ← isTrue c env (eval c env); pure (ForInStep.yield ok) else pure (ForInStep.yield r)) (fun ok s₃ =>
            if ok = true then wpAny (model prog w) A (eval elt env) (fun x s₄ =>
              wpAny (model prog w) A (call (.builtin "list.append") [acc, x]) (fun _ s₅ => ∃ m, m < n ∧ I m s₅) (fun _ _ => False) s₄) (fun _ _ => False) s₃
            else ∃ m, m < n ∧ I m s₃) (fun _ _ => False) s₂) (fun _ _ => False) s₁) (fun _ _ => False) s₁) (fun _ _ => False) s)
    (n : Nat) (h : I n s) :
    codeAny (model prog w) A (.compLoop (.ListComp elt [⟨target, iter, ifs, 0⟩] scope pos) 0 it acc env) R s := by
  refine codeAny_loop rfl I (fun n s hI => ?_) n h
  show wpAny _ A ((compTurn (.ListComp elt [⟨target, iter, ifs, 0⟩] scope pos) 0 it acc env).onRaise (fun x => do noteFrame x env; theTreesLotGoes x)) _ _ s
  refine wpAny_noted ?_
  rw [compTurn_list]
  refine wpAny_bind (wpAny_standAt (wpAny_bind (wpAny_mono (turn n s hI) (fun r s₁ h₁ => ?_) fun _ _ h' => h'.elim)))
  cases r with
  | none => exact wpAny_pure h₁
  | some v =>
    refine wpAny_bind (wpAny_mono h₁ (fun _ s₁' h₁' => ?_) fun _ _ h' => h'.elim)
    refine wpAny_bind (wpAny_mono h₁' (fun _ s₂ h₂ => wpAny_bind (wpAny_mono h₂ (fun ok s₃ h₃ => ?_) fun _ _ h' => h'.elim)) fun _ _ h' => h'.elim)
    cases ok with
    | false => exact wpAny_pure ⟨rfl, h₃⟩
    | true =>
      exact wpAny_bind (wpAny_bind (wpAny_mono h₃ (fun x s₄ h₄ => wpAny_bind (wpAny_mono h₄ (fun _ s₅ h₅ => wpAny_pure (wpAny_pure ⟨rfl, h₅⟩)) fun _ _ h' => h'.elim)) fun _ _ h' => h'.elim))

/-- [te for g in wi if tt]: D the new list, W the invariant by the turn, a measure and the items so far -/
abbrev BK (α : Type) := Addr → List Addr → Shared → Hp → α
def CompIn (k : Nat) (J : It) (g : BK TG) (tt : BK TT) (te : BK TE) (σ : St) (H1 : Hp) (Q : VK) : Prop := ∀ D, H1 D = none → ∃ W : Nat → Nat → List V → Hp → Prop, (∃ m, W 0 m [] (upd H1 D (.lst []))) ∧
  ∀ i m ys H2, W i m ys H2 → H2 D = some (.lst ys) ∧ ((J.stop i H2 ∧ Q (.ref D) H2) ∨ (J.go i H2 ∧ ∀ x H3, J.yld i H2 x H3 → ∀ C fp s₀ H₀, g C fp s₀ H₀ x (σ ++ List.replicate k none) H3 fun σ3 H4 => (∃ τ : St, σ3 = σ ++ τ ∧ τ.length = k) ∧
    tt C fp s₀ H₀ σ3 H4 fun b H5 => if b = true then te C fp s₀ H₀ σ3 H5 fun v H6 => H6 D = some (.lst ys) ∧ ys.length < sizeLine ∧ ∃ m', m' < m ∧ W (i + 1) m' (ys ++ [v]) (upd H6 D (.lst (ys ++ [v])))
      else ∃ m', m' < m ∧ W (i + 1) m' ys H5))
def tComp (k : Nat) (wi : TI) (g : BK TG) (tt : BK TT) (te : BK TE) : TE := fun σ H Q => wi σ H fun J H1 => CompIn k J g tt te σ H1 Q
theorem pe_comp {elt tg iter : Expr} {ifs : List Expr} {scope : Scope} {pos : Pos} {M : List Str} {wi : TI} {g : BK TG} {tt : BK TT} {te : BK TE} (hc : X.calm = true) (S : CompSc X scope) (hi : PI X tg iter wi)
    (hg : ∀ C fp s₃ H₃, PG (blk X M scope C fp s₃ H₃) tg (g C fp s₃ H₃)) (ht : ∀ C fp s₃ H₃, PTs (blk X M scope C fp s₃ H₃) ifs (tt C fp s₃ H₃)) (he : ∀ C fp s₃ H₃, PE (blk X M scope C fp s₃ H₃) elt (te C fp s₃ H₃))
    (hs : ∀ x, foldedSetIterable iter X.env x = pure x := by intro _; rfl) : PE X (.ListComp elt [⟨tg, iter, ifs, 0⟩] scope pos) (tComp M.length wi g tt te) := by
  intro pins s σ H Q I h
  rw [eval_ListComp]
  refine wpAny_comprehension_free (use := none) rfl hs (closure_eq (S.cells I.ok)) S.kind S.loc (thn (hi pins s σ H _ I h) fun xv s₁ h₁ => thn h₁ fun itv s₂ h₂ => ?_)
  obtain ⟨it, fp, tn, J, H2, e, I2, Tr, st2, f2, W0⟩ := h₂
  subst e
  have hD : H2 s₂.heap.objs.size = none := I2.hok.fresh (Nat.le_refl _)
  obtain ⟨W, ⟨m0, w0⟩, turn⟩ := W0 _ hD
  suffices core : ∀ s₃ : Shared, s₃ = { s₂ with heap := s₂.heap.push { cls := .type "list", data := .seq ([] : List Value).toArray } } →
      wpAny (model X.prog X.w) X.A (newFunctionEnv scope X.env.globals (clOf scope X.env) [] X.env.qual none .none (some X.env)) (fun cenv s₄ =>
        codeAny (model X.prog X.w) X.A (.compStart (.ListComp elt [⟨tg, iter, ifs, 0⟩] scope pos) 0 (.ref it) (.ref s₂.heap.objs.size) { cenv with scope := relabel scope X.env })
          (compPost (model X.prog X.w) X.A X.xe none (EP X pins σ Q) (.ref s₂.heap.objs.size) cenv.locals) s₄) X.xe s₃ from wpAny_newObj_type (core _ rfl)
  intro s₃ hs₃
  have I3 : Inv X pins σ (upd H2 s₂.heap.objs.size (.lst [])) s₃ := by
    rw [hs₃]
    exact I2.lnew (t' := s₂.toks) (its := []) .nil (Nat.zero_le _)
  have hlt : ∀ b ∈ fp, b < s₂.heap.objs.size := fun b hb => by
    obtain ⟨o, e, _⟩ := Tr.obj _ _ st2 b hb
    exact Heap.lt_size e
  have f3 : ∀ b ∈ fp, FpOk X pins (upd H2 s₂.heap.objs.size (.lst [])) b := fun b hb => ⟨by rw [upd_ne (Nat.ne_of_lt (hlt b hb))]; exact (f2 b hb).1, (f2 b hb).2⟩
  have hlt3 : ∀ b ∈ fp, b < s₃.heap.objs.size := fun b hb => by
    rw [hs₃]
    show b < (s₂.heap.push _).objs.size
    rw [Heap.size_push]
    exact Nat.lt_succ_of_lt (hlt b hb)
  have st3 : tn 0 s₃.heap := Tr.keep _ _ _ st2 fun b hb o e => by rw [hs₃]; exact Heap.get?_push_of_some _ e
  generalize hH₃ : upd H2 s₂.heap.objs.size (.lst []) = H₃ at I3 f3 w0
  refine wpAny_newFunctionEnv S.cell (by intro y hy; simp at hy) (fun h₁ hns₁ hsb₁ => ?_) S.kind
  have old : ∀ b o, s₃.heap.get? b = some o → h₁.get? b = some o := fun b o e => hsb₁.extBut b o (Nat.ne_of_lt (Heap.lt_size e)) (Heap.get?_push_of_some _ e)
  have I4 := blk_inv (M := M) (tk := s₃.toks + ([] : List (Str × Value)).length) S I3 f3 hlt3 old hns₁
  have st4 : tn 0 h₁ := Tr.keep _ _ _ st3 fun b _ o e => old b o e
  have stat : ∀ {pn' : List (Addr × Obj)} {H' : Hp}, (∀ b ∈ fp, H' b = none) → (∀ b ∈ fp, ∀ p ∈ pn', p.1 ≠ b) → ∀ b ∈ fp, FpOk (blk X M scope s₃.heap.objs.size fp s₃ H₃) pn' H' b := fun {pn' H'} hn hp b hb =>
    ⟨hn b hb, Nat.ne_of_lt (hlt3 b hb), (blk_ok (M := M) S I3 f3 hlt3).exfs b hb, .inl hb, fun x c hx => (f3 b hb).2.2.2.2.1 x c (S.sub I.ok x c hx), fun p hp' => hp b hb p hp'⟩
  have loop : ∀ s₄ : Shared, s₄ = { s₃ with heap := h₁, toks := s₃.toks + ([] : List (Str × Value)).length } →
      codeAny (model X.prog X.w) X.A (.compLoop (.ListComp elt [⟨tg, iter, ifs, 0⟩] scope pos) 0 (.ref it) (.ref s₂.heap.objs.size) (compEnvC scope (clOf scope X.env) s₃.heap.objs.size X.env))
        (compPost (model X.prog X.w) X.A X.xe none (EP X pins σ Q) (.ref s₂.heap.objs.size) s₃.heap.objs.size) s₄ := by
    rintro s₄ rfl
    refine comp_loop (fun n s' => ∃ i ys σ' H', Inv (blk X M scope s₃.heap.objs.size fp s₃ H₃) [] σ' H' s' ∧ (∃ τ : St, σ' = σ ++ τ ∧ τ.length = M.length) ∧ tn i s'.heap ∧ (∀ b ∈ fp, H' b = none) ∧ W i n ys H') ?_ m0
      ⟨0, [], _, H₃, I4, ⟨_, rfl, List.length_replicate ..⟩, st4, fun b hb => (f3 b hb).1, w0⟩
    rintro n s5 ⟨i, ys, σ5, H5, I5, ⟨τ, rfl, hτ⟩, st5, fr5, w5⟩
    have I5' : Inv (blk X M scope s₃.heap.objs.size fp s₃ H₃) [] (σ ++ List.replicate M.length none) H5 s5 := by
      refine I5.weak (by rw [List.length_append, List.length_append, List.length_replicate, hτ]) fun j v e => ?_
      by_cases q : j < σ.length
      · rw [List.getElem?_append_left q] at e ⊢; exact e
      · rw [List.getElem?_append_right (by omega), List.getElem?_replicate] at e
        split at e <;> cases e
    obtain ⟨hDl, hcase⟩ := turn i n ys H5 w5
    rcases hcase with ⟨stop, q⟩ | ⟨go, step⟩
    · refine thn (Tr.done (blk X M scope s₃.heap.objs.size fp s₃ H₃) rfl rfl rfl hc i [] s5 _ H5 _ I5' (stat fr5 (fun _ _ _ z => (nomatch z))) st5 stop) fun r s6 ⟨hr, I6⟩ => ?_
      subst hr
      obtain ⟨m6, hn6, _⟩ := I6.loc
      exact ⟨m6, hn6, fun h' hsb => ⟨.ref s₂.heap.objs.size, H5, blk_out I3 f3 I6 hsb, rfl, q⟩⟩
    · refine thn (Tr.item (blk X M scope s₃.heap.objs.size fp s₃ H₃) rfl rfl rfl hc i [] s5 _ H5 _ I5' (stat fr5 (fun _ _ _ z => (nomatch z))) st5 go) fun r s6 ⟨u, hr, h6⟩ => ?_
      subst hr
      refine thn h6 fun _ s7 ⟨x, H7, I7, r7, y7, st7, fr7⟩ => ?_
      have I7' := I7.pinned (stat fr7 (fun _ _ _ z => (nomatch z))) (Tr.obj _ _ st7)
      refine thn (hg _ _ _ _ _ s7 _ H7 x u _ I7' r7 (step x H7 y7 _ _ _ _)) fun _ s8 ⟨σ8, H8, I8, ⟨τ8, e8, l8⟩, q8⟩ => ?_
      subst e8
      have again : ∀ {ys' : List V} {H9 : Hp} {s9 : Shared}, Inv (blk X M scope s₃.heap.objs.size fp s₃ H₃) ([] ++ pinsAt fp s7.heap) (σ ++ τ8) H9 s9 → (∃ m', m' < n ∧ W (i + 1) m' ys' H9) →
          ∃ m, m < n ∧ ∃ i ys σ' H', Inv (blk X M scope s₃.heap.objs.size fp s₃ H₃) [] σ' H' s9 ∧ (∃ τ : St, σ' = σ ++ τ ∧ τ.length = M.length) ∧ tn i s9.heap ∧ (∀ b ∈ fp, H' b = none) ∧ W i m ys H' := fun {ys' H9 s9} I9 ⟨m', hm, w9⟩ => by
        refine ⟨m', hm, i + 1, ys', _, H9, I9.unpinned, ⟨τ8, rfl, l8⟩, Tr.keep _ _ _ st7 fun b hb o e => (I9.pin (b, o) (List.mem_append_right _ (List.mem_append_right _ (mem_pinsAt hb e)))).1, fun b hb => ?_, w9⟩
        obtain ⟨o, e, d⟩ := Tr.obj _ _ st7 b hb
        exact (I9.pin (b, o) (List.mem_append_right _ (List.mem_append_right _ (mem_pinsAt hb e)))).2.1
      refine thn (ht _ _ _ _ _ s8 _ H8 _ I8 q8) fun ok s9 ⟨H9, I9, q9⟩ => ?_
      cases ok with
      | false =>
        rw [if_neg Bool.false_ne_true] at q9 ⊢
        exact again I9 q9
      | true =>
        rw [if_pos rfl] at q9 ⊢
        refine thn (he _ _ _ _ _ s9 _ H9 _ I9 q9) fun v s10 ⟨y, H10, I10, r10, hD10, hsz, q10⟩ => ?_
        refine thn (mt_append _ s10 _ H10 (.ref s₂.heap.objs.size) [y] _ [v] (fun v' H' => v' = .non ∧ H' = upd H10 s₂.heap.objs.size (.lst (ys ++ [y]))) I10 rfl (.cons r10 .nil) ⟨_, ys, y, rfl, rfl, hD10, hsz, rfl, rfl⟩) fun _ s11 ⟨_, H11, I11, _, _, e11⟩ => ?_
        subst e11
        exact again I11 q10
  exact codeAny_compStart_list (loop _ rfl) (Tr.self _ 0 _ _ _ st4 (loop _ rfl))
end
end L2

set_option Elab.async false
set_option linter.all false
set_option maxRecDepth 100000
namespace L2
open PySem PySem.Spec PyProof.Rows

/-! ### lists made of another thing's items, by a plain function -/
theorem set_end {σ : St} {n : Nat} (hn : n = σ.length) (x : V) : (σ ++ List.replicate 1 none).set n (some x) = σ ++ [some x] := by
  subst hn
  rw [List.set_append_right _ _ (Nat.le_refl _), Nat.sub_self]
  rfl
theorem same_upd {H1 H4 : Hp} {D : Addr} {o : HO} (hD : H1 D = none) (s : Same H1 H4) : Same H1 (upd H4 D o) := fun b u e => by
  rw [upd_ne (ne_of_none e hD)]
  exact s b u e
/-- the reading of [te for x in J], J yielding xs, te worth f x and leaving all that was tracked as it was -/
theorem comp_it {J : It} {xs : List V} {n : Nat} {te : BK TE} {σ : St} {H1 : Hp} {Q : VK} (f : V → V) (hn : n = σ.length) (hsz : xs.length ≤ sizeLine)
    (hgo : ∀ i H2, Same H1 H2 → i < xs.length → J.go i H2 ∧ ∀ x H3, J.yld i H2 x H3 → H3 = H2 ∧ xs[i]? = some x) (hst : ∀ H2, Same H1 H2 → J.stop xs.length H2)
    (hel : ∀ C fp s₀ H₀ (i : Nat) x, xs[i]? = some x → ∀ H3 (R : VK), Same H1 H3 → (∀ H4, Same H3 H4 → R (f x) H4) → te C fp s₀ H₀ (σ ++ [some x]) H3 R)
    (hq : ∀ D H', H1 D = none → Same H1 H' → H' D = some (.lst (xs.map f)) → Q (.ref D) H') :
    CompIn 1 J (fun _ _ _ _ => gName n) (fun _ _ _ _ => tTrue) te σ H1 Q := by
  unfold CompIn
  intro D hD
  refine ⟨fun i m ys H2 => m = xs.length - i ∧ i ≤ xs.length ∧ ys = (xs.take i).map f ∧ Same H1 H2 ∧ H2 D = some (.lst ys), ⟨xs.length, by simp, Nat.zero_le _, by simp, same_upd hD (Same.refl _), upd_same⟩, ?_⟩
  rintro i m ys H2 ⟨rfl, hi, rfl, s2, hDl⟩
  refine ⟨hDl, ?_⟩
  by_cases hlt : i < xs.length
  · refine .inr ⟨(hgo i H2 s2 hlt).1, fun x H3 y C fp s₀ H₀ => ?_⟩
    obtain ⟨rfl, hx⟩ := (hgo i H2 s2 hlt).2 x H3 y
    refine ⟨⟨[some x], set_end hn x, rfl⟩, ?_⟩
    rw [set_end hn]
    unfold tTrue
    dsimp only
    rw [if_pos rfl]
    refine hel C fp s₀ H₀ i x hx H3 _ s2 fun H4 s4 => ⟨s4 D _ hDl, ?_, xs.length - (i + 1), by omega, rfl, hlt, ?_, same_upd hD (s2.trans s4), upd_same⟩
    · rw [List.length_map, List.length_take]
      omega
    · rw [List.take_add_one, hx, List.map_append]
      rfl
  · have e : i = xs.length := by omega
    subst e
    refine .inl ⟨hst H2 s2, hq D H2 hD s2 ?_⟩
    rw [hDl, List.take_of_length_le (Nat.le_refl _)]
theorem comp_list {K : PySem.W.Frag} {a : Addr} {xs : List V} {n : Nat} {te : BK TE} {σ : St} {H1 : Hp} {Q : VK} (f : V → V) (hn : n = σ.length) (hsz : xs.length ≤ sizeLine) (hl : SqL K H1 a xs)
    (hel : ∀ C fp s₀ H₀ (i : Nat) x, xs[i]? = some x → ∀ H3 (R : VK), Same H1 H3 → (∀ H4, Same H3 H4 → R (f x) H4) → te C fp s₀ H₀ (σ ++ [some x]) H3 R)
    (hq : ∀ D H', H1 D = none → Same H1 H' → H' D = some (.lst (xs.map f)) → Q (.ref D) H') :
    CompIn 1 (Itl K a) (fun _ _ _ _ => gName n) (fun _ _ _ _ => tTrue) te σ H1 Q :=
  comp_it f hn hsz (fun i H2 s2 hi => ⟨⟨xs, xs[i], s2.seq hl, by simp [hi]⟩, fun x H3 y => ⟨y.1, y.2 xs (s2.seq hl)⟩⟩) (fun H2 s2 => ⟨xs, s2.seq hl, Nat.le_refl _⟩) hel hq
theorem comp_str {l : List Nat} {n : Nat} {te : BK TE} {σ : St} {H1 : Hp} {Q : VK} (f : Nat → V) (hn : n = σ.length) (hsz : l.length ≤ sizeLine)
    (hel : ∀ C fp s₀ H₀ (i : Nat) c, l[i]? = some c → ∀ H3 (R : VK), Same H1 H3 → (∀ H4, Same H3 H4 → R (f c) H4) → te C fp s₀ H₀ (σ ++ [some (.str (T [c]))]) H3 R)
    (hq : ∀ D H', H1 D = none → Same H1 H' → H' D = some (.lst (l.map f)) → Q (.ref D) H') :
    CompIn 1 (Its l) (fun _ _ _ _ => gName n) (fun _ _ _ _ => tTrue) te σ H1 Q := by
  have key : ∀ i, (l.map fun c => V.str (T [c]))[i]? = (l[i]?).map fun c => V.str (T [c]) := fun i => by rw [List.getElem?_map]
  refine comp_it (J := Its l) (xs := l.map fun c => V.str (T [c])) (fun v => match v with | .str x => f (x.cps.toList.headD 0) | _ => .non) hn (by rw [List.length_map]; exact hsz) (fun i H2 _ hi => ?_) (fun H2 _ => by show l.length ≤ (l.map _).length; rw [List.length_map]; exact Nat.le_refl _) (fun C fp s₀ H₀ i x hx => ?_) (fun D H' h1 h2 h3 => hq D H' h1 h2 ?_)
  · rw [List.length_map] at hi
    refine ⟨hi, fun x H3 y => ?_⟩
    obtain ⟨e, c, hc, rfl⟩ := y
    exact ⟨e, by rw [key, hc]; rfl⟩
  · rw [key] at hx
    cases hc : l[i]? with
    | none => rw [hc] at hx; cases hx
    | some c =>
      rw [hc] at hx
      cases hx
      exact hel C fp s₀ H₀ i c hc
  · rw [h3, List.map_map]
    rfl
theorem comp_range {m n : Nat} {te : BK TE} {σ : St} {H1 : Hp} {Q : VK} (f : Nat → V) (hn : n = σ.length) (hsz : m ≤ sizeLine)
    (hel : ∀ C fp s₀ H₀ (i : Nat), i < m → ∀ H3 (R : VK), Same H1 H3 → (∀ H4, Same H3 H4 → R (f i) H4) → te C fp s₀ H₀ (σ ++ [some (.int (i : Int))]) H3 R)
    (hq : ∀ D H', H1 D = none → Same H1 H' → H' D = some (.lst ((List.range m).map f)) → Q (.ref D) H') :
    CompIn 1 (Itr 0 m) (fun _ _ _ _ => gName n) (fun _ _ _ _ => tTrue) te σ H1 Q := by
  have key : ∀ i, i < m → ((List.range m).map fun k : Nat => V.int (k : Int))[i]? = some (.int (i : Int)) := fun i hi => by
    rw [List.getElem?_map, List.getElem?_range hi]
    rfl
  refine comp_it (J := Itr 0 m) (xs := (List.range m).map fun k : Nat => V.int (k : Int)) (fun v => match v with | .int i => f i.toNat | _ => .non) hn (by rw [List.length_map, List.length_range]; exact hsz) (fun i H2 _ hi => ?_)
    (fun H2 _ => by show m ≤ (List.map _ (List.range m)).length; rw [List.length_map, List.length_range]; exact Nat.le_refl _) (fun C fp s₀ H₀ i x hx => ?_) (fun D H' h1 h2 h3 => hq D H' h1 h2 ?_)
  · rw [List.length_map, List.length_range] at hi
    refine ⟨hi, fun x H3 y => ?_⟩
    obtain ⟨e, rfl⟩ := y
    refine ⟨e, ?_⟩
    rw [key i hi, Int.zero_add]
  · by_cases hi : i < m
    · rw [key i hi] at hx
      cases hx
      exact hel C fp s₀ H₀ i hi
    · rw [List.getElem?_eq_none (by rw [List.length_map, List.length_range]; omega)] at hx
      cases hx
  · rw [h3, List.map_map]
    rfl

/-! ### methods of texts -/
section
variable {X : Cx}
def cntL (c : Nat) : List Nat → Nat
  | [] => 0
  | d :: r => (if d = c then 1 else 0) + cntL c r
theorem cnt_cntL (c : Nat) : ∀ l : List Nat, PyProof.Rows.cnt c l = (cntL c l : Int)
  | [] => rfl
  | d :: r => by
    rw [PyProof.Rows.cnt_cons, cnt_cntL c r]
    show _ = (((if d = c then 1 else 0) + cntL c r : Nat) : Int)
    by_cases h : d = c
    · rw [if_pos h, if_pos h]
      omega
    · rw [if_neg h, if_neg h]
      omega
theorem mt_count : MtR X "str.count" (fun x xs H Q => ∃ l c, x = .str (T l) ∧ xs = [.str (T [c])] ∧ Q (.int (cntL c l)) H) := by
  intro pins s σ H x xs v us Q I rx r h
  obtain ⟨l, c, rfl, rfl, q⟩ := h
  obtain ⟨t, rfl⟩ := (show ∃ t, v = Value.str (T l) t from rx)
  obtain ⟨u, rfl, ru⟩ := vals1 r
  obtain ⟨t', rfl⟩ := (show ∃ t, u = Value.str (T [c]) t from ru)
  refine SC.count ?_
  have e : Txt.count (T l) (T [c]) = (cntL c l : Int) := (PyProof.Rows.count_cnt (T l) c).trans (cnt_cntL c l)
  rw [e]
  exact ⟨.int (cntL c l), H, I.tok _, ⟨_, rfl⟩, q⟩
theorem mt_index : MtR X "str.index" (fun x xs H Q => ∃ y z i rest, x = .str y ∧ xs = [.str z] ∧ Builtin.Str.occurrences y z 0 y.length 1 = i :: rest ∧ Q (.int (i : Nat)) H) := by
  intro pins s σ H x xs v us Q I rx r h
  obtain ⟨y, z, i, rest, rfl, rfl, ho, q⟩ := h
  obtain ⟨t, rfl⟩ := (show ∃ t, v = Value.str y t from rx)
  obtain ⟨u, rfl, ru⟩ := vals1 r
  obtain ⟨t', rfl⟩ := (show ∃ t, u = Value.str z t from ru)
  exact SC.index ho ⟨.int i, H, I.tok _, ⟨_, rfl⟩, q⟩
theorem strs_of : ∀ {ls : List (List Nat)} {us : List Value}, Vals (ls.map fun l => V.str (T l)) us → StrsAre us (ls.map T)
  | [], _, r => by rw [List.map_nil] at r; cases r; exact .nil
  | l :: ls, _, r => by
    rw [List.map_cons] at r
    cases r with
    | cons h t =>
      obtain ⟨tk, rfl⟩ := h
      exact .cons _ _ (strs_of t)
theorem join_T : ∀ ls : List (List Nat), Str.join (T []) (ls.map T) = T ls.flatten
  | [] => rfl
  | [l] => by
    show T l = T (l ++ [])
    rw [List.append_nil]
  | l :: m :: r => by
    have ih := join_T (m :: r)
    show T l ++ T [] ++ Str.join (T []) ((m :: r).map T) = _
    rw [ih, T_app, T_app, List.append_nil]
    rfl
theorem sum_T (ls : List (List Nat)) : ((ls.map T).map (·.length)).sum = ls.flatten.length := by
  induction ls with
  | nil => rfl
  | cons l r ih =>
    rw [List.map_cons, List.map_cons, List.sum_cons, ih, T_len, List.flatten_cons, List.length_append]
/-- ''.join(a list of texts) -/
theorem mt_join : MtR X "str.join" (fun x xs H Q => ∃ (p : Addr) (ls : List (List Nat)), x = .str (T []) ∧ xs = [.ref p] ∧ SqL X.K H p (ls.map fun l => V.str (T l)) ∧ ls.flatten.length ≤ 1000000 ∧ Q (.str (T ls.flatten)) H) := by
  intro pins s σ H x xs v us Q I rx r h
  obtain ⟨p, ls, rfl, rfl, hS, hz, q⟩ := h
  obtain ⟨t, rfl⟩ := (show ∃ t, v = Value.str (T []) t from rx)
  obtain ⟨u, rfl, ru⟩ := vals1 r
  cases (show u = Value.ref p from ru)
  obtain ⟨its, rv, pl, _⟩ := I.list hS
  refine join_list pl.isList (ys := ls.map T) (by simpa using strs_of rv) ?_ fun t' k => ?_
  · rw [sum_T]
    have e : (T []).length = 0 := T_len []
    rw [e, Nat.mul_zero]
    omega
  · have e : Txt.join (T []) (ls.map T) = T ls.flatten := (StrLaws.glued_eq_join _ _).trans (join_T ls)
    rw [e]
    exact ⟨.str (T ls.flatten), H, I.tok _, ⟨_, rfl⟩, q⟩
theorem flat_one (cs : List Nat) : (cs.map fun c => [c]).flatten = cs := by
  induction cs with
  | nil => rfl
  | cons c r ih => rw [List.map_cons, List.flatten_cons, ih]; rfl

/-! ### isinstance(x, T), T a built-in type -/
theorem call_isT : CallR X (.builtin "isinstance") (fun xs H Q => ∃ x C t b, xs = [x, .ty C] ∧ TyOf X.K H x t ∧ PySem.W.kitOne X.K t (.type C) = some b ∧ Q (.bl b) H) := by
  intro pins s σ H xs us Q I r h
  obtain ⟨x, C, t, b, rfl, ty, e, q⟩ := h
  obtain ⟨u, w', rfl, ru, rw'⟩ := vals2 r
  cases (show w' = Value.type C from rw')
  exact isinst_ok I ru ty e fun tk => ⟨.bl b, H, I.tok tk, rfl, q⟩

/-! ### text slices -/
theorem pick_nat (l : List Nat) (a : Nat) : ∀ k : Nat, (List.range k).filterMap (fun m => l[a + m]?) = (l.drop a).take k
  | 0 => by simp
  | k + 1 => by
    rw [List.range_succ, List.filterMap_append, pick_nat l a k, List.take_add_one, List.getElem?_drop]
    congr 1 <;> (cases l[a + k]? <;> rfl)
def cutL (l : List Nat) (lo hi : Option Int) : List Nat := (l.drop (HT.sIx l.length 0 lo)).take (HT.sIx l.length l.length hi - HT.sIx l.length 0 lo)
def clipS (n d : Nat) : Option Int → Int
  | none => (d : Int)
  | some i => max 0 (min (if i < 0 then i + (n : Int) else i) (n : Int))
theorem clip_str (o : Option Int) (n d : Nat) : clipS n d o = ((HT.sIx n d o : Nat) : Int) := by
  cases o with
  | none => rfl
  | some i =>
    show max 0 (min (if i < 0 then i + (n : Int) else i) (n : Int)) = ((if i < 0 then (i + (n : Int)).toNat else min i.toNat n : Nat) : Int)
    by_cases h : i < 0
    · rw [if_pos h, if_pos h]
      omega
    · rw [if_neg h, if_neg h]
      omega
theorem indices_str (lo hi : Option Int) (n : Nat) : Builtin.Str.strSliceIndices lo hi 1 n = (List.range (HT.sIx n n hi - HT.sIx n 0 lo)).map fun k => HT.sIx n 0 lo + k := by
  have step : ∀ a b : Nat, sliceRange (a : Int) (b : Int) 1 = (List.range (b - a)).map fun k => a + k := by
    intro a b
    unfold sliceRange
    simp only [show (1 : Int) > 0 by decide, if_true]
    have ec : (if (a : Int) < (b : Int) then ((b : Int) - (a : Int) + 1 - 1) / 1 else 0).toNat = b - a := by
      split
      · rw [Int.ediv_one]
        omega
      · omega
    rw [ec]
    refine List.map_congr_left fun k _ => ?_
    omega
  rw [← step, ← clip_str, ← clip_str]
  unfold Builtin.Str.strSliceIndices
  simp only [show (1 : Int) > 0 by decide, if_true]
  cases lo <;> cases hi <;> rfl
theorem slice_T (l : List Nat) (lo hi : Option Int) : Txt.slice (T l) lo hi = T (cutL l lo hi) := by
  unfold Txt.slice
  have hl : (T l).length = l.length := T_len l
  have pick : ((Builtin.Str.strSliceIndices lo hi 1 (T l).length).filterMap ((T l).cps[·]?)) = cutL l lo hi := by
    rw [hl, indices_str, List.filterMap_map]
    have e : ((fun i : Nat => (T l).cps[i]?) ∘ fun k => HT.sIx l.length 0 lo + k) = fun k => l[HT.sIx l.length 0 lo + k]? := by
      funext k
      show l.toArray[HT.sIx l.length 0 lo + k]? = l[HT.sIx l.length 0 lo + k]?
      simp
    rw [e, pick_nat]
    rfl
  by_cases hc : ((1 : Int) == 1 && (Builtin.Str.strSliceIndices lo hi 1 (T l).length).length == (T l).length) = true
  · rw [if_pos hc]
    have hn : (Builtin.Str.strSliceIndices lo hi 1 (T l).length).length = (T l).length := by
      rw [Bool.and_eq_true] at hc
      exact eq_of_beq hc.2
    rw [hl, indices_str, List.length_map, List.length_range] at hn
    have h1 : HT.sIx l.length l.length hi ≤ l.length := HT.sIx_le _ _ (Nat.le_refl _) _
    have h2 : HT.sIx l.length 0 lo = 0 ∨ l.length = 0 := by omega
    unfold cutL
    rw [hn]
    rcases h2 with h2 | h2
    · rw [h2, List.drop_zero, List.take_of_length_le (Nat.le_refl _)]
    · have : l = [] := List.length_eq_zero_iff.mp h2
      subst this
      rfl
  · rw [if_neg hc, pick]
    rfl
theorem sl_str : SlR X (fun x lo hi H Q => ∃ l, x = .str (T l) ∧ l.length ≤ sizeLine ∧ Q (.str (T (cutL l lo hi))) H) := by
  intro pins s σ H x v vl vu lo hi sl Q I rx hs pl pu h
  obtain ⟨l, rfl, hz, q⟩ := h
  obtain ⟨t, rfl⟩ := (show ∃ t, v = Value.str (T l) t from rx)
  refine ⟨"str", _, F.slot_str_getitem.lookup, typeIs_str _ _ _, ?_⟩
  have fin : ∀ t' k, EP X pins σ Q (.str (Txt.slice (T l) lo hi) t') { s with toks := k } := fun t' k => by
    rw [slice_T]
    exact ⟨.str (T (cutL l lo hi)), H, I.tok k, ⟨_, rfl⟩, q⟩
  have hz' : (Txt.slice (T l) lo hi).length ≤ sizeLine := Nat.le_trans (Txt.slice_le _ _ _) (by rw [T_len]; exact hz)
  cases pl with
  | none =>
    cases pu with
    | none => exact wpAny_getItem_str_slice (l := none) (u := none) (st := none) hs rfl (post_val_or_str ⟨hz', fin⟩)
    | int j uj => exact wpAny_getItem_str_slice (l := none) (u := some (j, uj)) (st := none) hs rfl (post_val_or_str ⟨hz', fin⟩)
  | int i ui =>
    cases pu with
    | none => exact wpAny_getItem_str_slice (l := some (i, ui)) (u := none) (st := none) hs rfl (post_val_or_str ⟨hz', fin⟩)
    | int j uj => exact wpAny_getItem_str_slice (l := some (i, ui)) (u := some (j, uj)) (st := none) hs rfl (post_val_or_str ⟨hz', fin⟩)

/-! ### x[::-1] of a text -/
theorem indices_rev (n : Nat) : Builtin.Str.strSliceIndices none none (-1) n = (List.range n).map fun k => n - 1 - k := by
  unfold Builtin.Str.strSliceIndices sliceRange
  simp only [show ¬ ((-1 : Int) > 0) by decide, if_false]
  have ec : (if (n : Int) - 1 > -1 then ((n : Int) - 1 - -1 - -1 - 1) / (- -1) else 0).toNat = n := by
    have e1 : (- -1 : Int) = 1 := rfl
    rw [e1]
    split
    · rw [Int.ediv_one]
      omega
    · omega
  rw [ec]
  refine List.map_congr_left fun k hk => ?_
  have := List.mem_range.mp hk
  omega
theorem filterMap_some {α β : Type} {f : α → Option β} {g : α → β} : ∀ {l : List α}, (∀ x ∈ l, f x = some (g x)) → l.filterMap f = l.map g
  | [], _ => rfl
  | x :: r, h => by
    rw [List.filterMap_cons, h x List.mem_cons_self, List.map_cons, filterMap_some fun y hy => h y (List.mem_cons_of_mem _ hy)]
theorem rev_pick (l : List Nat) : (List.range l.length).filterMap (fun k => l[l.length - 1 - k]?) = l.reverse := by
  have e : (List.range l.length).filterMap (fun k => l[l.length - 1 - k]?) = (List.range l.length).map (fun k => l.getD (l.length - 1 - k) 0) := by
    refine filterMap_some fun k hk => ?_
    have := List.mem_range.mp hk
    rw [List.getD_eq_getElem?_getD, List.getElem?_eq_getElem (by omega)]
    rfl
  rw [e]
  refine List.ext_getElem? fun i => ?_
  rw [List.getElem?_map]
  by_cases h : i < l.length
  · rw [List.getElem?_range h, List.getElem?_reverse h]
    show some (l.getD (l.length - 1 - i) 0) = l[l.length - 1 - i]?
    rw [List.getD_eq_getElem?_getD, List.getElem?_eq_getElem (by omega)]
    rfl
  · rw [List.getElem?_eq_none (by rw [List.length_range]; omega), List.getElem?_eq_none (by rw [List.length_reverse]; omega)]
    rfl
theorem sliceBy_rev (l : List Nat) (u : Tok) : Txt.sliceBy (T l) none none (-1, u) = T l.reverse := by
  unfold Txt.sliceBy
  rw [if_neg (by simp)]
  have e : (slicePicked (T l) none none (some (-1, u))) = (List.range l.length).map fun k => l.length - 1 - k := by
    unfold slicePicked
    show Builtin.Str.strSliceIndices none none (-1) (T l).length = _
    rw [indices_rev, T_len]
  rw [e, List.filterMap_map]
  have e2 : ((fun i : Nat => (T l).cps[i]?) ∘ fun k => l.length - 1 - k) = fun k => l[l.length - 1 - k]? := by
    funext k
    show l.toArray[l.length - 1 - k]? = l[l.length - 1 - k]?
    simp
  rw [e2, rev_pick]
  rfl
def tRevS (te : TE) : TE := fun σ H Q => te σ H fun x H1 => ∃ l, x = .str (T l) ∧ l.length ≤ sizeLine ∧ Q (.str (T l.reverse)) H1
theorem pe_rev {e : Expr} {te : TE} {pos p2 p3 p4 : Pos} (he : PE X e te) : PE X (.Subscript e (.Slice none none (some (.UnaryOp .USub (.Constant (.int 1) 0 p3) p4)) p2) pos) (tRevS te) := by
  intro pins s σ H Q I h
  refine Subscript_ (thn (he pins s σ H _ I h) fun v s1 ⟨x, H1, I1, r1, q1⟩ => ?_)
  obtain ⟨l, rfl, hz, q⟩ := q1
  obtain ⟨t, rfl⟩ := (show ∃ t, v = Value.str (T l) t from r1)
  refine wpAny_Slice ?_
  rw [evalPart_none]
  refine wpAny_pure ?_
  refine wpAny_pure ?_
  refine evalPart_some_step ?_
  refine thn (pe_un un_neg pe_int pins s1 σ H1 (fun x H2 => x = .int (-1) ∧ H2 = H1) I1 ⟨1, rfl, rfl, rfl⟩) fun w' s2 ⟨y, H2, I2, r2, hy, hH⟩ => ?_
  subst hy hH
  obtain ⟨uk, rfl⟩ := (show ∃ t, w' = Value.int (-1) t from r2)
  have I4 : Inv X pins σ H2 { s2 with heap := s2.heap.push { cls := .type "slice", data := .fields #[.none, .none, .int (-1) uk] } } := I2.kept (t' := s2.toks) fun b ob q => Heap.get?_push_of_some _ q
  show wpAny (model X.prog X.w) X.A (subscriptTail e (.Slice none none (some (.UnaryOp .USub (.Constant (.int 1) 0 p3) p4)) p2) (.str (T l) t) (.ref s2.heap.objs.size)) (EP X pins σ Q) X.xe { s2 with heap := s2.heap.push { cls := .type "slice", data := .fields #[.none, .none, .int (-1) uk] } }
  refine tail_any (ops := [.ref s2.heap.objs.size, .str (T l) t]) (typeIs_str _ _ _) F.slot_str_getitem.lookup (wpAny_getItem_str_slice (l := none) (u := none) (st := some (-1, uk)) ⟨_, Heap.get?_push_size _ rfl, rfl, rfl⟩ rfl (post_val_or_str ⟨?_, fun t' k => ?_⟩)) (by with_unfolding_all rfl)
  · exact Nat.le_trans (Txt.sliceBy_le (T l) none none (-1, uk) (by show (-1 : Int) ≠ 0; decide)) (by rw [T_len]; exact hz)
  · show EP X pins σ Q (.str (Txt.sliceBy (T l) none none (-1, uk)) t') _
    rw [sliceBy_rev]
    exact ⟨.str (T l.reverse), H2, I4.tok k, ⟨_, rfl⟩, q⟩

/-! ### one sign, so many times -/
theorem rep_one (c : Nat) : ∀ k : Nat, (List.replicate k (#[c] : Array Nat)).foldl (· ++ ·) #[] = (List.replicate k c).toArray := by
  have key : ∀ (k : Nat) (acc : Array Nat), (List.replicate k (#[c] : Array Nat)).foldl (· ++ ·) acc = acc ++ (List.replicate k c).toArray := by
    intro k
    induction k with
    | zero => intro acc; simp
    | succ k ih =>
      intro acc
      rw [List.replicate_succ, List.foldl_cons, ih]
      refine Array.ext' ?_
      simp [List.replicate_succ]
  intro k
  rw [key]
  simp
theorem op_rep_sign : OpR X (binaryOp .Mult) (fun x y H Q => ∃ c k, x = .str (T [c]) ∧ y = .int k ∧ 0 ≤ k ∧ k ≤ 100000 ∧ Q (.str (T (List.replicate k.toNat c))) H) := by
  intro pins s σ H x y v u Q I rx ry h
  obtain ⟨c, k, rfl, rfl, h0, h1, q⟩ := h
  obtain ⟨t, rfl⟩ := (show ∃ t, v = Value.str (T [c]) t from rx)
  obtain ⟨tk, rfl⟩ := (show ∃ t, u = Value.int k t from ry)
  have hl : (T [c]).length = 1 := T_len [c]
  refine PySem.P.mul_str ?_ (fun hk _ => ?_) (fun hk _ => ?_) ?_
  · rw [decide_eq_false (by omega), decide_eq_false (by omega)]
    rfl
  · rw [hl]
    have : (1 : Int) ≤ (2 ^ 63 - 1) / k := by
      rw [Int.le_ediv_iff_mul_le (by omega)]
      omega
    omega
  · rw [hl]
    unfold Builtin.Str.tooLong sizeLine
    refine decide_eq_false ?_
    have e : (2 : Nat) ^ 24 = 16777216 := by decide
    omega
  · by_cases hk : k < 1
    · rw [if_pos hk]
      have e : k = 0 := by omega
      subst e
      exact ⟨by decide, .str (T []), H, I.tok _, ⟨_, rfl⟩, q⟩
    · rw [if_neg hk]
      by_cases h2 : (k == 1 || (T [c]).length == 0) = true
      · rw [if_pos h2]
        have e : k = 1 := by
          rw [hl, Bool.or_eq_true] at h2
          rcases h2 with h2 | h2
          · exact eq_of_beq h2
          · exact absurd (eq_of_beq h2) (by decide)
        subst e
        exact ⟨.str (T [c]), H, I, ⟨_, rfl⟩, q⟩
      · rw [if_neg h2]
        have e : (⟨(List.replicate k.toNat (T [c]).cps).foldl (· ++ ·) #[]⟩ : Str) = T (List.replicate k.toNat c) := congrArg Str.mk (rep_one c k.toNat)
        rw [e]
        refine ⟨?_, .str (T (List.replicate k.toNat c)), H, I.tok _, ⟨_, rfl⟩, q⟩
        rw [T_len, List.length_replicate]
        have e : sizeLine = 16777216 := PySem.sizeLine_eq
        omega

/-! ### sum of ints; all, any of bools -/
theorem call_sum (hc : X.calm = true) : CallR X (.builtin "sum") (fun xs H Q => ∃ (p : Addr) (ns : List Int), xs = [.ref p] ∧ SqL X.K H p (ns.map V.int) ∧ Q (.int ns.sum) H) := by
  intro pins s σ H xs us Q I r h
  obtain ⟨p, ns, rfl, hS, q⟩ := h
  obtain ⟨u, rfl, ru⟩ := vals1 r
  cases (show u = Value.ref p from ru)
  obtain ⟨its, rv, pl, _⟩ := I.list hS
  have hi := intsAre_of rv
  have hall := hi.allInts
  obtain ⟨xs, e⟩ := hall.items
  have hl := pl.isList
  rw [e] at hl
  have es : preSum (numAt xs) xs.size = ns.sum := by
    have e1 := nums_intItems (xs := xs)
    have e2 : numsOf its = ns := hi.numsOf
    have e3 : its.toArray.toList = its := rfl
    rw [← e2, ← e3, e, e1, preSum_eq, List.take_of_length_le (by simp)]
  refine sum_intListG (I.ok.hd hc) hl fun h' tk t' hk => ?_
  rw [es]
  exact ⟨.int ns.sum, H, I.kept hk, ⟨_, rfl⟩, q⟩
theorem bools_at {bs : List Bool} {its : List Value} (r : Vals (bs.map V.bl) its) {i : Nat} {v : Value} (h : its.toArray[i]? = some v) : v = .bool (bs.getD i false) := by
  have h' : its[i]? = some v := by simpa using h
  have hl := r.length
  rw [List.length_map] at hl
  have hi : i < bs.length := by rw [hl]; exact (List.getElem?_eq_some_iff.mp h').1
  have e1 : (bs.map V.bl)[i]? = some (.bl bs[i]) := by rw [List.getElem?_map, List.getElem?_eq_getElem hi]; rfl
  obtain ⟨u, hu, ru⟩ := r.get e1
  rw [h'] at hu
  cases hu
  have e2 : v = Value.bool bs[i] := ru
  rw [e2, List.getD_eq_getElem?_getD, List.getElem?_eq_getElem hi]
  rfl
theorem all_range (bs : List Bool) : (List.range bs.length).all (fun i => bs.getD i false) = bs.all id := by
  rw [Bool.eq_iff_iff, List.all_eq_true, List.all_eq_true]
  constructor
  · intro h b hb
    obtain ⟨i, hi, rfl⟩ := List.mem_iff_getElem.mp hb
    have := h i (List.mem_range.mpr hi)
    rw [List.getD_eq_getElem?_getD, List.getElem?_eq_getElem hi] at this
    exact this
  · intro h i hi
    have hi := List.mem_range.mp hi
    rw [List.getD_eq_getElem?_getD, List.getElem?_eq_getElem hi]
    exact h _ (List.getElem_mem hi)
theorem truth_bool {P : Program} {w : World} {A : Around} {its : List Value} {bs : List Bool} (r : Vals (bs.map V.bl) its) : TruthOf P w A (fun i v => its.toArray[i]? = some v) (fun i => bs.getD i false) := by
  intro i v s Q E h q
  rw [bools_at r h]
  exact wpAny_truthy_bool q
theorem call_all (hc : X.calm = true) : CallR X (.builtin "all") (fun xs H Q => ∃ (p : Addr) (bs : List Bool), xs = [.ref p] ∧ SqL X.K H p (bs.map V.bl) ∧ Q (.bl (bs.all id)) H) := by
  intro pins s σ H xs us Q I r h
  obtain ⟨p, bs, rfl, hS, q⟩ := h
  obtain ⟨u, rfl, ru⟩ := vals1 r
  cases (show u = Value.ref p from ru)
  obtain ⟨its, rv, pl, _⟩ := I.list hS
  have hl := pl.isList
  have hlt : p < s.heap.objs.size := by obtain ⟨_, e, _⟩ := hl; exact Heap.lt_size e
  refine call_all_walk (wpAny_pyIter_list hl ?_)
  refine ⟨_, _, _, _, _, _, _, rfl, Walks.list (A := X.A.in1) (I.ok.hd hc) _ p (Nat.ne_of_lt hlt) its.toArray, ⟨⟨_, Heap.get?_push_size _ rfl, rfl, rfl⟩, hl.push _⟩, truth_bool rv, fun h' tk hk => ?_⟩
  have e : its.toArray.size = bs.length := by have := rv.length; rw [List.length_map] at this; simp [this]
  rw [e, all_range]
  have nb : ∀ b o, s.heap.get? b = some o → ¬ b ∈ [s.heap.objs.size] := fun b o eb z => by
    have e2 : b = s.heap.objs.size := by simpa using z
    exact absurd (Heap.lt_size eb) (by rw [e2]; exact Nat.lt_irrefl _)
  exact ⟨.bl (bs.all id), H, I.kept fun b o eb => hk b o (nb b o eb) (Heap.get?_push_of_some _ eb), rfl, q⟩

/-! ### == and != of nested data -/
mutual
inductive DatV (K : PySem.W.Frag) (H : Hp) : V → PyData → Prop
  | int (i : Int) : DatV K H (.int i) (.int i)
  | str (x : Str) : DatV K H (.str x) (.str x)
  | non : DatV K H .non .none
  | tup {a : Addr} {xs : List V} {ds : List PyData} (h : SqT K H a xs) (hd : DatVs K H xs ds) : DatV K H (.ref a) (.tuple ds)
  | lst {a : Addr} {xs : List V} {ds : List PyData} (h : SqL K H a xs) (hd : DatVs K H xs ds) : DatV K H (.ref a) (.list ds)
inductive DatVs (K : PySem.W.Frag) (H : Hp) : List V → List PyData → Prop
  | nil : DatVs K H [] []
  | cons {x : V} {xs : List V} {d : PyData} {ds : List PyData} (h : DatV K H x d) (t : DatVs K H xs ds) : DatVs K H (x :: xs) (d :: ds)
end
mutual
theorem dat_reads {pins : List (Addr × Obj)} {σ : St} {H : Hp} {s : Shared} (I : Inv X pins σ H s) : ∀ {x : V} {d : PyData} {u : Value}, DatV X.K H x d → RelV x u → ∃ as, Reads s.heap u d as
  | _, _, u, .int i, r => by
    obtain ⟨t, rfl⟩ := (show ∃ t, u = Value.int i t from r)
    exact ⟨_, .int i t⟩
  | _, _, u, .str x, r => by
    obtain ⟨t, rfl⟩ := (show ∃ t, u = Value.str x t from r)
    exact ⟨_, .str x t⟩
  | _, _, u, .non, r => by
    cases (show u = Value.none from r)
    exact ⟨_, .none⟩
  | _, _, u, @DatV.tup _ _ a xs ds h hd, r => by
    cases (show u = Value.ref a from r)
    obtain ⟨its, rv, ⟨o, ho, hc, n, hdd⟩, _⟩ := I.tuple h
    obtain ⟨as, q⟩ := dat_readsAll I hd rv
    exact ⟨as, reads_tuple_at ho hc hdd (by simpa using q)⟩
  | _, _, u, @DatV.lst _ _ a xs ds h hd, r => by
    cases (show u = Value.ref a from r)
    obtain ⟨its, rv, pl, _⟩ := I.list h
    obtain ⟨o, ho, hc, n, hdd⟩ := pl.isList
    obtain ⟨as, q⟩ := dat_readsAll I hd rv
    exact ⟨_, reads_list_at ho hc hdd (by simpa using q)⟩
theorem dat_readsAll {pins : List (Addr × Obj)} {σ : St} {H : Hp} {s : Shared} (I : Inv X pins σ H s) : ∀ {xs : List V} {ds : List PyData} {us : List Value}, DatVs X.K H xs ds → Vals xs us → ∃ as, ReadsAll s.heap us ds as
  | _, _, _, .nil, r => by
    cases r
    exact ⟨_, .nil⟩
  | _, _, _, .cons h t, r => by
    cases r with
    | cons r1 r2 =>
      obtain ⟨as, q1⟩ := dat_reads I h r1
      obtain ⟨bs, q2⟩ := dat_readsAll I t r2
      exact ⟨_, .cons q1 q2⟩
end
theorem op_eqD (hu : X.A.units + 64 < cLine) : OpR X (compareOp .Eq) (fun x y H Q => ∃ d e, DatV X.K H x d ∧ DatV X.K H y e ∧ SeqAt.shaped d = true ∧ SeqAt.shaped e = true ∧ Q (.bl (PyData.eqv d e)) H) := by
  intro pins s σ H x y v u Q I rx ry h
  obtain ⟨d, e, hx, hy, sd, se, q⟩ := h
  obtain ⟨as, r1⟩ := dat_reads I hx rx
  obtain ⟨bs, r2⟩ := dat_reads I hy ry
  exact eq_dataH r1 r2 sd se hu ⟨.bl _, H, I, rfl, q⟩
theorem op_neD (hu : X.A.units + 64 < cLine) : OpR X (compareOp .NotEq) (fun x y H Q => ∃ d e, DatV X.K H x d ∧ DatV X.K H y e ∧ SeqAt.shaped d = true ∧ SeqAt.shaped e = true ∧ Q (.bl (!PyData.eqv d e)) H) := by
  intro pins s σ H x y v u Q I rx ry h
  obtain ⟨d, e, hx, hy, sd, se, q⟩ := h
  obtain ⟨as, r1⟩ := dat_reads I hx rx
  obtain ⟨bs, r2⟩ := dat_reads I hy ry
  exact ne_dataH r1 r2 sd se hu ⟨.bl _, H, I, rfl, q⟩
end
end L2

set_option Elab.async false
set_option linter.all false
set_option maxRecDepth 100000
namespace PySem
namespace F
theorem slot_reversed_next : Slot "reversed" "__next__" "reversed.__next__" :=
  .of (owner := "reversed") (n := "__next__") (by rw [typeLookup_type, builtinLookup_eq_fast]; kernel_rfl) (by decide +kernel) (by decide +kernel) (by decide +kernel)
    (by first | exact .inl (by decide +kernel) | exact .inr (by decide +kernel)) (by rw [isSubtype_type]; kernel_rfl)
theorem entry_reversed_next : entryFor table "reversed.__next__" = some Builtin.«reversed.__next__» := entryFor_of_tree (by kernel_rfl)
theorem owner_reversed : Manifest.owners.lookup (String.ofList ['d', 'e', 's', 'r', 'e', 'v', 'e', 'r'].reverse) = some Manifest.sig_reversed := by kernel_rfl
theorem args_reversed_next_1 (a : Value) : argsOk "reversed.__next__" ⟨[a], []⟩ := by
  unfold argsOk; rw [signature?_of (id := "reversed.__next__") (n := ['_', '_', 't', 'x', 'e', 'n', '_', '_']) (o := ['d', 'e', 's', 'r', 'e', 'v', 'e', 'r']) (by kernel_rfl) owner_reversed]; kernel_rfl
theorem slot_reversed_iter : Slot "reversed" "__iter__" "reversed.__iter__" :=
  .of (owner := "reversed") (n := "__iter__") (by rw [typeLookup_type, builtinLookup_eq_fast]; kernel_rfl) (by decide +kernel) (by decide +kernel) (by decide +kernel)
    (by first | exact .inl (by decide +kernel) | exact .inr (by decide +kernel)) (by rw [isSubtype_type]; kernel_rfl)
theorem args_reversed_iter_1 (a : Value) : argsOk "reversed.__iter__" ⟨[a], []⟩ := by
  unfold argsOk; rw [signature?_of (id := "reversed.__iter__") (n := ['_', '_', 'r', 'e', 't', 'i', '_', '_']) (o := ['d', 'e', 's', 'r', 'e', 'v', 'e', 'r']) (by kernel_rfl) owner_reversed]; kernel_rfl
theorem entry_reversed_iter : entryFor table "reversed.__iter__" = some Builtin.«dict_keyiterator.__iter__» :=
  entryFor_alias (id' := "dict_keyiterator.__iter__") (by kernel_rfl) (by first | rfl | decide +kernel | (unfold String.splitOn; simp +decide [String.splitOnAux])) (by decide +kernel) (by kernel_rfl)
theorem str_no_reversed : typeLookup (.type "str") "__reversed__" = pure none := by rw [typeLookup_type, builtinLookup_eq_fast]; kernel_rfl
end F
section
variable {prog : Program} {w : World} {A : Around} {E : Value → Shared → Prop} {s : Shared}
def revStr (x : Str) (t : Tok) (i : Int) : Obj := { cls := .type "reversed", data := .fields #[.str x t, rawInt i] }
def Heap.IsRevStr (h : Heap) (a : Addr) (x : Str) (t : Tok) (i : Int) : Prop := ∃ o, h.get? a = some o ∧ o.cls = .type "reversed" ∧ o.data = .fields #[.str x t, rawInt i]
theorem Heap.IsRevStr.typeIs {a : Addr} {x : Str} {t : Tok} {i : Int} (y : s.heap.IsRevStr a x t i) : s.TypeIs (.ref a) "reversed" := let ⟨o, ho, hc, _⟩ := y; ⟨o, ho, hc⟩
theorem code_reversed_str {x : Str} {t : Tok} {Q₁ : Value → Shared → Prop} (hz : x.length ≤ sizeLine)
    (h : ∀ k, Q₁ (.ref s.heap.objs.size) { s with heap := s.heap.push (revStr x t ((x.length : Int) - 1)), toks := k }) :
    codeAny (model prog w) A (.call (.builtin "reversed.__new__") ⟨[.type "reversed", .str x t], []⟩) (wants Q₁ E) s := by
  refine codeAny_of_tree ?_
  show wpAny _ A.in1 (do checkBuiltinCall "reversed.__new__" ⟨[.type "reversed", .str x t], []⟩; again (.builtin "reversed.__new__" ⟨[.type "reversed", .str x t], []⟩)) _ _ s
  refine wpAny_bind (wpAny_of_eq (F.newCall_reversed_1 _) (wpAny_pure ⟨plainId_quiet F.plain_reversed_new _, codeAny_builtin F.entry_reversed_new ?_⟩))
  rw [Around.under_plainId F.plain_reversed_new _]
  unfold Builtin.«reversed.__new__»
  refine wpAny_bind (wpAny_of_eq (newClass_reversed _) ?_)
  try dsimp only
  refine wpAny_bind (wpAny_of_eq (a := ()) (by first | rfl | kernel_rfl) ?_)
  refine wpAny_bind (wpAny_of_eq (a := ()) (by first | rfl | kernel_rfl) ?_)
  try dsimp only
  refine wpAny_bind (wpAny_specialOf (typeIs_str _ _ _) F.str_no_reversed ?_)
  try dsimp only
  refine wpAny_bind ?_
  show wpAny _ _ (isInstance (.str x t) (.type "dict") >>= _) _ _ _
  refine wpAny_bind (wpAny_isInstance (typeIs_str _ _ _) F.sub_str_dict ?_)
  rw [if_neg Bool.false_ne_true]
  show wpAny _ _ (specialOf (.str x t) "__getitem__" >>= _) _ _ _
  refine wpAny_bind (wpAny_specialOf (typeIs_str _ _ _) F.slot_str_getitem.lookup ?_)
  dsimp only
  rw [if_pos (show (["tuple.__getitem__", "str.__getitem__", "bytes.__getitem__", "bytearray.__getitem__", "memoryview.__getitem__", "numpy.ndarray.__getitem__", "sqlite3.Row.__getitem__"].contains "str.__getitem__") = true by decide +kernel)]
  refine wpAny_pure ?_
  show wpAny _ _ (call (.builtin "len") [.str x t] >>= _) _ _ _
  have hfit : ¬ (x.length : Int) ≥ 2 ^ 63 := by
    have e : sizeLine = 16777216 := PySem.sizeLine_eq
    omega
  refine wpAny_bind (P.len_str hfit ?_)
  refine wpAny_bind (wpAny_of_eq (a := some (x.length : Int)) rfl ?_)
  dsimp only
  show wpAny _ _ (newObj (.type "reversed") (.fields [Value.str x t, rawInt ((x.length : Int) - 1)].toArray) >>= _) _ _ _
  refine wpAny_bind (wpAny_newObj_type ?_)
  exact wpAny_pure (h _)
theorem slot_reversed_init : Slot "reversed" "__init__" "object.__init__" :=
  .of (owner := "object") (n := "__init__") (by rw [typeLookup_type, builtinLookup_eq_fast]; kernel_rfl) (by decide +kernel) (by decide +kernel) (by decide +kernel)
    (by first | exact .inl (by decide +kernel) | exact .inr (by decide +kernel)) (by rw [isSubtype_type]; kernel_rfl)
theorem called_reversed : TypeCalled "reversed" "reversed.__new__" "object.__init__" :=
  ⟨by decide +kernel, F.create_reversed, ⟨_, _, F.mro_reversed⟩, F.made_reversed, F.plain_reversed_new, F.sub_reversed_self, slot_reversed_init⟩
theorem call_reversed_str {x : Str} {t : Tok} {Q : Value → Shared → Prop} (hz : x.length ≤ sizeLine)
    (h : ∀ k, Q (.ref s.heap.objs.size) { s with heap := s.heap.push (revStr x t ((x.length : Int) - 1)), toks := k }) : wpAny (model prog w) A (call (.type "reversed") [.str x t]) Q E s := by
  refine callType_codes (Q₁ := fun obj s₁ => obj = .ref s.heap.objs.size ∧ ∃ k, s₁ = { s with heap := s.heap.push (revStr x t ((x.length : Int) - 1)), toks := k }) called_reversed (F.typeCall_reversed_1 _) F.entry_object_init
    (code_reversed_str hz fun k => ⟨rfl, k, rfl⟩) ?_
  rintro obj s₁ ⟨rfl, k, rfl⟩
  have hT : ({ s with heap := s.heap.push (revStr x t ((x.length : Int) - 1)), toks := k } : Shared).TypeIs (.ref s.heap.objs.size) "reversed" := ⟨_, Heap.get?_push_size _ rfl, rfl⟩
  exact ⟨hT, F.args_object_init_2 _ _, object_init_meets (T := "reversed") slot_reversed_init.lookup F.made_reversed (by decide) prog w A.in1 _ _ ⟨hT, rfl, h k⟩⟩
theorem wpAny_pyNext_revStr_item {it : Addr} {x : Str} {t : Tok} {i c : Nat} {Q : Option Value → Shared → Prop} (hit : s.heap.IsRevStr it x t (i : Int)) (hi : i < x.length) (hz : x.length ≤ sizeLine) (hx : x.cps[i]? = some c)
    (hQ : ∀ h' u k, h'.IsRevStr it x t ((i : Int) - 1) → Heap.SameBut it s.heap h' → Q (some (.str ⟨#[c]⟩ u)) { s with heap := h', toks := k }) : wpAny (model prog w) A (pyNext (.ref it)) Q E s := by
  obtain ⟨o, ho, hc, hd⟩ := id hit
  unfold pyNext
  refine wpAny_bind (wpAny_attempt (wpAny_callSpecial?_slot (name := Str.ofString "__next__") hit.typeIs F.slot_reversed_next
    (wpAny_call_entry F.slot_reversed_next hit.typeIs F.entry_reversed_next ?_ (F.args_reversed_next_1 _))))
  unfold Builtin.«reversed.__next__»
  refine wpAny_bind (wpAny_of_eq (a := (Value.ref it, [])) rfl ?_)
  try dsimp only
  refine wpAny_bind (wpAny_field ho hd (x := .str x t) rfl ?_)
  refine wpAny_bind (wpAny_field ho hd (x := rawInt (i : Int)) rfl ?_)
  show wpAny _ _ (if (i : Int) < 0 then _ else _) _ _ s
  rw [if_neg (by omega)]
  refine wpAny_bind (wpAny_specialOf (typeIs_str _ _ _) F.slot_str_getitem.lookup ?_)
  rw [if_neg (show ¬ ((some (Value.builtin "str.__getitem__")).isNone = true) from Bool.false_ne_true)]
  refine wpAny_bind (wpAny_mkInt ?_)
  have esz : sizeLine = 16777216 := PySem.sizeLine_eq
  have hget : (seqIndex? (i : Int) x.length).bind (x.cps[·]?) = some c := by
    rw [StrLaws.seqIndex_nonneg (by omega) (by omega)]
    exact hx
  refine wpAny_bind (wpAny_attempt (P.getItem_str (by rw [decide_eq_false (by omega), decide_eq_false (by omega)]; rfl) hget ?_))
  dsimp only
  refine wpAny_bind (wpAny_field ho hd (x := rawInt (i : Int)) rfl ?_)
  show wpAny _ _ (setField (.ref it) 1 (rawInt ((i : Int) - 1)) >>= _) _ _ _
  refine wpAny_bind (wpAny_setField ho hd (by simp) ?_)
  first
  | refine wpAny_pure ⟨_, rfl, wpAny_pure (hQ _ _ _ ?_ (Heap.SameBut.update ..))⟩
  | refine wpAny_bind (wpAny_pure (wpAny_pure ⟨_, rfl, wpAny_pure (hQ _ _ _ ?_ (Heap.SameBut.update ..))⟩))
  exact ⟨_, Heap.get?_update_self _ ho (Obj.isFreed_of_fields (Obj.data_mapFields hd _)), (Obj.cls_mapFields ..).trans hc, by
    rw [Obj.data_mapFields hd]; simp⟩
theorem wpAny_pyNext_revStr_end {it : Addr} {x : Str} {t : Tok} {Q : Option Value → Shared → Prop} (hh : A.handled = none) (hit : s.heap.IsRevStr it x t (-1))
    (hQ : ∀ h', Heap.ExtBut it s.heap h' → Q none { s with heap := h' }) : wpAny (model prog w) A (pyNext (.ref it)) Q E s := by
  obtain ⟨o, ho, hc, hd⟩ := id hit
  unfold pyNext
  refine wpAny_bind (wpAny_attempt (wpAny_callSpecial?_slot (name := Str.ofString "__next__") hit.typeIs F.slot_reversed_next
    (wpAny_call_entry F.slot_reversed_next hit.typeIs F.entry_reversed_next ?_ (F.args_reversed_next_1 _))))
  unfold Builtin.«reversed.__next__»
  refine wpAny_bind (wpAny_of_eq (a := (Value.ref it, [])) rfl ?_)
  try dsimp only
  refine wpAny_bind (wpAny_field ho hd (x := .str x t) rfl ?_)
  refine wpAny_bind (wpAny_field ho hd (x := rawInt (-1)) rfl ?_)
  show wpAny _ _ (if (-1 : Int) < 0 then _ else _) _ _ s
  rw [if_pos (by decide)]
  refine wpAny_bind (wpAny_rule ?_)
  refine wpAny_bind ?_
  show wpAny _ _ (setField (.ref it) 1 (rawInt (-1)) >>= _) _ _ _
  refine wpAny_bind (wpAny_setField ho hd (by simp) ?_)
  have ho1 := Heap.get?_update_self (Obj.mapFields (·.setIfInBounds 1 (rawInt (-1)))) ho (Obj.isFreed_of_fields (Obj.data_mapFields hd _))
  have hd1 := Obj.data_mapFields hd (·.setIfInBounds 1 (rawInt (-1)))
  refine wpAny_setField ho1 hd1 (by simp) ?_
  refine wpAny_bind ?_
  show wpAny _ _ (newExc (.type "StopIteration") [] >>= _) _ _ _
  refine wpAny_bind ?_
  simp only [newExc, newTuple]
  refine wpAny_bind (wpAny_newObj_type ?_ (by size_fits))
  refine wpAny_bind (m := firstArgMember _ _) (wpAny_of_eq (a := Value.none) (by first | rfl | (simp only [firstArgMember]; rfl)) ?_)
  refine wpAny_newObj_type ?_ (by size_fits)
  simp only [raiseNew]
  refine wpAny_bind (wpAny_handled ?_)
  first | rw [show A.in1.handled = none from hh] | rw [hh]
  refine wpAny_bind (wpAny_pure (wpAny_throw ?_))
  refine wpAny_bind (wpAny_isInstance (T := "StopIteration") (b := true) ⟨_, Heap.get?_push_size _ rfl, rfl⟩ isSubtype_stop ?_)
  refine wpAny_pure (hQ _ fun b ob hb e => ?_)
  refine Heap.get?_push_of_some _ (Heap.get?_push_of_some _ ?_)
  exact (Heap.get?_update_other _ _ (Ne.symm hb)).trans ((Heap.get?_update_other _ _ (Ne.symm hb)).trans e)
theorem wpAny_pyIter_revStr {it : Addr} {x : Str} {t : Tok} {i : Int} {Q : Value → Shared → Prop} (hit : s.heap.IsRevStr it x t i) (h : Q (.ref it) s) : wpAny (model prog w) A (pyIter (.ref it)) Q E s := by
  refine wpAny_pyIter_slot hit.typeIs F.slot_reversed_iter (wpAny_call_entry F.slot_reversed_iter hit.typeIs F.entry_reversed_iter ?_ (F.args_reversed_iter_1 _))
  show wpAny _ _ (ret (.ref it)) _ _ s
  exact wpAny_pure ⟨_, rfl, "reversed", _, hit.typeIs, F.slot_reversed_next.lookup, h⟩
end
end PySem

set_option Elab.async false
set_option linter.all false
set_option maxRecDepth 100000
namespace L2
open PySem PySem.Spec PyProof.Rows
theorem turn_revStr {P : Program} {w : World} {K : PySem.W.Frag} {tg : Expr} (l : List Nat) (t : Tok) (it : Addr) (hz : l.length ≤ sizeLine) : Turn P w K tg (Its l.reverse) [it] it (fun i h => i ≤ l.length ∧ h.IsRevStr it (T l) t ((l.length : Int) - 1 - (i : Int))) where
  mem := by simp
  obj := fun i h st b hb => by
    have e : b = it := by simpa using hb
    subst e
    obtain ⟨_, o, e, c, d⟩ := st
    exact ⟨o, e, fun v z => by rw [d] at z; cases z⟩
  keep := fun i h h' st k => by
    obtain ⟨hi, o, e, r⟩ := st
    exact ⟨hi, o, k it (by simp) o e, r⟩
  item := by
    intro X hP hw hK hc i pins s σ H E I hf st hg
    subst hP hw hK
    have hi : i < l.reverse.length := hg
    have hi' : i < l.length := by rw [List.length_reverse] at hi; exact hi
    have hx : l.reverse[i]? = some (l.reverse[i]) := List.getElem?_eq_getElem hi
    have hxl : l[l.length - 1 - i]? = some (l.reverse[i]) := by rw [← hx, List.getElem?_reverse hi']
    obtain ⟨f0, f1, f2, f3, f4, f5⟩ := hf it (by simp)
    have e1 : (l.length : Int) - 1 - (i : Int) = ((l.length - 1 - i : Nat) : Int) := by omega
    have st1 := st.2
    rw [e1] at st1
    refine wpAny_pyNext_revStr_item st1 (by rw [T_len]; omega) (by rw [T_len]; exact hz) (T_at hxl) fun h' u k st' sb => ?_
    have I1 : Inv X pins σ H { s with heap := h', toks := k } := I.turned (t' := k) (fun b o hb e => (sb.2 b hb).trans e) f0 f1 f3 f4 f5
    obtain ⟨o, e, c, d⟩ := id st'
    refine ⟨_, rfl, go_of (s := { s with heap := h', toks := k }) e c d (by decide) ⟨.str (T [l.reverse[i]]), H, I1, ⟨_, rfl⟩, ⟨rfl, _, hx, rfl⟩, ⟨hi', ?_⟩, fun b hb => (hf b hb).1⟩⟩
    have e2 : (l.length : Int) - 1 - ((i + 1 : Nat) : Int) = ((l.length - 1 - i : Nat) : Int) - 1 := by omega
    rw [e2]
    exact st'
  done := by
    intro X hP hw hK hc i pins s σ H E I hf st hg
    subst hP hw hK
    have hi : l.reverse.length ≤ i := hg
    rw [List.length_reverse] at hi
    obtain ⟨f0, f1, f2, f3, f4, f5⟩ := hf it (by simp)
    have e1 : (l.length : Int) - 1 - (i : Int) = -1 := by have := st.1; omega
    have st1 := st.2
    rw [e1] at st1
    exact wpAny_pyNext_revStr_end (I.ok.hd hc) st1 fun h' eb => ⟨rfl, I.turned (t' := s.toks) (fun b o hb e => eb b o hb e) f0 f1 f3 f4 f5⟩
  self := fun _ _ _ _ _ st h => wpAny_pyIter_revStr st.2 h
def iRevS (ta : TA) : TI := fun σ H R => ta σ H fun vs H1 => ∃ l, vs = [.str (T l)] ∧ l.length ≤ sizeLine ∧ R (Its l.reverse) H1
theorem pi_revS {X : Cx} {tg a : Expr} {ta : TA} {p pos : Pos} (hg : Gl X "reversed") (hm : X.mg "reversed" = none) (ha : PA X [a] ta) (hs : starEach [a] X.env = [(false, eval a X.env)] := by rfl) : PI X tg (.Call (.Name "reversed" p) [a] [] pos) (iRevS ta) := by
  intro pins s σ H R I h
  refine Call_ (ld_blt I hg hm boot_reversed (PyProof.Rows.callWith_type1 (thn (ha pos pins s σ H _ I h) fun us s1 ⟨vs, H1, I1, r1, q1⟩ => ?_) hs rfl))
  obtain ⟨l, rfl, hz, q⟩ := q1
  obtain ⟨u, rfl, ru⟩ := vals1 r1
  obtain ⟨t, rfl⟩ := (show ∃ t, u = Value.str (T l) t from ru)
  refine call_reversed_str (by rw [T_len]; exact hz) fun k => ?_
  have I2 : Inv X pins σ H1 { s1 with heap := s1.heap.push (revStr (T l) t (((T l).length : Int) - 1)), toks := k } := I1.kept fun b o e => Heap.get?_push_of_some _ e
  have st : ({ s1 with heap := s1.heap.push (revStr (T l) t (((T l).length : Int) - 1)), toks := k } : Shared).heap.IsRevStr s1.heap.objs.size (T l) t ((l.length : Int) - 1 - ((0 : Nat) : Int)) := by
    refine ⟨_, Heap.get?_push_size _ rfl, rfl, ?_⟩
    show Data.fields #[.str (T l) t, rawInt (((T l).length : Int) - 1)] = Data.fields #[.str (T l) t, rawInt ((l.length : Int) - 1 - ((0 : Nat) : Int))]
    rw [T_len]
    simp
  refine wpAny_pyIter_revStr st ?_
  refine ⟨s1.heap.objs.size, [s1.heap.objs.size], _, _, H1, rfl, I2, turn_revStr l t _ hz, ⟨Nat.zero_le _, st⟩, fun b hb => ?_, q⟩
  have e : b = s1.heap.objs.size := by simpa using hb
  subst e
  exact I1.fpOk (Nat.le_refl _) (I1.hok.fresh (Nat.le_refl _))
end L2

set_option Elab.async false
set_option linter.all false
set_option maxRecDepth 100000
namespace L2
open PySem PySem.Spec PyProof.Rows
/-! ### a dict of the module's, its keys texts, read -/
def KDict (K : PySem.W.Frag) (w : World) (a : Addr) (es : Array DictEntry) : Prop := ∃ (n : Nat), K.lookup a = some ⟨.type "dict", none, .dict es n, #[]⟩ ∧ ∀ e ∈ es, ∃ x t, e.key = .str x t ∧ e.hash = hashStr w x
def tKGet (K : PySem.W.Frag) (w : World) (td ty : TE) : TE := fun σ H Q => td σ H fun x H1 => ty σ H1 fun y H2 => ∃ a es z u v, x = .ref a ∧ y = .str z ∧ KDict K w a es ∧ findBy Value.isStrOf es z = some u ∧ RelV v u ∧ Q v H2
section
variable {X : Cx} {o i : Expr} {pos : Pos} {td ty : TE}
theorem pe_kget (ho : PE X o td) (hi : PE X i ty) (hs : NoSl i) : PE X (.Subscript o i pos) (tKGet X.K X.w td ty) := by
  intro pins s σ H Q I h
  refine subD_of PySem.F.slot_dict_getitem.lookup hs (thn (ho pins s σ H _ I h) fun u s1 ⟨x, H1, I1, rx, q1⟩ => thn (hi pins s1 σ H1 _ I1 q1) fun iv s2 ⟨y, H2, I2, ry, q2⟩ => ?_)
  obtain ⟨a, es, z, u', v, rfl, rfl, ⟨n, hk, hkeys⟩, hf, rv, q⟩ := q2
  obtain rfl : u = Value.ref a := rx
  obtain ⟨t, rfl⟩ := (show ∃ t, iv = Value.str z t from ry)
  have hg := I2.kIn a _ hk
  have hm : s2.heap.MapOf (strKind X.prog X.w) a (findBy (strKind X.prog X.w).is es) := ⟨_, es, n, hg, ⟨rfl, rfl, rfl⟩, rfl, fun e he => by
    obtain ⟨x, t, e1, e2⟩ := hkeys e he
    refine ⟨x, ?_, e2⟩
    show Value.isStrOf x e.key = true
    rw [e1]
    simp [Value.isStrOf], fun _ => rfl⟩
  refine ⟨⟨_, hg, rfl⟩, wpAny_getItem_of (knd := strKind X.prog X.w) (k := z) ?_ hm hf ?_⟩
  · show Value.isStrOf z (Value.str z t) = true
    simp [Value.isStrOf]
  · exact ⟨v, H2, I2.tok _, rv, q⟩
end
end L2

namespace WM
/-! Walks as lists of codes: n 110, w 119, s 115, e 101. Plain mathematics, no library. -/
def Lt (c : Nat) : Prop := c = 110 ∨ c = 119 ∨ c = 115 ∨ c = 101
def IsW (l : List Nat) : Prop := ∀ c ∈ l, Lt c
theorem isW_nil : IsW [] := fun _ h => nomatch h
theorem isW_cons {c : Nat} {l : List Nat} : IsW (c :: l) ↔ Lt c ∧ IsW l := by
  constructor
  · intro h
    exact ⟨h c List.mem_cons_self, fun d hd => h d (List.mem_cons_of_mem _ hd)⟩
  · rintro ⟨h1, h2⟩ d hd
    rcases List.mem_cons.mp hd with rfl | hd
    · exact h1
    · exact h2 d hd
theorem isW_append {a b : List Nat} : IsW (a ++ b) ↔ IsW a ∧ IsW b := by
  constructor
  · intro h
    exact ⟨fun c hc => h c (List.mem_append_left _ hc), fun c hc => h c (List.mem_append_right _ hc)⟩
  · rintro ⟨h1, h2⟩ c hc
    rcases List.mem_append.mp hc with h | h
    · exact h1 c h
    · exact h2 c h
theorem isW_reverse {a : List Nat} : IsW a.reverse ↔ IsW a := by
  constructor
  · intro h c hc
    exact h c (List.mem_reverse.mpr hc)
  · intro h c hc
    exact h c (List.mem_reverse.mp hc)
theorem isW_replicate {n c : Nat} (h : Lt c) : IsW (List.replicate n c) := by
  intro d hd
  rw [(List.mem_replicate.mp hd).2]
  exact h

/-! ### places -/
abbrev Pt := Int × Int
def stepP (p : Pt) (c : Nat) : Pt :=
  if c = 110 then (p.1, p.2 + 1) else if c = 101 then (p.1 + 1, p.2) else if c = 115 then (p.1, p.2 - 1) else (p.1 - 1, p.2)
def goP (p : Pt) (l : List Nat) : Pt := l.foldl stepP p
def posOf (l : List Nat) : Pt := goP (0, 0) l
/-- where the walk is at each moment, from p on -/
def placesP : Pt → List Nat → List Pt
  | p, [] => [p]
  | p, c :: r => p :: placesP (stepP p c) r
def plOf (l : List Nat) : List Pt := placesP (0, 0) l
theorem goP_append (p : Pt) (a b : List Nat) : goP p (a ++ b) = goP (goP p a) b := List.foldl_append
theorem goP_snoc (p : Pt) (l : List Nat) (c : Nat) : goP p (l ++ [c]) = stepP (goP p l) c := by
  rw [goP_append]
  rfl
theorem placesP_snoc : ∀ (l : List Nat) (p : Pt) (c : Nat), placesP p (l ++ [c]) = placesP p l ++ [stepP (goP p l) c]
  | [], p, c => rfl
  | d :: r, p, c => by
    show p :: placesP (stepP p d) (r ++ [c]) = p :: placesP (stepP p d) r ++ [stepP (goP (stepP p d) r) c]
    rw [placesP_snoc r]
    rfl
theorem placesP_length : ∀ (l : List Nat) (p : Pt), (placesP p l).length = l.length + 1
  | [], _ => rfl
  | c :: r, p => by
    show (placesP (stepP p c) r).length + 1 = r.length + 1 + 1
    rw [placesP_length r]
theorem placesP_last : ∀ (l : List Nat) (p : Pt), ∃ pre, placesP p l = pre ++ [goP p l]
  | [], p => ⟨[], rfl⟩
  | c :: r, p => by
    obtain ⟨pre, e⟩ := placesP_last r (stepP p c)
    exact ⟨p :: pre, by show p :: placesP (stepP p c) r = _; rw [e]; rfl⟩
/-- the step's vector -/
def vec (c : Nat) : Pt := if c = 110 then (0, 1) else if c = 101 then (1, 0) else if c = 115 then (0, -1) else (-1, 0)
theorem stepP_vec (p : Pt) (c : Nat) : stepP p c = (p.1 + (vec c).1, p.2 + (vec c).2) := by
  unfold stepP vec
  split
  · simp
  · split
    · simp
    · split
      · refine Prod.ext ?_ ?_
        · simp
        · show p.2 - 1 = p.2 + -1
          omega
      · refine Prod.ext ?_ ?_
        · show p.1 - 1 = p.1 + -1
          omega
        · simp
theorem goP_add : ∀ (l : List Nat) (p : Pt), goP p l = (p.1 + (posOf l).1, p.2 + (posOf l).2)
  | [], p => by
    show p = (p.1 + 0, p.2 + 0)
    simp
  | c :: r, p => by
    have h1 := goP_add r (stepP p c)
    have h2 := goP_add r (stepP (0, 0) c)
    have e1 : goP p (c :: r) = goP (stepP p c) r := rfl
    have e2 : posOf (c :: r) = goP (stepP (0, 0) c) r := rfl
    rw [e1, e2, h1, h2, stepP_vec, stepP_vec (0, 0)]
    refine Prod.ext ?_ ?_
    · show p.1 + (vec c).1 + (posOf r).1 = p.1 + (0 + (vec c).1 + (posOf r).1)
      omega
    · show p.2 + (vec c).2 + (posOf r).2 = p.2 + (0 + (vec c).2 + (posOf r).2)
      omega
theorem posOf_cons (c : Nat) (r : List Nat) : posOf (c :: r) = ((vec c).1 + (posOf r).1, (vec c).2 + (posOf r).2) := by
  have h := goP_add r (stepP (0, 0) c)
  have e2 : posOf (c :: r) = goP (stepP (0, 0) c) r := rfl
  rw [e2, h, stepP_vec]
  refine Prod.ext ?_ ?_
  · show 0 + (vec c).1 + (posOf r).1 = (vec c).1 + (posOf r).1
    omega
  · show 0 + (vec c).2 + (posOf r).2 = (vec c).2 + (posOf r).2
    omega
theorem posOf_append (a b : List Nat) : posOf (a ++ b) = ((posOf a).1 + (posOf b).1, (posOf a).2 + (posOf b).2) := by
  have e : posOf (a ++ b) = goP (posOf a) b := goP_append _ _ _
  rw [e, goP_add]

/-! ### counts -/
def cntC (c : Nat) : List Nat → Nat
  | [] => 0
  | d :: r => (if d = c then 1 else 0) + cntC c r
theorem cntC_cons (c d : Nat) (r : List Nat) : cntC c (d :: r) = (if d = c then 1 else 0) + cntC c r := rfl
theorem posOf_cnt : ∀ {l : List Nat}, IsW l → posOf l = ((cntC 101 l : Int) - (cntC 119 l : Int), (cntC 110 l : Int) - (cntC 115 l : Int))
  | [], _ => rfl
  | c :: r, h => by
    obtain ⟨h1, h2⟩ := isW_cons.mp h
    rw [posOf_cons, posOf_cnt h2, cntC_cons, cntC_cons, cntC_cons, cntC_cons]
    rcases h1 with rfl | rfl | rfl | rfl
    all_goals
      refine Prod.ext ?_ ?_
      · simp [vec]
        try omega
      · simp [vec]
        try omega

/-! ### turning -/
/-- the place of a letter in nwse -/
def ix (c : Nat) : Nat := if c = 110 then 0 else if c = 119 then 1 else if c = 115 then 2 else 3
def lw (i : Nat) : Nat := if i = 0 then 110 else if i = 1 then 119 else if i = 2 then 115 else 101
/-- turned by q quarters, 0 ≤ q -/
def tn (q : Nat) (c : Nat) : Nat := lw ((ix c + q) % 4)
def turnL (q : Nat) (l : List Nat) : List Nat := l.map (tn q)
theorem lt_lw (i : Nat) : Lt (lw i) := by
  unfold lw Lt
  split
  · exact .inl rfl
  · split
    · exact .inr (.inl rfl)
    · split
      · exact .inr (.inr (.inl rfl))
      · exact .inr (.inr (.inr rfl))
theorem lt_tn (q c : Nat) : Lt (tn q c) := lt_lw _
theorem isW_turnL (q : Nat) (l : List Nat) : IsW (turnL q l) := by
  intro c hc
  obtain ⟨d, _, rfl⟩ := List.mem_map.mp hc
  exact lt_tn q d
theorem ix_lt (c : Nat) : ix c < 4 := by
  unfold ix
  split
  · decide
  · split
    · decide
    · split <;> decide
theorem ix_lw {i : Nat} (h : i < 4) : ix (lw i) = i := by
  rcases (by omega : i = 0 ∨ i = 1 ∨ i = 2 ∨ i = 3) with rfl | rfl | rfl | rfl <;> rfl
theorem lw_ix {c : Nat} (h : Lt c) : lw (ix c) = c := by
  rcases h with rfl | rfl | rfl | rfl <;> rfl
theorem tn_tn (p q : Nat) (c : Nat) : tn p (tn q c) = tn ((p + q) % 4) c := by
  unfold tn
  rw [ix_lw (Nat.mod_lt _ (by decide))]
  congr 1
  omega
theorem tn_zero {c : Nat} (h : Lt c) : tn 0 c = c := by
  unfold tn
  rw [Nat.add_zero, Nat.mod_eq_of_lt (ix_lt c)]
  exact lw_ix h
theorem turnL_turnL {p q : Nat} {l : List Nat} (h : IsW l) (hpq : (p + q) % 4 = 0) : turnL p (turnL q l) = l := by
  unfold turnL
  rw [List.map_map]
  have e : ∀ c ∈ l, (tn p ∘ tn q) c = c := by
    intro c hc
    show tn p (tn q c) = c
    rw [tn_tn, hpq, tn_zero (h c hc)]
  have := List.map_congr_left e
  rw [this, List.map_id']
/-- a place turned by q quarters to the left -/
def rot (q : Nat) (p : Pt) : Pt := if q = 0 then p else if q = 1 then (-p.2, p.1) else if q = 2 then (-p.1, -p.2) else (p.2, -p.1)
theorem vec_tn {q c : Nat} (hq : q < 4) (h : Lt c) : vec (tn q c) = rot q (vec c) := by
  rcases (by omega : q = 0 ∨ q = 1 ∨ q = 2 ∨ q = 3) with rfl | rfl | rfl | rfl <;>
    (rcases h with rfl | rfl | rfl | rfl <;> decide)
theorem rot_add {q : Nat} (a b : Pt) : rot q (a.1 + b.1, a.2 + b.2) = ((rot q a).1 + (rot q b).1, (rot q a).2 + (rot q b).2) := by
  unfold rot
  split
  · rfl
  · split
    · refine Prod.ext ?_ ?_
      · show -(a.2 + b.2) = -a.2 + -b.2
        omega
      · rfl
    · split
      · refine Prod.ext ?_ ?_
        · show -(a.1 + b.1) = -a.1 + -b.1
          omega
        · show -(a.2 + b.2) = -a.2 + -b.2
          omega
      · refine Prod.ext ?_ ?_
        · rfl
        · show -(a.1 + b.1) = -a.1 + -b.1
          omega
theorem rot_zero (q : Nat) : rot q (0, 0) = (0, 0) := by
  unfold rot
  split
  · rfl
  · split
    · rfl
    · split <;> rfl
theorem posOf_turnL {q : Nat} (hq : q < 4) : ∀ {l : List Nat}, IsW l → posOf (turnL q l) = rot q (posOf l)
  | [], _ => by
    show ((0, 0) : Pt) = rot q (0, 0)
    rw [rot_zero]
  | c :: r, h => by
    obtain ⟨h1, h2⟩ := isW_cons.mp h
    have e : turnL q (c :: r) = tn q c :: turnL q r := rfl
    rw [e, posOf_cons, posOf_cons, posOf_turnL hq h2, vec_tn hq h1, rot_add]

/-! ### backwards, mirrored -/
def backL (l : List Nat) : List Nat := turnL 2 l.reverse
def mir (c : Nat) : Nat := if c = 101 then 119 else if c = 119 then 101 else c
def mirL (l : List Nat) : List Nat := l.map mir
theorem lt_mir {c : Nat} (h : Lt c) : Lt (mir c) := by
  rcases h with rfl | rfl | rfl | rfl
  · exact .inl rfl
  · exact .inr (.inr (.inr rfl))
  · exact .inr (.inr (.inl rfl))
  · exact .inr (.inl rfl)
theorem isW_mirL {l : List Nat} (h : IsW l) : IsW (mirL l) := by
  intro c hc
  obtain ⟨d, hd, rfl⟩ := List.mem_map.mp hc
  exact lt_mir (h d hd)
theorem mir_mir {c : Nat} (h : Lt c) : mir (mir c) = c := by
  rcases h with rfl | rfl | rfl | rfl <;> rfl
theorem mirL_mirL {l : List Nat} (h : IsW l) : mirL (mirL l) = l := by
  unfold mirL
  rw [List.map_map]
  have e : ∀ c ∈ l, (mir ∘ mir) c = c := fun c hc => mir_mir (h c hc)
  rw [List.map_congr_left e, List.map_id']
theorem isW_backL (l : List Nat) : IsW (backL l) := isW_turnL _ _
theorem turnL_reverse (q : Nat) (l : List Nat) : turnL q l.reverse = (turnL q l).reverse := by
  unfold turnL
  rw [List.map_reverse]
theorem backL_backL {l : List Nat} (h : IsW l) : backL (backL l) = l := by
  unfold backL
  rw [← turnL_reverse, List.reverse_reverse]
  exact turnL_turnL h rfl
theorem posOf_reverse : ∀ l : List Nat, posOf l.reverse = posOf l
  | [] => rfl
  | c :: r => by
    rw [List.reverse_cons, posOf_append, posOf_reverse r, posOf_cons, posOf_cons]
    show ((posOf r).1 + ((vec c).1 + 0), (posOf r).2 + ((vec c).2 + 0)) = _
    refine Prod.ext ?_ ?_
    · show (posOf r).1 + ((vec c).1 + 0) = (vec c).1 + (posOf r).1
      omega
    · show (posOf r).2 + ((vec c).2 + 0) = (vec c).2 + (posOf r).2
      omega
theorem posOf_backL {l : List Nat} (h : IsW l) : posOf (backL l) = (-(posOf l).1, -(posOf l).2) := by
  unfold backL
  rw [posOf_turnL (by decide) (isW_reverse.mpr h), posOf_reverse]
  rfl
theorem home_zero {l : List Nat} (h : IsW l) : posOf (l ++ backL l) = (0, 0) := by
  rw [posOf_append, posOf_backL h]
  refine Prod.ext ?_ ?_
  · show (posOf l).1 + -(posOf l).1 = 0
    omega
  · show (posOf l).2 + -(posOf l).2 = 0
    omega

/-! ### the way home -/
theorem posOf_replicate (n c : Nat) : posOf (List.replicate n c) = ((n : Int) * (vec c).1, (n : Int) * (vec c).2) := by
  induction n with
  | zero => 
    show ((0, 0) : Pt) = _
    simp
  | succ n ih =>
    rw [List.replicate_succ, posOf_cons, ih]
    refine Prod.ext ?_ ?_
    · show (vec c).1 + (n : Int) * (vec c).1 = ((n + 1 : Nat) : Int) * (vec c).1
      rw [Int.natCast_add, Int.add_mul]
      simp
      omega
    · show (vec c).2 + (n : Int) * (vec c).2 = ((n + 1 : Nat) : Int) * (vec c).2
      rw [Int.natCast_add, Int.add_mul]
      simp
      omega
def alongL (x : Int) : List Nat := List.replicate x.natAbs (if 0 < x then 119 else 101)
def upL (y : Int) : List Nat := List.replicate y.natAbs (if 0 < y then 115 else 110)
theorem isW_alongL (x : Int) : IsW (alongL x) := by
  refine isW_replicate ?_
  split
  · exact .inr (.inl rfl)
  · exact .inr (.inr (.inr rfl))
theorem isW_upL (x : Int) : IsW (upL x) := by
  refine isW_replicate ?_
  split
  · exact .inr (.inr (.inl rfl))
  · exact .inl rfl
theorem posOf_alongL (x : Int) : posOf (alongL x) = (-x, 0) := by
  unfold alongL
  rw [posOf_replicate]
  by_cases h : 0 < x
  · rw [if_pos h]
    refine Prod.ext ?_ ?_
    · show (x.natAbs : Int) * (-1) = -x
      omega
    · show (x.natAbs : Int) * 0 = 0
      omega
  · rw [if_neg h]
    refine Prod.ext ?_ ?_
    · show (x.natAbs : Int) * 1 = -x
      omega
    · show (x.natAbs : Int) * 0 = 0
      omega
theorem posOf_upL (y : Int) : posOf (upL y) = (0, -y) := by
  unfold upL
  rw [posOf_replicate]
  by_cases h : 0 < y
  · rw [if_pos h]
    refine Prod.ext ?_ ?_
    · show (y.natAbs : Int) * 0 = 0
      omega
    · show (y.natAbs : Int) * (-1) = -y
      omega
  · rw [if_neg h]
    refine Prod.ext ?_ ?_
    · show (y.natAbs : Int) * 0 = 0
      omega
    · show (y.natAbs : Int) * 1 = -y
      omega
/-- the law's closed walk: b is «the sum is even» -/
def closedL (b : Bool) (l : List Nat) : List Nat :=
  if b = true then l ++ upL (posOf l).2 ++ alongL (posOf l).1 else l ++ alongL (posOf l).1 ++ upL (posOf l).2
theorem isW_closedL {b : Bool} {l : List Nat} (h : IsW l) : IsW (closedL b l) := by
  unfold closedL
  split
  · exact isW_append.mpr ⟨isW_append.mpr ⟨h, isW_upL _⟩, isW_alongL _⟩
  · exact isW_append.mpr ⟨isW_append.mpr ⟨h, isW_alongL _⟩, isW_upL _⟩
theorem posOf_closedL (b : Bool) (l : List Nat) : posOf (closedL b l) = (0, 0) := by
  unfold closedL
  split
  · rw [posOf_append, posOf_append, posOf_upL, posOf_alongL]
    refine Prod.ext ?_ ?_
    · show (posOf l).1 + 0 + -(posOf l).1 = 0
      omega
    · show (posOf l).2 + -(posOf l).2 + 0 = 0
      omega
  · rw [posOf_append, posOf_append, posOf_upL, posOf_alongL]
    refine Prod.ext ?_ ?_
    · show (posOf l).1 + -(posOf l).1 + 0 = 0
      omega
    · show (posOf l).2 + 0 + -(posOf l).2 = 0
      omega
theorem posOf_bound : ∀ l : List Nat, (posOf l).1.natAbs + (posOf l).2.natAbs ≤ l.length
  | [] => by decide
  | c :: r => by
    have ih := posOf_bound r
    rw [posOf_cons, List.length_cons]
    have hv : (vec c).1.natAbs + (vec c).2.natAbs ≤ 1 := by
      unfold vec
      split
      · decide
      · split
        · decide
        · split <;> decide
    show ((vec c).1 + (posOf r).1).natAbs + ((vec c).2 + (posOf r).2).natAbs ≤ r.length + 1
    omega
theorem closedL_length (b : Bool) (l : List Nat) : (closedL b l).length ≤ 2 * l.length := by
  have h := posOf_bound l
  unfold closedL alongL upL
  split <;> (simp only [List.length_append, List.length_replicate]; omega)

/-! ### begun elsewhere -/
def rotL (k : Nat) (l : List Nat) : List Nat := l.drop k ++ l.take k
theorem rotL_length (k : Nat) (l : List Nat) : (rotL k l).length = l.length := by
  unfold rotL
  rw [List.length_append, List.length_drop, List.length_take]
  omega
theorem rotL_get {k i : Nat} {l : List Nat} (hk : k < l.length) (hi : i < l.length) : (rotL k l)[i]? = l[(i + k) % l.length]? := by
  unfold rotL
  by_cases h : i < l.length - k
  · rw [List.getElem?_append_left (by rw [List.length_drop]; exact h), List.getElem?_drop, Nat.mod_eq_of_lt (by omega), Nat.add_comm]
  · rw [List.getElem?_append_right (by rw [List.length_drop]; omega), List.length_drop, List.getElem?_take, if_pos (by omega)]
    congr 1
    rw [Nat.mod_eq_sub_mod (by omega), Nat.mod_eq_of_lt (by omega)]
    omega
/-- (i + by) % n by the remainder of «by» -/
theorem mod_shift (i : Nat) (b : Int) (n : Nat) (hn : 0 < n) : ((i : Int) + b) % (n : Int) = (((i + (b % (n : Int)).toNat) % n : Nat) : Int) := by
  have h0 : 0 ≤ b % (n : Int) := Int.emod_nonneg _ (by omega)
  have e : (((i + (b % (n : Int)).toNat) % n : Nat) : Int) = ((i : Int) + (b % (n : Int))) % (n : Int) := by
    rw [Int.natCast_emod, Int.natCast_add, Int.toNat_of_nonneg h0]
  rw [e, Int.add_emod, Int.add_emod (i : Int) (b % (n : Int)), Int.emod_emod_of_dvd b (Int.dvd_refl _)]

/-! ### the law's own walk -/
/-- nesw -/
def lawC (k : Int) : Nat := if k % 4 = 0 then 110 else if k % 4 = 1 then 101 else if k % 4 = 2 then 115 else 119
def lawW (ns : List Int) : List Nat := ns.map lawC
theorem lt_lawC (k : Int) : Lt (lawC k) := by
  unfold lawC
  split
  · exact .inl rfl
  · split
    · exact .inr (.inr (.inr rfl))
    · split
      · exact .inr (.inr (.inl rfl))
      · exact .inr (.inl rfl)
theorem isW_lawW (ns : List Int) : IsW (lawW ns) := by
  intro c hc
  obtain ⟨k, _, rfl⟩ := List.mem_map.mp hc
  exact lt_lawC k
theorem lawW_length (ns : List Int) : (lawW ns).length = ns.length := List.length_map ..
end WM

set_option Elab.async false
set_option linter.all false
set_option maxRecDepth 100000
set_option maxHeartbeats 4000000
namespace SW
open PySem L2 WM
theorem lit_n : (Str.ofString "n") = T [110] := by decide +kernel
theorem lit_e : (Str.ofString "e") = T [101] := by decide +kernel
theorem lit_s : (Str.ofString "s") = T [115] := by decide +kernel
theorem lit_w : (Str.ofString "w") = T [119] := by decide +kernel
theorem lit_0 : (Str.ofString "") = T [] := by decide +kernel
theorem lit_nwse : (Str.ofString "nwse") = T [110, 119, 115, 101] := by decide +kernel
theorem lit_nesw : (Str.ofString "nesw") = T [110, 101, 115, 119] := by decide +kernel
theorem strT {l m : List Nat} : decide (V.str (T l) = V.str (T m)) = decide (l = m) := by
  by_cases h : l = m
  · subst h
    rw [decide_eq_true rfl, decide_eq_true rfl]
  · rw [decide_eq_false h, decide_eq_false fun z => h (T_inj (V.str.inj z))]
theorem occ_ix {c : Nat} (h : Lt c) : ∃ rest, Builtin.Str.occurrences (T [110, 119, 115, 101]) (T [c]) 0 (T [110, 119, 115, 101]).length 1 = ix c :: rest := by
  rcases h with rfl | rfl | rfl | rfl
  · exact ⟨[], by decide +kernel⟩
  · exact ⟨[], by decide +kernel⟩
  · exact ⟨[], by decide +kernel⟩
  · exact ⟨[], by decide +kernel⟩
theorem occ_in {c : Nat} (h : Lt c) : (Builtin.Str.occurrences (T [110, 119, 115, 101]) (T [c]) 0 (T [110, 119, 115, 101]).length 1).isEmpty = false := by
  obtain ⟨rest, e⟩ := occ_ix h
  rw [e]
  rfl
theorem lw_at {i : Nat} (h : i < 4) : ([110, 119, 115, 101] : List Nat)[i]? = some (lw i) := by
  rcases (by omega : i = 0 ∨ i = 1 ∨ i = 2 ∨ i = 3) with rfl | rfl | rfl | rfl <;> rfl

def compB (N : List Str) (fsc sc : Scope) : Bool :=
  decide (sc.kind = .function) && sc.names.all (fun y => decide (y.2 ≠ .cell)) && sc.names.all (fun y => decide (y.2 = .local → sc.names.lookup y.1 = some .local)) &&
    sc.names.all (fun y => decide (y.2 = .free → fsc.names.lookup y.1 = some .cell ∨ fsc.names.lookup y.1 = some .free)) && N.all fun x => decide (sc.names.lookup x ≠ some .local)
theorem compSc_of {X : Cx} {sc : Scope} (N : List Str) (fsc : Scope) (hN : X.N = N) (hs : X.env.scope = fsc) (hb : compB N fsc sc = true) : CompSc X sc := by
  unfold compB at hb
  simp only [Bool.and_eq_true, List.all_eq_true, decide_eq_true_eq] at hb
  obtain ⟨⟨⟨⟨h1, h2⟩, h3⟩, h4⟩, h5⟩ := hb
  refine ⟨h1, h2, h3, fun y hy e => ?_, fun x hx => ?_⟩
  · have := h4 y hy e
    rw [← hs] at this
    exact this
  · rw [hN] at hx
    exact h5 x hx
theorem nd_of {X : Cx} (N : List Str) (hN : X.N = N) (hb : N.Nodup) : X.N.Nodup := by
  rw [hN]
  exact hb
/-- a def of the text: itself, how it binds, its name -/
structure Df (K : PySem.W.Frag) (mg : Str → Option Value) (x : Str) (st : Stmt) (ps : List Str) (f : Addr) (fd : FuncData) : Prop where
  fn : Fun K x x st f fd
  bi : Binds K fd ps []
  at_ : mg x = some (.ref f)
/-- what the walk asks of the module's names -/
structure Txt (K : PySem.W.Frag) (mg : Str → Option Value) : Prop where
  isi : mg "isinstance" = none
  str : mg "str" = none
  int : mg "int" = none
  bool : mg "bool" = none
  lw : ∃ t, mg "LEFTWARD" = some (.str "nwse" t)
theorem kit_str (K : PySem.W.Frag) : PySem.W.kitOne K (.type "str") (.type "str") = some true := by
  unfold PySem.W.kitOne
  rw [if_pos (by decide +kernel)]
theorem kit_int_bool (K : PySem.W.Frag) : PySem.W.kitOne K (.type "int") (.type "bool") = some false := by
  unfold PySem.W.kitOne
  rw [if_neg (by decide +kernel)]
  first | rfl | decide +kernel
theorem kit_int (K : PySem.W.Frag) : PySem.W.kitOne K (.type "int") (.type "int") = some true := by
  unfold PySem.W.kitOne
  rw [if_pos (by decide +kernel)]
section
variable {P : Program} {w : World} {K : PySem.W.Frag} {mg : Str → Option Value} {base : Heap}
def spCheckWalk : Sp := fun vs H Q _ => ∃ l, vs = [.str (T l)] ∧ IsW l ∧ Q .non H
def spCheckNumber : Sp := fun vs H Q _ => ∃ i, vs = [.int i] ∧ Q .non H
def spStepped (K : PySem.W.Frag) : Sp := fun vs H Q _ => ∃ (a : Addr) (p : Pt) (c : Nat), vs = [.ref a, .str (T [c])] ∧ Lt c ∧ SqT K H a [.int p.1, .int p.2] ∧ ∀ b, H b = none → Q (.ref b) (upd H b (.tup [.int (stepP p c).1, .int (stepP p c).2]))
theorem two_le : 2 ≤ sizeLine := by decide
/-- tuples of two numbers -/
abbrev Tups (H : Hp) : List Addr → List Pt → Prop := Paired fun a (q : Pt) => H a = some (.tup [.int q.1, .int q.2])
theorem Tups.mono {H H' : Hp} {as : List Addr} {ps : List Pt} (h : Tups H as ps) (s : ∀ b xs, H b = some (.tup xs) → H' b = some (.tup xs)) : Tups H' as ps := Paired.mapP h fun a q e => s a _ e
/-- a list of places, the asker's own -/
def PlAt (H : Hp) (d : Addr) (ps : List Pt) : Prop := ∃ as : List Addr, H d = some (.lst (as.map V.ref)) ∧ Tups H as ps
theorem PlAt.same {H H' : Hp} {d : Addr} {ps : List Pt} (h : PlAt H d ps) (s : Same H H') : PlAt H' d ps := by
  obtain ⟨as, h1, h2⟩ := h
  exact ⟨as, s _ _ h1, h2.mono fun b xs e => s _ _ e⟩
def spPlaces : Sp := fun vs H Q _ => ∃ l, vs = [.str (T l)] ∧ IsW l ∧ l.length ≤ 1000 ∧ ∀ d H', H d = none → Same H H' → PlAt H' d (plOf l) → Q (.ref d) H'
def spEnd : Sp := fun vs H Q _ => ∃ l, vs = [.str (T l)] ∧ IsW l ∧ ∀ b, H b = none → Q (.ref b) (upd H b (.tup [.int (posOf l).1, .int (posOf l).2]))
theorem cntL_eq (c : Nat) : ∀ l : List Nat, cntL c l = cntC c l
  | [] => rfl
  | d :: r => by
    show (if d = c then 1 else 0) + cntL c r = (if d = c then 1 else 0) + cntC c r
    rw [cntL_eq c r]
end
section
variable {P : Program} {w : World} {K : PySem.W.Frag} {mg : Str → Option Value} {base : Heap}
def spTurned : Sp := fun vs H Q _ => ∃ (c : Nat) (q : Int), vs = [.str (T [c]), .int q] ∧ Lt c ∧ Q (.str (T [tn (q % 4).toNat c])) H
theorem turn_ix (c : Nat) (q : Int) : (((ix c : Nat) : Int) + q) % 4 = (((ix c + (q % 4).toNat) % 4 : Nat) : Int) := mod_shift (ix c) q 4 (by decide)
def spTakenBack : Sp := fun vs H Q _ => ∃ (c : Nat), vs = [.str (T [c])] ∧ Lt c ∧ Q (.str (T [tn 2 c])) H
def spQuartered : Sp := fun vs H Q _ => ∃ (l : List Nat) (b : Int), vs = [.str (T l), .int b] ∧ IsW l ∧ l.length ≤ 1000 ∧ ∀ H', Same H H' → Q (.str (T (turnL (b % 4).toNat l))) H'
theorem mod4 (b : Int) : (b % 4 % 4).toNat = (b % 4).toNat := by rw [Int.emod_emod_of_dvd b (Int.dvd_refl 4)]
end
/-- MIRROR as the top has made it -/
def mirEs (w : World) (t1 t2 t3 t4 u1 u2 u3 u4 : Tok) : Array DictEntry := #[⟨PyData.keyHash w.params "n", .str "n" t1, .str "n" u1⟩, ⟨PyData.keyHash w.params "e", .str "e" t2, .str "w" u2⟩, ⟨PyData.keyHash w.params "s", .str "s" t3, .str "s" u3⟩, ⟨PyData.keyHash w.params "w", .str "w" t4, .str "e" u4⟩]
structure TxtM (K : PySem.W.Frag) (mg : Str → Option Value) (w : World) : Prop where
  at_ : ∃ a n t1 t2 t3 t4 u1 u2 u3 u4, mg "MIRROR" = some (.ref a) ∧ K.lookup a = some ⟨.type "dict", none, .dict (mirEs w t1 t2 t3 t4 u1 u2 u3 u4) n, #[]⟩
theorem mir_find {w : World} {t1 t2 t3 t4 u1 u2 u3 u4 : Tok} {c : Nat} (h : Lt c) : ∃ u, findBy Value.isStrOf (mirEs w t1 t2 t3 t4 u1 u2 u3 u4) (T [c]) = some u ∧ RelV (.str (T [mir c])) u := by
  rcases h with rfl | rfl | rfl | rfl
  · exact ⟨.str "n" u1, rfl, u1, by rw [lit_n]; rfl⟩
  · exact ⟨.str "e" u4, rfl, u4, by rw [lit_e]; rfl⟩
  · exact ⟨.str "s" u3, rfl, u3, by rw [lit_s]; rfl⟩
  · exact ⟨.str "w" u2, rfl, u2, by rw [lit_w]; rfl⟩
section
variable {P : Program} {w : World} {K : PySem.W.Frag} {mg : Str → Option Value} {base : Heap}
def spMirrored : Sp := fun vs H Q _ => ∃ (l : List Nat), vs = [.str (T l)] ∧ IsW l ∧ l.length ≤ 1000 ∧ ∀ H', Same H H' → Q (.str (T (mirL l))) H'
def spBackwards : Sp := fun vs H Q _ => ∃ (l : List Nat), vs = [.str (T l)] ∧ IsW l ∧ l.length ≤ 1000 ∧ ∀ H', Same H H' → Q (.str (T (backL l))) H'
theorem eqv_pt (p q : Pt) : PyData.eqv (.tuple [.int p.1, .int p.2]) (.tuple [.int q.1, .int q.2]) = decide (p = q) := by
  by_cases h : p = q
  · subst h
    simp [PyData.eqv, PyData.eqvAll]
  · rw [decide_eq_false h]
    have : ¬ (p.1 = q.1 ∧ p.2 = q.2) := fun z => h (Prod.ext z.1 z.2)
    simp [PyData.eqv, PyData.eqvAll]
    intro e1 e2
    exact this ⟨e1, e2⟩
theorem shaped_pt (p : Pt) : SeqAt.shaped (.tuple [.int p.1, .int p.2]) = true := rfl
theorem dat_pt {H : Hp} {a : Addr} {p : Pt} (h : H a = some (.tup [.int p.1, .int p.2])) : DatV K H (.ref a) (.tuple [.int p.1, .int p.2]) := .tup (SqT.of h) (.cons (.int _) (.cons (.int _) .nil))
def spCheckClosed : Sp := fun vs H Q _ => ∃ (l : List Nat), vs = [.str (T l)] ∧ IsW l ∧ posOf l = (0, 0) ∧ ∀ H', Same H H' → Q .non H'
def spBegun : Sp := fun vs H Q _ => ∃ (l : List Nat) (b : Int), vs = [.str (T l), .int b] ∧ IsW l ∧ l.length ≤ 1000 ∧ posOf l = (0, 0) ∧ ∀ H', Same H H' → Q (.str (T (rotL (b % (l.length : Int)).toNat l))) H'
theorem cut_from {l : List Nat} {k : Nat} (h : k ≤ l.length) : cutL l (some (k : Int)) none = l.drop k := by
  unfold cutL
  rw [HT.sIx_nat, HT.sIx_none, Nat.min_eq_left h]
  exact List.take_of_length_le (by rw [List.length_drop]; exact Nat.le_refl _)
theorem cut_to {l : List Nat} {k : Nat} (h : k ≤ l.length) : cutL l none (some (k : Int)) = l.take k := by
  unfold cutL
  rw [HT.sIx_nat, HT.sIx_none, Nat.min_eq_left h]
  rfl
end
/-- a dict of four pairs -/
theorem pe_disp4 {X : Cx} {pos : Pos} {k1 k2 k3 k4 v1 v2 v3 v4 : Expr} {a1 a2 a3 a4 b1 b2 b3 b4 : TE} (h1 : PE X k1 a1) (g1 : PE X v1 b1) (h2 : PE X k2 a2) (g2 : PE X v2 b2) (h3 : PE X k3 a3) (g3 : PE X v3 b3) (h4 : PE X k4 a4) (g4 : PE X v4 b4) :
    PE X (.Dict [some k1, some k2, some k3, some k4] [v1, v2, v3, v4] pos) (tDisp [(a1, b1), (a2, b2), (a3, b3), (a4, b4)]) := by
  have p4 : PPs X pos [some k4] [v4] [(a4, b4)] := pps_cons h4 g4 pps_nil
  have p3 : PPs X pos [some k3, some k4] [v3, v4] [(a3, b3), (a4, b4)] := pps_cons h3 g3 p4
  have p2 : PPs X pos [some k2, some k3, some k4] [v2, v3, v4] [(a2, b2), (a3, b3), (a4, b4)] := pps_cons h2 g2 p3
  have p1 : PPs X pos [some k1, some k2, some k3, some k4] [v1, v2, v3, v4] [(a1, b1), (a2, b2), (a3, b3), (a4, b4)] := pps_cons h1 g1 p2
  exact pe_disp p1 rfl rfl (List.cons_ne_nil _ _) (by decide : 4 ≤ 15)
structure PEw (X : Cx) (e : Expr) (t : TE) : Prop where
  out : PE X e t
structure PSw (X : Cx) (st : Stmt) (t : TS) : Prop where
  out : PS X st t
structure PSsw (X : Cx) (sts : List Stmt) (t : TS) : Prop where
  out : PSs X sts t
theorem pw_disp4 {X : Cx} {pos : Pos} {k1 k2 k3 k4 v1 v2 v3 v4 : Expr} {a1 a2 a3 a4 b1 b2 b3 b4 : TE} (h1 : PE X k1 a1) (g1 : PE X v1 b1) (h2 : PE X k2 a2) (g2 : PE X v2 b2) (h3 : PE X k3 a3) (g3 : PE X v3 b3) (h4 : PE X k4 a4) (g4 : PE X v4 b4) :
    PEw X (.Dict [some k1, some k2, some k3, some k4] [v1, v2, v3, v4] pos) (tDisp [(a1, b1), (a2, b2), (a3, b3), (a4, b4)]) := ⟨pe_disp4 h1 g1 h2 g2 h3 g3 h4 g4⟩
section
variable {X : Cx} {o i e tg : Expr} {pos pos' : Pos} {td ty te : TE} {g : TG} {st : Stmt} {rest : List Stmt} {t u : TS}
theorem pw_dget (hu : X.A.units + 1 < cLine) (ho : PEw X o td) (hi : PE X i ty) (hs : NoSl i) : PEw X (.Subscript o i pos) (tDGet td ty) := ⟨pe_dget hu ho.out hi hs⟩
theorem psw_asg (he : PEw X e te) (hg : PG X tg g) (hs : swapsWithSole [tg] e pos.line X.env = pure false := by rfl) (hw : swappedStores [tg] e X.env = pure none := by rfl) (h1 : (assignEach [tg] X.env).map (·.2) = [assign tg X.env] := by rfl) : PSw X (.Assign [tg] e pos) (tAsg te g) := ⟨ps_asg he.out hg hs hw h1⟩
theorem pssw_cons (h1 : PSw X st t) (h2 : PSs X rest u) : PSsw X (st :: rest) (tSeq t u) := ⟨pss_cons h1.out h2⟩
theorem pss_consW (h1 : PS X st t) (h2 : PSsw X rest u) : PSs X (st :: rest) (tSeq t u) := pss_cons h1 h2.out
theorem psw_set {i : Nat} {x : Str} (hN : X.N.Nodup) (hi : X.N[i]? = some x) (hx : Loc X.env.scope x) (he : PEw X e te) (hs : swapsWith e (some (.Name x pos')) pos.line X.env = pure false := by rfl) (hf : X.fn x = true ∨ X.env.scope.names.lookup x = some .local := by first | exact .inl rfl | exact .inr rfl | assumption) :
    PSw X (.Assign [.Name x pos'] e pos) (tAsg te (gName i)) := ⟨ps_set hN hi hx he.out hs hf⟩
end
section
variable {P : Program} {w : World} {K : PySem.W.Frag} {mg : Str → Option Value} {base : Heap}
def spLawWalk (K : PySem.W.Frag) : Sp := fun vs H Q _ => ∃ (a : Addr) (ns : List Int), vs = [.ref a] ∧ SqL K H a (ns.map V.int) ∧ ns.length ≤ 63 ∧ ∀ H', Same H H' → Q (.str (T (lawW ns))) H'
theorem law_at (k : Int) : atI ([110, 101, 115, 119] : List Nat) (k % 4) = some (lawC k) := by
  have h0 : 0 ≤ k % 4 := Int.emod_nonneg _ (by decide)
  have h1 : k % 4 < 4 := Int.emod_lt_of_pos _ (by decide)
  unfold lawC
  rcases (by omega : k % 4 = 0 ∨ k % 4 = 1 ∨ k % 4 = 2 ∨ k % 4 = 3) with e | e | e | e <;> rw [e] <;> rfl
def lawV : V → V
  | .int k => .str (T [lawC k])
  | _ => .non
/-- the four ways as a dict -/
def dirK (b1 b2 b3 b4 : Addr) : List (Key × V) := [(Sum.inr (T [110]), .ref b1), (Sum.inr (T [101]), .ref b2), (Sum.inr (T [115]), .ref b3), (Sum.inr (T [119]), .ref b4)]
theorem ne_keys {c d : Nat} (h : ¬ c = d) : ¬ ((Sum.inr (T [c]) : Key) = Sum.inr (T [d])) := fun z => h (by
  have := T_inj (Sum.inr.inj z)
  simpa using this)
theorem dir_merge (b1 b2 b3 b4 : Addr) : mergeK [] (dirK b1 b2 b3 b4) = dirK b1 b2 b3 b4 := by
  unfold dirK mergeK
  simp only [List.foldl_cons, List.foldl_nil]
  rw [putK_new (kvs := []) _ rfl, List.nil_append]
  rw [putK_new (k := Sum.inr (T [101])) _ (by rw [valV_neg (ne_keys (by decide)), valV_nil])]
  rw [putK_new (k := Sum.inr (T [115])) _ (by rw [List.cons_append, valV_neg (ne_keys (by decide)), List.nil_append, valV_neg (ne_keys (by decide)), valV_nil])]
  rw [putK_new (k := Sum.inr (T [119])) _ (by
    simp only [List.cons_append, List.nil_append]
    rw [valV_neg (ne_keys (by decide)), valV_neg (ne_keys (by decide)), valV_neg (ne_keys (by decide)), valV_nil])]
  rfl
/-- where a letter's vector stands -/
def dirA (b1 b2 b3 b4 : Addr) (c : Nat) : Addr := if c = 110 then b1 else if c = 101 then b2 else if c = 115 then b3 else b4
theorem dir_val {b1 b2 b3 b4 : Addr} {c : Nat} (h : Lt c) : valV (dirK b1 b2 b3 b4) (Sum.inr (T [c]) : Key) = some (.ref (dirA b1 b2 b3 b4 c)) := by
  unfold dirK
  rcases h with rfl | rfl | rfl | rfl
  · rw [valV_pos rfl]
    rfl
  · rw [valV_neg (ne_keys (by decide)), valV_neg (ne_keys (by decide)), valV_neg (ne_keys (by decide)), valV_pos rfl]
    rfl
  · rw [valV_neg (ne_keys (by decide)), valV_neg (ne_keys (by decide)), valV_pos rfl]
    rfl
  · rw [valV_neg (ne_keys (by decide)), valV_pos rfl]
    rfl
theorem same_new {H : Hp} {b : Addr} {o : HO} (h : H b = none) : Same H (upd H b o) := same_upd h (Same.refl _)
theorem tups_last {H : Hp} : ∀ {as : List Addr} {pre : List Pt} {p : Pt}, Tups H as (pre ++ [p]) → ∃ as' q, as = as' ++ [q] ∧ H q = some (.tup [.int p.1, .int p.2])
  | _, [], p, .cons h .nil => ⟨[], _, rfl, h⟩
  | _, _ :: pre, p, .cons h t => by
    obtain ⟨as', q, rfl, hq⟩ := tups_last (pre := pre) t
    exact ⟨_ :: as', q, rfl, hq⟩
end
section
variable {P : Program} {w : World} {K : PySem.W.Frag} {mg : Str → Option Value} {base : Heap}
def spLawClosed (K : PySem.W.Frag) : Sp := fun vs H Q _ => ∃ (a : Addr) (ns : List Int), vs = [.ref a] ∧ SqL K H a (ns.map V.int) ∧ ns.length ≤ 63 ∧ ∀ H', Same H H' → Q (.str (T (closedL (decide (ns.sum % 2 = 0)) (lawW ns)))) H'
theorem PE.imp {X : Cx} {e : Expr} {t t' : TE} (h : PE X e t) (q : ∀ σ H Q, t' σ H Q → t σ H Q) : PE X e t' := fun pins s σ H Q I k => h pins s σ H Q I (q σ H Q k)
def tSign (i : Nat) (a b : Str) : TE := fun σ H Q => ∃ z, σ[i]? = some (some (.int z)) ∧ Q (.str (if 0 < z then a else b)) H
theorem pe_sign {X : Cx} {e : Expr} {i : Nat} {a b : Str} {p1 p2 p3 p4 p5 : Pos} (hv : PE X e (tVar i)) : PE X (.IfExp (.Compare e [.Gt] [.Constant (.int 0) 0 p1] p2) (.Constant (.str a) 0 p3) (.Constant (.str b) 0 p4) p5)
    (tSign i a b) := by
  refine PE.imp (pe_ifExp (pt_cmpR op_gt hv pe_int (nomark _)) pe_str pe_str) fun σ H Q ⟨z, h1, h2⟩ => ?_
  refine ⟨_, h1, _, _, rfl, rfl, _, rfl, ?_⟩
  by_cases hz : 0 < z
  · rw [if_pos hz] at h2
    rw [decide_eq_true hz]
    exact iteT h2
  · rw [if_neg hz] at h2
    rw [decide_eq_false hz]
    exact iteF h2
theorem abs_nat (i : Int) : (if i < 0 then -i else i) = (i.natAbs : Int) := by
  split
  · omega
  · omega
end
def ptD (p : Pt) : PyData := .tuple [.int p.1, .int p.2]
theorem lay_pl : ∀ ps : List Pt, PyData.canLayAll0 (ps.map ptD) = true
  | [] => rfl
  | p :: r => by
    rw [List.map_cons]
    show (PyData.canLay0 (ptD p) && PyData.canLayAll0 (r.map ptD)) = true
    rw [lay_pl r]
    rfl
theorem deep_pl : ∀ ps : List Pt, PyData.depthAll (ps.map ptD) ≤ 1
  | [] => Nat.zero_le _
  | p :: r => by
    have ih := deep_pl r
    have e : PyData.depth (ptD p) = 1 := rfl
    simp only [List.map_cons, PyData.depthAll, e]
    omega
theorem shaped_pl (ps : List Pt) : SeqAt.shaped (.list (ps.map ptD)) = true := by
  have h1 := lay_pl ps
  have h2 := deep_pl ps
  simp only [SeqAt.shaped, PyData.canLay0, PyData.depth, h1, Bool.true_and, decide_eq_true_eq]
  exact decide_eq_true (by omega)
theorem eqv_pl : ∀ ps : List Pt, PyData.eqvAll (ps.map ptD) (ps.map ptD) = true
  | [] => rfl
  | p :: r => by
    have e : PyData.eqv (ptD p) (ptD p) = true := (eqv_pt p p).trans (decide_eq_true rfl)
    simp only [List.map_cons, PyData.eqvAll, e, eqv_pl r, Bool.and_self]
theorem eqv_pls (ps : List Pt) : PyData.eqv (.list (ps.map ptD)) (.list (ps.map ptD)) = true := by
  simp only [PyData.eqv]
  exact eqv_pl ps
theorem dats_pl {K : PySem.W.Frag} {H : Hp} : ∀ {as : List Addr} {ps : List Pt}, Tups H as ps → DatVs K H (as.map V.ref) (ps.map ptD)
  | _, _, .nil => .nil
  | _, _, .cons h t => .cons (dat_pt h) (dats_pl t)
theorem dat_pl {K : PySem.W.Frag} {H : Hp} {d : Addr} {ps : List Pt} (h : PlAt H d ps) : DatV K H (.ref d) (.list (ps.map ptD)) := by
  obtain ⟨as, h1, h2⟩ := h
  exact .lst (SqL.of h1) (dats_pl h2)
theorem kit_list (K : PySem.W.Frag) : PySem.W.kitOne K (.type "list") (.type "list") = some true := by
  unfold PySem.W.kitOne
  rw [if_pos (by decide +kernel)]
theorem kit_tuple (K : PySem.W.Frag) : PySem.W.kitOne K (.type "tuple") (.type "tuple") = some true := by
  unfold PySem.W.kitOne
  rw [if_pos (by decide +kernel)]
theorem tups_get {H : Hp} : ∀ {as : List Addr} {ps : List Pt} {i : Nat} {x : V}, Tups H as ps → (as.map V.ref)[i]? = some x → ∃ a p, x = .ref a ∧ H a = some (.tup [.int (Prod.fst (α := Int) (β := Int) p), .int p.2])
  | _, _, _, _, .nil, e => by simp at e
  | _, _, 0, _, .cons h _, e => by
    simp at e
    exact ⟨_, _, e.symm, h⟩
  | _, _, i + 1, x, .cons _ t, e => tups_get (i := i) t (by simpa using e)
def wayK : List (Key × V) := [(Sum.inr (T [101]), .str (T [119])), (Sum.inr (T [119]), .str (T [101])), (Sum.inr (T [110]), .str (T [110])), (Sum.inr (T [115]), .str (T [115]))]
theorem way_merge : mergeK [] wayK = wayK := by
  unfold wayK mergeK
  simp only [List.foldl_cons, List.foldl_nil]
  rw [putK_new (kvs := []) _ rfl, List.nil_append]
  rw [putK_new (k := Sum.inr (T [119])) _ (by rw [valV_neg (ne_keys (by decide)), valV_nil])]
  rw [putK_new (k := Sum.inr (T [110])) _ (by rw [List.cons_append, valV_neg (ne_keys (by decide)), List.nil_append, valV_neg (ne_keys (by decide)), valV_nil])]
  rw [putK_new (k := Sum.inr (T [115])) _ (by
    simp only [List.cons_append, List.nil_append]
    rw [valV_neg (ne_keys (by decide)), valV_neg (ne_keys (by decide)), valV_neg (ne_keys (by decide)), valV_nil])]
  rfl
theorem way_val {c : Nat} (h : Lt c) : valV wayK (Sum.inr (T [c]) : Key) = some (.str (T [mir c])) := by
  unfold wayK
  rcases h with rfl | rfl | rfl | rfl
  · rw [valV_neg (ne_keys (by decide)), valV_neg (ne_keys (by decide)), valV_pos rfl]
    rfl
  · rw [valV_neg (ne_keys (by decide)), valV_pos rfl]
    rfl
  · rw [valV_neg (ne_keys (by decide)), valV_neg (ne_keys (by decide)), valV_neg (ne_keys (by decide)), valV_pos rfl]
    rfl
  · rw [valV_pos rfl]
    rfl
theorem neg4 (b : Int) : (((-b) % 4).toNat + (b % 4).toNat) % 4 = 0 := by omega
end SW

set_option Elab.async false
set_option linter.all false
set_option maxRecDepth 100000
set_option maxHeartbeats 1000000
namespace L2
open PySem PySem.Spec PyProof PyProof.Rows
/-! ### slices of lists with a step -/
def pickV (xs : List V) (lo hi st : Option Int) : List V := (sliceRange (sliceBounds lo hi st xs.length).1 (sliceBounds lo hi st xs.length).2.1 (sliceBounds lo hi st xs.length).2.2).filterMap (xs[·]?)
section
variable {X : Cx} {e st : Expr} {te ts : TE} {lo hi : Option Expr} {tl th : TO} {pos p2 : Pos}
def tSl3 (K : PySem.W.Frag) (te : TE) (tl th : TO) (ts : TE) : TE := fun σ H Q => te σ H fun x H1 => tl σ H1 fun l H2 => th σ H2 fun u H3 => ts σ H3 fun y H4 => ∃ a xs k, x = .ref a ∧ y = .int k ∧ k ≠ 0 ∧ SqL K H4 a xs ∧ ∀ p, H4 p = none → Q (.ref p) (upd H4 p (.lst (pickV xs l u (some k))))
end
/-! ### ways that come together: what holds behind, named once -/
def tMrg (t : TS) : TS := fun D σ H => ∃ P : St → Hp → Prop, t { D with nx := P } σ H ∧ ∀ σ' H', P σ' H' → D.nx σ' H'
def tMrgE (t : TE) : TE := fun σ H Q => ∃ P : VK, t σ H P ∧ ∀ v H', P v H' → Q v H'
/-! ### is, is not: True and False -/
end L2

namespace WM
/-! ### thinned -/
/-- what is kept, the last step first -/
def push (s : List Nat) (c : Nat) : List Nat := match s with
  | [] => [c]
  | d :: r => if c = tn 2 d then r else c :: d :: r
def act (s l : List Nat) : List Nat := l.foldl push s
def thinL (l : List Nat) : List Nat := (act [] l).reverse
/-- no step is taken back by its neighbour (either way round) -/
def Red : List Nat → Prop
  | [] => True
  | [_] => True
  | c :: d :: r => ¬ c = tn 2 d ∧ Red (d :: r)
/-- from the last step on -/
def pushR (c : Nat) (s : List Nat) : List Nat := match s with
  | [] => [c]
  | d :: r => if d = tn 2 c then r else c :: d :: r
def thinR : List Nat → List Nat
  | [] => []
  | c :: l => pushR c (thinR l)

/-! ### what leaves a step and its taking back unseen: any fold that does -/

/-! ### the area -/
/-- a place and the sum of the cross products so far -/
def crossS (a : Pt × Int) (c : Nat) : Pt × Int := (stepP a.1 c, a.2 + (a.1.1 * (stepP a.1 c).2 - (stepP a.1 c).1 * a.1.2))
def twice (l : List Nat) : Int := (l.foldl crossS ((0, 0), 0)).2
/-- the sum of x dy -/
def xdyS (a : Pt × Int) (c : Nat) : Pt × Int := (stepP a.1 c, a.2 + a.1.1 * (vec c).2)
def xdy (l : List Nat) : Int := (l.foldl xdyS ((0, 0), 0)).2
end WM

namespace WM
/-! ### cross products, from any place -/
def crossF (p : Pt) (l : List Nat) : Int := (l.foldl crossS (p, 0)).2
def cr (a b : Pt) : Int := a.1 * b.2 - b.1 * a.2
/-! ### turned, mirrored -/
def flip (p : Pt) : Pt := (-p.1, p.2)
/-! ### begun elsewhere -/
/-! ### two neighbouring steps exchanged -/
/-! ### closed ones: twice is even -/
def areaL (l : List Nat) : Int := twice l / 2

/-! ### how often a square is gone around -/
def b01 (b : Bool) : Int := if b then 1 else 0
/-- to the east: from places whose first number is greater -/
def eastC (q p : Pt) (c : Nat) : Int :=
  if c = 110 then b01 (decide (q.1 < p.1 ∧ p.2 = q.2)) else if c = 115 then -b01 (decide (q.1 < p.1 ∧ p.2 - 1 = q.2)) else 0
/-- to the north -/
def northC (q p : Pt) (c : Nat) : Int :=
  if c = 119 then b01 (decide (q.2 < p.2 ∧ p.1 - 1 = q.1)) else if c = 101 then -b01 (decide (q.2 < p.2 ∧ p.1 = q.1)) else 0
def sumC (f : Pt → Nat → Int) : Pt → List Nat → Int
  | _, [] => 0
  | p, c :: l => f p c + sumC f (stepP p c) l
def aroundE (q : Pt) (l : List Nat) : Int := sumC (eastC q) (0, 0) l
def aroundN (q : Pt) (l : List Nat) : Int := sumC (northC q) (0, 0) l
def quad (q p : Pt) : Int := b01 (decide (q.1 < p.1 ∧ q.2 < p.2))
end WM

set_option Elab.async false
set_option linter.all false
set_option maxRecDepth 100000
set_option maxHeartbeats 4000000
namespace SW
open PySem L2 WM
def spThinned : Sp := fun vs H Q _ => ∃ (l : List Nat), vs = [.str (T l)] ∧ IsW l ∧ l.length ≤ 1000 ∧ ∀ H', Same H H' → Q (.str (T (thinL l))) H'
def letV (c : Nat) : V := .str (T [c])
def letD (c : Nat) : PyData := .str (T [c])
/-! ### places by number -/
def spArea : Sp := fun vs H Q _ => ∃ (l : List Nat), vs = [.str (T l)] ∧ IsW l ∧ l.length ≤ 1000 ∧ posOf l = (0, 0) ∧ ∀ H', Same H H' → Q (.int (areaL l)) H'
def spLawArea : Sp := fun vs H Q _ => ∃ (l : List Nat), vs = [.str (T l)] ∧ IsW l ∧ l.length ≤ 1000 ∧ ∀ H', Same H H' → Q (.int (areaL l)) H'
end SW

set_option Elab.async false
set_option linter.all false
set_option maxRecDepth 100000
set_option maxHeartbeats 1000000
namespace L2
open PySem PySem.Spec PyProof.Rows
/-! ### comprehensions whose items are new -/
/-- tuples stay -/
def TSame (H H' : Hp) : Prop := ∀ b xs, H b = some (.tup xs) → H' b = some (.tup xs)
end L2

set_option Elab.async false
set_option linter.all false
set_option maxRecDepth 100000
set_option maxHeartbeats 1000000
namespace L2
open PySem PySem.Spec PyProof.Rows
/-! ### enumerate, its pairs taken apart on the spot -/
section
variable {X : Cx} {pins : List (Addr × Obj)} {σ : St} {H : Hp} {s : Shared} {h' : Heap}
end
/-- the items of the list at a, each with its number -/
def Ite (K : PySem.W.Frag) (a : Addr) : It :=
  ⟨fun i H => ∃ xs x, SqL K H a xs ∧ xs[i]? = some x, fun i H x H' => ∃ b v, x = .ref b ∧ H b = none ∧ H' = upd H b (.tup [.int (i : Int), v]) ∧ ∀ xs, SqL K H a xs → xs[i]? = some v, fun i H => ∃ xs, SqL K H a xs ∧ xs.length ≤ i⟩
def iEnumL (K : PySem.W.Frag) (ta : TA) : TI := fun σ H R => ta σ H fun vs H1 => ∃ a, vs = [.ref a] ∧ (∃ xs, SqL K H1 a xs) ∧ R (Ite K a) H1
/-! ### .. of a text -/
def IteS (l : List Nat) : It :=
  ⟨fun i _ => i < l.length, fun i H x H' => ∃ b c, x = .ref b ∧ H b = none ∧ H' = upd H b (.tup [.int (i : Int), .str (T [c])]) ∧ l[i]? = some c, fun i _ => l.length ≤ i⟩
def iEnumS (ta : TA) : TI := fun σ H R => ta σ H fun vs H1 => ∃ l, vs = [.str (T l)] ∧ R (IteS l) H1
end L2

set_option Elab.async false
set_option linter.all false
set_option maxRecDepth 100000
set_option maxHeartbeats 1000000
namespace PySem
section
variable {prog : Program} {w : World} {A : Around} {E : Value → Shared → Prop} {s : Shared}
/-- what a zip's parts must not be -/
structure ZApart (z TI TO i1 i2 : Addr) (fp1 fp2 : List Addr) : Prop where
  zTI : z ≠ TI
  zTO : z ≠ TO
  TITO : TI ≠ TO
  z1 : z ≠ i1
  z2 : z ≠ i2
  TI1 : TI ≠ i1
  TI2 : TI ≠ i2
  TO1 : TO ≠ i1
  TO2 : TO ≠ i2
  i12 : i1 ≠ i2
  f1 : ∀ c ∈ fp1, c ≠ z ∧ c ≠ TO ∧ c ≠ i2
  f2 : ∀ c ∈ fp2, c ≠ z ∧ c ≠ TO ∧ c ≠ i1
def zipObj (f0 f1 : Value) (TI TO : Addr) : Obj := { cls := .type "zip", data := .fields #[f0, f1, .bool false, .ref TI, .ref TO] }
end
end PySem
namespace L2
open PySem PySem.Spec PyProof.Rows
section
variable {X : Cx} {pins : List (Addr × Obj)} {σ : St} {H : Hp} {s : Shared} {h' : Heap}
end
/-- what a zip may go through: what it holds in a heap of ours, and an iterator of it -/
structure Src (P : Program) (w : World) (K : PySem.W.Frag) (S : Hp → List V → Prop) (it : Addr) (Sn : Nat → Heap → Prop) : Prop where
  obj : ∀ i h, Sn i h → ∃ o n vs, h.get? it = some o ∧ o.cls = .type n ∧ o.data = .fields vs ∧ n ≠ "zip" ∧ n ≠ "tuple" ∧ n ≠ "list"
  keep : ∀ i h h', Sn i h → (∀ o, h.get? it = some o → h'.get? it = some o) → Sn i h'
  inj : ∀ {X : Cx} {pins σ H s xs ys}, X.K = K → Inv X pins σ H s → S H xs → S H ys → xs = ys
  drw : ∀ (X : Cx), X.prog = P → X.w = w → X.K = K → X.calm = true → ∀ (i : Nat) (pins : List (Addr × Obj)) (s : Shared) (σ : St) (H : Hp) (xs : List V), Inv X pins σ H s → S H xs → Sn i s.heap →
    ∃ (fp : List Addr) (Pv : Nat → Value → Prop) (St' : Nat → Heap → Prop), Draws X.prog X.w X.A.in1 it fp xs.length Pv St' ∧ St' i s.heap ∧ (∀ j h, St' j h → Sn j h) ∧ (∀ j x v, xs[j]? = some x → Pv j v → RelV x v) ∧
      ∀ b ∈ fp, b = it ∨ ∃ o, s.heap.get? b = some o ∧ o.cls = .type "list"
def letsV (l : List Nat) : List V := l.map fun c => V.str (T [c])
/-- the pairs of two sources, as far as both go -/
def Itz (S1 S2 : Hp → List V → Prop) : It :=
  ⟨fun i H => ∃ xs ys, S1 H xs ∧ S2 H ys ∧ i < xs.length ∧ i < ys.length, fun i H x H' => ∃ b u v, x = .ref b ∧ H b = none ∧ H' = upd H b (.tup [u, v]) ∧ ∀ xs ys, S1 H xs → S2 H ys → xs[i]? = some u ∧ ys[i]? = some v,
    fun i H => ∃ xs ys, S1 H xs ∧ S2 H ys ∧ i = min xs.length ys.length⟩
/-- zip of a list and a list -/
def iZipLL (K : PySem.W.Frag) (ta : TA) : TI := fun σ H R => ta σ H fun vs H1 => ∃ a b, vs = [.ref a, .ref b] ∧ (∃ xs, SqL K H1 a xs) ∧ (∃ ys, SqL K H1 b ys) ∧ R (Itz (fun H xs => SqL K H a xs) (fun H xs => SqL K H b xs)) H1
/-- zip of a list and a text -/
def iZipLS (K : PySem.W.Frag) (ta : TA) : TI := fun σ H R => ta σ H fun vs H1 => ∃ a l, vs = [.ref a, .str (T l)] ∧ (∃ xs, SqL K H1 a xs) ∧ R (Itz (fun H xs => SqL K H a xs) (fun _ xs => xs = letsV l)) H1
/-- zip of a text and a text -/
def iZipSS (ta : TA) : TI := fun σ H R => ta σ H fun vs H1 => ∃ m l, vs = [.str (T m), .str (T l)] ∧ R (Itz (fun _ xs => xs = letsV m) (fun _ xs => xs = letsV l)) H1
section
variable {X : Cx} {a b : Expr} {es : List Expr} {x1 : _} {tp p pos : Pos} {ta : TA}
end
end L2

namespace WM
/-! ### turns, the first step coming behind the last one -/
def isL (p c : Nat) : Bool := decide (c = tn 1 p)
def isR (p c : Nat) : Bool := decide (c = tn 3 p)
/-- how often f holds of a step and the one ahead; p: the one ahead of the first -/
def cntT (f : Nat → Nat → Bool) : Nat → List Nat → Nat
  | _, [] => 0
  | p, c :: l => (if f p c = true then 1 else 0) + cntT f c l
def lastD (p : Nat) : List Nat → Nat
  | [] => p
  | c :: l => lastD c l
/-- around -/
def cycT (f : Nat → Nat → Bool) (l : List Nat) : Nat := cntT f (lastD 0 l) l
end WM

namespace WM
/-! ### where a walk goes, its beginning left out -/
def trail : Pt → List Nat → List Pt
  | _, [] => []
  | p, c :: l => stepP p c :: trail (stepP p c) l
/-! ### straight on -/
/-! ### bars, the last one first -/
def vert (b t : Nat) : List Nat := if b < t then List.replicate (t - b) 110 else List.replicate (b - t) 115
def tops : List Nat → List Nat
  | [] => []
  | b :: r => 119 :: (vert b (r.headD 0) ++ tops r)
def rimB (rb : List Nat) : List Nat := List.replicate rb.length 101 ++ (List.replicate (rb.headD 0) 110 ++ tops rb)
/-! ### its squares -/
/-! ### each place once -/
def Pos1 (rb : List Nat) : Prop := ∀ b ∈ rb, 1 ≤ b
end WM

namespace WM
/-! ### the turns of a walk that goes from east over north and west to south, back and forth -/
def ia (c : Nat) : Int := if c = 101 then 0 else if c = 110 then 1 else if c = 119 then 2 else 3
def Al (p c : Nat) : Prop := p = c ∨ (p = 101 ∧ c = 110) ∨ (p = 110 ∧ c = 119) ∨ (p = 119 ∧ c = 110) ∨ (p = 119 ∧ c = 115) ∨ (p = 115 ∧ c = 119)
def okT : Nat → List Nat → Prop
  | _, [] => True
  | p, c :: l => Al p c ∧ okT c l
def ne (p c : Nat) : Bool := decide (¬ c = p)
/-! ### how many steps -/
def innC : List Nat → Nat
  | [] => 0
  | [_] => 0
  | b :: c :: r => (min b c - 1) + innC (c :: r)
end WM

namespace WM
/-! ### the four squares at a place that isn't come to -/
/-! ### turned, mirrored, backwards, begun elsewhere -/
def addP (p q : Pt) : Pt := (p.1 + q.1, p.2 + q.2)
/-! ### squares -/
end WM

namespace WM
/-! ### sums over lists of squares -/
def sumL {α : Type} (f : α → Int) : List α → Int
  | [] => 0
  | a :: r => f a + sumL f r
/-! ### a box of squares -/
def rowI (n : Nat) : List Int := (List.range (2 * n)).map fun (i : Nat) => (i : Int) - (n : Int)
def box (n : Nat) : List Pt := (rowI n).flatMap fun x => (rowI n).map fun y => (x, y)
end WM

namespace WM
/-! ### the steps north and south: row, first number, way -/
abbrev Tr := Int × Int × Int
def upr : Pt → List Nat → List Tr
  | _, [] => []
  | p, c :: l => (if c = 110 then [(p.2, p.1, 1)] else if c = 115 then [(p.2 - 1, p.1, -1)] else []) ++ upr (stepP p c) l
/-- in a row, to the east of a square -/
def eastT (q : Pt) (t : Tr) : Int := if t.1 = q.2 ∧ q.1 < t.2.1 then t.2.2 else 0
/-- all of a row -/
def rowT (r : Int) (t : Tr) : Int := if t.1 = r then t.2.2 else 0
/-- how often a row is crossed comes to where the walk has gone over it -/
def aboveR (r : Int) (y : Int) : Int := if r < y then 1 else 0
end WM
namespace WM
end WM

set_option Elab.async false
set_option linter.all false
set_option maxRecDepth 100000
set_option maxHeartbeats 4000000
namespace SW
open PySem L2 WM
/-! ### triples as data -/
def TrP (H : Hp) (a : Addr) (t : Tr) : Prop := H a = some (.tup [.int t.1, .int t.2.1, .int t.2.2])
abbrev TrsAt (H : Hp) : List Addr → List Tr → Prop := Paired (TrP H)
def spUpright : Sp := fun vs H Q _ => ∃ (l : List Nat), vs = [.str (T l)] ∧ IsW l ∧ l.length ≤ 1000 ∧ ∀ (d : Addr) (H' : Hp) (as : List Addr), H d = none → Same H H' → H' d = some (.lst (as.map V.ref)) → TrsAt H' as (upr (0, 0) l) → Q (.ref d) H'
/-- the slots of a triple's parts -/
def sl3 (H : Hp) (x : V) : St := match x with
  | .ref a => match H a with
    | some (.tup [u, v, y]) => [some u, some v, some y]
    | _ => [none, none, none]
  | _ => [none, none, none]
end SW
namespace SW
open WM
end SW

set_option linter.all false
set_option maxRecDepth 100000
set_option maxHeartbeats 4000000
namespace TS
open PySem PyProof.Rows
def gallop' : Bool → Keyed → Array Keyed → Nat → Nat → Nat → StateT SortSt Sem (Option Nat) := sortPriv% PySem.Builtin.gallop
def mergeLo' : Array Keyed → Array Keyed → StateT SortSt Sem (Array Keyed) := sortPriv% PySem.Builtin.mergeLo
def mergeHi' : Array Keyed → Array Keyed → StateT SortSt Sem (Array Keyed) := sortPriv% PySem.Builtin.mergeHi
def setG (st : SortSt) (g : Nat) : SortSt := SortSt.mk' (kindOf st) (arrOf st) (pendingOf st) g (failedOf st)
def setMin (g : Nat) : StateT SortSt Sem Unit := modify fun s => setG s g
/-- one look of the gallop -/
def beyond (left : Bool) (key : Keyed) (arr : Array Keyed) (base i : Nat) : StateT SortSt Sem (Option Bool) :=
  elem' arr (base + i) >>= fun x => if left then lt' x key else lt' key x >>= fun r => pure (r.map fun c => !c)
end TS

set_option linter.all false
set_option maxRecDepth 100000
set_option maxHeartbeats 4000000
namespace TS
open PySem PyProof.Rows
structure Cmp (prog : Program) (w : World) (A : Around) (s : Shared) (κ : SortKind) (D : Keyed → Prop) (R : Keyed → Keyed → Bool) : Prop where
  ask : ∀ x y, D x → D y → ∀ (E : Value → Shared → Prop) (st : SortSt) (Q : Option Bool → SortSt → Prop), kindOf st = κ → Q (some (R x y)) st → wpS (model prog w) A E s (lt' x y) Q st
  asym : ∀ x y, D x → D y → R x y = true → R y x = false
  neg : ∀ x y z, D x → D y → D z → R x y = false → R y z = false → R x z = false
section
variable {prog : Program} {w : World} {A : Around} {E : Value → Shared → Prop} {s : Shared} {κ : SortKind} {D : Keyed → Prop} {R : Keyed → Keyed → Bool}
def bey (R : Keyed → Keyed → Bool) (left : Bool) (key x : Keyed) : Bool := if left then R x key else !R key x
structure Gal (D : Keyed → Prop) (R : Keyed → Keyed → Bool) (left : Bool) (key : Keyed) (arr : Array Keyed) (base n k : Nat) : Prop where
  le : k ≤ n
  dk : D key
  at_ : ∀ i, i < n → ∃ x, arr[base + i]? = some x ∧ D x ∧ bey R left key x = decide (i < k)
end
end TS

set_option linter.all false
set_option maxRecDepth 100000
set_option maxHeartbeats 4000000
namespace TS
open PySem PyProof.Rows
/-! ### lists that rise -/
section
variable {D : Keyed → Prop} {R : Keyed → Keyed → Bool}
def le (R : Keyed → Keyed → Bool) (x y : Keyed) : Prop := R y x = false
def Srt (R : Keyed → Keyed → Bool) (l : List Keyed) : Prop := l.Pairwise (le R)
/-- what the merges ask of the order -/
structure Wk (D : Keyed → Prop) (R : Keyed → Keyed → Bool) : Prop where
  asym : ∀ x y, D x → D y → R x y = true → R y x = false
  neg : ∀ x y z, D x → D y → D z → R x y = false → R y z = false → R x z = false
/-! ### merging upwards -/
/-- what has been put out, how far both have been taken -/
structure Up (D : Keyed → Prop) (R : Keyed → Keyed → Bool) (la lb o : List Keyed) (ia ib : Nat) : Prop where
  perm : o.Perm (la.take ia ++ lb.take ib)
  srt : Srt R o
  low : ∀ x ∈ o, ∀ y ∈ la.drop ia ++ lb.drop ib, le R x y
/-- both lists -/
structure Two (D : Keyed → Prop) (R : Keyed → Keyed → Bool) (la lb : List Keyed) : Prop where
  wk : Wk D R
  da : ∀ x ∈ la, D x
  db : ∀ x ∈ lb, D x
  sa : Srt R la
  sb : Srt R lb
  first : ∀ y, lb[0]? = some y → ∀ x ∈ la, le R y x
  last : ∀ x, la[la.length - 1]? = some x → ∀ y ∈ lb, le R y x
variable {la lb o : List Keyed} {ia ib : Nat}
/-- what is wanted of a merge -/
def Mrg (R : Keyed → Keyed → Bool) (la lb m : List Keyed) : Prop := m.Perm (la ++ lb) ∧ Srt R m
end
end TS

set_option linter.all false
set_option maxRecDepth 100000
set_option maxHeartbeats 4000000
namespace TS
open PySem PyProof.Rows
section
variable {prog : Program} {w : World} {A : Around} {E : Value → Shared → Prop} {s : Shared} {κ : SortKind} {D : Keyed → Prop} {R : Keyed → Keyed → Bool}
end
end TS

set_option linter.all false
set_option maxRecDepth 100000
set_option maxHeartbeats 4000000
namespace TS
open PySem PyProof.Rows
section
variable {D : Keyed → Prop} {R : Keyed → Keyed → Bool} {la lb o : List Keyed} {na nb : Nat}
/-! ### merging downwards -/
structure Dn (D : Keyed → Prop) (R : Keyed → Keyed → Bool) (la lb o : List Keyed) (na nb : Nat) : Prop where
  la_ : na ≤ la.length
  lb_ : nb ≤ lb.length
  perm : o.Perm (la.drop na ++ lb.drop nb)
  srt : Srt R o
  high : ∀ x ∈ la.take na ++ lb.take nb, ∀ y ∈ o, le R x y
end
section
variable {prog : Program} {w : World} {A : Around} {E : Value → Shared → Prop} {s : Shared} {κ : SortKind} {D : Keyed → Prop} {R : Keyed → Keyed → Bool}
end
end TS

set_option linter.all false
set_option maxRecDepth 100000
set_option maxHeartbeats 4000000
namespace TS
open PySem PyProof.Rows
section
variable {D : Keyed → Prop} {R : Keyed → Keyed → Bool} {a : Array Keyed} {lo n : Nat}
/-! ### runs in an array -/
def Asc (R : Keyed → Keyed → Bool) (a : Array Keyed) (lo n : Nat) : Prop := ∀ i j x y, lo ≤ i → i ≤ j → j < lo + n → a[i]? = some x → a[j]? = some y → le R x y
def Desc (R : Keyed → Keyed → Bool) (a : Array Keyed) (lo n : Nat) : Prop := ∀ i j x y, lo ≤ i → i ≤ j → j < lo + n → a[i]? = some x → a[j]? = some y → le R y x
/-- all alike -/
def Eqb (R : Keyed → Keyed → Bool) (a : Array Keyed) (p q : Nat) : Prop := ∀ i j x y, p ≤ i → i < q → p ≤ j → j < q → a[i]? = some x → a[j]? = some y → le R x y
def Dom (D : Keyed → Prop) (a : Array Keyed) : Prop := ∀ (i : Nat) (x : Keyed), a[i]? = some x → D x
end
/-! ### what stands fast while a run is sought -/
structure Bs (D : Keyed → Prop) (κ : SortKind) (p₀ : Array (Nat × Nat × Nat)) (a₀ : Array Keyed) (lo : Nat) (st : SortSt) : Prop where
  kind : kindOf st = κ
  pend : pendingOf st = p₀
  failed : failedOf st = none
  perm : (arrOf st).Perm a₀
  keep : ∀ k, k < lo → (arrOf st)[k]? = a₀[k]?
  dom : Dom D a₀
section
variable {prog : Program} {w : World} {A : Around} {E : Value → Shared → Prop} {s : Shared} {κ : SortKind} {D : Keyed → Prop} {R : Keyed → Keyed → Bool} {p₀ : Array (Nat × Nat × Nat)} {a₀ : Array Keyed} {lo : Nat}
end
end TS

set_option linter.all false
set_option maxRecDepth 100000
set_option maxHeartbeats 4000000
namespace TS
open PySem PyProof.Rows
section
variable {prog : Program} {w : World} {A : Around} {E : Value → Shared → Prop} {s : Shared} {κ : SortKind} {D : Keyed → Prop} {R : Keyed → Keyed → Bool} {p₀ : Array (Nat × Nat × Nat)} {a₀ : Array Keyed} {lo : Nat}
end
/-! ### segments -/
section
variable {D : Keyed → Prop} {R : Keyed → Keyed → Bool}
def seg (l : List Keyed) (i n : Nat) : List Keyed := (l.drop i).take n
/-- a chain of runs from s to e -/
def Ch (R : Keyed → Keyed → Bool) (a : Array Keyed) : Nat → List (Nat × Nat × Nat) → Nat → Prop
  | s, [], e => s = e
  | s, (t, n, _) :: r, e => t = s ∧ 1 ≤ n ∧ Asc R a s n ∧ Ch R a (s + n) r e
end
end TS

set_option linter.all false
set_option maxRecDepth 100000
set_option maxHeartbeats 4000000
namespace TS
open PySem PyProof.Rows
section
variable {prog : Program} {w : World} {A : Around} {E : Value → Shared → Prop} {s : Shared} {κ : SortKind} {D : Keyed → Prop} {R : Keyed → Keyed → Bool}
/-- the array with the merged part written in -/
structure Wr (a a' : Array Keyed) (m : List Keyed) (p : Nat) : Prop where
  at_ : ∀ i, a'[i]? = if p ≤ i ∧ i < p + m.length then m[i - p]? else a[i]?
end
end TS

set_option linter.all false
set_option maxRecDepth 100000
set_option maxHeartbeats 4000000
namespace TS
open PySem PyProof.Rows
section
variable {prog : Program} {w : World} {A : Around} {E : Value → Shared → Prop} {s : Shared} {κ : SortKind} {D : Keyed → Prop} {R : Keyed → Keyed → Bool}
end
end TS

set_option linter.all false
set_option maxRecDepth 100000
set_option maxHeartbeats 4000000
namespace TS
open PySem PyProof.Rows
section
variable {prog : Program} {w : World} {A : Around} {E : Value → Shared → Prop} {s : Shared} {κ : SortKind} {D : Keyed → Prop} {R : Keyed → Keyed → Bool}
/-- between two turns -/
structure Kd (D : Keyed → Prop) (κ : SortKind) (R : Keyed → Keyed → Bool) (a₀ : Array Keyed) (lo : Nat) (st : SortSt) : Prop where
  kind : kindOf st = κ
  failed : failedOf st = none
  perm : (arrOf st).Perm a₀
  ch : Ch R (arrOf st) 0 (pendingOf st).toList lo
  le_ : lo ≤ a₀.size
structure Jn (D : Keyed → Prop) (κ : SortKind) (R : Keyed → Keyed → Bool) (a₀ : Array Keyed) (lo n : Nat) (st : SortSt) : Prop where
  kind : kindOf st = κ
  failed : failedOf st = none
  perm : (arrOf st).Perm a₀
  ch : Ch R (arrOf st) 0 (pendingOf st).toList lo
  asc : Asc R (arrOf st) lo n
end
end TS

set_option Elab.async false
set_option linter.all false
set_option maxRecDepth 100000
set_option maxHeartbeats 4000000
namespace TS
open PySem PyProof.Rows
section
variable {prog : Program} {w : World} {A : Around} {E : Value → Shared → Prop} {s : Shared} {κ : SortKind} {D : Keyed → Prop} {R : Keyed → Keyed → Bool}
def leV (R : Keyed → Keyed → Bool) (x y : Value) : Prop := R (y, y) (x, x) = false
end
end TS

set_option Elab.async false
set_option linter.all false
set_option maxRecDepth 100000
set_option maxHeartbeats 4000000
namespace TS
open PySem PyProof.Rows PySem.W
def ltP (p q : Int × Int) : Bool := decide (p.1 < q.1 ∨ (p.1 = q.1 ∧ p.2 < q.2))
/-- a tuple of two numbers -/
def IsPt (h : Heap) (v : Value) (p : Int × Int) : Prop := ∃ (a : Addr) (o : Obj) (t u : Tok) (n : Nat), v = .ref a ∧ h.get? a = some o ∧ o.cls = .type "tuple" ∧ o.data = .seq #[.int p.1 t, .int p.2 u] n
section
variable {prog : Program} {w : World} {A : Around} {E : Value → Shared → Prop} {s : Shared}
end
end TS

set_option Elab.async false
set_option linter.all false
set_option maxRecDepth 100000
set_option maxHeartbeats 4000000
namespace TS
open PySem PyProof PyProof.Rows PySem.W
/-! ### sorted(a text) -/
def sgn : Value → Nat
  | .str x _ => x.cps.toList.headD 0
  | _ => 0
def IsSg (v : Value) : Prop := ∃ c t, v = .str ⟨#[c]⟩ t
section
variable {prog : Program} {w : World} {A : Around} {E : Value → Shared → Prop} {s : Shared}
end
end TS

set_option Elab.async false
set_option linter.all false
set_option maxRecDepth 100000
set_option maxHeartbeats 1000000
namespace L2
open PySem PySem.Spec PyProof PyProof.Rows TS
/-! ### range with a step -/
def Itr3 (lo c : Int) (n : Nat) : It := ⟨fun i _ => i < n, fun i H x H' => H' = H ∧ x = .int (lo + i * c), fun i _ => n ≤ i⟩
/-- how many -/
def cnt3 (a b c : Int) : Nat := if a < b then ((b - a - 1) / c + 1).toNat else 0
section
variable {X : Cx} {tg : Expr}
def iRng3 (ta : TA) : TI := fun σ H R => ta σ H fun vs H1 => ∃ i j c : Int, vs = [.int i, .int j, .int c] ∧ (-(2 ^ 40) ≤ i ∧ i < 2 ^ 40 ∧ -(2 ^ 40) ≤ j ∧ j < 2 ^ 40 ∧ 0 < c ∧ c < 2 ^ 30) ∧ R (Itr3 i c (cnt3 i j c)) H1
end
/-! ### sorted of a text -/
def unS : V → Nat
  | .str x => x.cps.toList.headD 0
  | _ => 0
end L2

set_option Elab.async false
set_option linter.all false
set_option maxRecDepth 100000
set_option maxHeartbeats 1000000
namespace L2
open PySem PySem.Spec PyProof.Rows TS
/-! ### sorted(a list of pairs of numbers) -/
open Classical in
noncomputable def keyP (h : Heap) (v : Value) : Int × Int := if x : ∃ q, IsPt h v q then Classical.choose x else (0, 0)
def addrV : Value → Addr
  | .ref a => a
  | _ => 0
/-- pairs of numbers, at their addresses -/
abbrev PtsAt (K : PySem.W.Frag) (H : Hp) : List Addr → List (Int × Int) → Prop := Paired fun a (q : Int × Int) => SqT K H a [.int q.1, .int q.2]
section
variable {X : Cx}
end
end L2

namespace WM
/-! ### the area between two walks -/
def btw (a b : List Nat) : Int := areaL (a ++ backL b)
/-- what an exchange of two steps changes -/
def chg (c d : Nat) : Int := cr (vec c) (vec d)
end WM

set_option Elab.async false
set_option linter.all false
set_option maxRecDepth 100000
set_option maxHeartbeats 4000000
namespace SW
open PySem L2 WM
def top (i : Nat) : Stmt := PySem.Challenge.pw_squarewalk_k01_whole_walks.main.body.getD i (.Pass ⟨0, 0, 0, 0⟩)
abbrev sCheckWalk : Stmt := top 8
abbrev sIsNumber : Stmt := top 9
abbrev sCheckNumber : Stmt := top 10
abbrev sIsClosed : Stmt := top 11
abbrev sCheckClosed : Stmt := top 12
abbrev sStepped : Stmt := top 13
abbrev sPlaces : Stmt := top 14
abbrev sEnd : Stmt := top 15
abbrev sTurned : Stmt := top 16
abbrev sTakenBack : Stmt := top 17
abbrev sQuartered : Stmt := top 18
abbrev sMirrored : Stmt := top 19
abbrev sBackwards : Stmt := top 20
abbrev sBegun : Stmt := top 21
abbrev sLawWalk : Stmt := top 23
abbrev sLawPlaces : Stmt := top 24
abbrev sLawTurned : Stmt := top 25
abbrev sLawClosed : Stmt := top 26
abbrev sLaw : Stmt := top 27
section
variable {P : Program} {w : World} {K : PySem.W.Frag} {mg : Str → Option Value} {base : Heap}
/-! ### check_walk -/
theorem scCheckWalk : FnScope ["walk", "letter"] ["walk"] (defScope sCheckWalk) := ⟨rfl, rfl, rfl, by decide +kernel, rfl, by decide +kernel, by decide +kernel⟩
theorem ok_check_walk {f : Addr} {fd : FuncData} (F : Df K mg "check_walk" sCheckWalk ["walk"] f fd) (X : Txt K mg) : FnOk P w K mg base CX0 1 f fd ["walk"] spCheckWalk := by
  obtain ⟨tl, hlw⟩ := X.lw
  refine F.fn.ok scCheckWalk (fun vs H Q E h => ?_) (fun cdv A outer s H vs Q E hr h => ?_)
  · obtain ⟨l, rfl, _⟩ := h
    rfl
  · obtain ⟨l, rfl, hl, k⟩ := h
    refine ⟨_, pss_cons (ps_if (pt_not (pt_val (pe_callB call_isT rfl X.isi PyProof.Rows.boot_isinstance (pa_cons (pv 0) (pa_cons (pe_bltn rfl X.str PyProof.Rows.boot_str (v := .ty "str") rfl) pa_nil))))) pss_never pss_nil)
      (pss_one (ps_for PassesOwn.never rfl (pi_str (pv 0)) (pg_name (i := 1) scCheckWalk.nd rfl (Or.inl rfl))
        (pss_one (ps_if (pt_cmpR op_notin_str (pv 1) (pe_glob rfl hlw (v := .str (T [110, 119, 115, 101])) ⟨tl, by rw [lit_nwse]⟩) (by with_unfolding_all rfl)) pss_never pss_nil)))), ?_⟩
    refine ⟨_, rfl, _, _, _, true, rfl, .str _, kit_str K, _, rfl, ?_⟩
    refine iteF ?_
    refine ⟨_, rfl, l, rfl, for_str (l := l) (fun i σ H' => (∃ v, σ = [some (.str (T l)), v]) ∧ H' = H) ⟨⟨_, rfl⟩, rfl⟩ ?_ ?_⟩
    · rintro i c σ H' hc ⟨⟨v, rfl⟩, rfl⟩
      have hlt : Lt c := hl c (List.mem_of_getElem? hc)
      refine ⟨_, rfl, _, _, rfl, rfl, _, rfl, ?_⟩
      rw [occ_in hlt]
      refine iteF ?_
      exact ⟨⟨_, rfl⟩, rfl⟩
    · rintro σ H' ⟨_, rfl⟩
      exact k
/-! ### is_number -/
theorem scIsNumber : FnScope ["value"] ["value"] (defScope sIsNumber) := ⟨rfl, rfl, rfl, by decide +kernel, rfl, by decide +kernel, by decide +kernel⟩
def spIsNumber : Sp := fun vs H Q _ => ∃ i, vs = [.int i] ∧ Q (.bl true) H
theorem ok_is_number {f : Addr} {fd : FuncData} (F : Df K mg "is_number" sIsNumber ["value"] f fd) (X : Txt K mg) : FnOk P w K mg base CX0 1 f fd ["value"] spIsNumber := by
  refine F.fn.ok scIsNumber (fun vs H Q E h => ?_) (fun cdv A outer s H vs Q E hr h => ?_)
  · obtain ⟨i, rfl, _⟩ := h
    rfl
  · obtain ⟨i, rfl, k⟩ := h
    refine ⟨_, pss_one (ps_ret (pe_and (pe_callB call_isT rfl X.isi PyProof.Rows.boot_isinstance (pa_cons (pv 0) (pa_cons (pe_bltn rfl X.int PyProof.Rows.boot_int (v := .ty "int") rfl) pa_nil)))
      (pe_one (pe_not (pe_callB call_isT rfl X.isi PyProof.Rows.boot_isinstance (pa_cons (pv 0) (pa_cons (pe_bltn rfl X.bool PyProof.Rows.boot_bool (v := .ty "bool") rfl) pa_nil))))))), ?_⟩
    refine ⟨_, rfl, _, _, _, true, rfl, .int _, kit_int K, ?_⟩
    refine ⟨_, rfl, ?_⟩
    refine iteT ?_
    refine ⟨_, rfl, _, _, _, false, rfl, .int _, kit_int_bool K, _, rfl, ?_⟩
    exact k
/-! ### check_number -/
theorem scCheckNumber : FnScope ["number"] ["number"] (defScope sCheckNumber) := ⟨rfl, rfl, rfl, by decide +kernel, rfl, by decide +kernel, by decide +kernel⟩
theorem ok_check_number {f fN : Addr} {fd fdN : FuncData} (F : Df K mg "check_number" sCheckNumber ["number"] f fd) (X : Txt K mg) (N : Df K mg "is_number" sIsNumber ["value"] fN fdN) : FnOk P w K mg base CX0 2 f fd ["number"] spCheckNumber := by
  have GN : FnOk P w K mg base CX0 1 fN fdN ["value"] spIsNumber := ok_is_number N X
  refine F.fn.ok scCheckNumber (fun vs H Q E h => ?_) (fun cdv A outer s H vs Q E hr h => ?_)
  · obtain ⟨i, rfl, _⟩ := h
    rfl
  · obtain ⟨i, rfl, k⟩ := h
    refine ⟨_, pss_one (ps_if (pt_not (pt_val (pe_call GN hr rfl N.at_ N.fn.kp N.bi .nil pass0 (pa_cons (pv 0) pa_nil)))) pss_never pss_nil), ?_⟩
    refine ⟨_, rfl, i, rfl, _, rfl, ?_⟩
    refine iteF ?_
    exact k
/-! ### stepped -/
theorem scStepped : FnScope ["place", "step"] ["place", "step"] (defScope sStepped) := ⟨rfl, rfl, rfl, by decide +kernel, rfl, by decide +kernel, by decide +kernel⟩
theorem ok_stepped {f : Addr} {fd : FuncData} (F : Df K mg "stepped" sStepped ["place", "step"] f fd) : FnOk P w K mg base CX0 1 f fd ["place", "step"] (spStepped K) := by
  refine F.fn.ok scStepped (fun vs H Q E h => ?_) (fun cdv A outer s H vs Q E hr h => ?_)
  · obtain ⟨a, p, c, rfl, _⟩ := h
    rfl
  · obtain ⟨a, p, c, rfl, hc, hS, k⟩ := h
    refine ⟨_, pss_cons (ps_if (pt_cmpR op_eq (pv 1) pe_str (nomark _)) (pss_one (ps_ret (pe_tup (pa_cons (pe_ix ix_tup (pv 0) pe_int (fun _ _ => rfl)) (pa_cons (pe_op op_add (pe_ix ix_tup (pv 0) pe_int (fun _ _ => rfl)) pe_int) pa_nil))))) pss_nil)
      (pss_cons (ps_if (pt_cmpR op_eq (pv 1) pe_str (nomark _)) (pss_one (ps_ret (pe_tup (pa_cons (pe_op op_add (pe_ix ix_tup (pv 0) pe_int (fun _ _ => rfl)) pe_int) (pa_cons (pe_ix ix_tup (pv 0) pe_int (fun _ _ => rfl)) pa_nil))))) pss_nil)
      (pss_cons (ps_if (pt_cmpR op_eq (pv 1) pe_str (nomark _)) (pss_one (ps_ret (pe_tup (pa_cons (pe_ix ix_tup (pv 0) pe_int (fun _ _ => rfl)) (pa_cons (pe_op op_sub (pe_ix ix_tup (pv 0) pe_int (fun _ _ => rfl)) pe_int) pa_nil))))) pss_nil)
      (pss_one (ps_ret (pe_tup (pa_cons (pe_op op_sub (pe_ix ix_tup (pv 0) pe_int (fun _ _ => rfl)) pe_int) (pa_cons (pe_ix ix_tup (pv 0) pe_int (fun _ _ => rfl)) pa_nil))))))), ?_⟩
    have a0 : atI [V.int p.1, V.int p.2] 0 = some (.int p.1) := atI_nat (j := 0) rfl
    have a1 : atI [V.int p.1, V.int p.2] 1 = some (.int p.2) := atI_nat (j := 1) rfl
    refine ⟨_, rfl, rfl, _, rfl, ?_⟩
    rw [lit_n, strT]
    refine ite2 (fun h => ?_) (fun h => ?_)
    · have hc : c = 110 := by simpa using h
      subst hc
      exact ⟨_, rfl, _, _, _, _, rfl, rfl, hS, a0, _, rfl, _, _, _, _, rfl, rfl, hS, a1, _, _, rfl, rfl, two_le, k⟩
    have n1 : ¬ c = 110 := fun z => h (by simp [z])
    refine ⟨_, rfl, rfl, _, rfl, ?_⟩
    rw [lit_e, strT]
    refine ite2 (fun h => ?_) (fun h => ?_)
    · have hc : c = 101 := by simpa using h
      subst hc
      exact ⟨_, rfl, _, _, _, _, rfl, rfl, hS, a0, _, _, rfl, rfl, _, rfl, _, _, _, _, rfl, rfl, hS, a1, two_le, k⟩
    have n2 : ¬ c = 101 := fun z => h (by simp [z])
    refine ⟨_, rfl, rfl, _, rfl, ?_⟩
    rw [lit_s, strT]
    refine ite2 (fun h => ?_) (fun h => ?_)
    · have hc : c = 115 := by simpa using h
      subst hc
      exact ⟨_, rfl, _, _, _, _, rfl, rfl, hS, a0, _, rfl, _, _, _, _, rfl, rfl, hS, a1, _, _, rfl, rfl, two_le, k⟩
    have n3 : ¬ c = 115 := fun z => h (by simp [z])
    have hc' : c = 119 := by
      rcases hc with z | z | z | z
      · exact absurd z n1
      · exact z
      · exact absurd z n3
      · exact absurd z n2
    subst hc'
    exact ⟨_, rfl, _, _, _, _, rfl, rfl, hS, a0, _, _, rfl, rfl, _, rfl, _, _, _, _, rfl, rfl, hS, a1, two_le, k⟩
/-! ### places -/
theorem scPlaces : FnScope ["walk", "place", "told", "step"] ["walk"] (defScope sPlaces) := ⟨rfl, rfl, rfl, by decide +kernel, rfl, by decide +kernel, by decide +kernel⟩
theorem ok_places {f fC fS : Addr} {fd fdC fdS : FuncData} (F : Df K mg "places" sPlaces ["walk"] f fd) (X : Txt K mg) (C : Df K mg "check_walk" sCheckWalk ["walk"] fC fdC) (S : Df K mg "stepped" sStepped ["place", "step"] fS fdS) :
    FnOk P w K mg base CX0 2 f fd ["walk"] spPlaces := by
  have GC : FnOk P w K mg base CX0 1 fC fdC ["walk"] spCheckWalk := ok_check_walk C X
  have GS : FnOk P w K mg base CX0 1 fS fdS ["place", "step"] (spStepped K) := ok_stepped S
  refine F.fn.ok scPlaces (fun vs H Q E h => ?_) (fun cdv A outer s H vs Q E hr h => ?_)
  · obtain ⟨l, rfl, _⟩ := h
    rfl
  · obtain ⟨l, rfl, hl, hz, k⟩ := h
    refine ⟨_, pss_cons (ps_expr (pe_call GC hr rfl C.at_ C.fn.kp C.bi .nil pass0 (pa_cons (pv 0) pa_nil)))
      (pss_cons (ps_set (i := 1) scPlaces.nd rfl (Or.inl rfl) (pe_tup (pa_cons pe_int (pa_cons pe_int pa_nil))))
      (pss_cons (ps_set (i := 2) scPlaces.nd rfl (Or.inl rfl) (pe_lst (pa_cons (pv 1) pa_nil)))
      (pss_cons (ps_for PassesOwn.never rfl (pi_str (pv 0)) (pg_name (i := 3) scPlaces.nd rfl (Or.inl rfl))
        (pss_cons (ps_set (i := 1) scPlaces.nd rfl (Or.inl rfl) (pe_call GS hr rfl S.at_ S.fn.kp S.bi .nil pass0 (pa_cons (pv 1) (pa_cons (pv 3) pa_nil))))
        (pss_one (ps_expr (pe_bm PySem.F.plainAttrs_list PySem.F.slot_list_append PySem.F.type_list_append mt_append (pv 2) (pa_cons (pv 1) pa_nil))))))
      (pss_one (ps_ret (pv 2)))))), ?_⟩
    refine ⟨_, rfl, l, rfl, hl, ?_⟩
    refine ⟨two_le, fun p hp => ?_⟩
    refine ⟨_, rfl, (by show 1 ≤ sizeLine; decide), fun d hd => ?_⟩
    have hpd : p ≠ d := fun z => by rw [z, upd_same] at hd; cases hd
    have hd0 : H d = none := by rw [upd_ne (Ne.symm hpd)] at hd; exact hd
    refine ⟨_, rfl, l, rfl, for_str (l := l) (fun i σ H' => ∃ (as : List Addr) (q : Addr) (v : Option V), σ = [some (.str (T l)), some (.ref q), some (.ref d), v] ∧ Same H H' ∧ H' d = some (.lst (as.map V.ref)) ∧
      Tups H' as (placesP (0, 0) (l.take i)) ∧ H' q = some (.tup [.int (posOf (l.take i)).1, .int (posOf (l.take i)).2])) ?_ ?_ ?_⟩
    · refine ⟨[p], p, none, rfl, ?_, upd_same, ?_, ?_⟩
      · intro b o e
        rw [upd_ne (ne_of_none e hd0), upd_ne (ne_of_none e hp)]
        exact e
      · exact .cons (by rw [upd_ne hpd, upd_same] <;> rfl) .nil
      · rw [upd_ne hpd, upd_same]
        rfl
    · rintro i c σ H' hc ⟨as, q, v, rfl, s1, h1, h2, h3⟩
      have hlt : Lt c := hl c (List.mem_of_getElem? hc)
      have hil : i < l.length := (List.getElem?_eq_some_iff.mp hc).1
      have hlen : as.length = i + 1 := by
        have e := Paired.length h2
        rw [placesP_length, List.length_take] at e
        omega
      refine ⟨_, rfl, _, rfl, q, posOf (l.take i), c, rfl, hlt, SqT.of h3, fun b hb => ?_⟩
      have hbd : d ≠ b := ne_of_none h1 hb
      have h1' : ∀ o, upd H' b o d = some (.lst (as.map V.ref)) := fun o => by rw [upd_ne hbd]; exact h1
      refine ⟨_, rfl, .inl ⟨rfl, _, SqL.of (h1' _)⟩, _, rfl, d, _, _, rfl, rfl, h1' _, ?_, ?_⟩
      · rw [List.length_map, hlen]
        have e : sizeLine = 16777216 := PySem.sizeLine_eq
        omega
      have et : l.take (i + 1) = l.take i ++ [c] := by rw [List.take_add_one, hc]; rfl
      refine ⟨as ++ [b], b, _, rfl, ?_, ?_, ?_, ?_⟩
      · intro x o e
        have hxb : x ≠ b := ne_of_none (s1 _ _ e) hb
        have hxd : x ≠ d := ne_of_none e hd0
        rw [upd_ne hxd, upd_ne hxb]
        exact s1 _ _ e
      · rw [upd_same, List.map_append]
        rfl
      · rw [et, placesP_snoc]
        refine Paired.snoc (h2.mono fun x xs e => ?_) ?_
        · have hxb : x ≠ b := ne_of_none e hb
          have hxd : x ≠ d := ne_of e h1 (by intro z; cases z)
          rw [upd_ne hxd, upd_ne hxb]
          exact e
        · rw [upd_ne (Ne.symm hbd), upd_same]
          rfl
      · rw [upd_ne (Ne.symm hbd), upd_same, et]
        show some (HO.tup [.int (stepP (posOf (l.take i)) c).1, .int (stepP (posOf (l.take i)) c).2]) = some (HO.tup [.int (goP (0, 0) (l.take i ++ [c])).1, .int (goP (0, 0) (l.take i ++ [c])).2])
        rw [goP_snoc]
        rfl
    · rintro σ H' ⟨as, q, v, rfl, s1, h1, h2, h3⟩
      rw [List.take_of_length_le (Nat.le_refl _)] at h2
      exact ⟨_, rfl, k d H' hd0 s1 ⟨as, h1, h2⟩⟩
/-! ### end -/
theorem scEnd : FnScope ["walk"] ["walk"] (defScope sEnd) := ⟨rfl, rfl, rfl, by decide +kernel, rfl, by decide +kernel, by decide +kernel⟩
theorem ok_end {f fC : Addr} {fd fdC : FuncData} (F : Df K mg "end" sEnd ["walk"] f fd) (X : Txt K mg) (C : Df K mg "check_walk" sCheckWalk ["walk"] fC fdC) : FnOk P w K mg base CX0 2 f fd ["walk"] spEnd := by
  have GC : FnOk P w K mg base CX0 1 fC fdC ["walk"] spCheckWalk := ok_check_walk C X
  refine F.fn.ok scEnd (fun vs H Q E h => ?_) (fun cdv A outer s H vs Q E hr h => ?_)
  · obtain ⟨l, rfl, _⟩ := h
    rfl
  · obtain ⟨l, rfl, hl, k⟩ := h
    refine ⟨_, pss_cons (ps_expr (pe_call GC hr rfl C.at_ C.fn.kp C.bi .nil pass0 (pa_cons (pv 0) pa_nil)))
      (pss_one (ps_ret (pe_tup (pa_cons (pe_op op_sub (pe_bm PySem.F.plainAttrs_str PySem.F.slot_str_count PySem.F.type_str_count mt_count (pv 0) (pa_cons pe_str pa_nil)) (pe_bm PySem.F.plainAttrs_str PySem.F.slot_str_count PySem.F.type_str_count mt_count (pv 0) (pa_cons pe_str pa_nil)))
        (pa_cons (pe_op op_sub (pe_bm PySem.F.plainAttrs_str PySem.F.slot_str_count PySem.F.type_str_count mt_count (pv 0) (pa_cons pe_str pa_nil)) (pe_bm PySem.F.plainAttrs_str PySem.F.slot_str_count PySem.F.type_str_count mt_count (pv 0) (pa_cons pe_str pa_nil))) pa_nil))))), ?_⟩
    refine ⟨_, rfl, l, rfl, hl, ?_⟩
    refine ⟨_, rfl, rfl, l, 101, rfl, by rw [lit_e], _, rfl, rfl, l, 119, rfl, by rw [lit_w], _, _, rfl, rfl, _, rfl, rfl, l, 110, rfl, by rw [lit_n], _, rfl, rfl, l, 115, rfl, by rw [lit_s], _, _, rfl, rfl, two_le, ?_⟩
    intro b hb
    have e := posOf_cnt hl
    have := k b hb
    rw [e] at this
    rw [cntL_eq, cntL_eq, cntL_eq, cntL_eq]
    exact this
/-! ### turned -/
theorem scTurned : FnScope ["step", "quarters"] ["step", "quarters"] (defScope sTurned) := ⟨rfl, rfl, rfl, by decide +kernel, rfl, by decide +kernel, by decide +kernel⟩
theorem ok_turned {f : Addr} {fd : FuncData} (F : Df K mg "turned" sTurned ["step", "quarters"] f fd) (X : Txt K mg) : FnOk P w K mg base CX0 1 f fd ["step", "quarters"] spTurned := by
  obtain ⟨tl, hlw⟩ := X.lw
  refine F.fn.ok scTurned (fun vs H Q E h => ?_) (fun cdv A outer s H vs Q E hr h => ?_)
  · obtain ⟨c, q, rfl, _⟩ := h
    rfl
  · obtain ⟨c, q, rfl, hc, k⟩ := h
    refine ⟨_, pss_one (ps_ret (pe_ix ix_str (pe_glob rfl hlw (v := .str (T [110, 119, 115, 101])) ⟨tl, by rw [lit_nwse]⟩)
      (pe_op op_mod (pe_op op_add (pe_bm PySem.F.plainAttrs_str PySem.F.slot_str_index PySem.F.type_str_index mt_index (pe_glob rfl hlw (v := .str (T [110, 119, 115, 101])) ⟨tl, by rw [lit_nwse]⟩) (pa_cons (pv 0) pa_nil)) (pv 1)) pe_int) (fun _ _ => rfl))), ?_⟩
    obtain ⟨rest, ho⟩ := occ_ix hc
    refine ⟨rfl, _, rfl, _, _, _, _, rfl, rfl, ho, _, rfl, _, _, rfl, rfl, _, _, rfl, rfl, (by show (0 : Int) < 4; decide), _, _, _, rfl, rfl, (by rw [T_len]; show 4 ≤ sizeLine; decide), ?_, k⟩
    rw [turn_ix]
    exact atI_nat (lw_at (Nat.mod_lt _ (by decide)))
/-! ### taken_back -/
theorem scTakenBack : FnScope ["step"] ["step"] (defScope sTakenBack) := ⟨rfl, rfl, rfl, by decide +kernel, rfl, by decide +kernel, by decide +kernel⟩
theorem ok_taken_back {f fT : Addr} {fd fdT : FuncData} (F : Df K mg "taken_back" sTakenBack ["step"] f fd) (X : Txt K mg) (Tn : Df K mg "turned" sTurned ["step", "quarters"] fT fdT) : FnOk P w K mg base CX0 2 f fd ["step"] spTakenBack := by
  have GT : FnOk P w K mg base CX0 1 fT fdT ["step", "quarters"] spTurned := ok_turned Tn X
  refine F.fn.ok scTakenBack (fun vs H Q E h => ?_) (fun cdv A outer s H vs Q E hr h => ?_)
  · obtain ⟨c, rfl, _⟩ := h
    rfl
  · obtain ⟨c, rfl, hc, k⟩ := h
    exact ⟨_, pss_one (ps_ret (pe_call GT hr rfl Tn.at_ Tn.fn.kp Tn.bi .nil pass0 (pa_cons (pv 0) (pa_cons pe_int pa_nil)))), _, rfl, c, 2, rfl, hc, k⟩
/-! ### quartered -/
theorem scQuartered : FnScope ["walk", "by", "quarters"] ["walk", "by"] (defScope sQuartered) := ⟨rfl, rfl, rfl, by decide +kernel, rfl, by decide +kernel, by decide +kernel⟩
theorem ok_quartered {f fC fN fT fM : Addr} {fd fdC fdN fdT fdM : FuncData} (F : Df K mg "quartered" sQuartered ["walk", "by"] f fd) (X : Txt K mg) (C : Df K mg "check_walk" sCheckWalk ["walk"] fC fdC)
    (N : Df K mg "check_number" sCheckNumber ["number"] fN fdN) (Tn : Df K mg "turned" sTurned ["step", "quarters"] fT fdT) (M : Df K mg "is_number" sIsNumber ["value"] fM fdM) : FnOk P w K mg base CX0 3 f fd ["walk", "by"] spQuartered := by
  have GC : FnOk P w K mg base CX0 1 fC fdC ["walk"] spCheckWalk := ok_check_walk C X
  have GN : FnOk P w K mg base CX0 2 fN fdN ["number"] spCheckNumber := ok_check_number N X M
  have GT : FnOk P w K mg base CX0 1 fT fdT ["step", "quarters"] spTurned := ok_turned Tn X
  refine F.fn.ok scQuartered (fun vs H Q E h => ?_) (fun cdv A outer s H vs Q E hr h => ?_)
  · obtain ⟨l, b, rfl, _⟩ := h
    rfl
  · obtain ⟨l, b, rfl, hl, hz, k⟩ := h
    have hr1 : Room 1 _ := hr.mono (by decide)
    refine ⟨_, pss_cons (ps_expr (pe_call GC hr1 rfl C.at_ C.fn.kp C.bi .nil pass0 (pa_cons (pv 0) pa_nil)))
      (pss_cons (ps_expr (pe_call GN hr rfl N.at_ N.fn.kp N.bi .nil pass0 (pa_cons (pv 1) pa_nil)))
      (pss_cons (ps_set (i := 2) scQuartered.nd rfl (Or.inr rfl) (pe_op op_mod (pv 1) pe_int))
      (pss_one (ps_ret (pe_bm PySem.F.plainAttrs_str PySem.F.slot_str_join PySem.F.type_str_join mt_join pe_str
        (pa_cons (pe_comp (M := ["step"]) rfl (compSc_of ["walk", "by", "quarters"] (defScope sQuartered) rfl rfl (by decide +kernel)) (pi_str (pv 0)) (fun _ _ _ _ => pg_name (i := 3) (nd_of ["walk", "by", "quarters", "step"] rfl (by decide +kernel)) rfl (Or.inl rfl)) (fun _ _ _ _ => pts_nil)
          (fun _ _ _ _ => pe_call GT hr1 rfl Tn.at_ Tn.fn.kp Tn.bi .nil pass0 (pa_cons (pv 3) (pa_cons (pv 2) pa_nil)))) pa_nil)))))), ?_⟩
    refine ⟨_, rfl, l, rfl, hl, ?_⟩
    refine ⟨_, rfl, b, rfl, ?_⟩
    refine ⟨_, rfl, _, _, rfl, rfl, (by show (0 : Int) < 4; decide), ?_⟩
    refine ⟨rfl, _, rfl, l, rfl, ?_⟩
    refine comp_str (l := l) (fun c => .str (T [tn (b % 4).toNat c])) ?_ (by have e : sizeLine = 16777216 := PySem.sizeLine_eq; omega) (fun _ _ _ _ i c hc H3 R s3 kk => ?_) (fun D H' hD s1 hDl => ?_)
    · rfl
    · have hlt : Lt c := hl c (List.mem_of_getElem? hc)
      refine ⟨_, rfl, _, rfl, c, b % 4, rfl, hlt, ?_⟩
      rw [mod4]
      exact kk H3 (Same.refl _)
    · refine ⟨D, (turnL (b % 4).toNat l).map fun c => [c], by rw [lit_0], rfl, ?_, ?_, ?_⟩
      · refine SqL.of ?_
        rw [hDl]
        unfold turnL
        rw [List.map_map, List.map_map]
        rfl
      · rw [flat_one]
        unfold turnL
        rw [List.length_map]
        omega
      · rw [flat_one]
        exact k H' s1
/-! ### mirrored -/
theorem scMirrored : FnScope ["walk"] ["walk"] (defScope sMirrored) := ⟨rfl, rfl, rfl, by decide +kernel, rfl, by decide +kernel, by decide +kernel⟩
theorem ok_mirrored {f fC : Addr} {fd fdC : FuncData} (F : Df K mg "mirrored" sMirrored ["walk"] f fd) (X : Txt K mg) (Y : TxtM K mg w) (C : Df K mg "check_walk" sCheckWalk ["walk"] fC fdC) : FnOk P w K mg base CX0 2 f fd ["walk"] spMirrored := by
  have GC : FnOk P w K mg base CX0 1 fC fdC ["walk"] spCheckWalk := ok_check_walk C X
  obtain ⟨am, nm, t1, t2, t3, t4, u1, u2, u3, u4, hM, hK⟩ := Y.at_
  refine F.fn.ok scMirrored (fun vs H Q E h => ?_) (fun cdv A outer s H vs Q E hr h => ?_)
  · obtain ⟨l, rfl, _⟩ := h
    rfl
  · obtain ⟨l, rfl, hl, hz, k⟩ := h
    refine ⟨_, pss_cons (ps_expr (pe_call GC hr rfl C.at_ C.fn.kp C.bi .nil pass0 (pa_cons (pv 0) pa_nil)))
      (pss_one (ps_ret (pe_bm PySem.F.plainAttrs_str PySem.F.slot_str_join PySem.F.type_str_join mt_join pe_str
        (pa_cons (pe_comp (M := ["step"]) rfl (compSc_of ["walk"] (defScope sMirrored) rfl rfl (by decide +kernel)) (pi_str (pv 0)) (fun _ _ _ _ => pg_name (i := 1) (nd_of ["walk", "step"] rfl (by decide +kernel)) rfl (Or.inl rfl)) (fun _ _ _ _ => pts_nil)
          (fun _ _ _ _ => pe_kget (pe_glob rfl hM (v := .ref am) rfl) (pv 1) (fun _ _ => rfl))) pa_nil)))), ?_⟩
    refine ⟨_, rfl, l, rfl, hl, ?_⟩
    refine ⟨rfl, _, rfl, l, rfl, ?_⟩
    refine comp_str (l := l) (fun c => .str (T [mir c])) ?_ (by have e : sizeLine = 16777216 := PySem.sizeLine_eq; omega) (fun _ _ _ _ i c hc H3 R s3 kk => ?_) (fun D H' hD s1 hDl => ?_)
    · rfl
    · have hlt : Lt c := hl c (List.mem_of_getElem? hc)
      obtain ⟨u, e1, e2⟩ := mir_find (w := w) (t1 := t1) (t2 := t2) (t3 := t3) (t4 := t4) (u1 := u1) (u2 := u2) (u3 := u3) (u4 := u4) hlt
      refine ⟨_, rfl, am, _, _, u, _, rfl, rfl, ⟨nm, hK, fun e he => ?_⟩, e1, e2, kk H3 (Same.refl _)⟩
      unfold mirEs at he
      simp only [List.mem_toArray, List.mem_cons, List.not_mem_nil, or_false] at he
      rcases he with rfl | rfl | rfl | rfl
      · exact ⟨_, _, rfl, rfl⟩
      · exact ⟨_, _, rfl, rfl⟩
      · exact ⟨_, _, rfl, rfl⟩
      · exact ⟨_, _, rfl, rfl⟩
    · refine ⟨D, (mirL l).map fun c => [c], by rw [lit_0], rfl, ?_, ?_, ?_⟩
      · refine SqL.of ?_
        rw [hDl]
        unfold mirL
        rw [List.map_map, List.map_map]
        rfl
      · rw [flat_one]
        unfold mirL
        rw [List.length_map]
        omega
      · rw [flat_one]
        exact k H' s1
/-! ### backwards -/
theorem scBackwards : FnScope ["walk"] ["walk"] (defScope sBackwards) := ⟨rfl, rfl, rfl, by decide +kernel, rfl, by decide +kernel, by decide +kernel⟩
theorem ok_backwards {f fC fB fT : Addr} {fd fdC fdB fdT : FuncData} (F : Df K mg "backwards" sBackwards ["walk"] f fd) (X : Txt K mg) (hrev : mg "reversed" = none) (C : Df K mg "check_walk" sCheckWalk ["walk"] fC fdC)
    (B : Df K mg "taken_back" sTakenBack ["step"] fB fdB) (Tn : Df K mg "turned" sTurned ["step", "quarters"] fT fdT) : FnOk P w K mg base CX0 3 f fd ["walk"] spBackwards := by
  have GC : FnOk P w K mg base CX0 1 fC fdC ["walk"] spCheckWalk := ok_check_walk C X
  have GB : FnOk P w K mg base CX0 2 fB fdB ["step"] spTakenBack := ok_taken_back B X Tn
  refine F.fn.ok scBackwards (fun vs H Q E h => ?_) (fun cdv A outer s H vs Q E hr h => ?_)
  · obtain ⟨l, rfl, _⟩ := h
    rfl
  · obtain ⟨l, rfl, hl, hz, k⟩ := h
    have hr1 : Room 1 _ := hr.mono (by decide)
    have hsz : l.length ≤ sizeLine := by have e : sizeLine = 16777216 := PySem.sizeLine_eq; omega
    refine ⟨_, pss_cons (ps_expr (pe_call GC hr1 rfl C.at_ C.fn.kp C.bi .nil pass0 (pa_cons (pv 0) pa_nil)))
      (pss_one (ps_ret (pe_bm PySem.F.plainAttrs_str PySem.F.slot_str_join PySem.F.type_str_join mt_join pe_str
        (pa_cons (pe_comp (M := ["step"]) rfl (compSc_of ["walk"] (defScope sBackwards) rfl rfl (by decide +kernel)) (pi_revS rfl hrev (pa_cons (pv 0) pa_nil)) (fun _ _ _ _ => pg_name (i := 1) (nd_of ["walk", "step"] rfl (by decide +kernel)) rfl (Or.inl rfl)) (fun _ _ _ _ => pts_nil)
          (fun _ _ _ _ => pe_call GB hr rfl B.at_ B.fn.kp B.bi .nil pass0 (pa_cons (pv 1) pa_nil))) pa_nil)))), ?_⟩
    refine ⟨_, rfl, l, rfl, hl, ?_⟩
    refine ⟨rfl, _, rfl, l, rfl, hsz, ?_⟩
    refine comp_str (l := l.reverse) (fun c => .str (T [tn 2 c])) ?_ (by rw [List.length_reverse]; exact hsz) (fun _ _ _ _ i c hc H3 R s3 kk => ?_) (fun D H' hD s1 hDl => ?_)
    · rfl
    · have hlt : Lt c := isW_reverse.mpr hl c (List.mem_of_getElem? hc)
      exact ⟨_, rfl, c, rfl, hlt, kk H3 (Same.refl _)⟩
    · refine ⟨D, (backL l).map fun c => [c], by rw [lit_0], rfl, ?_, ?_, ?_⟩
      · refine SqL.of ?_
        rw [hDl]
        unfold backL turnL
        rw [List.map_map, List.map_map]
        rfl
      · rw [flat_one]
        unfold backL turnL
        rw [List.length_map, List.length_reverse]
        omega
      · rw [flat_one]
        exact k H' s1
/-! ### is_closed -/
theorem scIsClosed : FnScope ["walk"] ["walk"] (defScope sIsClosed) := ⟨rfl, rfl, rfl, by decide +kernel, rfl, by decide +kernel, by decide +kernel⟩
def spIsClosed : Sp := fun vs H Q _ => ∃ (l : List Nat), vs = [.str (T l)] ∧ IsW l ∧ ∀ H', Same H H' → Q (.bl (decide (posOf l = (0, 0)))) H'
theorem ok_is_closed {f fC fE : Addr} {fd fdC fdE : FuncData} (F : Df K mg "is_closed" sIsClosed ["walk"] f fd) (X : Txt K mg) (C : Df K mg "check_walk" sCheckWalk ["walk"] fC fdC) (En : Df K mg "end" sEnd ["walk"] fE fdE) :
    FnOk P w K mg base CX0 3 f fd ["walk"] spIsClosed := by
  have GE : FnOk P w K mg base CX0 2 fE fdE ["walk"] spEnd := ok_end En X C
  refine F.fn.ok scIsClosed (fun vs H Q E h => ?_) (fun cdv A outer s H vs Q E hr h => ?_)
  · obtain ⟨l, rfl, _⟩ := h
    rfl
  · obtain ⟨l, rfl, hl, k⟩ := h
    refine ⟨_, pss_one (ps_ret (pe_cmpR (op_eqD hr.units) (pe_call GE hr rfl En.at_ En.fn.kp En.bi .nil pass0 (pa_cons (pv 0) pa_nil)) (pe_tup (pa_cons pe_int (pa_cons pe_int pa_nil))) (nomark _))), ?_⟩
    refine ⟨_, rfl, l, rfl, hl, fun b hb => ⟨two_le, fun c hc => ?_⟩⟩
    have hbc : b ≠ c := fun z => by rw [z, upd_same] at hc; cases hc
    refine ⟨_, _, dat_pt (p := posOf l) (by rw [upd_ne hbc, upd_same]), dat_pt (p := (0, 0)) upd_same, shaped_pt _, shaped_pt _, ?_⟩
    rw [eqv_pt]
    refine k _ fun x o e => ?_
    rw [upd_ne, upd_ne (ne_of_none e hb)]
    · exact e
    · refine ne_of_none (H := upd H b (.tup [.int (posOf l).1, .int (posOf l).2])) (o := o) ?_ hc
      rw [upd_ne (ne_of_none e hb)]
      exact e
/-! ### check_closed -/
theorem scCheckClosed : FnScope ["walk"] ["walk"] (defScope sCheckClosed) := ⟨rfl, rfl, rfl, by decide +kernel, rfl, by decide +kernel, by decide +kernel⟩
theorem ok_check_closed {f fI fC fE : Addr} {fd fdI fdC fdE : FuncData} (F : Df K mg "check_closed" sCheckClosed ["walk"] f fd) (X : Txt K mg) (I : Df K mg "is_closed" sIsClosed ["walk"] fI fdI) (C : Df K mg "check_walk" sCheckWalk ["walk"] fC fdC) (En : Df K mg "end" sEnd ["walk"] fE fdE) :
    FnOk P w K mg base CX0 4 f fd ["walk"] spCheckClosed := by
  have GI : FnOk P w K mg base CX0 3 fI fdI ["walk"] spIsClosed := ok_is_closed I X C En
  refine F.fn.ok scCheckClosed (fun vs H Q E h => ?_) (fun cdv A outer s H vs Q E hr h => ?_)
  · obtain ⟨l, rfl, _⟩ := h
    rfl
  · obtain ⟨l, rfl, hl, h0, k⟩ := h
    refine ⟨_, pss_one (ps_if (pt_not (pt_val (pe_call GI hr rfl I.at_ I.fn.kp I.bi .nil pass0 (pa_cons (pv 0) pa_nil)))) pss_never pss_nil), ?_⟩
    refine ⟨_, rfl, l, rfl, hl, fun H1 s1 => ⟨_, rfl, ?_⟩⟩
    rw [h0]
    refine iteF ?_
    exact k _ s1
/-! ### begun -/
theorem scBegun : FnScope ["walk", "by", "first"] ["walk", "by"] (defScope sBegun) := ⟨rfl, rfl, rfl, by decide +kernel, rfl, by decide +kernel, by decide +kernel⟩
theorem ok_begun {f fC fN fE fZ fI fM : Addr} {fd fdC fdN fdE fdZ fdI fdM : FuncData} (F : Df K mg "begun" sBegun ["walk", "by"] f fd) (X : Txt K mg) (hlen : mg "len" = none) (C : Df K mg "check_walk" sCheckWalk ["walk"] fC fdC)
    (N : Df K mg "check_number" sCheckNumber ["number"] fN fdN) (En : Df K mg "end" sEnd ["walk"] fE fdE) (Z : Df K mg "check_closed" sCheckClosed ["walk"] fZ fdZ) (I : Df K mg "is_closed" sIsClosed ["walk"] fI fdI) (M : Df K mg "is_number" sIsNumber ["value"] fM fdM) : FnOk P w K mg base CX0 5 f fd ["walk", "by"] spBegun := by
  have GN : FnOk P w K mg base CX0 2 fN fdN ["number"] spCheckNumber := ok_check_number N X M
  have GZ : FnOk P w K mg base CX0 4 fZ fdZ ["walk"] spCheckClosed := ok_check_closed Z X I C En
  refine F.fn.ok scBegun (fun vs H Q E h => ?_) (fun cdv A outer s H vs Q E hr h => ?_)
  · obtain ⟨l, b, rfl, _⟩ := h
    rfl
  · obtain ⟨l, b, rfl, hl, hz, h0, k⟩ := h
    have hr1 : Room 2 _ := hr.mono (by decide)
    have esz : sizeLine = 16777216 := PySem.sizeLine_eq
    have hsz : l.length ≤ sizeLine := by omega
    refine ⟨_, pss_cons (ps_expr (pe_call GZ hr rfl Z.at_ Z.fn.kp Z.bi .nil pass0 (pa_cons (pv 0) pa_nil)))
      (pss_cons (ps_expr (pe_call GN hr1 rfl N.at_ N.fn.kp N.bi .nil pass0 (pa_cons (pv 1) pa_nil)))
      (pss_cons (ps_if (pt_cmpR op_eq (pe_callB call_len_str rfl hlen PySem.boot_len (pa_cons (pv 0) pa_nil)) pe_int (nomark _)) (pss_one (ps_ret pe_str)) pss_nil)
      (pss_cons (ps_set (i := 2) scBegun.nd rfl (Or.inl rfl) (pe_op op_mod (pv 1) (pe_callB call_len_str rfl hlen PySem.boot_len (pa_cons (pv 0) pa_nil))))
      (pss_one (ps_ret (pe_op op_add_str (pe_slice sl_str (pv 0) (po_some (pv 2)) po_none) (pe_slice sl_str (pv 0) po_none (po_some (pv 2))))))))), ?_⟩
    refine ⟨_, rfl, l, rfl, hl, h0, fun H1 s1 => ?_⟩
    refine ⟨_, rfl, b, rfl, ?_⟩
    refine ⟨_, rfl, _, rfl, (by rw [T_len]; exact hsz), rfl, _, rfl, ?_⟩
    rw [T_len]
    refine ite2 (fun h => ?_) (fun h => ?_)
    · have e : l = [] := List.length_eq_zero_iff.mp (by
        have h2 := of_decide_eq_true h
        have h3 : ((l.length : Nat) : Int) = 0 := V.int.inj h2
        omega)
      subst e
      have := k H1 s1
      show Q (.str (Str.ofString "")) H1
      rw [lit_0]
      have er : ∀ k, rotL k ([] : List Nat) = [] := fun k => by
        unfold rotL
        simp
      rw [er] at this
      exact this
    · have hpos : 0 < l.length := by
        rcases Nat.eq_zero_or_pos l.length with z | z
        · exact absurd (by rw [z]; rfl) h
        · exact z
      refine ⟨_, rfl, _, rfl, _, rfl, (by rw [T_len]; exact hsz), _, _, rfl, rfl, (by rw [T_len]; show (0 : Int) < (l.length : Int); omega), ?_⟩
      have m0 : 0 ≤ b % (l.length : Int) := Int.emod_nonneg _ (by omega)
      have m1 : b % (l.length : Int) < (l.length : Int) := Int.emod_lt_of_pos _ (by omega)
      have em : b % ((T l).length : Int) = (((b % (l.length : Int)).toNat : Nat) : Int) := by rw [T_len, Int.toNat_of_nonneg m0]
      refine ⟨_, rfl, _, rfl, _, rfl, l, rfl, hsz, ?_⟩
      refine ⟨_, rfl, _, rfl, _, rfl, l, rfl, hsz, ?_⟩
      rw [em, cut_from (by omega), cut_to (by omega)]
      refine ⟨_, _, rfl, rfl, ?_, ?_⟩
      · rw [T_len, T_len, List.length_drop, List.length_take]
        omega
      · rw [T_app]
        exact k H1 s1
/-! ### _law_walk -/
theorem scLawWalk : FnScope ["_law_cells"] ["_law_cells"] (defScope sLawWalk) := ⟨rfl, rfl, rfl, by decide +kernel, rfl, by decide +kernel, by decide +kernel⟩
theorem ok_law_walk {f : Addr} {fd : FuncData} (F : Df K mg "_law_walk" sLawWalk ["_law_cells"] f fd) : FnOk P w K mg base CX0 1 f fd ["_law_cells"] (spLawWalk K) := by
  refine F.fn.ok scLawWalk (fun vs H Q E h => ?_) (fun cdv A outer s H vs Q E hr h => ?_)
  · obtain ⟨a, ns, rfl, _⟩ := h
    rfl
  · obtain ⟨a, ns, rfl, hS, hz, k⟩ := h
    have esz : sizeLine = 16777216 := PySem.sizeLine_eq
    refine ⟨_, pss_one (ps_ret (pe_bm PySem.F.plainAttrs_str PySem.F.slot_str_join PySem.F.type_str_join mt_join pe_str
        (pa_cons (pe_comp (M := ["_law_cell"]) rfl (compSc_of ["_law_cells"] (defScope sLawWalk) rfl rfl (by decide +kernel)) (pi_list (pv 0)) (fun _ _ _ _ => pg_name (i := 1) (nd_of ["_law_cells", "_law_cell"] rfl (by decide +kernel)) rfl (Or.inl rfl)) (fun _ _ _ _ => pts_nil)
          (fun _ _ _ _ => pe_ix ix_str pe_str (pe_op op_mod (pv 1) pe_int) (fun _ _ => rfl))) pa_nil))), ?_⟩
    refine ⟨rfl, _, rfl, a, rfl, ⟨_, hS⟩, ?_⟩
    refine comp_list (K := K) (a := a) (xs := ns.map V.int) lawV ?_ (by rw [List.length_map]; omega) hS (fun _ _ _ _ i x hx H3 R s3 kk => ?_) (fun D H' hD s1 hDl => ?_)
    · rfl
    · obtain ⟨z, rfl⟩ : ∃ z, x = V.int z := by
        rw [List.getElem?_map] at hx
        cases e : ns[i]? with
        | none => rw [e] at hx; cases hx
        | some z => rw [e] at hx; exact ⟨z, (Option.some.inj hx).symm⟩
      refine ⟨_, rfl, _, _, rfl, rfl, (by show (0 : Int) < 4; decide), _, _, lawC z, rfl, rfl, ?_, ?_, kk H3 (Same.refl _)⟩
      · rw [lit_nesw, T_len]
        show 4 ≤ sizeLine
        decide
      · rw [lit_nesw, T_list]
        exact law_at z
    · refine ⟨D, (lawW ns).map fun c => [c], by rw [lit_0], rfl, ?_, ?_, ?_⟩
      · refine SqL.of ?_
        rw [hDl]
        unfold lawW
        rw [List.map_map, List.map_map, List.map_map]
        rfl
      · rw [flat_one, lawW_length]
        omega
      · rw [flat_one]
        exact k H' s1
/-! ### _law_places -/
theorem scLawPlaces : FnScope ["_law_walk_here", "_law_found", "_law_letter", "_law_x", "_law_y", "_law_along", "_law_up"] ["_law_walk_here"] (defScope sLawPlaces) := ⟨rfl, rfl, rfl, by decide +kernel, rfl, by decide +kernel, by decide +kernel⟩
theorem ok_law_places {f : Addr} {fd : FuncData} (F : Df K mg "_law_places" sLawPlaces ["_law_walk_here"] f fd) : FnOk P w K mg base CX0 1 f fd ["_law_walk_here"] spPlaces := by
  refine F.fn.ok scLawPlaces (fun vs H Q E h => ?_) (fun cdv A outer s H vs Q E hr h => ?_)
  · obtain ⟨l, rfl, _⟩ := h
    rfl
  · obtain ⟨l, rfl, hl, hz, k⟩ := h
    have hu := hu_of hr
    have esz : sizeLine = 16777216 := PySem.sizeLine_eq
    refine ⟨_, pss_cons (ps_set (i := 1) scLawPlaces.nd rfl (Or.inl rfl) (pe_lst (pa_cons (pe_tup (pa_cons pe_int (pa_cons pe_int pa_nil))) pa_nil)))
      (pss_cons (ps_for PassesOwn.never rfl (pi_str (pv 0)) (pg_name (i := 2) scLawPlaces.nd rfl (Or.inl rfl))
        (pss_consW (ps_asg (pe_ix ix_list (pv 1) (pe_un un_neg pe_int) (fun _ _ => rfl)) (pg_tup (n := 2) rfl (pgs_cons (pg_name (i := 3) scLawPlaces.nd rfl (Or.inl rfl)) (pgs_cons (pg_name (i := 4) scLawPlaces.nd rfl (Or.inl rfl)) pgs_nil))))
        (pssw_cons (psw_asg (pw_dget hu (pw_disp4 pe_str (pe_tup (pa_cons pe_int (pa_cons pe_int pa_nil))) pe_str (pe_tup (pa_cons pe_int (pa_cons pe_int pa_nil))) pe_str (pe_tup (pa_cons pe_int (pa_cons (pe_un un_neg pe_int) pa_nil))) pe_str (pe_tup (pa_cons (pe_un un_neg pe_int) (pa_cons pe_int pa_nil)))) (pv 2) (fun _ _ => rfl))
            (pg_tup (n := 2) rfl (pgs_cons (pg_name (i := 5) scLawPlaces.nd rfl (Or.inl rfl)) (pgs_cons (pg_name (i := 6) scLawPlaces.nd rfl (Or.inl rfl)) pgs_nil))))
        (pss_one (ps_expr (pe_bm PySem.F.plainAttrs_list PySem.F.slot_list_append PySem.F.type_list_append mt_append (pv 1) (pa_cons (pe_tup (pa_cons (pe_op op_add (pv 3) (pv 5)) (pa_cons (pe_op op_add (pv 4) (pv 6)) pa_nil))) pa_nil)))))))
      (pss_one (ps_ret (pv 1)))), ?_⟩
    refine ⟨two_le, fun p hp => ⟨(by show 1 ≤ sizeLine; decide), fun d hd => ?_⟩⟩
    have hpd : p ≠ d := fun z => by rw [z, upd_same] at hd; cases hd
    have hd0 : H d = none := by rw [upd_ne (Ne.symm hpd)] at hd; exact hd
    refine ⟨_, rfl, l, rfl, for_str (l := l) (fun i σ H' => ∃ (as : List Addr) (v2 v3 v4 v5 v6 : Option V), σ = [some (.str (T l)), some (.ref d), v2, v3, v4, v5, v6] ∧ Same H H' ∧ H' d = some (.lst (as.map V.ref)) ∧
      Tups H' as (placesP (0, 0) (l.take i))) ?_ ?_ ?_⟩
    · refine ⟨[p], none, none, none, none, none, rfl, ?_, upd_same, ?_⟩
      · intro b o e
        rw [upd_ne (ne_of_none e hd0), upd_ne (ne_of_none e hp)]
        exact e
      · exact .cons (by rw [upd_ne hpd, upd_same] <;> rfl) .nil
    · rintro i c σ H' hc ⟨as, v2, v3, v4, v5, v6, rfl, s1, h1, h2⟩
      have hlt : Lt c := hl c (List.mem_of_getElem? hc)
      have hil : i < l.length := (List.getElem?_eq_some_iff.mp hc).1
      have hlen : as.length = i + 1 := by
        have e := Paired.length h2
        rw [placesP_length, List.length_take] at e
        omega
      -- the last one
      obtain ⟨pre, ep⟩ := placesP_last (l.take i) (0, 0)
      obtain ⟨as', q, rfl, hq⟩ : ∃ as' q, as = as' ++ [q] ∧ H' q = some (.tup [.int (posOf (l.take i)).1, .int (posOf (l.take i)).2]) := by
        rw [ep] at h2
        exact tups_last h2
      refine ⟨_, rfl, _, rfl, d, _, _, _, rfl, rfl, SqL.of h1, ?_, q, _, rfl, SqT.of hq, rfl, _, _, rfl, _, _, rfl, rfl, ?_⟩
      · rw [List.map_append]
        exact atI_last _ _
      -- the vector
      intro dd hdd
      refine ⟨two_le, fun b1 hb1 => ⟨two_le, fun b2 hb2 => ⟨_, rfl, two_le, fun b3 hb3 => ⟨_, rfl, two_le, fun b4 hb4 => ?_⟩⟩⟩⟩
      have sa := same_new (o := .dK []) hdd
      have e0 : upd H' dd (.dK []) dd = some (.dK []) := upd_same
      generalize upd H' dd (.dK []) = Ha at *
      have sb := same_new (o := .tup [.int 0, .int 1]) hb1
      have e1 : upd Ha b1 (.tup [.int 0, .int 1]) b1 = some (.tup [.int 0, .int 1]) := upd_same
      generalize upd Ha b1 (.tup [.int 0, .int 1]) = Hb at *
      have sc := same_new (o := .tup [.int 1, .int 0]) hb2
      have e2 : upd Hb b2 (.tup [.int 1, .int 0]) b2 = some (.tup [.int 1, .int 0]) := upd_same
      generalize upd Hb b2 (.tup [.int 1, .int 0]) = Hc at *
      have sd := same_new (o := .tup [.int 0, .int (-1)]) hb3
      have e3 : upd Hc b3 (.tup [.int 0, .int (-1)]) b3 = some (.tup [.int 0, .int (-1)]) := upd_same
      generalize upd Hc b3 (.tup [.int 0, .int (-1)]) = Hd at *
      have se := same_new (o := .tup [.int (-1), .int 0]) hb4
      have e4 : upd Hd b4 (.tup [.int (-1), .int 0]) b4 = some (.tup [.int (-1), .int 0]) := upd_same
      generalize upd Hd b4 (.tup [.int (-1), .int 0]) = He at *
      have sHe : Same H' He := (((sa.trans sb).trans sc).trans sd).trans se
      have f0 : He dd = some (.dK []) := se _ _ (sd _ _ (sc _ _ (sb _ _ e0)))
      have f1 : He b1 = some (.tup [.int 0, .int 1]) := se _ _ (sd _ _ (sc _ _ e1))
      have f2 : He b2 = some (.tup [.int 1, .int 0]) := se _ _ (sd _ _ e2)
      have f3 : He b3 = some (.tup [.int 0, .int (-1)]) := se _ _ e3
      refine ⟨f0, dirK b1 b2 b3 b4, ?_, by show 4 ≤ 15; decide, ?_⟩
      · unfold dirK
        rw [lit_n, lit_e, lit_s, lit_w]
        rfl
      rw [dir_merge]
      have sHf : Same H' (upd He dd (.dK (dirK b1 b2 b3 b4))) := same_upd hdd sHe
      have g0 : upd He dd (.dK (dirK b1 b2 b3 b4)) dd = some (.dK (dirK b1 b2 b3 b4)) := upd_same
      have gt : ∀ b xs, He b = some (.tup xs) → upd He dd (.dK (dirK b1 b2 b3 b4)) b = some (.tup xs) := fun b xs e => by
        rw [upd_ne (ne_of e f0 (by intro z; cases z))]
        exact e
      have g1 := gt _ _ f1
      have g2 := gt _ _ f2
      have g3 := gt _ _ f3
      have g4 := gt _ _ e4
      generalize upd He dd (.dK (dirK b1 b2 b3 b4)) = Hf at *
      have hv : Hf (dirA b1 b2 b3 b4 c) = some (.tup [.int (vec c).1, .int (vec c).2]) := by
        rcases hlt with rfl | rfl | rfl | rfl
        · exact g1
        · exact g4
        · exact g3
        · exact g2
      refine ⟨_, rfl, dd, _, rfl, by rw [← dir_val hlt]; exact DGet.k (k := Sum.inr (T [c])) g0, _, _, rfl, SqT.of hv, rfl, _, _, rfl, _, _, rfl, rfl, ?_⟩
      -- append
      refine ⟨_, rfl, .inl ⟨rfl, _, SqL.of (sHf _ _ h1)⟩, _, rfl, _, rfl, _, _, rfl, rfl, _, rfl, _, rfl, _, _, rfl, rfl, two_le, fun b5 hb5 => ?_⟩
      have h1f : Hf d = some (.lst ((as' ++ [q]).map V.ref)) := sHf _ _ h1
      have hd5 : d ≠ b5 := ne_of_none h1f hb5
      refine ⟨d, _, _, rfl, rfl, by rw [upd_ne hd5]; exact h1f, ?_, ?_⟩
      · rw [List.length_map, hlen]
        omega
      have et : l.take (i + 1) = l.take i ++ [c] := by rw [List.take_add_one, hc]; rfl
      refine ⟨as' ++ [q] ++ [b5], _, _, _, _, _, rfl, ?_, ?_, ?_⟩
      · intro x o e
        have ef := sHf _ _ (s1 _ _ e)
        rw [upd_ne (ne_of_none e hd0), upd_ne (ne_of_none ef hb5)]
        exact ef
      · rw [upd_same, List.map_append (l₁ := as' ++ [q])]
        rfl
      · rw [et, placesP_snoc]
        refine Paired.snoc (h2.mono fun x xs e => ?_) ?_
        · have ef := sHf _ _ e
          rw [upd_ne (ne_of ef h1f (by intro z; cases z)), upd_ne (ne_of_none ef hb5)]
          exact ef
        · rw [upd_ne (Ne.symm hd5), upd_same]
          show some (HO.tup [.int ((posOf (l.take i)).1 + (vec c).1), .int ((posOf (l.take i)).2 + (vec c).2)]) = some (HO.tup [.int (stepP (posOf (l.take i)) c).1, .int (stepP (posOf (l.take i)) c).2])
          rw [stepP_vec]
    · rintro σ H' ⟨as, v2, v3, v4, v5, v6, rfl, s1, h1, h2⟩
      rw [List.take_of_length_le (Nat.le_refl _)] at h2
      exact ⟨_, rfl, k d H' hd0 s1 ⟨as, h1, h2⟩⟩
/-! ### _law_turned -/
theorem scLawTurned : FnScope ["_law_walk_here", "_law_by"] ["_law_walk_here", "_law_by"] (defScope sLawTurned) := ⟨rfl, rfl, rfl, by decide +kernel, rfl, by decide +kernel, by decide +kernel⟩
theorem ok_law_turned {f : Addr} {fd : FuncData} (F : Df K mg "_law_turned" sLawTurned ["_law_walk_here", "_law_by"] f fd) : FnOk P w K mg base CX0 1 f fd ["_law_walk_here", "_law_by"] spQuartered := by
  refine F.fn.ok scLawTurned (fun vs H Q E h => ?_) (fun cdv A outer s H vs Q E hr h => ?_)
  · obtain ⟨l, b, rfl, _⟩ := h
    rfl
  · obtain ⟨l, b, rfl, hl, hz, k⟩ := h
    have esz : sizeLine = 16777216 := PySem.sizeLine_eq
    refine ⟨_, pss_one (ps_ret (pe_bm PySem.F.plainAttrs_str PySem.F.slot_str_join PySem.F.type_str_join mt_join pe_str
        (pa_cons (pe_comp (M := ["_law_letter"]) rfl (compSc_of ["_law_walk_here", "_law_by"] (defScope sLawTurned) rfl rfl (by decide +kernel)) (pi_str (pv 0)) (fun _ _ _ _ => pg_name (i := 2) (nd_of ["_law_walk_here", "_law_by", "_law_letter"] rfl (by decide +kernel)) rfl (Or.inl rfl)) (fun _ _ _ _ => pts_nil)
          (fun _ _ _ _ => pe_ix ix_str pe_str (pe_op op_mod (pe_op op_add (pe_bm PySem.F.plainAttrs_str PySem.F.slot_str_index PySem.F.type_str_index mt_index pe_str (pa_cons (pv 2) pa_nil)) (pv 1)) pe_int) (fun _ _ => rfl))) pa_nil))), ?_⟩
    refine ⟨rfl, _, rfl, l, rfl, ?_⟩
    refine comp_str (l := l) (fun c => .str (T [tn (b % 4).toNat c])) ?_ (by omega) (fun _ _ _ _ i c hc H3 R s3 kk => ?_) (fun D H' hD s1 hDl => ?_)
    · rfl
    · have hlt : Lt c := hl c (List.mem_of_getElem? hc)
      obtain ⟨rest, ho⟩ := occ_ix hlt
      rw [← lit_nwse] at ho
      refine ⟨rfl, _, rfl, _, _, _, _, rfl, rfl, ho, _, rfl, _, _, rfl, rfl, _, _, rfl, rfl, (by show (0 : Int) < 4; decide), _, _, _, rfl, rfl, ?_, ?_, kk H3 (Same.refl _)⟩
      · rw [lit_nwse, T_len]
        show 4 ≤ sizeLine
        decide
      · rw [lit_nwse, T_list, turn_ix]
        exact atI_nat (lw_at (Nat.mod_lt _ (by decide)))
    · refine ⟨D, (turnL (b % 4).toNat l).map fun c => [c], by rw [lit_0], rfl, ?_, ?_, ?_⟩
      · refine SqL.of ?_
        rw [hDl]
        unfold turnL
        rw [List.map_map, List.map_map]
        rfl
      · rw [flat_one]
        unfold turnL
        rw [List.length_map]
        omega
      · rw [flat_one]
        exact k H' s1
/-! ### _law_closed -/
theorem scLawClosed : FnScope ["_law_script", "_law_walk_here", "_law_x", "_law_y", "_law_along", "_law_up"] ["_law_script"] (defScope sLawClosed) := ⟨rfl, rfl, rfl, by decide +kernel, rfl, by decide +kernel, by decide +kernel⟩
theorem ok_law_closed {f fW fP : Addr} {fd fdW fdP : FuncData} (F : Df K mg "_law_closed" sLawClosed ["_law_script"] f fd) (W : Df K mg "_law_walk" sLawWalk ["_law_cells"] fW fdW) (Pl : Df K mg "_law_places" sLawPlaces ["_law_walk_here"] fP fdP)
    (habs : mg "abs" = none) (hsum : mg "sum" = none) : FnOk P w K mg base CX0 2 f fd ["_law_script"] (spLawClosed K) := by
  have GW : FnOk P w K mg base CX0 1 fW fdW ["_law_cells"] (spLawWalk K) := ok_law_walk W
  have GP : FnOk P w K mg base CX0 1 fP fdP ["_law_walk_here"] spPlaces := ok_law_places Pl
  refine F.fn.ok scLawClosed (fun vs H Q E h => ?_) (fun cdv A outer s H vs Q E hr h => ?_)
  · obtain ⟨a, ns, rfl, _⟩ := h
    rfl
  · obtain ⟨a, ns, rfl, hS, hz, k⟩ := h
    have esz : sizeLine = 16777216 := PySem.sizeLine_eq
    refine ⟨_, pss_cons (ps_set (i := 1) scLawClosed.nd rfl (Or.inl rfl) (pe_call GW hr rfl W.at_ W.fn.kp W.bi .nil pass0 (pa_cons (pv 0) pa_nil)))
      (pss_cons (ps_asg (pe_ix ix_list (pe_call GP hr rfl Pl.at_ Pl.fn.kp Pl.bi .nil pass0 (pa_cons (pv 1) pa_nil)) (pe_un un_neg pe_int) (fun _ _ => rfl)) (pg_tup (n := 2) rfl (pgs_cons (pg_name (i := 2) scLawClosed.nd rfl (Or.inl rfl)) (pgs_cons (pg_name (i := 3) scLawClosed.nd rfl (Or.inl rfl)) pgs_nil))))
      (pss_cons (ps_set (i := 4) scLawClosed.nd rfl (Or.inl rfl) (pe_op op_rep_sign (pe_sign (pv 2)) (pe_callB call_abs rfl habs PyProof.Rows.boot_abs (pa_cons (pv 2) pa_nil))))
      (pss_cons (ps_set (i := 5) scLawClosed.nd rfl (Or.inl rfl) (pe_op op_rep_sign (pe_sign (pv 3)) (pe_callB call_abs rfl habs PyProof.Rows.boot_abs (pa_cons (pv 3) pa_nil))))
      (pss_one (ps_ret (pe_ifExp (pt_cmpR op_eq (pe_op op_mod (pe_callB (call_sum rfl) rfl hsum PyProof.Rows.boot_sum (pa_cons (pv 0) pa_nil)) pe_int) pe_int (nomark _))
        (pe_op op_add_str (pe_op op_add_str (pv 1) (pv 5)) (pv 4)) (pe_op op_add_str (pe_op op_add_str (pv 1) (pv 4)) (pv 5)))))))), ?_⟩
    have hl := isW_lawW ns
    have hll := lawW_length ns
    have hb := posOf_bound (lawW ns)
    refine ⟨_, rfl, a, ns, rfl, hS, hz, fun H1 s1 => ?_⟩
    refine ⟨_, rfl, _, rfl, hl, by omega, fun d H2 hd s2 hP => ?_⟩
    obtain ⟨as, h1, h2⟩ := hP
    obtain ⟨pre, ep⟩ := placesP_last (lawW ns) (0, 0)
    obtain ⟨as', q, rfl, hq⟩ : ∃ as' q, as = as' ++ [q] ∧ H2 q = some (.tup [.int (posOf (lawW ns)).1, .int (posOf (lawW ns)).2]) := by
      unfold plOf at h2
      rw [ep] at h2
      exact tups_last h2
    refine ⟨_, rfl, d, _, _, _, rfl, rfl, SqL.of h1, ?_, q, _, rfl, SqT.of hq, rfl, _, _, rfl, _, _, rfl, rfl, ?_⟩
    · rw [List.map_append]
      exact atI_last _ _
    generalize hx : (posOf (lawW ns)).1 = x at *
    generalize hy : (posOf (lawW ns)).2 = y at *
    refine ⟨x, rfl, _, rfl, x, rfl, if 0 < x then 119 else 101, _, ?_, rfl, by rw [abs_nat]; omega, by rw [abs_nat]; omega, ?_⟩
    · split
      · rw [lit_w]
      · rw [lit_e]
    refine ⟨y, rfl, _, rfl, y, rfl, if 0 < y then 115 else 110, _, ?_, rfl, by rw [abs_nat]; omega, by rw [abs_nat]; omega, ?_⟩
    · split
      · rw [lit_s]
      · rw [lit_n]
    have ea : List.replicate (if x < 0 then -x else x).toNat (if 0 < x then 119 else 101) = alongL x := by
      rw [abs_nat]
      rfl
    have eu : List.replicate (if y < 0 then -y else y).toNat (if 0 < y then 115 else 110) = upL y := by
      rw [abs_nat]
      rfl
    rw [ea, eu]
    have la : (alongL x).length = x.natAbs := List.length_replicate ..
    have lu : (upL y).length = y.natAbs := List.length_replicate ..
    have fin := k H2 (s1.trans s2)
    unfold closedL at fin
    rw [hx, hy] at fin
    refine ⟨_, rfl, a, ns, rfl, (s1.trans s2).seq hS, _, _, rfl, rfl, (by show (0 : Int) < 2; decide), rfl, _, rfl, ?_⟩
    rw [dec_int]
    by_cases hev : ns.sum % 2 = 0
    · rw [decide_eq_true hev, if_pos rfl] at fin
      rw [hev]
      refine iteT ?_
      refine ⟨_, rfl, _, rfl, _, _, rfl, rfl, ?_, _, rfl, _, _, rfl, rfl, ?_, ?_⟩
      · rw [T_len, T_len]
        omega
      · rw [T_app, T_len, T_len, List.length_append]
        omega
      · rw [T_app, T_app]
        exact fin
    · rw [decide_eq_false hev, if_neg Bool.false_ne_true] at fin
      have e1 : (ns.sum % 2 == 0) = false := by
        cases q : ns.sum % 2 == 0 with
        | false => rfl
        | true => exact absurd (eq_of_beq q) hev
      rw [e1]
      refine iteF ?_
      refine ⟨_, rfl, _, rfl, _, _, rfl, rfl, ?_, _, rfl, _, _, rfl, rfl, ?_, ?_⟩
      · rw [T_len, T_len]
        omega
      · rw [T_app, T_len, T_len, List.length_append]
        omega
      · rw [T_app, T_app]
        exact fin
end
end SW

set_option Elab.async false
set_option linter.all false
set_option maxRecDepth 100000
set_option maxHeartbeats 4000000
namespace SW
open PySem L2 WM TS
/-- the functions of the row -/
structure Fns (K : PySem.W.Frag) (mg : Str → Option Value) : Prop where
  CheckWalk : ∃ f fd, Df K mg "check_walk" sCheckWalk ["walk"] f fd
  IsNumber : ∃ f fd, Df K mg "is_number" sIsNumber ["value"] f fd
  CheckNumber : ∃ f fd, Df K mg "check_number" sCheckNumber ["number"] f fd
  IsClosed : ∃ f fd, Df K mg "is_closed" sIsClosed ["walk"] f fd
  CheckClosed : ∃ f fd, Df K mg "check_closed" sCheckClosed ["walk"] f fd
  Stepped : ∃ f fd, Df K mg "stepped" sStepped ["place", "step"] f fd
  Places : ∃ f fd, Df K mg "places" sPlaces ["walk"] f fd
  End : ∃ f fd, Df K mg "end" sEnd ["walk"] f fd
  Turned : ∃ f fd, Df K mg "turned" sTurned ["step", "quarters"] f fd
  TakenBack : ∃ f fd, Df K mg "taken_back" sTakenBack ["step"] f fd
  Quartered : ∃ f fd, Df K mg "quartered" sQuartered ["walk", "by"] f fd
  Mirrored : ∃ f fd, Df K mg "mirrored" sMirrored ["walk"] f fd
  Backwards : ∃ f fd, Df K mg "backwards" sBackwards ["walk"] f fd
  Begun : ∃ f fd, Df K mg "begun" sBegun ["walk", "by"] f fd
  LawWalk : ∃ f fd, Df K mg "_law_walk" sLawWalk ["_law_cells"] f fd
  LawPlaces : ∃ f fd, Df K mg "_law_places" sLawPlaces ["_law_walk_here"] f fd
  LawTurned : ∃ f fd, Df K mg "_law_turned" sLawTurned ["_law_walk_here", "_law_by"] f fd
  LawClosed : ∃ f fd, Df K mg "_law_closed" sLawClosed ["_law_script"] f fd
structure Bltn (mg : Str → Option Value) : Prop where
  sum : mg "sum" = none
  all : mg "all" = none
  range : mg "range" = none
  len : mg "len" = none
  abs : mg "abs" = none
  reversed : mg "reversed" = none
  list : mg "list" = none
  tuple : mg "tuple" = none
section
variable {P : Program} {w : World} {K : PySem.W.Frag} {mg : Str → Option Value} {base : Heap}
/-! ### the law -/
abbrev NLaw : List Str := ["_law_script", "_law_walk_here", "_law_told", "_law_mixed", "_law_again", "_law_found", "_law_x", "_law_y", "_law_due", "_law_by", "_law_some", "_law_other", "_law_ways", "_law_home", "_law_loop", "_law_wanted"]
def spLaw (K : PySem.W.Frag) : Sp := fun vs H Q _ => ∃ (a : Addr) (ns : List Int), vs = [.ref a] ∧ SqL K H a (ns.map V.int) ∧ ns.length ≤ 63 ∧ ∀ H', Q (.bl true) H'
theorem scLaw : FnScope NLaw ["_law_script"] (defScope sLaw) := ⟨rfl, rfl, rfl, by decide +kernel, rfl, by decide +kernel, by decide +kernel⟩
theorem upd2 {H : Hp} {b c : Addr} {o o' : HO} (hb : H b = none) (hc : upd H b o c = none) : Same H (upd (upd H b o) c o') := (same_new hb).trans (same_new hc)
theorem due_at {H : Hp} {p : Pt} {t0 t1 t2 t3 : Addr} {b : Int} (h0 : H t0 = some (.tup [.int p.1, .int p.2])) (h1 : H t1 = some (.tup [.int (-p.2), .int p.1])) (h2 : H t2 = some (.tup [.int (-p.1), .int (-p.2)])) (h3 : H t3 = some (.tup [.int p.2, .int (-p.1)])) :
    ∃ t, atI [V.ref t0, V.ref t1, V.ref t2, V.ref t3] (b % 4) = some (V.ref t) ∧ H t = some (.tup [.int (rot (b % 4).toNat p).1, .int (rot (b % 4).toNat p).2]) := by
  have h0' : 0 ≤ b % 4 := Int.emod_nonneg _ (by decide)
  have h1' : b % 4 < 4 := Int.emod_lt_of_pos _ (by decide)
  rcases (by omega : b % 4 = 0 ∨ b % 4 = 1 ∨ b % 4 = 2 ∨ b % 4 = 3) with e | e | e | e
  · rw [e]
    exact ⟨t0, rfl, h0⟩
  · rw [e]
    exact ⟨t1, rfl, h1⟩
  · rw [e]
    exact ⟨t2, rfl, h2⟩
  · rw [e]
    exact ⟨t3, rfl, h3⟩
theorem rot_text {l : List Nat} {b : Int} (h : 0 < l.length) : (List.range l.length).map (fun i => l.getD ((i + (b % (l.length : Int)).toNat) % l.length) 0) = rotL (b % (l.length : Int)).toNat l := by
  have m0 : 0 ≤ b % (l.length : Int) := Int.emod_nonneg _ (by omega)
  have m1 : b % (l.length : Int) < (l.length : Int) := Int.emod_lt_of_pos _ (by omega)
  refine List.ext_getElem? fun i => ?_
  by_cases hi : i < l.length
  · rw [List.getElem?_map, List.getElem?_range hi, rotL_get (by omega) hi]
    have hm : (i + (b % (l.length : Int)).toNat) % l.length < l.length := Nat.mod_lt _ h
    show some (l.getD ((i + (b % (l.length : Int)).toNat) % l.length) 0) = _
    rw [List.getD_eq_getElem?_getD, List.getElem?_eq_getElem hm]
    rfl
  · rw [List.getElem?_eq_none (by rw [List.length_map, List.length_range]; omega), List.getElem?_eq_none (by rw [rotL_length]; omega)]
theorem ok_law {f : Addr} {fd : FuncData} (F : Df K mg "law" sLaw ["_law_script"] f fd) (X : Txt K mg) (Y : TxtM K mg w) (B : Bltn mg) (D : Fns K mg) : FnOk P w K mg base CX0 10 f fd ["_law_script"] (spLaw K) := by
  obtain ⟨f1, d1, W⟩ := D.LawWalk
  obtain ⟨f2, d2, LP⟩ := D.LawPlaces
  obtain ⟨f3, d3, LT⟩ := D.LawTurned
  obtain ⟨f4, d4, LC⟩ := D.LawClosed
  obtain ⟨f5, d5, C⟩ := D.CheckWalk
  obtain ⟨f6, d6, Nu⟩ := D.CheckNumber
  obtain ⟨f7, d7, Cc⟩ := D.CheckClosed
  obtain ⟨f8, d8, St⟩ := D.Stepped
  obtain ⟨f9, d9, Pl⟩ := D.Places
  obtain ⟨f10, d10, En⟩ := D.End
  obtain ⟨f11, d11, Tn⟩ := D.Turned
  obtain ⟨f12, d12, Tb⟩ := D.TakenBack
  obtain ⟨f13, d13, Qu⟩ := D.Quartered
  obtain ⟨f14, d14, Mi⟩ := D.Mirrored
  obtain ⟨f15, d15, Ba⟩ := D.Backwards
  obtain ⟨f16, d16, Be⟩ := D.Begun
  obtain ⟨f17, d17, Ic⟩ := D.IsClosed
  obtain ⟨f18, d18, Im⟩ := D.IsNumber
  have GW : FnOk P w K mg base CX0 1 f1 d1 ["_law_cells"] (spLawWalk K) := ok_law_walk W
  have GLP : FnOk P w K mg base CX0 1 f2 d2 ["_law_walk_here"] spPlaces := ok_law_places LP
  have GLT : FnOk P w K mg base CX0 1 f3 d3 ["_law_walk_here", "_law_by"] spQuartered := ok_law_turned LT
  have GLC : FnOk P w K mg base CX0 2 f4 d4 ["_law_script"] (spLawClosed K) := ok_law_closed LC W LP B.abs B.sum
  have GP : FnOk P w K mg base CX0 2 f9 d9 ["walk"] spPlaces := ok_places Pl X C St
  have GE : FnOk P w K mg base CX0 2 f10 d10 ["walk"] spEnd := ok_end En X C
  have GQ : FnOk P w K mg base CX0 3 f13 d13 ["walk", "by"] spQuartered := ok_quartered Qu X C Nu Tn Im
  have GM : FnOk P w K mg base CX0 2 f14 d14 ["walk"] spMirrored := ok_mirrored Mi X Y C
  have GB : FnOk P w K mg base CX0 3 f15 d15 ["walk"] spBackwards := ok_backwards Ba X B.reversed C Tb Tn
  have GBg : FnOk P w K mg base CX0 5 f16 d16 ["walk", "by"] spBegun := ok_begun Be X B.len C Nu En Cc Ic Im
  refine F.fn.ok scLaw (fun vs H Q E h => ?_) (fun cdv A outer s H vs Q E hr h => ?_)
  · obtain ⟨a, ns, rfl, _⟩ := h
    rfl
  · obtain ⟨a, ns, rfl, hS, hz, k⟩ := h
    have esz : sizeLine = 16777216 := PySem.sizeLine_eq
    have hr1 : Room 1 _ := hr.mono (by decide)
    have hr2 : Room 2 _ := hr.mono (by decide)
    have hr3 : Room 3 _ := hr.mono (by decide)
    have hrG : Room 5 _ := hr.mono (by decide)
    have hu := hu_of hr
    refine ⟨_, pss_cons (ps_set (i := 1) scLaw.nd rfl (Or.inl rfl) (pe_call GW hr1 rfl W.at_ W.fn.kp W.bi .nil pass0 (pa_cons (pv 0) pa_nil)))
      (pss_cons (ps_set (i := 2) scLaw.nd rfl (Or.inl rfl) (pe_call GLP hr1 rfl LP.at_ LP.fn.kp LP.bi .nil pass0 (pa_cons (pv 1) pa_nil)))
      (pss_cons (ps_set (i := 3) scLaw.nd rfl (Or.inl rfl) (pe_callB (call_sum rfl) rfl B.sum PyProof.Rows.boot_sum (pa_cons (pv 0) pa_nil)))
      (pss_cons (ps_for PassesOwn.never rfl (pi_range1 rfl B.range (pa_cons pe_int pa_nil)) (pg_name (i := 4) scLaw.nd rfl (Or.inl rfl))
        (pss_cons (ps_set (i := 5) scLaw.nd rfl (Or.inl rfl) (pe_call GP hr2 rfl Pl.at_ Pl.fn.kp Pl.bi .nil pass0 (pa_cons (pv 1) pa_nil)))
        (pss_cons (ps_if (PW.pt (pw_or (pt_not (pt_val (pe_callB call_isT rfl X.isi PyProof.Rows.boot_isinstance (pa_cons (pv 5) (pa_cons (pe_bltn rfl B.list PyProof.Rows.boot_list (v := .ty "list") rfl) pa_nil)))))
          (pw_or (pt_cmpR (op_neD hr.units) (pv 5) (pv 2) (nomark _))
          (pw_or1 (pt_not (pt_val (pe_callB (call_all rfl) rfl B.all PyProof.Rows.boot_all (pa_cons (pe_comp (M := ["_law_place"]) rfl (compSc_of NLaw (defScope sLaw) rfl rfl (by decide +kernel)) (pi_list (pv 5)) (fun _ _ _ _ => pg_name (i := 16) (nd_of (NLaw ++ [("_law_place" : Str)]) rfl (by decide +kernel)) rfl (Or.inl rfl)) (fun _ _ _ _ => pts_nil)
            (fun _ _ _ _ => pe_callB call_isT rfl X.isi PyProof.Rows.boot_isinstance (pa_cons (pv 16) (pa_cons (pe_bltn rfl B.tuple PyProof.Rows.boot_tuple (v := .ty "tuple") rfl) pa_nil)))) pa_nil)))))))) pss_never pss_nil)
        (pss_one (ps_expr (pe_bm PySem.F.plainAttrs_list PySem.F.slot_list_append PySem.F.type_list_append mt_append (pv 5) (pa_cons (pe_tup (pa_cons pe_int (pa_cons pe_int pa_nil))) pa_nil)))))))
      (pss_cons (ps_if (PW.pt (pw_or (pt_cmpR (op_neD hr.units) (pe_call GE hr2 rfl En.at_ En.fn.kp En.bi .nil pass0 (pa_cons (pv 1) pa_nil)) (pe_ix ix_list (pv 2) (pe_un un_neg pe_int) (fun _ _ => rfl)) (nomark _))
          (pw_or1 (pt_not (pt_val (pe_callB call_isT rfl X.isi PyProof.Rows.boot_isinstance (pa_cons (pe_call GE hr2 rfl En.at_ En.fn.kp En.bi .nil pass0 (pa_cons (pv 1) pa_nil)) (pa_cons (pe_bltn rfl B.tuple PyProof.Rows.boot_tuple (v := .ty "tuple") rfl) pa_nil)))))))) pss_never pss_nil)
      (pss_cons (ps_asg (pe_ix ix_list (pv 2) (pe_un un_neg pe_int) (fun _ _ => rfl)) (pg_tup (n := 2) rfl (pgs_cons (pg_name (i := 6) scLaw.nd rfl (Or.inl rfl)) (pgs_cons (pg_name (i := 7) scLaw.nd rfl (Or.inl rfl)) pgs_nil))))
      (pss_cons (ps_set (i := 8) scLaw.nd rfl (Or.inl rfl) (pe_lst (pa_cons (pe_tup (pa_cons (pv 6) (pa_cons (pv 7) pa_nil))) (pa_cons (pe_tup (pa_cons (pe_un un_neg (pv 7)) (pa_cons (pv 6) pa_nil))) (pa_cons (pe_tup (pa_cons (pe_un un_neg (pv 6)) (pa_cons (pe_un un_neg (pv 7)) pa_nil))) (pa_cons (pe_tup (pa_cons (pv 7) (pa_cons (pe_un un_neg (pv 6)) pa_nil))) pa_nil))))))
      (pss_cons (ps_for PassesOwn.never rfl (pi_list (pe_lst (pa_cons (pv 3) (pa_cons pe_int (pa_cons (pe_un un_neg pe_int) (pa_cons pe_int (pa_cons pe_int pa_nil))))))) (pg_name (i := 9) scLaw.nd rfl (Or.inr rfl))
        (pss_cons (ps_set (i := 10) scLaw.nd rfl (Or.inl rfl) (pe_call GQ hr3 rfl Qu.at_ Qu.fn.kp Qu.bi .nil pass0 (pa_cons (pv 1) (pa_cons (pv 9) pa_nil))))
        (pss_cons (ps_if (PW.pt (pw_or (pt_not (pt_val (pe_callB call_isT rfl X.isi PyProof.Rows.boot_isinstance (pa_cons (pv 10) (pa_cons (pe_bltn rfl X.str PyProof.Rows.boot_str (v := .ty "str") rfl) pa_nil)))))
          (pw_or (pt_cmpR op_ne (pv 10) (pe_call GLT hr1 rfl LT.at_ LT.fn.kp LT.bi .nil pass0 (pa_cons (pv 1) (pa_cons (pe_op op_mod (pv 9) pe_int) pa_nil))) (nomark _))
          (pw_or1 (pt_cmpR (op_neD hr.units) (pe_call GE hr2 rfl En.at_ En.fn.kp En.bi .nil pass0 (pa_cons (pv 10) pa_nil)) (pe_ix ix_list (pv 8) (pe_op op_mod (pv 9) pe_int) (fun _ _ => rfl)) (nomark _)))))) pss_never pss_nil)
        (pss_one (ps_if (pt_cmpR op_ne (pe_call GQ hr3 rfl Qu.at_ Qu.fn.kp Qu.bi .nil pass0 (pa_cons (pv 10) (pa_cons (pe_un un_neg (pv 9)) pa_nil))) (pv 1) (nomark _)) pss_never pss_nil)))))
      (pss_consW (ps_set (i := 11) scLaw.nd rfl (Or.inl rfl) (pe_call GM hr2 rfl Mi.at_ Mi.fn.kp Mi.bi .nil pass0 (pa_cons (pv 1) pa_nil)))
      (pssw_cons (psw_set (i := 12) scLaw.nd rfl (Or.inr rfl) (pw_disp4 pe_str pe_str pe_str pe_str pe_str pe_str pe_str pe_str))
      (pss_cons (ps_if (PW.pt (pw_or (pt_not (pt_val (pe_callB call_isT rfl X.isi PyProof.Rows.boot_isinstance (pa_cons (pv 11) (pa_cons (pe_bltn rfl X.str PyProof.Rows.boot_str (v := .ty "str") rfl) pa_nil)))))
          (pw_or1 (pt_cmpR op_ne (pv 11) (pe_bm PySem.F.plainAttrs_str PySem.F.slot_str_join PySem.F.type_str_join mt_join pe_str
            (pa_cons (pe_comp (M := ["_law_letter"]) rfl (compSc_of NLaw (defScope sLaw) rfl rfl (by decide +kernel)) (pi_str (pv 1)) (fun _ _ _ _ => pg_name (i := 16) (nd_of (NLaw ++ [("_law_letter" : Str)]) rfl (by decide +kernel)) rfl (Or.inl rfl)) (fun _ _ _ _ => pts_nil)
              (fun _ _ _ _ => pe_dget hu (pv 12) (pv 16) (fun _ _ => rfl))) pa_nil)) (nomark _))))) pss_never pss_nil)
      (pss_cons (ps_set (i := 13) scLaw.nd rfl (Or.inl rfl) (pe_call GB hr3 rfl Ba.at_ Ba.fn.kp Ba.bi .nil pass0 (pa_cons (pv 1) pa_nil)))
      (pss_cons (ps_if (PW.pt (pw_or (pt_not (pt_val (pe_callB call_isT rfl X.isi PyProof.Rows.boot_isinstance (pa_cons (pv 13) (pa_cons (pe_bltn rfl X.str PyProof.Rows.boot_str (v := .ty "str") rfl) pa_nil)))))
          (pw_or (pt_cmpR op_ne (pv 13) (pe_call GLT hr1 rfl LT.at_ LT.fn.kp LT.bi .nil pass0 (pa_cons (pe_rev (pv 1)) (pa_cons pe_int pa_nil))) (nomark _))
          (pw_or1 (pt_cmpR (op_neD hr.units) (pe_call GE hr2 rfl En.at_ En.fn.kp En.bi .nil pass0 (pa_cons (pe_op op_add_str (pv 1) (pv 13)) pa_nil)) (pe_tup (pa_cons pe_int (pa_cons pe_int pa_nil))) (nomark _)))))) pss_never pss_nil)
      (pss_cons (ps_set (i := 14) scLaw.nd rfl (Or.inr rfl) (pe_call GLC hr2 rfl LC.at_ LC.fn.kp LC.bi .nil pass0 (pa_cons (pv 0) pa_nil)))
      (pss_cons (ps_for PassesOwn.never rfl (pi_list (pe_lst (pa_cons (pv 3) (pa_cons pe_int (pa_cons (pe_un un_neg pe_int) pa_nil))))) (pg_name (i := 9) scLaw.nd rfl (Or.inr rfl))
        (pss_cons (ps_set (i := 10) scLaw.nd rfl (Or.inl rfl) (pe_call GBg hrG rfl Be.at_ Be.fn.kp Be.bi .nil pass0 (pa_cons (pv 14) (pa_cons (pv 9) pa_nil))))
        (pss_cons (ps_set (i := 15) scLaw.nd rfl (Or.inl rfl) (pe_bm PySem.F.plainAttrs_str PySem.F.slot_str_join PySem.F.type_str_join mt_join pe_str
            (pa_cons (pe_comp (M := ["_law_at"]) rfl (compSc_of NLaw (defScope sLaw) rfl rfl (by decide +kernel)) (pi_range1 rfl B.range (pa_cons (pe_callB call_len_str rfl B.len PySem.boot_len (pa_cons (pv 14) pa_nil)) pa_nil)) (fun _ _ _ _ => pg_name (i := 16) (nd_of (NLaw ++ [("_law_at" : Str)]) rfl (by decide +kernel)) rfl (Or.inl rfl)) (fun _ _ _ _ => pts_nil)
              (fun _ _ _ _ => pe_ix ix_str (pv 14) (pe_op op_mod (pe_op op_add (pv 16) (pv 9)) (pe_callB call_len_str rfl B.len PySem.boot_len (pa_cons (pv 14) pa_nil))) (fun _ _ => rfl))) pa_nil)))
        (pss_one (ps_if (PW.pt (pw_or (pt_not (pt_val (pe_callB call_isT rfl X.isi PyProof.Rows.boot_isinstance (pa_cons (pv 10) (pa_cons (pe_bltn rfl X.str PyProof.Rows.boot_str (v := .ty "str") rfl) pa_nil)))))
          (pw_or1 (pt_cmpR op_ne (pv 10) (pv 15) (nomark _))))) pss_never pss_nil)))))
      (pss_one (ps_ret (pe_and (pe_cmpR op_eq (pe_call GM hr2 rfl Mi.at_ Mi.fn.kp Mi.bi .nil pass0 (pa_cons (pv 11) pa_nil)) (pv 1) (nomark _))
        (pe_and (pe_cmpR op_eq (pe_call GB hr3 rfl Ba.at_ Ba.fn.kp Ba.bi .nil pass0 (pa_cons (pv 13) pa_nil)) (pv 1) (nomark _))
        (pe_and (pe_cmpR (op_eqD hr.units) (pe_call GP hr2 rfl Pl.at_ Pl.fn.kp Pl.bi .nil pass0 (pa_cons pe_str pa_nil)) (pe_lst (pa_cons (pe_tup (pa_cons pe_int (pa_cons pe_int pa_nil))) pa_nil)) (nomark _))
        (pe_one (pe_cmpR op_eq (pe_call GBg hrG rfl Be.at_ Be.fn.kp Be.bi .nil pass0 (pa_cons pe_str (pa_cons pe_int pa_nil))) pe_str (nomark _)))))))))))))))))))))), ?_⟩
    have hl := isW_lawW ns
    have hll := lawW_length ns
    refine ⟨_, rfl, a, ns, rfl, hS, hz, fun H1 s1 => ?_⟩
    refine ⟨_, rfl, lawW ns, rfl, hl, by omega, fun d H2 hd s2 hP => ?_⟩
    generalize hL : lawW ns = l at *
    refine ⟨_, rfl, a, ns, rfl, (s1.trans s2).seq hS, ?_⟩
    have hS2 := (s1.trans s2).seq hS
    obtain ⟨as, hd1, hd2⟩ := id hP
    have hlen : as.length = l.length + 1 := by
      have e := Paired.length hd2
      unfold plOf at e
      rw [placesP_length] at e
      exact e
    refine ⟨2, rfl, by decide, by decide, for_range (n := 2) (fun i σ H' => ∃ v4 v5 : Option V, σ = [some (.ref a), some (.str (T l)), some (.ref d), some (.int ns.sum), v4, v5, none, none, none, none, none, none, none, none, none, none] ∧ Same H2 H') ⟨none, none, rfl, Same.refl _⟩ ?_ ?_⟩
    · rintro i σ H' hi ⟨v4, v5, rfl, sH⟩
      refine ⟨_, rfl, l, rfl, hl, by omega, fun d2 H3 hd2' s3 hP2 => ?_⟩
      obtain ⟨as2, g1, g2⟩ := id hP2
      have hlen2 : as2.length = l.length + 1 := by
        have e := Paired.length g2
        unfold plOf at e
        rw [placesP_length] at e
        exact e
      refine ⟨_, rfl, _, _, _, true, rfl, .lst g1, kit_list K, _, rfl, ?_⟩
      refine iteF ?_
      refine ⟨_, rfl, _, rfl, _, _, dat_pl hP2, dat_pl (hP.same (sH.trans s3)), shaped_pl _, shaped_pl _, _, rfl, ?_⟩
      rw [eqv_pls]
      refine iteF ?_
      refine ⟨_, rfl, d2, rfl, ⟨_, SqL.of g1⟩, ?_⟩
      refine comp_list (K := K) (a := d2) (xs := as2.map V.ref) (fun _ => .bl true) ?_ (by rw [List.length_map]; omega) (SqL.of g1) (fun _ _ _ _ i x hx H4 R s4 kk => ?_) (fun D' H4 hD s4 hDl => ?_)
      · rfl
      · obtain ⟨a', p', rfl, ha'⟩ := tups_get g2 hx
        exact ⟨_, rfl, _, _, _, true, rfl, .tup (s4 _ _ ha'), kit_tuple K, kk H4 (Same.refl _)⟩
      · refine ⟨D', as2.map fun _ => true, rfl, SqL.of (by rw [hDl, List.map_map, List.map_map]; rfl), _, rfl, ?_⟩
        have eall : (as2.map fun _ => true).all id = true := by simp
        rw [eall]
        refine iteF ?_
        have g1' := s4 _ _ g1
        refine ⟨_, rfl, .inl ⟨rfl, _, SqL.of g1'⟩, two_le, fun b hb => ?_⟩
        have hdb : d2 ≠ b := ne_of_none g1' hb
        refine ⟨d2, _, _, rfl, rfl, by rw [upd_ne hdb]; exact g1', by rw [List.length_map]; omega, ?_⟩
        refine ⟨_, _, rfl, fun x o e => ?_⟩
        have e' := sH _ _ e
        have e3 := s4 _ _ (s3 _ _ e')
        rw [upd_ne (ne_of_none e' hd2'), upd_ne (ne_of_none e3 hb)]
        exact e3
    rintro σ H5 ⟨v4, v5, rfl, s5⟩
    obtain ⟨pre, ep⟩ := placesP_last l (0, 0)
    obtain ⟨as', q, rfl, hq⟩ : ∃ as' q, as = as' ++ [q] ∧ H2 q = some (.tup [.int (posOf l).1, .int (posOf l).2]) := by
      unfold plOf at hd2
      rw [ep] at hd2
      exact tups_last hd2
    have atq : atI ((as' ++ [q]).map V.ref) (-1) = some (V.ref q) := by
      rw [List.map_append]
      exact atI_last _ _
    -- end(walk) != told[-1] or not isinstance(end(walk), tuple)
    refine ⟨_, rfl, l, rfl, hl, fun b1 hb1 => ?_⟩
    have sa : Same H5 (upd H5 b1 (.tup [.int (posOf l).1, .int (posOf l).2])) := same_new hb1
    have ea : upd H5 b1 (.tup [.int (posOf l).1, .int (posOf l).2]) b1 = some (.tup [.int (posOf l).1, .int (posOf l).2]) := upd_same
    generalize upd H5 b1 (.tup [.int (posOf l).1, .int (posOf l).2]) = Ha at *
    refine ⟨_, rfl, _, rfl, d, _, _, _, rfl, rfl, SqL.of (sa _ _ (s5 _ _ hd1)), atq, ?_⟩
    refine ⟨_, _, dat_pt ea, dat_pt (sa _ _ (s5 _ _ hq)), shaped_pt _, shaped_pt _, _, rfl, ?_⟩
    rw [eqv_pt]
    refine iteNS rfl ?_
    refine ⟨_, rfl, l, rfl, hl, fun b2 hb2 => ?_⟩
    have sb : Same Ha (upd Ha b2 (.tup [.int (posOf l).1, .int (posOf l).2])) := same_new hb2
    have eb : upd Ha b2 (.tup [.int (posOf l).1, .int (posOf l).2]) b2 = some (.tup [.int (posOf l).1, .int (posOf l).2]) := upd_same
    generalize upd Ha b2 (.tup [.int (posOf l).1, .int (posOf l).2]) = Hb at *
    refine ⟨_, _, _, true, rfl, .tup eb, kit_tuple K, _, rfl, ?_⟩
    refine iteF ?_
    have s6 : Same H2 Hb := (s5.trans sa).trans sb
    -- x, y = told[-1]
    refine ⟨_, rfl, _, rfl, d, _, _, _, rfl, rfl, SqL.of (s6 _ _ hd1), atq, q, _, rfl, SqT.of (s6 _ _ hq), rfl, _, _, rfl, _, _, rfl, rfl, ?_⟩
    -- due
    refine ⟨_, rfl, _, rfl, two_le, fun t0 ht0 => ⟨_, rfl, _, rfl, _, rfl, two_le, fun t1 ht1 => ⟨_, rfl, _, rfl, _, rfl, _, rfl, two_le, fun t2 ht2 => ⟨_, rfl, _, rfl, _, rfl, two_le, fun t3 ht3 => ⟨(by show 4 ≤ sizeLine; decide), fun u hu' => ?_⟩⟩⟩⟩⟩
    have c0 := same_new (o := .tup [.int (posOf l).1, .int (posOf l).2]) ht0
    have g0 : upd Hb t0 (.tup [.int (posOf l).1, .int (posOf l).2]) t0 = _ := upd_same
    generalize upd Hb t0 (.tup [.int (posOf l).1, .int (posOf l).2]) = Hc0 at *
    have c1 := same_new (o := .tup [.int (-(posOf l).2), .int (posOf l).1]) ht1
    have g1 : upd Hc0 t1 (.tup [.int (-(posOf l).2), .int (posOf l).1]) t1 = _ := upd_same
    generalize upd Hc0 t1 (.tup [.int (-(posOf l).2), .int (posOf l).1]) = Hc1 at *
    have c2 := same_new (o := .tup [.int (-(posOf l).1), .int (-(posOf l).2)]) ht2
    have g2 : upd Hc1 t2 (.tup [.int (-(posOf l).1), .int (-(posOf l).2)]) t2 = _ := upd_same
    generalize upd Hc1 t2 (.tup [.int (-(posOf l).1), .int (-(posOf l).2)]) = Hc2 at *
    have c3 := same_new (o := .tup [.int (posOf l).2, .int (-(posOf l).1)]) ht3
    have g3 : upd Hc2 t3 (.tup [.int (posOf l).2, .int (-(posOf l).1)]) t3 = _ := upd_same
    generalize upd Hc2 t3 (.tup [.int (posOf l).2, .int (-(posOf l).1)]) = Hc3 at *
    have c4 := same_new (o := .lst [.ref t0, .ref t1, .ref t2, .ref t3]) hu'
    have g4 : upd Hc3 u (.lst [.ref t0, .ref t1, .ref t2, .ref t3]) u = _ := upd_same
    generalize upd Hc3 u (.lst [.ref t0, .ref t1, .ref t2, .ref t3]) = H7 at *
    have s7 : Same H2 H7 := ((((s6.trans c0).trans c1).trans c2).trans c3).trans c4
    have q0 := c4 _ _ (c3 _ _ (c2 _ _ (c1 _ _ g0)))
    have q1 := c4 _ _ (c3 _ _ (c2 _ _ g1))
    have q2 := c4 _ _ (c3 _ _ g2)
    have q3 := c4 _ _ g3
    -- for by in [mixed, 1, -1, 4, 0]
    refine ⟨_, rfl, _, rfl, (by show 5 ≤ sizeLine; decide), fun m hm => ?_⟩
    have c5 := same_new (o := .lst [.int ns.sum, .int 1, .int (-1), .int 4, .int 0]) hm
    have g5 : upd H7 m (.lst [.int ns.sum, .int 1, .int (-1), .int 4, .int 0]) m = _ := upd_same
    generalize upd H7 m (.lst [.int ns.sum, .int 1, .int (-1), .int 4, .int 0]) = H8 at *
    refine ⟨m, rfl, ⟨_, SqL.of g5⟩, for_list (K := K) (a := m) (xs := [.int ns.sum, .int 1, .int (-1), .int 4, .int 0]) (fun i σ H' => ∃ v9 v10 : Option V, σ = [some (.ref a), some (.str (T l)), some (.ref d), some (.int ns.sum), v4, v5, some (.int (posOf l).1), some (.int (posOf l).2), some (.ref u), v9, v10, none, none, none, none, none] ∧ Same H8 H')
      ⟨none, none, rfl, Same.refl _⟩ (fun i σ H' _ ⟨_, _, _, s⟩ => SqL.of (s _ _ g5)) ?_ ?_⟩
    · rintro i x σ H' hx ⟨v9, v10, rfl, sH⟩
      obtain ⟨b, rfl⟩ : ∃ b, x = V.int b := by
        have := List.mem_of_getElem? hx
        simp only [List.mem_cons, List.not_mem_nil, or_false] at this
        rcases this with rfl | rfl | rfl | rfl | rfl <;> exact ⟨_, rfl⟩
      refine ⟨_, rfl, _, rfl, l, b, rfl, hl, by omega, fun H9 s9 => ?_⟩
      refine ⟨_, rfl, _, _, _, true, rfl, .str _, kit_str K, _, rfl, ?_⟩
      refine iteF ?_
      refine ⟨_, rfl, _, rfl, _, rfl, _, _, rfl, rfl, (by show (0 : Int) < 4; decide), l, b % 4, rfl, hl, by omega, fun H10 s10 => ?_⟩
      rw [mod4]
      refine ⟨rfl, _, rfl, ?_⟩
      refine iteNS rfl ?_
      refine ⟨_, rfl, _, rfl, isW_turnL _ _, fun b3 hb3 => ?_⟩
      have e1 := same_new (o := .tup [.int (posOf (turnL (b % 4).toNat l)).1, .int (posOf (turnL (b % 4).toNat l)).2]) hb3
      have e2 : upd H10 b3 (.tup [.int (posOf (turnL (b % 4).toNat l)).1, .int (posOf (turnL (b % 4).toNat l)).2]) b3 = _ := upd_same
      generalize upd H10 b3 (.tup [.int (posOf (turnL (b % 4).toNat l)).1, .int (posOf (turnL (b % 4).toNat l)).2]) = H11 at *
      have s11 : Same H7 H11 := (((c5.trans sH).trans s9).trans s10).trans e1
      obtain ⟨tt, at_, ht⟩ := due_at (b := b) (s11 _ _ q0) (s11 _ _ q1) (s11 _ _ q2) (s11 _ _ q3)
      refine ⟨_, rfl, _, rfl, _, _, rfl, rfl, (by show (0 : Int) < 4; decide), u, _, _, _, rfl, rfl, SqL.of (s11 _ _ g4), at_, ?_⟩
      have hq4 : (b % 4).toNat < 4 := by omega
      refine ⟨_, _, dat_pt e2, dat_pt ht, shaped_pt _, shaped_pt _, _, rfl, ?_⟩
      rw [eqv_pt]
      refine iteNS (posOf_turnL hq4 hl) ?_
      have htl : (turnL (b % 4).toNat l).length = l.length := List.length_map ..
      refine ⟨_, rfl, _, rfl, _, rfl, _, -b, rfl, isW_turnL _ _, by omega, fun H12 s12 => ?_⟩
      refine ⟨_, rfl, rfl, _, rfl, ?_⟩
      rw [turnL_turnL hl (neg4 b)]
      refine iteNS rfl ?_
      exact ⟨_, _, rfl, (((sH.trans s9).trans s10).trans e1).trans s12⟩
    rintro σ H13 ⟨v9, v10, rfl, s13⟩
    -- mirrored
    refine ⟨_, rfl, l, rfl, hl, by omega, fun H14 s14 => ?_⟩
    intro dd hdd
    have a1 := same_new (o := .dK []) hdd
    have a2 : upd H14 dd (.dK []) dd = some (.dK []) := upd_same
    refine ⟨a2, wayK, ?_, by show 4 ≤ 15; decide, ?_⟩
    · unfold wayK
      rw [lit_n, lit_e, lit_s, lit_w]
      rfl
    rw [way_merge]
    have a3 : Same H14 (upd (upd H14 dd (.dK [])) dd (.dK wayK)) := same_upd hdd a1
    have a4 : upd (upd H14 dd (.dK [])) dd (.dK wayK) dd = some (.dK wayK) := upd_same
    generalize upd (upd H14 dd (.dK [])) dd (.dK wayK) = H15 at *
    refine ⟨_, rfl, _, _, _, true, rfl, .str _, kit_str K, _, rfl, ?_⟩
    refine iteF ?_
    refine ⟨_, rfl, rfl, _, rfl, l, rfl, ?_⟩
    refine comp_str (l := l) (fun c => .str (T [mir c])) ?_ (by omega) (fun _ _ _ _ i c hc H3 R s3 kk => ?_) (fun D' H16 hD s16 hDl => ?_)
    · rfl
    · have hlt : Lt c := hl c (List.mem_of_getElem? hc)
      exact ⟨_, rfl, _, rfl, dd, _, rfl, by rw [← way_val hlt]; exact DGet.k (k := Sum.inr (T [c])) (s3 _ _ a4), kk H3 (Same.refl _)⟩
    have hml : (mirL l).length = l.length := List.length_map ..
    refine ⟨D', (mirL l).map fun c => [c], by rw [lit_0], rfl, ?_, by rw [flat_one]; omega, ?_⟩
    · refine SqL.of ?_
      rw [hDl]
      unfold mirL
      rw [List.map_map, List.map_map]
      rfl
    rw [flat_one]
    refine ⟨rfl, _, rfl, ?_⟩
    refine iteNS rfl ?_
    -- backwards
    refine ⟨_, rfl, l, rfl, hl, by omega, fun H17 s17 => ?_⟩
    refine ⟨_, rfl, _, _, _, true, rfl, .str _, kit_str K, _, rfl, ?_⟩
    refine iteF ?_
    refine ⟨_, rfl, _, rfl, l, rfl, by omega, l.reverse, 2, rfl, isW_reverse.mpr hl, by rw [List.length_reverse]; omega, fun H18 s18 => ?_⟩
    refine ⟨rfl, _, rfl, ?_⟩
    refine iteNS rfl ?_
    have hbl : (backL l).length = l.length := by
      unfold backL turnL
      rw [List.length_map, List.length_reverse]
    refine ⟨_, rfl, _, rfl, _, _, rfl, rfl, by rw [T_len, T_len]; omega, l ++ backL l, by rw [T_app]; rfl, isW_append.mpr ⟨hl, isW_backL l⟩, fun b4 hb4 => ⟨two_le, fun b5 hb5 => ?_⟩⟩
    have n45 : b4 ≠ b5 := fun z => by rw [z, upd_same] at hb5; cases hb5
    refine ⟨_, _, dat_pt (p := posOf (l ++ backL l)) (by rw [upd_ne n45, upd_same]), dat_pt (p := (0, 0)) upd_same, shaped_pt _, shaped_pt _, _, rfl, ?_⟩
    rw [eqv_pt]
    refine iteNS (home_zero hl) ?_
    have s19 : Same H18 (upd (upd H18 b4 (.tup [.int (posOf (l ++ backL l)).1, .int (posOf (l ++ backL l)).2])) b5 (.tup [.int 0, .int 0])) := upd2 hb4 hb5
    generalize upd (upd H18 b4 (.tup [.int (posOf (l ++ backL l)).1, .int (posOf (l ++ backL l)).2])) b5 (.tup [.int 0, .int 0]) = H19 at *
    have s20 : Same H2 H19 := (((((((s7.trans c5).trans s13).trans s14).trans a3).trans s16).trans s17).trans s18).trans s19
    -- loop
    refine ⟨_, rfl, a, ns, rfl, s20.seq hS2, hz, fun H20 s21 => ?_⟩
    rw [hL]
    have ho := isW_closedL (b := decide (ns.sum % 2 = 0)) hl
    have ho0 := posOf_closedL (decide (ns.sum % 2 = 0)) l
    have hol := closedL_length (decide (ns.sum % 2 = 0)) l
    generalize closedL (decide (ns.sum % 2 = 0)) l = o at *
    refine ⟨_, rfl, _, rfl, (by show 3 ≤ sizeLine; decide), fun m2 hm2 => ?_⟩
    have c6 := same_new (o := .lst [.int ns.sum, .int 3, .int (-1)]) hm2
    have g6 : upd H20 m2 (.lst [.int ns.sum, .int 3, .int (-1)]) m2 = _ := upd_same
    generalize upd H20 m2 (.lst [.int ns.sum, .int 3, .int (-1)]) = H21 at *
    refine ⟨m2, rfl, ⟨_, SqL.of g6⟩, for_list (K := K) (a := m2) (xs := [.int ns.sum, .int 3, .int (-1)]) (fun i σ H' => ∃ v9 v10 v15 : Option V, σ = [some (.ref a), some (.str (T l)), some (.ref d), some (.int ns.sum), v4, v5, some (.int (posOf l).1), some (.int (posOf l).2), some (.ref u), v9, v10, some (.str (T (mirL l))), some (.ref dd), some (.str (T (backL l))), some (.str (T o)), v15] ∧ Same H21 H')
      ⟨_, _, none, rfl, Same.refl _⟩ (fun i σ H' _ ⟨_, _, _, _, s⟩ => SqL.of (s _ _ g6)) ?_ ?_⟩
    · rintro i x σ H' hx ⟨v9, v10, v15, rfl, sH⟩
      obtain ⟨b, rfl⟩ : ∃ b, x = V.int b := by
        have := List.mem_of_getElem? hx
        simp only [List.mem_cons, List.not_mem_nil, or_false] at this
        rcases this with rfl | rfl | rfl <;> exact ⟨_, rfl⟩
      refine ⟨_, rfl, _, rfl, o, b, rfl, ho, by omega, ho0, fun H22 s22 => ?_⟩
      have hoz : (T o).length ≤ sizeLine := by rw [T_len]; omega
      refine ⟨rfl, _, rfl, _, rfl, hoz, ((T o).length : Int), rfl, by omega, by rw [T_len]; omega, ?_⟩
      have eT : (T o).length = o.length := T_len o
      have eN : ((T o).length : Int).toNat = o.length := by rw [eT]; rfl
      rw [eN]
      refine comp_range (m := o.length) (fun i => .str (T [o.getD ((i + (b % (o.length : Int)).toNat) % o.length) 0])) ?_ (by omega) (fun _ _ _ _ i hi H3 R s3 kk => ?_) (fun D' H23 hD s23 hDl => ?_)
      · rfl
      · have hp : 0 < o.length := by omega
        have hm : (i + (b % (o.length : Int)).toNat) % o.length < o.length := Nat.mod_lt _ hp
        refine ⟨_, rfl, _, rfl, _, rfl, _, _, rfl, rfl, _, rfl, _, rfl, hoz, _, _, rfl, rfl, (by rw [eT]; omega), _, _, o.getD ((i + (b % (o.length : Int)).toNat) % o.length) 0, rfl, rfl, hoz, ?_, kk H3 (Same.refl _)⟩
        rw [eT, mod_shift i b o.length hp]
        refine atI_nat ?_
        rw [T_list, List.getD_eq_getElem?_getD, List.getElem?_eq_getElem hm]
        rfl
      have ert : (List.range o.length).map (fun i => o.getD ((i + (b % (o.length : Int)).toNat) % o.length) 0) = rotL (b % (o.length : Int)).toNat o := by
        rcases Nat.eq_zero_or_pos o.length with z | z
        · have : o = [] := List.length_eq_zero_iff.mp z
          subst this
          unfold rotL
          simp
        · exact rot_text z
      refine ⟨D', (rotL (b % (o.length : Int)).toNat o).map fun c => [c], by rw [lit_0], rfl, ?_, by rw [flat_one, rotL_length]; omega, ?_⟩
      · refine SqL.of ?_
        rw [hDl, ← ert, List.map_map, List.map_map]
        rfl
      rw [flat_one]
      refine ⟨_, rfl, _, _, _, true, rfl, .str _, kit_str K, _, rfl, ?_⟩
      refine iteF ?_
      refine ⟨_, rfl, _, rfl, rfl, _, rfl, ?_⟩
      refine iteNS rfl ?_
      exact ⟨_, _, _, rfl, (sH.trans s22).trans s23⟩
    rintro σ H24 ⟨v9', v10', v15, rfl, s24⟩
    -- the last row
    refine ⟨_, rfl, mirL l, rfl, isW_mirL hl, by omega, fun H25 s25 => ?_⟩
    rw [mirL_mirL hl]
    refine ⟨_, rfl, rfl, _, rfl, ?_⟩
    rw [decide_eq_true rfl]
    refine iteT ?_
    refine ⟨_, rfl, backL l, rfl, isW_backL l, by omega, fun H26 s26 => ?_⟩
    rw [backL_backL hl]
    refine ⟨_, rfl, rfl, _, rfl, ?_⟩
    rw [decide_eq_true rfl]
    refine iteT ?_
    refine ⟨[], by rw [lit_0]; rfl, isW_nil, by show 0 ≤ 1000; decide, fun d7 H27 hd7 s27 hP7 => ?_⟩
    refine ⟨two_le, fun t7 ht7 => ⟨(by show 1 ≤ sizeLine; decide), fun l7 hl7 => ?_⟩⟩
    have x1 := same_new (o := .tup [.int 0, .int 0]) ht7
    have x2 : upd H27 t7 (.tup [.int 0, .int 0]) t7 = _ := upd_same
    generalize upd H27 t7 (.tup [.int 0, .int 0]) = H28 at *
    have x3 := same_new (o := .lst [.ref t7]) hl7
    have x4 : upd H28 l7 (.lst [.ref t7]) l7 = _ := upd_same
    generalize upd H28 l7 (.lst [.ref t7]) = H29 at *
    have hP8 : PlAt H29 l7 (plOf []) := ⟨[t7], x4, .cons (x3 _ _ x2) .nil⟩
    refine ⟨_, _, dat_pl (hP7.same (x1.trans x3)), dat_pl hP8, shaped_pl _, shaped_pl _, _, rfl, ?_⟩
    rw [eqv_pls]
    refine iteT ?_
    refine ⟨[], 5, by rw [lit_0]; rfl, isW_nil, by show 0 ≤ 1000; decide, rfl, fun H30 s30 => ?_⟩
    have er : rotL (5 % (([] : List Nat).length : Int)).toNat ([] : List Nat) = [] := by
      unfold rotL
      simp
    rw [er, lit_0]
    refine ⟨rfl, ?_⟩
    rw [decide_eq_true rfl]
    exact k H30
theorem law_all {f : Addr} {fd : FuncData} (F : Df K mg "law" sLaw ["_law_script"] f fd) (X : Txt K mg) (Y : TxtM K mg w) (B : Bltn mg) (D : Fns K mg) : FnOk P w K mg base CX0 10 f fd ["_law_script"] (spLaw K) := by
  obtain ⟨_, _, d_check_walk⟩ := D.CheckWalk
  obtain ⟨_, _, d_is_number⟩ := D.IsNumber
  obtain ⟨_, _, d_check_number⟩ := D.CheckNumber
  obtain ⟨_, _, d_is_closed⟩ := D.IsClosed
  obtain ⟨_, _, d_check_closed⟩ := D.CheckClosed
  obtain ⟨_, _, d_stepped⟩ := D.Stepped
  obtain ⟨_, _, d_places⟩ := D.Places
  obtain ⟨_, _, d_end⟩ := D.End
  obtain ⟨_, _, d_turned⟩ := D.Turned
  obtain ⟨_, _, d_taken_back⟩ := D.TakenBack
  obtain ⟨_, _, d_quartered⟩ := D.Quartered
  obtain ⟨_, _, d_mirrored⟩ := D.Mirrored
  obtain ⟨_, _, d_backwards⟩ := D.Backwards
  obtain ⟨_, _, d_begun⟩ := D.Begun
  obtain ⟨_, _, d__law_walk⟩ := D.LawWalk
  obtain ⟨_, _, d__law_places⟩ := D.LawPlaces
  obtain ⟨_, _, d__law_turned⟩ := D.LawTurned
  obtain ⟨_, _, d__law_closed⟩ := D.LawClosed
  exact ok_law F X Y B D
end
theorem df_mk {K : PySem.W.Frag} {mg : Str → Option Value} {h : Heap} {x : Str} {st : Stmt} {ps : List Str} {f : Addr} {oc : Value} {od an : Option Addr} {osl : Array (Option Value)} {kV doc pm cdv ct : Value} (X : K.In h) (G : h.Ns mainGlobals mg)
    (hb : ∀ (kV doc pm : Value) (an : Option Addr) (cdv ct : Value) (us : List Value), us.length = ps.length → bindArgs (PySem.W.fnOf x x (defArgs st) (defBody st) (defScope st) .none kV doc pm an cdv ct) ⟨us, []⟩ = pure (ps.zip us))
    (a : PySem.W.nsIn K mainGlobals x = some (some (.ref f))) (l : K.lookup f = some ⟨oc, od, .func (PySem.W.fnOf x x (defArgs st) (defBody st) (defScope st) .none kV doc pm an cdv ct), osl⟩) (c : PySem.W.codeIn K cdv x = true) (k : PySem.W.keepIn K (.ref f) = true) :
    ∃ f fd, Df K mg x st ps f fd := ⟨f, _, fun_mk l c k, (fun_mk l c k).binds hb, PySem.W.mg_of X G a⟩
theorem lw_mk {K : PySem.W.Frag} {mg : Str → Option Value} {h : Heap} {t : Tok} (X : K.In h) (G : h.Ns mainGlobals mg) (a : PySem.W.nsIn K mainGlobals "LEFTWARD" = some (some (.str "nwse" t))) : ∃ t, mg "LEFTWARD" = some (.str "nwse" t) := ⟨t, PySem.W.mg_of X G a⟩
theorem mirror_mk {w : World} {K : PySem.W.Frag} {mg : Str → Option Value} {h : Heap} {am n : Nat} {t1 t2 t3 t4 u1 u2 u3 u4 : Tok} (X : K.In h) (G : h.Ns mainGlobals mg) (a : PySem.W.nsIn K mainGlobals "MIRROR" = some (some (.ref am)))
    (l : K.lookup am = some ⟨.type "dict", none, .dict (mirEs w t1 t2 t3 t4 u1 u2 u3 u4) n, #[]⟩) : TxtM K mg w := ⟨⟨am, n, t1, t2, t3, t4, u1, u2, u3, u4, PySem.W.mg_of X G a, l⟩⟩
theorem law_mk {l : PySem.W.OpenLaw} {w : World} {K : PySem.W.Frag} {h : Heap} {mg : Str → Option Value} {fa : Addr} (X : K.In h) (G : h.Ns mainGlobals mg) (hfa : mg "law" = some (.ref fa)) (T : Txt K mg) (Y : TxtM K mg w) (B : Bltn mg) (D : Fns K mg)
    {f4 : Addr} {od4 an4 : Option Addr} {sl4 : Array (Option Value)} {oc4 kV4 dc4 pm4 cd4 ct4 : Value}
    (a4 : PySem.W.nsIn K mainGlobals "law" = some (some (.ref f4))) (l4 : K.lookup f4 = some ⟨oc4, od4, .func (PySem.W.fnOf "law" "law" (defArgs sLaw) (defBody sLaw) (defScope sLaw) .none kV4 dc4 pm4 an4 cd4 ct4), sl4⟩) (c4 : PySem.W.codeIn K cd4 "law" = true) (k4 : PySem.W.keepIn K (.ref f4) = true) :
    ∃ fd : FuncData, (∀ (s : Shared) (v : Value), BindsTo s fd ⟨[v], []⟩ [("_law_script", v)]) ∧ ∀ base : Heap, K.In base → base.Ns mainGlobals mg → FnOk l.prog w K mg base CX0 10 fa fd ["_law_script"] (spLaw K) := by
  have e := hfa.symm.trans (PySem.W.mg_of X G a4)
  cases e
  have F4 := fun_mk (st := sLaw) l4 c4 k4
  have b4 := F4.binds (ps := ["_law_script"]) fun _ _ _ _ _ _ us hl => match us, hl with | [_], _ => rfl
  exact ⟨PySem.W.fnOf "law" "law" (defArgs sLaw) (defBody sLaw) (defScope sLaw) .none kV4 dc4 pm4 an4 cd4 ct4, fun s v => .of_eq rfl, fun base _ _ => law_all ⟨F4, b4, PySem.W.mg_of X G a4⟩ T Y B D⟩
theorem walk {l : PySem.W.OpenLaw} {q : Program} {loose : List Str} {XP : (Str → Option Value) → Heap → Prop} {YP : World → Heap → Prop} {d : DefRec} {K : Params → PySem.W.Frag} (hn : l.most = some 63) (hdf : d.params.defaults = [])
    (hY : ∀ (w : World) (h : Heap), YP w h → (K w.params).In h)
    (F : ∀ (w : World) (mg : Str → Option Value) (fa : Addr) (h : Heap), (K w.params).In h → h.Ns mainGlobals mg → mg d.name = some (.ref fa) →
      ∃ fd : FuncData, (∀ (s : Shared) (u : Value), BindsTo s fd ⟨[u], []⟩ [("_law_script", u)]) ∧ ∀ base : Heap, (K w.params).In base → base.Ns mainGlobals mg → FnOk l.prog w (K w.params) mg base CX0 10 fa fd ["_law_script"] (spLaw (K w.params))) :
    PySem.W.WalkO q loose XP YP l.row.toRowW d [] (fun f vs => PySem.call f vs) :=
  L2.walk_of (n := 63) (k := 10) (x := "_law_script") (CX := fun _ => CX0) (sp := fun w => spLaw (K w.params)) hn (by decide) hdf ⟨rfl, by decide, by decide⟩ hY F (fun _ _ a ns hl _ hS => ⟨a, ns, rfl, hS, hl, fun _ => rfl⟩) fun _ _ _ _ _ z => z
end SW
open PySem PySem.W PyProof.Rows
set_option maxRecDepth 100000 in
set_option maxHeartbeats 0 in
theorem PySem.Challenge.cw_squarewalk_k01_whole_walks_holds : PySem.Challenge.rw_squarewalk_k01_whole_walks.Holds := by
  w_on; o_law; k_head; (case hw => w_witness2)
  k_fill
  refine SW.walk (l := PySem.Challenge.rw_squarewalk_k01_whole_walks) rfl rfl (fun w h Y => PySem.W.kIn_of Y) ?F
  case F =>
    intro w mg fa h KX G hmg
    refine' SW.law_mk KX G hmg ?T ?Y ?B ?D ?a4 ?l4 ?c4 ?k4
    (case a4 => k_is); (case l4 => k_is); (case c4 => k_is); (case k4 => k_is)
    case T =>
      refine ⟨PySem.W.mg_none_of KX G ?_, PySem.W.mg_none_of KX G ?_, PySem.W.mg_none_of KX G ?_, PySem.W.mg_none_of KX G ?_, ?_⟩
      · k_is
      · k_is
      · k_is
      · k_is
      · refine' SW.lw_mk KX G ?a
        (case a => k_is)
    case Y =>
      refine' SW.mirror_mk KX G ?a ?l
      (case a => k_is); (case l => k_is)
    case B =>
      refine ⟨PySem.W.mg_none_of KX G ?_, PySem.W.mg_none_of KX G ?_, PySem.W.mg_none_of KX G ?_, PySem.W.mg_none_of KX G ?_, PySem.W.mg_none_of KX G ?_, PySem.W.mg_none_of KX G ?_, PySem.W.mg_none_of KX G ?_, PySem.W.mg_none_of KX G ?_⟩
      all_goals k_is
    case D =>
      refine ⟨?_, ?_, ?_, ?_, ?_, ?_, ?_, ?_, ?_, ?_, ?_, ?_, ?_, ?_, ?_, ?_, ?_, ?_⟩
      all_goals
        refine' SW.df_mk KX G ?hb ?a ?l ?c ?k
        (case a => k_is); (case l => k_is); (case c => k_is); (case k => k_is)
        case hb => first | exact (fun _ _ _ _ _ _ us hl => match us, hl with | [_], _ => rfl) | exact (fun _ _ _ _ _ _ us hl => match us, hl with | [_, _], _ => rfl) | exact (fun _ _ _ _ _ _ us hl => match us, hl with | [_, _, _], _ => rfl)

