import PyProof.Rows.All
import Wide.All
import OpenK.AllK
import Wide.FinOn
import Lean
import PyProof.EqAt
import PyProof.EqKinds
import PyProof.TupleCall
import PyProof.Rows.SortRuns
import PyProof.Rows.SortShell
import KE.KSortTup
import PySem.Challenge.RW_squarewalk_k06_whole_loops
local macro_rules | `(tactic| omega) => `(tactic| first | lia | omega (config := {}))
set_option Elab.async false
set_option linter.all false
set_option maxRecDepth 100000
namespace L2
open PySem PySem.Spec PyProof.Rows
abbrev Key := Sum Int Str
def keyIs : Key → Value → Bool
 | .inl k, v => Value.isInt k v
 | .inr x, v => Value.isStrOf x v
def keyH (w : World) : Key → Int
 | .inl k => hashInt k
 | .inr x => hashStr w x
theorem keyIs_shape : ∀ {k : Key} {v : Value}, keyIs k v = true → (∃ i t, k = Sum.inl i ∧ v = Value.int i t) ∨ (∃ x t, k = Sum.inr x ∧ v = Value.str x t)
 | .inl i, v, h => by
  obtain ⟨t, e⟩ := Value.isInt_shape (k := i) (v := v) h
  exact .inl ⟨i, t, rfl, e⟩
 | .inr x, v, h => by
  obtain ⟨t, e⟩ := Value.isStrOf_shape (x := x) (v := v) h
  exact .inr ⟨x, t, rfl, e⟩
theorem keyIs_int (i : Int) (t : Tok) : keyIs (.inl i) (.int i t) = true := by simp [keyIs, Value.isInt]
theorem keyIs_str (x : Str) (t : Tok) : keyIs (.inr x) (.str x t) = true := by simp [keyIs, Value.isStrOf]
theorem key_ll (a b : Int) : decide ((Sum.inl a : Key) = Sum.inl b) = (a == b) := by
 by_cases e : a = b
 ·subst e; simp
 ·have h : ¬ (Sum.inl a : Key) = Sum.inl b := fun q => e (Sum.inl.inj q)
  rw [decide_eq_false h]
  exact (beq_eq_false_iff_ne.mpr e).symm
theorem key_rr (a b : Str) : decide ((Sum.inr a : Key) = Sum.inr b) = decide (a = b) := by
 by_cases e : a = b
 ·subst e; simp
 ·have h : ¬ (Sum.inr a : Key) = Sum.inr b := fun q => e (Sum.inr.inj q)
  rw [decide_eq_false h, decide_eq_false e]
theorem key_lr (a : Int) (b : Str) : decide ((Sum.inl a : Key) = Sum.inr b) = false := decide_eq_false (fun q => nomatch q)
theorem key_rl (a : Str) (b : Int) : decide ((Sum.inr a : Key) = Sum.inl b) = false := decide_eq_false (fun q => nomatch q)
def mixKind (prog : Program) (w : World) : PySem.KeyKind prog w Key where
 is := keyIs
 hash := keyH w
 inj := fun v a b ha hb => by
  rcases keyIs_shape ha with ⟨i, t, rfl, rfl⟩ | ⟨x, t, rfl, rfl⟩
  ·rcases keyIs_shape hb with ⟨j, u, rfl, e⟩ | ⟨y, u, rfl, e⟩
   ·injection e with e1 _; rw [e1]
   ·exact nomatch e
  ·rcases keyIs_shape hb with ⟨j, u, rfl, e⟩ | ⟨y, u, rfl, e⟩
   ·exact nomatch e
   ·injection e with e1 _; rw [e1]
 byValue := fun k v h => by
  rcases keyIs_shape h with ⟨i, t, rfl, rfl⟩ | ⟨x, t, rfl, rfl⟩ <;> rfl
 pyHash := fun hv h => by
  rcases keyIs_shape hv with ⟨i, t, rfl, rfl⟩ | ⟨x, t, rfl, rfl⟩
  ·exact wpAny_pyHash_int h
  ·exact wpAny_pyHash_str h
 eqBool := fun hu hv h => by
  rcases keyIs_shape hu with ⟨i, t, rfl, rfl⟩ | ⟨x, t, rfl, rfl⟩
  ·rcases keyIs_shape hv with ⟨j, u, rfl, rfl⟩ | ⟨y, u, rfl, rfl⟩
   ·rw [key_ll] at h; exact wpAny_eqBool_int h
   ·rw [key_lr] at h; exact SeqAt.EqAt.int_str i t y u _ _ _ _ h
  ·rcases keyIs_shape hv with ⟨j, u, rfl, rfl⟩ | ⟨y, u, rfl, rfl⟩
   ·rw [key_rl] at h; exact SeqAt.EqAt.str_int x t j u _ _ _ _ h
   ·rw [key_rr] at h; exact wpAny_eqBool_str h
 «strs» := fun k x t v h => by
  rcases keyIs_shape h with ⟨i, u, rfl, e⟩ | ⟨y, u, rfl, e⟩
  ·exact nomatch e
  ·injection e with e1 _
   subst e1
   cases v <;> rfl
theorem mixKind_int (prog : Program) (w : World) (i : Int) (t : Tok) : (mixKind prog w).is (.inl i) (.int i t) = true := keyIs_int i t
theorem mixKind_str (prog : Program) (w : World) (x : Str) (t : Tok) : (mixKind prog w).is (.inr x) (.str x t) = true := keyIs_str x t
end L2
namespace L2
open PySem PySem.Spec PyProof.Rows
inductive V where
 | non | bl (b : Bool) | int (i : Int) | str (x : Str) | byt (b : Array UInt8) | flt (b : UInt64) | ref (a : Addr) | ty (n : String)
 deriving DecidableEq
def RelV : V → Value → Prop
 | .non, u => u = Value.none
 | .bl b, u => u = Value.bool b
 | .int i, u => ∃ t, u = Value.int i t
 | .str x, u => ∃ t, u = Value.str x t
 | .byt b, u => ∃ t, u = Value.bytes b t
 | .flt b, u => ∃ t, u = Value.float b t
 | .ref a, u => u = Value.ref a
 | .ty n, u => u = Value.type n
abbrev Vals : List V → List Value → Prop := Paired RelV
theorem Vals.length {xs : List V} {us : List Value} (r : Vals xs us) : xs.length = us.length := Paired.length r
theorem Vals.get : ∀ {xs : List V} {us : List Value} {i : Nat} {x : V}, Vals xs us → xs[i]? = some x → ∃ u, us[i]? = some u ∧ RelV x u
 | _, _, _, _, .nil, e => by simp at e
 | _, _, 0, _, .cons r _, e => by simp at e; subst e; exact ⟨_, rfl, r⟩
 | _, _, i + 1, x, .cons _ t, e => by
  obtain ⟨u, h1, h2⟩ := Vals.get (i := i) (x := x) t (by simpa using e)
  exact ⟨u, by simpa using h1, h2⟩
theorem Vals.append : ∀ {xs ys : List V} {us ws : List Value}, Vals xs us → Vals ys ws → Vals (xs ++ ys) (us ++ ws) := by
 intro xs ys us ws h s
 induction h with
 | nil => exact s
 | cons r t ih => exact .cons r ih
theorem Vals.take : ∀ {xs : List V} {us : List Value} (n : Nat), Vals xs us → Vals (xs.take n) (us.take n)
 | _, _, 0, _ => .nil
 | _, _, _ + 1, .nil => .nil
 | _, _, n + 1, .cons r t => .cons r (Vals.take n t)
theorem Vals.drop : ∀ {xs : List V} {us : List Value} (n : Nat), Vals xs us → Vals (xs.drop n) (us.drop n)
 | _, _, 0, r => r
 | _, _, _ + 1, .nil => .nil
 | _, _, n + 1, .cons _ t => Vals.drop n t
def RelO : Option V → Option Value → Prop
 | some v, some u => RelV v u
 | none, none => True
 | _, _ => False
def KV {κ : Type} : List (κ × V) → List (κ × Value) → Prop := Paired fun (p : κ × V) (q : κ × Value) => p.1 = q.1 ∧ RelV p.2 q.2
def kV : Key → V
 | .inl i => .int i
 | .inr x => .str x
inductive HO where
  | lst (xs : List V)
  | tup (xs : List V)
  | dK (kvs : List (Key × V)) | dT (kvs : List (List Key × V))
  | set (S : Int → Bool) (n : Nat)
  | ins (C dx : Addr) (fs : List (Str × V))
  | own (x : Addr)
  | xd (fs : List (Str × V))
  | met (f x : Addr)
  | rng (lo hi : Int)
  | frz (o : Obj) (u : HO)
  | tbl (ps : Array Value)
  | ext (φ : Heap → Prop)
abbrev Hp := Addr → Option HO
def upd (H : Hp) (a : Addr) (o : HO) : Hp := fun b => if b = a then some o else H b
theorem upd_same {H : Hp} {a : Addr} {o : HO} : upd H a o a = some o := by unfold upd; rw [if_pos rfl]
theorem upd_ne {H : Hp} {a b : Addr} {o : HO} (h : b ≠ a) : upd H a o b = H b := by unfold upd; rw [if_neg h]
theorem ne_of {H : Hp} {a b : Addr} {o u : HO} (h : H a = some o) (h' : H b = some u) (d : o ≠ u) : a ≠ b := by
 intro e; subst e; rw [h] at h'; exact d (Option.some.inj h')
theorem ne_of_none {H : Hp} {a b : Addr} {o : HO} (h : H a = some o) (h' : H b = none) : a ≠ b := by
 intro e; subst e; rw [h] at h'; cases h'
section
variable (P : Program) (w : World)
def ObjOk (H : Hp) (h : Heap) (a : Addr) : HO → Prop
 | .lst xs => xs.length ≤ sizeLine ∧ ∃ (its : List Value) (n : Nat), Vals xs its ∧ h.get? a = some { cls := .type "list", data := .seq its.toArray n }
 | .tup xs => xs.length ≤ sizeLine ∧ ∃ its : List Value, Vals xs its ∧ IsTup h a its.toArray
 | .dK kvs => kvs.length ≤ sizeLine ∧ (a == sysModules) = false ∧ ∃ vs, KV kvs vs ∧ h.DictOf (mixKind P w) a vs
 | .dT kvs => kvs.length ≤ sizeLine ∧ (a == sysModules) = false ∧ ∃ xs : List (List Key × Addr × Value),
   Paired (fun (p : List Key × V) (q : List Key × Addr × Value) => p.1 = q.1 ∧ H q.2.1 = some (.tup (p.1.map kV)) ∧ RelV p.2 q.2.2) kvs xs ∧
   ∃ o es ep, h.get? a = some o ∧ o.ExactDict ∧ o.data = .dict es ep ∧ es.toList = xs.map (entryOfKey (tupleKind (mixKind P w))) ∧ (xs.map (·.1)).Nodup
 | .set S n => h.SetOf (intKind P w) a S n
 | .ins C dx fs => H dx = some (.own a) ∧ fs.length ≤ 1000 ∧ dx ≠ a ∧ h.get? a = some (PySem.W.instObj C dx) ∧
   ∃ mA, h.Ns1 dx mA ∧ (∀ f, RelO (fs.lookup f) (mA f)) ∧ PySem.Within mA (fs.map (·.1))
 | .own _ => ∃ o, h.get? a = some o
 | .xd fs => ∃ mA, h.Ns1 a mA ∧ ∀ f, RelO (fs.lookup f) (mA f)
 | .rng lo hi => ∃ t u v, h.get? a = some { cls := .type "range", data := .fields #[.int lo t, .int hi u, .int 1 v] }
 | .frz o u => h.get? a = some o ∧ ObjOk H h a u
 | .tbl ps => h.get? a = some { cls := .none, data := .fields ps }
 | .met f x => h.get? a = some (PySem.W.methodObj (.ref f) (.ref x))
 | .ext φ => φ h ∧ (∃ o, h.get? a = some o) ∧ ∀ h1 h2 : Heap, φ h1 → (∀ o, h1.get? a = some o → h2.get? a = some o) → φ h2
def HOk (H : Hp) (h : Heap) : Prop := ∀ a o, H a = some o → ObjOk P w H h a o
end
section
variable {P : Program} {w : World} {H H' : Hp} {h h' : Heap} {a : Addr} {o : HO}
theorem ObjOk.lt (x : ObjOk P w H h a o) : a < h.objs.size := by
 cases o with
 | lst xs => obtain ⟨_, _, _, _, e⟩ := x; exact Heap.lt_size e
 | tup xs => obtain ⟨_, _, _, p⟩ := x; exact p.lt
 | dK kvs => obtain ⟨_, _, _, _, o, _, _, e, _⟩ := x; exact Heap.lt_size e
 | dT kvs => obtain ⟨_, _, _, _, o, _, _, e, _⟩ := x; exact Heap.lt_size e
 | set S n => obtain ⟨o, _, _, _, e, _⟩ := x; exact Heap.lt_size e
 | ins C dx fs => obtain ⟨_, _, _, e, _⟩ := x; exact Heap.lt_size e
 | own y => obtain ⟨_, e⟩ := x; exact Heap.lt_size e
 | xd fs => obtain ⟨_, ⟨_, _, _, e, _⟩, _⟩ := x; exact Heap.lt_size e
 | rng lo hi => obtain ⟨_, _, _, e⟩ := x; exact Heap.lt_size e
 | frz ob u => obtain ⟨e, _⟩ := x; exact Heap.lt_size e
 | tbl ps => exact Heap.lt_size (show h.get? a = some _ from x)
 | met f y => exact Heap.lt_size (show h.get? a = some _ from x)
 | ext φ => obtain ⟨_, ⟨_, e⟩, _⟩ := x; exact Heap.lt_size e
theorem Paired.mapP {α β : Type} {F G : α → β → Prop} : ∀ {l₁ : List α} {l₂ : List β}, Paired F l₁ l₂ → (∀ a b, F a b → G a b) → Paired G l₁ l₂
 | _, _, .nil, _ => .nil
 | _, _, .cons r t, f => .cons (f _ _ r) (Paired.mapP t f)
theorem ObjOk.stay (x : ObjOk P w H h a o) (k : ∀ b u, (b = a ∨ H b = some (.own a)) → h.get? b = some u → h'.get? b = some u)
  (ho : ∀ b, H b = some (.own a) → H' b = some (.own a)) (ht : ∀ b xs, H b = some (.tup xs) → H' b = some (.tup xs)) : ObjOk P w H' h' a o := by
 induction o with
 | lst xs => obtain ⟨z, its, n, r, e⟩ := x; exact ⟨z, its, n, r, k _ _ (.inl rfl) e⟩
 | tup xs => obtain ⟨z, its, r, ob, e, c⟩ := x; exact ⟨z, its, r, ob, k _ _ (.inl rfl) e, c⟩
 | dK kvs => obtain ⟨z, y, vs, r, ob, es, ep, e, c⟩ := x; exact ⟨z, y, vs, r, ob, es, ep, k _ _ (.inl rfl) e, c⟩
 | dT kvs =>
  obtain ⟨z, y, xs, r, ob, es, ep, e, c⟩ := x
  exact ⟨z, y, xs, Paired.mapP r fun p q z => ⟨z.1, ht _ _ z.2.1, z.2.2⟩, ob, es, ep, k _ _ (.inl rfl) e, c⟩
 | set S n => obtain ⟨ob, es, ep, t, e, c⟩ := x; exact ⟨ob, es, ep, t, k _ _ (.inl rfl) e, c⟩
 | ins C dx fs =>
  obtain ⟨d, z, ne, e, mA, ⟨od, es, ep, e2, c⟩, r⟩ := x
  exact ⟨ho _ d, z, ne, k _ _ (.inl rfl) e, mA, ⟨od, es, ep, k _ _ (.inr d) e2, c⟩, r⟩
 | own y => obtain ⟨ob, e⟩ := x; exact ⟨ob, k _ _ (.inl rfl) e⟩
 | xd fs => obtain ⟨mA, ⟨od, es, ep, e, c⟩, r⟩ := x; exact ⟨mA, ⟨od, es, ep, k _ _ (.inl rfl) e, c⟩, r⟩
 | rng lo hi => obtain ⟨t, u, v, e⟩ := x; exact ⟨t, u, v, k _ _ (.inl rfl) e⟩
 | frz ob u ih => obtain ⟨e, q⟩ := x; exact ⟨k _ _ (.inl rfl) e, ih q⟩
 | tbl ps =>
  have e : h.get? a = some { cls := .none, data := .fields ps } := x
  show h'.get? a = some { cls := .none, data := .fields ps }
  exact k a _ (.inl rfl) e
 | met f y =>
  have e : h.get? a = some (PySem.W.methodObj (.ref f) (.ref y)) := x
  show h'.get? a = some (PySem.W.methodObj (.ref f) (.ref y))
  exact k a _ (.inl rfl) e
 | ext φ => obtain ⟨p, ⟨o, e⟩, st⟩ := x; exact ⟨st _ _ p fun o q => k _ _ (.inl rfl) q, ⟨o, k _ _ (.inl rfl) e⟩, st⟩
theorem HOk.lt (x : HOk P w H h) (e : H a = some o) : a < h.objs.size := (x a o e).lt
theorem HOk.fresh (x : HOk P w H h) (e : h.objs.size ≤ a) : H a = none := by
 cases q : H a with
 | none => rfl
 | some u => exact absurd (Nat.lt_of_lt_of_le (x.lt q) e) (Nat.lt_irrefl _)
theorem HOk.kept (x : HOk P w H h) (k : ∀ b u, h.get? b = some u → h'.get? b = some u) : HOk P w H h' := fun a o e =>
 (x a o e).stay (fun b u _ q => k b u q) (fun _ q => q) fun _ _ q => q
theorem HOk.laid (x : HOk P w H h) (k : ∀ b u, h.get? b = some u → h'.get? b = some u) (hp : h.objs.size ≤ a) (new : ObjOk P w (upd H a o) h' a o) : HOk P w (upd H a o) h' := fun b u e => by
 have hn := x.fresh hp
 by_cases hb : b = a
 ·subst hb; rw [upd_same] at e; cases e; exact new
 ·rw [upd_ne hb] at e
  exact (x b u e).stay (fun c v _ q => k c v q) (fun c q => by rw [upd_ne (ne_of_none q hn)]; exact q) fun c xs q => by rw [upd_ne (ne_of_none q hn)]; exact q
end
def Rd (H : Hp) (a : Addr) (u : HO) : Prop := H a = some u ∨ ∃ o, H a = some (.frz o u)
theorem Rd.ok {P : Program} {w : World} {H : Hp} {h : Heap} {a : Addr} {u : HO} (r : Rd H a u) (x : HOk P w H h) : ObjOk P w H h a u := by
 rcases r with r | ⟨o, r⟩
 ·exact x a u r
 ·obtain ⟨_, q⟩ := x a _ r
  exact q
def Mut : Option HO → Prop
 | some (.lst _) => True
 | some (.dK _) => True
 | some (.dT _) => True
 | some (.set _ _) => True
 | some (.ins _ _ _) => True
 | some (.ext _) => True
 | _ => False
section
variable {P : Program} {w : World} {H : Hp} {h h' : Heap} {x e : Addr} {o' : HO}
theorem HOk.write (ok : HOk P w H h) (mu : Mut (H x)) (he : e = x ∨ H e = some (.own x)) (k : ∀ b u, b ≠ e → h.get? b = some u → h'.get? b = some u) (heo : ∃ u, h'.get? e = some u)
  (new : ObjOk P w (upd H x o') h' x o') : HOk P w (upd H x o') h' := fun b u q => by
 have nown : ∀ c y, H c = some (.own y) → c ≠ x := fun c y r z => by subst z; rw [r] at mu; exact mu
 have ntup : ∀ c xs, H c = some (.tup xs) → c ≠ x := fun c xs r z => by subst z; rw [r] at mu; exact mu
 by_cases hb : b = x
 ·subst hb; rw [upd_same] at q; cases q; exact new
 ·rw [upd_ne hb] at q
  by_cases hbe : b = e
  ·have q' : H b = some (.own x) := by
    rcases he with z | z
    ·exact absurd (hbe.trans z) hb
    ·rw [hbe]; exact z
   rw [q] at q'; cases q'
   obtain ⟨v, hv⟩ := heo
   exact ⟨v, by rw [hbe]; exact hv⟩
  ·refine (ok b u q).stay (fun c v hc r => k c v ?_ r) (fun c r => by rw [upd_ne (nown c b r)]; exact r) fun c xs r => by rw [upd_ne (ntup c xs r)]; exact r
   rcases hc with rfl | hc
   ·exact hbe
   ·rintro rfl
    rcases he with z | z
    ·exact nown c b hc z
    ·rw [hc] at z; cases z; exact hb rfl
end
structure Un (fs ex : List Addr) (H H' : Hp) (h h' : Heap) : Prop where
 keep : ∀ b o, h.get? b = some o → H b = none → b ∉ fs → b ∉ ex → h'.get? b = some o
 slot : ∀ b o, h.get? b = some o → H b = none → b ∈ fs → b ∉ ex → ∃ sl, h'.get? b = some { o with slots := sl }
 free : ∀ b o, h.get? b = some o → H b = none → b ∉ ex → H' b = none
 there : ∀ b o, h.get? b = some o → b ∉ ex → ∃ o', h'.get? b = some o'
 tups : ∀ b xs, H b = some (.tup xs) → H' b = some (.tup xs)
 frzs : ∀ b o u, H b = some (.frz o u) → H' b = some (.frz o u)
 tbls : ∀ b ps, H b = some (.tbl ps) → ∃ more, H' b = some (.tbl (ps ++ more))
section
variable {fs fs' ex ex' : List Addr} {H H1 H2 : Hp} {h h1 h2 h' : Heap} {a x e : Addr} {o : HO}
theorem Un.any (u : Un fs ex H H1 h h1) {b : Addr} {ob : Obj} (q : h.get? b = some ob) (n : H b = none) (hx : b ∉ ex) : ∃ sl, h1.get? b = some { ob with slots := sl } := by
 by_cases hb : b ∈ fs
 ·exact u.slot b ob q n hb hx
 ·exact ⟨ob.slots, u.keep b ob q n hb hx⟩
theorem Un.kept (k : ∀ b u, h.get? b = some u → h'.get? b = some u) : Un fs ex H H h h' :=
 ⟨fun b ob q _ _ _ => k b ob q, fun b ob q _ _ _ => ⟨ob.slots, k b ob q⟩, fun _ _ _ n _ => n, fun b ob q _ => ⟨ob, k b ob q⟩, fun _ _ q => q, fun _ _ _ q => q, fun _ ps q => ⟨#[], by rw [q]; simp⟩⟩
theorem Un.refl : Un fs ex H H h h := Un.kept fun _ _ q => q
theorem Un.laid (k : ∀ b u, h.get? b = some u → h'.get? b = some u) (hp : h.objs.size ≤ a) (hn : H a = none) : Un fs ex H (upd H a o) h h' where
 keep := fun b u q _ _ _ => k b u q
 slot := fun b u q _ _ _ => ⟨u.slots, k b u q⟩
 free := fun b u q n _ => by rw [upd_ne (Nat.ne_of_lt (Nat.lt_of_lt_of_le (Heap.lt_size q) hp))]; exact n
 there := fun b u q _ => ⟨u, k b u q⟩
 tups := fun b xs q => by rw [upd_ne (ne_of_none q hn)]; exact q
 frzs := fun b u xs q => by rw [upd_ne (ne_of_none q hn)]; exact q
 tbls := fun b ps q => ⟨#[], by rw [upd_ne (ne_of_none q hn), q]; simp⟩
theorem Un.write (mu : Mut (H x)) (he : e = x ∨ H e = some (.own x)) (k : ∀ b u, b ≠ e → h.get? b = some u → h'.get? b = some u) (heo : ∃ u, h'.get? e = some u) : Un fs ex H (upd H x o) h h' := by
 have hx : ∀ b, H b = none → b ≠ x := fun b n z => by subst z; rw [n] at mu; exact mu
 have hb : ∀ b, H b = none → b ≠ e := fun b n z => by
  subst z
  rcases he with r | r
  ·exact hx b n r
  ·rw [n] at r; cases r
 have hm : ∀ b u, H b = some u → ¬ Mut (some u) → b ≠ x := fun b u q nm z => by subst z; rw [q] at mu; exact nm mu
 refine ⟨fun b u q n _ _ => k b u (hb b n) q, fun b u q n _ _ => ⟨u.slots, k b u (hb b n) q⟩, fun b u q n _ => by rw [upd_ne (hx b n)]; exact n, fun b u q _ => ?_,
  fun b xs q => by rw [upd_ne (hm b _ q fun z => z)]; exact q, fun b u xs q => by rw [upd_ne (hm b _ q fun z => z)]; exact q, fun b ps q => ⟨#[], by rw [upd_ne (hm b _ q fun z => z), q]; simp⟩⟩
 by_cases hbe : b = e
 ·subst hbe; exact heo
 ·exact ⟨u, k b u hbe q⟩
end
def trk (h : Heap) (H : Hp) : List Addr := (List.range h.objs.size).filter fun a => (H a).isSome
def hidT (h : Heap) (H : Hp) : Heap := PySem.W.hideAll h (trk h H)
theorem hidT_size (h : Heap) (H : Hp) : (hidT h H).objs.size = h.objs.size := PySem.W.hideAll_size _ _
theorem hidT_get {h : Heap} {H : Hp} {b : Addr} {o : Obj} (e : h.get? b = some o) (n : H b = none) : (hidT h H).get? b = some o :=
 PySem.W.hideAll_get _ e fun hm => by
  have q : (H b).isSome = true := (List.mem_filter.mp hm).2
  rw [n] at q; simp at q
theorem of_hidT {h : Heap} {H : Hp} {b : Addr} {o : Obj} (e : (hidT h H).get? b = some o) : h.get? b = some o ∧ H b = none := by
 have e' : h.get? b = some o := PySem.W.of_hideAll (trk h H) e
 refine ⟨e', ?_⟩
 cases q : H b with
 | none => rfl
 | some x =>
  have hm : b ∈ trk h H := List.mem_filter.mpr ⟨List.mem_range.mpr (Heap.lt_size e'), by simp [q]⟩
  have z : (hidT h H).get? b = none := PySem.W.hideAll_none (trk h H) hm
  rw [z] at e; cases e
end L2
namespace L2
open PySem PySem.Spec PyProof.Rows
structure Mod (K : PySem.W.Frag) (mg : Str → Option Value) (base : Heap) : Prop where
 kin : K.In base
 glob : base.Ns mainGlobals mg
 blt : ∃ mb, base.Ns builtinsNs mb ∧ ∀ x : Str, x ≠ "__name__" → mb x = bootBuiltins x
 nolimit : base.NoLimit
structure Cx where
 prog : Program
 w : World
 K : PySem.W.Frag
 mg : Str → Option Value
 base : Heap
 A : Around
 N : List Str
 s₀ : Shared
 H₀ : Hp
 env : Env
 outer : List Env
 stack : List Env
 ex : List Addr
 fn : Str → Bool
 calm : Bool
 pn : List (Addr × Obj)
 xe : Value → Shared → Prop
def frs (l : List Env) : List Addr := l.filterMap (·.frame)
abbrev Cx.fs (X : Cx) : List Addr := frs X.outer
def Vis (sc : Scope) (x : Str) : Prop := sc.names.lookup x = some .local ∨ sc.names.lookup x = some .cell ∨ sc.names.lookup x = some .free
def Loc (sc : Scope) (x : Str) : Prop := sc.names.lookup x = some .local ∨ sc.names.lookup x = some .cell
def Look (env : Env) (h : Heap) (m : Str → Option Value) (x : Str) (u : Value) : Prop :=
 (env.kindOf x = some .local ∧ m x = some u) ∨ ((env.kindOf x = some .cell ∨ env.kindOf x = some .free) ∧ ∃ c, env.cells.lookup x = some c ∧ h.IsCell c (some u))
structure Cx.Ok (X : Cx) : Prop where
 mod : Mod X.K X.mg X.base
 kind : X.env.scope.kind = .function
 glob : X.env.globals = mainGlobals
 blt : X.env.builtins = builtinsNs
 above : X.s₀.heap.objs.size ≤ X.env.locals
 inj : ∀ x y c, X.env.cells.lookup x = some c → X.env.cells.lookup y = some c → x = y
 has : ∀ x, (X.env.kindOf x = some .cell ∨ X.env.kindOf x = some .free) → ∃ c, X.env.cells.lookup x = some c
 cab : ∀ x c, X.fn x = true → X.env.cells.lookup x = some c → X.s₀.heap.objs.size ≤ c
 hd : X.calm = true → X.A.handled = none
 frames : X.A.frames = some X.stack
 stk : X.stack = X.outer ∨ (X.stack = X.env :: X.outer ∧ X.env.frame = some X.env.locals)
 exf : ∀ b ∈ X.ex, b ≠ X.env.locals ∧ ∀ x c, X.env.cells.lookup x = some c → c ≠ b
 bs : ∀ b o, X.base.get? b = some o → X.s₀.heap.get? b = some o ∧ X.H₀ b = none
 bsz : X.base.objs.size ≤ X.s₀.heap.objs.size
 noex : ∀ b o, X.base.get? b = some o → b ∉ X.ex
 exfs : ∀ b ∈ X.ex, b ∉ X.fs
 funs : X.s₀.heap.FunFrames X.base X.outer
 frf : ∀ b ∈ X.fs, X.H₀ b = none
structure Inv (X : Cx) (pins : List (Addr × Obj)) (σ : List (Option V)) (H : Hp) (s : Shared) : Prop where
 ok : X.Ok
 os : s.os = X.s₀.os
 bare : AllBare s.gens
 base : Un X.fs X.ex X.H₀ H X.s₀.heap s.heap
 loc : ∃ m, s.heap.Ns X.env.locals m ∧ ∀ (i : Nat) (x : Str) (v : V), X.N[i]? = some x → σ[i]? = some (some v) → Vis X.env.scope x → ∃ u, RelV v u ∧ Look X.env s.heap m x u
 cell : ∀ x c, X.env.cells.lookup x = some c → ∃ v, s.heap.IsCell c v
 free : H X.env.locals = none
 freeC : ∀ x c, X.env.cells.lookup x = some c → H c = none
 pin : ∀ p ∈ X.pn ++ pins, s.heap.get? p.1 = some p.2 ∧ H p.1 = none ∧ p.1 ≠ X.env.locals ∧ p.1 ∉ X.fs ∧ ∀ v, p.2.data ≠ .cell v
 hok : HOk X.prog X.w H s.heap
 len : σ.length = X.N.length
section
variable {X : Cx} {pins : List (Addr × Obj)} {σ : List (Option V)} {H H' : Hp} {s : Shared} {h' : Heap}
theorem Cx.Ok.nofr (ok : X.Ok) {b : Addr} {o : Obj} (e : X.base.get? b = some o) : b ∉ X.fs := fun hb => by
 have := (ok.funs.mem hb).1
 rw [e] at this; cases this
theorem Inv.bs (I : Inv X pins σ H s) : ∀ b o, X.base.get? b = some o → s.heap.get? b = some o ∧ H b = none := fun b o e =>
 ⟨I.base.keep b o (I.ok.bs b o e).1 (I.ok.bs b o e).2 (I.ok.nofr e) (I.ok.noex b o e), I.base.free b o (I.ok.bs b o e).1 (I.ok.bs b o e).2 (I.ok.noex b o e)⟩
theorem Inv.bk (I : Inv X pins σ H s) : ∀ b o, X.base.get? b = some o → s.heap.get? b = some o := fun b o e => (I.bs b o e).1
theorem Inv.mod (I : Inv X pins σ H s) : Mod X.K X.mg X.base := I.ok.mod
theorem Inv.kIn (I : Inv X pins σ H s) : X.K.In s.heap := I.ok.mod.kin.keeps I.bk
theorem Inv.lt (I : Inv X pins σ H s) : X.env.locals < s.heap.objs.size := let ⟨_, hn, _⟩ := I.loc; hn.lt
theorem Inv.sz (I : Inv X pins σ H s) : X.s₀.heap.objs.size ≤ s.heap.objs.size := Nat.le_trans I.ok.above (Nat.le_of_lt I.lt)
theorem Inv.nofs (I : Inv X pins σ H s) {a : Addr} (h : s.heap.objs.size ≤ a) : a ∉ X.fs := fun hb => by
 obtain ⟨_, o, ho, _⟩ := I.ok.funs.mem hb
 exact absurd (Nat.lt_of_lt_of_le (Heap.lt_size ho) (Nat.le_trans I.sz h)) (Nat.lt_irrefl _)
theorem Inv.cne (I : Inv X pins σ H s) : ∀ x c, X.env.cells.lookup x = some c → c ≠ X.env.locals := fun x c e z => by
 obtain ⟨v, o, ho, hd⟩ := I.cell x c e
 obtain ⟨m, ⟨o', es, ep, ho', hd', _⟩, _⟩ := I.loc
 rw [z, ho'] at ho; cases ho; rw [hd'] at hd; cases hd
theorem Inv.funs (I : Inv X pins σ H s) : s.heap.FunFrames X.base X.outer := by
 have all : ∀ (l : List Env), (∀ b ∈ frs l, b ∈ X.fs) → X.s₀.heap.FunFrames X.base l → s.heap.FunFrames X.base l := by
  intro l
  induction l with
  | nil => intro _ _; trivial
  | cons env r ih =>
   intro hs hl
   obtain ⟨hk, ⟨L, o, hf, hn, ho, hd⟩, hr⟩ := hl
   have hL : L ∈ X.fs := hs L (by unfold frs; rw [List.filterMap_cons, hf]; exact List.mem_cons_self)
   obtain ⟨sl, e⟩ := I.base.slot L o ho (I.ok.frf L hL) hL fun z => I.ok.exfs L z hL
   exact ⟨hk, ⟨L, _, hf, hn, e, hd⟩, ih (fun b hb => hs b (by unfold frs; rw [List.filterMap_cons, hf]; exact List.mem_cons_of_mem _ hb)) hr⟩
 exact all X.outer (fun _ hb => hb) I.ok.funs
theorem Inv.stack (I : Inv X pins σ H s) : s.heap.FunFrames X.base X.stack := by
 rcases I.ok.stk with e | ⟨e, hf⟩
 ·rw [e]; exact I.funs
 ·rw [e]
  obtain ⟨m, hn, _⟩ := I.loc
  refine .cons (by rw [I.ok.kind]; decide) hf hn ?_ I.funs
  exact Heap.get?_none_of_le (Nat.le_trans I.ok.bsz I.ok.above)
theorem Inv.stkSub (I : Inv X pins σ H s) : ∀ b ∈ frs X.stack, b ∈ X.env.locals :: X.fs := fun b hb => by
 rcases I.ok.stk with e | ⟨e, hf⟩
 ·rw [e] at hb; exact List.mem_cons_of_mem _ hb
 ·rw [e] at hb
  unfold frs at hb
  rw [List.filterMap_cons, hf] at hb
  exact hb
theorem Inv.stkFree (I : Inv X pins σ H s) : ∀ b ∈ frs X.stack, H b = none := fun b hb => by
 rcases List.mem_cons.mp (I.stkSub b hb) with e | hb
 ·rw [e]; exact I.free
 ·obtain ⟨_, o, ho, _⟩ := I.ok.funs.mem hb
  exact I.base.free b o ho (I.ok.frf b hb) fun z => I.ok.exfs b z hb
theorem Inv.step {g' : Array GenState} {t' : Nat} {d' : Drawn} {ch : List Addr} (I : Inv X pins σ H s)
  (hch : ∀ b ∈ ch, (b ∈ X.ex ∨ X.s₀.heap.objs.size ≤ b) ∧ b ≠ X.env.locals ∧ (∀ x c, X.env.cells.lookup x = some c → c ≠ b) ∧ ∀ p ∈ X.pn ++ pins, p.1 ≠ b)
  (keep : ∀ b o, b ≠ X.env.locals → b ∉ X.fs → b ∉ ch → s.heap.get? b = some o → H b = none → h'.get? b = some o)
  (slot : ∀ b o, b ≠ X.env.locals → b ∈ X.fs → b ∉ ch → s.heap.get? b = some o → H b = none → ∃ sl, h'.get? b = some { o with slots := sl }) (free : ∀ b o, b ∉ ch → s.heap.get? b = some o → H b = none → H' b = none)
  (there : ∀ b o, b ∉ ch → s.heap.get? b = some o → ∃ o', h'.get? b = some o')
  (tups : ∀ b xs, H b = some (.tup xs) → H' b = some (.tup xs)) (frzs : ∀ b o u, H b = some (.frz o u) → H' b = some (.frz o u)) (tbls : ∀ b ps, H b = some (.tbl ps) → ∃ more, H' b = some (.tbl (ps ++ more)))
  (ns : ∀ m, s.heap.Ns X.env.locals m → h'.Ns X.env.locals m) (hok : HOk X.prog X.w H' h') (hg : AllBare g') :
  Inv X pins σ H' { s with heap := h', gens := g', drawn := d', toks := t' } := by
 have neL : ∀ b o, X.s₀.heap.get? b = some o → b ≠ X.env.locals := fun b o e => Nat.ne_of_lt (Nat.lt_of_lt_of_le (Heap.lt_size e) I.ok.above)
 have neC : ∀ b o, X.s₀.heap.get? b = some o → b ∉ X.ex → b ∉ ch := fun b o e hx hb => by
  rcases (hch b hb).1 with z | z
  ·exact hx z
  ·exact absurd (Nat.lt_of_lt_of_le (Heap.lt_size e) z) (Nat.lt_irrefl _)
 have cellK : ∀ x c, X.env.cells.lookup x = some c → ∀ v, s.heap.IsCell c v → h'.IsCell c v := fun x c e v ⟨o, ho, hd⟩ => by
  have nch : c ∉ ch := fun z => (hch c z).2.2.1 x c e rfl
  by_cases hc : c ∈ X.fs
  ·obtain ⟨sl, q⟩ := slot c o (I.cne x c e) hc nch ho (I.freeC x c e)
   exact ⟨_, q, hd⟩
  ·exact ⟨o, keep c o (I.cne x c e) hc nch ho (I.freeC x c e), hd⟩
 refine ⟨I.ok, I.os, hg, ⟨fun b o e n hb hx => ?_, fun b o e n hb hx => ?_, fun b o e n hx => ?_, fun b o e hx => ?_, fun b xs e => tups b xs (I.base.tups b xs e), fun b o xs e => frzs b o xs (I.base.frzs b o xs e), fun b ps e => ?_⟩, ?_, fun x c e => ?_, ?_, fun x c e => ?_, fun p hp => ?_, hok, I.len⟩
 ·exact keep b o (neL b o e) hb (neC b o e hx) (I.base.keep b o e n hb hx) (I.base.free b o e n hx)
 ·obtain ⟨sl, e1⟩ := I.base.slot b o e n hb hx
  obtain ⟨sl', e2⟩ := slot b _ (neL b o e) hb (neC b o e hx) e1 (I.base.free b o e n hx)
  exact ⟨sl', e2⟩
 ·obtain ⟨o', e1⟩ := I.base.there b o e hx
  exact free b o' (neC b o e hx) e1 (I.base.free b o e n hx)
 ·obtain ⟨o', e1⟩ := I.base.there b o e hx
  exact there b o' (neC b o e hx) e1
 ·obtain ⟨m1, e1⟩ := I.base.tbls b ps e
  obtain ⟨m2, e2⟩ := tbls b _ e1
  exact ⟨m1 ++ m2, by rw [e2, Array.append_assoc]⟩
 ·obtain ⟨m, hn, hl⟩ := I.loc
  refine ⟨m, ns m hn, fun i x v e1 e2 e3 => ?_⟩
  obtain ⟨u, r, l⟩ := hl i x v e1 e2 e3
  refine ⟨u, r, ?_⟩
  rcases l with l | ⟨k, c, e, z⟩
  ·exact .inl l
  ·exact .inr ⟨k, c, e, cellK x c e _ z⟩
 ·obtain ⟨v, z⟩ := I.cell x c e
  exact ⟨v, cellK x c e v z⟩
 ·obtain ⟨m, ⟨o, _, _, ho, _⟩, _⟩ := I.loc
  exact free _ o (fun z => (hch _ z).2.1 rfl) ho I.free
 ·obtain ⟨v, o, ho, hd⟩ := I.cell x c e
  exact free c o (fun z => (hch c z).2.2.1 x c e rfl) ho (I.freeC x c e)
 ·obtain ⟨e, n, ne, nf, d⟩ := I.pin p hp
  have nch : p.1 ∉ ch := fun z => (hch p.1 z).2.2.2 p hp rfl
  exact ⟨keep p.1 p.2 ne nf nch e n, free p.1 p.2 nch e n, ne, nf, d⟩
theorem Inv.un {t' : Nat} (I : Inv X pins σ H s) (u : Un X.fs [] H H' s.heap h') (hok : HOk X.prog X.w H' h') : Inv X pins σ H' { s with heap := h', toks := t' } := by
 obtain ⟨m, ⟨o, es, ep, ho, r⟩, _⟩ := id I.loc
 obtain ⟨sl, hL⟩ := u.any ho I.free (by simp)
 exact I.step (g' := s.gens) (d' := s.drawn) (ch := []) (fun _ z => nomatch z) (fun b o _ hb _ e n => u.keep b o e n hb (by simp)) (fun b o _ hb _ e n => u.slot b o e n hb (by simp)) (fun b o _ e n => u.free b o e n (by simp)) (fun b o _ e => u.there b o e (by simp)) u.tups u.frzs u.tbls (fun m' hm => by
  obtain ⟨o', es', ep', ho', r'⟩ := hm
  rw [ho] at ho'; cases ho'
  exact ⟨_, es', ep', hL, r'⟩) hok I.bare
theorem Inv.call {g' : Array GenState} {t' : Nat} {d' : Drawn} {ch : List Addr} (I : Inv X pins σ H s) (u : Un (frs X.stack) ch H H' s.heap h') (hok : HOk X.prog X.w H' h') (hg : AllBare g')
  (hch : ∀ b ∈ ch, (b ∈ X.ex ∨ X.s₀.heap.objs.size ≤ b) ∧ b ≠ X.env.locals ∧ (∀ x c, X.env.cells.lookup x = some c → c ≠ b) ∧ ∀ p ∈ X.pn ++ pins, p.1 ≠ b) :
  Inv X pins σ H' { s with heap := h', gens := g', drawn := d', toks := t' } := by
 obtain ⟨m, ⟨o, es, ep, ho, r⟩, _⟩ := id I.loc
 obtain ⟨sl, hL⟩ := u.any ho I.free fun z => (hch _ z).2.1 rfl
 exact I.step (ch := ch) hch (fun b o hL hb hc e n => u.keep b o e n (fun z => (List.mem_cons.mp (I.stkSub b z)).elim hL hb) hc) (fun b o _ _ hc e n => u.any e n hc) (fun b o hc e n => u.free b o e n hc) (fun b o hc e => u.there b o e hc) u.tups u.frzs u.tbls (fun m' hm => by
  obtain ⟨o', es', ep', ho', r'⟩ := hm
  rw [ho] at ho'; cases ho'
  exact ⟨_, es', ep', hL, r'⟩) hok hg
theorem Inv.turned {t' : Nat} {it : Addr} (I : Inv X pins σ H s) (k : ∀ b o, b ≠ it → s.heap.get? b = some o → h'.get? b = some o) (hn : H it = none) (hL : it ≠ X.env.locals)
  (h1 : it ∈ X.ex ∨ X.s₀.heap.objs.size ≤ it) (h2 : ∀ x c, X.env.cells.lookup x = some c → c ≠ it) (h3 : ∀ p ∈ X.pn ++ pins, p.1 ≠ it) : Inv X pins σ H { s with heap := h', toks := t' } := by
 have nit : ∀ b u, H b = some u → b ≠ it := fun b u e z => by rw [z, hn] at e; cases e
 refine I.step (g' := s.gens) (d' := s.drawn) (ch := [it]) (fun b hb => ?_) (fun b o _ _ hc e _ => k b o (fun z => hc (by simp [z])) e) (fun b o _ _ hc e _ => ⟨o.slots, k b o (fun z => hc (by simp [z])) e⟩) (fun _ _ _ _ n => n)
  (fun b o hc e => ⟨o, k b o (fun z => hc (by simp [z])) e⟩) (fun _ _ e => e) (fun _ _ _ e => e) (fun b ps e => ⟨#[], by rw [e]; simp⟩) (fun m hm => ?_) (fun b u e => ?_) I.bare
 ·have e : b = it := by simpa using hb
  subst e
  exact ⟨h1, hL, h2, h3⟩
 ·obtain ⟨o, es, ep, ho, r⟩ := hm
  exact ⟨o, es, ep, k _ o (Ne.symm hL) ho, r⟩
 ·refine (I.hok b u e).stay (fun c v hc q => k c v ?_ q) (fun _ q => q) fun _ _ q => q
  rcases hc with z | z
  ·rw [z]; exact nit b u e
  ·exact nit c _ z
theorem Inv.tok (I : Inv X pins σ H s) (t : Nat) : Inv X pins σ H { s with toks := t } := I.un (h' := s.heap) (t' := t) Un.refl I.hok
theorem Inv.kept {t' : Nat} (I : Inv X pins σ H s) (k : ∀ b u, s.heap.get? b = some u → h'.get? b = some u) : Inv X pins σ H { s with heap := h', toks := t' } := I.un (Un.kept k) (I.hok.kept k)
theorem Inv.laid {a : Addr} {o : HO} {t' : Nat} (I : Inv X pins σ H s) (k : ∀ b u, s.heap.get? b = some u → h'.get? b = some u) (hp : s.heap.objs.size ≤ a) (new : ObjOk X.prog X.w (upd H a o) h' a o) :
  Inv X pins σ (upd H a o) { s with heap := h', toks := t' } := I.un (Un.laid k hp (I.hok.fresh hp)) (I.hok.laid k hp new)
theorem Inv.write {x e : Addr} {o : HO} {t' : Nat} (I : Inv X pins σ H s) (mu : Mut (H x)) (he : e = x ∨ H e = some (.own x)) (k : ∀ b u, b ≠ e → s.heap.get? b = some u → h'.get? b = some u) (heo : ∃ u, h'.get? e = some u)
  (new : ObjOk X.prog X.w (upd H x o) h' x o) : Inv X pins σ (upd H x o) { s with heap := h', toks := t' } := I.un (Un.write mu he k heo) (I.hok.write mu he k heo new)
theorem Inv.weak {σ' : List (Option V)} (I : Inv X pins σ H s) (hl : σ'.length = σ.length) (w : ∀ (i : Nat) v, σ'[i]? = some (some v) → σ[i]? = some (some v)) : Inv X pins σ' H s :=
 ⟨I.ok, I.os, I.bare, I.base, let ⟨m, hn, hl'⟩ := I.loc; ⟨m, hn, fun i x v e1 e2 e3 => hl' i x v e1 (w i v e2) e3⟩, I.cell, I.free, I.freeC, I.pin, I.hok, hl.trans I.len⟩
theorem Inv.pins_of {pins' : List (Addr × Obj)} (I : Inv X pins σ H s) (h : ∀ p ∈ pins', s.heap.get? p.1 = some p.2 ∧ H p.1 = none ∧ p.1 ≠ X.env.locals ∧ p.1 ∉ X.fs ∧ ∀ v, p.2.data ≠ .cell v) : Inv X pins' σ H s :=
 ⟨I.ok, I.os, I.bare, I.base, I.loc, I.cell, I.free, I.freeC, fun p hp => (List.mem_append.mp hp).elim (fun z => I.pin p (List.mem_append_left _ z)) (h p), I.hok, I.len⟩
theorem nodup_ix {N : List Str} (hN : N.Nodup) {i j : Nat} {x : Str} (a : N[i]? = some x) (b : N[j]? = some x) : i = j := by
 obtain ⟨h1, e1⟩ := List.getElem?_eq_some_iff.mp a
 obtain ⟨h2, e2⟩ := List.getElem?_eq_some_iff.mp b
 exact (List.getElem_inj hN).mp (e1.trans e2.symm)
theorem store_ok2 {M : Model} {A : Around} {E : Value → Shared → Prop} {i : Nat} {x : Str} {v : V} {u : Value} {Q : Unit → Shared → Prop} (I : Inv X pins σ H s) (hN : X.N.Nodup) (hi : X.N[i]? = some x) (hx : Loc X.env.scope x) (r : RelV v u)
  (h : ∀ s', Inv X pins (σ.set i (some v)) H s' → (∃ a, Heap.SameBut a s.heap s'.heap ∧ (a = X.env.locals ∨ X.env.cells.lookup x = some a)) → Q () s') (hf : X.fn x = true ∨ X.env.scope.names.lookup x = some .local := by first | exact .inl rfl | exact .inr rfl | assumption) : wpAny M A (storeName X.env x u) Q E s := by
 obtain ⟨m, hn, hl⟩ := id I.loc
 have hcls : (X.env.scope.kind == .class || (X.env.scope.kind == .module && X.env.locals != X.env.globals)) = false := by rw [I.ok.kind]; rfl
 have hiσ : i < σ.length := by rw [I.len]; exact (List.getElem?_eq_some_iff.mp hi).1
 have cne := I.cne
 have tracked : ∀ {a : Addr} {h' : Heap}, (∃ o, s.heap.get? a = some o ∧ H a = none) → Heap.SameBut a s.heap h' → HOk X.prog X.w H h' := fun {a h'} ha hs b ob e => by
  obtain ⟨_, _, hfree⟩ := ha
  refine (I.hok b ob e).stay (fun c w' hc q => (hs.2 c ?_).trans q) (fun _ q => q) fun _ _ q => q
  rintro rfl
  rcases hc with rfl | hc
  ·rw [hfree] at e; cases e
  ·rw [hfree] at hc; cases hc
 rcases hx with hk | hk
 ·refine wpAny_storeName_local hk hn (fun h' hn' hs => ?_) hcls
  obtain ⟨oL, _, _, hoL, _⟩ := id hn
  refine h _ ⟨I.ok, I.os, I.bare, ⟨fun b o e n hb hx => ?_, fun b o e n hb hx => ?_, I.base.free, fun b o e hx => ?_, I.base.tups, I.base.frzs, I.base.tbls⟩, ⟨_, hn', fun j y v' e1 e2 e3 => ?_⟩, fun y c e => ?_, I.free, I.freeC, fun p hp => ?_, tracked ⟨oL, hoL, I.free⟩ hs, by simpa using I.len⟩ ⟨_, hs, .inl rfl⟩
  ·exact (hs.2 b (Nat.ne_of_lt (Nat.lt_of_lt_of_le (Heap.lt_size e) I.ok.above))).trans (I.base.keep b o e n hb hx)
  ·obtain ⟨sl, e1⟩ := I.base.slot b o e n hb hx
   exact ⟨sl, (hs.2 b (Nat.ne_of_lt (Nat.lt_of_lt_of_le (Heap.lt_size e) I.ok.above))).trans e1⟩
  ·obtain ⟨o', e1⟩ := I.base.there b o e hx
   exact ⟨o', (hs.2 b (Nat.ne_of_lt (Nat.lt_of_lt_of_le (Heap.lt_size e) I.ok.above))).trans e1⟩
  ·by_cases hj : j = i
   ·subst hj
    rw [hi] at e1; cases e1
    rw [List.getElem?_set_self hiσ] at e2
    cases e2
    exact ⟨u, r, .inl ⟨hk, by simp⟩⟩
   ·rw [List.getElem?_set_ne (Ne.symm hj)] at e2
    obtain ⟨u', r', q⟩ := hl j y v' e1 e2 e3
    refine ⟨u', r', ?_⟩
    rcases q with ⟨k, e⟩ | ⟨k, c, e, z⟩
    ·refine .inl ⟨k, ?_⟩
     have : y ≠ x := fun e => hj (nodup_ix hN e1 (e ▸ hi))
     simp [this, e]
    ·exact .inr ⟨k, c, e, z.sameBut hs (cne y c e)⟩
  ·obtain ⟨w', z⟩ := I.cell y c e
   exact ⟨w', z.sameBut hs (cne y c e)⟩
  ·obtain ⟨e, n, ne, nf, d⟩ := I.pin p hp
   exact ⟨(hs.2 p.1 ne).trans e, n, ne, nf, d⟩
 ·have hfn : X.fn x = true := by
   rcases hf with z | z
   ·exact z
   ·rw [z] at hk; cases hk
  obtain ⟨c, hc⟩ := I.ok.has x (.inl hk)
  obtain ⟨w', z⟩ := I.cell x c hc
  refine wpAny_storeName_cell I.ok.kind hk hc z (fun h' hc' hs => ?_)
  obtain ⟨oc, hoc, hocd⟩ := id z
  refine h { s with heap := h' } ⟨I.ok, I.os, I.bare, ⟨fun b o e n hb hx => ?_, fun b o e n hb hx => ?_, I.base.free, fun b o e hx => ?_, I.base.tups, I.base.frzs, I.base.tbls⟩, ⟨m, hn.sameBut hs (Ne.symm (cne x c hc)), fun j y v' e1 e2 e3 => ?_⟩, fun y c' e => ?_, I.free, I.freeC, fun p hp => ?_, tracked ⟨oc, hoc, I.freeC x c hc⟩ hs, by simpa using I.len⟩ ⟨c, hs, .inr hc⟩
  ·exact (hs.2 b (Nat.ne_of_lt (Nat.lt_of_lt_of_le (Heap.lt_size e) (I.ok.cab x c hfn hc)))).trans (I.base.keep b o e n hb hx)
  ·obtain ⟨sl, e1⟩ := I.base.slot b o e n hb hx
   exact ⟨sl, (hs.2 b (Nat.ne_of_lt (Nat.lt_of_lt_of_le (Heap.lt_size e) (I.ok.cab x c hfn hc)))).trans e1⟩
  ·obtain ⟨o', e1⟩ := I.base.there b o e hx
   exact ⟨o', (hs.2 b (Nat.ne_of_lt (Nat.lt_of_lt_of_le (Heap.lt_size e) (I.ok.cab x c hfn hc)))).trans e1⟩
  ·by_cases hj : j = i
   ·subst hj
    rw [hi] at e1; cases e1
    rw [List.getElem?_set_self hiσ] at e2
    cases e2
    exact ⟨u, r, .inr ⟨.inl hk, c, hc, hc'⟩⟩
   ·rw [List.getElem?_set_ne (Ne.symm hj)] at e2
    obtain ⟨u', r', q⟩ := hl j y v' e1 e2 e3
    refine ⟨u', r', ?_⟩
    rcases q with q | ⟨k, c', e, z'⟩
    ·exact .inl q
    ·refine .inr ⟨k, c', e, z'.sameBut hs ?_⟩
     rintro rfl
     exact hj (nodup_ix hN e1 (I.ok.inj _ _ _ e hc ▸ hi))
  ·by_cases hcc : c' = c
   ·subst hcc; exact ⟨_, hc'⟩
   ·obtain ⟨w2, z2⟩ := I.cell y c' e
    exact ⟨w2, z2.sameBut hs hcc⟩
  ·obtain ⟨e, n, ne, nf, d⟩ := I.pin p hp
   refine ⟨(hs.2 p.1 ?_).trans e, n, ne, nf, d⟩
   intro q
   rw [q, hoc] at e
   have q' : oc = p.2 := Option.some.inj e
   exact d w' (by rw [← q']; exact hocd)
theorem store_ok {M : Model} {A : Around} {E : Value → Shared → Prop} {i : Nat} {x : Str} {v : V} {u : Value} {Q : Unit → Shared → Prop} (I : Inv X pins σ H s) (hN : X.N.Nodup) (hi : X.N[i]? = some x) (hx : Loc X.env.scope x) (r : RelV v u)
  (h : ∀ s', Inv X pins (σ.set i (some v)) H s' → Q () s') (hf : X.fn x = true ∨ X.env.scope.names.lookup x = some .local := by first | exact .inl rfl | exact .inr rfl | assumption) : wpAny M A (storeName X.env x u) Q E s :=
 store_ok2 I hN hi hx r (fun s' I' _ => h s' I') hf
theorem Inv.call' {s' : Shared} {ch : List Addr} (I : Inv X pins σ H s) (ho : s'.os = s.os) (u : Un (frs X.stack) ch H H' s.heap s'.heap) (hok : HOk X.prog X.w H' s'.heap) (hg : AllBare s'.gens)
  (hch : ∀ b ∈ ch, (b ∈ X.ex ∨ X.s₀.heap.objs.size ≤ b) ∧ b ≠ X.env.locals ∧ (∀ x c, X.env.cells.lookup x = some c → c ≠ b) ∧ ∀ p ∈ X.pn ++ pins, p.1 ≠ b) : Inv X pins σ H' s' := by
 obtain ⟨h', g', d', t', o'⟩ := s'
 have e : o' = s.os := ho
 subst e
 exact I.call (g' := g') (t' := t') (d' := d') u hok hg hch
end
abbrev XK := Value → Option Addr → Hp → Prop
abbrev St := List (Option V)
abbrev VK := V → Hp → Prop
abbrev TE := St → Hp → VK → Prop
abbrev TT := St → Hp → (Bool → Hp → Prop) → Prop
abbrev TA := St → Hp → (List V → Hp → Prop) → Prop
structure Ends where
 nx : St → Hp → Prop
 rt : VK
 bk : St → Hp → Prop := fun _ _ => False
 ct : St → Hp → Prop := fun _ _ => False
abbrev TS := Ends → St → Hp → Prop
def EP (X : Cx) (pins : List (Addr × Obj)) (σ : St) (Q : VK) (u : Value) (s' : Shared) : Prop := ∃ v H', Inv X pins σ H' s' ∧ RelV v u ∧ Q v H'
def TP (X : Cx) (pins : List (Addr × Obj)) (σ : St) (Q : Bool → Hp → Prop) (b : Bool) (s' : Shared) : Prop := ∃ H', Inv X pins σ H' s' ∧ Q b H'
def AP (X : Cx) (pins : List (Addr × Obj)) (σ : St) (Q : List V → Hp → Prop) (us : List Value) (s' : Shared) : Prop := ∃ vs H', Inv X pins σ H' s' ∧ Vals vs us ∧ Q vs H'
def SP (X : Cx) (pins : List (Addr × Obj)) (D : Ends) (f : Flow) (s' : Shared) : Prop :=
 match f with
 | .next => ∃ σ' H', Inv X pins σ' H' s' ∧ D.nx σ' H'
 | .brk => ∃ σ' H', Inv X pins σ' H' s' ∧ D.bk σ' H'
 | .cont => ∃ σ' H', Inv X pins σ' H' s' ∧ D.ct σ' H'
 | .ret u => ∃ v σ' H', Inv X pins σ' H' s' ∧ RelV v u ∧ D.rt v H'
def PE (X : Cx) (e : Expr) (t : TE) : Prop :=
 ∀ (pins : List (Addr × Obj)) (s : Shared) (σ : St) (H : Hp) (Q : VK), Inv X pins σ H s → t σ H Q → wpAny (model X.prog X.w) X.A (eval e X.env) (EP X pins σ Q) X.xe s
def PT (X : Cx) (e : Expr) (t : TT) : Prop :=
 ∀ (pins : List (Addr × Obj)) (s : Shared) (σ : St) (H : Hp) (Q : Bool → Hp → Prop), Inv X pins σ H s → t σ H Q → wpAny (model X.prog X.w) X.A (isTrue e X.env (eval e X.env)) (TP X pins σ Q) X.xe s
def PW (X : Cx) (e : Expr) (t : TT) : Prop :=
 ∀ (whole : Sem Value) (pins : List (Addr × Obj)) (s : Shared) (σ : St) (H : Hp) (Q : Bool → Hp → Prop), Inv X pins σ H s → t σ H Q → wpAny (model X.prog X.w) X.A (isTrue e X.env whole) (TP X pins σ Q) X.xe s
theorem PW.pt {X : Cx} {e : Expr} {t : TT} (h : PW X e t) : PT X e t := h _
def PA (X : Cx) (es : List Expr) (t : TA) : Prop :=
 ∀ (pos : Pos) (pins : List (Addr × Obj)) (s : Shared) (σ : St) (H : Hp) (Q : List V → Hp → Prop), Inv X pins σ H s → t σ H Q → wpAny (model X.prog X.w) X.A (spliced (backTo pos (starEach es X.env))) (AP X pins σ Q) X.xe s
def PS (X : Cx) (st : Stmt) (t : TS) : Prop :=
 ∀ (pins : List (Addr × Obj)) (s : Shared) (σ : St) (H : Hp) (D : Ends), Inv X pins σ H s → t D σ H → wpAny (model X.prog X.w) X.A (exec st X.env) (SP X pins D) X.xe s
def PSs (X : Cx) (st : List Stmt) (t : TS) : Prop :=
 ∀ (pins : List (Addr × Obj)) (s : Shared) (σ : St) (H : Hp) (D : Ends), Inv X pins σ H s → t D σ H → wpAny (model X.prog X.w) X.A (execs st X.env) (SP X pins D) X.xe s
theorem thn {α : Type} {t : Sem α} {Q Q' : α → Shared → Prop} {M : Model} {A : Around} {E : Value → Shared → Prop} {s : Shared} (h : wpAny M A t Q E s) (hQ : ∀ a s, Q a s → Q' a s) : wpAny M A t Q' E s := wpAny_mono h hQ fun _ _ x => x
end L2
namespace L2
open PySem PySem.Spec PyProof.Rows
section
variable {X : Cx}
def tVar (i : Nat) : TE := fun σ H Q => ∃ v, σ[i]? = some (some v) ∧ Q v H
def tC (v : V) : TE := fun _ H Q => Q v H
theorem pe_var {i : Nat} {x : Str} {pos : Pos} (hN : X.N[i]? = some x) (hv : Vis X.env.scope x) (hd : (x == ("__debug__" : Str)) = false := by decide) (hcd : (x == ("__classdict__" : Str)) = false := by decide) : PE X (.Name x pos) (tVar i) := by
 intro pins s σ H Q I h
 obtain ⟨v, e, h⟩ := h
 obtain ⟨m, hn, hl⟩ := I.loc
 obtain ⟨u, r, l⟩ := hl i x v hN e hv
 have fin : EP X pins σ Q u s := ⟨v, H, I, r, h⟩
 rcases l with ⟨hk, hm⟩ | ⟨hk, c, hc, hcell⟩
 ·exact wpAny_Name (wpAny_loadName_local I.ok.kind hk hn hm fin) hd
 ·rcases hk with hk | hk
  ·exact wpAny_Name (wpAny_loadName_cell I.ok.kind hk hc hcell fin) hd
  ·exact wpAny_Name (wpAny_loadName_free I.ok.kind hk hc hcell fin hcd) hd
theorem pe_int {i j pos} : PE X (.Constant (.int i) j pos) (tC (.int i)) := fun _ _ _ H _ I h => wpAny_Constant_int ⟨.int i, H, I.tok _, ⟨_, rfl⟩, h⟩
theorem pe_bl {b j pos} : PE X (.Constant (.bool b) j pos) (tC (.bl b)) := fun _ _ _ H _ I h => Constant_bool ⟨.bl b, H, I, rfl, h⟩
theorem pe_str {x j pos} : PE X (.Constant (.str x) j pos) (tC (.str x)) := fun _ _ _ H _ I h => Calls.Constant_str ⟨.str x, H, I.tok _, ⟨_, rfl⟩, h⟩
def Gl (X : Cx) (x : Str) : Prop := X.env.kindOf x = some .globalImplicit
theorem ld_glob {E : Value → Shared → Prop} {pins : List (Addr × Obj)} {s : Shared} {σ : St} {H : Hp} {x : Str} {u : Value} {pos : Pos} {Q : Value → Shared → Prop} (I : Inv X pins σ H s) (hg : Gl X x) (hm : X.mg x = some u) (h : Q u s)
  (hd : (x == ("__debug__" : Str)) = false := by decide) : wpAny (model X.prog X.w) X.A (eval (.Name x pos) X.env) Q E s :=
 Calls.Name_function_global I.ok.kind hg (Calls.loadGlobal_global (by rw [I.ok.glob]; exact I.mod.glob.keeps I.bk) hm h) hd
theorem ld_blt {E : Value → Shared → Prop} {pins : List (Addr × Obj)} {s : Shared} {σ : St} {H : Hp} {x : Str} {u : Value} {pos : Pos} {Q : Value → Shared → Prop} (I : Inv X pins σ H s) (hg : Gl X x) (hm : X.mg x = none) (hv : bootBuiltins x = some u) (h : Q u s)
  (hn : x ≠ "__name__" := by decide) (hd : (x == ("__debug__" : Str)) = false := by decide) : wpAny (model X.prog X.w) X.A (eval (.Name x pos) X.env) Q E s := by
 obtain ⟨mb, h1, h2⟩ := I.mod.blt
 exact Calls.Name_function_global I.ok.kind hg (Calls.loadGlobal_builtin (by rw [I.ok.glob]; exact I.mod.glob.keeps I.bk) hm (by rw [I.ok.blt]; exact h1.keeps I.bk) ((h2 x hn).trans hv) h) hd
theorem pe_glob {x : Str} {v : V} {u : Value} {pos : Pos} (hg : Gl X x) (hm : X.mg x = some u) (r : RelV v u) (hd : (x == ("__debug__" : Str)) = false := by decide) : PE X (.Name x pos) (tC v) :=
 fun _ _ _ H _ I h => ld_glob I hg hm ⟨v, H, I, r, h⟩ hd
theorem pe_bltn {x : Str} {v : V} {u : Value} {pos : Pos} (hg : Gl X x) (hm : X.mg x = none) (hv : bootBuiltins x = some u) (r : RelV v u) (hn : x ≠ "__name__" := by decide) (hd : (x == ("__debug__" : Str)) = false := by decide) : PE X (.Name x pos) (tC v) :=
 fun _ _ _ H _ I h => ld_blt I hg hm hv ⟨v, H, I, r, h⟩ hn hd
variable {a b : Expr} {ta tb : TE} {pos : Pos}
def PC (X : Cx) (op : CmpOp) (a b : Expr) (t : TE) : Prop :=
 ∀ (pins : List (Addr × Obj)) (s : Shared) (σ : St) (H : Hp) (Q : VK), Inv X pins σ H s → t σ H Q →
  wpAny (model X.prog X.w) X.A (eval a X.env) (fun v s₁ => wpAny (model X.prog X.w) X.A (eval b X.env) (fun u s₂ => wpAny (model X.prog X.w) X.A (compareOp op v u) (EP X pins σ Q) X.xe s₂) X.xe s₁) X.xe s
def tB (t : TE) : TT := fun σ H Q => t σ H fun x H1 => ∃ c, x = .bl c ∧ Q c H1
theorem pt_cmp {op : CmpOp} {t : TE} (h : PC X op a b t) (h1 : behindInMarks op b = false := by first | exact nobehind _ (by decide) (by decide) | rfl) : PT X (.Compare a [op] [b] pos) (tB t) := by
 intro pins s σ H Q I hw
 refine wpAny_isTrue_Compare1 (thn (h pins s σ H _ I hw) fun v s1 h1 => thn h1 fun u s2 h2 => thn h2 fun c s3 ⟨x, H1, I1, r1, q1⟩ => ?_) h1
 obtain ⟨d, rfl, q⟩ := q1
 cases r1
 exact wpAny_truthy_bool ⟨H1, I1, q⟩
theorem pt_val {e : Expr} {t : TE} (h : PE X e t) (he : ∀ whole, isTrue e X.env whole = (do let v ← whole; standAt e.pos; holding [v] (truthy v)) := by intro _; rfl) : PT X e (tB t) := by
 intro pins s σ H Q I hw
 refine isTrue_plain (thn (h pins s σ H _ I hw) fun v s1 ⟨x, H1, I1, r1, q1⟩ => ?_) (he _)
 obtain ⟨d, rfl, q⟩ := q1
 cases r1
 exact wpAny_truthy_bool ⟨H1, I1, q⟩
variable {tA tB' : TT} {rest : List Expr}
def tAnd (t u : TT) : TT := fun σ H Q => t σ H fun c H1 => if c = true then u σ H1 Q else Q false H1
def tOr (t u : TT) : TT := fun σ H Q => t σ H fun c H1 => if c = true then Q true H1 else u σ H1 Q
def tNot (t : TT) : TT := fun σ H Q => t σ H fun c H1 => Q (!c) H1
theorem pw_and1 (ha : PT X a tA) : PW X (.BoolOp .And [a] pos) tA := by
 intro wh pins s σ H Q I h
 refine isTrue_and (thn (ha pins s σ H Q I h) fun c s1 e => ?_)
 cases c with
 | true => exact isTrue_and_nil e
 | false => exact e
theorem pw_or1 (ha : PT X a tA) : PW X (.BoolOp .Or [a] pos) tA := by
 intro wh pins s σ H Q I h
 refine isTrue_or (thn (ha pins s σ H Q I h) fun c s1 e => ?_)
 cases c with
 | false => exact isTrue_or_nil e
 | true => exact e
theorem pw_and (ha : PT X a tA) (hb : PW X (.BoolOp .And (b :: rest) pos) tB') : PW X (.BoolOp .And (a :: b :: rest) pos) (tAnd tA tB') := by
 intro wh pins s σ H Q I h
 refine isTrue_and (thn (ha pins s σ H _ I h) fun c s1 ⟨H1, I1, q1⟩ => ?_)
 cases c with
 | true => exact hb wh pins s1 σ H1 Q I1 q1
 | false => exact ⟨H1, I1, q1⟩
theorem pw_or (ha : PT X a tA) (hb : PW X (.BoolOp .Or (b :: rest) pos) tB') : PW X (.BoolOp .Or (a :: b :: rest) pos) (tOr tA tB') := by
 intro wh pins s σ H Q I h
 refine isTrue_or (thn (ha pins s σ H _ I h) fun c s1 ⟨H1, I1, q1⟩ => ?_)
 cases c with
 | true => exact ⟨H1, I1, q1⟩
 | false => exact hb wh pins s1 σ H1 Q I1 q1
theorem pt_not (ha : PT X a tA) : PT X (.UnaryOp .Not a pos) (tNot tA) := by
 intro pins s σ H Q I h
 exact isTrue_not (ha pins s σ H (fun c H1 => Q (!c) H1) I h)
def tAndV (ta tb : TE) : TE := fun σ H Q => ta σ H fun x H1 => ∃ c, x = .bl c ∧ if c = true then tb σ H1 Q else Q (.bl false) H1
def tNotV (ta : TE) : TE := fun σ H Q => ta σ H fun x H1 => ∃ c, x = .bl c ∧ Q (.bl (!c)) H1
theorem pe_one {op} {t : TE} (h : PE X a t) : PE X (.BoolOp op [a] pos) t := fun pins s σ H Q I hw => BoolOp_one (h pins s σ H Q I hw)
theorem pe_and (ha : PE X a ta) (hb : PE X (.BoolOp .And (b :: rest) pos) tb) : PE X (.BoolOp .And (a :: b :: rest) pos) (tAndV ta tb) := by
 intro pins s σ H Q I h
 refine BoolOp_and (thn (ha pins s σ H _ I h) fun v s1 ⟨x, H1, I1, r1, q1⟩ => ?_)
 obtain ⟨c, rfl, q1⟩ := q1
 cases r1
 refine wpAny_truthy_bool ?_
 cases c with
 | true => exact hb pins s1 σ H1 Q I1 q1
 | false => exact ⟨.bl false, H1, I1, rfl, q1⟩
theorem pe_not (ha : PE X a ta) : PE X (.UnaryOp .Not a pos) (tNotV ta) := by
 intro pins s σ H Q I h
 refine UnaryOp_ (thn (ha pins s σ H _ I h) fun v s1 ⟨x, H1, I1, r1, q1⟩ => ?_)
 obtain ⟨c, rfl, q1⟩ := q1
 cases r1
 exact not_of (wpAny_truthy_bool ⟨.bl (!c), H1, I1, rfl, q1⟩)
def tIf (t : TT) (ta tb : TE) : TE := fun σ H Q => t σ H fun c H1 => if c = true then ta σ H1 Q else tb σ H1 Q
theorem pe_ifExp {c : Expr} (hc : PT X c tA) (ha : PE X a ta) (hb : PE X b tb) : PE X (.IfExp c a b pos) (tIf tA ta tb) := by
 intro pins s σ H Q I h
 refine wpAny_IfExp (thn (hc pins s σ H _ I h) fun d s1 ⟨H1, I1, q1⟩ => ?_)
 cases d with
 | true => exact ha pins s1 σ H1 Q I1 q1
 | false => exact hb pins s1 σ H1 Q I1 q1
end
end L2
namespace L2
open PySem PySem.Spec PyProof.Rows
def SqL (K : PySem.W.Frag) (H : Hp) (a : Addr) (xs : List V) : Prop :=
 Rd H a (.lst xs) ∨
  ∃ (o : Obj) (its : Array Value) (n : Nat), K.lookup a = some o ∧ o.cls = .type "list" ∧ o.dict = none ∧ o.data = .seq its n ∧ its.size ≤ sizeLine ∧ Vals xs its.toList
def SqT (K : PySem.W.Frag) (H : Hp) (a : Addr) (xs : List V) : Prop :=
 Rd H a (.tup xs) ∨
  ∃ (o : Obj) (its : Array Value) (n : Nat), K.lookup a = some o ∧ o.cls = .type "tuple" ∧ o.data = .seq its n ∧ its.size ≤ sizeLine ∧ Vals xs its.toList
def absV : Value → Option V
 | .none => some .non
 | .bool b => some (.bl b)
 | .int i _ => some (.int i)
 | .str x _ => some (.str x)
 | .bytes b _ => some (.byt b)
 | .float b _ => some (.flt b)
 | .ref a => some (.ref a)
 | .type n => some (.ty n)
 | _ => none
theorem RelV.abs {x : V} {u : Value} (r : RelV x u) : absV u = some x := by
 cases x with
 | non => cases r; rfl
 | bl _ => cases r; rfl
 | int _ => obtain ⟨t, rfl⟩ := r; rfl
 | str _ => obtain ⟨t, rfl⟩ := r; rfl
 | byt _ => obtain ⟨t, rfl⟩ := r; rfl
 | flt _ => obtain ⟨t, rfl⟩ := r; rfl
 | ref _ => cases r; rfl
 | ty _ => cases r; rfl
theorem RelV.inj {x y : V} {u : Value} (r : RelV x u) (q : RelV y u) : x = y := Option.some.inj (r.abs.symm.trans q.abs)
theorem Vals.inj : ∀ {xs ys : List V} {us : List Value}, Vals xs us → Vals ys us → xs = ys := by
 intro xs ys us h h'
 induction h generalizing ys with
 | nil => cases h'; rfl
 | cons r t ih => cases h' with
  | cons r' t' => rw [r.inj r', ih t']
section
variable {X : Cx} {pins : List (Addr × Obj)} {σ : St} {H : Hp} {s : Shared} {a : Addr} {xs ys : List V}
theorem SqL.of {K : PySem.W.Frag} (h : H a = some (.lst xs)) : SqL K H a xs := .inl (.inl h)
theorem SqT.of {K : PySem.W.Frag} (h : H a = some (.tup xs)) : SqT K H a xs := .inl (.inl h)
theorem Inv.list (I : Inv X pins σ H s) (h : SqL X.K H a xs) : ∃ its : List Value, Vals xs its ∧ PlainL s.heap a its.toArray ∧ xs.length ≤ sizeLine := by
 rcases h with h | ⟨o, its, n, hk, hc, hd, hs, hz, r⟩
 ·obtain ⟨z, its, n, r, e⟩ := h.ok I.hok
  exact ⟨its, r, ⟨_, n, e, rfl, rfl, rfl⟩, z⟩
 ·refine ⟨its.toList, r, ⟨o, n, I.kIn a o hk, hc, hd, by simpa using hs⟩, ?_⟩
  have e := r.length
  simp only [Array.length_toList] at e
  omega
theorem Inv.tuple (I : Inv X pins σ H s) (h : SqT X.K H a xs) : ∃ its : List Value, Vals xs its ∧ IsTup s.heap a its.toArray ∧ xs.length ≤ sizeLine := by
 rcases h with h | ⟨o, its, n, hk, hc, hs, hz, r⟩
 ·obtain ⟨z, its, r, p⟩ := h.ok I.hok
  exact ⟨its, r, p, z⟩
 ·refine ⟨its.toList, r, ⟨o, I.kIn a o hk, hc, n, by simpa using hs⟩, ?_⟩
  have e := r.length
  simp only [Array.length_toList] at e
  omega
theorem Inv.list_inj (I : Inv X pins σ H s) (h : SqL X.K H a xs) (h' : SqL X.K H a ys) : xs = ys := by
 obtain ⟨its, r, ⟨o, n, e, _, _, d⟩, _⟩ := I.list h
 obtain ⟨its', r', ⟨o', n', e', _, _, d'⟩, _⟩ := I.list h'
 rw [e] at e'; cases e'
 rw [d] at d'
 injection d' with d1 _
 have : its = its' := by simpa using congrArg Array.toList d1
 subst this
 exact r.inj r'
end
abbrev Cx.wish (X : Cx) (E : Value → Shared → Prop) : Cx := { X with xe := E }
abbrev Cx.nox (X : Cx) : Cx := X.wish fun _ _ => False
theorem Cx.Ok.wish {X : Cx} (ok : X.Ok) (E : Value → Shared → Prop) : (X.wish E).Ok :=
 ⟨ok.mod, ok.kind, ok.glob, ok.blt, ok.above, ok.inj, ok.has, ok.cab, ok.hd, ok.frames, ok.stk, ok.exf, ok.bs, ok.bsz, ok.noex, ok.exfs, ok.funs, ok.frf⟩
theorem Cx.Ok.unwish {X : Cx} {E : Value → Shared → Prop} (ok : (X.wish E).Ok) : X.Ok :=
 ⟨ok.mod, ok.kind, ok.glob, ok.blt, ok.above, ok.inj, ok.has, ok.cab, ok.hd, ok.frames, ok.stk, ok.exf, ok.bs, ok.bsz, ok.noex, ok.exfs, ok.funs, ok.frf⟩
section
variable {X : Cx} {pins : List (Addr × Obj)} {σ : St} {H : Hp} {s : Shared} {E : Value → Shared → Prop}
theorem Inv.wish (I : Inv X pins σ H s) (E : Value → Shared → Prop) : Inv (X.wish E) pins σ H s := ⟨I.ok.wish E, I.os, I.bare, I.base, I.loc, I.cell, I.free, I.freeC, I.pin, I.hok, I.len⟩
theorem Inv.unwish (I : Inv (X.wish E) pins σ H s) : Inv X pins σ H s := ⟨I.ok.unwish, I.os, I.bare, I.base, I.loc, I.cell, I.free, I.freeC, I.pin, I.hok, I.len⟩
theorem SP.unwish {D : Ends} {f : Flow} {s' : Shared} (h : SP (X.wish E) pins D f s') : SP X pins D f s' := by
 cases f with
 | next => obtain ⟨σ', H', I, q⟩ := h; exact ⟨σ', H', I.unwish, q⟩
 | brk => obtain ⟨σ', H', I, q⟩ := h; exact ⟨σ', H', I.unwish, q⟩
 | cont => obtain ⟨σ', H', I, q⟩ := h; exact ⟨σ', H', I.unwish, q⟩
 | ret u => obtain ⟨v, σ', H', I, r, q⟩ := h; exact ⟨v, σ', H', I.unwish, r, q⟩
theorem PSs.nox {st : List Stmt} {t : TS} (h : PSs X.nox st t) : PSs X st t := fun pins s σ H D I hw =>
 wpAny_mono (h pins s σ H D (I.wish _) hw) (fun _ _ q => q.unwish) fun _ _ z => False.elim z
end
section
variable {X : Cx} {st : Stmt} {rest : List Stmt} {t u : TS} {e : Expr} {te : TE} {pos : Pos}
def tNext : TS := fun D σ H => D.nx σ H
def tSeq (t u : TS) : TS := fun D σ H => t { D with nx := u D } σ H
theorem pss_nil : PSs X [] tNext := fun _ _ σ H _ I h => wpAny_execs_nil ⟨σ, H, I, h⟩
theorem pss_cons (h1 : PS X st t) (h2 : PSs X rest u) : PSs X (st :: rest) (tSeq t u) := by
 intro pins s σ H D I h
 refine wpAny_execs_cons (thn (h1 pins s σ H { D with nx := u D } I h) fun f s1 q => ?_)
 cases f with
 | next =>
  obtain ⟨σ', H', I', q⟩ := q
  exact h2 pins s1 σ' H' D I' q
 | ret v => exact q
 | brk => exact q
 | cont => exact q
theorem pss_one (h1 : PS X st t) : PSs X [st] t := by
 intro pins s σ H D I h
 refine wpAny_execs_cons (thn (h1 pins s σ H D I h) fun f s1 q => ?_)
 cases f with
 | next => exact wpAny_execs_nil q
 | ret v => exact q
 | brk => exact q
 | cont => exact q
theorem Inv.quiet {pins : List (Addr × Obj)} {σ : St} {H : Hp} {s : Shared} (I : Inv X pins σ H s) : interactive X.env = false := by simp [interactive, I.ok.kind]
def tDrop (te : TE) : TS := fun D σ H => te σ H fun _ H1 => D.nx σ H1
theorem ps_expr (he : PE X e te) (hs : swapsWith e none pos.line X.env = pure false := by rfl) : PS X (.Expr e pos) (tDrop te) := by
 intro pins s σ H D I h
 exact wpAny_Expr_any (thn (he pins s σ H _ I h) fun v s1 ⟨x, H1, I1, r1, q1⟩ => ⟨σ, H1, I1, q1⟩) I.quiet hs
def tRet (te : TE) : TS := fun D σ H => te σ H D.rt
theorem ps_ret (he : PE X e te) : PS X (.Return (some e) pos) (tRet te) := by
 intro pins s σ H D I h
 exact wpAny_Return_some (thn (he pins s σ H _ I h) fun v s1 ⟨x, H1, I1, r1, q1⟩ => ⟨x, σ, H1, I1, r1, q1⟩)
def tIfS (c : TT) (t u : TS) : TS := fun D σ H => c σ H fun b H1 => if b = true then t D σ H1 else u D σ H1
theorem ps_if {c : Expr} {a b : List Stmt} {tc : TT} (hc : PT X c tc) (ha : PSs X a t) (hb : PSs X b u) : PS X (.If c a b pos) (tIfS tc t u) := by
 intro pins s σ H D I h
 refine wpAny_If (thn (hc pins s σ H _ I h) fun d s1 ⟨H1, I1, q1⟩ => ?_)
 cases d with
 | true => exact ha pins s1 σ H1 D I1 q1
 | false => exact hb pins s1 σ H1 D I1 q1
def tNever : TS := fun _ _ _ => False
theorem pss_never {sts : List Stmt} : PSs X sts tNever := fun _ _ _ _ _ _ h => h.elim
end
abbrev TG := V → St → Hp → (St → Hp → Prop) → Prop
abbrev TGs := List V → St → Hp → (St → Hp → Prop) → Prop
def PG (X : Cx) (target : Expr) (t : TG) : Prop :=
 ∀ (pins : List (Addr × Obj)) (s : Shared) (σ : St) (H : Hp) (v : V) (u : Value) (Q : St → Hp → Prop), Inv X pins σ H s → RelV v u → t v σ H Q →
  wpAny (model X.prog X.w) X.A (assign target X.env u) (fun _ s' => ∃ σ' H', Inv X pins σ' H' s' ∧ Q σ' H') X.xe s
def PGs (X : Cx) (ts : List Expr) (t : TGs) : Prop :=
 ∀ (pins : List (Addr × Obj)) (s : Shared) (σ : St) (H : Hp) (vs : List V) (us : List Value) (Q : St → Hp → Prop), Inv X pins σ H s → Vals vs us → t vs σ H Q →
  wpAny (model X.prog X.w) X.A (assignInOrder ((assignEach ts X.env).map (·.2)) us) (fun _ s' => ∃ σ' H', Inv X pins σ' H' s' ∧ Q σ' H') X.xe s
section
variable {X : Cx} {pos : Pos}
def gName (i : Nat) : TG := fun v σ H Q => Q (σ.set i (some v)) H
theorem pg_name {i : Nat} {x : Str} (hN : X.N.Nodup) (hi : X.N[i]? = some x) (hx : Loc X.env.scope x) (hf : X.fn x = true ∨ X.env.scope.names.lookup x = some .local := by first | exact .inl rfl | exact .inr rfl | assumption) : PG X (.Name x pos) (gName i) := by
 intro pins s σ H v u Q I r h
 exact wpAny_assign_Name (store_ok I hN hi hx r (fun s' I' => ⟨_, H, I', h⟩) hf)
def gNil : TGs := fun vs σ H Q => vs = [] ∧ Q σ H
def gCons (t : TG) (u : TGs) : TGs := fun vs σ H Q => ∃ v r, vs = v :: r ∧ t v σ H fun σ' H' => u r σ' H' Q
theorem pgs_nil : PGs X [] gNil := by
 intro pins s σ H vs us Q I r h
 obtain ⟨e, h⟩ := h
 subst e
 cases r
 exact assignInOrder_nil ⟨σ, H, I, h⟩
theorem pgs_cons {e : Expr} {es : List Expr} {t : TG} {u : TGs} (h1 : PG X e t) (h2 : PGs X es u)
  (hs : (assignEach (e :: es) X.env).map (·.2) = assign e X.env :: (assignEach es X.env).map (·.2) := by rfl) : PGs X (e :: es) (gCons t u) := by
 intro pins s σ H vs us Q I r h
 obtain ⟨v, vr, e1, h⟩ := h
 subst e1
 cases r with
 | cons r rr =>
  rw [hs]
  refine assignInOrder_cons (thn (h1 pins s σ H _ _ _ I r h) fun _ s1 ⟨σ1, H1, I1, q1⟩ => ?_)
  exact h2 pins s1 σ1 H1 _ _ Q I1 rr q1
def gTup (K : PySem.W.Frag) (n : Nat) (t : TGs) : TG := fun v σ H Q => ∃ a xs, v = .ref a ∧ SqT K H a xs ∧ xs.length = n ∧ t xs σ H Q
theorem pg_tup {es : List Expr} {k : Nat} {t : TGs} {n : Nat} (hc : X.calm = true) (h : PGs X es t)
  (hn : (assignEach es X.env).length = n := by rfl) (hst : (assignEach es X.env).findIdx? (·.1) = none := by rfl) : PG X (.Tuple es k pos) (gTup X.K n t) := by
 intro pins s σ H v u Q I r hw
 obtain ⟨a, xs, e1, hq, hl, hw⟩ := hw
 subst e1
 cases r
 obtain ⟨its, rv, ht, hz⟩ := I.tuple hq
 refine assign_Tuple_tuple (I.ok.hd hc) ht (by simp [hn, ← hl, rv.length]) hst fun h' hx => ?_
 have I1 : Inv X pins σ H { s with heap := h' } := I.kept (t' := s.toks) fun b o e => hx b o (Nat.ne_of_lt (Heap.lt_size e)) e
 exact h pins _ σ H xs _ Q I1 (by simpa using rv) hw
def tAsg (te : TE) (g : TG) : TS := fun D σ H => te σ H fun x H1 => g x σ H1 D.nx
theorem ps_asg {tg e : Expr} {te : TE} {g : TG} (he : PE X e te) (hg : PG X tg g) (hs : swapsWithSole [tg] e pos.line X.env = pure false := by rfl) (hw : swappedStores [tg] e X.env = pure none := by rfl)
  (h1 : (assignEach [tg] X.env).map (·.2) = [assign tg X.env] := by rfl) : PS X (.Assign [tg] e pos) (tAsg te g) := by
 intro pins s σ H D I h
 refine wpAny_Assign_stores (thn (he pins s σ H _ I h) fun v s1 ⟨x, H1, I1, r1, q1⟩ => ?_) hs hw
 rw [h1]
 exact thn (hg pins s1 σ H1 x v _ I1 r1 q1) fun _ s2 q => q
theorem ps_set {i : Nat} {x : Str} {e : Expr} {te : TE} {pos' : Pos} (hN : X.N.Nodup) (hi : X.N[i]? = some x) (hx : Loc X.env.scope x) (he : PE X e te) (hs : swapsWith e (some (.Name x pos')) pos.line X.env = pure false := by rfl) (hf : X.fn x = true ∨ X.env.scope.names.lookup x = some .local := by first | exact .inl rfl | exact .inr rfl | assumption) :
  PS X (.Assign [.Name x pos'] e pos) (tAsg te (gName i)) := by
 intro pins s σ H D I h
 refine wpAny_Assign_Name (thn (he pins s σ H _ I h) fun v s1 ⟨y, H1, I1, r1, q1⟩ => ?_) hs
 exact store_ok I1 hN hi hx r1 (fun s2 I2 => ⟨_, H1, I2, q1⟩) hf
end
section
variable {X : Cx} {pos : Pos}
end
structure It where
 go : Nat → Hp → Prop
 yld : Nat → Hp → V → Hp → Prop
 stop : Nat → Hp → Prop
def FpOk (X : Cx) (pins : List (Addr × Obj)) (H : Hp) (b : Addr) : Prop :=
 H b = none ∧ b ≠ X.env.locals ∧ b ∉ X.fs ∧ (b ∈ X.ex ∨ X.s₀.heap.objs.size ≤ b) ∧ (∀ x c, X.env.cells.lookup x = some c → c ≠ b) ∧ ∀ p ∈ X.pn ++ pins, p.1 ≠ b
theorem Inv.fpOk {X : Cx} {pins : List (Addr × Obj)} {σ : St} {H H' : Hp} {s : Shared} {b : Addr} (I : Inv X pins σ H s) (hb : s.heap.objs.size ≤ b) (hn : H' b = none) : FpOk X pins H' b := by
 refine ⟨hn, Nat.ne_of_gt (Nat.lt_of_lt_of_le I.lt hb), I.nofs hb, .inr (Nat.le_trans I.sz hb), fun x c e z => ?_, fun p hp z => ?_⟩
 ·obtain ⟨v, q⟩ := I.cell x c e
  exact absurd (Nat.lt_of_lt_of_le q.lt (by rw [z]; exact hb)) (Nat.lt_irrefl _)
 ·exact absurd (Nat.lt_of_lt_of_le (Heap.lt_size (I.pin p hp).1) (by rw [z]; exact hb)) (Nat.lt_irrefl _)
structure Turn (P : Program) (w : World) (K : PySem.W.Frag) (tg : Expr) (J : It) (fp : List Addr) (it : Addr) (tn : Nat → Heap → Prop) : Prop where
 mem : it ∈ fp
 obj : ∀ i h, tn i h → ∀ b ∈ fp, ∃ o, h.get? b = some o ∧ ∀ v, o.data ≠ .cell v
 keep : ∀ i h h', tn i h → (∀ b ∈ fp, ∀ o, h.get? b = some o → h'.get? b = some o) → tn i h'
 item : ∀ (X : Cx), X.prog = P → X.w = w → X.K = K → X.calm = true → ∀ (i : Nat) (pins : List (Addr × Obj)) (s : Shared) (σ : St) (H : Hp) (E : Value → Shared → Prop), Inv X pins σ H s → (∀ b ∈ fp, FpOk X pins H b) → tn i s.heap → J.go i H →
  wpAny (model P w) X.A (pyNext (.ref it)) (fun r s1 => ∃ u, r = some u ∧
   wpAny (model P w) X.A (letOwnedTupleGo tg (.ref it) u) (fun _ s2 => ∃ x H', Inv X pins σ H' s2 ∧ RelV x u ∧ J.yld i H x H' ∧ tn (i + 1) s2.heap ∧ ∀ b ∈ fp, H' b = none) E s1) E s
 done : ∀ (X : Cx), X.prog = P → X.w = w → X.K = K → X.calm = true → ∀ (i : Nat) (pins : List (Addr × Obj)) (s : Shared) (σ : St) (H : Hp) (E : Value → Shared → Prop), Inv X pins σ H s → (∀ b ∈ fp, FpOk X pins H b) → tn i s.heap → J.stop i H →
  wpAny (model P w) X.A (pyNext (.ref it)) (fun r s1 => r = none ∧ Inv X pins σ H s1) E s
 self : ∀ (A : Around) (i : Nat) (s : Shared) (Q : Value → Shared → Prop) (E : Value → Shared → Prop), tn i s.heap → Q (.ref it) s → wpAny (model P w) A (pyIter (.ref it)) Q E s
abbrev TI := St → Hp → (It → Hp → Prop) → Prop
def PIE (X : Cx) (pins : List (Addr × Obj)) (σ : St) (tg : Expr) (R : It → Hp → Prop) (itv : Value) (s2 : Shared) : Prop :=
 ∃ (it : Addr) (fp : List Addr) (tn : Nat → Heap → Prop) (J : It) (H' : Hp), itv = .ref it ∧ Inv X pins σ H' s2 ∧ Turn X.prog X.w X.K tg J fp it tn ∧ tn 0 s2.heap ∧ (∀ b ∈ fp, FpOk X pins H' b) ∧ R J H'
def PI (X : Cx) (tg iter : Expr) (wi : TI) : Prop :=
 ∀ (pins : List (Addr × Obj)) (s : Shared) (σ : St) (H : Hp) (R : It → Hp → Prop), Inv X pins σ H s → wi σ H R →
  wpAny (model X.prog X.w) X.A (eval iter X.env) (fun v s1 => wpAny (model X.prog X.w) X.A (pyIter v) (PIE X pins σ tg R) X.xe s1) X.xe s
theorem go_of {M : Model} {A : Around} {E : Value → Shared → Prop} {s : Shared} {tg : Expr} {it : Addr} {u : Value} {o : Obj} {n : String} {vs : Array Value} {Q : Unit → Shared → Prop} (ho : s.heap.get? it = some o) (hc : o.cls = .type n) (hd : o.data = .fields vs)
    (hn : ["enumerate", "zip", "dict_itemiterator", "dict_reverseitemiterator", "odict_iterator", "itertools.zip_longest", "itertools.pairwise"].contains n = false) (hQ : Q () s) : wpAny M A (letOwnedTupleGo tg (.ref it) u) Q E s := by
  unfold letOwnedTupleGo
  cases tg <;> first
    | exact wpAny_pure hQ
    | (cases u <;> first
        | exact wpAny_pure hQ
        | (refine wpAny_bind (wpAny_load ho ?_)
           rw [hc, hd]
           show wpAny M A (if (["enumerate", "zip", "dict_itemiterator", "dict_reverseitemiterator", "odict_iterator", "itertools.zip_longest", "itertools.pairwise"].contains n && vs[0]? == some (rawInt _)) = true then _ else _) Q E s
           rw [if_neg (by intro h; rw [hn, Bool.false_and] at h; cases h)]
           exact wpAny_pure hQ))
def Itl (K : PySem.W.Frag) (a : Addr) : It :=
 ⟨fun i H => ∃ xs x, SqL K H a xs ∧ xs[i]? = some x, fun i H x H' => H' = H ∧ ∀ xs, SqL K H a xs → xs[i]? = some x, fun i H => ∃ xs, SqL K H a xs ∧ xs.length ≤ i⟩
def Itr (lo : Int) (n : Nat) : It := ⟨fun i _ => i < n, fun i H x H' => H' = H ∧ x = .int (lo + i), fun i _ => n ≤ i⟩
theorem turn_list {P : Program} {w : World} {K : PySem.W.Frag} {tg : Expr} (a it : Addr) : Turn P w K tg (Itl K a) [it] it (fun i h => h.IsListIter it a i) where
 mem := by simp
 obj := fun i h st b hb => by
  have e : b = it := by simpa using hb
  subst e
  obtain ⟨o, e, c, d⟩ := st
  exact ⟨o, e, fun v z => by rw [d] at z; cases z⟩
 keep := fun i h h' st k => st.at fun o e => k it (by simp) o e
 item := by
  intro X hP hw hK hc i pins s σ H E I hf st hg
  subst hP hw hK
  obtain ⟨xs, x, hq, hx⟩ := hg
  obtain ⟨its, rv, p, hz⟩ := I.list hq
  obtain ⟨u, hu, ru⟩ := rv.get hx
  obtain ⟨f0, f1, f2, f3, f4, f5⟩ := hf it (by simp)
  refine wpAny_pyNext_list_item st p.isList (x := u) (by simpa using hu) fun h' st' sb => ?_
  have I1 : Inv X pins σ H { s with heap := h' } := I.turned (t' := s.toks) (fun b o hb e => (sb.2 b hb).trans e) f0 f1 f3 f4 f5
  obtain ⟨o, e, c, d⟩ := id st'
  exact ⟨u, rfl, go_of (s := { s with heap := h' }) e c d (by decide) ⟨x, H, I1, ru, ⟨rfl, fun ys hy => by rw [I.list_inj hy hq]; exact hx⟩, st', fun b hb => (hf b hb).1⟩⟩
 done := by
  intro X hP hw hK hc i pins s σ H E I hf st hg
  subst hP hw hK
  obtain ⟨xs, hq, hx⟩ := hg
  obtain ⟨its, rv, p, hz⟩ := I.list hq
  obtain ⟨f0, f1, f2, f3, f4, f5⟩ := hf it (by simp)
  have hl := rv.length
  exact wpAny_pyNext_list_end (I.ok.hd hc) st p.isList (by simp; omega) fun h' eb => ⟨rfl, I.turned (t' := s.toks) (fun b o hb e => eb b o hb e) f0 f1 f3 f4 f5⟩
 self := fun _ _ _ _ _ st h => wpAny_pyIter_listiter st h
theorem turn_range {P : Program} {w : World} {K : PySem.W.Frag} {tg : Expr} (it : Addr) (lo : Int) (n : Nat) : Turn P w K tg (Itr lo n) [it] it (fun i h => IsRangeIter h it (lo + (i : Nat) * 1) ((n : Int) - (i : Nat)) 1) where
 mem := by simp
 obj := fun i h st b hb => by
  have e : b = it := by simpa using hb
  subst e
  exact ⟨_, st, fun v z => by
   have z' : Data.fields _ = Data.cell v := z
   cases z'⟩
 keep := fun i h h' st k => k it (by simp) _ st
 item := by
  intro X hP hw hK hc i pins s σ H E I hf st hg
  subst hP hw hK
  obtain ⟨f0, f1, f2, f3, f4, f5⟩ := hf it (by simp)
  have W := Walks.range (prog := X.prog) (w := X.w) (I.ok.hd hc) it lo 1 n
  refine W.item i s _ _ hg st fun v h' tk hv st' kk => ?_
  obtain ⟨t, rfl⟩ := hv
  have I1 : Inv X pins σ H { s with heap := h', toks := tk } := I.turned (fun b o hb e => kk b o (by simpa using hb) e) f0 f1 f3 f4 f5
  refine ⟨_, rfl, go_of (s := { s with heap := h', toks := tk }) (n := "range_iterator") st' rfl rfl (by decide) ⟨.int (lo + i), H, I1, ⟨t, ?_⟩, ⟨rfl, rfl⟩, st', fun b hb => (hf b hb).1⟩⟩
  rw [Int.mul_one]
 done := by
  intro X hP hw hK hc i pins s σ H E I hf st hg
  subst hP hw hK
  obtain ⟨f0, f1, f2, f3, f4, f5⟩ := hf it (by simp)
  exact wpAny_pyNext_range_end (I.ok.hd hc) st (by have : n ≤ i := hg; omega) fun h' eb => ⟨rfl, I.turned (t' := s.toks) (fun b o hb e => eb b o hb e) f0 f1 f3 f4 f5⟩
 self := fun _ _ _ _ _ st h => wpAny_pyIter_rangeiter st h
end L2
namespace L2
open PySem PySem.Spec PyProof.Rows
section
variable {X : Cx} {tg : Expr}
def iList (K : PySem.W.Frag) (tl : TE) : TI := fun σ H R => tl σ H fun x H1 => ∃ a, x = .ref a ∧ (∃ xs, SqL K H1 a xs) ∧ R (Itl K a) H1
theorem pi_list {l : Expr} {tl : TE} (hl : PE X l tl) : PI X tg l (iList X.K tl) := by
 intro pins s σ H R I h
 refine thn (hl pins s σ H _ I h) fun v s1 ⟨x, H1, I1, r1, q1⟩ => ?_
 obtain ⟨a, e, ⟨xs, hq⟩, q⟩ := q1
 subst e
 cases r1
 obtain ⟨its, rv, p, hz⟩ := I1.list hq
 refine wpAny_pyIter_list p.isList ?_
 refine ⟨s1.heap.objs.size, [s1.heap.objs.size], _, _, H1, rfl, I1.kept (t' := s1.toks) fun b o e => Heap.get?_push_of_some _ e, turn_list a _, ⟨_, Heap.get?_push_size _ rfl, rfl, rfl⟩, fun b hb => ?_, q⟩
 have e : b = s1.heap.objs.size := by simpa using hb
 subst e
 exact I1.fpOk (Nat.le_refl _) (I1.hok.fresh (Nat.le_refl _))
theorem range_it {pins : List (Addr × Obj)} {σ : St} {H : Hp} {s : Shared} {R : It → Hp → Prop} {E : Value → Shared → Prop} {lo hi : Int} {t u v : Tok} {tk : Nat} (I : Inv X pins σ H s) (h1 : -(2 ^ 62) ≤ lo) (h2 : lo < 2 ^ 62) (h3 : -(2 ^ 62) ≤ hi) (h4 : hi < 2 ^ 62)
  (q : R (Itr lo (hi - lo).toNat) H) : wpAny (model X.prog X.w) X.A (pyIter (.ref s.heap.objs.size)) (PIE X pins σ tg R) E { s with heap := s.heap.push { cls := .type "range", data := .fields #[.int lo t, .int hi u, .int 1 v] }, toks := tk } := by
 refine wpAny_pyIter_range (IsRange.new ..) (small_one h1 h2 h3 h4) ?_
 have I1 : Inv X pins σ H { s with heap := s.heap.push { cls := .type "range", data := .fields #[.int lo t, .int hi u, .int 1 v] }, toks := tk } := I.kept fun b o e => Heap.get?_push_of_some _ e
 refine ⟨(s.heap.push { cls := .type "range", data := .fields #[.int lo t, .int hi u, .int 1 v] }).objs.size, [(s.heap.push { cls := .type "range", data := .fields #[.int lo t, .int hi u, .int 1 v] }).objs.size], _, _, H, rfl,
  I1.kept (t' := tk) fun b o e => Heap.get?_push_of_some _ e, turn_range _ lo (hi - lo).toNat, ?_, fun b hb => ?_, q⟩
 ·have e1 : lo + ((0 : Nat) : Int) * 1 = lo := by simp
  have e2 : (((hi - lo).toNat : Nat) : Int) - ((0 : Nat) : Int) = Builtin.Range.rangeSize lo hi 1 := by rw [rangeSize_one]; split <;> omega
  show IsRangeIter _ _ (lo + ((0 : Nat) : Int) * 1) ((((hi - lo).toNat : Nat) : Int) - ((0 : Nat) : Int)) 1
  rw [e1, e2]
  exact Heap.get?_push_size _ rfl
 ·have e : b = (s.heap.push { cls := .type "range", data := .fields #[.int lo t, .int hi u, .int 1 v] }).objs.size := by simpa using hb
  subst e
  exact I1.fpOk (Nat.le_refl _) (I1.hok.fresh (Nat.le_refl _))
def iRng1 (ta : TA) : TI := fun σ H R => ta σ H fun vs H1 => ∃ j : Int, vs = [.int j] ∧ -(2 ^ 62) ≤ j ∧ j < 2 ^ 62 ∧ R (Itr 0 j.toNat) H1
def iRng2 (ta : TA) : TI := fun σ H R => ta σ H fun vs H1 => ∃ i j : Int, vs = [.int i, .int j] ∧ (-(2 ^ 62) ≤ i ∧ i < 2 ^ 62 ∧ -(2 ^ 62) ≤ j ∧ j < 2 ^ 62) ∧ R (Itr i (j - i).toNat) H1
theorem pi_range1 {a : Expr} {ta : TA} {p pos : Pos} (hg : Gl X "range") (hm : X.mg "range" = none) (ha : PA X [a] ta) (hs : starEach [a] X.env = [(false, eval a X.env)] := by rfl) : PI X tg (.Call (.Name "range" p) [a] [] pos) (iRng1 ta) := by
 intro pins s σ H R I h
 refine Call_ (ld_blt I hg hm boot_range (PyProof.Rows.callWith_type1 (thn (ha pos pins s σ H _ I h) fun us s1 ⟨vs, H1, I1, r1, q1⟩ => ?_) hs rfl))
 obtain ⟨j, e, q1, q2, q⟩ := q1
 subst e
 cases r1 with
 | cons r rr =>
  cases rr
  obtain ⟨t, rfl⟩ := r
  exact call_range_1 (range_it I1 (by omega) (by omega) q1 q2 (by simpa using q))
theorem pi_range2 {a b : Expr} {ta : TA} {p pos : Pos} (hg : Gl X "range") (hm : X.mg "range" = none) (ha : PA X [a, b] ta) (hs : starEach [a, b] X.env = [(false, eval a X.env), (false, eval b X.env)] := by rfl) (hs2 : starEach [b] X.env = [(false, eval b X.env)] := by rfl) :
  PI X tg (.Call (.Name "range" p) [a, b] [] pos) (iRng2 ta) := by
 intro pins s σ H R I h
 refine Call_ (ld_blt I hg hm boot_range (PyProof.Rows.callWith_type1 (thn (ha pos pins s σ H _ I h) fun us s1 ⟨vs, H1, I1, r1, q1⟩ => ?_) (by rw [hs, hs2]) (by rw [hs2]; rfl)))
 obtain ⟨i, j, e, ⟨q1, q2, q3, q4⟩, q⟩ := q1
 subst e
 cases r1 with
 | cons r rr =>
  cases rr with
  | cons r' rr =>
   cases rr
   obtain ⟨t, rfl⟩ := r
   obtain ⟨t', rfl⟩ := r'
   exact call_range_2 (range_it I1 q1 q2 q3 q4 q)
def tFor (wi : TI) (g : TG) (tb : TS) : TS := fun D σ H => wi σ H fun J H1 => ∃ W : Nat → Nat → St → Hp → Prop, (∃ m, W 0 m σ H1) ∧ ∀ i m σ H, W i m σ H →
 (J.stop i H ∧ D.nx σ H) ∨ (J.go i H ∧ ∃ N : St → Hp → Prop, (∀ σ' H', N σ' H' → ∃ m', m' < m ∧ W (i + 1) m' σ' H') ∧ ∀ x H', J.yld i H x H' → g x σ H' fun σ2 H2 => tb { D with nx := N, ct := N, bk := D.nx } σ2 H2)
def pinsAt (fp : List Addr) (h : Heap) : List (Addr × Obj) := fp.filterMap fun b => (h.get? b).map fun o => (b, o)
theorem mem_pinsAt {fp : List Addr} {h : Heap} {b : Addr} {o : Obj} (hb : b ∈ fp) (e : h.get? b = some o) : (b, o) ∈ pinsAt fp h := List.mem_filterMap.mpr ⟨b, hb, by rw [e]; rfl⟩
theorem of_pinsAt {fp : List Addr} {h : Heap} {p : Addr × Obj} (hp : p ∈ pinsAt fp h) : p.1 ∈ fp ∧ h.get? p.1 = some p.2 := by
 obtain ⟨b, hb, e⟩ := List.mem_filterMap.mp hp
 cases q : h.get? b with
 | none => rw [q] at e; cases e
 | some o =>
  rw [q] at e
  have e' : (b, o) = p := Option.some.inj e
  subst e'
  exact ⟨hb, q⟩
theorem Inv.pinned {pins : List (Addr × Obj)} {σ : St} {H : Hp} {s : Shared} {fp : List Addr} (I : Inv X pins σ H s) (hf : ∀ b ∈ fp, FpOk X pins H b) (ho : ∀ b ∈ fp, ∃ o, s.heap.get? b = some o ∧ ∀ v, o.data ≠ .cell v) : Inv X (pins ++ pinsAt fp s.heap) σ H s :=
 I.pins_of fun p hp => (List.mem_append.mp hp).elim (fun z => I.pin p (List.mem_append_right _ z)) fun z => by
  obtain ⟨hb, e⟩ := of_pinsAt z
  obtain ⟨f0, f1, f2, _⟩ := hf p.1 hb
  obtain ⟨o, e', d⟩ := ho p.1 hb
  rw [e] at e'; cases e'
  exact ⟨e, f0, f1, f2, d⟩
theorem Inv.unpinned {pins pl : List (Addr × Obj)} {σ : St} {H : Hp} {s : Shared} (I : Inv X (pins ++ pl) σ H s) : Inv X pins σ H s := I.pins_of fun p hp => I.pin p (List.mem_append_right _ (List.mem_append_left _ hp))
theorem ps_for {iter : Expr} {body : List Stmt} {wi : TI} {g : TG} {tb : TS} {pos : Pos} (hp : PassesOwn (model X.prog X.w) X.A X.env X.xe) (hc : X.calm = true) (hi : PI X tg iter wi) (hg : PG X tg g) (hb : PSs X body tb)
  (hs : ∀ x, foldedSetIterable iter X.env x = pure x := by intro _; rfl) : PS X (.For tg iter body [] pos) (tFor wi g tb) := by
 intro pins s σ H D I h
 refine wpAny_For (thn (hi pins s σ H _ I h) fun v s1 h1 => thn h1 fun itv s2 h2 => ?_) hs
 obtain ⟨it, fp, tn, J, H2, e, I2, T, st2, f2, W, ⟨m0, w0⟩, turn⟩ := h2
 subst e
 have stat : ∀ {H' : Hp}, (∀ b ∈ fp, H' b = none) → ∀ b ∈ fp, FpOk X pins H' b := fun hn b hb => ⟨hn b hb, (f2 b hb).2⟩
 refine codeAny_forLoop_any (fun n s' => ∃ i σ' H', Inv X pins σ' H' s' ∧ tn i s'.heap ∧ (∀ b ∈ fp, H' b = none) ∧ W i n σ' H') ?_ m0 ⟨0, σ, H2, I2, st2, fun b hb => (f2 b hb).1, w0⟩
 rintro n s3 ⟨i, σ3, H3, I3, st3, fr3, w3⟩
 rcases turn i n σ3 H3 w3 with ⟨stop, qn⟩ | ⟨go, N, hN, step⟩
 ·refine wpAny_passesOwn hp (thn (T.done X rfl rfl rfl hc i pins s3 σ3 H3 X.xe I3 (stat fr3) st3 stop) fun r s4 ⟨hr, I4⟩ => ?_)
  subst hr
  exact wpAny_execs_nil ⟨σ3, H3, I4, qn⟩
 ·refine wpAny_passesOwn hp (thn (T.item X rfl rfl rfl hc i pins s3 σ3 H3 X.xe I3 (stat fr3) st3 go) fun r s4 ⟨u, hr, h4⟩ => ?_)
  subst hr
  refine wpAny_passesOwn hp (thn h4 fun _ s5 ⟨x, H5, I5, r5, y5, st5, fr5⟩ => ?_)
  have I5' := I5.pinned (stat fr5) (T.obj _ _ st5)
  refine wpAny_passesOwn hp (thn (hg _ s5 σ3 H5 x u _ I5' r5 (step x H5 y5)) fun _ s6 ⟨σ6, H6, I6, q6⟩ => ?_)
  refine wpAny_passesOwn hp (thn (hb _ s6 σ6 H6 _ I6 q6) fun f s7 q7 => ?_)
  have again : ∀ {σ7 : St} {H7 : Hp}, Inv X (pins ++ pinsAt fp s5.heap) σ7 H7 s7 → N σ7 H7 → ∃ m, m < n ∧ ∃ i σ' H', Inv X pins σ' H' s7 ∧ tn i s7.heap ∧ (∀ b ∈ fp, H' b = none) ∧ W i m σ' H' := fun {σ7 H7} I7 n7 => by
   obtain ⟨m', hm, w7⟩ := hN σ7 H7 n7
   refine ⟨m', hm, i + 1, σ7, H7, I7.unpinned, T.keep _ _ _ st5 fun b hb o e => (I7.pin (b, o) (List.mem_append_right _ (List.mem_append_right _ (mem_pinsAt hb e)))).1, fun b hb => ?_, w7⟩
   obtain ⟨o, e, d⟩ := T.obj _ _ st5 b hb
   exact (I7.pin (b, o) (List.mem_append_right _ (List.mem_append_right _ (mem_pinsAt hb e)))).2.1
  cases f with
  | next => obtain ⟨σ7, H7, I7, n7⟩ := q7; exact again I7 n7
  | cont => obtain ⟨σ7, H7, I7, n7⟩ := q7; exact again I7 n7
  | brk => obtain ⟨σ7, H7, I7, q7⟩ := q7; exact ⟨σ7, H7, I7.unpinned, q7⟩
  | ret v => obtain ⟨x7, σ7, H7, I7, r7, q7⟩ := q7; exact ⟨x7, σ7, H7, I7.unpinned, r7, q7⟩
end
theorem for_list {K : PySem.W.Frag} {a : Addr} {xs : List V} {g : TG} {tb : TS} {D : Ends} {σ : St} {H : Hp} (Pv : Nat → St → Hp → Prop) (h0 : Pv 0 σ H) (hl : ∀ i σ H, i ≤ xs.length → Pv i σ H → SqL K H a xs)
  (hs : ∀ i x σ H, xs[i]? = some x → Pv i σ H → g x σ H fun σ2 H2 => tb { D with nx := Pv (i + 1), ct := Pv (i + 1), bk := D.nx } σ2 H2) (hd : ∀ σ H, Pv xs.length σ H → D.nx σ H) :
  ∃ W : Nat → Nat → St → Hp → Prop, (∃ m, W 0 m σ H) ∧ ∀ i m σ H, W i m σ H →
   ((Itl K a).stop i H ∧ D.nx σ H) ∨ ((Itl K a).go i H ∧ ∃ N : St → Hp → Prop, (∀ σ' H', N σ' H' → ∃ m', m' < m ∧ W (i + 1) m' σ' H') ∧ ∀ x H', (Itl K a).yld i H x H' → g x σ H' fun σ2 H2 => tb { D with nx := N, ct := N, bk := D.nx } σ2 H2) := by
 refine ⟨fun i m σ H => m = xs.length - i ∧ i ≤ xs.length ∧ Pv i σ H, ⟨xs.length, by simp, Nat.zero_le _, h0⟩, ?_⟩
 rintro i m σ H ⟨rfl, hi, p⟩
 have q := hl i σ H hi p
 by_cases hlt : i < xs.length
 ·refine .inr ⟨⟨xs, xs[i], q, by simp [hlt]⟩, Pv (i + 1), fun σ' H' p' => ⟨xs.length - (i + 1), by omega, rfl, hlt, p'⟩, fun x H' y => ?_⟩
  obtain ⟨e, y⟩ := y
  subst e
  exact hs i x σ _ (y xs q) p
 ·have e : i = xs.length := by omega
  subst e
  exact .inl ⟨⟨xs, q, Nat.le_refl _⟩, hd σ H p⟩
theorem for_range {lo : Int} {n : Nat} {g : TG} {tb : TS} {D : Ends} {σ : St} {H : Hp} (Pv : Nat → St → Hp → Prop) (h0 : Pv 0 σ H)
  (hs : ∀ i σ H, i < n → Pv i σ H → g (.int (lo + i)) σ H fun σ2 H2 => tb { D with nx := Pv (i + 1), ct := Pv (i + 1), bk := D.nx } σ2 H2) (hd : ∀ σ H, Pv n σ H → D.nx σ H) :
  ∃ W : Nat → Nat → St → Hp → Prop, (∃ m, W 0 m σ H) ∧ ∀ i m σ H, W i m σ H →
   ((Itr lo n).stop i H ∧ D.nx σ H) ∨ ((Itr lo n).go i H ∧ ∃ N : St → Hp → Prop, (∀ σ' H', N σ' H' → ∃ m', m' < m ∧ W (i + 1) m' σ' H') ∧ ∀ x H', (Itr lo n).yld i H x H' → g x σ H' fun σ2 H2 => tb { D with nx := N, ct := N, bk := D.nx } σ2 H2) := by
 refine ⟨fun i m σ H => m = n - i ∧ i ≤ n ∧ Pv i σ H, ⟨n, by simp, Nat.zero_le _, h0⟩, ?_⟩
 rintro i m σ H ⟨rfl, hi, p⟩
 by_cases hlt : i < n
 ·refine .inr ⟨hlt, Pv (i + 1), fun σ' H' p' => ⟨n - (i + 1), by omega, rfl, hlt, p'⟩, fun x H' y => ?_⟩
  obtain ⟨e, y⟩ := y
  subst e y
  exact hs i σ _ hlt p
 ·have e : i = n := by omega
  subst e
  exact .inl ⟨Nat.le_refl _, hd σ H p⟩
end L2
namespace L2
open PySem PySem.Spec PyProof.Rows
abbrev R2 := V → V → Hp → VK → Prop
def OpR (X : Cx) (f : Value → Value → Sem Value) (r : R2) : Prop :=
 ∀ (pins : List (Addr × Obj)) (s : Shared) (σ : St) (H : Hp) (x y : V) (v u : Value) (Q : VK), Inv X pins σ H s → RelV x v → RelV y u → r x y H Q →
  wpAny (model X.prog X.w) X.A (f v u) (EP X pins σ Q) X.xe s
def UnR (X : Cx) (f : Value → Sem Value) (r : V → Hp → VK → Prop) : Prop :=
 ∀ (pins : List (Addr × Obj)) (s : Shared) (σ : St) (H : Hp) (x : V) (v : Value) (Q : VK), Inv X pins σ H s → RelV x v → r x H Q →
  wpAny (model X.prog X.w) X.A (f v) (EP X pins σ Q) X.xe s
def CallR (X : Cx) (f : Value) (r : List V → Hp → VK → Prop) : Prop :=
 ∀ (pins : List (Addr × Obj)) (s : Shared) (σ : St) (H : Hp) (xs : List V) (us : List Value) (Q : VK), Inv X pins σ H s → Vals xs us → r xs H Q →
  wpAny (model X.prog X.w) X.A (call f us) (EP X pins σ Q) X.xe s
def tOp (r : R2) (ta tb : TE) : TE := fun σ H Q => ta σ H fun x H1 => tb σ H1 fun y H2 => r x y H2 Q
def tUn (r : V → Hp → VK → Prop) (ta : TE) : TE := fun σ H Q => ta σ H fun x H1 => r x H1 Q
def rI (C : Int → Int → Prop) (g : Int → Int → V) : R2 := fun x y H Q => ∃ i j, x = .int i ∧ y = .int j ∧ C i j ∧ Q (g i j) H
def rI0 (g : Int → Int → V) : R2 := fun x y H Q => ∃ i j, x = .int i ∧ y = .int j ∧ Q (g i j) H
def rU (g : Int → V) : V → Hp → VK → Prop := fun x H Q => ∃ i, x = .int i ∧ Q (g i) H
section
variable {X : Cx} {a b c : Expr} {ta tb tc : TE} {pos : Pos}
theorem binT (ha : PE X a ta) (hb : PE X b tb) {pins : List (Addr × Obj)} {s : Shared} {σ : St} {H : Hp} {R : V → V → Hp → Prop} (I : Inv X pins σ H s)
  (h : ta σ H fun x H1 => tb σ H1 fun y H2 => R x y H2) {Q : Value → Shared → Prop} {f : Value → Value → Sem Value}
  (hf : ∀ v u s2 x y H2, Inv X pins σ H2 s2 → RelV x v → RelV y u → R x y H2 → wpAny (model X.prog X.w) X.A (f v u) Q X.xe s2) :
  wpAny (model X.prog X.w) X.A (eval a X.env) (fun v s₁ => wpAny (model X.prog X.w) X.A (eval b X.env) (fun u s₂ => wpAny (model X.prog X.w) X.A (f v u) Q X.xe s₂) X.xe s₁) X.xe s := by
 refine thn (ha pins s σ H _ I h) fun v s1 ⟨x, H1, I1, r1, q1⟩ => ?_
 refine thn (hb pins s1 σ H1 _ I1 q1) fun u s2 ⟨y, H2, I2, r2, q2⟩ => ?_
 exact hf v u s2 x y H2 I2 r1 r2 q2
theorem pe_op {op : Operator} {r : R2} (ho : OpR X (binaryOp op) r) (ha : PE X a ta) (hb : PE X b tb) : PE X (.BinOp a op b pos) (tOp r ta tb) := by
 intro pins s σ H Q I h
 exact wpAny_BinOp (binT ha hb I h fun v u s2 x y H2 I2 rx ry q => ho pins s2 σ H2 x y v u Q I2 rx ry q)
theorem pe_un {op : UnaryOp} {r : V → Hp → VK → Prop} (ho : UnR X (unaryOp op) r) (ha : PE X a ta) : PE X (.UnaryOp op a pos) (tUn r ta) := by
 intro pins s σ H Q I h
 exact UnaryOp_ (thn (ha pins s σ H _ I h) fun v s1 ⟨x, H1, I1, r1, q1⟩ => ho pins s1 σ H1 x v Q I1 r1 q1)
theorem opI {f : Value → Value → Sem Value} {C : Int → Int → Prop} {g : Int → Int → Int}
  (rule : ∀ (i j : Int) (t u : Tok) (s : Shared) (Q : Value → Shared → Prop) (E : Value → Shared → Prop), C i j → Q (.int (g i j) s.toks) { s with toks := s.toks + 1 } → wpAny (model X.prog X.w) X.A (f (.int i t) (.int j u)) Q E s) :
  OpR X f (rI C fun i j => .int (g i j)) := by
 intro pins s σ H x y v u Q I rx ry h
 obtain ⟨i, j, rfl, rfl, hc, q⟩ := h
 obtain ⟨t, rfl⟩ := rx
 obtain ⟨t', rfl⟩ := ry
 exact rule i j t t' s _ _ hc ⟨.int (g i j), H, I.tok _, ⟨_, rfl⟩, q⟩
theorem opI0 {f : Value → Value → Sem Value} {g : Int → Int → Int}
  (rule : ∀ (i j : Int) (t u : Tok) (s : Shared) (Q : Value → Shared → Prop) (E : Value → Shared → Prop), Q (.int (g i j) s.toks) { s with toks := s.toks + 1 } → wpAny (model X.prog X.w) X.A (f (.int i t) (.int j u)) Q E s) :
  OpR X f (rI0 fun i j => .int (g i j)) := by
 intro pins s σ H x y v u Q I rx ry h
 obtain ⟨i, j, rfl, rfl, q⟩ := h
 obtain ⟨t, rfl⟩ := rx
 obtain ⟨t', rfl⟩ := ry
 exact rule i j t t' s _ _ ⟨.int (g i j), H, I.tok _, ⟨_, rfl⟩, q⟩
theorem opB0 {f : Value → Value → Sem Value} {g : Int → Int → Bool}
  (rule : ∀ (i j : Int) (t u : Tok) (s : Shared) (Q : Value → Shared → Prop) (E : Value → Shared → Prop), Q (.bool (g i j)) s → wpAny (model X.prog X.w) X.A (f (.int i t) (.int j u)) Q E s) :
  OpR X f (rI0 fun i j => .bl (g i j)) := by
 intro pins s σ H x y v u Q I rx ry h
 obtain ⟨i, j, rfl, rfl, q⟩ := h
 obtain ⟨t, rfl⟩ := rx
 obtain ⟨t', rfl⟩ := ry
 exact rule i j t t' s _ _ ⟨.bl (g i j), H, I, rfl, q⟩
def CDiv (i j : Int) : Prop := 0 < j ∧ j < 1073741824
def CMul (i j : Int) : Prop := (-(2 ^ 64) < i ∧ i < 2 ^ 64) ∨ (-(2 ^ 64) < j ∧ j < 2 ^ 64)
theorem CMul.ok {i j : Int} (h : CMul i j) : IntMulOk i j := by
 rcases h with ⟨h1, h2⟩ | ⟨h1, h2⟩
 ·exact .of_left (intBits_le_64 h1 h2)
 ·exact .of_right (intBits_le_64 h1 h2)
theorem op_add : OpR X (binaryOp .Add) (rI0 fun i j => .int (i + j)) := opI0 fun _ _ _ _ _ _ _ q => add_int q
theorem op_sub : OpR X (binaryOp .Sub) (rI0 fun i j => .int (i - j)) := opI0 fun _ _ _ _ _ _ _ q => sub_int q
theorem op_mul : OpR X (binaryOp .Mult) (rI CMul fun i j => .int (i * j)) := opI fun _ _ _ _ _ _ _ hc q => mul_int q hc.ok
theorem op_fdiv : OpR X (binaryOp .FloorDiv) (rI CDiv fun i j => .int (i / j)) := opI fun i j _ _ _ _ _ hc q => by
 have h1 : (0 : Int) < j := hc.1
 have h2 : j < 1073741824 := hc.2
 exact floordiv_int (by omega) (by rw [Int.fdiv_eq_ediv_of_nonneg i (by omega)]; exact q) (.inl (PyProof.noPylong_small (by omega)))
theorem op_mod : OpR X (binaryOp .Mod) (rI (fun _ j => 0 < j) fun i j => .int (i % j)) := opI fun i j _ _ _ _ _ hc q => by
 have h1 : (0 : Int) < j := hc
 exact mod_int' (by omega) (by rw [Int.fmod_eq_emod_of_nonneg i (by omega)]; exact q)
theorem unI {f : Value → Sem Value} {g : Int → Int}
  (rule : ∀ (i : Int) (t : Tok) (s : Shared) (Q : Value → Shared → Prop) (E : Value → Shared → Prop), Q (.int (g i) s.toks) { s with toks := s.toks + 1 } → wpAny (model X.prog X.w) X.A (f (.int i t)) Q E s) :
  UnR X f (rU fun i => .int (g i)) := by
 intro pins s σ H x v Q I rx h
 obtain ⟨i, rfl, q⟩ := h
 obtain ⟨t, rfl⟩ := rx
 exact rule i t s _ _ ⟨.int (g i), H, I.tok _, ⟨_, rfl⟩, q⟩
theorem un_neg : UnR X (unaryOp .USub) (rU fun i => .int (-i)) := unI fun _ _ _ _ _ q => neg_int q
end
def scal : V → V → Bool
 | .non, .non => true | .non, .int _ => true | .int _, .non => true | .non, .bl _ => true | .bl _, .non => true | .non, .str _ => true | .str _, .non => true
 | .int _, .int _ => true | .bl _, .bl _ => true | .str _, .str _ => true | .byt _, .byt _ => true
 | .int _, .str _ => true | .str _, .int _ => true | .bl _, .str _ => true | .str _, .bl _ => true
 | _, _ => false
def rEq : R2 := fun x y H Q => scal x y = true ∧ Q (.bl (decide (x = y))) H
def rNe : R2 := fun x y H Q => scal x y = true ∧ Q (.bl (!decide (x = y))) H
theorem dec_int {i j : Int} : decide (V.int i = V.int j) = (i == j) := by
 rw [Bool.eq_iff_iff]
 simp
theorem dec_bl {i j : Bool} : decide (V.bl i = V.bl j) = (i == j) := by
 rw [Bool.eq_iff_iff]
 simp
theorem dec_str {i j : Str} : decide (V.str i = V.str j) = (i == j) := by
 rw [Bool.eq_iff_iff]
 simp
theorem dec_byt {i j : Array UInt8} : decide (V.byt i = V.byt j) = (i.toList == j.toList) := by
 rw [Bool.eq_iff_iff]
 cases i
 cases j
 simp
section
variable {X : Cx} {a b c : Expr} {ta tb tc : TE} {pos : Pos}
theorem fin_bl {pins : List (Addr × Obj)} {σ : St} {H : Hp} {s : Shared} {Q : VK} {k k' : Bool} (I : Inv X pins σ H s) (q : Q (.bl k) H) (e : k = k') : EP X pins σ Q (.bool k') s := by
 subst e
 exact ⟨.bl k, H, I, rfl, q⟩
theorem op_eq : OpR X (compareOp .Eq) rEq := by
 intro pins s σ H x y v u Q I rx ry h
 obtain ⟨hs, q⟩ := h
 cases x with
 | non =>
  cases rx
  cases y with
  | non => cases ry; exact PySem.EqNone.eq_none_none (fin_bl I q (by simp))
  | bl j => cases ry; exact PySem.EqNone.eq_none_bool (fin_bl I q (by simp))
  | int j => obtain ⟨t', rfl⟩ := ry; exact PySem.EqNone.eq_none_int (fin_bl I q (by simp))
  | str j => obtain ⟨t', rfl⟩ := ry; exact PySem.EqNone.eq_none_str (fin_bl I q (by simp))
  | _ => exact absurd (show false = true from hs) Bool.false_ne_true
 | bl i =>
  cases rx
  cases y with
  | non => cases ry; exact PySem.EqNone.eq_bool_none (fin_bl I q (by simp))
  | bl j => cases ry; exact eq_bool (fin_bl I q dec_bl)
  | str j => obtain ⟨t', rfl⟩ := ry; exact PySem.EqMixed.eq_bool_str (fin_bl I q (by simp))
  | _ => exact absurd (show false = true from hs) Bool.false_ne_true
 | int i =>
  obtain ⟨t, rfl⟩ := rx
  cases y with
  | non => cases ry; exact PySem.EqNone.eq_int_none (fin_bl I q (by simp))
  | int j => obtain ⟨t', rfl⟩ := ry; exact eq_int (fin_bl I q dec_int)
  | str j => obtain ⟨t', rfl⟩ := ry; exact PySem.EqMixed.eq_int_str (fin_bl I q (by simp))
  | _ => exact absurd (show false = true from hs) Bool.false_ne_true
 | str i =>
  obtain ⟨t, rfl⟩ := rx
  cases y with
  | non => cases ry; exact PySem.EqNone.eq_str_none (fin_bl I q (by simp))
  | bl j => cases ry; exact PySem.EqMixed.eq_str_bool (fin_bl I q (by simp))
  | int j => obtain ⟨t', rfl⟩ := ry; exact PySem.EqMixed.eq_str_int (fin_bl I q (by simp))
  | str j => obtain ⟨t', rfl⟩ := ry; exact eq_str (fin_bl I q dec_str)
  | _ => exact absurd (show false = true from hs) Bool.false_ne_true
 | byt i =>
  obtain ⟨t, rfl⟩ := rx
  cases y with
  | byt j => obtain ⟨t', rfl⟩ := ry; exact PySem.W.eq_bytes (fin_bl I q dec_byt)
  | _ => exact absurd (show false = true from hs) Bool.false_ne_true
 | _ => cases y <;> exact absurd (show false = true from hs) Bool.false_ne_true
theorem op_ne : OpR X (compareOp .NotEq) rNe := by
 intro pins s σ H x y v u Q I rx ry h
 obtain ⟨hs, q⟩ := h
 cases x with
 | non =>
  cases rx
  cases y with
  | non => cases ry; exact PySem.EqNone.ne_none_none (fin_bl I q (by simp))
  | bl j => cases ry; exact PySem.EqNone.ne_none_bool (fin_bl I q (by simp))
  | int j => obtain ⟨t', rfl⟩ := ry; exact PySem.EqNone.ne_none_int (fin_bl I q (by simp))
  | str j => obtain ⟨t', rfl⟩ := ry; exact PySem.EqNone.ne_none_str (fin_bl I q (by simp))
  | _ => exact absurd (show false = true from hs) Bool.false_ne_true
 | bl i =>
  cases rx
  cases y with
  | non => cases ry; exact PySem.EqNone.ne_bool_none (fin_bl I q (by simp))
  | bl j => cases ry; exact ne_bool (fin_bl I q (congrArg not dec_bl))
  | str j => obtain ⟨t', rfl⟩ := ry; exact PySem.EqMixed.ne_bool_str (fin_bl I q (by simp))
  | _ => exact absurd (show false = true from hs) Bool.false_ne_true
 | int i =>
  obtain ⟨t, rfl⟩ := rx
  cases y with
  | non => cases ry; exact PySem.EqNone.ne_int_none (fin_bl I q (by simp))
  | int j => obtain ⟨t', rfl⟩ := ry; exact ne_int (fin_bl I q (congrArg not dec_int))
  | str j => obtain ⟨t', rfl⟩ := ry; exact PySem.EqMixed.ne_int_str (fin_bl I q (by simp))
  | _ => exact absurd (show false = true from hs) Bool.false_ne_true
 | str i =>
  obtain ⟨t, rfl⟩ := rx
  cases y with
  | non => cases ry; exact PySem.EqNone.ne_str_none (fin_bl I q (by simp))
  | bl j => cases ry; exact PySem.EqMixed.ne_str_bool (fin_bl I q (by simp))
  | int j => obtain ⟨t', rfl⟩ := ry; exact PySem.EqMixed.ne_str_int (fin_bl I q (by simp))
  | str j => obtain ⟨t', rfl⟩ := ry; exact ne_str (fin_bl I q (congrArg not dec_str))
  | _ => exact absurd (show false = true from hs) Bool.false_ne_true
 | byt i =>
  obtain ⟨t, rfl⟩ := rx
  cases y with
  | byt j => obtain ⟨t', rfl⟩ := ry; exact PySem.W.ne_bytes (fin_bl I q (congrArg not dec_byt))
  | _ => exact absurd (show false = true from hs) Bool.false_ne_true
 | _ => cases y <;> exact absurd (show false = true from hs) Bool.false_ne_true
theorem op_lt : OpR X (compareOp .Lt) (rI0 fun i j => .bl (decide (i < j))) := opB0 fun _ _ _ _ _ _ _ q => lt_int q
theorem op_gt : OpR X (compareOp .Gt) (rI0 fun i j => .bl (decide (j < i))) := opB0 fun _ _ _ _ _ _ _ q => gt_int q
theorem op_notin_str : OpR X (compareOp .NotIn) (fun x y H Q => ∃ i j, x = .str i ∧ y = .str j ∧ Q (.bl (!(!(Builtin.Str.occurrences j i 0 j.length 1).isEmpty))) H) := by
 intro pins s σ H x y v u Q I rx ry h
 obtain ⟨i, j, rfl, rfl, q⟩ := h
 obtain ⟨t, rfl⟩ := rx
 obtain ⟨t', rfl⟩ := ry
 exact notIn_str (fin_bl I q rfl)
theorem nomark (b : Expr) {op : CmpOp} (h : op ≠ .In := by decide) (h2 : op ≠ .NotIn := by decide) : behindInMarks op b = false := by
 have e1 : (op == CmpOp.In) = false := by cases op <;> first | rfl | exact absurd rfl h
 have e2 : (op == CmpOp.NotIn) = false := by cases op <;> first | rfl | exact absurd rfl h2
 cases b <;> simp [behindInMarks, e1, e2]
theorem pe_cmpR {op : CmpOp} {r : R2} (ho : OpR X (compareOp op) r) (ha : PE X a ta) (hb : PE X b tb) (hm : behindInMarks op b = false) : PE X (.Compare a [op] [b] pos) (tOp r ta tb) := by
 intro pins s σ H Q I h
 exact wpAny_Compare1 (binT ha hb I h fun v u s2 x y H2 I2 rx ry q => ho pins s2 σ H2 x y v u Q I2 rx ry q) hm
def tTest (t : TE) : TT := fun σ H Q => t σ H fun x H' => ∃ k, x = .bl k ∧ Q k H'
theorem pt_cmpR {op : CmpOp} {r : R2} (ho : OpR X (compareOp op) r) (ha : PE X a ta) (hb : PE X b tb) (hm : behindInMarks op b = false) : PT X (.Compare a [op] [b] pos) (tTest (tOp r ta tb)) := by
 intro pins s σ H Q I h
 refine wpAny_isTrue_Compare1 (thn (ha pins s σ H _ I h) fun v s1 ⟨x, H1, I1, r1, q1⟩ => thn (hb pins s1 σ H1 _ I1 q1) fun u s2 ⟨y, H2, I2, r2, q2⟩ =>
  thn (ho pins s2 σ H2 x y v u _ I2 r1 r2 q2) fun c s3 ⟨z, H3, I3, r3, k, e, q3⟩ => ?_) hm
 subst e
 cases r3
 exact wpAny_truthy_bool ⟨H3, I3, q3⟩
theorem line63 : (sizeLine : Nat) < 2 ^ 63 := by rw [sizeLine_eq]; decide
theorem op_add_str : OpR X (binaryOp .Add) (fun x y H Q => ∃ i j, x = .str i ∧ y = .str j ∧ i.length + j.length ≤ sizeLine ∧ Q (.str (i ++ j)) H) := by
 intro pins s σ H x y v u Q I rx ry h
 obtain ⟨i, j, rfl, rfl, hz, q⟩ := h
 obtain ⟨t, rfl⟩ := rx
 obtain ⟨t', rfl⟩ := ry
 exact add_str (fun t' tk => ⟨.str (i ++ j), H, I.tok _, ⟨_, rfl⟩, q⟩) hz
theorem vals1 {x : V} {us : List Value} (r : Vals [x] us) : ∃ u, us = [u] ∧ RelV x u := by
 cases r with
 | cons r1 r2 => cases r2; exact ⟨_, rfl, r1⟩
theorem vals2 {x y : V} {us : List Value} (r : Vals [x, y] us) : ∃ u w', us = [u, w'] ∧ RelV x u ∧ RelV y w' := by
 cases r with
 | cons r1 r2 =>
  cases r2 with
  | cons r3 r4 => cases r4; exact ⟨_, _, rfl, r1, r3⟩
theorem call_min2 (hc : X.calm = true) : CallR X (.builtin "min") (fun xs H Q => ∃ i j, xs = [.int i, .int j] ∧ Q (.int (if j < i then j else i)) H) := by
 intro pins s σ H xs us Q I r h
 obtain ⟨i, j, rfl, q⟩ := h
 obtain ⟨u, w', rfl, ⟨t, rfl⟩, ⟨t', rfl⟩⟩ := vals2 r
 refine min_two_ints (I.ok.hd hc) fun h' tk k => ⟨_, H, I.kept k, ?_, q⟩
 by_cases hj : j < i
 ·rw [if_pos hj, if_pos hj]; exact ⟨_, rfl⟩
 ·rw [if_neg hj, if_neg hj]; exact ⟨_, rfl⟩
end
end L2
namespace L2
open PySem PySem.Spec PyProof.Rows
structure ObjM (h : Heap) (x dx C : Addr) (mA : Str → Option Value) : Prop where
 obj : h.get? x = some (PySem.W.instObj C dx)
 ns : h.Ns1 dx mA
 ne : dx ≠ x
theorem lookIn_ns {h : Heap} {dx : Addr} {mA : Str → Option Value} (n : h.Ns1 dx mA) : ∃ od, h.get? dx = some od ∧ ∀ name, PySem.W.lookIn name od = some (mA name) := by
 obtain ⟨o, es, ep, ho, hd, hk, _, hm⟩ := n
 refine ⟨o, ho, fun name => ?_⟩
 have e := hm name
 unfold nsFind findBy at e
 rw [← Array.find?_toList] at e
 unfold PySem.W.lookIn
 rw [hd]
 dsimp only
 split
 ·rename_i y q
  rw [q] at e
  exact congrArg some e
 ·rename_i q
  rw [q] at e
  have a : es.toList.any (·.refKey) = false := by
   rw [List.any_eq_false]
   intro y hy
   obtain ⟨z, t, hkey⟩ := hk y (Array.mem_toList_iff.mp hy)
   simp [DictEntry.refKey, hkey]
  have a' : ¬ es.toList.any (·.refKey) = true := by rw [a]; exact Bool.false_ne_true
  rw [if_neg a']
  exact congrArg some e
theorem ObjM.look {h : Heap} {x dx C : Addr} {mA : Str → Option Value} (I : ObjM h x dx C mA) : ∃ od, PySem.W.InstAt h x (PySem.W.instObj C dx) C (some od) ∧ ∀ name, PySem.W.lookIn name od = some (mA name) :=
 let ⟨od, ho, hl⟩ := lookIn_ns I.ns
 ⟨od, ⟨I.obj, rfl, rfl, ho⟩, hl⟩
section
variable {prog : Program} {w : World} {A : Around} {E : Value → Shared → Prop} {s : Shared} {K : PySem.W.Frag} {x dx C f : Addr} {mA : Str → Option Value} {name : Str} {v : Value}
theorem set_map {ns : List Str} {Q : Unit → Shared → Prop} (X : K.In s.heap) (I : ObjM s.heap x dx C mA)
  (hs : PySem.W.findIn K (.ref C) "__setattr__" = some (some (.builtin "object.__setattr__"))) (hp : PySem.W.plainOver K C = true) (ht : PySem.W.takerIn K C name = some none) (hh : PySem.W.hasDictIn K C = true)
  (hw : PySem.Within mA ns) (hsz : ns.length ≤ sizeLine)
  (h : ∀ h', ObjM h' x dx C (fun y => if y = name then some v else mA y) → Heap.SameBut dx s.heap h' → Q () { s with heap := h', toks := s.toks + 2 }) :
  wpAny (model prog w) A (setAttr (.ref x) name v) Q E s := by
 obtain ⟨od, J, hl⟩ := I.look
 refine PySem.W.set_plain X J hs (PySem.W.osa_open (s := { s with toks := s.toks + 1 }) (r := none) X J hp ht fun b => ?_)
 obtain ⟨cd, hc, hd'⟩ := PySem.W.any_some hh
 have hx : s.heap.get? x = some ⟨.ref C, some dx, .plain, #[]⟩ := I.obj
 refine wpAny_bind (wpAny_pure (wpAny_bind (wpAny_bind (wpAny_loadPart hx (wpAny_bind (PySem.W.Looks.here (s := { s with toks := s.toks + 1 }) (PySem.W.looks_clsIn X hc) ?_))))))
 rw [hd']
 refine wpAny_pure (a := some dx) (wpAny_bind (wpAny_pure (wpAny_bind ?_)))
 refine wpAny_nsSet1 (s := { s with toks := s.toks + 1 }) I.ns fun h' hn2 hs2 => ?_
 obtain ⟨oD, esD, epD, hoD, hdD, hcD⟩ := hn2.count (PySem.Within.cons name v hw)
 refine wpAny_bind (wpAny_lookBehind hoD (by rw [hdD]; exact pastItsLine_dict (Nat.le_trans hcD (by rw [List.length_cons]; omega))) ?_)
 exact wpAny_pure (h _ ⟨(hs2.2 _ (Ne.symm I.ne)).trans I.obj, hn2, I.ne⟩ hs2)
theorem make_map {R : Result → Shared → Prop} {vs : List Value} {kw : List (Str × Value)} (X : K.In s.heap) (hm : PySem.W.makesIn K C = true)
  (hi : PySem.W.findIn K (.ref C) "__init__" = some (some (.ref f))) (hf : PySem.W.typeIn K (.ref f) = some (.type "function"))
  (h : codeAny (model prog w) (A.under (.builtin "type.__call__" ⟨.ref C :: vs, kw⟩)) (.call (.ref f) ⟨.ref (s.heap.objs.size + 1) :: vs, kw⟩) (PySem.W.InitBack (s.heap.objs.size + 1) R)
   { s with heap := (s.heap.push PySem.W.emptyDict).push (PySem.W.instObj C s.heap.objs.size) }) :
  codeAny (model prog w) A (.call (.ref C) ⟨vs, kw⟩) R s := by
 obtain ⟨hh, g, d, t, os⟩ := s
 exact PySem.W.make_core (PySem.W.makes_of X hm) (PySem.W.looks_findIn X hi) (fun self => PySem.W.bind_fn X self hf) (.inl rfl) h
end
def putF (f : Str) (v : V) : List (Str × V) → List (Str × V)
 | [] => [(f, v)]
 | (g, x) :: r => if g = f then (g, v) :: r else (g, x) :: putF f v r
theorem lookup_putF (f g : Str) (v : V) : ∀ fs : List (Str × V), (putF f v fs).lookup g = if g = f then some v else fs.lookup g
 | [] => by
  show List.lookup g [(f, v)] = _
  by_cases h : g = f
  ·have hb : (g == f) = true := beq_iff_eq.mpr h
   simp only [List.lookup, hb, if_pos h]
  ·have hb : (g == f) = false := beq_eq_false_iff_ne.mpr h
   simp only [List.lookup, hb, if_neg h]
 | (k, x) :: r => by
  have ih := lookup_putF f g v r
  rw [show putF f v ((k, x) :: r) = (if k = f then (k, v) :: r else (k, x) :: putF f v r) from rfl]
  by_cases hk : k = f
  ·rw [if_pos hk]
   by_cases h : g = k
   ·have hb : (g == k) = true := beq_iff_eq.mpr h
    simp only [List.lookup, hb, if_pos (h.trans hk)]
   ·have hb : (g == k) = false := beq_eq_false_iff_ne.mpr h
    simp only [List.lookup, hb, if_neg (fun e : g = f => h (e.trans hk.symm))]
  ·rw [if_neg hk]
   by_cases h : g = k
   ·have hb : (g == k) = true := beq_iff_eq.mpr h
    simp only [List.lookup, hb, if_neg (fun e : g = f => hk (h.symm.trans e))]
   ·have hb : (g == k) = false := beq_eq_false_iff_ne.mpr h
    simp only [List.lookup, hb]
    exact ih
theorem keys_putF (f : Str) (v : V) : ∀ fs : List (Str × V), f ∈ (putF f v fs).map (·.1) ∧ ∀ g, g ∈ fs.map (·.1) → g ∈ (putF f v fs).map (·.1)
 | [] => ⟨by simp [putF], fun g h => by simp at h⟩
 | (k, x) :: r => by
  obtain ⟨i1, i2⟩ := keys_putF f v r
  rw [show putF f v ((k, x) :: r) = (if k = f then (k, v) :: r else (k, x) :: putF f v r) from rfl]
  by_cases hk : k = f
  ·rw [if_pos hk]
   subst hk
   exact ⟨by simp, fun g h => by simpa using h⟩
  ·rw [if_neg hk]
   refine ⟨?_, fun g h => ?_⟩
   ·rw [List.map_cons]
    exact List.mem_cons_of_mem _ i1
   ·rw [List.map_cons] at h ⊢
    rcases List.mem_cons.mp h with e | e
    ·exact List.mem_cons.mpr (.inl e)
    ·exact List.mem_cons_of_mem _ (i2 g e)
theorem length_putF (f : Str) (v : V) : ∀ fs : List (Str × V), (putF f v fs).length ≤ fs.length + 1
 | [] => by simp [putF]
 | (k, x) :: r => by
  have ih := length_putF f v r
  rw [show putF f v ((k, x) :: r) = (if k = f then (k, v) :: r else (k, x) :: putF f v r) from rfl]
  by_cases hk : k = f
  ·rw [if_pos hk, List.length_cons, List.length_cons]; omega
  ·rw [if_neg hk, List.length_cons, List.length_cons]; omega
theorem RelO.some_of {v : V} {o : Option Value} (r : RelO (some v) o) : ∃ u, o = some u ∧ RelV v u := by
 cases o with
 | none => exact (show False from r).elim
 | some u => exact ⟨u, rfl, r⟩
section
variable {P : Program} {w : World} {H H' : Hp} {h h' : Heap} {a C dx : Addr} {fs fs' : List (Str × V)}
theorem ins_get (hok : HOk P w H h) (e : H a = some (.ins C dx fs)) : ∃ mA, ObjM h a dx C mA ∧ (∀ f, RelO (fs.lookup f) (mA f)) ∧ PySem.Within mA (fs.map (·.1)) ∧ fs.length ≤ 1000 ∧ H dx = some (.own a) := by
 obtain ⟨d, z, ne, ob, mA, n, r, q⟩ := (show ObjOk P w H h a (.ins C dx fs) from hok a _ e)
 exact ⟨mA, ⟨ob, n, ne⟩, r, q, z, d⟩
end
structure Cls (K : PySem.W.Frag) (C : Addr) : Prop where
 pg : PySem.W.plainGet K C Str.empty = true
 hd : PySem.W.hasDictIn K C = true
 po : PySem.W.plainOver K C = true
 sa : PySem.W.findIn K (.ref C) "__setattr__" = some (some (.builtin "object.__setattr__"))
theorem Cls.get {K : PySem.W.Frag} {C : Addr} (c : Cls K C) (f : Str) : PySem.W.plainGet K C f = true := c.pg
def NoAttr (K : PySem.W.Frag) (C : Addr) (f : Str) : Prop := PySem.W.findIn K (.ref C) f = some none
theorem NoAttr.taker {K : PySem.W.Frag} {C : Addr} {f : Str} (n : NoAttr K C f) : PySem.W.takerIn K C f = some none := by
 unfold PySem.W.takerIn
 rw [show PySem.W.findIn K (.ref C) f = some none from n]
 rfl
structure Meth (K : PySem.W.Frag) (C : Addr) (m : Str) (f : Addr) : Prop where
 at_ : PySem.W.findIn K (.ref C) m = some (some (.ref f))
 fn : PySem.W.isFn K (.ref f) = true
 kp : PySem.W.keepIn K (.ref f) = true
section
variable {X : Cx} {pins : List (Addr × Obj)} {σ : St} {H : Hp} {s : Shared} {a C dx : Addr} {fs : List (Str × V)} {f : Str} {v : V} {A : Around} {E : Value → Shared → Prop}
theorem setattr_ok {y : V} {u : Value} {Q : Unit → Shared → Prop} (I : Inv X pins σ H s) (e : H a = some (.ins C dx fs)) (c : Cls X.K C) (n : NoAttr X.K C f) (hl : fs.length < 1000) (ry : RelV y u)
  (h : ∀ s', Inv X pins σ (upd H a (.ins C dx (putF f y fs))) s' → Q () s') : wpAny (model X.prog X.w) A (setAttr (.ref a) f u) Q E s := by
 obtain ⟨mA, O, r, wi, _, ho⟩ := ins_get I.hok e
 have hz : (fs.map (·.1)).length ≤ sizeLine := by rw [List.length_map, sizeLine_eq]; omega
 refine set_map I.kIn O c.sa c.po n.taker c.hd wi hz fun h' O' sb => h _ ?_
 have hd : ∃ o, h'.get? dx = some o := let ⟨o, _, _, e', _⟩ := O'.ns; ⟨o, e'⟩
 refine I.write (x := a) (e := dx) (by rw [e]; exact True.intro) (.inr ho) (fun b q hb z => (sb.2 b hb).trans z) hd ?_
 refine ⟨by rw [upd_ne O.ne]; exact ho, ?_, O.ne, O'.obj, _, O'.ns, fun g => ?_, fun g hg => ?_⟩
 ·have := length_putF f y fs; omega
 ·show RelO ((putF f y fs).lookup g) (if g = f then some u else mA g)
  rw [lookup_putF]
  by_cases q : g = f
  ·rw [if_pos q, if_pos q]; exact ry
  ·rw [if_neg q, if_neg q]; exact r g
 ·by_cases q : g = f
  ·rw [q]; exact (keys_putF f y fs).1
  ·refine (keys_putF f y fs).2 g (wi g fun z => hg ?_)
   show (if g = f then some u else mA g) = none
   rw [if_neg q]; exact z
theorem Inv.made (I : Inv X pins σ H s) : Inv X pins σ (upd (upd H s.heap.objs.size (.own (s.heap.objs.size + 1))) (s.heap.objs.size + 1) (.ins C s.heap.objs.size []))
  { s with heap := (s.heap.push PySem.W.emptyDict).push (PySem.W.instObj C s.heap.objs.size) } := by
 have e1 : (s.heap.push PySem.W.emptyDict).get? s.heap.objs.size = some PySem.W.emptyDict := Heap.get?_push_size s.heap rfl
 have e2 : ((s.heap.push PySem.W.emptyDict).push (PySem.W.instObj C s.heap.objs.size)).get? (s.heap.objs.size + 1) = some (PySem.W.instObj C s.heap.objs.size) := by
  have := Heap.get?_push_size (s.heap.push PySem.W.emptyDict) (o := PySem.W.instObj C s.heap.objs.size) rfl
  rwa [Heap.size_push] at this
 have e3 : (s.heap.push PySem.W.emptyDict).Ns s.heap.objs.size (fun _ => none) := ⟨PySem.W.emptyDict, #[], _, e1, rfl, (fun e he => absurd he (by simp)), fun _ => rfl⟩
 have I1 := I.laid (a := s.heap.objs.size) (o := .own (s.heap.objs.size + 1)) (h' := s.heap.push PySem.W.emptyDict) (t' := s.toks) (fun b u q => Heap.get?_push_of_some _ q) (Nat.le_refl _) ⟨_, e1⟩
 refine I1.laid (a := s.heap.objs.size + 1) (o := .ins C s.heap.objs.size []) (t' := s.toks) (fun b u q => Heap.get?_push_of_some _ q) (Nat.le_of_eq (Heap.size_push _ _)) ?_
 have ne : s.heap.objs.size ≠ s.heap.objs.size + 1 := Nat.ne_of_lt (Nat.lt_succ_self _)
 refine ⟨by rw [upd_ne ne, upd_same], Nat.zero_le _, ne, e2, fun _ => none, (Heap.Ns1.of_empty e3).at fun o q => Heap.get?_push_of_some _ q, fun _ => True.intro, fun y hy => absurd rfl hy⟩
end
def sFld (K : PySem.W.Frag) (ta tv : TE) (f : Str) : TS := fun D σ H => tv σ H fun y H1 => ta σ H1 fun x H2 => ∃ a C dx fs, x = .ref a ∧ H2 a = some (.ins C dx fs) ∧ Cls K C ∧ NoAttr K C f ∧ fs.length < 1000 ∧
 D.nx σ (upd H2 a (.ins C dx (putF f y fs)))
section
variable {X : Cx} {o e value : Expr} {f : Str} {pos pos' tpos : Pos} {ta tv : TE}
theorem ps_fld (ha : PE X o ta) (hv : PE X value tv) (hs : swapsWith value (some (.Attribute o f pos')) pos.line X.env = pure false) : PS X (.Assign [.Attribute o f pos'] value pos) (sFld X.K ta tv f) := by
 intro pins s σ H D I h
 refine plainObj_wpAny_Assign_Attribute (thn (hv pins s σ H _ I h) fun u s1 ⟨y, H1, I1, ry, q⟩ => thn (ha pins s1 σ H1 _ I1 q) fun ov s2 hz => ?_) hs
 obtain ⟨x, H2, I2, rx, a, C, dx, fs, ex, ea, c, n, l, q2⟩ := hz
 subst ex
 obtain rfl : ov = Value.ref a := rx
 exact setattr_ok I2 ea c n l ry fun s3 I3 => ⟨σ, _, I3, q2⟩
end
section
variable {X : Cx} {pins : List (Addr × Obj)} {σ : St} {H : Hp} {s : Shared} {A : Around} {E : Value → Shared → Prop} {Q : Value → Shared → Prop} {c : Value} {b : Bool}
inductive TyOf (K : PySem.W.Frag) (H : Hp) : V → Value → Prop where
 | non : TyOf K H .non (.type "NoneType")
 | bl (x : Bool) : TyOf K H (.bl x) (.type "bool")
 | int (i : Int) : TyOf K H (.int i) (.type "int")
 | str (x : Str) : TyOf K H (.str x) (.type "str")
 | flt (x : UInt64) : TyOf K H (.flt x) (.type "float")
 | lst {a : Addr} {xs : List V} (e : H a = some (.lst xs)) : TyOf K H (.ref a) (.type "list")
 | frz {a : Addr} {o : Obj} {xs : List V} (e : H a = some (.frz o (.lst xs))) : TyOf K H (.ref a) (.type "list")
 | tup {a : Addr} {xs : List V} (e : H a = some (.tup xs)) : TyOf K H (.ref a) (.type "tuple")
 | dK {a : Addr} {kvs : List (Key × V)} (e : H a = some (.dK kvs)) : TyOf K H (.ref a) (.type "dict")
 | dT {a : Addr} {kvs : List (List Key × V)} (e : H a = some (.dT kvs)) : TyOf K H (.ref a) (.type "dict")
 | ins {a C dx : Addr} {fs : List (Str × V)} (e : H a = some (.ins C dx fs)) (cl : Cls K C) (ha : PySem.W.findIn K (.ref C) "__class__" = some (some (.builtin "object.__class__")))
   (hn : PySem.W.specialIn K (.builtin "object.__class__") "__get__" = some (some (.builtin "getset_descriptor.__get__"))) (htk : PySem.W.takesIn K (.builtin "object.__class__") = some true)
   (hm : PySem.W.mroIn K C (.type "object") = some true) : TyOf K H (.ref a) (.ref C)
theorem isinst_ok {x : V} {u t : Value} (I : Inv X pins σ H s) (rx : RelV x u) (ty : TyOf X.K H x t) (e : PySem.W.kitOne X.K t c = some b) (h : ∀ tk, Q (.bool b) { s with toks := tk }) :
  wpAny (model X.prog X.w) A (call (.builtin "isinstance") [u, c]) Q E s := by
 cases ty with
 | non => cases (show u = Value.none from rx); exact PySem.W.kia_one PySem.W.kitx_none I.kIn True.intro e (fun z => nomatch z) h
 | bl y => cases (show u = Value.bool y from rx); exact PySem.W.kia_one PySem.W.kitx_bool I.kIn True.intro e (fun z => nomatch z) h
 | int i => obtain ⟨t, q⟩ := (show ∃ t, u = Value.int i t from rx); cases q; exact PySem.W.kia_one PySem.W.kitx_int I.kIn True.intro e (fun z => nomatch z) h
 | str y => obtain ⟨t, q⟩ := (show ∃ t, u = Value.str y t from rx); cases q; exact PySem.W.kia_one PySem.W.kitx_str I.kIn True.intro e (fun z => nomatch z) h
 | flt y => obtain ⟨t, q⟩ := (show ∃ t, u = Value.float y t from rx); cases q; exact PySem.W.kia_one PySem.W.kitx_float I.kIn True.intro e (fun z => nomatch z) h
 | @lst a xs ea =>
  cases (show u = Value.ref a from rx)
  obtain ⟨_, _, n, _, h1⟩ := (show ObjOk X.prog X.w H s.heap a (.lst xs) from I.hok a _ ea)
  exact PySem.W.kia_one PySem.W.kitx_list I.kIn ⟨_, h1, rfl⟩ e (fun z => nomatch z) h
 | @frz a ob xs ea =>
  cases (show u = Value.ref a from rx)
  obtain ⟨_, _, _, n, _, h1⟩ := (show ObjOk X.prog X.w H s.heap a (.frz ob (.lst xs)) from I.hok a _ ea)
  exact PySem.W.kia_one PySem.W.kitx_list I.kIn ⟨_, h1, rfl⟩ e (fun z => nomatch z) h
 | @tup a xs ea =>
  cases (show u = Value.ref a from rx)
  obtain ⟨_, _, _, p⟩ := (show ObjOk X.prog X.w H s.heap a (.tup xs) from I.hok a _ ea)
  obtain ⟨o, h1, h2, _⟩ := p
  exact PySem.W.kia_one PySem.W.kitx_tuple I.kIn ⟨o, h1, h2⟩ e (fun z => nomatch z) h
 | @dK a kvs ea =>
  cases (show u = Value.ref a from rx)
  obtain ⟨_, _, vs, _, p⟩ := (show ObjOk X.prog X.w H s.heap a (.dK kvs) from I.hok a _ ea)
  obtain ⟨o, es, ep, h1, h2, _⟩ := p
  exact PySem.W.kia_one PySem.W.kitx_dict I.kIn ⟨o, h1, h2.1⟩ e (fun z => nomatch z) h
 | @dT a kvs ea =>
  cases (show u = Value.ref a from rx)
  obtain ⟨_, _, xs, _, o, es, ep, h1, h2, _⟩ := (show ObjOk X.prog X.w H s.heap a (.dT kvs) from I.hok a _ ea)
  exact PySem.W.kia_one PySem.W.kitx_dict I.kIn ⟨o, h1, h2.1⟩ e (fun z => nomatch z) h
 | @ins a C dx fs ea cl ha hn htk hm =>
  cases (show u = Value.ref a from rx)
  obtain ⟨mA, O, _⟩ := ins_get I.hok ea
  obtain ⟨od, J, _⟩ := O.look
  exact PySem.W.kia_one (PySem.W.kitx_own (cl.get _) cl.hd ha hn htk hm) I.kIn J e (fun z => nomatch z) h
end
end L2
namespace L2
open PySem PySem.Spec PyProof.Rows
structure Room (k : Nat) (A : Around) : Prop where
 hd : A.handled = none
 dp : A.depth + 3 * k + 5 < recursionLimit
 un : A.units + 16 * k + 200 < cLine
theorem Room.mono {j k : Nat} {A : Around} (r : Room k A) (h : j ≤ k) : Room j A := ⟨r.hd, by have := r.dp; omega, by have := r.un; omega⟩
theorem Room.deeper {k : Nat} {A : Around} (r : Room (k + 1) A) (env : Env) : Room k (A.deeper env) :=
 ⟨r.hd, by have := r.dp; show A.depth + 1 + 3 * k + 5 < _; omega, by have := r.un; show A.units + 3 + 16 * k + 200 < _; omega⟩
theorem make_depth {A : Around} {C : Addr} {us : List Value} {kw : List (Str × Value)} : (A.under (.builtin "type.__call__" ⟨.ref C :: us, kw⟩)).depth = A.depth + 1 := by
 first | rfl | simp [Around.under, Code.weight, Code.isCreation, Code.isGuard, Code.isCaller, Code.frames, Code.isFrame, guardIds]
theorem make_units {A : Around} {C : Addr} {us : List Value} {kw : List (Str × Value)} : (A.under (.builtin "type.__call__" ⟨.ref C :: us, kw⟩)).units = A.units + 1 := by
 first | rfl | simp [Around.under, Code.cUnits, Code.frames, Code.isFrame]
theorem Room.make {k : Nat} {A : Around} (r : Room (k + 1) A) (C : Addr) (us : List Value) (kw : List (Str × Value)) : Room k (A.under (.builtin "type.__call__" ⟨.ref C :: us, kw⟩)) :=
 ⟨r.hd, by have := r.dp; rw [make_depth]; omega, by have := r.un; rw [make_units]; omega⟩
theorem Room.depth {k : Nat} {A : Around} (r : Room k A) : A.depth < recursionLimit := by have := r.dp; omega
theorem Room.units {k : Nat} {A : Around} (r : Room k A) : A.units + 64 < cLine := by have := r.un; omega
def tNil : TA := fun _ H Q => Q [] H
def tCons (ta : TE) (tr : TA) : TA := fun σ H Q => ta σ H fun x H1 => tr σ H1 fun xs H2 => Q (x :: xs) H2
section
variable {X : Cx} {e : Expr} {es : List Expr} {te : TE} {t : TA} {pos : Pos}
theorem pa_nil : PA X [] tNil := fun _ _ _ _ H Q I h => Calls.spliced_nil ⟨[], H, I, .nil, h⟩
theorem pa_cons (ha : PE X e te) (hr : PA X es t) (hs : starEach (e :: es) X.env = (false, eval e X.env) :: starEach es X.env := by rfl) : PA X (e :: es) (tCons te t) := by
 intro pos pins s σ H Q I h
 rw [hs]
 show wpAny _ _ (spliced ((false, eval e X.env) :: backTo pos (starEach es X.env))) _ _ s
 refine Calls.spliced_cons (thn (ha pins s σ H _ I h) fun u s1 ⟨x, H1, I1, r1, q1⟩ => ?_)
 exact thn (hr pos pins s1 σ H1 _ I1 q1) fun us s2 ⟨xs, H2, I2, r2, q2⟩ => ⟨x :: xs, H2, I2, .cons r1 r2, q2⟩
def tTup (t : TA) : TE := fun σ H Q => t σ H fun xs H1 => xs.length ≤ sizeLine ∧ ∀ p, H1 p = none → Q (.ref p) (upd H1 p (.tup xs))
def tLst (t : TA) : TE := fun σ H Q => t σ H fun xs H1 => xs.length ≤ sizeLine ∧ ∀ p, H1 p = none → Q (.ref p) (upd H1 p (.lst xs))
theorem pe_tup {x1} (h : PA X es t) : PE X (.Tuple es x1 pos) (tTup t) := by
 intro pins s σ H Q I hq
 refine wpAny_Tuple_spliced (thn (h pos pins s σ H _ I hq) fun us s1 ⟨xs, H1, I1, r, z, q⟩ => ⟨by rw [← r.length]; exact z, ?_⟩)
 have hf : H1 s1.heap.objs.size = none := I1.hok.fresh (Nat.le_refl _)
 refine ⟨.ref s1.heap.objs.size, upd H1 s1.heap.objs.size (.tup xs), I1.laid (t' := s1.toks) (fun b u e => Heap.get?_push_of_some _ e) (Nat.le_refl _) ?_, rfl, q _ hf⟩
 exact ⟨z, us, r, ⟨_, Heap.get?_push_size _ rfl, rfl, _, rfl⟩⟩
theorem pe_lst (h : PA X es t) : PE X (.List es pos) (tLst t) := by
 intro pins s σ H Q I hq
 refine wpAny_List_spliced (thn (h pos pins s σ H _ I hq) fun us s1 ⟨xs, H1, I1, r, z, q⟩ => ⟨by rw [← r.length]; exact z, ?_⟩)
 have hf : H1 s1.heap.objs.size = none := I1.hok.fresh (Nat.le_refl _)
 refine ⟨.ref s1.heap.objs.size, upd H1 s1.heap.objs.size (.lst xs), I1.laid (t' := s1.toks) (fun b u e => Heap.get?_push_of_some _ e) (Nat.le_refl _) ?_, rfl, q _ hf⟩
 exact ⟨z, us, 0, r, Heap.get?_push_size _ rfl⟩
end
abbrev Sp := List V → Hp → VK → XK → Prop
abbrev CXT := List Env → Hp → Shared → XK → Value → Shared → Prop
structure Env0 (P : Program) (w : World) (K : PySem.W.Frag) (mg : Str → Option Value) (base : Heap) (A : Around) (outer : List Env) (s : Shared) (H : Hp) : Prop where
 frames : A.frames = some outer
 mod : Mod K mg base
 bs : ∀ b o, base.get? b = some o → s.heap.get? b = some o ∧ H b = none
 bsz : base.objs.size ≤ s.heap.objs.size
 funs : s.heap.FunFrames base outer
 frf : ∀ b ∈ frs outer, H b = none
 hok : HOk P w H s.heap
 bare : AllBare s.gens
def CE (outer : List Env) (P : Program) (w : World) (H : Hp) (s : Shared) (Q : VK) (u : Value) (s' : Shared) : Prop :=
 ∃ v H', s'.os = s.os ∧ AllBare s'.gens ∧ Un (frs outer) [] H H' s.heap s'.heap ∧ HOk P w H' s'.heap ∧ RelV v u ∧ Q v H'
def CR (CX : CXT) (outer : List Env) (P : Program) (w : World) (H : Hp) (s : Shared) (Q : VK) (E : XK) (r : Result) (s' : Shared) : Prop :=
 match r with
 | .ok (.ret u) => CE outer P w H s Q u s'
 | .ok _ => False
 | .error e => CX outer H s E e s'
structure FnOk (P : Program) (w : World) (K : PySem.W.Frag) (mg : Str → Option Value) (base : Heap) (CX : CXT) (k : Nat) (f : Addr) (fd : FuncData) (ps : List Str) (sp : Sp) : Prop where
 len : ∀ vs H Q E, sp vs H Q E → vs.length = ps.length
 run : ∀ (A : Around) (outer : List Env) (s : Shared) (H : Hp) (args : Args) (us : List Value) (vs : List V) (Q : VK) (E : XK), Room k A → Env0 P w K mg base A outer s H → BindsTo s fd args (ps.zip us) → Vals vs us → sp vs H Q E →
  codeAny (model P w) A (.call (.ref f) args) (CR CX outer P w H s Q E) s
theorem Env0.make {P : Program} {w : World} {K : PySem.W.Frag} {mg : Str → Option Value} {base : Heap} {A : Around} {outer : List Env} {s : Shared} {H : Hp} (e : Env0 P w K mg base A outer s H) (C : Addr) (us : List Value) (kw : List (Str × Value)) :
  Env0 P w K mg base (A.under (.builtin "type.__call__" ⟨.ref C :: us, kw⟩)) outer s H := ⟨by first | exact e.frames | (simpa [Around.under, Code.envs, Code.isFrame, pushEnvs] using e.frames), e.mod, e.bs, e.bsz, e.funs, e.frf, e.hok, e.bare⟩
section
variable {X : Cx} {pins : List (Addr × Obj)} {σ : St} {H : Hp} {s s' : Shared}
theorem Inv.env0 (I : Inv X pins σ H s) : Env0 X.prog X.w X.K X.mg X.base X.A X.stack s H :=
 ⟨I.ok.frames, I.ok.mod, I.bs, Nat.le_trans I.ok.bsz I.sz, I.stack, I.stkFree, I.hok, I.bare⟩
theorem Inv.after {Q : VK} {u : Value} (I : Inv X pins σ H s) (h : CE X.stack X.prog X.w H s Q u s') : EP X pins σ Q u s' := by
 obtain ⟨v, H', os, bare, un, hok, r, q⟩ := h
 obtain ⟨hh, g, d, t, os'⟩ := s'
 obtain rfl : os' = s.os := os
 exact ⟨v, H', I.call (h' := hh) (g' := g) (d' := d) (t' := t) (ch := []) un hok bare (fun b z => absurd z (by simp)), r, q⟩
end
def tCall (sp : Sp) (dvs : List V) (E : XK) (t : TA) : TE := fun σ H Q => t σ H fun vs H1 => sp (vs ++ dvs) H1 Q E
def tMake (C : Addr) (sp : Sp) (dvs : List V) (E : XK) (t : TA) : TE := fun σ H Q => t σ H fun vs H1 => ∀ x dx, H1 x = none → H1 dx = none → dx ≠ x →
 sp (.ref x :: (vs ++ dvs)) (upd (upd H1 dx (.own x)) x (.ins C dx [])) (fun v H2 => v = .non ∧ Q (.ref x) H2) E
def Binds (K : PySem.W.Frag) (fd : FuncData) (ps : List Str) (ds : List Value) : Prop :=
 ∀ (s : Shared) (us : List Value), K.In s.heap → (us ++ ds).length = ps.length → BindsTo s fd ⟨us, []⟩ (ps.zip (us ++ ds))
theorem Binds.all {K : PySem.W.Frag} {fd : FuncData} {ps : List Str} (h : ∀ us : List Value, us.length = ps.length → bindArgs fd ⟨us, []⟩ = pure (ps.zip us)) : Binds K fd ps [] := fun s us _ hl => by
 rw [List.append_nil] at hl ⊢
 exact .of_eq (h us hl)
def Passes (CX : CXT) (X : Cx) (E : XK) : Prop := ∀ (pins : List (Addr × Obj)) (σ : St) (H : Hp) (s : Shared) (e : Value) (s' : Shared), Inv X pins σ H s → CX X.stack H s E e s' → X.xe e s'
section
variable {X : Cx} {CX : CXT} {k : Nat} {f C : Addr} {fd : FuncData} {ps : List Str} {sp : Sp} {dvs : List V} {ds : List Value} {E : XK} {x m : Str} {p pos apos : Pos} {e o : Expr} {es : List Expr} {ta : TE} {t : TA}
theorem run_fn {pins : List (Addr × Obj)} {σ : St} {H : Hp} {s : Shared} {Q : VK} {us : List Value} {vs : List V} (F : FnOk X.prog X.w X.K X.mg X.base CX k f fd ps sp) (hr : Room k X.A) (hb : Binds X.K fd ps ds) (hd : Vals dvs ds) (hx : Passes CX X E)
  (I : Inv X pins σ H s) (r : Vals vs us) (h : sp (vs ++ dvs) H Q E) : wpAny (model X.prog X.w) X.A (call (.ref f) us) (EP X pins σ Q) X.xe s := by
 have r2 : Vals (vs ++ dvs) (us ++ ds) := r.append hd
 have hl : (us ++ ds).length = ps.length := by rw [← r2.length]; exact F.len _ _ _ _ h
 refine wpAny_call (codeAny_mono (F.run X.A X.stack s H ⟨us, []⟩ (us ++ ds) (vs ++ dvs) Q E hr I.env0 (hb s us I.kIn hl) r2 h) fun r s' hq => ?_)
 cases r with
 | error e => exact hx pins σ H s e s' I hq
 | ok fl =>
  cases fl with
  | ret u => exact I.after hq
  | next => exact False.elim hq
  | brk => exact False.elim hq
  | cont => exact False.elim hq
theorem pe_call (F : FnOk X.prog X.w X.K X.mg X.base CX k f fd ps sp) (hr : Room k X.A) (hg : Gl X x) (hm : X.mg x = some (.ref f)) (hk : PySem.W.keepIn X.K (.ref f) = true) (hb : Binds X.K fd ps ds) (hd : Vals dvs ds) (hx : Passes CX X E)
  (ha : PA X (e :: es) t) (hdb : (x == ("__debug__" : Str)) = false := by decide) (he : starEach (e :: es) X.env = (false, eval e X.env) :: starEach es X.env := by rfl) (hpl : (backTo pos (starEach es X.env)).any (·.1) = false := by rfl) :
  PE X (.Call (.Name x p) (e :: es) [] pos) (tCall sp dvs E t) := by
 intro pins s σ H Q I h
 refine wpAny_Call_Name_kw (ld_glob I hg hm ?_ hdb)
 refine PySem.W.callWith_K (h₀ := X.base) I.ok.mod.kin hk (thn (ha pos pins s σ H _ I h) fun us s1 ⟨vs, H1, I1, r, q⟩ => ⟨I1.kIn, ?_⟩) he hpl
 exact run_fn F hr hb hd hx I1 r q
structure Mk (K : PySem.W.Frag) (C f : Addr) : Prop where
 makes : PySem.W.makesIn K C = true
 init : PySem.W.findIn K (.ref C) "__init__" = some (some (.ref f))
 fn : PySem.W.isFn K (.ref f) = true
 kp : PySem.W.keepIn K (.ref C) = true
theorem run_make {pins : List (Addr × Obj)} {σ : St} {H : Hp} {s : Shared} {Q : VK} {us : List Value} {vs : List V} (M : Mk X.K C f) (F : FnOk X.prog X.w X.K X.mg X.base CX k f fd ps sp) (hr : Room (k + 1) X.A) (hb : Binds X.K fd ps ds) (hd : Vals dvs ds)
  (hx : Passes CX X E) (I : Inv X pins σ H s) (r : Vals vs us)
  (h : ∀ x dx, H x = none → H dx = none → dx ≠ x → sp (.ref x :: (vs ++ dvs)) (upd (upd H dx (.own x)) x (.ins C dx [])) (fun v H2 => v = .non ∧ Q (.ref x) H2) E) :
  wpAny (model X.prog X.w) X.A (call (.ref C) us) (EP X pins σ Q) X.xe s := by
 have hq := h (s.heap.objs.size + 1) s.heap.objs.size (I.hok.fresh (Nat.le_succ _)) (I.hok.fresh (Nat.le_refl _)) (Nat.ne_of_lt (Nat.lt_succ_self _))
 have I2 := Inv.made (C := C) I
 have r2 : Vals (V.ref (s.heap.objs.size + 1) :: (vs ++ dvs)) (Value.ref (s.heap.objs.size + 1) :: (us ++ ds)) := .cons rfl (r.append hd)
 have hl : (Value.ref (s.heap.objs.size + 1) :: us ++ ds).length = ps.length := by
  have e := r2.length
  rw [F.len _ _ _ _ hq] at e
  exact e.symm
 refine wpAny_call (make_map (f := f) I.kIn M.makes M.init (beq_iff_eq.mp M.fn) (codeAny_mono (F.run _ X.stack _ _ ⟨Value.ref (s.heap.objs.size + 1) :: us, []⟩ (Value.ref (s.heap.objs.size + 1) :: (us ++ ds)) _ _ E (hr.make C us [])
  (I2.env0.make C us []) (hb _ (Value.ref (s.heap.objs.size + 1) :: us) I2.kIn hl) r2 hq) fun r s' hq' => ?_))
 cases r with
 | error e => exact hx pins σ _ _ e s' I2 hq'
 | ok fl =>
  cases fl with
  | ret u =>
   obtain ⟨v, H', I3, rv, ev, q3⟩ := I2.after hq'
   subst ev
   exact ⟨rv, ⟨V.ref (s.heap.objs.size + 1), H', I3, rfl, q3⟩⟩
  | next => exact False.elim hq'
  | brk => exact False.elim hq'
  | cont => exact False.elim hq'
theorem pe_make (M : Mk X.K C f) (F : FnOk X.prog X.w X.K X.mg X.base CX k f fd ps sp) (hr : Room (k + 1) X.A) (hg : Gl X x) (hm : X.mg x = some (.ref C)) (hb : Binds X.K fd ps ds) (hd : Vals dvs ds) (hx : Passes CX X E)
  (ha : PA X (e :: es) t) (hdb : (x == ("__debug__" : Str)) = false := by decide) (he : starEach (e :: es) X.env = (false, eval e X.env) :: starEach es X.env := by rfl) (hpl : (backTo pos (starEach es X.env)).any (·.1) = false := by rfl) :
  PE X (.Call (.Name x p) (e :: es) [] pos) (tMake C sp dvs E t) := by
 intro pins s σ H Q I h
 refine wpAny_Call_Name_kw (ld_glob I hg hm ?_ hdb)
 refine PySem.W.callWith_K (h₀ := X.base) I.ok.mod.kin M.kp (thn (ha pos pins s σ H _ I h) fun us s1 ⟨vs, H1, I1, r, q⟩ => ⟨I1.kIn, ?_⟩) he hpl
 exact run_make M F hr hb hd hx I1 r q
end
section
variable {X : Cx} {CX : CXT} {k : Nat} {f C : Addr} {fd : FuncData} {ps ks : List Str} {sp : Sp} {E : XK} {x m : Str} {p pos apos kpos : Pos} {e o : Expr} {es : List Expr} {kws : List Keyword} {te ta : TE} {t tk : TA} {nm : Option Str}
variable {g : List Value → List Value → List Value} {gV : List V → List V → List V}
end
structure FnScope (N P : List Str) (sc : Scope) : Prop where
 kind : sc.kind = .function
 co : sc.isCoroutine = false
 gen : sc.isGenerator = false
 nd : N.Nodup
 pre : N.take P.length = P
 par : ∀ x ∈ P, sc.names.lookup x = some .local ∨ sc.names.lookup x = some .cell
 nofree : ∀ y ∈ sc.names, y.2 ≠ .free
theorem bindL_out {kindOf : Str → Option NameKind} {x : Str} : ∀ {binds : List (Str × Value)} {m : Str → Option Value}, (∀ v, (x, v) ∉ binds) → bindL kindOf binds m x = m x
 | [], _, _ => rfl
 | (n, v) :: r, m, h => by
  unfold bindL
  rw [bindL_out fun w hw => h w (List.mem_cons_of_mem _ hw)]
  split
  ·have : x ≠ n := by rintro rfl; exact h v List.mem_cons_self
   simp [this]
  ·rfl
theorem bindC_out {kindOf : Str → Option NameKind} {x : Str} : ∀ {binds : List (Str × Value)} {m : Str → Option Value}, (∀ v, (x, v) ∉ binds) → bindC kindOf binds m x = m x
 | [], _, _ => rfl
 | (n, v) :: r, m, h => by
  unfold bindC
  rw [bindC_out fun w hw => h w (List.mem_cons_of_mem _ hw)]
  split
  ·rfl
  ·have : x ≠ n := by rintro rfl; exact h v List.mem_cons_self
   simp [this]
theorem bindL_get {kindOf : Str → Option NameKind} {x : Str} {v : Value} : ∀ {P : List Str} {vs : List Value} {i : Nat} {m : Str → Option Value}, P.Nodup → P[i]? = some x → vs[i]? = some v → kindOf x = some .local →
  bindL kindOf (P.zip vs) m x = some v
 | [], _, _, _, _, h, _, _ => by simp at h
 | _ :: _, [], _, _, _, _, h, _ => by simp at h
 | p :: P, w :: vs, 0, m, nd, h1, h2, hk => by
  simp at h1 h2; subst h1; subst h2
  show bindL kindOf ((p, w) :: P.zip vs) m p = _
  unfold bindL
  rw [bindL_out fun v hv => (List.nodup_cons.mp nd).1 (List.of_mem_zip hv).1, if_pos hk]
  simp
 | p :: P, w :: vs, i + 1, m, nd, h1, h2, hk => by
  show bindL kindOf ((p, w) :: P.zip vs) m x = _
  unfold bindL
  exact bindL_get (i := i) (List.nodup_cons.mp nd).2 (by simpa using h1) (by simpa using h2) hk
theorem bindC_get {kindOf : Str → Option NameKind} {x : Str} {v : Value} : ∀ {P : List Str} {vs : List Value} {i : Nat} {m : Str → Option Value}, P.Nodup → P[i]? = some x → vs[i]? = some v → kindOf x ≠ some .local →
  bindC kindOf (P.zip vs) m x = some v
 | [], _, _, _, _, h, _, _ => by simp at h
 | _ :: _, [], _, _, _, _, h, _ => by simp at h
 | p :: P, w :: vs, 0, m, nd, h1, h2, hk => by
  simp at h1 h2; subst h1; subst h2
  show bindC kindOf ((p, w) :: P.zip vs) m p = _
  unfold bindC
  rw [bindC_out fun v hv => (List.nodup_cons.mp nd).1 (List.of_mem_zip hv).1, if_neg hk]
  simp
 | p :: P, w :: vs, i + 1, m, nd, h1, h2, hk => by
  show bindC kindOf ((p, w) :: P.zip vs) m x = _
  unfold bindC
  exact bindC_get (i := i) (List.nodup_cons.mp nd).2 (by simpa using h1) (by simpa using h2) hk
def start (N : List Str) (vs : List V) : St := vs.map some ++ List.replicate (N.length - vs.length) none
def cxOf (CX : CXT) (P : Program) (w : World) (K : PySem.W.Frag) (mg : Str → Option Value) (base : Heap) (N : List Str) (qual : Str) (scope : Scope) (f : Addr) (cd : Value) (A : Around) (outer : List Env) (s : Shared) (H : Hp) (E : XK) : Cx where
 prog := P
 w := w
 K := K
 mg := mg
 base := base
 A := A.deeper (envOfC qual scope s.heap.objs.size f cd)
 N := N
 s₀ := s
 H₀ := H
 env := envOfC qual scope s.heap.objs.size f cd
 outer := outer
 stack := envOfC qual scope s.heap.objs.size f cd :: outer
 ex := []
 calm := true
 fn := fun _ => true
 pn := []
 xe := fun e s' => wpAny (model P w) (A.deeper (envOfC qual scope s.heap.objs.size f cd)) (leaving (envOfC qual scope s.heap.objs.size f cd) e) (fun _ s'' => CX outer H s E e s'') (fun e' s'' => CX outer H s E e' s'') s'
theorem cell_has {sc : Scope} {n : Nat} {x : Str} (h : sc.names.lookup x = some .cell) : ∃ c, (cellsFrom n sc.names []).lookup x = some c := by
 have q := PySem.W.cellsFrom_some sc.names n [] (.inl h)
 exact Option.isSome_iff_exists.mp q
theorem inv_start {CX : CXT} {P : Program} {w : World} {K : PySem.W.Frag} {mg : Str → Option Value} {base : Heap} {N ps : List Str} {qual : Str} {scope : Scope} {f : Addr} {cd : Value} {A : Around} {outer : List Env} {s s1 : Shared} {H : Hp} {E : XK} {us : List Value} {vs : List V}
  (S : FnScope N ps scope) (hd : A.handled = none) (e0 : Env0 P w K mg base A outer s H) (hl : vs.length = ps.length) (r : Vals vs us)
  (x : InCallC s s.heap.objs.size (bindL (envOfC qual scope s.heap.objs.size f cd).kindOf (ps.zip us) fun _ => none) (cellsFrom (s.heap.objs.size + 1) scope.names []) (bindC (envOfC qual scope s.heap.objs.size f cd).kindOf (ps.zip us) fun _ => none) s1) :
  Inv (cxOf CX P w K mg base N qual scope f cd A outer s H E) [] (start N vs) H s1 := by
 have hpl : ps.length ≤ N.length := by have := congrArg List.length S.pre; rw [List.length_take] at this; omega
 obtain ⟨h1, tk, rfl, hk⟩ := x.done
 have noA : ∀ b : Addr, b ∉ (cxOf CX P w K mg base N qual scope f cd A outer s H E).ex := fun b z => absurd (show b ∈ ([] : List Addr) from z) (by simp)
 refine ⟨⟨e0.mod, S.kind, rfl, rfl, Nat.le_refl _, fun y z c h1 h2 => ?_, fun y hy => ?_, fun y c _ h => ?_, fun _ => hd, Around.frames_deeper e0.frames, .inr ⟨rfl, rfl⟩, fun b z => absurd z (noA b), e0.bs, e0.bsz, fun b _ _ => noA b, fun b z => absurd z (noA b), e0.funs, e0.frf⟩,
  rfl, e0.bare, Un.kept hk, ⟨_, x.toInCall.ns, fun i y v h1 h2 h3 => ?_⟩, fun y c h => ⟨_, x.cell y c h⟩, e0.hok.fresh (Nat.le_refl _), fun y c h => ?_, fun p hp => absurd (show p ∈ ([] : List (Addr × Obj)) from hp) (by simp), e0.hok.kept hk, ?_⟩
 ·exact name_of_addr x.apart (PySem.mem_of_lookup h1) (PySem.mem_of_lookup h2)
 ·have hy : scope.names.lookup y = some .cell ∨ scope.names.lookup y = some .free := hy
  rcases hy with hy | hy
  ·exact cell_has hy
  ·exact absurd rfl (S.nofree _ (PySem.mem_of_lookup hy))
 ·exact Nat.le_of_lt (x.above y c (PySem.mem_of_lookup h))
 ·have hi : i < vs.length := by
   unfold start at h2
   by_cases hi : i < vs.length
   ·exact hi
   ·rw [List.getElem?_append_right (by simpa using hi)] at h2
    rw [List.getElem?_replicate] at h2
    split at h2 <;> cases h2
  have ha : vs[i]? = some v := by
   unfold start at h2
   rw [List.getElem?_append_left (by simpa using hi), List.getElem?_map] at h2
   cases e : vs[i]? with
   | none => rw [e] at h2; cases h2
   | some a => rw [e] at h2; cases h2; rfl
  obtain ⟨u, hu, rv⟩ := r.get ha
  have hp : ps[i]? = some y := by
   rw [← S.pre, List.getElem?_take_of_lt (by omega)]; exact h1
  have ndP : ps.Nodup := by rw [← S.pre]; exact S.nd.sublist (List.take_sublist _ _)
  refine ⟨u, rv, ?_⟩
  rcases S.par y (List.mem_of_getElem? hp) with k | k
  ·exact .inl ⟨k, bindL_get ndP hp hu k⟩
  ·obtain ⟨c, e⟩ := cell_has (n := s.heap.objs.size + 1) k
   refine .inr ⟨.inl k, c, e, ?_⟩
   have q := x.cell y c e
   rw [bindC_get ndP hp hu (by show scope.names.lookup y ≠ _; rw [k]; decide)] at q
   exact q
 ·exact e0.hok.fresh (Nat.le_of_lt (x.above y c (PySem.mem_of_lookup h)))
 ·unfold start
  show _ = N.length
  rw [List.length_append, List.length_map, List.length_replicate]
  omega
theorem fn_of {CX : CXT} {P : Program} {w : World} {K : PySem.W.Frag} {mg : Str → Option Value} {base : Heap} {k : Nat} {f : Addr} {name qual : Str} {params : Arguments} {body : List Stmt} {scope : Scope} {dV kV doc pm cdv ct oc : Value} {an od : Option Addr}
  {osl : Array (Option Value)} {N ps : List Str} {sp : Sp} (lk : K.lookup f = some ⟨oc, od, .func (PySem.W.fnOf name qual params body scope dV kV doc pm an cdv ct), osl⟩) (hcd : PySem.W.codeIn K cdv qual = true) (S : FnScope N ps scope)
  (len : ∀ vs H Q E, sp vs H Q E → vs.length = ps.length)
  (hbody : ∀ (A : Around) (outer : List Env) (s : Shared) (H : Hp) (vs : List V) (Q : VK) (E : XK), Room k (A.deeper (envOfC qual scope s.heap.objs.size f cdv)) → sp vs H Q E →
   ∃ t, PSs (cxOf CX P w K mg base N qual scope f cdv A outer s H E) body t ∧ t { nx := fun _ H' => Q .non H', rt := Q } (start N vs) H) :
  FnOk P w K mg base CX (k + 1) f (PySem.W.fnOf name qual params body scope dV kV doc pm an cdv ct) ps sp := by
 refine ⟨len, fun A outer s H args us vs Q E hr e0 hb r hsp => ?_⟩
 have hl := len _ _ _ _ hsp
 have KX : K.In s.heap := e0.mod.kin.keeps fun b o e => (e0.bs b o e).1
 have lim : s.heap.NoLimit := e0.mod.nolimit.keeps fun b o e => (e0.bs b o e).1
 have hkind : ∀ y ∈ ps.zip us, scope.names.lookup y.1 = some .local ∨ (scope.names.lookup y.1 = some .cell ∧ ((cellsFrom (s.heap.objs.size + 1) scope.names []).lookup y.1).isSome = true) := fun ⟨n, v⟩ hy => by
  rcases S.par n (List.of_mem_zip hy).1 with q | q
  ·exact .inl q
  ·exact .inr ⟨q, PySem.W.cellsFrom_some _ _ _ (.inl q)⟩
 refine codeAny_call_function hr.depth (KX _ _ lk) rfl S.co S.gen rfl (PySem.W.codeRec_of KX hcd) (hb _ _ _ _ ?_)
 refine wpAny_newFunctionEnv_cells S.kind hkind fun env he s1 x => ?_
 subst he
 refine ⟨lim.keeps x.toInCall.keep, codeAny_func ?_⟩
 obtain ⟨t, ht, hq⟩ := hbody A outer s H vs Q E (hr.deeper _) hsp
 have I : Inv (cxOf CX P w K mg base N qual scope f cdv A outer s H E) [] (start N vs) H s1 := inv_start S hr.hd e0 hl r x
 refine wpAny_mono (ht [] s1 (start N vs) H _ I hq) (fun fl s' hs => ?_) fun e s' hs => hs
 have fin : ∀ {σ' : St} {H' : Hp} {v : V} {u : Value}, Inv (cxOf CX P w K mg base N qual scope f cdv A outer s H E) [] σ' H' s' → RelV v u → Q v H' → CE outer P w H s Q u s' :=
  fun {σ' H' v u} J rv q => ⟨v, H', J.os, J.bare, J.base, J.hok, rv, q⟩
 cases fl with
 | ret u =>
  obtain ⟨v, σ', H', J, rv, q⟩ := hs
  exact fin J rv q
 | next =>
  obtain ⟨σ', H', J, q⟩ := hs
  exact fin (v := V.non) (u := Value.none) J rfl q
 | brk =>
  obtain ⟨_, _, _, q⟩ := hs
  exact False.elim q
 | cont =>
  obtain ⟨_, _, _, q⟩ := hs
  exact False.elim q
end L2
namespace L2
open PySem PySem.Spec PyProof.Rows
section
variable {X : Cx} {x : Str} {p pos : Pos} {e : Expr} {es : List Expr} {t : TA} {id T : String} {r : List V → Hp → VK → Prop}
def tCB (r : List V → Hp → VK → Prop) (t : TA) : TE := fun σ H Q => t σ H fun vs H1 => r vs H1 Q
theorem pe_callB (hc : CallR X (.builtin id) r) (hg : Gl X x) (hm : X.mg x = none) (hv : bootBuiltins x = some (.builtin id)) (ha : PA X (e :: es) t) (hn : x ≠ "__name__" := by decide) (hdb : (x == ("__debug__" : Str)) = false := by decide)
  (he : starEach (e :: es) X.env = (false, eval e X.env) :: starEach es X.env := by rfl) (hpl : (backTo pos (starEach es X.env)).any (·.1) = false := by rfl) : PE X (.Call (.Name x p) (e :: es) [] pos) (tCB r t) := by
 intro pins s σ H Q I h
 refine wpAny_Call_Name_kw (ld_blt I hg hm hv ?_ hn hdb)
 exact PyProof.Rows.callWith_builtin1 (thn (ha pos pins s σ H _ I h) fun us s1 ⟨vs, H1, I1, r1, q1⟩ => hc pins s1 σ H1 vs us Q I1 r1 q1) he hpl
theorem pe_callTy (hc : CallR X (.type T) r) (hg : Gl X x) (hm : X.mg x = none) (hv : bootBuiltins x = some (.type T)) (ha : PA X (e :: es) t) (hn : x ≠ "__name__" := by decide) (hdb : (x == ("__debug__" : Str)) = false := by decide)
  (he : starEach (e :: es) X.env = (false, eval e X.env) :: starEach es X.env := by rfl) (hpl : (backTo pos (starEach es X.env)).any (·.1) = false := by rfl) : PE X (.Call (.Name x p) (e :: es) [] pos) (tCB r t) := by
 intro pins s σ H Q I h
 refine wpAny_Call_Name_kw (ld_blt I hg hm hv ?_ hn hdb)
 exact PyProof.Rows.callWith_type1 (thn (ha pos pins s σ H _ I h) fun us s1 ⟨vs, H1, I1, r1, q1⟩ => hc pins s1 σ H1 vs us Q I1 r1 q1) he hpl
end
end L2
namespace L2
open PySem PySem.Spec PyProof.Rows
section
variable {κ : Type} [DecidableEq κ]
def valV (kvs : List (κ × V)) (k : κ) : Option V := (kvs.find? fun kv => decide (kv.1 = k)).map (·.2)
def putK (kvs : List (κ × V)) (k : κ) (v : V) : List (κ × V) :=
 if (kvs.any fun kv => decide (kv.1 = k)) = true then kvs.map (fun kv => if kv.1 = k then (kv.1, v) else kv) else kvs ++ [(k, v)]
theorem valV_pos {p : κ × V} {r : List (κ × V)} {k : κ} (e : p.1 = k) : valV (p :: r) k = some p.2 := by simp [valV, List.find?_cons, e]
theorem valV_neg {p : κ × V} {r : List (κ × V)} {k : κ} (e : ¬ p.1 = k) : valV (p :: r) k = valV r k := by simp [valV, List.find?_cons, e]
theorem valV_any (k : κ) : ∀ kvs : List (κ × V), (kvs.any fun kv => decide (kv.1 = k)) = (valV kvs k).isSome
 | [] => rfl
 | p :: r => by
  rw [List.any_cons]
  by_cases e : p.1 = k
  ·simp only [valV_pos e, decide_eq_true e, Bool.true_or, Option.isSome_some]
  ·rw [valV_neg e, decide_eq_false e, Bool.false_or]; exact valV_any k r
theorem valV_map (k j : κ) (y : V) : ∀ kvs : List (κ × V), valV (kvs.map fun kv => if kv.1 = k then (kv.1, y) else kv) j = (valV kvs j).map fun x => if j = k then y else x
 | [] => rfl
 | p :: r => by
  have ih := valV_map k j y r
  rw [List.map_cons]
  by_cases h : p.1 = k
  ·rw [if_pos h]
   by_cases e : p.1 = j
   ·rw [valV_pos (p := (p.1, y)) e, valV_pos e, Option.map_some, if_pos (e.symm.trans h)]
   ·rw [valV_neg (p := (p.1, y)) e, valV_neg e, ih]
  ·rw [if_neg h]
   by_cases e : p.1 = j
   ·rw [valV_pos (p := p) e, valV_pos e, Option.map_some, if_neg (fun z => h (e.trans z))]
   ·rw [valV_neg (p := p) e, valV_neg e, ih]
theorem valV_snoc (k j : κ) (y : V) : ∀ kvs : List (κ × V), valV kvs k = none → valV (kvs ++ [(k, y)]) j = if j = k then some y else valV kvs j
 | [], _ => by
  by_cases e : k = j
  ·rw [if_pos e.symm]; exact valV_pos (p := (k, y)) e
  ·rw [if_neg (fun z => e z.symm)]; exact valV_neg (p := (k, y)) e
 | p :: r, hn => by
  rw [List.cons_append]
  have hk : ¬ p.1 = k := fun z => by rw [valV_pos z] at hn; cases hn
  rw [valV_neg hk] at hn
  have ih := valV_snoc k j y r hn
  by_cases e : p.1 = j
  ·rw [valV_pos e, valV_pos e, if_neg (fun z => hk (e.trans z))]
  ·rw [valV_neg e, valV_neg e, ih]
theorem valV_put (kvs : List (κ × V)) (k j : κ) (y : V) : valV (putK kvs k y) j = if j = k then some y else valV kvs j := by
 unfold putK
 by_cases a : (kvs.any fun kv => decide (kv.1 = k)) = true
 ·rw [if_pos a, valV_map]
  rw [valV_any] at a
  by_cases e : j = k
  ·obtain ⟨x, hx⟩ := Option.isSome_iff_exists.mp a
   rw [if_pos e, e, hx, Option.map_some, if_pos rfl]
  ·rw [if_neg e]
   cases valV kvs j with
   | none => rfl
   | some x => rw [Option.map_some, if_neg e]
 ·rw [if_neg a]
  refine valV_snoc k j y kvs ?_
  rw [valV_any] at a
  cases q : valV kvs k with
  | none => rfl
  | some x => rw [q] at a; exact (a rfl).elim
theorem length_putK (kvs : List (κ × V)) (k : κ) (v : V) : (putK kvs k v).length ≤ kvs.length + 1 := by
 unfold putK
 split
 ·rw [List.length_map]; omega
 ·rw [List.length_append, List.length_cons, List.length_nil]; omega
theorem putK_new {kvs : List (κ × V)} {k : κ} (v : V) (h : valV kvs k = none) : putK kvs k v = kvs ++ [(k, v)] := by
 unfold putK
 rw [valV_any, h]
 exact if_neg (by decide)
theorem RelO.isSome_eq {o : Option V} {u : Option Value} (r : RelO o u) : o.isSome = u.isSome := by
 cases o with
 | none => cases u with
  | none => rfl
  | some _ => exact (show False from r).elim
 | some _ => cases u with
  | none => exact (show False from r).elim
  | some _ => rfl
theorem KV.val {kvs : List (κ × V)} {vs : List (κ × Value)} (r : KV kvs vs) (k : κ) : RelO (valV kvs k) (valueAt vs k) := by
 unfold KV at r
 induction r with
 | nil => exact True.intro
 | @cons p q ps qs h t ih =>
  obtain ⟨h1, h2⟩ := h
  by_cases e : p.1 = k
  ·have e' : q.1 = k := h1.symm.trans e
   have b : valueAt (q :: qs) k = some q.2 := by simp [valueAt, List.find?_cons, e']
   rw [valV_pos e, b]; exact h2
  ·have e' : ¬ q.1 = k := fun z => e (h1.trans z)
   have b : valueAt (q :: qs) k = valueAt qs k := by simp [valueAt, List.find?_cons, e']
   rw [valV_neg e, b]; exact ih
theorem KV.any {kvs : List (κ × V)} {vs : List (κ × Value)} (r : KV kvs vs) (k : κ) : (kvs.any fun kv => decide (kv.1 = k)) = vs.any fun kv => decide (kv.1 = k) := by
 unfold KV at r
 induction r with
 | nil => rfl
 | cons h t ih => rw [List.any_cons, List.any_cons, ih, h.1]
theorem KV.repl {kvs : List (κ × V)} {vs : List (κ × Value)} (r : KV kvs vs) (k : κ) {y : V} {u : Value} (ry : RelV y u) :
  KV (kvs.map fun kv => if kv.1 = k then (kv.1, y) else kv) (vs.map fun kv => if kv.1 = k then (kv.1, u) else kv) := by
 unfold KV at r ⊢
 induction r with
 | nil => exact .nil
 | @cons p q ps qs h t ih =>
  rw [List.map_cons, List.map_cons]
  refine .cons ?_ ih
  obtain ⟨h1, h2⟩ := h
  by_cases e : p.1 = k
  ·rw [if_pos e, if_pos (h1.symm.trans e)]; exact ⟨h1, ry⟩
  ·rw [if_neg e, if_neg (fun z => e (h1.trans z))]; exact ⟨h1, h2⟩
theorem KV.put {kvs : List (κ × V)} {vs : List (κ × Value)} (r : KV kvs vs) (k : κ) {y : V} {u : Value} (ry : RelV y u) : KV (putK kvs k y) (stored vs k u) := by
 unfold putK stored
 rw [r.any k]
 by_cases e : (vs.any fun kv => decide (kv.1 = k)) = true
 ·rw [if_pos e, if_pos e]; exact r.repl k ry
 ·rw [if_neg e, if_neg e]; exact Paired.snoc r ⟨rfl, ry⟩
theorem KV.length {kvs : List (κ × V)} {vs : List (κ × Value)} (r : KV kvs vs) : kvs.length = vs.length := Paired.length r
end
theorem kV_is {P : Program} {w : World} {k : Key} {u : Value} (r : RelV (kV k) u) : (mixKind P w).is k u = true := by
 cases k with
 | inl i => obtain ⟨t, e⟩ := (show ∃ t, u = Value.int i t from r); subst e; exact mixKind_int P w i t
 | inr x => obtain ⟨t, e⟩ := (show ∃ t, u = Value.str x t from r); subst e; exact mixKind_str P w x t
theorem items_are {P : Program} {w : World} : ∀ {ks : List Key} {us : List Value}, Vals (ks.map kV) us → ItemsAre (mixKind P w) ks us
 | [], _, r => by rw [List.map_nil] at r; cases r; exact .nil
 | k :: ks, _, r => by
  rw [List.map_cons] at r
  cases r with
  | cons h t => exact .cons (kV_is h) (items_are t)
abbrev KT (H : Hp) : List (List Key × V) → List (List Key × Addr × Value) → Prop := Paired fun p q => p.1 = q.1 ∧ H q.2.1 = some (.tup (p.1.map kV)) ∧ RelV p.2 q.2.2
theorem KT.val {H : Hp} {kvs : List (List Key × V)} {xs : List (List Key × Addr × Value)} (r : KT H kvs xs) (k : List Key) : RelO (valV kvs k) ((atKey xs k).map (·.2)) := by
 induction r with
 | nil => exact True.intro
 | @cons p q ps qs h t ih =>
  obtain ⟨h1, _, h2⟩ := h
  by_cases e : p.1 = k
  ·have e' : q.1 = k := h1.symm.trans e
   have b : atKey (q :: qs) k = some q.2 := by simp [atKey, List.find?_cons, e']
   rw [valV_pos e, b]; exact h2
  ·have e' : ¬ q.1 = k := fun z => e (h1.trans z)
   have b : atKey (q :: qs) k = atKey qs k := by simp [atKey, List.find?_cons, e']
   rw [valV_neg e, b]; exact ih
theorem KT.repl {H : Hp} {kvs : List (List Key × V)} {xs : List (List Key × Addr × Value)} (r : KT H kvs xs) (k : List Key) {y : V} {u : Value} (ry : RelV y u) :
  KT H (kvs.map fun kv => if kv.1 = k then (kv.1, y) else kv) (xs.map (putAt k u)) := by
 induction r with
 | nil => exact .nil
 | @cons p q ps qs h t ih =>
  rw [List.map_cons, List.map_cons]
  refine .cons ?_ ih
  obtain ⟨h1, h2, h3⟩ := h
  unfold putAt
  by_cases e : p.1 = k
  ·rw [if_pos e, if_pos (h1.symm.trans e)]; exact ⟨h1, h2, ry⟩
  ·rw [if_neg e, if_neg (fun z => e (h1.trans z))]; exact ⟨h1, h2, h3⟩
theorem KT.put {H : Hp} {kvs : List (List Key × V)} {xs : List (List Key × Addr × Value)} (r : KT H kvs xs) (k : List Key) {b : Addr} {y : V} {u : Value} (hb : H b = some (.tup (k.map kV))) (ry : RelV y u) :
  KT H (putK kvs k y) (storedH xs k b u) := by
 have e : (kvs.any fun kv => decide (kv.1 = k)) = (atKey xs k).isSome := by
  rw [valV_any, (r.val k).isSome_eq, Option.isSome_map]
 unfold putK storedH
 rw [e]
 by_cases q : (atKey xs k).isSome = true
 ·rw [if_pos q, if_pos q]; exact r.repl k ry
 ·rw [if_neg q, if_neg q]; exact Paired.snoc r ⟨rfl, hb, ry⟩
theorem KT.keeps {H H' : Hp} {kvs : List (List Key × V)} {xs : List (List Key × Addr × Value)} (r : KT H kvs xs) (ht : ∀ b ys, H b = some (.tup ys) → H' b = some (.tup ys)) : KT H' kvs xs :=
 Paired.mapP r fun _ _ z => ⟨z.1, ht _ _ z.2.1, z.2.2⟩
section
variable {P : Program} {w : World} {H : Hp} {h : Heap} {a : Addr}
theorem rd_of {u : HO} (ok : HOk P w H h) (e : Rd H a u) : ObjOk P w H h a u := e.ok ok
theorem dk_rd {kvs : List (Key × V)} (ok : HOk P w H h) (e : Rd H a (.dK kvs)) : kvs.length ≤ sizeLine ∧ (a == sysModules) = false ∧ ∃ vs, KV kvs vs ∧ h.DictOf (mixKind P w) a vs :=
 show ObjOk P w H h a (.dK kvs) from rd_of ok e
theorem dk_of {kvs : List (Key × V)} (ok : HOk P w H h) (e : H a = some (.dK kvs)) : kvs.length ≤ sizeLine ∧ (a == sysModules) = false ∧ ∃ vs, KV kvs vs ∧ h.DictOf (mixKind P w) a vs := dk_rd ok (.inl e)
theorem key_of {ks : List Key} (ok : HOk P w H h) (e : H a = some (.tup (ks.map kV))) : (tupleKind (mixKind P w)).is h ks a := by
 obtain ⟨_, its, r, o, h1, h2, n, h3⟩ := (show ObjOk P w H h a (.tup (ks.map kV)) from ok a _ e)
 exact ⟨o, its.toArray, n, h1, h2, h3, by simpa using items_are r⟩
theorem dt_rd {kvs : List (List Key × V)} (ok : HOk P w H h) (e : Rd H a (.dT kvs)) : kvs.length ≤ sizeLine ∧ (a == sysModules) = false ∧
  ∃ xs, KT H kvs xs ∧ h.DictOfH (tupleKind (mixKind P w)) a xs := by
 obtain ⟨z, y, xs, r, o, es, ep, h1, h2, h3, h4, h5⟩ := (show ObjOk P w H h a (.dT kvs) from rd_of ok e)
 refine ⟨z, y, xs, r, o, es, ep, h1, h2, h3, h4, fun x hx => ?_, h5⟩
 have all : ∀ {l : List (List Key × V)} {m : List (List Key × Addr × Value)}, KT H l m → ∀ x ∈ m, (tupleKind (mixKind P w)).is h x.1 x.2.1 := by
  intro l m q
  induction q with
  | nil => intro x hx; exact nomatch hx
  | @cons p q ps qs hq t ih =>
   intro x hx
   rcases List.mem_cons.mp hx with e | hx
   ·subst e
    exact key_of ok (by rw [← hq.1]; exact hq.2.1)
   ·exact ih x hx
 exact all r x hx
theorem dt_of {kvs : List (List Key × V)} (ok : HOk P w H h) (e : H a = some (.dT kvs)) : kvs.length ≤ sizeLine ∧ (a == sysModules) = false ∧
  ∃ xs, KT H kvs xs ∧ h.DictOfH (tupleKind (mixKind P w)) a xs := dt_rd ok (.inl e)
end
def DGet (H : Hp) (a : Addr) (y : V) (r : Option V) : Prop :=
 (∃ kvs k, Rd H a (.dK kvs) ∧ y = kV k ∧ r = valV kvs k) ∨ ∃ kvs k b, Rd H a (.dT kvs) ∧ y = .ref b ∧ H b = some (.tup (k.map kV)) ∧ r = valV kvs k
def DPut (H : Hp) (a : Addr) (y v : V) (H' : Hp) : Prop :=
 (∃ kvs k, H a = some (.dK kvs) ∧ y = kV k ∧ kvs.length < sizeLine ∧ H' = upd H a (.dK (putK kvs k v))) ∨
 ∃ kvs k b, H a = some (.dT kvs) ∧ y = .ref b ∧ H b = some (.tup (k.map kV)) ∧ kvs.length < sizeLine ∧ H' = upd H a (.dT (putK kvs k v))
theorem DGet.t {H : Hp} {a b : Addr} {kvs : List (List Key × V)} {k : List Key} (e : H a = some (.dT kvs)) (eb : H b = some (.tup (k.map kV))) : DGet H a (.ref b) (valV kvs k) := .inr ⟨kvs, k, b, .inl e, rfl, eb, rfl⟩
theorem DPut.t {H : Hp} {a b : Addr} {kvs : List (List Key × V)} {k : List Key} {v : V} (e : H a = some (.dT kvs)) (eb : H b = some (.tup (k.map kV))) (hl : kvs.length < sizeLine) :
  DPut H a (.ref b) v (upd H a (.dT (putK kvs k v))) := .inr ⟨kvs, k, b, e, rfl, eb, hl, rfl⟩
section
variable {X : Cx} {pins : List (Addr × Obj)} {σ : St} {H : Hp} {s : Shared} {a : Addr} {y v : V} {u r : Value} {o : Option V} {A : Around} {E : Value → Shared → Prop}
theorem Inv.big (I : Inv X pins σ H s) : sysModules < s.heap.objs.size := by
 have h : mainGlobals < s.heap.objs.size := (I.mod.glob.keeps I.bk).lt
 exact Nat.lt_trans (by decide) h
theorem d_getItem {Q : Value → Shared → Prop} (hu : A.units + 1 < cLine) (I : Inv X pins σ H s) (g : DGet H a y (some v)) (ry : RelV y u) (h : ∀ w' s', Inv X pins σ H s' → RelV v w' → Q w' s') :
  wpAny (model X.prog X.w) A (getItem (.ref a) u) Q E s := by
 rcases g with ⟨kvs, k, e, ey, l⟩ | ⟨kvs, k, b, e, ey, eb, l⟩
 ·subst ey
  obtain ⟨z, hd, vs, rel, dd⟩ := dk_rd I.hok e
  obtain ⟨w', hw, rw'⟩ := RelO.some_of (v := v) (o := valueAt vs k) (by rw [l]; exact rel.val k)
  exact wpAny_getItem_of (kV_is ry) dd.mapOf hw (h w' _ (I.tok _) rw')
 ·subst ey
  cases (show u = Value.ref b from ry)
  obtain ⟨z, hd, xs, rel, dd⟩ := dt_rd I.hok e
  obtain ⟨w', hw, rw'⟩ := RelO.some_of (v := v) (o := (atKey xs k).map (·.2)) (by rw [l]; exact rel.val k)
  obtain ⟨p, hp, hp2⟩ := Option.map_eq_some_iff.mp hw
  refine wpAny_getItem_heap (tupleKind_room_in1 hu) (key_of I.hok eb) dd hp ?_
  rw [hp2]
  exact h w' _ (I.tok _) rw'
theorem d_in {Q : Value → Shared → Prop} (hu : A.units + 1 < cLine) (I : Inv X pins σ H s) (g : DGet H a y o) (ry : RelV y u) (h : ∀ s', Inv X pins σ H s' → Q (.bool o.isSome) s') :
  wpAny (model X.prog X.w) A (compareOp .In u (.ref a)) Q E s := by
 rcases g with ⟨kvs, k, e, ey, l⟩ | ⟨kvs, k, b, e, ey, eb, l⟩
 ·subst ey
  obtain ⟨z, hd, vs, rel, dd⟩ := dk_rd I.hok e
  refine wpAny_in_of (kV_is ry) hd dd.mapOf ?_
  rw [← (rel.val k).isSome_eq, ← l]
  exact h _ (I.tok _)
 ·subst ey
  cases (show u = Value.ref b from ry)
  obtain ⟨z, hd, xs, rel, dd⟩ := dt_rd I.hok e
  refine wpAny_in_heap (tupleKind_room_in1 hu) (key_of I.hok eb) hd dd ?_
  have q := (rel.val k).isSome_eq
  rw [Option.isSome_map] at q
  rw [← q, ← l]
  exact h _ (I.tok _)
theorem d_notIn {Q : Value → Shared → Prop} (hu : A.units + 1 < cLine) (I : Inv X pins σ H s) (g : DGet H a y o) (ry : RelV y u) (h : ∀ s', Inv X pins σ H s' → Q (.bool (!o.isSome)) s') :
  wpAny (model X.prog X.w) A (compareOp .NotIn u (.ref a)) Q E s := by
 rcases g with ⟨kvs, k, e, ey, l⟩ | ⟨kvs, k, b, e, ey, eb, l⟩
 ·subst ey
  obtain ⟨z, hd, vs, rel, dd⟩ := dk_rd I.hok e
  refine wpAny_notIn_of (kV_is ry) hd dd.mapOf ?_
  rw [← (rel.val k).isSome_eq, ← l]
  exact h _ (I.tok _)
 ·subst ey
  cases (show u = Value.ref b from ry)
  obtain ⟨z, hd, xs, rel, dd⟩ := dt_rd I.hok e
  refine wpAny_notIn_heap (tupleKind_room_in1 hu) (key_of I.hok eb) hd dd ?_
  have q := (rel.val k).isSome_eq
  rw [Option.isSome_map] at q
  rw [← q, ← l]
  exact h _ (I.tok _)
theorem d_write {h' : Heap} {t' : Nat} {ob : HO} (I : Inv X pins σ H s) (mu : Mut (H a)) (hs : Heap.SameBut a s.heap h') (he : ∃ q, h'.get? a = some q) (new : ObjOk X.prog X.w (upd H a ob) h' a ob) :
  Inv X pins σ (upd H a ob) { s with heap := h', toks := t' } :=
 I.write (x := a) (e := a) mu (.inl rfl) (fun b q hb z => (hs.2 b hb).trans z) he new
theorem dk_new {P : Program} {w : World} {H' : Hp} {h' : Heap} {kvs : List (Key × V)} {vs : List (Key × Value)} (z : kvs.length ≤ sizeLine) (hd : (a == sysModules) = false) (rel : KV kvs vs) (dd : h'.DictOf (mixKind P w) a vs) :
  ObjOk P w H' h' a (.dK kvs) := ⟨z, hd, vs, rel, dd⟩
theorem d_setItem {H' : Hp} {Q : Unit → Shared → Prop} (hu : A.units + 1 < cLine) (I : Inv X pins σ H s) (g : DPut H a y v H') (ry : RelV y u) (rv : RelV v r) (h : ∀ s', Inv X pins σ H' s' → Q () s') :
  wpAny (model X.prog X.w) A (setItem (.ref a) u r) Q E s := by
 rcases g with ⟨kvs, k, e, ey, l, eH⟩ | ⟨kvs, k, b, e, ey, eb, l, eH⟩
 ·subst ey eH
  obtain ⟨z, hd, vs, rel, dd⟩ := dk_of I.hok e
  have hz : vs.length ≤ sizeLine := by rw [← rel.length]; exact z
  have hl : (putK kvs k v).length ≤ sizeLine := by have := length_putK kvs k v; omega
  refine wpAny_setItem_pairs (hsz := hz) (kV_is ry) dd fun h' dd' hs => h _ ?_
  have he : ∃ q, h'.get? a = some q := let ⟨q, _, _, hq, _⟩ := dd'; ⟨q, hq⟩
  exact d_write I (by rw [e]; exact True.intro) hs he (dk_new hl hd (rel.put k rv) dd')
 ·subst ey eH
  cases (show u = Value.ref b from ry)
  obtain ⟨z, hd, xs, rel, dd⟩ := dt_of I.hok e
  have hz : xs.length ≤ sizeLine := by rw [← Paired.length rel]; exact z
  have hl : (putK kvs k v).length ≤ sizeLine := by have := length_putK kvs k v; omega
  refine wpAny_setItem_heap (hsz := hz) (tupleKind_room_in1 hu) (key_of I.hok eb) dd fun h' dd' hs => h _ ?_
  obtain ⟨q, es, ep, hq, h2, h3, h4, _, h5⟩ := dd'
  refine d_write I (by rw [e]; exact True.intro) hs ⟨q, hq⟩ ⟨hl, hd, _, (rel.put k eb rv).keeps fun c ys ec => ?_, q, es, ep, hq, h2, h3, h4, h5⟩
  rw [upd_ne (ne_of ec e (fun z => nomatch z))]
  exact ec
end
section
variable {X : Cx} {pins : List (Addr × Obj)} {σ : St} {H : Hp} {s : Shared} {a : Addr} {kvs : List (Key × V)} {k : Key} {u : Value} {A : Around} {E : Value → Shared → Prop}
end
def NoSl (i : Expr) : Prop := ∀ ov iv, subscripted i false ov iv = operate [ov, iv] (getItem ov iv)
theorem subD_of {prog : Program} {w : World} {A : Around} {E : Value → Shared → Prop} {s : Shared} {env : Env} {value slice : Expr} {pos : Pos} {T id : String} {Q : Value → Shared → Prop}
  (hl : typeLookup (.type T) "__getitem__" = pure (some (.builtin id))) (hs : NoSl slice)
  (h : wpAny (model prog w) A (eval value env) (fun o s₁ => wpAny (model prog w) A (eval slice env) (fun i s₂ => s₂.TypeIs o T ∧ wpAny (model prog w) A (getItem o i) Q E s₂) E s₁) E s) :
  wpAny (model prog w) A (eval (.Subscript value slice pos) env) Q E s := by
 refine Subscript_ (wpAny_mono h (fun o s₁ h₁ => wpAny_mono h₁ (fun i s₂ h₂ => ?_) fun _ _ x => x) fun _ _ x => x)
 obtain ⟨hT, h₂⟩ := h₂
 unfold subscriptTail
 refine wpAny_bind ?_
 rw [getitemInPython_of_ne hT.not_modules]
 refine wpAny_bind (wpAny_specialOf hT hl ?_)
 have fin : wpAny (model prog w) A (subscripted slice false o i) (fun r s₃ => wpAny (model prog w) A (letTemporaryGo value o r >>= fun _ => pure r) Q E s₃) E s₂ := by
  rw [hs o i]
  exact wpAny_operating (wpAny_mono h₂ (fun r s₃ h₃ => wpAny_bind (wpAny_letTemporaryGo (wpAny_pure h₃))) fun _ _ x => x)
 first
  | exact wpAny_pure (wpAny_bind fin)
  | exact wpAny_bind (wpAny_pure (wpAny_bind fin))
  | exact wpAny_bind fin
theorem dict_typeIs {X : Cx} {pins : List (Addr × Obj)} {σ : St} {H : Hp} {s : Shared} {a : Addr} {y : V} {o : Option V} (I : Inv X pins σ H s) (g : DGet H a y o) : s.TypeIs (.ref a) "dict" := by
 rcases g with ⟨kvs, k, e, _, _⟩ | ⟨kvs, k, b, e, _, _, _⟩
 ·obtain ⟨_, _, vs, _, dd⟩ := dk_rd I.hok e
  exact dd.typeIs
 ·obtain ⟨_, _, xs, _, dd⟩ := dt_rd I.hok e
  exact dd.typeIs
def tDGet (td ty : TE) : TE := fun σ H Q => td σ H fun x H1 => ty σ H1 fun y H2 => ∃ a v, x = .ref a ∧ DGet H2 a y (some v) ∧ Q v H2
def tDIn (ty td : TE) : TE := fun σ H Q => ty σ H fun y H1 => td σ H1 fun x H2 => ∃ a o, x = .ref a ∧ DGet H2 a y o ∧ Q (.bl o.isSome) H2
def tDNotIn (ty td : TE) : TE := fun σ H Q => ty σ H fun y H1 => td σ H1 fun x H2 => ∃ a o, x = .ref a ∧ DGet H2 a y o ∧ Q (.bl (!o.isSome)) H2
def sDPut (td ty tv : TE) : TS := fun D σ H => tv σ H fun v H1 => td σ H1 fun x H2 => ty σ H2 fun y H3 => ∃ a H4, x = .ref a ∧ DPut H3 a y v H4 ∧ D.nx σ H4
section
variable {X : Cx} {o i e value : Expr} {pos pos' tpos : Pos} {td ty tv : TE}
theorem pe_dget (hu : X.A.units + 1 < cLine) (ho : PE X o td) (hi : PE X i ty) (hs : NoSl i) : PE X (.Subscript o i pos) (tDGet td ty) := by
 intro pins s σ H Q I h
 refine subD_of PySem.F.slot_dict_getitem.lookup hs (thn (ho pins s σ H _ I h) fun u s1 ⟨x, H1, I1, rx, q1⟩ => thn (hi pins s1 σ H1 _ I1 q1) fun iv s2 ⟨y, H2, I2, ry, a, v, ex, g, q2⟩ => ?_)
 subst ex
 obtain rfl : u = Value.ref a := rx
 exact ⟨dict_typeIs I2 g, d_getItem hu I2 g ry fun w' s3 I3 rw' => ⟨v, H2, I3, rw', q2⟩⟩
theorem pc_din (hu : X.A.units + 1 < cLine) (hi : PE X i ty) (ho : PE X o td) : PC X .In i o (tDIn ty td) := by
 intro pins s σ H Q I h
 refine thn (hi pins s σ H _ I h) fun iv s1 ⟨y, H1, I1, ry, q1⟩ => thn (ho pins s1 σ H1 _ I1 q1) fun u s2 ⟨x, H2, I2, rx, a, ov, ex, g, q2⟩ => ?_
 subst ex
 obtain rfl : u = Value.ref a := rx
 exact d_in hu I2 g ry fun s3 I3 => ⟨.bl ov.isSome, H2, I3, rfl, q2⟩
theorem pc_dnotin (hu : X.A.units + 1 < cLine) (hi : PE X i ty) (ho : PE X o td) : PC X .NotIn i o (tDNotIn ty td) := by
 intro pins s σ H Q I h
 refine thn (hi pins s σ H _ I h) fun iv s1 ⟨y, H1, I1, ry, q1⟩ => thn (ho pins s1 σ H1 _ I1 q1) fun u s2 ⟨x, H2, I2, rx, a, ov, ex, g, q2⟩ => ?_
 subst ex
 obtain rfl : u = Value.ref a := rx
 exact d_notIn hu I2 g ry fun s3 I3 => ⟨.bl (!ov.isSome), H2, I3, rfl, q2⟩
theorem ps_dput (hu : X.A.units + 1 < cLine) (ho : PE X o td) (hi : PE X i ty) (hv : PE X value tv) (hs : swapsWith value (some (.Subscript o i pos')) pos.line X.env = pure false) :
  PS X (.Assign [.Subscript o i pos'] value pos) (sDPut td ty tv) := by
 intro pins s σ H D I h
 refine wpAny_Assign_Subscript (thn (hv pins s σ H _ I h) fun r s1 ⟨v, H1, I1, rv, q1⟩ => thn (ho pins s1 σ H1 _ I1 q1) fun u s2 ⟨x, H2, I2, rx, q2⟩ => thn (hi pins s2 σ H2 _ I2 q2) fun iv s3 ⟨y, H3, I3, ry, a, H4, ex, g, q3⟩ => ?_) hs
 subst ex
 obtain rfl : u = Value.ref a := rx
 exact d_setItem hu I3 g ry rv fun s4 I4 => ⟨σ, H4, I4, q3⟩
end
theorem dt_empty {P : Program} {w : World} {H : Hp} (h : Heap) (hb : sysModules < h.objs.size) : ObjOk P w H (h.push { cls := .type "dict", data := .dict #[] }) h.objs.size (.dT []) :=
 ⟨Nat.zero_le _, beq_eq_false_iff_ne.mpr (Ne.symm (Nat.ne_of_lt hb)), [], .nil, _, #[], 0, Heap.get?_push_size _ rfl, ⟨rfl, rfl, rfl⟩, rfl, rfl, List.nodup_nil⟩
def tDNewT : TE := fun _ H Q => ∀ p, H p = none → Q (.ref p) (upd H p (.dT []))
section
variable {X : Cx} {pos : Pos}
theorem pe_dnewT : PE X (.Dict [] [] pos) tDNewT := fun pins s σ H Q I h =>
 wpAny_Dict_empty ⟨.ref s.heap.objs.size, _, I.laid (a := s.heap.objs.size) (o := .dT []) (t' := s.toks) (fun _ _ q => Heap.get?_push_of_some _ q) (Nat.le_refl _) (dt_empty s.heap I.big), rfl, h _ (I.hok.fresh (Nat.le_refl _))⟩
end
section
variable {X : Cx} {pins : List (Addr × Obj)} {σ : St} {H : Hp} {s : Shared} {a : Addr} {y d : V} {u r : Value} {o : Option V} {A : Around} {E : Value → Shared → Prop}
end
section
variable {X : Cx} {o e f : Expr} {apos cpos : Pos} {td ty tx : TE}
end
section
variable {X : Cx} {pins : List (Addr × Obj)} {σ : St} {H : Hp} {s : Shared} {a : Addr} {kvs : List (Key × V)} {A : Around} {E : Value → Shared → Prop}
end
section
variable {X : Cx} {pins : List (Addr × Obj)} {σ : St} {H : Hp} {s : Shared} {a : Addr} {y : V} {u : Value} {A : Around} {E : Value → Shared → Prop}
end
end L2
namespace HT
open PySem PyProof.Rows
def lexLt : List Int → List Int → Bool
 | [], [] => false
 | [], _ :: _ => true
 | _ :: _, [] => false
 | x :: xs, y :: ys => if x = y then lexLt xs ys else decide (x < y)
theorem lexLt_cons (x y : Int) (xs ys : List Int) : lexLt (x :: xs) (y :: ys) = if x = y then lexLt xs ys else decide (x < y) := rfl
theorem lexLt_nil_nil : lexLt [] [] = false := rfl
theorem lexLt_nil_cons (y : Int) (ys : List Int) : lexLt [] (y :: ys) = true := rfl
theorem lexLt_cons_nil (x : Int) (xs : List Int) : lexLt (x :: xs) [] = false := rfl
theorem eqAt_int (A : Around) (s : Shared) (a : Int) (t : Tok) (c : Int) (u : Tok) : ∃ e, SeqAt.EqAt A s (.int a t) (.int c u) e ∧ (e = true ↔ a = c) :=
 ⟨(a == c), SeqAt.EqAt.int_int a t c u, by simp⟩
theorem rcLt_int (A : Around) (s : Shared) (a : Int) (t : Tok) (c : Int) (u : Tok) (prog : Program) (w : World) (E : Value → Shared → Prop) (Q : Value → Shared → Prop) (h : Q (.bool (decide (a < c))) s) :
  wpAny (model prog w) A (richCompare .Lt (.int a t) (.int c u)) Q E s :=
 (PyProof.Rows.lt_int h : wpAny (model prog w) A (compareOp .Lt (.int a t) (.int c u)) Q E s)
section
open PySem.SeqAt
open PySem.AutoSeq1 (wpAny_loadPart')
open PySem.MeetsSeq PySem.MeetsSeq2 PySem.MeetsSeq3
theorem tuple_lt_ints (l b : Addr) (items items2 : Array Value) (n n2 : Nat) (dd dd2 : Option Addr) (sl sl2 : Array (Option Value)) (ns ms : List Int) (hi : IntsAre items.toList ns) (hj : IntsAre items2.toList ms) :
  Meets (Builtin.«tuple.__lt__» ⟨[.ref l, .ref b], []⟩)
   (fun _ R s => s.heap.get? l = some { cls := .type "tuple", dict := dd, data := .seq items n, slots := sl } ∧ s.heap.get? b = some { cls := .type "tuple", dict := dd2, data := .seq items2 n2, slots := sl2 } ∧
    R (.ok (.ret (.bool (lexLt ns ms)))) s) :=
 .of_wp fun prog w A R s h => by
  obtain ⟨hp, g, d, tk, os⟩ := s; obtain ⟨hl, hb, h⟩ := h
  have f2 := AutoSeq1.sub_tuple_tuple
  have z1 : items.size = ns.length := by rw [← hi.length]; simp
  have z2 : items2.size = ms.length := by rw [← hj.length]; simp
  wp_walk using wpAny_loadPart' hl, wpAny_loadPart' hb, wpAny_forIn_list _ (fun rest b s' => b.1 = none ∧ s' = ⟨hp, g, d, tk, os⟩ ∧ ∃ (vs ws : List Value) (ns' ms' : List Int), rest = vs.zip ws ∧
   IntsAre vs ns' ∧ IntsAre ws ms' ∧ ns'.length + items2.size = ms'.length + items.size ∧ R (.ok (.ret (.bool (lexLt ns' ms')))) ⟨hp, g, d, tk, os⟩) _
  case turn =>
   rintro ⟨y, x⟩ rest b s' ⟨hb', rfl, vs, ws, ns', ms', hz, hvi, hwi, hlen, hR⟩
   cases hvi with
   | nil => rw [List.zip_nil_left] at hz; cases hz
   | cons a t hvi' =>
    cases hwi with
    | nil => rw [List.zip_nil_right] at hz; cases hz
    | cons c u hwi' =>
     rw [List.zip_cons_cons] at hz
     injection hz with hyx hrest
     injection hyx with hy hx
     subst hy hx
     rw [lexLt_cons] at hR
     simp only [List.length_cons] at hlen
     obtain ⟨e, he, hiff⟩ := eqAt_int A.in1 ⟨hp, g, d, tk, os⟩ a t c u
     refine wpAny_bind (he prog w _ _ ?_)
     cases e with
     | true =>
      rw [if_pos (hiff.mp rfl)] at hR
      wp_walk
      exact ⟨rfl, rfl, _, _, _, _, hrest, hvi', hwi', by omega, hR⟩
     | false =>
      rw [if_neg (fun q => absurd (hiff.mpr q) Bool.false_ne_true)] at hR
      have hri := rcLt_int A.in1 ⟨hp, g, d, tk, os⟩ a t c u prog w
      wp_walk using hri
      exact ⟨_, rfl, by simpa using hR⟩
  case fin =>
   rintro ⟨b1, b2⟩ s' ⟨hb', rfl, vs, ws, ns', ms', hz, hvi, hwi, hlen, hR⟩
   simp only at hb'
   subst hb'
   have hv : lexLt ns' ms' = decide (items.size < items2.size) := by
    cases hvi with
    | nil =>
     cases hwi with
     | nil =>
      simp only [List.length_nil] at hlen
      rw [lexLt_nil_nil]
      exact (decide_eq_false (by omega)).symm
     | cons c u hw =>
      simp only [List.length_nil, List.length_cons] at hlen
      rw [lexLt_nil_cons]
      exact (decide_eq_true (by omega)).symm
    | cons a t hv =>
     cases hwi with
     | nil =>
      simp only [List.length_nil, List.length_cons] at hlen
      rw [lexLt_cons_nil]
      exact (decide_eq_false (by omega)).symm
     | cons c u hw =>
      rw [List.zip_cons_cons] at hz
      cases hz
   rw [hv] at hR
   wp_walk
   exact ⟨_, rfl, by simpa [Builtin.Tuple.tupleCompareSizes] using hR⟩
  case h =>
   exact ⟨rfl, rfl, items.toList, items2.toList, ns, ms, rfl, hi, hj, by omega, h⟩
end
section
variable {prog : Program} {w : World} {A : Around} {E : Value → Shared → Prop} {s : Shared}
theorem lt_tupInts {l b : Addr} {items items2 : Array Value} {ns ms : List Int} {Q : Value → Shared → Prop} (hl : IsTup s.heap l items) (hb : IsTup s.heap b items2) (hi : IntsAre items.toList ns) (hj : IntsAre items2.toList ms)
  (hu : A.units < cLine) (h : Q (.bool (lexLt ns ms)) s) : wpAny (model prog w) A (compareOp .Lt (.ref l) (.ref b)) Q E s := by
 obtain ⟨⟨cls, dd, data, sl⟩, ho, hc, n, hd⟩ := id hl
 obtain ⟨⟨cls2, dd2, data2, sl2⟩, ho2, hc2, n2, hd2⟩ := id hb
 simp only at hc hd hc2 hd2
 subst hc hd hc2 hd2
 exact richCompare_meets_room (op := .Lt) ⟨_, ho, rfl⟩ ⟨_, ho2, rfl⟩ PySem.F.slot_tuple_lt PySem.F.entry_tuple_lt (PySem.F.args_tuple_lt_2 _ _) (tuple_lt_ints l b items items2 n n2 dd dd2 sl sl2 ns ms hi hj)
  ⟨ho, ho2, show Value.bool (lexLt ns ms) ≠ Value.notImplemented ∧ Q (.bool (lexLt ns ms)) s from ⟨(fun x => nomatch x), h⟩⟩ hu
def sIx (n d : Nat) : Option Int → Nat
 | none => d
 | some v => if v < 0 then (v + (n : Int)).toNat else min v.toNat n
theorem sIx_none (n d : Nat) : sIx n d none = d := rfl
theorem sIx_nat (n d k : Nat) : sIx n d (some (k : Int)) = min k n := by
 show (if (k : Int) < 0 then ((k : Int) + (n : Int)).toNat else min (k : Int).toNat n) = min k n
 rw [if_neg (by omega), Int.toNat_natCast]
theorem sIx_le (n d : Nat) (hd : d ≤ n) (o : Option Int) : sIx n d o ≤ n := by
 cases o with
 | none => exact hd
 | some v =>
  show (if v < 0 then (v + (n : Int)).toNat else min v.toNat n) ≤ n
  by_cases hv : v < 0
  ·rw [if_pos hv]; omega
  ·rw [if_neg hv]; exact Nat.min_le_right _ _
end
end HT
namespace L2
open PySem PySem.Spec PyProof.Rows
abbrev TO := St → Hp → (Option Int → Hp → Prop) → Prop
def PO (X : Cx) (e : Option Expr) (t : TO) : Prop :=
 ∀ (pins : List (Addr × Obj)) (s : Shared) (σ : St) (H : Hp) (Q : Option Int → Hp → Prop), Inv X pins σ H s → t σ H Q →
  wpAny (model X.prog X.w) X.A (evalPart e X.env) (fun u s' => ∃ o H', Inv X pins σ H' s' ∧ IsPart u o ∧ Q o H') X.xe s
def tNoPart : TO := fun _ H Q => Q none H
def tPart (t : TE) : TO := fun σ H Q => t σ H fun x H1 => ∃ i, x = .int i ∧ Q (some i) H1
theorem intsAre_of {ns : List Int} : ∀ {us : List Value}, Vals (ns.map V.int) us → IntsAre us ns := by
 induction ns with
 | nil => intro us r; rw [List.map_nil] at r; cases r; exact .nil
 | cons n ns ih =>
  intro us r
  rw [List.map_cons] at r
  cases r with
  | cons r1 r2 =>
   obtain ⟨t, e⟩ := r1
   subst e
   exact .cons n t (ih r2)
section
variable {X : Cx} {e : Expr} {te : TE} {lo hi : Option Expr} {tl th : TO} {pos p2 : Pos}
theorem po_none : PO X none tNoPart := by
 intro pins s σ H Q I h
 rw [evalPart_none]
 exact wpAny_pure ⟨none, H, I, .none, h⟩
theorem po_some (h : PE X e te) : PO X (some e) (tPart te) := by
 intro pins s σ H Q I hw
 rw [evalPart_some]
 refine thn (h pins s σ H _ I hw) fun u s1 ⟨x, H1, I1, r1, q1⟩ => ?_
 obtain ⟨i, rfl, q⟩ := q1
 obtain ⟨t, rfl⟩ := r1
 exact ⟨some i, H1, I1, .int i t, q⟩
def SlR (X : Cx) (r : V → Option Int → Option Int → Hp → VK → Prop) : Prop :=
 ∀ (pins : List (Addr × Obj)) (s : Shared) (σ : St) (H : Hp) (x : V) (v vl vu : Value) (lo hi : Option Int) (sl : Addr) (Q : VK), Inv X pins σ H s → RelV x v → s.heap.IsSliceOf sl vl vu .none → IsPart vl lo → IsPart vu hi → r x lo hi H Q →
  ∃ T id, typeLookup (.type T) "__getitem__" = pure (some (.builtin id)) ∧ s.TypeIs v T ∧ wpAny (model X.prog X.w) X.A (getItem v (.ref sl)) (EP X pins σ Q) X.xe s
def tSl (r : V → Option Int → Option Int → Hp → VK → Prop) (te : TE) (tl th : TO) : TE := fun σ H Q => te σ H fun x H1 => tl σ H1 fun l H2 => th σ H2 fun u H3 => r x l u H3 Q
theorem pe_slice {r : V → Option Int → Option Int → Hp → VK → Prop} (hr : SlR X r) (he : PE X e te) (hl : PO X lo tl) (hu : PO X hi th) : PE X (.Subscript e (.Slice lo hi none p2) pos) (tSl r te tl th) := by
 intro pins s σ H Q I h
 refine Subscript_ (thn (he pins s σ H _ I h) fun v s1 ⟨x, H1, I1, r1, q1⟩ => ?_)
 refine wpAny_Slice (thn (hl pins s1 σ H1 _ I1 q1) fun vl s2 ⟨l, H2, I2, pl, q2⟩ => thn (hu pins s2 σ H2 _ I2 q2) fun vu s3 ⟨u, H3, I3, pu, q3⟩ => ?_)
 rw [evalPart_none]
 refine wpAny_pure ?_
 have I4 : Inv X pins σ H3 { s3 with heap := s3.heap.push { cls := .type "slice", data := .fields #[vl, vu, .none] } } := I3.kept (t' := s3.toks) fun b ob q => Heap.get?_push_of_some _ q
 obtain ⟨T, id, hT, ht, hg⟩ := hr pins { s3 with heap := s3.heap.push { cls := .type "slice", data := .fields #[vl, vu, .none] } } σ H3 x v vl vu l u s3.heap.objs.size Q I4 r1 (Heap.IsSliceOf.new ..) pl pu q3
 show wpAny (model X.prog X.w) X.A (subscriptTail e (.Slice lo hi none p2) v (.ref s3.heap.objs.size)) (EP X pins σ Q) X.xe { s3 with heap := s3.heap.push { cls := .type "slice", data := .fields #[vl, vu, .none] } }
 exact tail_any (ops := [.ref s3.heap.objs.size, v]) ht hT hg (by with_unfolding_all rfl)
def cutV (xs : List V) (lo hi : Option Int) : List V := (xs.drop (HT.sIx xs.length 0 lo)).take (HT.sIx xs.length xs.length hi - HT.sIx xs.length 0 lo)
theorem cutV_length (xs : List V) (lo hi : Option Int) : (cutV xs lo hi).length ≤ xs.length := by
 unfold cutV
 rw [List.length_take, List.length_drop]
 omega
end
end L2
namespace L2
open PySem PySem.Spec PyProof.Rows
def ixN (n : Nat) (i : Int) : Option Nat := if 0 ≤ i then (if i < n then some i.toNat else none) else if -(n : Int) ≤ i then some (i + n).toNat else none
def atI {α : Type} (xs : List α) (i : Int) : Option α := (ixN xs.length i).bind fun j => xs[j]?
theorem ixN_seq {n : Nat} {i : Int} {j : Nat} (h : ixN n i = some j) : seqIndex? i n = some j ∧ j < n ∧ -(n : Int) ≤ i ∧ i < n := by
 unfold ixN at h
 by_cases h0 : 0 ≤ i
 ·rw [if_pos h0] at h
  by_cases h1 : i < n
  ·rw [if_pos h1] at h
   have e : i.toNat = j := Option.some.inj h
   exact ⟨by rw [seqIndex_of h0 h1, e], by omega, by omega, h1⟩
  ·rw [if_neg h1] at h; cases h
 ·rw [if_neg h0] at h
  by_cases h1 : -(n : Int) ≤ i
  ·rw [if_pos h1] at h
   have e : (i + n).toNat = j := Option.some.inj h
   exact ⟨by rw [seqIndex_neg (by omega) h1, e], by omega, h1, by omega⟩
  ·rw [if_neg h1] at h; cases h
theorem atI_get {α : Type} {xs : List α} {i : Int} {v : α} (h : atI xs i = some v) : ∃ j, seqIndex? i xs.length = some j ∧ xs[j]? = some v ∧ j < xs.length ∧ -(xs.length : Int) ≤ i ∧ i < xs.length := by
 unfold atI at h
 cases e : ixN xs.length i with
 | none => rw [e] at h; cases h
 | some j =>
  rw [e] at h
  obtain ⟨h1, h2, h3, h4⟩ := ixN_seq e
  exact ⟨j, h1, h, h2, h3, h4⟩
theorem atI_nat {α : Type} {xs : List α} {j : Nat} {v : α} (h : xs[j]? = some v) : atI xs (j : Int) = some v := by
 have hj : j < xs.length := (List.getElem?_eq_some_iff.mp h).1
 have e : ixN xs.length (j : Int) = some j := by
  unfold ixN
  rw [if_pos (by omega), if_pos (by omega)]; simp
 unfold atI; rw [e]; exact h
theorem atI_last {α : Type} (xs : List α) (v : α) : atI (xs ++ [v]) (-1) = some v := by
 have hl : (xs ++ [v]).length = xs.length + 1 := by simp
 have e : ixN (xs ++ [v]).length (-1) = some xs.length := by
  unfold ixN
  rw [hl, if_neg (by decide), if_pos (by omega)]
  congr 1
  omega
 unfold atI
 rw [e]
 show (xs ++ [v])[xs.length]? = some v
 simp
def PlainIx (b : Expr) : Prop := ∀ o i, subscripted b false o i = operate [o, i] (getItem o i)
def IxR (X : Cx) (r : R2) : Prop :=
 ∀ (value slice : Expr) (pins : List (Addr × Obj)) (s : Shared) (σ : St) (H : Hp) (x y : V) (v u : Value) (Q : VK), Inv X pins σ H s → RelV x v → RelV y u → r x y H Q →
  subscripted slice false v u = operate [v, u] (getItem v u) → wpAny (model X.prog X.w) X.A (subscriptTail value slice v u) (EP X pins σ Q) X.xe s
def MtR (X : Cx) (id : String) (r : V → List V → Hp → VK → Prop) : Prop :=
 ∀ (pins : List (Addr × Obj)) (s : Shared) (σ : St) (H : Hp) (x : V) (xs : List V) (v : Value) (us : List Value) (Q : VK), Inv X pins σ H s → RelV x v → Vals xs us → r x xs H Q →
  wpAny (model X.prog X.w) X.A (call (.builtin id) (v :: us)) (EP X pins σ Q) X.xe s
section
variable {X : Cx} {a b : Expr} {ta tb : TE} {pos : Pos}
theorem pe_ix {r : R2} (hr : IxR X r) (ha : PE X a ta) (hb : PE X b tb) (hs : PlainIx b) : PE X (.Subscript a b pos) (tOp r ta tb) := by
 intro pins s σ H Q I h
 exact Subscript_ (binT ha hb I h fun v u s2 x y H2 I2 rx ry q => hr a b pins s2 σ H2 x y v u Q I2 rx ry q (hs _ _))
def rIxL (K : PySem.W.Frag) : R2 := fun x y H Q => ∃ p xs i v, x = .ref p ∧ y = .int i ∧ SqL K H p xs ∧ atI xs i = some v ∧ Q v H
def rIxT (K : PySem.W.Frag) : R2 := fun x y H Q => ∃ p xs i v, x = .ref p ∧ y = .int i ∧ SqT K H p xs ∧ atI xs i = some v ∧ Q v H
def rIxS : R2 := fun x y H Q => ∃ z i c, x = .str z ∧ y = .int i ∧ z.length ≤ sizeLine ∧ atI z.cps.toList i = some c ∧ Q (.str ⟨#[c]⟩) H
theorem ix_list : IxR X (rIxL X.K) := by
 intro value slice pins s σ H x y v u Q I rx ry h hs
 obtain ⟨p, xs, i, z, rfl, rfl, hq, he, q⟩ := h
 cases rx
 obtain ⟨t, rfl⟩ := ry
 obtain ⟨its, r, pl, hz⟩ := I.list hq
 obtain ⟨j, h1, h2, h3, h4, h5⟩ := atI_get he
 obtain ⟨w, ew, rw'⟩ := r.get h2
 have hl := r.length
 have hn := line63
 have fin : EP X pins σ Q w s := ⟨z, H, I, rw', q⟩
 by_cases h0 : 0 ≤ i
 ·have hj : i.toNat = j := by
   rw [seqIndex_of h0 h5] at h1
   exact Option.some.inj h1
  exact item_listR pl.isList h0 (by omega) (by rw [hj]; simpa using ew) fin hs
 ·have hj : (i + (its.toArray.size : Int)).toNat = j := by
   rw [seqIndex_neg (by omega) h4] at h1
   rw [List.size_toArray, ← hl]
   exact Option.some.inj h1
  exact subscriptTail_builtinR (x := w) pl.isList.typeIs slot_list_getitem.lookup
   (wpAny_getItem_list_neg (Q := fun r s' => r = w ∧ EP X pins σ Q r s') pl.isList (by omega) (by rw [List.size_toArray] <;> omega) (by omega) (by rw [hj]; simpa using ew) ⟨rfl, fin⟩) hs
theorem ix_tup : IxR X (rIxT X.K) := by
 intro value slice pins s σ H x y v u Q I rx ry h hs
 obtain ⟨p, xs, i, z, rfl, rfl, hq, he, q⟩ := h
 cases rx
 obtain ⟨t, rfl⟩ := ry
 obtain ⟨its, r, pl, hz⟩ := I.tuple hq
 obtain ⟨j, h1, h2, h3, h4, h5⟩ := atI_get he
 obtain ⟨w, ew, rw'⟩ := r.get h2
 have hl := r.length
 have hn := line63
 have fin : EP X pins σ Q w s := ⟨z, H, I, rw', q⟩
 exact subscriptTail_builtinR (x := w) pl.typeIs slot_tuple_getitem.lookup
  (getItem_tuple (j := j) (Q := fun r s' => r = w ∧ EP X pins σ Q r s') pl (by omega) (by omega) (by rw [List.size_toArray, ← hl]; exact h1) (by simpa using ew) ⟨rfl, fin⟩) hs
theorem ix_str : IxR X rIxS := by
 intro value slice pins s σ H x y v u Q I rx ry h hs
 obtain ⟨z, i, c, rfl, rfl, hz, he, q⟩ := h
 obtain ⟨t, rfl⟩ := rx
 obtain ⟨t', rfl⟩ := ry
 obtain ⟨j, h1, h2, h3, h4, h5⟩ := atI_get he
 have hl : z.cps.toList.length = z.length := by simp [Str.length]
 rw [hl] at h1 h4 h5
 have hn := line63
 exact tail_any (typeIs_str s z t) slot_str_getitem.lookup (getItem_str (c := c) (by
  have e1 : decide (i < -(2 ^ 63 : Int)) = false := decide_eq_false (by omega)
  have e2 : decide (i ≥ 2 ^ 63) = false := decide_eq_false (by omega)
  rw [e1, e2, Bool.or_false]) (by rw [h1]; simpa using h2) ⟨.str ⟨#[c]⟩, H, I.tok _, ⟨_, rfl⟩, q⟩) hs
theorem slice_bounds (lo hi : Option Int) (n : Nat) : (sliceBounds lo hi none n).1 = ((HT.sIx n 0 lo : Nat) : Int) ∧ (sliceBounds lo hi none n).2.1 = ((HT.sIx n n hi : Nat) : Int) ∧ (sliceBounds lo hi none n).2.2 = 1 := by
 refine ⟨?_, ?_, rfl⟩
 ·cases lo with
  | none => simp [sliceBounds, HT.sIx]
  | some i =>
   simp only [sliceBounds, HT.sIx, Option.getD_none, show (1 : Int) > 0 by decide, if_true]
   by_cases h : i < 0
   ·simp only [h, if_true] <;> omega
   ·simp only [h, if_false] <;> omega
 ·cases hi with
  | none => simp [sliceBounds, HT.sIx]
  | some i =>
   simp only [sliceBounds, HT.sIx, Option.getD_none, show (1 : Int) > 0 by decide, if_true]
   by_cases h : i < 0
   ·simp only [h, if_true] <;> omega
   ·simp only [h, if_false] <;> omega
theorem slicePick_cut (its : List Value) (lo hi : Option Int) : slicePick its.toArray lo hi none = ((its.drop (HT.sIx its.length 0 lo)).take (HT.sIx its.length its.length hi - HT.sIx its.length 0 lo)).toArray := by
 obtain ⟨h1, h2, h3⟩ := slice_bounds lo hi its.toArray.size
 unfold slicePick
 rw [h1, h2, h3]
 simp only [sliceRange_one, pick_run, List.size_toArray] <;> rfl
def rSlL (K : PySem.W.Frag) : V → Option Int → Option Int → Hp → VK → Prop := fun x lo hi H Q => ∃ a xs, x = .ref a ∧ SqL K H a xs ∧ ∀ p, H p = none → Q (.ref p) (upd H p (.lst (cutV xs lo hi)))
theorem sl_list : SlR X (rSlL X.K) := by
 intro pins s σ H x v vl vu lo hi sl Q I rx hs pl pu h
 obtain ⟨a, xs, rfl, hx, q⟩ := h
 cases rx
 obtain ⟨its, r, ht, hz⟩ := I.list hx
 have hlen := r.length
 refine ⟨"list", _, slot_list_getitem.lookup, ht.isList.typeIs, ?_⟩
 refine wpAny_getItem_list_slice ht.isList hs pl pu .none (by simp) ?_ (by rw [List.size_toArray] <;> omega)
 rw [slicePick_cut, ← hlen]
 refine ⟨.ref s.heap.objs.size, _, I.laid (t' := s.toks) (o := .lst (cutV xs lo hi)) (fun b ob q => Heap.get?_push_of_some _ q) (Nat.le_refl _) ?_, rfl, q _ (I.hok.fresh (Nat.le_refl _))⟩
 exact ⟨Nat.le_trans (cutV_length xs lo hi) hz, _, 0, (r.drop (HT.sIx xs.length 0 lo)).take (HT.sIx xs.length xs.length hi - HT.sIx xs.length 0 lo), Heap.get?_push_size _ rfl⟩
theorem call_len_seq : CallR X (.builtin "len") (fun xs H Q => ∃ p ys, xs = [.ref p] ∧ (SqL X.K H p ys ∨ SqT X.K H p ys) ∧ Q (.int ys.length) H) := by
 intro pins s σ H xs us Q I r h
 obtain ⟨p, ys, rfl, hq, q⟩ := h
 obtain ⟨u, rfl, rx⟩ := vals1 r
 cases rx
 have hn := line63
 rcases hq with hq | hq
 ·obtain ⟨its, r', pl, hz⟩ := I.list hq
  have hlen := r'.length
  exact Calls.call_len_list pl.isList (by simp only [List.size_toArray] <;> omega) ⟨.int ys.length, H, I.tok _, ⟨s.toks + 1, by rw [List.size_toArray, hlen]⟩, q⟩
 ·obtain ⟨its, r', pl, hz⟩ := I.tuple hq
  have hlen := r'.length
  exact len_tuple pl (by simp only [List.size_toArray] <;> omega) ⟨.int ys.length, H, I.tok _, ⟨s.toks + 1, by rw [List.size_toArray, hlen]⟩, q⟩
theorem call_len_str : CallR X (.builtin "len") (fun xs H Q => ∃ z, xs = [.str z] ∧ z.length ≤ sizeLine ∧ Q (.int z.length) H) := by
 intro pins s σ H xs us Q I r h
 obtain ⟨z, rfl, hz, q⟩ := h
 obtain ⟨u, rfl, t, rfl⟩ := vals1 r
 have hn := line63
 exact len_str (by omega) ⟨.int z.length, H, I.tok _, ⟨_, rfl⟩, q⟩
theorem call_list_of : CallR X (.type "list") (fun xs H Q => ∃ p ys, xs = [.ref p] ∧ (SqL X.K H p ys ∨ SqT X.K H p ys) ∧ ∀ l, H l = none → Q (.ref l) (upd H l (.lst ys))) := by
 intro pins s σ H xs us Q I r h
 obtain ⟨p, ys, rfl, hq, q⟩ := h
 obtain ⟨u, rfl, rx⟩ := vals1 r
 cases rx
 have fin : ∀ (its : List Value), Vals ys its → ys.length ≤ sizeLine → ∀ (h' : Heap) (c' : Nat), (∀ b o', s.heap.get? b = some o' → h'.get? b = some o') →
   h'.get? s.heap.objs.size = some { cls := .type "list", dict := none, data := .seq its.toArray c', slots := #[] } → EP X pins σ Q (.ref s.heap.objs.size) { s with heap := h' } := fun its r' hz h' c' kp e =>
  ⟨.ref s.heap.objs.size, _, I.laid (t' := s.toks) kp (Nat.le_refl _) (show ObjOk X.prog X.w _ h' _ (.lst ys) from ⟨hz, its, c', r', e⟩), rfl, q _ (I.hok.fresh (Nat.le_refl _))⟩
 rcases hq with hq | hq
 ·obtain ⟨its, r', pl, hz⟩ := I.list hq
  have hlen := r'.length
  obtain ⟨o, ho, hc, n, hd⟩ := pl.isList
  exact call_list_seq p (.inl rfl) ho hc hd (fun h' c' kp e => fin its r' hz h' c' kp e) (by simp only [List.size_toArray] <;> omega)
 ·obtain ⟨its, r', pl, hz⟩ := I.tuple hq
  have hlen := r'.length
  obtain ⟨o, ho, hc, n, hd⟩ := pl
  exact call_list_seq p (.inr rfl) ho hc hd (fun h' c' kp e => fin its r' hz h' c' kp e) (by simp only [List.size_toArray] <;> omega)
def tyV (K : PySem.W.Frag) (T : String) (x : V) (H : Hp) : Prop := match x with
 | .str _ => T = "str"
 | .int _ => T = "int"
 | .ref p => (T = "list" ∧ ∃ xs, SqL K H p xs) ∨ (T = "tuple" ∧ ∃ o, K.lookup p = some o ∧ o.cls = .type "tuple" ∧ o.dict = none) ∨
   (T = "dict" ∧ ((∃ kvs, H p = some (.dK kvs)) ∨ ∃ kvs, H p = some (.dT kvs))) ∨ (T = "set" ∧ ∃ S n, H p = some (.set S n))
 | _ => False
theorem tyV_is {pins : List (Addr × Obj)} {σ : St} {H : Hp} {s : Shared} {T : String} {x : V} {v : Value} (I : Inv X pins σ H s) (r : RelV x v) (ty : tyV X.K T x H) :
  s.TypeIs v T ∧ ∀ a, v = .ref a → ∃ ob, s.heap.get? a = some ob ∧ ob.dict = none := by
 cases x with
 | str z =>
  obtain ⟨t, rfl⟩ := r
  cases (show T = "str" from ty)
  exact ⟨typeIs_str s z t, fun _ e => nomatch e⟩
 | int i =>
  obtain ⟨t, rfl⟩ := r
  cases (show T = "int" from ty)
  exact ⟨typeIs_int s i t, fun _ e => nomatch e⟩
 | ref p =>
  cases r
  rcases ty with ⟨rfl, xs, hq⟩ | ⟨rfl, o, hk, hc, hd⟩ | ⟨rfl, hk⟩ | ⟨rfl, S, n, hk⟩
  ·obtain ⟨its, _, pl, _⟩ := I.list hq
   refine ⟨pl.isList.typeIs, fun a e => ?_⟩
   cases e
   obtain ⟨o, n, e, c, hd, _⟩ := pl
   exact ⟨o, e, hd⟩
  ·refine ⟨⟨o, I.kIn p o hk, hc⟩, fun a e => ?_⟩
   cases e
   exact ⟨o, I.kIn _ o hk, hd⟩
  ·have z : ∃ o, s.heap.get? p = some o ∧ o.ExactDict := by
    rcases hk with ⟨kvs, hk⟩ | ⟨kvs, hk⟩
    ·obtain ⟨_, _, _, _, o, _, _, e, ex, _⟩ := I.hok p _ hk
     exact ⟨o, e, ex⟩
    ·obtain ⟨_, _, _, _, o, _, _, e, ex, _⟩ := I.hok p _ hk
     exact ⟨o, e, ex⟩
   obtain ⟨o, e, ex⟩ := z
   refine ⟨⟨o, e, ex.1⟩, fun a e2 => ?_⟩
   cases e2
   exact ⟨o, e, ex.2.1⟩
  ·obtain ⟨o, _, _, _, e, ex, _⟩ := I.hok p _ hk
   refine ⟨⟨o, e, ex.1⟩, fun a e2 => ?_⟩
   cases e2
   exact ⟨o, e, ex.2.1⟩
 | _ => exact False.elim ty
def tBM0 (K : PySem.W.Frag) (T : String) (r : V → List V → Hp → VK → Prop) (to : TE) : TE := fun σ H Q => to σ H fun x H1 => tyV K T x H1 ∧ r x [] H1 Q
def tBM (K : PySem.W.Frag) (T : String) (r : V → List V → Hp → VK → Prop) (to : TE) (t : TA) : TE := fun σ H Q => to σ H fun x H1 => tyV K T x H1 ∧ t σ H1 fun xs H2 => r x xs H2 Q
variable {o e : Expr} {es : List Expr} {to : TE} {t : TA} {name : Str} {apos cpos : Pos} {T id : String} {r : V → List V → Hp → VK → Prop}
theorem pe_bm0 (pa : PlainAttrs T) (slot : Slot T name id) (hty : typeOf (.builtin id) = pure (.type "method_descriptor")) (hm : MtR X id r) (ho : PE X o to)
  (hbase : attributeBase o name X.env (eval o X.env) = eval o X.env := by rfl) (hline : (apos.endLine == cpos.line) = true := by rfl) : PE X (.Call (.Attribute o name apos) [] [] cpos) (tBM0 X.K T r to) := by
 intro pins s σ H Q I h
 refine wpAny_Call_method0_late hbase hline (thn (ho pins s σ H _ I h) fun v s1 ⟨x, H1, I1, r1, ty, q1⟩ => ?_)
 obtain ⟨h1, h2⟩ := tyV_is I1 r1 ty
 exact ⟨T, id, pa, slot, hty, h1, h2, Calls.callWith_builtin rfl (PySem.evalArgs_none (hm pins s1 σ H1 x [] v [] Q I1 r1 .nil q1))⟩
theorem pe_bm (pa : PlainAttrs T) (slot : Slot T name id) (hty : typeOf (.builtin id) = pure (.type "method_descriptor")) (hm : MtR X id r) (ho : PE X o to) (ha : PA X (e :: es) t)
  (hbase : attributeBase o name X.env (eval o X.env) = eval o X.env := by rfl)
  (hfew : ((backTo cpos (starEach (e :: es) X.env)).all (fun x => !x.1) && (backToKw cpos (keywordEach [] X.env)).all (fun x => x.1.isSome)
   && decide ((e :: es).length + ([] : List Keyword).length + (if ([] : List Keyword).isEmpty then 0 else 1) < 30)) = true := by rfl)
  (hline : (apos.endLine == cpos.line) = true := by rfl) (hs : starEach (e :: es) X.env = (false, eval e X.env) :: starEach es X.env := by rfl) (hplain : (backTo cpos (starEach es X.env)).any (·.1) = false := by rfl) :
  PE X (.Call (.Attribute o name apos) (e :: es) [] cpos) (tBM X.K T r to t) := by
 intro pins s σ H Q I h
 refine wpAny_Call_method_late hbase hfew hline rfl (thn (ho pins s σ H _ I h) fun v s1 ⟨x, H1, I1, r1, ty, q1⟩ => ?_)
 obtain ⟨h1, h2⟩ := tyV_is I1 r1 ty
 refine ⟨T, id, pa, slot, hty, h1, h2, ?_⟩
 have hA := ha cpos pins s1 σ H1 _ I1 q1
 rw [hs] at hA ⊢
 refine Calls.callWith_builtin (by show (false || (backTo cpos (starEach es X.env)).any (·.1)) = false; rw [hplain] <;> rfl) (Calls.evalArgs_plain ?_)
 exact thn hA fun us s2 ⟨vs, H2, I2, r2, q2⟩ => hm pins s2 σ H2 x vs v us Q I2 r1 r2 q2
/- xs.append(e), list.index on a module's tuple .. are MtR facts of 06m -/
end
end L2
namespace L2
open PySem PySem.Spec PyProof.Rows
def MtM (X : Cx) (id : String) (r : V → List V → Hp → VK → Prop) : Prop :=
 ∀ (pins : List (Addr × Obj)) (s : Shared) (σ : St) (H : Hp) (x : V) (xs : List V) (v : Value) (us : List Value) (Q : VK), Inv X pins σ H s → RelV x v → Vals xs us → r x xs H Q →
  wpAny (model X.prog X.w) X.A (call (.builtin id) (v :: us)) (EP X pins σ Q) X.xe s
theorem Vals.one : ∀ {x : V} {us : List Value}, Vals [x] us → ∃ u, us = [u] ∧ RelV x u := by
 intro x us h
 cases h with | cons r t =>
 cases t
 exact ⟨_, rfl, r⟩
theorem Vals.zero : ∀ {us : List Value}, Vals [] us → us = []
 | _, .nil => rfl
theorem Vals.dropLast {xs : List V} {us : List Value} (h : Vals xs us) : Vals xs.dropLast us.dropLast := by
 induction h with
 | nil => exact .nil
 | cons r t ih =>
  cases t with
  | nil => exact .nil
  | cons q t' => exact .cons r ih
theorem erase_last {α : Type} (l : List α) : l.eraseIdx (l.length - 1) = l.dropLast := by
 induction l with
 | nil => rfl
 | cons a r ih =>
  cases r with
  | nil => rfl
  | cons b r =>
   have e : (a :: b :: r).length - 1 = ((b :: r).length - 1) + 1 := by
    have h1 : (a :: b :: r).length = r.length + 2 := rfl
    have h2 : (b :: r).length = r.length + 1 := rfl
    omega
   rw [e, List.eraseIdx_cons_succ, ih]
   all_goals rfl
section
variable {X : Cx} {pins : List (Addr × Obj)} {σ : St} {H : Hp} {s : Shared} {l b : Addr} {xs ys zs : List V}
theorem Inv.lset {its its' : List Value} {n : Nat} {f : Array Value → Array Value} {t' : Nat} (I : Inv X pins σ H s) (hH : H l = some (.lst xs))
  (e : s.heap.get? l = some { cls := .type "list", data := .seq its.toArray n }) (hf : f its.toArray = its'.toArray) (hv : Vals ys its') (hz : ys.length ≤ sizeLine) :
  Inv X pins σ (upd H l (.lst ys)) { s with heap := s.heap.update l (Obj.mapSeq f), toks := t' } := by
 have q := PySem.IsL.update e f
 rw [hf] at q
 refine I.write (x := l) (e := l) (by rw [hH]; exact trivial) (.inl rfl) (fun b' u hb hu => (Heap.get?_update_other s.heap (Obj.mapSeq f) (Ne.symm hb)).trans hu) ⟨_, q⟩ ?_
 exact ⟨hz, its', _, hv, q⟩
theorem Inv.lnew {its : List Value} {t' : Nat} (I : Inv X pins σ H s) (hv : Vals ys its) (hz : ys.length ≤ sizeLine) :
  Inv X pins σ (upd H s.heap.objs.size (.lst ys)) { s with heap := s.heap.push { cls := .type "list", data := .seq its.toArray }, toks := t' } :=
 I.laid (fun _ _ q => Heap.get?_push_of_some _ q) (Nat.le_refl _) ⟨hz, its, 0, hv, Heap.get?_push_size _ rfl⟩
theorem Inv.lstM (I : Inv X pins σ H s) (hH : H l = some (.lst xs)) : xs.length ≤ sizeLine ∧ ∃ (its : List Value) (n : Nat), Vals xs its ∧ xs.length = its.length ∧ s.heap.get? l = some { cls := .type "list", data := .seq its.toArray n } := by
 obtain ⟨z, its, n, r, e⟩ := I.hok l _ hH
 exact ⟨z, its, n, r, r.length, e⟩
theorem notLongL {n : Nat} (h : n ≤ sizeLine) : Builtin.List.listTooLong n = false := by
 unfold Builtin.List.listTooLong
 exact decide_eq_false (by omega)
end
section
variable {X : Cx}
def rAppend : V → List V → Hp → VK → Prop := fun x vs H Q => ∃ l xs y, x = .ref l ∧ vs = [y] ∧ H l = some (.lst xs) ∧ xs.length < sizeLine ∧ Q .non (upd H l (.lst (xs ++ [y])))
theorem mt_append : MtM X "list.append" rAppend := by
 intro pins s σ H x vs v us Q I rx rv h
 obtain ⟨l, xs, y, rfl, rfl, hH, hz, q⟩ := h
 cases rx
 obtain ⟨u, rfl, ru⟩ := rv.one
 obtain ⟨z, its, n, r, hl, e⟩ := I.lstM hH
 refine call_meets F.slot_list_append ⟨_, e, rfl⟩ F.entry_list_append (F.args_list_append_2 _ _) (PySem.list_append l its.toArray n u (by rw [List.size_toArray]; omega)) ⟨e, ?_⟩
 refine ⟨.non, _, I.lset (its' := its ++ [u]) hH e (by simp) (r.append (.cons ru .nil)) ?_, rfl, q⟩
 rw [List.length_append, List.length_singleton]
 omega
def rExtend : V → List V → Hp → VK → Prop := fun x vs H Q => ∃ l b xs zs, x = .ref l ∧ vs = [.ref b] ∧ H l = some (.lst xs) ∧ H b = some (.lst zs) ∧ xs.length + zs.length ≤ sizeLine ∧ Q .non (upd H l (.lst (xs ++ zs)))
theorem mt_extend : MtM X "list.extend" rExtend := by
 intro pins s σ H x vs v us Q I rx rv h
 obtain ⟨l, b, xs, zs, rfl, rfl, hH, hB, hz, q⟩ := h
 cases rx
 obtain ⟨u, rfl, ru⟩ := rv.one
 cases ru
 obtain ⟨z, its, n, r, hl, e⟩ := I.lstM hH
 obtain ⟨z2, its2, n2, r2, hl2, e2⟩ := I.lstM hB
 have hsz : its.toArray.size + its2.toArray.size ≤ sizeLine := by rw [List.size_toArray, List.size_toArray]; omega
 have hlong : ¬ (!its.toArray.isEmpty && Builtin.List.listTooLong (its.toArray.size + its2.toArray.size)) = true := by
  rw [notLongL hsz, Bool.and_false]
  exact Bool.false_ne_true
 refine call_meets F.slot_list_extend ⟨_, e, rfl⟩ F.entry_list_extend (F.args_list_extend_2 _ _)
  (AutoSeq1.list_extend_list_list_0 l its.toArray n b its2.toArray n2 hlong (by rw [List.size_toArray]; omega) (by omega)) ⟨e, e2, ?_⟩
 refine ⟨.non, _, I.lset (its' := its ++ its2) hH e (by simp) (r.append r2) ?_, rfl, q⟩
 rw [List.length_append]
 omega
def rPop : V → List V → Hp → VK → Prop := fun x vs H Q => ∃ l xs y, x = .ref l ∧ vs = [] ∧ H l = some (.lst xs) ∧ xs[xs.length - 1]? = some y ∧ Q y (upd H l (.lst xs.dropLast))
theorem mt_pop : MtM X "list.pop" rPop := by
 intro pins s σ H x vs v us Q I rx rv h
 obtain ⟨l, xs, y, rfl, rfl, hH, hy, q⟩ := h
 cases rx
 have hus := rv.zero
 subst hus
 obtain ⟨z, its, n, r, hl, e⟩ := I.lstM hH
 obtain ⟨u, hu, ru⟩ := r.get hy
 have hy' : its.toArray[its.toArray.size - 1]? = some u := by
  show its.toArray[its.length - 1]? = some u
  rw [← Array.getElem?_toList, ← hl]
  exact hu
 refine call_meets F.slot_list_pop ⟨_, e, rfl⟩ F.entry_list_pop (F.args_list_pop_1 _) (MeetsSeq.list_pop_last l its.toArray n u hy' (by rw [List.size_toArray]; omega)) ⟨e, ?_⟩
 refine ⟨y, _, I.lset (its' := its.dropLast) hH e ?_ r.dropLast ?_, ru, q⟩
 ·show its.toArray.eraseIdxIfInBounds (its.toArray.size - 1) = its.dropLast.toArray
  rw [List.size_toArray, List.eraseIdxIfInBounds_toArray, erase_last]
 ·rw [List.length_dropLast]
  omega
end
section
variable {prog : Program} {w : World} {A : Around} {E : Value → Shared → Prop} {s : Shared}
theorem bounds_run {a c n : Nat} (hac : a ≤ c) (hc : c ≤ n) : sliceBounds (some (a : Int)) (some (c : Int)) none n = ((a : Int), (c : Int), 1) := by
 simp only [sliceBounds, Option.getD_none]
 have h1 : ¬ ((a : Int) < 0) := by omega
 have h2 : ¬ ((c : Int) < 0) := by omega
 simp only [h1, h2, if_false, show (1 : Int) > 0 by decide, if_true]
 congr 1
 ·omega
 ·congr 1; omega
set_option maxRecDepth 100000 in
theorem setItem_slice {l b sl : Addr} {items new : Array Value} {n n2 : Nat} {vl vu : Value} {a c : Nat} {Q : Unit → Shared → Prop}
    (e : s.heap.get? l = some { cls := .type "list", data := .seq items n }) (e2 : s.heap.get? b = some { cls := .type "list", data := .seq new n2 }) (hne : l ≠ b)
    (hs : s.heap.IsSliceOf sl vl vu .none) (pl : IsPart vl (some (a : Int))) (pu : IsPart vu (some (c : Int))) (hac : a ≤ c) (hc : c ≤ items.size)
    (hsz : items.size + new.size ≤ sizeLine) (h : Q () { s with heap := s.heap.update l (Obj.mapSeq fun xs => xs.extract 0 a ++ new ++ xs.extract c xs.size) }) :
    wpAny (model prog w) A (setItem (.ref l) (.ref sl) (.ref b)) Q E s := by
  have hl : s.heap.IsList l items := PySem.IsL.isList e
  have hb : s.heap.IsList b new := PySem.IsL.isList e2
  obtain ⟨os, hos, hcs, hds⟩ := id hs
  have hTs : s.TypeIs (.ref sl) "slice" := ⟨os, hos, hcs⟩
  have hstep : ¬ ((rawPart none == rawInt 0) = true) := Bool.false_ne_true
  have hsame : Builtin.List.listSameRef (.ref l) (.ref b) = false := by
    unfold Builtin.List.listSameRef
    exact beq_eq_false_iff_ne.mpr hne
  have hmax : (max (a : Int) (c : Int)).toNat = c := by omega
  have hz' : ((fun xs : Array Value => xs.extract 0 a ++ new ++ xs.extract c xs.size) items).size ≤ sizeLine + 1 := by
    simp only [Array.size_append, Array.size_extract]
    omega
  unfold setItem
  try with_reducible refine wpAny_holding ?_
  first | refine wpAny_bind (wpAny_pure ?_) | skip
  refine wpAny_bind (wpAny_sequenceKey hl.typeIs (by decide) ?_)
  refine wpAny_bind (wpAny_callSpecial?_slot (name := Str.ofString "__setitem__") hl.typeIs slot_list_setitem
    (wpAny_call_entry slot_list_setitem hl.typeIs entry_list_setitem ?_ (args_list_setitem _ _ _)))
  show wpAny _ _ (Builtin.List.listSubscript? (.ref sl) >>= _) _ _ s
  refine wpAny_bind ?_
  unfold Builtin.List.listSubscript?
  refine wpAny_bind (wpAny_specialOf hTs slice_no_index ?_)
  simp only [Option.isNone_none, if_true]
  refine wpAny_pure ?_
  show wpAny _ _ (typeOf (.ref sl) >>= _) _ _ s
  refine wpAny_bind (wpAny_typeOf hTs ?_)
  first
    | rw [if_neg (by decide)]
    | refine PySem.W.KFB.if_not (by decide) ?_
  rw [listSliceParts_eq]
  refine wpAny_bind (wpAny_bind (wpAny_field hos hds (x := .none) rfl (wpAny_bind (wpAny_listPart .none ?_))))
  rw [if_neg hstep]
  refine wpAny_bind (wpAny_field hos hds (x := vl) rfl (wpAny_bind (wpAny_listPart pl ?_)))
  refine wpAny_bind (wpAny_field hos hds (x := vu) rfl (wpAny_bind (wpAny_listPart pu (wpAny_pure ?_))))
  first
    | simp only [hsame, Bool.false_eq_true, if_false]
    | refine PySem.W.KFB.if_not hsame ?_
    | (dsimp only
       rw [if_neg (by rw [hsame]; exact Bool.false_ne_true)])
  refine wpAny_bind (m := Builtin.List.listAllItems (.ref b) "must assign iterable to extended slice") ?_
  unfold Builtin.List.listAllItems
  refine wpAny_bind (wpAny_typeOf hb.typeIs ?_)
  first
    | refine PySem.W.KFB.if_so (by decide) ?_
    | rw [if_pos (by decide)]
    | simp only [beq_self_eq_true, Bool.true_or, if_true]
  unfold Builtin.List.listItems
  refine wpAny_bind (wpAny_seqItems e2 rfl (wpAny_pure ?_))
  refine wpAny_bind (wpAny_bind (wpAny_seqItems e rfl (wpAny_pure ?_)))
  refine wpAny_bind (wpAny_of_eq ((sliceIndices_raw (some (a : Int)) (some (c : Int)) none items.size (by simp)).trans (congrArg (pure : Int × Int × Int → Sem (Int × Int × Int)) (bounds_run hac hc))) ?_)
  show wpAny _ _ (if ((1 : Int) == 1) = true then _ else _) _ _ s
  rw [if_pos (by decide)]
  refine wpAny_bind (wpAny_rule ?_)
  first
    | simp only [notLongL hsz, Bool.false_eq_true, if_false]
    | refine PySem.W.KFB.if_not (notLongL hsz) ?_
  first | refine wpAny_bind (wpAny_pure ?_) | skip
  show wpAny _ _ (updateSeq l (fun xs => xs.extract 0 ((a : Int)).toNat ++ new ++ xs.extract (max (a : Int) (c : Int)).toNat xs.size) >>= _) _ _ s
  rw [hmax, Int.toNat_natCast]
  refine wpAny_bind (wpAny_updateSeq (hz := Nat.le_trans (Nat.le_add_right _ _) hsz) (_hz' := hz') e rfl ?_)
  refine wpAny_bind (wpAny_letGo ?_)
  first
    | exact wpAny_bind (wpAny_pure (wpAny_pure ⟨.none, rfl, wpAny_pure h⟩))
    | exact wpAny_pure ⟨.none, rfl, wpAny_pure h⟩
end
section
variable {X : Cx}
end
end L2
namespace Att
open PySem PySem.W PySem.Calls PyProof.Rows
theorem ints_of_wellAll {P : Params} {h : Heap} : ∀ (ns : List Int) (vs : List Value), WellAll P h vs (ns.map WData.int) → IntsAre vs ns := by
 intro ns
 induction ns with
 | nil =>
  intro vs w
  rw [List.map_nil] at w
  cases w
  exact .nil
 | cons n ns ih =>
  intro vs w
  rw [List.map_cons] at w
  cases w with
  | cons a b =>
   cases a
   exact .cons _ _ (ih _ b)
theorem script_of {l : OpenLaw} {n : Nat} (hn : l.most = some n) {P : Params} {h : Heap} {args : List WData} {vals : List Value}
  (hpre : l.row.toRowW.claim.pre args = true) (hwl : WellAll P h vals args) :
  ∃ a vs ns, vals = [Value.ref a] ∧ args = [WData.list (ns.map WData.int)] ∧ h.get? a = some { cls := .type "list", data := .seq vs.toArray } ∧ IntsAre vs ns ∧ ns.length ≤ n := by
 have hsh : WShape.hasAll [] args [.list .int] = true := (pre_splitW hpre).1
 have hc : l.pre.holds [] { args := args } = true := (pre_splitW hpre).2
 obtain ⟨d, r, rfl, h1, h2⟩ := hasAllW_cons hsh
 obtain rfl := hasAllW_nil h2
 obtain ⟨xs, rfl, h3⟩ := hasW_list h1
 obtain ⟨ns, rfl⟩ := items_int h3
 have hlen : ns.length ≤ n := by
  unfold OpenLaw.pre at hc
  have h4 : (WTm.not (.lt (.lit (.int (n : Int))) (.len (.arg 0)))).holds [] { args := [.list (ns.map .int)] } = true := by
   have h4 := (holds_andW hc).1
   rw [hn] at h4
   exact h4
  have h5 := condW_of h4 (w_not (w_lt w_lit (w_len_list (w_arg rfl))))
  rw [List.length_map] at h5
  refine Nat.le_of_not_lt fun q => ?_
  have q' : (n : Int) < ((ns.length : Nat) : Int) := by omega
  first
   | (rw [decide_eq_true q'] at h5; exact absurd h5 (by decide))
   | (simp at h5; omega)
 cases hwl with
 | cons w1 w2 =>
  cases w2
  cases w1 with
  | list ho hall => exact ⟨_, _, ns, rfl, rfl, ho, ints_of_wellAll ns _ hall, hlen⟩
theorem post_true (l : OpenLaw) (args : List WData) : l.row.toRowW.claim.post args (.bool true) args = true :=
 postW_of (r := l.row.toRowW) (X := (true == true))
  (show WShape.has [] (.bool true) .bool = true by first | rfl | decide | simp [WShape.has, WShape.arms, WShape.armsAll])
  (show (WTm.eq .res (.lit (.bool true))).value [] { args := args, res := some (.bool true), after := args } = some (.bool (true == true)) from w_eq_bool (w_res rfl) w_lit) rfl
theorem attach_call {l : OpenLaw} {n : Nat} {q : Program} {loose : List Str} {XP : (Str → Option Value) → Heap → Prop} {YP : World → Heap → Prop} {d : DefRec}
  (hn : l.most = some n) (hdf : d.params.defaults = [])
  (call : ∀ (w : World) (s₀ s₁ : Shared) (mg mb : Str → Option Value) (fa : Addr) (o : Obj) (pm cd doc : Value) (a : Addr) (vs : List Value) (ns : List Int),
   Ground q loose [] XP w s₀ mg mb s₁.heap → YP w s₁.heap →
   s₁.heap.get? fa = some o → o.data = .func (docDef d.name d.params d.body d.scope pm cd doc) → s₁.heap.CodeRec cd d.name → mg d.name = some (.ref fa) →
   s₁.heap.get? a = some { cls := .type "list", data := .seq vs.toArray } → IntsAre vs ns → ns.length ≤ n → s₁.gens = #[] →
   codeAny (model l.prog w) callerA (.call (.ref fa) ⟨[.ref a], []⟩) (fun r s' => r = .ok (.ret (.bool true)) ∧ OldK s₁.heap s'.heap ∧ s'.os = s₁.os ∧ AllBare s'.gens) s₁) :
  WalkO q loose XP YP l.row.toRowW d [] (fun f vs => PySem.call f vs) := by
 intro w s₀ s₁ mg mb G Y fa o pm cd doc dV kV ho hd hcd hD hmg hg args vals as hpre hlay hrd hwl hlo
 obtain rfl : dV = .none := Dflts.none hD hdf
 obtain rfl : kV = .none := Dflts.noKw hD
 obtain ⟨a, vs, ns, rfl, rfl, hobj, hints, hlen⟩ := script_of hn hpre hwl
 refine enter_call (codeAny_mono (call w s₀ s₁ mg mb fa o pm cd doc a vs ns G Y ho (fd_plain hd) hcd hmg hobj hints hlen hg) fun r s' hq => ?_)
 obtain ⟨rfl, h2, h3, h4⟩ := hq
 exact ⟨.inl ⟨.bool true, .bool true, [], rfl, fun _ => rfl, .bool true, post_true l _, fun _ => ⟨List.Pairwise.nil, fun _ hm => (nomatch hm)⟩⟩, h2, h3, h4⟩
section
variable {prog : Program} {w : World} {A : Around} {E : Value → Shared → Prop} {s : Shared} {K : Frag}
end
end Att
namespace L2
open PySem PySem.Spec PyProof.Rows
theorem vals_ints : ∀ {vs : List Value} {ns : List Int}, IntsAre vs ns → Vals (ns.map V.int) vs := by
 intro vs ns h
 induction h with
 | nil => exact .nil
 | cons n t h ih => exact .cons ⟨t, rfl⟩ ih
def Only (H : Hp) : Prop := ∀ b, H b = none ∨ ∃ o xs, H b = some (.frz o (.lst xs))
theorem law_call {P : Program} {w : World} {K : PySem.W.Frag} {mg mb : Str → Option Value} {CX : CXT} {k : Nat} {fa a : Addr} {fd : FuncData} {x : Str} {sp : Sp} {s₁ : Shared} {vs : List Value} {ns : List Int}
  (KX : K.In s₁.heap) (hns : s₁.heap.Ns mainGlobals mg) (hb : s₁.heap.Ns builtinsNs mb) (hbb : ∀ x : Str, x ≠ "__name__" → mb x = bootBuiltins x) (hlim : s₁.heap.NoLimit) (hg : s₁.gens = #[])
  (ha : s₁.heap.get? a = some { cls := .type "list", data := .seq vs.toArray }) (hi : IntsAre vs ns) (hl : ns.length ≤ sizeLine) (hr : Room k callerA)
  (F : ∀ base : Heap, K.In base → base.Ns mainGlobals mg → FnOk P w K mg base CX k fa fd [x] sp) (hbind : ∀ (s : Shared) (u : Value), BindsTo s fd ⟨[u], []⟩ [(x, u)])
  (hsp : ∀ H : Hp, Only H → SqL K H a (ns.map V.int) → sp [.ref a] H (fun v _ => v = .bl true) fun _ _ _ => False)
  (hCX : ∀ H e s', CX [] H s₁ (fun _ _ _ => False) e s' → False) :
  codeAny (model P w) callerA (.call (.ref fa) ⟨[.ref a], []⟩) (fun r s' => r = .ok (.ret (.bool true)) ∧ OldK s₁.heap s'.heap ∧ s'.os = s₁.os ∧ AllBare s'.gens) s₁ := by
 have rv := vals_ints hi
 have lenV := hi.length
 have core : ∀ H : Hp, Only H → SqL K H a (ns.map V.int) → HOk P w H s₁.heap → (∀ b, H b ≠ none → b = a) → (H a ≠ none → K.lookup a = none) →
   codeAny (model P w) callerA (.call (.ref fa) ⟨[.ref a], []⟩) (fun r s' => r = .ok (.ret (.bool true)) ∧ OldK s₁.heap s'.heap ∧ s'.os = s₁.os ∧ AllBare s'.gens) s₁ := by
  intro H hO hS hok hA hK
  have base_of : ∀ {b : Addr} {o : Obj}, s₁.heap.get? b = some o → H b = none → (hidT s₁.heap H).get? b = some o := fun e n => hidT_get e n
  have noA : ∀ {b : Addr} {o : Obj} {es : Array DictEntry} {ep : Nat}, s₁.heap.get? b = some o → o.data = .dict es ep → H b = none := fun {b o es ep} e d => by
   cases q : H b with
   | none => rfl
   | some u =>
    have e' : b = a := hA b (by rw [q]; simp)
    subst e'
    rw [ha] at e; cases e
    have d' : Data.seq vs.toArray _ = Data.dict es ep := d
    cases d'
  have nsK : ∀ {b : Addr} {m : Str → Option Value}, s₁.heap.Ns b m → (hidT s₁.heap H).Ns b m := fun {b m} ⟨o, es, ep, e, d, r⟩ => ⟨o, es, ep, base_of e (noA e d), d, r⟩
  have hKb : K.In (hidT s₁.heap H) := fun b o e => base_of (KX b o e) (by
   cases q : H b with
   | none => rfl
   | some u =>
    have e' : b = a := hA b (by rw [q]; simp)
    subst e'
    rw [hK (by rw [q]; simp)] at e; cases e)
  have hM : Mod K mg (hidT s₁.heap H) := ⟨hKb, nsK hns, ⟨mb, nsK hb, hbb⟩, let ⟨mc, h1, h2⟩ := hlim; ⟨mc, nsK h1, h2⟩⟩
  have e0 : Env0 P w K mg (hidT s₁.heap H) callerA [] s₁ H := ⟨rfl, hM, fun b o e => of_hidT e, Nat.le_of_eq (hidT_size _ _), trivial, fun b hb => absurd (show b ∈ ([] : List Addr) from hb) (by simp), hok, .of_eq hg⟩
  refine codeAny_mono ((F _ hKb (nsK hns)).run callerA [] s₁ H ⟨[.ref a], []⟩ [.ref a] [.ref a] _ _ hr e0 (hbind s₁ (.ref a)) (.cons rfl .nil) (hsp H hO hS)) fun r s' h => ?_
  cases r with
  | error e => exact (hCX H e s' h).elim
  | ok fl =>
   cases fl with
   | next => exact False.elim h
   | brk => exact False.elim h
   | cont => exact False.elim h
   | ret u =>
    obtain ⟨v, H', os, bare, un, hok', r', q⟩ := h
    have q' : v = .bl true := q
    subst q'
    obtain rfl : u = Value.bool true := r'
    refine ⟨rfl, OldK.of_keep fun b o e => ?_, os, bare⟩
    cases q : H b with
    | none => exact un.keep b o e q (by intro z; exact absurd (show b ∈ ([] : List Addr) from z) (by simp)) (by simp)
    | some u =>
     rcases hO b with z | ⟨ob, xs, z⟩
     ·rw [q] at z; cases z
     ·have z2 := un.frzs b ob _ z
      obtain ⟨e1, _⟩ := hok b _ z
      obtain ⟨e2, _⟩ := hok' b _ z2
      rw [e] at e1; cases e1
      exact e2
 cases hk : K.lookup a with
 | some o =>
  have e := KX a o hk
  rw [ha] at e
  cases e
  refine core (fun _ => none) (fun _ => .inl rfl) (.inr ⟨_, vs.toArray, _, hk, rfl, rfl, rfl, by rw [List.size_toArray, lenV]; exact hl, by simpa using rv⟩) (fun b u z => by have z' : (none : Option HO) = some u := z; cases z') (fun b z => absurd rfl z) fun z => absurd rfl z
 | none =>
  refine core (fun b => if b = a then some (.frz { cls := .type "list", data := .seq vs.toArray } (.lst (ns.map V.int))) else none) (fun b => ?_) (.inl (.inr ⟨{ cls := .type "list", data := .seq vs.toArray }, if_pos rfl⟩)) (fun b u z => ?_) (fun b z => ?_) fun _ => hk
  ·by_cases hb : b = a
   ·exact .inr ⟨_, _, if_pos hb⟩
   ·exact .inl (if_neg hb)
  ·by_cases hb : b = a
   ·have z' := (if_pos hb).symm.trans z
    cases z'
    subst hb
    exact ⟨ha, by rw [List.length_map]; exact hl, vs, _, rv, ha⟩
   ·have z' := (if_neg hb).symm.trans z
    cases z'
  ·by_cases hb : b = a
   ·exact hb
   ·exact absurd (if_neg hb) z
end L2
namespace L2
open PySem PySem.Spec PyProof.Rows
theorem walk_of {l : PySem.W.OpenLaw} {n k : Nat} {q : Program} {loose : List Str} {XP : (Str → Option Value) → Heap → Prop} {YP : World → Heap → Prop} {d : DefRec} {K : Params → PySem.W.Frag} {CX : World → CXT} {sp : World → Sp} {x : Str}
  (hn : l.most = some n) (hn2 : n ≤ sizeLine) (hdf : d.params.defaults = []) (hr : Room k callerA)
  (hY : ∀ (w : World) (h : Heap), YP w h → (K w.params).In h)
  (F : ∀ (w : World) (mg : Str → Option Value) (fa : Addr) (h : Heap), (K w.params).In h → h.Ns mainGlobals mg → mg d.name = some (.ref fa) →
   ∃ fd : FuncData, (∀ (s : Shared) (u : Value), BindsTo s fd ⟨[u], []⟩ [(x, u)]) ∧
    ∀ base : Heap, (K w.params).In base → base.Ns mainGlobals mg → FnOk l.prog w (K w.params) mg base (CX w) k fa fd [x] (sp w))
  (hsp : ∀ (w : World) (H : Hp) (a : Addr) (ns : List Int), ns.length ≤ n → Only H → SqL (K w.params) H a (ns.map V.int) → sp w [.ref a] H (fun v _ => v = .bl true) fun _ _ _ => False)
  (hCX : ∀ (w : World) (H : Hp) (s : Shared) (e : Value) (s' : Shared), CX w [] H s (fun _ _ _ => False) e s' → False) :
  PySem.W.WalkO q loose XP YP l.row.toRowW d [] (fun f vs => PySem.call f vs) := by
 refine Att.attach_call hn hdf fun w s₀ s₁ mg mb fa o pm cd doc a vs ns G Y ho hd hcd hmg hobj hints hlen hg => ?_
 have KX := hY w _ Y
 obtain ⟨fd, hb, hF⟩ := F w mg fa _ KX G.T.g hmg
 exact law_call KX G.T.g G.T.b G.T.builtins G.T.nolimit hg hobj hints (Nat.le_trans hlen hn2) hr hF hb (fun H hO hS => hsp w H a ns hlen hO hS) fun H e s' => hCX w H s₁ e s'
end L2
/- THE LAST THEOREM (shape; LID, My.* are yours):
   My.Adr: a structure of the addresses that your layer names (classes, functions); My.Txt K t: a structure (Prop) of the equations over K;
   My.txt_mk : {K} {implicit addresses ..} (e1 : nsIn K mainGlobals "law" = some (some (.ref f))) (e2 : K.lookup f = some ⟨oc, od, .func (fnOf "law" "law" params body scope dV kV doc pm an cdv ct), sl⟩) (e3 : codeIn K cdv "law" = true) .. : ∃ t, My.Txt K t
set_option maxRecDepth 100000 in
set_option maxHeartbeats 0 in
theorem PySem.Challenge.cw_LID_holds : PySem.Challenge.rw_LID.Holds := by
 w_on; o_law; k_head; (case hw => w_witness2)
 k_fill
 refine L2.walk_of (l := PySem.Challenge.rw_LID) (n := 63) (k := 40) (x := "script") (CX := fun w => ..) (sp := fun _ => My.sp_law) rfl (by decide) rfl ⟨rfl, by decide, by decide⟩ (fun w h Y => PySem.W.kIn_of Y) ?F ?S ?C
 case F =>
  intro w mg fa h KX G hmg
  have T : ∃ t, My.Txt (L2.KOf KX) t := by
   dsimp only [L2.KOf]                          -- K must stand as «<heap const> w.params» for k_is
   refine' My.txt_mk ?e1 ?e2 ?e3 ..
   (case e1 => PySem.W.k_is)                    -- in the order: a name -> its address -> its object -> its parts
   (case e2 => PySem.W.k_is)
   ..
  obtain ⟨t, T⟩ := T
  have e0 := hmg.symm.trans (PySem.W.mg_of KX G T.law)
  cases e0                                       -- fa is the law's own address
  exact ⟨_, fun s u => .of_eq rfl, fun base kb nb => My.law_fn T kb nb⟩     -- if «.of_eq rfl» comes too early: refine' ⟨_, ?b, fun base kb nb => My.law_fn T kb nb⟩; exact fun s u => .of_eq rfl
 case S => exact fun w H a ns hl hO hS => ..
 case C => exact ..
(the tactic k_is has no namespace: write k_is) -/
namespace L2
open PySem PySem.Spec PyProof.Rows
def inClass (s : Stmt) (j : Nat) : Stmt := match s with
 | .ClassDef _ _ _ body _ _ _ _ _ _ _ => body.getD j (.Pass ⟨0, 0, 0, 0⟩)
 | _ => .Pass ⟨0, 0, 0, 0⟩
def defArgs (s : Stmt) : Arguments := match s with
 | .FunctionDef _ a _ _ _ _ _ _ _ _ => a
 | _ => { posonlyargs := [], args := [], vararg := none, kwonlyargs := [], kw_defaults := [], kwarg := none, defaults := [] }
def defBody (s : Stmt) : List Stmt := match s with
 | .FunctionDef _ _ b _ _ _ _ _ _ _ => b
 | _ => []
def defScope (s : Stmt) : Scope := match s with
 | .FunctionDef _ _ _ _ _ _ sc _ _ _ => sc
 | _ => { kind := .function, names := [], isGenerator := false, isCoroutine := false }
abbrev CX0 : CXT := fun _ _ _ _ _ _ => False
abbrev E0 : XK := fun _ _ _ => False
theorem pass0 {X : Cx} : Passes CX0 X E0 := fun _ _ _ _ _ _ _ h => h.elim
structure Fun (K : PySem.W.Frag) (x qual : Str) (st : Stmt) (f : Addr) (fd : FuncData) : Prop where
 ex : ∃ (oc : Value) (od : Option Addr) (kV doc pm : Value) (an : Option Addr) (cdv ct : Value) (osl : Array (Option Value)),
  fd = PySem.W.fnOf x qual (defArgs st) (defBody st) (defScope st) .none kV doc pm an cdv ct ∧ K.lookup f = some ⟨oc, od, .func fd, osl⟩ ∧ PySem.W.codeIn K cdv qual = true
 kp : PySem.W.keepIn K (.ref f) = true
section
variable {P : Program} {w : World} {K : PySem.W.Frag} {mg : Str → Option Value} {base : Heap}
theorem Fun.ok {x qual : Str} {st : Stmt} {f : Addr} {fd : FuncData} {N ps : List Str} {k : Nat} {sp : Sp} (F : Fun K x qual st f fd) (S : FnScope N ps (defScope st)) (len : ∀ vs H Q E, sp vs H Q E → vs.length = ps.length)
  (hbody : ∀ (cdv : Value) (A : Around) (outer : List Env) (s : Shared) (H : Hp) (vs : List V) (Q : VK) (E : XK), Room k (A.deeper (envOfC qual (defScope st) s.heap.objs.size f cdv)) → sp vs H Q E →
   ∃ t, PSs (cxOf CX0 P w K mg base N qual (defScope st) f cdv A outer s H E).nox (defBody st) t ∧ t { nx := fun _ H' => Q .non H', rt := Q } (start N vs) H) : FnOk P w K mg base CX0 (k + 1) f fd ps sp := by
 obtain ⟨oc, od, kV, doc, pm, an, cdv, ct, osl, rfl, lk, hcd⟩ := F.ex
 refine fn_of lk hcd S len fun A outer s H vs Q E hr hsp => ?_
 obtain ⟨t, h, q⟩ := hbody cdv A outer s H vs Q E hr hsp
 exact ⟨t, h.nox, q⟩
theorem Fun.binds {x qual : Str} {st : Stmt} {f : Addr} {fd : FuncData} {ps : List Str} (F : Fun K x qual st f fd)
  (h : ∀ (kV doc pm : Value) (an : Option Addr) (cdv ct : Value) (us : List Value), us.length = ps.length → bindArgs (PySem.W.fnOf x qual (defArgs st) (defBody st) (defScope st) .none kV doc pm an cdv ct) ⟨us, []⟩ = pure (ps.zip us)) : Binds K fd ps [] := by
 obtain ⟨oc, od, kV, doc, pm, an, cdv, ct, osl, rfl, lk, hcd⟩ := F.ex
 exact .all (h kV doc pm an cdv ct)
theorem fun_mk {x qual : Str} {st : Stmt} {f : Addr} {oc : Value} {od an : Option Addr} {osl : Array (Option Value)} {kV doc pm cdv ct : Value} (l : K.lookup f = some ⟨oc, od, .func (PySem.W.fnOf x qual (defArgs st) (defBody st) (defScope st) .none kV doc pm an cdv ct), osl⟩)
  (c : PySem.W.codeIn K cdv qual = true) (k : PySem.W.keepIn K (.ref f) = true) : Fun K x qual st f (PySem.W.fnOf x qual (defArgs st) (defBody st) (defScope st) .none kV doc pm an cdv ct) := ⟨⟨oc, od, kV, doc, pm, an, cdv, ct, osl, rfl, l, c⟩, k⟩
end
theorem hu_of {A : Around} {k : Nat} (hr : Room k A) : A.units + 1 < cLine := Nat.lt_of_le_of_lt (Nat.add_le_add_left (by decide : 1 ≤ 64) _) hr.units
section
variable {X : Cx}
theorem pv (i : Nat) {x : Str} {pos : Pos} (hN : X.N[i]? = some x := by rfl) (hv : Vis X.env.scope x := by first | exact Or.inl rfl | exact Or.inr (Or.inl rfl) | exact Or.inr (Or.inr rfl)) (hd : (x == ("__debug__" : Str)) = false := by decide)
  (hcd : (x == ("__classdict__" : Str)) = false := by decide) : PE X (.Name x pos) (tVar i) := pe_var hN hv hd hcd
end
theorem iteF {A B : Prop} (h : B) : if false = true then A else B := by
 rw [if_neg Bool.false_ne_true]
 exact h
theorem iteT {A B : Prop} (h : A) : if true = true then A else B := by
 rw [if_pos rfl]
 exact h
theorem ite2 {c A B : Prop} [Decidable c] (h1 : c → A) (h2 : ¬ c → B) : if c then A else B := by
 by_cases h : c
 ·rw [if_pos h]
  exact h1 h
 ·rw [if_neg h]
  exact h2 h
theorem iteNS {c A B : Prop} [Decidable c] (hc : c) (h : B) : if (!decide c) = true then A else B := by
 rw [decide_eq_true hc]
 exact iteF h
def Same (H H' : Hp) : Prop := ∀ b o, H b = some o → H' b = some o
theorem Same.refl (H : Hp) : Same H H := fun _ _ h => h
theorem Same.trans {H H1 H2 : Hp} (a : Same H H1) (b : Same H1 H2) : Same H H2 := fun c o h => b c o (a c o h)
theorem Same.seq {K : PySem.W.Frag} {H H' : Hp} {a : Addr} {xs : List V} (e : Same H H') (h : SqL K H a xs) : SqL K H' a xs := by
 rcases h with (h | ⟨o, h⟩) | h
 ·exact .inl (.inl (e _ _ h))
 ·exact .inl (.inr ⟨o, e _ _ h⟩)
 ·exact .inr h
section
variable {κ : Type} [DecidableEq κ]
end
end L2
structure GateP (g G : Prop) : Prop where
 go : g → G
theorem gate' {g : Prop} (h : ∀ G : Prop, GateP g G → G) : g := h g ⟨id⟩
theorem keepG {p : Prop} (h : p) : p := h
set_option Elab.async false
set_option linter.all false
set_option maxRecDepth 100000
namespace L2
open PySem PySem.Spec PyProof.Rows
def T (l : List Nat) : Str := ⟨l.toArray⟩
theorem T_len (l : List Nat) : (T l).length = l.length := by
 show l.toArray.size = l.length
 simp
theorem T_list (l : List Nat) : (T l).cps.toList = l := rfl
theorem T_inj {a b : List Nat} (h : T a = T b) : a = b := congrArg (fun x : Str => x.cps.toList) h
theorem T_app (a b : List Nat) : T a ++ T b = T (a ++ b) := by
 refine ext_toList ?_
 rw [PySem.W.KT.app_list]
 rfl
def Its (l : List Nat) : It := ⟨fun i _ => i < l.length, fun i H x H' => H' = H ∧ ∃ c, l[i]? = some c ∧ x = .str (T [c]), fun i _ => l.length ≤ i⟩
theorem T_at {l : List Nat} {i c : Nat} (h : l[i]? = some c) : (T l).cps[i]? = some c := by
 show l.toArray[i]? = some c
 simpa using h
theorem T_past {l : List Nat} {i : Nat} (h : l.length ≤ i) : (T l).cps[i]? = none := by
 show l.toArray[i]? = none
 simpa using h
theorem turn_strA {P : Program} {w : World} {K : PySem.W.Frag} {tg : Expr} (l : List Nat) (t : Tok) (it : Addr) : Turn P w K tg (Its l) [it] it (fun i h => h.IsStrIter it "str_ascii_iterator" (T l) t i) where
 mem := by simp
 obj := fun i h st b hb => by
  have e : b = it := by simpa using hb
  subst e
  obtain ⟨o, e, c, d⟩ := st
  exact ⟨o, e, fun v z => by rw [d] at z; cases z⟩
 keep := fun i h h' st k => by
  obtain ⟨o, e, r⟩ := st
  exact ⟨o, k it (by simp) o e, r⟩
 item := by
  intro X hP hw hK hc i pins s σ H E I hf st hg
  subst hP hw hK
  have hi : i < l.length := hg
  have hx : l[i]? = some l[i] := by simp [hi]
  obtain ⟨f0, f1, f2, f3, f4, f5⟩ := hf it (by simp)
  refine wpAny_pyNext_ascii_item st (T_at hx) fun h' st' sb => ?_
  have I1 : Inv X pins σ H { s with heap := h', toks := s.toks + 1 } := I.turned (t' := s.toks + 1) (fun b o hb e => (sb.2 b hb).trans e) f0 f1 f3 f4 f5
  obtain ⟨o, e, c, d⟩ := id st'
  exact ⟨_, rfl, go_of (s := { s with heap := h', toks := s.toks + 1 }) e c d (by decide) ⟨.str (T [l[i]]), H, I1, ⟨_, rfl⟩, ⟨rfl, l[i], hx, rfl⟩, st', fun b hb => (hf b hb).1⟩⟩
 done := by
  intro X hP hw hK hc i pins s σ H E I hf st hg
  subst hP hw hK
  obtain ⟨f0, f1, f2, f3, f4, f5⟩ := hf it (by simp)
  exact wpAny_pyNext_ascii_end (I.ok.hd hc) st (T_past hg) fun h' eb => ⟨rfl, I.turned (t' := s.toks) (fun b o hb e => eb b o hb e) f0 f1 f3 f4 f5⟩
 self := fun _ _ _ _ _ st h => wpAny_pyIter_striter_ascii st h
theorem turn_strW {P : Program} {w : World} {K : PySem.W.Frag} {tg : Expr} (l : List Nat) (t : Tok) (it : Addr) : Turn P w K tg (Its l) [it] it (fun i h => h.IsStrIter it "str_iterator" (T l) t i) where
 mem := by simp
 obj := fun i h st b hb => by
  have e : b = it := by simpa using hb
  subst e
  obtain ⟨o, e, c, d⟩ := st
  exact ⟨o, e, fun v z => by rw [d] at z; cases z⟩
 keep := fun i h h' st k => by
  obtain ⟨o, e, r⟩ := st
  exact ⟨o, k it (by simp) o e, r⟩
 item := by
  intro X hP hw hK hc i pins s σ H E I hf st hg
  subst hP hw hK
  have hi : i < l.length := hg
  have hx : l[i]? = some l[i] := by simp [hi]
  obtain ⟨f0, f1, f2, f3, f4, f5⟩ := hf it (by simp)
  refine wpAny_pyNext_wide_item st (T_at hx) fun h' st' sb => ?_
  have I1 : Inv X pins σ H { s with heap := h', toks := s.toks + 1 } := I.turned (t' := s.toks + 1) (fun b o hb e => (sb.2 b hb).trans e) f0 f1 f3 f4 f5
  obtain ⟨o, e, c, d⟩ := id st'
  exact ⟨_, rfl, go_of (s := { s with heap := h', toks := s.toks + 1 }) e c d (by decide) ⟨.str (T [l[i]]), H, I1, ⟨_, rfl⟩, ⟨rfl, l[i], hx, rfl⟩, st', fun b hb => (hf b hb).1⟩⟩
 done := by
  intro X hP hw hK hc i pins s σ H E I hf st hg
  subst hP hw hK
  obtain ⟨f0, f1, f2, f3, f4, f5⟩ := hf it (by simp)
  exact wpAny_pyNext_wide_end (I.ok.hd hc) st (T_past hg) fun h' eb => ⟨rfl, I.turned (t' := s.toks) (fun b o hb e => eb b o hb e) f0 f1 f3 f4 f5⟩
 self := fun _ _ _ _ _ st h => wpAny_pyIter_striter_wide st h
def iStr (tl : TE) : TI := fun σ H R => tl σ H fun x H1 => ∃ l, x = .str (T l) ∧ R (Its l) H1
theorem pi_str {X : Cx} {tg e : Expr} {tl : TE} (hl : PE X e tl) : PI X tg e (iStr tl) := by
 intro pins s σ H R I h
 refine thn (hl pins s σ H _ I h) fun v s1 ⟨x, H1, I1, r1, q1⟩ => ?_
 obtain ⟨l, rfl, q⟩ := q1
 obtain ⟨t, rfl⟩ := (show ∃ t, v = Value.str (T l) t from r1)
 cases ha : (T l).cps.all (· < 128) with
 | true =>
  refine wpAny_pyIter_ascii ha ?_
  refine ⟨s1.heap.objs.size, [s1.heap.objs.size], _, _, H1, rfl, I1.kept (t' := s1.toks) fun b o e => Heap.get?_push_of_some _ e, turn_strA l t _, ⟨_, Heap.get?_push_size _ rfl, rfl, rfl⟩, fun b hb => ?_, q⟩
  have e : b = s1.heap.objs.size := by simpa using hb
  subst e
  exact I1.fpOk (Nat.le_refl _) (I1.hok.fresh (Nat.le_refl _))
 | false =>
  refine wpAny_pyIter_wide ha ?_
  refine ⟨s1.heap.objs.size, [s1.heap.objs.size], _, _, H1, rfl, I1.kept (t' := s1.toks) fun b o e => Heap.get?_push_of_some _ e, turn_strW l t _, ⟨_, Heap.get?_push_size _ rfl, rfl, rfl⟩, fun b hb => ?_, q⟩
  have e : b = s1.heap.objs.size := by simpa using hb
  subst e
  exact I1.fpOk (Nat.le_refl _) (I1.hok.fresh (Nat.le_refl _))
theorem for_str {l : List Nat} {g : TG} {tb : TS} {D : Ends} {σ : St} {H : Hp} (Pv : Nat → St → Hp → Prop) (h0 : Pv 0 σ H)
  (hs : ∀ i c σ H, l[i]? = some c → Pv i σ H → g (.str (T [c])) σ H fun σ2 H2 => tb { D with nx := Pv (i + 1), ct := Pv (i + 1), bk := D.nx } σ2 H2) (hd : ∀ σ H, Pv l.length σ H → D.nx σ H) :
  ∃ W : Nat → Nat → St → Hp → Prop, (∃ m, W 0 m σ H) ∧ ∀ i m σ H, W i m σ H →
   ((Its l).stop i H ∧ D.nx σ H) ∨ ((Its l).go i H ∧ ∃ N : St → Hp → Prop, (∀ σ' H', N σ' H' → ∃ m', m' < m ∧ W (i + 1) m' σ' H') ∧ ∀ x H', (Its l).yld i H x H' → g x σ H' fun σ2 H2 => tb { D with nx := N, ct := N, bk := D.nx } σ2 H2) := by
 refine ⟨fun i m σ H => m = l.length - i ∧ i ≤ l.length ∧ Pv i σ H, ⟨l.length, by simp, Nat.zero_le _, h0⟩, ?_⟩
 rintro i m σ H ⟨rfl, hi, p⟩
 by_cases hlt : i < l.length
 ·refine .inr ⟨hlt, Pv (i + 1), fun σ' H' p' => ⟨l.length - (i + 1), by omega, rfl, hlt, p'⟩, fun x H' y => ?_⟩
  obtain ⟨e, c, hc, rfl⟩ := y
  subst e
  exact hs i c σ _ hc p
 ·have e : i = l.length := by omega
  subst e
  exact .inl ⟨Nat.le_refl _, hd σ H p⟩
def clGo (cells : List (Str × Addr)) : List (Str × NameKind) → List (Str × Addr) → List (Str × Addr)
 | [], acc => acc
 | (n, k) :: r, acc => clGo cells r (if k == NameKind.free then (n, (cells.lookup n).getD 0) :: acc else acc)
def clOf (scope : Scope) (env : Env) : List (Str × Addr) := clGo env.cells scope.names []
theorem clGo_sub {cells : List (Str × Addr)} : ∀ {names : List (Str × NameKind)} {acc : List (Str × Addr)}, (∀ y ∈ names, y.2 = .free → ∃ c, cells.lookup y.1 = some c) → (∀ x c, acc.lookup x = some c → cells.lookup x = some c) →
  ∀ x c, (clGo cells names acc).lookup x = some c → cells.lookup x = some c
 | [], _, _, h, x, c, e => h x c e
 | (n, k) :: r, acc, hf, h, x, c, e => by
  refine clGo_sub (names := r) (fun y hy => hf y (List.mem_cons_of_mem _ hy)) ?_ x c e
  intro z d hz
  by_cases hk : k = .free
  ·have hkb : (k == NameKind.free) = true := by rw [hk]; rfl
   rw [if_pos hkb] at hz
   obtain ⟨c0, h0⟩ := hf (n, k) List.mem_cons_self hk
   cases hzn : z == n with
   | true =>
    rw [List.lookup_cons, hzn] at hz
    have : z = n := eq_of_beq hzn
    subst this
    have h0' : cells.lookup z = some c0 := h0
    rw [h0'] at hz ⊢
    exact hz
   | false =>
    rw [List.lookup_cons, hzn] at hz
    exact h z d hz
  ·have hkb : ¬ ((k == NameKind.free) = true) := fun q => hk (eq_of_beq q)
   rw [if_neg hkb] at hz
   exact h z d hz
theorem clGo_acc {cells : List (Str × Addr)} : ∀ {names : List (Str × NameKind)} {acc : List (Str × Addr)} {x : Str}, (∃ c, acc.lookup x = some c) → ∃ c, (clGo cells names acc).lookup x = some c
 | [], _, _, h => h
 | (n, k) :: r, acc, x, h => by
  refine clGo_acc (names := r) ?_
  by_cases hkb : (k == NameKind.free) = true
  ·rw [if_pos hkb]
   cases hzn : x == n with
   | true => rw [List.lookup_cons, hzn]; exact ⟨_, rfl⟩
   | false => rw [List.lookup_cons, hzn]; exact h
  ·rw [if_neg hkb]; exact h
theorem clGo_has {cells : List (Str × Addr)} : ∀ {names : List (Str × NameKind)} {acc : List (Str × Addr)} {x : Str}, (x, NameKind.free) ∈ names → ∃ c, (clGo cells names acc).lookup x = some c
 | (n, k) :: r, acc, x, h => by
  rcases List.mem_cons.mp h with e | h
  ·cases e
   refine clGo_acc (names := r) ?_
   rw [if_pos (show (NameKind.free == NameKind.free) = true from rfl)]
   exact ⟨_, by rw [List.lookup_cons, beq_self_eq_true]⟩
  ·exact clGo_has (names := r) h
theorem closure_eq {scope : Scope} {env : Env} (hf : ∀ y ∈ scope.names, y.2 = .free → ∃ c, env.cells.lookup y.1 = some c) : closureFor scope env = pure (clOf scope env) := by
 have key : ∀ (names : List (Str × NameKind)) (acc : List (Str × Addr)), (∀ y ∈ names, y.2 = .free → ∃ c, env.cells.lookup y.1 = some c) →
   (forIn names acc (fun x (r : List (Str × Addr)) => if (x.2 == NameKind.free) = true then do let a ← cellOf env x.1; pure (ForInStep.yield ((x.1, a) :: r)) else pure (ForInStep.yield r)) : Sem (List (Str × Addr))) = pure (clGo env.cells names acc) := by
  intro names
  induction names with
  | nil => intro acc _; rfl
  | cons y r ih =>
   obtain ⟨n, k⟩ := y
   intro acc h
   rw [List.forIn_cons]
   have ih' := fun acc => ih acc fun y hy => h y (List.mem_cons_of_mem _ hy)
   by_cases hkb : (k == NameKind.free) = true
   ·obtain ⟨c, hc⟩ := h (n, k) List.mem_cons_self (eq_of_beq hkb)
    have hc' : env.cells.lookup n = some c := hc
    have e1 : cellOf env n = pure c := by unfold cellOf; rw [hc']
    have e2 : clGo env.cells ((n, k) :: r) acc = clGo env.cells r ((n, c) :: acc) := by
     show clGo env.cells r (if (k == NameKind.free) = true then (n, (env.cells.lookup n).getD 0) :: acc else acc) = _
     rw [if_pos hkb, hc']
     rfl
    rw [e2, ← ih']
    simp only [hkb, if_true, e1, pure_bind]
   ·have e2 : clGo env.cells ((n, k) :: r) acc = clGo env.cells r acc := by
     show clGo env.cells r (if (k == NameKind.free) = true then (n, (env.cells.lookup n).getD 0) :: acc else acc) = _
     rw [if_neg hkb]
    rw [e2, ← ih']
    have hkf : (k == NameKind.free) = false := by
     cases q : k == NameKind.free with
     | false => rfl
     | true => exact absurd q hkb
    simp only [hkf, Bool.false_eq_true, if_false, pure_bind]
 unfold closureFor clOf
 simp only [bind_pure_comp]
 have := key scope.names [] hf
 simp only [bind_pure_comp] at this
 rw [this]
 rfl
theorem lookup_relabel {env : Env} : ∀ {names : List (Str × NameKind)} {x : Str},
  (names.map fun (n, k) => if (k == NameKind.free && env.scope.kind == .function && env.kindOf n == some .cell) then (n, NameKind.cell) else (n, k)).lookup x =
   (names.lookup x).map fun k => if (k == NameKind.free && env.scope.kind == .function && env.kindOf x == some .cell) = true then NameKind.cell else k
 | [], _ => rfl
 | (n, k) :: r, x => by
  have ih := @lookup_relabel env r x
  show List.lookup x ((if (k == NameKind.free && env.scope.kind == .function && env.kindOf n == some .cell) = true then (n, NameKind.cell) else (n, k)) :: _) = _
  cases hx : x == n with
  | true =>
   have e : x = n := eq_of_beq hx
   subst e
   by_cases hc : (k == NameKind.free && env.scope.kind == .function && env.kindOf x == some .cell) = true
   ·rw [if_pos hc]; simp only [List.lookup_cons, hx, Option.map_some, if_pos hc]
   ·rw [if_neg hc]; simp only [List.lookup_cons, hx, Option.map_some, if_neg hc]
  | false =>
   by_cases hc : (k == NameKind.free && env.scope.kind == .function && env.kindOf n == some .cell) = true
   ·rw [if_pos hc]; simp only [List.lookup_cons, hx]; exact ih
   ·rw [if_neg hc]; simp only [List.lookup_cons, hx]; exact ih
theorem mem_of_look {α : Type} : ∀ {l : List (Str × α)} {x : Str} {a : α}, l.lookup x = some a → (x, a) ∈ l
 | (n, k) :: r, x, a, h => by
  cases hx : x == n with
  | true =>
   rw [List.lookup_cons, hx] at h
   cases h
   rw [eq_of_beq hx]
   exact List.mem_cons_self
  | false =>
   rw [List.lookup_cons, hx] at h
   exact List.mem_cons_of_mem _ (mem_of_look h)
def blk (X : Cx) (M : List Str) (scope : Scope) (C : Addr) (fp : List Addr) (s₃ : Shared) (H₃ : Hp) : Cx where
 prog := X.prog
 w := X.w
 K := X.K
 mg := X.mg
 base := X.base
 A := X.A
 N := X.N ++ M
 s₀ := s₃
 H₀ := H₃
 env := compEnvC scope (clOf scope X.env) C X.env
 outer := X.stack
 stack := X.stack
 ex := fp
 fn := fun _ => false
 calm := X.calm
 pn := []
 xe := fun _ _ => False
structure CompSc (X : Cx) (scope : Scope) : Prop where
 kind : scope.kind = .function
 cell : ∀ y ∈ scope.names, y.2 ≠ .cell
 loc : ∀ y ∈ scope.names, y.2 = .local → scope.names.lookup y.1 = some .local
 free : ∀ y ∈ scope.names, y.2 = .free → X.env.kindOf y.1 = some .cell ∨ X.env.kindOf y.1 = some .free
 apart : ∀ x ∈ X.N, scope.names.lookup x ≠ some .local
section
variable {X : Cx}
theorem CompSc.vis {scope : Scope} (S : CompSc X scope) {C : Addr} {x : Str} (h : (compEnvC scope (clOf scope X.env) C X.env).kindOf x = some .cell ∨ (compEnvC scope (clOf scope X.env) C X.env).kindOf x = some .free) :
  (x, NameKind.free) ∈ scope.names := by
 have e : (compEnvC scope (clOf scope X.env) C X.env).kindOf x = (scope.names.lookup x).map fun k => if (k == NameKind.free && X.env.scope.kind == .function && X.env.kindOf x == some .cell) = true then NameKind.cell else k := lookup_relabel
 rw [e] at h
 cases hl : scope.names.lookup x with
 | none => rw [hl] at h; rcases h with h | h <;> cases h
 | some k =>
  have hm := mem_of_look hl
  have nc := S.cell _ hm
  rw [hl] at h
  by_cases hk : k = .free
  ·rw [hk] at hm; exact hm
  ·have hkb : (k == NameKind.free) = false := by
    cases q : k == NameKind.free with
    | false => rfl
    | true => exact absurd (eq_of_beq q) hk
   simp only [Option.map_some, hkb, Bool.false_and, Bool.false_eq_true, if_false, Option.some.injEq] at h
   rcases h with h | h
   ·exact absurd h nc
   ·exact absurd h hk
theorem CompSc.cells {scope : Scope} (S : CompSc X scope) (ok : X.Ok) : ∀ y ∈ scope.names, y.2 = .free → ∃ c, X.env.cells.lookup y.1 = some c := fun y hy e => ok.has y.1 (S.free y hy e)
theorem CompSc.sub {scope : Scope} (S : CompSc X scope) (ok : X.Ok) : ∀ x c, (clOf scope X.env).lookup x = some c → X.env.cells.lookup x = some c :=
 clGo_sub (S.cells ok) (fun _ _ h => nomatch h)
theorem blk_ok {pins : List (Addr × Obj)} {σ : St} {H₃ : Hp} {s₃ : Shared} {M : List Str} {scope : Scope} {fp : List Addr} (S : CompSc X scope) (I : Inv X pins σ H₃ s₃) (hf : ∀ b ∈ fp, FpOk X pins H₃ b) (hl : ∀ b ∈ fp, b < s₃.heap.objs.size) :
  (blk X M scope s₃.heap.objs.size fp s₃ H₃).Ok where
 mod := I.mod
 kind := S.kind
 glob := I.ok.glob
 blt := I.ok.blt
 above := Nat.le_refl _
 inj := fun x y c h1 h2 => I.ok.inj x y c (S.sub I.ok x c h1) (S.sub I.ok y c h2)
 has := fun x h => clGo_has (S.vis h)
 cab := fun x c h => nomatch h
 hd := I.ok.hd
 frames := I.ok.frames
 stk := .inl rfl
 exf := fun b hb => ⟨Nat.ne_of_lt (hl b hb), fun x c h => (hf b hb).2.2.2.2.1 x c (S.sub I.ok x c h)⟩
 bs := I.bs
 bsz := Nat.le_trans I.ok.bsz I.sz
 noex := fun b o e hb => by
  rcases (hf b hb).2.2.2.1 with z | z
  ·exact I.ok.noex b o e z
  ·exact absurd (Nat.lt_of_lt_of_le (Heap.lt_size (I.ok.bs b o e).1) z) (Nat.lt_irrefl _)
 exfs := fun b hb hfs => by
  rcases List.mem_cons.mp (I.stkSub b hfs) with e | e
  ·exact (hf b hb).2.1 e
  ·exact (hf b hb).2.2.1 e
 funs := I.stack
 frf := I.stkFree
theorem blk_inv {pins : List (Addr × Obj)} {σ : St} {H₃ : Hp} {s₃ : Shared} {M : List Str} {scope : Scope} {fp : List Addr} {h' : Heap} {m : Str → Option Value} {tk : Nat} (S : CompSc X scope) (I : Inv X pins σ H₃ s₃) (hf : ∀ b ∈ fp, FpOk X pins H₃ b)
  (hl : ∀ b ∈ fp, b < s₃.heap.objs.size) (hk : ∀ b o, s₃.heap.get? b = some o → h'.get? b = some o) (hn : h'.Ns s₃.heap.objs.size m) :
  Inv (blk X M scope s₃.heap.objs.size fp s₃ H₃) [] (σ ++ List.replicate M.length none) H₃ { s₃ with heap := h', toks := tk } where
 ok := blk_ok S I hf hl
 os := rfl
 bare := I.bare
 base := Un.kept hk
 loc := by
  refine ⟨m, hn, fun i x v e1 e2 e3 => ?_⟩
  have hi : i < σ.length := by
   by_cases q : i < σ.length
   ·exact q
   ·rw [List.getElem?_append_right (by omega)] at e2
    have := List.mem_of_getElem? e2
    rw [(List.mem_replicate.mp this).2] at this
    obtain ⟨_, h2⟩ := List.mem_replicate.mp this
    rw [List.getElem?_replicate] at e2
    split at e2 <;> cases e2
  rw [List.getElem?_append_left hi] at e2
  have e1' : X.N[i]? = some x := by
   have e1'' : (X.N ++ M)[i]? = some x := e1
   rw [List.getElem?_append_left (by rw [← I.len]; exact hi)] at e1''
   exact e1''
  have hxN : x ∈ X.N := List.mem_of_getElem? e1'
  have kl : ¬ (relabel scope X.env).names.lookup x = some .local := by
   intro q
   have q' : (scope.names.lookup x).map (fun k => if (k == NameKind.free && X.env.scope.kind == .function && X.env.kindOf x == some .cell) = true then NameKind.cell else k) = some .local := (lookup_relabel (env := X.env)).symm.trans q
   cases hlk : scope.names.lookup x with
   | none => rw [hlk] at q'; cases q'
   | some k =>
    rw [hlk] at q'
    have nl : k ≠ .local := fun z => S.apart x hxN (by rw [hlk, z])
    simp only [Option.map_some, Option.some.injEq] at q'
    split at q'
    ·cases q'
    ·exact nl q'
  have e3' : (compEnvC scope (clOf scope X.env) s₃.heap.objs.size X.env).kindOf x = some .cell ∨ (compEnvC scope (clOf scope X.env) s₃.heap.objs.size X.env).kindOf x = some .free := by
   rcases e3 with z | z | z
   ·exact absurd z kl
   ·exact .inl z
   ·exact .inr z
  have hm := S.vis e3'
  have hX := S.free _ hm rfl
  obtain ⟨m0, hn0, hl0⟩ := I.loc
  obtain ⟨u, ru, lk⟩ := hl0 i x v e1' e2 (by rcases hX with z | z; exact .inr (.inl z); exact .inr (.inr z))
  refine ⟨u, ru, .inr ⟨e3', ?_⟩⟩
  rcases lk with ⟨z, _⟩ | ⟨_, c, hc, o, ho, hd⟩
  ·rcases hX with q | q
   ·have : X.env.kindOf x = some .cell := q
    rw [this] at z; cases z
   ·have : X.env.kindOf x = some .free := q
    rw [this] at z; cases z
  ·obtain ⟨c', hc'⟩ := clGo_has (cells := X.env.cells) (acc := []) hm
   have := S.sub I.ok x c' hc'
   rw [hc] at this; cases this
   exact ⟨c, hc', o, hk c o ho, hd⟩
 cell := fun x c h => by
  obtain ⟨v, o, ho, hd⟩ := I.cell x c (S.sub I.ok x c h)
  exact ⟨v, o, hk c o ho, hd⟩
 free := I.hok.fresh (Nat.le_refl _)
 freeC := fun x c h => I.freeC x c (S.sub I.ok x c h)
 pin := fun p hp => nomatch hp
 hok := I.hok.kept hk
 len := by
  show (σ ++ List.replicate M.length none).length = (X.N ++ M).length
  rw [List.length_append, List.length_append, List.length_replicate, I.len]
theorem blk_out {pins pins' : List (Addr × Obj)} {σ σ' : St} {H₃ H' : Hp} {s₃ s' : Shared} {M : List Str} {scope : Scope} {fp : List Addr} {h' : Heap} (I : Inv X pins σ H₃ s₃) (hf : ∀ b ∈ fp, FpOk X pins H₃ b)
  (J : Inv (blk X M scope s₃.heap.objs.size fp s₃ H₃) pins' σ' H' s') (hs : Heap.SameBut s₃.heap.objs.size s'.heap h') : Inv X pins σ H' { s' with heap := h' } := by
 have ne : ∀ b o, s₃.heap.get? b = some o → b ≠ s₃.heap.objs.size := fun b o e => Nat.ne_of_lt (Heap.lt_size e)
 have B := J.base
 refine I.call' (s' := { s' with heap := h' }) (ch := fp) J.os ⟨fun b o e n hb hx => ?_, fun b o e n hb hx => ?_, B.free, fun b o e hx => ?_, B.tups, B.frzs, B.tbls⟩ ?_ J.bare fun b hb => (hf b hb).2.2.2.elim fun z r => ?_
 ·exact (hs.2 b (ne b o e)).trans (B.keep b o e n hb hx)
 ·obtain ⟨sl, q⟩ := B.slot b o e n hb hx
  exact ⟨sl, (hs.2 b (ne b o e)).trans q⟩
 ·obtain ⟨o', q⟩ := B.there b o e hx
  exact ⟨o', (hs.2 b (ne b o e)).trans q⟩
 ·intro b u e
  have hb : b ≠ s₃.heap.objs.size := fun z => by
   have := J.free
   have q : H' s₃.heap.objs.size = none := this
   rw [z, q] at e; cases e
  refine (J.hok b u e).stay (fun c v hc q => (hs.2 c ?_).trans q) (fun _ q => q) fun _ _ q => q
  rcases hc with z | z
  ·rw [z]; exact hb
  ·intro z2
   have q : H' s₃.heap.objs.size = none := J.free
   rw [z2, q] at z; cases z
 ·exact ⟨z, (hf b hb).2.1, r.1, r.2⟩
def PTs (X : Cx) (ifs : List Expr) (t : TT) : Prop :=
 ∀ (pins : List (Addr × Obj)) (s : Shared) (σ : St) (H : Hp) (Q : Bool → Hp → Prop), Inv X pins σ H s → t σ H Q →
  wpAny (model X.prog X.w) X.A (forIn ifs true fun c r => if r = true then do let ok ← isTrue c X.env (eval c X.env); pure (ForInStep.yield ok) else pure (ForInStep.yield r)) (TP X pins σ Q) X.xe s
def tTrue : TT := fun _ H Q => Q true H
theorem pts_nil : PTs X [] tTrue := fun pins s σ H Q I h => wpAny_tests_nil ⟨H, I, h⟩
theorem pts_one {c : Expr} {t : TT} (hc : PT X c t) : PTs X [c] t := fun pins s σ H Q I h => wpAny_tests_one (hc pins s σ H Q I h)
theorem comp_loop {prog : Program} {w : World} {A : Around} {R : Result → Shared → Prop} {s : Shared} {elt target iter : Expr} {ifs : List Expr} {scope : Scope} {pos : Pos} {it acc : Value} {env : Env} (I : Nat → Shared → Prop)
  (turn : ∀ n s, I n s → wpAny (model prog w) A (pyNext it) (fun r s₁ => match r with
   | none => R (.ok .next) s₁
   | some v => wpAny (model prog w) A (letOwnedTupleGo target it v) (fun _ s₁ => wpAny (model prog w) A (assign target env v) (fun _ s₂ =>
     wpAny (model prog w) A (forIn ifs true fun c r => if r = true then do let ok ← isTrue c env (eval c env); pure (ForInStep.yield ok) else pure (ForInStep.yield r)) (fun ok s₃ =>
      if ok = true then wpAny (model prog w) A (eval elt env) (fun x s₄ =>
       wpAny (model prog w) A (call (.builtin "list.append") [acc, x]) (fun _ s₅ => ∃ m, m < n ∧ I m s₅) (fun _ _ => False) s₄) (fun _ _ => False) s₃
      else ∃ m, m < n ∧ I m s₃) (fun _ _ => False) s₂) (fun _ _ => False) s₁) (fun _ _ => False) s₁) (fun _ _ => False) s)
  (n : Nat) (h : I n s) :
  codeAny (model prog w) A (.compLoop (.ListComp elt [⟨target, iter, ifs, 0⟩] scope pos) 0 it acc env) R s := by
 refine codeAny_loop rfl I (fun n s hI => ?_) n h
 show wpAny _ A ((compTurn (.ListComp elt [⟨target, iter, ifs, 0⟩] scope pos) 0 it acc env).onRaise (fun x => do noteFrame x env; theTreesLotGoes x)) _ _ s
 refine wpAny_noted ?_
 rw [compTurn_list]
 refine wpAny_bind (wpAny_standAt (wpAny_bind (wpAny_mono (turn n s hI) (fun r s₁ h₁ => ?_) fun _ _ h' => h'.elim)))
 cases r with
 | none => exact wpAny_pure h₁
 | some v =>
  refine wpAny_bind (wpAny_mono h₁ (fun _ s₁' h₁' => ?_) fun _ _ h' => h'.elim)
  refine wpAny_bind (wpAny_mono h₁' (fun _ s₂ h₂ => wpAny_bind (wpAny_mono h₂ (fun ok s₃ h₃ => ?_) fun _ _ h' => h'.elim)) fun _ _ h' => h'.elim)
  cases ok with
  | false => exact wpAny_pure ⟨rfl, h₃⟩
  | true =>
   exact wpAny_bind (wpAny_bind (wpAny_mono h₃ (fun x s₄ h₄ => wpAny_bind (wpAny_mono h₄ (fun _ s₅ h₅ => wpAny_pure (wpAny_pure ⟨rfl, h₅⟩)) fun _ _ h' => h'.elim)) fun _ _ h' => h'.elim))
abbrev BK (α : Type) := Addr → List Addr → Shared → Hp → α
def CompIn (k : Nat) (J : It) (g : BK TG) (tt : BK TT) (te : BK TE) (σ : St) (H1 : Hp) (Q : VK) : Prop := ∀ D, H1 D = none → ∃ W : Nat → Nat → List V → Hp → Prop, (∃ m, W 0 m [] (upd H1 D (.lst []))) ∧
 ∀ i m ys H2, W i m ys H2 → H2 D = some (.lst ys) ∧ ((J.stop i H2 ∧ Q (.ref D) H2) ∨ (J.go i H2 ∧ ∀ x H3, J.yld i H2 x H3 → ∀ C fp s₀ H₀, g C fp s₀ H₀ x (σ ++ List.replicate k none) H3 fun σ3 H4 => (∃ τ : St, σ3 = σ ++ τ ∧ τ.length = k) ∧
  tt C fp s₀ H₀ σ3 H4 fun b H5 => if b = true then te C fp s₀ H₀ σ3 H5 fun v H6 => H6 D = some (.lst ys) ∧ ys.length < sizeLine ∧ ∃ m', m' < m ∧ W (i + 1) m' (ys ++ [v]) (upd H6 D (.lst (ys ++ [v])))
   else ∃ m', m' < m ∧ W (i + 1) m' ys H5))
def tComp (k : Nat) (wi : TI) (g : BK TG) (tt : BK TT) (te : BK TE) : TE := fun σ H Q => wi σ H fun J H1 => CompIn k J g tt te σ H1 Q
theorem comp_core {elt tg iter : Expr} {ifs : List Expr} {scope : Scope} {pos : Pos} {M : List Str} {wi : TI} {g : BK TG} {tt : BK TT} {te : BK TE} (hc : X.calm = true) (S : CompSc X scope) (hi : PI X tg iter wi)
  (hg : ∀ C fp s₃ H₃, PG (blk X M scope C fp s₃ H₃) tg (g C fp s₃ H₃)) (ht : ∀ C fp s₃ H₃, PTs (blk X M scope C fp s₃ H₃) ifs (tt C fp s₃ H₃)) (he : ∀ C fp s₃ H₃, PE (blk X M scope C fp s₃ H₃) elt (te C fp s₃ H₃))
  (hs : ∀ x, foldedSetIterable iter X.env x = pure x) {use : Option (Value → Sem Unit)} {QQ : Value → Shared → Prop} {pins : List (Addr × Obj)} {s : Shared} {σ : St} {H : Hp} {Q : VK} {ps : Pos} (I : Inv X pins σ H s) (h : tComp M.length wi g tt te σ H Q)
  (fin : ∀ {a C : Addr} {fp : List Addr} {s₃ s6 : Shared} {H₃ H5 : Hp}, C = s₃.heap.objs.size → Inv X pins σ H₃ s₃ → (∀ b ∈ fp, FpOk X pins H₃ b) → Inv (blk X M scope C fp s₃ H₃) [] (σ ++ List.replicate M.length none) H5 s6 → Q (.ref a) H5 → compPost (model X.prog X.w) X.A X.xe use QQ (.ref a) C (.ok .next) s6) :
  wpAny (model X.prog X.w) X.A (comprehension (.ListComp elt [⟨tg, iter, ifs, 0⟩] scope pos) scope X.env ps (newList []) false (firstIter [⟨tg, iter, ifs, 0⟩] X.env) use) QQ X.xe s := by
 refine wpAny_comprehension_free rfl hs (closure_eq (S.cells I.ok)) S.kind S.loc (thn (hi pins s σ H _ I h) fun xv s₁ h₁ => thn h₁ fun itv s₂ h₂ => ?_)
 refine gate' fun gG hgG => ?_
 obtain ⟨it, fp, tn, J, H2, e, I2, Tr, st2, f2, W0⟩ := h₂
 refine hgG.go ?_
 clear hgG
 subst e
 have hD : H2 s₂.heap.objs.size = none := I2.hok.fresh (Nat.le_refl _)
 obtain ⟨W, ⟨m0, w0⟩, turn⟩ := W0 _ hD
 suffices core : ∀ s₃ : Shared, s₃ = { s₂ with heap := s₂.heap.push { cls := .type "list", data := .seq ([] : List Value).toArray } } →
   wpAny (model X.prog X.w) X.A (newFunctionEnv scope X.env.globals (clOf scope X.env) [] X.env.qual none .none (some X.env)) (fun cenv s₄ =>
    codeAny (model X.prog X.w) X.A (.compStart (.ListComp elt [⟨tg, iter, ifs, 0⟩] scope pos) 0 (.ref it) (.ref s₂.heap.objs.size) { cenv with scope := relabel scope X.env })
     (compPost (model X.prog X.w) X.A X.xe use QQ (.ref s₂.heap.objs.size) cenv.locals) s₄) X.xe s₃ from wpAny_newObj_type (core _ rfl)
 intro s₃ hs₃
 have I3 : Inv X pins σ (upd H2 s₂.heap.objs.size (.lst [])) s₃ := by
  rw [hs₃]
  exact I2.lnew (t' := s₂.toks) (its := []) .nil (Nat.zero_le _)
 have hlt : ∀ b ∈ fp, b < s₂.heap.objs.size := fun b hb => by
  obtain ⟨o, e, _⟩ := Tr.obj _ _ st2 b hb
  exact Heap.lt_size e
 have f3 : ∀ b ∈ fp, FpOk X pins (upd H2 s₂.heap.objs.size (.lst [])) b := fun b hb => ⟨by rw [upd_ne (Nat.ne_of_lt (hlt b hb))]; exact (f2 b hb).1, (f2 b hb).2⟩
 have hlt3 : ∀ b ∈ fp, b < s₃.heap.objs.size := fun b hb => by
  rw [hs₃]
  show b < (s₂.heap.push _).objs.size
  rw [Heap.size_push]
  exact Nat.lt_succ_of_lt (hlt b hb)
 have st3 : tn 0 s₃.heap := Tr.keep _ _ _ st2 fun b hb o e => by rw [hs₃]; exact Heap.get?_push_of_some _ e
 generalize hH₃ : upd H2 s₂.heap.objs.size (.lst []) = H₃ at I3 f3 w0
 revert H₃
 refine keepG ?_
 set_option tactic.hygienic false in intros
 refine wpAny_newFunctionEnv S.cell (by intro y hy; simp at hy) (fun h₁ hns₁ hsb₁ => ?_) S.kind
 have old : ∀ b o, s₃.heap.get? b = some o → h₁.get? b = some o := fun b o e => hsb₁.extBut b o (Nat.ne_of_lt (Heap.lt_size e)) (Heap.get?_push_of_some _ e)
 have I4 := blk_inv (M := M) (tk := s₃.toks + ([] : List (Str × Value)).length) S I3 f3 hlt3 old hns₁
 have st4 : tn 0 h₁ := Tr.keep _ _ _ st3 fun b _ o e => old b o e
 have stat : ∀ {pn' : List (Addr × Obj)} {H' : Hp}, (∀ b ∈ fp, H' b = none) → (∀ b ∈ fp, ∀ p ∈ pn', p.1 ≠ b) → ∀ b ∈ fp, FpOk (blk X M scope s₃.heap.objs.size fp s₃ H₃) pn' H' b := fun {pn' H'} hn hp b hb =>
  ⟨hn b hb, Nat.ne_of_lt (hlt3 b hb), (blk_ok (M := M) S I3 f3 hlt3).exfs b hb, .inl hb, fun x c hx => (f3 b hb).2.2.2.2.1 x c (S.sub I.ok x c hx), fun p hp' => hp b hb p hp'⟩
 have loop : ∀ s₄ : Shared, s₄ = { s₃ with heap := h₁, toks := s₃.toks + ([] : List (Str × Value)).length } →
   codeAny (model X.prog X.w) X.A (.compLoop (.ListComp elt [⟨tg, iter, ifs, 0⟩] scope pos) 0 (.ref it) (.ref s₂.heap.objs.size) (compEnvC scope (clOf scope X.env) s₃.heap.objs.size X.env))
    (compPost (model X.prog X.w) X.A X.xe use QQ (.ref s₂.heap.objs.size) s₃.heap.objs.size) s₄ := by
  rintro s₄ rfl
  refine comp_loop (fun n s' => ∃ i ys σ' H', Inv (blk X M scope s₃.heap.objs.size fp s₃ H₃) [] σ' H' s' ∧ (∃ τ : St, σ' = σ ++ τ ∧ τ.length = M.length) ∧ tn i s'.heap ∧ (∀ b ∈ fp, H' b = none) ∧ W i n ys H') ?_ m0
   ⟨0, [], _, H₃, I4, ⟨_, rfl, List.length_replicate ..⟩, st4, fun b hb => (f3 b hb).1, w0⟩
  intro n s5 hI_
  refine gate' fun gG hgG => ?_
  obtain ⟨i, ys, σ5, H5, I5, ⟨τ, rfl, hτ⟩, st5, fr5, w5⟩ := hI_
  refine hgG.go ?_
  clear hgG
  have I5' : Inv (blk X M scope s₃.heap.objs.size fp s₃ H₃) [] (σ ++ List.replicate M.length none) H5 s5 := by
   refine I5.weak (by rw [List.length_append, List.length_append, List.length_replicate, hτ]) fun j v e => ?_
   by_cases q : j < σ.length
   ·rw [List.getElem?_append_left q] at e ⊢; exact e
   ·rw [List.getElem?_append_right (by omega), List.getElem?_replicate] at e
    split at e <;> cases e
  obtain ⟨hDl, hcase⟩ := turn i n ys H5 w5
  rcases hcase with ⟨stop, q⟩ | ⟨go, step⟩
  ·refine thn (Tr.done (blk X M scope s₃.heap.objs.size fp s₃ H₃) rfl rfl rfl hc i [] s5 _ H5 _ I5' (stat fr5 (fun _ _ _ z => (nomatch z))) st5 stop) fun r s6 ⟨hr, I6⟩ => ?_
   subst hr
   exact fin rfl I3 f3 I6 q
  ·refine thn (Tr.item (blk X M scope s₃.heap.objs.size fp s₃ H₃) rfl rfl rfl hc i [] s5 _ H5 _ I5' (stat fr5 (fun _ _ _ z => (nomatch z))) st5 go) fun r s6 ⟨u, hr, h6⟩ => ?_
   subst hr
   refine thn h6 fun _ s7 ⟨x, H7, I7, r7, y7, st7, fr7⟩ => ?_
   have I7' := I7.pinned (stat fr7 (fun _ _ _ z => (nomatch z))) (Tr.obj _ _ st7)
   refine thn (hg _ _ _ _ _ s7 _ H7 x u _ I7' r7 (step x H7 y7 _ _ _ _)) fun _ s8 ⟨σ8, H8, I8, ⟨τ8, e8, l8⟩, q8⟩ => ?_
   subst e8
   have again : ∀ {ys' : List V} {H9 : Hp} {s9 : Shared}, Inv (blk X M scope s₃.heap.objs.size fp s₃ H₃) ([] ++ pinsAt fp s7.heap) (σ ++ τ8) H9 s9 → (∃ m', m' < n ∧ W (i + 1) m' ys' H9) →
     ∃ m, m < n ∧ ∃ i ys σ' H', Inv (blk X M scope s₃.heap.objs.size fp s₃ H₃) [] σ' H' s9 ∧ (∃ τ : St, σ' = σ ++ τ ∧ τ.length = M.length) ∧ tn i s9.heap ∧ (∀ b ∈ fp, H' b = none) ∧ W i m ys H' := fun {ys' H9 s9} I9 ⟨m', hm, w9⟩ => by
    refine ⟨m', hm, i + 1, ys', _, H9, I9.unpinned, ⟨τ8, rfl, l8⟩, Tr.keep _ _ _ st7 fun b hb o e => (I9.pin (b, o) (List.mem_append_right _ (List.mem_append_right _ (mem_pinsAt hb e)))).1, fun b hb => ?_, w9⟩
    obtain ⟨o, e, d⟩ := Tr.obj _ _ st7 b hb
    exact (I9.pin (b, o) (List.mem_append_right _ (List.mem_append_right _ (mem_pinsAt hb e)))).2.1
   refine thn (ht _ _ _ _ _ s8 _ H8 _ I8 q8) fun ok s9 ⟨H9, I9, q9⟩ => ?_
   cases ok with
   | false =>
    rw [if_neg Bool.false_ne_true] at q9 ⊢
    exact again I9 q9
   | true =>
    rw [if_pos rfl] at q9 ⊢
    refine thn (he _ _ _ _ _ s9 _ H9 _ I9 q9) fun v s10 ⟨y, H10, I10, r10, hD10, hsz, q10⟩ => ?_
    refine thn (mt_append _ s10 _ H10 (.ref s₂.heap.objs.size) [y] _ [v] (fun v' H' => v' = .non ∧ H' = upd H10 s₂.heap.objs.size (.lst (ys ++ [y]))) I10 rfl (.cons r10 .nil) ⟨_, ys, y, rfl, rfl, hD10, hsz, rfl, rfl⟩) fun _ s11 ⟨_, H11, I11, _, _, e11⟩ => ?_
    subst e11
    exact again I11 q10
 exact codeAny_compStart_list (loop _ rfl) (Tr.self _ 0 _ _ _ st4 (loop _ rfl))
theorem pe_comp {elt tg iter : Expr} {ifs : List Expr} {scope : Scope} {pos : Pos} {M : List Str} {wi : TI} {g : BK TG} {tt : BK TT} {te : BK TE} (hc : X.calm = true) (S : CompSc X scope) (hi : PI X tg iter wi)
  (hg : ∀ C fp s₃ H₃, PG (blk X M scope C fp s₃ H₃) tg (g C fp s₃ H₃)) (ht : ∀ C fp s₃ H₃, PTs (blk X M scope C fp s₃ H₃) ifs (tt C fp s₃ H₃)) (he : ∀ C fp s₃ H₃, PE (blk X M scope C fp s₃ H₃) elt (te C fp s₃ H₃))
  (hs : ∀ x, foldedSetIterable iter X.env x = pure x := by intro _; rfl) : PE X (.ListComp elt [⟨tg, iter, ifs, 0⟩] scope pos) (tComp M.length wi g tt te) := by
 intro pins s σ H Q I h
 rw [eval_ListComp]
 refine comp_core hc S hi hg ht he hs I h fun e I3 f3 I6 q => ?_
 subst e
 obtain ⟨m6, hn6, _⟩ := I6.loc
 exact ⟨m6, hn6, fun h' hsb => ⟨.ref _, _, blk_out I3 f3 I6 hsb, rfl, q⟩⟩
end
end L2
set_option Elab.async false
set_option linter.all false
set_option maxRecDepth 100000
namespace L2
open PySem PySem.Spec PyProof.Rows
theorem set_end {σ : St} {n : Nat} (hn : n = σ.length) (x : V) : (σ ++ List.replicate 1 none).set n (some x) = σ ++ [some x] := by
 subst hn
 rw [List.set_append_right _ _ (Nat.le_refl _), Nat.sub_self]
 rfl
theorem same_upd {H1 H4 : Hp} {D : Addr} {o : HO} (hD : H1 D = none) (s : Same H1 H4) : Same H1 (upd H4 D o) := fun b u e => by
 rw [upd_ne (ne_of_none e hD)]
 exact s b u e
theorem comp_it {J : It} {xs : List V} {n : Nat} {te : BK TE} {σ : St} {H1 : Hp} {Q : VK} (f : V → V) (hn : n = σ.length) (hsz : xs.length ≤ sizeLine)
  (hgo : ∀ i H2, Same H1 H2 → i < xs.length → J.go i H2 ∧ ∀ x H3, J.yld i H2 x H3 → H3 = H2 ∧ xs[i]? = some x) (hst : ∀ H2, Same H1 H2 → J.stop xs.length H2)
  (hel : ∀ C fp s₀ H₀ (i : Nat) x, xs[i]? = some x → ∀ H3 (R : VK), Same H1 H3 → (∀ H4, Same H3 H4 → R (f x) H4) → te C fp s₀ H₀ (σ ++ [some x]) H3 R)
  (hq : ∀ D H', H1 D = none → Same H1 H' → H' D = some (.lst (xs.map f)) → Q (.ref D) H') :
  CompIn 1 J (fun _ _ _ _ => gName n) (fun _ _ _ _ => tTrue) te σ H1 Q := by
 unfold CompIn
 intro D hD
 refine ⟨fun i m ys H2 => m = xs.length - i ∧ i ≤ xs.length ∧ ys = (xs.take i).map f ∧ Same H1 H2 ∧ H2 D = some (.lst ys), ⟨xs.length, by simp, Nat.zero_le _, by simp, same_upd hD (Same.refl _), upd_same⟩, ?_⟩
 rintro i m ys H2 ⟨rfl, hi, rfl, s2, hDl⟩
 refine ⟨hDl, ?_⟩
 by_cases hlt : i < xs.length
 ·refine .inr ⟨(hgo i H2 s2 hlt).1, fun x H3 y C fp s₀ H₀ => ?_⟩
  obtain ⟨rfl, hx⟩ := (hgo i H2 s2 hlt).2 x H3 y
  refine ⟨⟨[some x], set_end hn x, rfl⟩, ?_⟩
  rw [set_end hn]
  unfold tTrue
  dsimp only
  rw [if_pos rfl]
  refine hel C fp s₀ H₀ i x hx H3 _ s2 fun H4 s4 => ⟨s4 D _ hDl, ?_, xs.length - (i + 1), by omega, rfl, hlt, ?_, same_upd hD (s2.trans s4), upd_same⟩
  ·rw [List.length_map, List.length_take]
   omega
  ·rw [List.take_add_one, hx, List.map_append]
   rfl
 ·have e : i = xs.length := by omega
  subst e
  refine .inl ⟨hst H2 s2, hq D H2 hD s2 ?_⟩
  rw [hDl, List.take_of_length_le (Nat.le_refl _)]
theorem comp_list {K : PySem.W.Frag} {a : Addr} {xs : List V} {n : Nat} {te : BK TE} {σ : St} {H1 : Hp} {Q : VK} (f : V → V) (hn : n = σ.length) (hsz : xs.length ≤ sizeLine) (hl : SqL K H1 a xs)
  (hel : ∀ C fp s₀ H₀ (i : Nat) x, xs[i]? = some x → ∀ H3 (R : VK), Same H1 H3 → (∀ H4, Same H3 H4 → R (f x) H4) → te C fp s₀ H₀ (σ ++ [some x]) H3 R)
  (hq : ∀ D H', H1 D = none → Same H1 H' → H' D = some (.lst (xs.map f)) → Q (.ref D) H') :
  CompIn 1 (Itl K a) (fun _ _ _ _ => gName n) (fun _ _ _ _ => tTrue) te σ H1 Q :=
 comp_it f hn hsz (fun i H2 s2 hi => ⟨⟨xs, xs[i], s2.seq hl, by simp [hi]⟩, fun x H3 y => ⟨y.1, y.2 xs (s2.seq hl)⟩⟩) (fun H2 s2 => ⟨xs, s2.seq hl, Nat.le_refl _⟩) hel hq
theorem comp_str {l : List Nat} {n : Nat} {te : BK TE} {σ : St} {H1 : Hp} {Q : VK} (f : Nat → V) (hn : n = σ.length) (hsz : l.length ≤ sizeLine)
  (hel : ∀ C fp s₀ H₀ (i : Nat) c, l[i]? = some c → ∀ H3 (R : VK), Same H1 H3 → (∀ H4, Same H3 H4 → R (f c) H4) → te C fp s₀ H₀ (σ ++ [some (.str (T [c]))]) H3 R)
  (hq : ∀ D H', H1 D = none → Same H1 H' → H' D = some (.lst (l.map f)) → Q (.ref D) H') :
  CompIn 1 (Its l) (fun _ _ _ _ => gName n) (fun _ _ _ _ => tTrue) te σ H1 Q := by
 have key : ∀ i, (l.map fun c => V.str (T [c]))[i]? = (l[i]?).map fun c => V.str (T [c]) := fun i => by rw [List.getElem?_map]
 refine comp_it (J := Its l) (xs := l.map fun c => V.str (T [c])) (fun v => match v with | .str x => f (x.cps.toList.headD 0) | _ => .non) hn (by rw [List.length_map]; exact hsz) (fun i H2 _ hi => ?_) (fun H2 _ => by show l.length ≤ (l.map _).length; rw [List.length_map]; exact Nat.le_refl _) (fun C fp s₀ H₀ i x hx => ?_) (fun D H' h1 h2 h3 => hq D H' h1 h2 ?_)
 ·rw [List.length_map] at hi
  refine ⟨hi, fun x H3 y => ?_⟩
  obtain ⟨e, c, hc, rfl⟩ := y
  exact ⟨e, by rw [key, hc]; rfl⟩
 ·rw [key] at hx
  cases hc : l[i]? with
  | none => rw [hc] at hx; cases hx
  | some c =>
   rw [hc] at hx
   cases hx
   exact hel C fp s₀ H₀ i c hc
 ·rw [h3, List.map_map]
  rfl
section
variable {X : Cx}
def cntL (c : Nat) : List Nat → Nat
 | [] => 0
 | d :: r => (if d = c then 1 else 0) + cntL c r
theorem cnt_cntL (c : Nat) : ∀ l : List Nat, PyProof.Rows.cnt c l = (cntL c l : Int)
 | [] => rfl
 | d :: r => by
  rw [PyProof.Rows.cnt_cons, cnt_cntL c r]
  show _ = (((if d = c then 1 else 0) + cntL c r : Nat) : Int)
  by_cases h : d = c
  ·rw [if_pos h, if_pos h]
   omega
  ·rw [if_neg h, if_neg h]
   omega
theorem mt_count : MtR X "str.count" (fun x xs H Q => ∃ l c, x = .str (T l) ∧ xs = [.str (T [c])] ∧ Q (.int (cntL c l)) H) := by
 intro pins s σ H x xs v us Q I rx r h
 refine gate' fun gG hgG => ?_
 obtain ⟨l, c, rfl, rfl, q⟩ := h
 obtain ⟨t, rfl⟩ := (show ∃ t, v = Value.str (T l) t from rx)
 obtain ⟨u, rfl, ru⟩ := vals1 r
 obtain ⟨t', rfl⟩ := (show ∃ t, u = Value.str (T [c]) t from ru)
 refine hgG.go ?_
 clear hgG
 refine SC.count ?_
 have e : Txt.count (T l) (T [c]) = (cntL c l : Int) := (PyProof.Rows.count_cnt (T l) c).trans (cnt_cntL c l)
 rw [e]
 exact ⟨.int (cntL c l), H, I.tok _, ⟨_, rfl⟩, q⟩
theorem mt_index : MtR X "str.index" (fun x xs H Q => ∃ y z i rest, x = .str y ∧ xs = [.str z] ∧ Builtin.Str.occurrences y z 0 y.length 1 = i :: rest ∧ Q (.int (i : Nat)) H) := by
 intro pins s σ H x xs v us Q I rx r h
 refine gate' fun gG hgG => ?_
 obtain ⟨y, z, i, rest, rfl, rfl, ho, q⟩ := h
 obtain ⟨t, rfl⟩ := (show ∃ t, v = Value.str y t from rx)
 obtain ⟨u, rfl, ru⟩ := vals1 r
 obtain ⟨t', rfl⟩ := (show ∃ t, u = Value.str z t from ru)
 refine hgG.go ?_
 clear hgG
 exact SC.index ho ⟨.int i, H, I.tok _, ⟨_, rfl⟩, q⟩
theorem strs_of : ∀ {ls : List (List Nat)} {us : List Value}, Vals (ls.map fun l => V.str (T l)) us → StrsAre us (ls.map T)
 | [], _, r => by rw [List.map_nil] at r; cases r; exact .nil
 | l :: ls, _, r => by
  rw [List.map_cons] at r
  cases r with
  | cons h t =>
   obtain ⟨tk, rfl⟩ := h
   exact .cons _ _ (strs_of t)
theorem join_T : ∀ ls : List (List Nat), Str.join (T []) (ls.map T) = T ls.flatten
 | [] => rfl
 | [l] => by
  show T l = T (l ++ [])
  rw [List.append_nil]
 | l :: m :: r => by
  have ih := join_T (m :: r)
  show T l ++ T [] ++ Str.join (T []) ((m :: r).map T) = _
  rw [ih, T_app, T_app, List.append_nil]
  rfl
theorem sum_T (ls : List (List Nat)) : ((ls.map T).map (·.length)).sum = ls.flatten.length := by
 induction ls with
 | nil => rfl
 | cons l r ih =>
  rw [List.map_cons, List.map_cons, List.sum_cons, ih, T_len, List.flatten_cons, List.length_append]
theorem mt_join : MtR X "str.join" (fun x xs H Q => ∃ (p : Addr) (ls : List (List Nat)), x = .str (T []) ∧ xs = [.ref p] ∧ SqL X.K H p (ls.map fun l => V.str (T l)) ∧ ls.flatten.length ≤ 1000000 ∧ Q (.str (T ls.flatten)) H) := by
 intro pins s σ H x xs v us Q I rx r h
 refine gate' fun gG hgG => ?_
 obtain ⟨p, ls, rfl, rfl, hS, hz, q⟩ := h
 obtain ⟨t, rfl⟩ := (show ∃ t, v = Value.str (T []) t from rx)
 obtain ⟨u, rfl, ru⟩ := vals1 r
 refine hgG.go ?_
 clear hgG
 cases (show u = Value.ref p from ru)
 obtain ⟨its, rv, pl, _⟩ := I.list hS
 refine join_list pl.isList (ys := ls.map T) (by simpa using strs_of rv) ?_ fun t' k => ?_
 ·rw [sum_T]
  have e : (T []).length = 0 := T_len []
  rw [e, Nat.mul_zero]
  omega
 ·have e : Txt.join (T []) (ls.map T) = T ls.flatten := (StrLaws.glued_eq_join _ _).trans (join_T ls)
  rw [e]
  exact ⟨.str (T ls.flatten), H, I.tok _, ⟨_, rfl⟩, q⟩
theorem flat_one (cs : List Nat) : (cs.map fun c => [c]).flatten = cs := by
 induction cs with
 | nil => rfl
 | cons c r ih => rw [List.map_cons, List.flatten_cons, ih]; rfl
theorem call_isT : CallR X (.builtin "isinstance") (fun xs H Q => ∃ x C t b, xs = [x, .ty C] ∧ TyOf X.K H x t ∧ PySem.W.kitOne X.K t (.type C) = some b ∧ Q (.bl b) H) := by
 intro pins s σ H xs us Q I r h
 refine gate' fun gG hgG => ?_
 obtain ⟨x, C, t, b, rfl, ty, e, q⟩ := h
 obtain ⟨u, w', rfl, ru, rw'⟩ := vals2 r
 refine hgG.go ?_
 clear hgG
 cases (show w' = Value.type C from rw')
 exact isinst_ok I ru ty e fun tk => ⟨.bl b, H, I.tok tk, rfl, q⟩
theorem pick_nat (l : List Nat) (a : Nat) : ∀ k : Nat, (List.range k).filterMap (fun m => l[a + m]?) = (l.drop a).take k
 | 0 => by simp
 | k + 1 => by
  rw [List.range_succ, List.filterMap_append, pick_nat l a k, List.take_add_one, List.getElem?_drop]
  congr 1 <;> (cases l[a + k]? <;> rfl)
def cutL (l : List Nat) (lo hi : Option Int) : List Nat := (l.drop (HT.sIx l.length 0 lo)).take (HT.sIx l.length l.length hi - HT.sIx l.length 0 lo)
def clipS (n d : Nat) : Option Int → Int
 | none => (d : Int)
 | some i => max 0 (min (if i < 0 then i + (n : Int) else i) (n : Int))
theorem clip_str (o : Option Int) (n d : Nat) : clipS n d o = ((HT.sIx n d o : Nat) : Int) := by
 cases o with
 | none => rfl
 | some i =>
  show max 0 (min (if i < 0 then i + (n : Int) else i) (n : Int)) = ((if i < 0 then (i + (n : Int)).toNat else min i.toNat n : Nat) : Int)
  by_cases h : i < 0
  ·rw [if_pos h, if_pos h]
   omega
  ·rw [if_neg h, if_neg h]
   omega
theorem indices_str (lo hi : Option Int) (n : Nat) : Builtin.Str.strSliceIndices lo hi 1 n = (List.range (HT.sIx n n hi - HT.sIx n 0 lo)).map fun k => HT.sIx n 0 lo + k := by
 have step : ∀ a b : Nat, sliceRange (a : Int) (b : Int) 1 = (List.range (b - a)).map fun k => a + k := by
  intro a b
  unfold sliceRange
  simp only [show (1 : Int) > 0 by decide, if_true]
  have ec : (if (a : Int) < (b : Int) then ((b : Int) - (a : Int) + 1 - 1) / 1 else 0).toNat = b - a := by
   split
   ·rw [Int.ediv_one]
    omega
   ·omega
  rw [ec]
  refine List.map_congr_left fun k _ => ?_
  omega
 rw [← step, ← clip_str, ← clip_str]
 unfold Builtin.Str.strSliceIndices
 simp only [show (1 : Int) > 0 by decide, if_true]
 cases lo <;> cases hi <;> rfl
theorem slice_T (l : List Nat) (lo hi : Option Int) : Txt.slice (T l) lo hi = T (cutL l lo hi) := by
 unfold Txt.slice
 have hl : (T l).length = l.length := T_len l
 have pick : ((Builtin.Str.strSliceIndices lo hi 1 (T l).length).filterMap ((T l).cps[·]?)) = cutL l lo hi := by
  rw [hl, indices_str, List.filterMap_map]
  have e : ((fun i : Nat => (T l).cps[i]?) ∘ fun k => HT.sIx l.length 0 lo + k) = fun k => l[HT.sIx l.length 0 lo + k]? := by
   funext k
   show l.toArray[HT.sIx l.length 0 lo + k]? = l[HT.sIx l.length 0 lo + k]?
   simp
  rw [e, pick_nat]
  rfl
 by_cases hc : ((1 : Int) == 1 && (Builtin.Str.strSliceIndices lo hi 1 (T l).length).length == (T l).length) = true
 ·rw [if_pos hc]
  have hn : (Builtin.Str.strSliceIndices lo hi 1 (T l).length).length = (T l).length := by
   rw [Bool.and_eq_true] at hc
   exact eq_of_beq hc.2
  rw [hl, indices_str, List.length_map, List.length_range] at hn
  have h1 : HT.sIx l.length l.length hi ≤ l.length := HT.sIx_le _ _ (Nat.le_refl _) _
  have h2 : HT.sIx l.length 0 lo = 0 ∨ l.length = 0 := by omega
  unfold cutL
  rw [hn]
  rcases h2 with h2 | h2
  ·rw [h2, List.drop_zero, List.take_of_length_le (Nat.le_refl _)]
  ·have : l = [] := List.length_eq_zero_iff.mp h2
   subst this
   rfl
 ·rw [if_neg hc, pick]
  rfl
theorem sl_str : SlR X (fun x lo hi H Q => ∃ l, x = .str (T l) ∧ l.length ≤ sizeLine ∧ Q (.str (T (cutL l lo hi))) H) := by
 intro pins s σ H x v vl vu lo hi sl Q I rx hs pl pu h
 obtain ⟨l, rfl, hz, q⟩ := h
 obtain ⟨t, rfl⟩ := (show ∃ t, v = Value.str (T l) t from rx)
 refine ⟨"str", _, F.slot_str_getitem.lookup, typeIs_str _ _ _, ?_⟩
 have fin : ∀ t' k, EP X pins σ Q (.str (Txt.slice (T l) lo hi) t') { s with toks := k } := fun t' k => by
  rw [slice_T]
  exact ⟨.str (T (cutL l lo hi)), H, I.tok k, ⟨_, rfl⟩, q⟩
 have hz' : (Txt.slice (T l) lo hi).length ≤ sizeLine := Nat.le_trans (Txt.slice_le _ _ _) (by rw [T_len]; exact hz)
 cases pl with
 | none =>
  cases pu with
  | none => exact wpAny_getItem_str_slice (l := none) (u := none) (st := none) hs rfl (post_val_or_str ⟨hz', fin⟩)
  | int j uj => exact wpAny_getItem_str_slice (l := none) (u := some (j, uj)) (st := none) hs rfl (post_val_or_str ⟨hz', fin⟩)
 | int i ui =>
  cases pu with
  | none => exact wpAny_getItem_str_slice (l := some (i, ui)) (u := none) (st := none) hs rfl (post_val_or_str ⟨hz', fin⟩)
  | int j uj => exact wpAny_getItem_str_slice (l := some (i, ui)) (u := some (j, uj)) (st := none) hs rfl (post_val_or_str ⟨hz', fin⟩)
theorem rep_one (c : Nat) : ∀ k : Nat, (List.replicate k (#[c] : Array Nat)).foldl (· ++ ·) #[] = (List.replicate k c).toArray := by
 have key : ∀ (k : Nat) (acc : Array Nat), (List.replicate k (#[c] : Array Nat)).foldl (· ++ ·) acc = acc ++ (List.replicate k c).toArray := by
  intro k
  induction k with
  | zero => intro acc; simp
  | succ k ih =>
   intro acc
   rw [List.replicate_succ, List.foldl_cons, ih]
   refine Array.ext' ?_
   simp [List.replicate_succ]
 intro k
 rw [key]
 simp
theorem op_rep_sign : OpR X (binaryOp .Mult) (fun x y H Q => ∃ c k, x = .str (T [c]) ∧ y = .int k ∧ 0 ≤ k ∧ k ≤ 100000 ∧ Q (.str (T (List.replicate k.toNat c))) H) := by
 intro pins s σ H x y v u Q I rx ry h
 refine gate' fun gG hgG => ?_
 obtain ⟨c, k, rfl, rfl, h0, h1, q⟩ := h
 obtain ⟨t, rfl⟩ := (show ∃ t, v = Value.str (T [c]) t from rx)
 obtain ⟨tk, rfl⟩ := (show ∃ t, u = Value.int k t from ry)
 refine hgG.go ?_
 clear hgG
 have hl : (T [c]).length = 1 := T_len [c]
 refine PySem.P.mul_str ?_ (fun hk _ => ?_) (fun hk _ => ?_) ?_
 ·rw [decide_eq_false (by omega), decide_eq_false (by omega)]
  rfl
 ·rw [hl]
  have : (1 : Int) ≤ (2 ^ 63 - 1) / k := by
   rw [Int.le_ediv_iff_mul_le (by omega)]
   omega
  omega
 ·rw [hl]
  unfold Builtin.Str.tooLong sizeLine
  refine decide_eq_false ?_
  have e : (2 : Nat) ^ 24 = 16777216 := by decide
  omega
 ·by_cases hk : k < 1
  ·rw [if_pos hk]
   have e : k = 0 := by omega
   subst e
   exact ⟨by decide, .str (T []), H, I.tok _, ⟨_, rfl⟩, q⟩
  ·rw [if_neg hk]
   by_cases h2 : (k == 1 || (T [c]).length == 0) = true
   ·rw [if_pos h2]
    have e : k = 1 := by
     rw [hl, Bool.or_eq_true] at h2
     rcases h2 with h2 | h2
     ·exact eq_of_beq h2
     ·exact absurd (eq_of_beq h2) (by decide)
    subst e
    exact ⟨.str (T [c]), H, I, ⟨_, rfl⟩, q⟩
   ·rw [if_neg h2]
    have e : (⟨(List.replicate k.toNat (T [c]).cps).foldl (· ++ ·) #[]⟩ : Str) = T (List.replicate k.toNat c) := congrArg Str.mk (rep_one c k.toNat)
    rw [e]
    refine ⟨?_, .str (T (List.replicate k.toNat c)), H, I.tok _, ⟨_, rfl⟩, q⟩
    rw [T_len, List.length_replicate]
    have e : sizeLine = 16777216 := PySem.sizeLine_eq
    omega
theorem call_sum (hc : X.calm = true) : CallR X (.builtin "sum") (fun xs H Q => ∃ (p : Addr) (ns : List Int), xs = [.ref p] ∧ SqL X.K H p (ns.map V.int) ∧ Q (.int ns.sum) H) := by
 intro pins s σ H xs us Q I r h
 refine gate' fun gG hgG => ?_
 obtain ⟨p, ns, rfl, hS, q⟩ := h
 obtain ⟨u, rfl, ru⟩ := vals1 r
 refine hgG.go ?_
 clear hgG
 cases (show u = Value.ref p from ru)
 obtain ⟨its, rv, pl, _⟩ := I.list hS
 have hi := intsAre_of rv
 have hall := hi.allInts
 obtain ⟨xs, e⟩ := hall.items
 have hl := pl.isList
 rw [e] at hl
 have es : preSum (numAt xs) xs.size = ns.sum := by
  have e1 := nums_intItems (xs := xs)
  have e2 : numsOf its = ns := hi.numsOf
  have e3 : its.toArray.toList = its := rfl
  rw [← e2, ← e3, e, e1, preSum_eq, List.take_of_length_le (by simp)]
 refine sum_intListG (I.ok.hd hc) hl fun h' tk t' hk => ?_
 rw [es]
 exact ⟨.int ns.sum, H, I.kept hk, ⟨_, rfl⟩, q⟩
mutual
inductive DatV (K : PySem.W.Frag) (H : Hp) : V → PyData → Prop
 | int (i : Int) : DatV K H (.int i) (.int i)
 | str (x : Str) : DatV K H (.str x) (.str x)
 | non : DatV K H .non .none
 | tup {a : Addr} {xs : List V} {ds : List PyData} (h : SqT K H a xs) (hd : DatVs K H xs ds) : DatV K H (.ref a) (.tuple ds)
 | lst {a : Addr} {xs : List V} {ds : List PyData} (h : SqL K H a xs) (hd : DatVs K H xs ds) : DatV K H (.ref a) (.list ds)
inductive DatVs (K : PySem.W.Frag) (H : Hp) : List V → List PyData → Prop
 | nil : DatVs K H [] []
 | cons {x : V} {xs : List V} {d : PyData} {ds : List PyData} (h : DatV K H x d) (t : DatVs K H xs ds) : DatVs K H (x :: xs) (d :: ds)
end
mutual
theorem dat_reads {pins : List (Addr × Obj)} {σ : St} {H : Hp} {s : Shared} (I : Inv X pins σ H s) : ∀ {x : V} {d : PyData} {u : Value}, DatV X.K H x d → RelV x u → ∃ as, Reads s.heap u d as
 | _, _, u, .int i, r => by
  obtain ⟨t, rfl⟩ := (show ∃ t, u = Value.int i t from r)
  exact ⟨_, .int i t⟩
 | _, _, u, .str x, r => by
  obtain ⟨t, rfl⟩ := (show ∃ t, u = Value.str x t from r)
  exact ⟨_, .str x t⟩
 | _, _, u, .non, r => by
  cases (show u = Value.none from r)
  exact ⟨_, .none⟩
 | _, _, u, @DatV.tup _ _ a xs ds h hd, r => by
  cases (show u = Value.ref a from r)
  refine gate' fun gG hgG => ?_
  obtain ⟨its, rv, ⟨o, ho, hc, n, hdd⟩, _⟩ := I.tuple h
  obtain ⟨as, q⟩ := dat_readsAll I hd rv
  refine hgG.go ?_
  clear hgG
  exact ⟨as, reads_tuple_at ho hc hdd (by simpa using q)⟩
 | _, _, u, @DatV.lst _ _ a xs ds h hd, r => by
  cases (show u = Value.ref a from r)
  refine gate' fun gG hgG => ?_
  obtain ⟨its, rv, pl, _⟩ := I.list h
  obtain ⟨o, ho, hc, n, hdd⟩ := pl.isList
  obtain ⟨as, q⟩ := dat_readsAll I hd rv
  refine hgG.go ?_
  clear hgG
  exact ⟨_, reads_list_at ho hc hdd (by simpa using q)⟩
theorem dat_readsAll {pins : List (Addr × Obj)} {σ : St} {H : Hp} {s : Shared} (I : Inv X pins σ H s) : ∀ {xs : List V} {ds : List PyData} {us : List Value}, DatVs X.K H xs ds → Vals xs us → ∃ as, ReadsAll s.heap us ds as
 | _, _, _, .nil, r => by
  cases r
  exact ⟨_, .nil⟩
 | _, _, _, .cons h t, r => by
  cases r with
  | cons r1 r2 =>
   obtain ⟨as, q1⟩ := dat_reads I h r1
   obtain ⟨bs, q2⟩ := dat_readsAll I t r2
   exact ⟨_, .cons q1 q2⟩
end
theorem op_eqD (hu : X.A.units + 64 < cLine) : OpR X (compareOp .Eq) (fun x y H Q => ∃ d e, DatV X.K H x d ∧ DatV X.K H y e ∧ SeqAt.shaped d = true ∧ SeqAt.shaped e = true ∧ Q (.bl (PyData.eqv d e)) H) := by
 intro pins s σ H x y v u Q I rx ry h
 refine gate' fun gG hgG => ?_
 obtain ⟨d, e, hx, hy, sd, se, q⟩ := h
 obtain ⟨as, r1⟩ := dat_reads I hx rx
 obtain ⟨bs, r2⟩ := dat_reads I hy ry
 refine hgG.go ?_
 clear hgG
 exact eq_dataH r1 r2 sd se hu ⟨.bl _, H, I, rfl, q⟩
theorem op_neD (hu : X.A.units + 64 < cLine) : OpR X (compareOp .NotEq) (fun x y H Q => ∃ d e, DatV X.K H x d ∧ DatV X.K H y e ∧ SeqAt.shaped d = true ∧ SeqAt.shaped e = true ∧ Q (.bl (!PyData.eqv d e)) H) := by
 intro pins s σ H x y v u Q I rx ry h
 refine gate' fun gG hgG => ?_
 obtain ⟨d, e, hx, hy, sd, se, q⟩ := h
 obtain ⟨as, r1⟩ := dat_reads I hx rx
 obtain ⟨bs, r2⟩ := dat_reads I hy ry
 refine hgG.go ?_
 clear hgG
 exact ne_dataH r1 r2 sd se hu ⟨.bl _, H, I, rfl, q⟩
end
end L2
set_option Elab.async false
set_option linter.all false
set_option maxRecDepth 100000
namespace PySem
namespace F
theorem slot_reversed_next : Slot "reversed" "__next__" "reversed.__next__" :=
 .of (owner := "reversed") (n := "__next__") (by rw [typeLookup_type, builtinLookup_eq_fast]; kernel_rfl) (by decide +kernel) (by decide +kernel) (by decide +kernel)
  (by first | exact .inl (by decide +kernel) | exact .inr (by decide +kernel)) (by rw [isSubtype_type]; kernel_rfl)
theorem entry_reversed_next : entryFor table "reversed.__next__" = some Builtin.«reversed.__next__» := entryFor_of_tree (by kernel_rfl)
theorem owner_reversed : Manifest.owners.lookup (String.ofList ['d', 'e', 's', 'r', 'e', 'v', 'e', 'r'].reverse) = some Manifest.sig_reversed := by kernel_rfl
theorem args_reversed_next_1 (a : Value) : argsOk "reversed.__next__" ⟨[a], []⟩ := by
 unfold argsOk; rw [signature?_of (id := "reversed.__next__") (n := ['_', '_', 't', 'x', 'e', 'n', '_', '_']) (o := ['d', 'e', 's', 'r', 'e', 'v', 'e', 'r']) (by kernel_rfl) owner_reversed]; kernel_rfl
theorem slot_reversed_iter : Slot "reversed" "__iter__" "reversed.__iter__" :=
 .of (owner := "reversed") (n := "__iter__") (by rw [typeLookup_type, builtinLookup_eq_fast]; kernel_rfl) (by decide +kernel) (by decide +kernel) (by decide +kernel)
  (by first | exact .inl (by decide +kernel) | exact .inr (by decide +kernel)) (by rw [isSubtype_type]; kernel_rfl)
theorem args_reversed_iter_1 (a : Value) : argsOk "reversed.__iter__" ⟨[a], []⟩ := by
 unfold argsOk; rw [signature?_of (id := "reversed.__iter__") (n := ['_', '_', 'r', 'e', 't', 'i', '_', '_']) (o := ['d', 'e', 's', 'r', 'e', 'v', 'e', 'r']) (by kernel_rfl) owner_reversed]; kernel_rfl
theorem entry_reversed_iter : entryFor table "reversed.__iter__" = some Builtin.«dict_keyiterator.__iter__» :=
 entryFor_alias (id' := "dict_keyiterator.__iter__") (by kernel_rfl) (by first | rfl | decide +kernel | (unfold String.splitOn; simp +decide [String.splitOnAux])) (by decide +kernel) (by kernel_rfl)
theorem str_no_reversed : typeLookup (.type "str") "__reversed__" = pure none := by rw [typeLookup_type, builtinLookup_eq_fast]; kernel_rfl
end F
section
variable {prog : Program} {w : World} {A : Around} {E : Value → Shared → Prop} {s : Shared}
def revStr (x : Str) (t : Tok) (i : Int) : Obj := { cls := .type "reversed", data := .fields #[.str x t, rawInt i] }
def Heap.IsRevStr (h : Heap) (a : Addr) (x : Str) (t : Tok) (i : Int) : Prop := ∃ o, h.get? a = some o ∧ o.cls = .type "reversed" ∧ o.data = .fields #[.str x t, rawInt i]
theorem Heap.IsRevStr.typeIs {a : Addr} {x : Str} {t : Tok} {i : Int} (y : s.heap.IsRevStr a x t i) : s.TypeIs (.ref a) "reversed" := let ⟨o, ho, hc, _⟩ := y; ⟨o, ho, hc⟩
theorem code_reversed_str {x : Str} {t : Tok} {Q₁ : Value → Shared → Prop} (hz : x.length ≤ sizeLine)
  (h : ∀ k, Q₁ (.ref s.heap.objs.size) { s with heap := s.heap.push (revStr x t ((x.length : Int) - 1)), toks := k }) :
  codeAny (model prog w) A (.call (.builtin "reversed.__new__") ⟨[.type "reversed", .str x t], []⟩) (wants Q₁ E) s := by
 refine codeAny_of_tree ?_
 show wpAny _ A.in1 (do checkBuiltinCall "reversed.__new__" ⟨[.type "reversed", .str x t], []⟩; again (.builtin "reversed.__new__" ⟨[.type "reversed", .str x t], []⟩)) _ _ s
 refine wpAny_bind (wpAny_of_eq (F.newCall_reversed_1 _) (wpAny_pure ⟨plainId_quiet F.plain_reversed_new _, codeAny_builtin F.entry_reversed_new ?_⟩))
 rw [Around.under_plainId F.plain_reversed_new _]
 unfold Builtin.«reversed.__new__»
 refine wpAny_bind (wpAny_of_eq (newClass_reversed _) ?_)
 try dsimp only
 refine wpAny_bind (wpAny_of_eq (a := ()) (by first | rfl | kernel_rfl) ?_)
 refine wpAny_bind (wpAny_of_eq (a := ()) (by first | rfl | kernel_rfl) ?_)
 try dsimp only
 refine wpAny_bind (wpAny_specialOf (typeIs_str _ _ _) F.str_no_reversed ?_)
 try dsimp only
 refine wpAny_bind ?_
 show wpAny _ _ (isInstance (.str x t) (.type "dict") >>= _) _ _ _
 refine wpAny_bind (wpAny_isInstance (typeIs_str _ _ _) F.sub_str_dict ?_)
 rw [if_neg Bool.false_ne_true]
 show wpAny _ _ (specialOf (.str x t) "__getitem__" >>= _) _ _ _
 refine wpAny_bind (wpAny_specialOf (typeIs_str _ _ _) F.slot_str_getitem.lookup ?_)
 dsimp only
 rw [if_pos (show (["tuple.__getitem__", "str.__getitem__", "bytes.__getitem__", "bytearray.__getitem__", "memoryview.__getitem__", "numpy.ndarray.__getitem__", "sqlite3.Row.__getitem__"].contains "str.__getitem__") = true by decide +kernel)]
 refine wpAny_pure ?_
 show wpAny _ _ (call (.builtin "len") [.str x t] >>= _) _ _ _
 have hfit : ¬ (x.length : Int) ≥ 2 ^ 63 := by
  have e : sizeLine = 16777216 := PySem.sizeLine_eq
  omega
 refine wpAny_bind (P.len_str hfit ?_)
 refine wpAny_bind (wpAny_of_eq (a := some (x.length : Int)) rfl ?_)
 dsimp only
 show wpAny _ _ (newObj (.type "reversed") (.fields [Value.str x t, rawInt ((x.length : Int) - 1)].toArray) >>= _) _ _ _
 refine wpAny_bind (wpAny_newObj_type ?_)
 exact wpAny_pure (h _)
theorem slot_reversed_init : Slot "reversed" "__init__" "object.__init__" :=
 .of (owner := "object") (n := "__init__") (by rw [typeLookup_type, builtinLookup_eq_fast]; kernel_rfl) (by decide +kernel) (by decide +kernel) (by decide +kernel)
  (by first | exact .inl (by decide +kernel) | exact .inr (by decide +kernel)) (by rw [isSubtype_type]; kernel_rfl)
theorem called_reversed : TypeCalled "reversed" "reversed.__new__" "object.__init__" :=
 ⟨by decide +kernel, F.create_reversed, ⟨_, _, F.mro_reversed⟩, F.made_reversed, F.plain_reversed_new, F.sub_reversed_self, slot_reversed_init⟩
theorem call_reversed_str {x : Str} {t : Tok} {Q : Value → Shared → Prop} (hz : x.length ≤ sizeLine)
  (h : ∀ k, Q (.ref s.heap.objs.size) { s with heap := s.heap.push (revStr x t ((x.length : Int) - 1)), toks := k }) : wpAny (model prog w) A (call (.type "reversed") [.str x t]) Q E s := by
 refine callType_codes (Q₁ := fun obj s₁ => obj = .ref s.heap.objs.size ∧ ∃ k, s₁ = { s with heap := s.heap.push (revStr x t ((x.length : Int) - 1)), toks := k }) called_reversed (F.typeCall_reversed_1 _) F.entry_object_init
  (code_reversed_str hz fun k => ⟨rfl, k, rfl⟩) ?_
 rintro obj s₁ ⟨rfl, k, rfl⟩
 have hT : ({ s with heap := s.heap.push (revStr x t ((x.length : Int) - 1)), toks := k } : Shared).TypeIs (.ref s.heap.objs.size) "reversed" := ⟨_, Heap.get?_push_size _ rfl, rfl⟩
 exact ⟨hT, F.args_object_init_2 _ _, object_init_meets (T := "reversed") slot_reversed_init.lookup F.made_reversed (by decide) prog w A.in1 _ _ ⟨hT, rfl, h k⟩⟩
theorem wpAny_pyNext_revStr_item {it : Addr} {x : Str} {t : Tok} {i c : Nat} {Q : Option Value → Shared → Prop} (hit : s.heap.IsRevStr it x t (i : Int)) (hi : i < x.length) (hz : x.length ≤ sizeLine) (hx : x.cps[i]? = some c)
  (hQ : ∀ h' u k, h'.IsRevStr it x t ((i : Int) - 1) → Heap.SameBut it s.heap h' → Q (some (.str ⟨#[c]⟩ u)) { s with heap := h', toks := k }) : wpAny (model prog w) A (pyNext (.ref it)) Q E s := by
 obtain ⟨o, ho, hc, hd⟩ := id hit
 unfold pyNext
 refine wpAny_bind (wpAny_attempt (wpAny_callSpecial?_slot (name := Str.ofString "__next__") hit.typeIs F.slot_reversed_next
  (wpAny_call_entry F.slot_reversed_next hit.typeIs F.entry_reversed_next ?_ (F.args_reversed_next_1 _))))
 unfold Builtin.«reversed.__next__»
 refine wpAny_bind (wpAny_of_eq (a := (Value.ref it, [])) rfl ?_)
 try dsimp only
 refine wpAny_bind (wpAny_field ho hd (x := .str x t) rfl ?_)
 refine wpAny_bind (wpAny_field ho hd (x := rawInt (i : Int)) rfl ?_)
 show wpAny _ _ (if (i : Int) < 0 then _ else _) _ _ s
 rw [if_neg (by omega)]
 refine wpAny_bind (wpAny_specialOf (typeIs_str _ _ _) F.slot_str_getitem.lookup ?_)
 rw [if_neg (show ¬ ((some (Value.builtin "str.__getitem__")).isNone = true) from Bool.false_ne_true)]
 refine wpAny_bind (wpAny_mkInt ?_)
 have esz : sizeLine = 16777216 := PySem.sizeLine_eq
 have hget : (seqIndex? (i : Int) x.length).bind (x.cps[·]?) = some c := by
  rw [StrLaws.seqIndex_nonneg (by omega) (by omega)]
  exact hx
 refine wpAny_bind (wpAny_attempt (P.getItem_str (by rw [decide_eq_false (by omega), decide_eq_false (by omega)]; rfl) hget ?_))
 dsimp only
 refine wpAny_bind (wpAny_field ho hd (x := rawInt (i : Int)) rfl ?_)
 show wpAny _ _ (setField (.ref it) 1 (rawInt ((i : Int) - 1)) >>= _) _ _ _
 refine wpAny_bind (wpAny_setField ho hd (by simp) ?_)
 first
 | refine wpAny_pure ⟨_, rfl, wpAny_pure (hQ _ _ _ ?_ (Heap.SameBut.update ..))⟩
 | refine wpAny_bind (wpAny_pure (wpAny_pure ⟨_, rfl, wpAny_pure (hQ _ _ _ ?_ (Heap.SameBut.update ..))⟩))
 exact ⟨_, Heap.get?_update_self _ ho (Obj.isFreed_of_fields (Obj.data_mapFields hd _)), (Obj.cls_mapFields ..).trans hc, by
  rw [Obj.data_mapFields hd]; simp⟩
theorem wpAny_pyNext_revStr_end {it : Addr} {x : Str} {t : Tok} {Q : Option Value → Shared → Prop} (hh : A.handled = none) (hit : s.heap.IsRevStr it x t (-1))
  (hQ : ∀ h', Heap.ExtBut it s.heap h' → Q none { s with heap := h' }) : wpAny (model prog w) A (pyNext (.ref it)) Q E s := by
 obtain ⟨o, ho, hc, hd⟩ := id hit
 unfold pyNext
 refine wpAny_bind (wpAny_attempt (wpAny_callSpecial?_slot (name := Str.ofString "__next__") hit.typeIs F.slot_reversed_next
  (wpAny_call_entry F.slot_reversed_next hit.typeIs F.entry_reversed_next ?_ (F.args_reversed_next_1 _))))
 unfold Builtin.«reversed.__next__»
 refine wpAny_bind (wpAny_of_eq (a := (Value.ref it, [])) rfl ?_)
 try dsimp only
 refine wpAny_bind (wpAny_field ho hd (x := .str x t) rfl ?_)
 refine wpAny_bind (wpAny_field ho hd (x := rawInt (-1)) rfl ?_)
 show wpAny _ _ (if (-1 : Int) < 0 then _ else _) _ _ s
 rw [if_pos (by decide)]
 refine wpAny_bind (wpAny_rule ?_)
 refine wpAny_bind ?_
 show wpAny _ _ (setField (.ref it) 1 (rawInt (-1)) >>= _) _ _ _
 refine wpAny_bind (wpAny_setField ho hd (by simp) ?_)
 have ho1 := Heap.get?_update_self (Obj.mapFields (·.setIfInBounds 1 (rawInt (-1)))) ho (Obj.isFreed_of_fields (Obj.data_mapFields hd _))
 have hd1 := Obj.data_mapFields hd (·.setIfInBounds 1 (rawInt (-1)))
 refine wpAny_setField ho1 hd1 (by simp) ?_
 refine wpAny_bind ?_
 show wpAny _ _ (newExc (.type "StopIteration") [] >>= _) _ _ _
 refine wpAny_bind ?_
 simp only [newExc, newTuple]
 refine wpAny_bind (wpAny_newObj_type ?_ (by size_fits))
 refine wpAny_bind (m := firstArgMember _ _) (wpAny_of_eq (a := Value.none) (by first | rfl | (simp only [firstArgMember]; rfl)) ?_)
 refine wpAny_newObj_type ?_ (by size_fits)
 simp only [raiseNew]
 refine wpAny_bind (wpAny_handled ?_)
 first | rw [show A.in1.handled = none from hh] | rw [hh]
 refine wpAny_bind (wpAny_pure (wpAny_throw ?_))
 refine wpAny_bind (wpAny_isInstance (T := "StopIteration") (b := true) ⟨_, Heap.get?_push_size _ rfl, rfl⟩ isSubtype_stop ?_)
 refine wpAny_pure (hQ _ fun b ob hb e => ?_)
 refine Heap.get?_push_of_some _ (Heap.get?_push_of_some _ ?_)
 exact (Heap.get?_update_other _ _ (Ne.symm hb)).trans ((Heap.get?_update_other _ _ (Ne.symm hb)).trans e)
theorem wpAny_pyIter_revStr {it : Addr} {x : Str} {t : Tok} {i : Int} {Q : Value → Shared → Prop} (hit : s.heap.IsRevStr it x t i) (h : Q (.ref it) s) : wpAny (model prog w) A (pyIter (.ref it)) Q E s := by
 refine wpAny_pyIter_slot hit.typeIs F.slot_reversed_iter (wpAny_call_entry F.slot_reversed_iter hit.typeIs F.entry_reversed_iter ?_ (F.args_reversed_iter_1 _))
 show wpAny _ _ (ret (.ref it)) _ _ s
 exact wpAny_pure ⟨_, rfl, "reversed", _, hit.typeIs, F.slot_reversed_next.lookup, h⟩
end
end PySem
set_option Elab.async false
set_option linter.all false
set_option maxRecDepth 100000
namespace L2
open PySem PySem.Spec PyProof.Rows
theorem turn_revStr {P : Program} {w : World} {K : PySem.W.Frag} {tg : Expr} (l : List Nat) (t : Tok) (it : Addr) (hz : l.length ≤ sizeLine) : Turn P w K tg (Its l.reverse) [it] it (fun i h => i ≤ l.length ∧ h.IsRevStr it (T l) t ((l.length : Int) - 1 - (i : Int))) where
 mem := by simp
 obj := fun i h st b hb => by
  have e : b = it := by simpa using hb
  subst e
  obtain ⟨_, o, e, c, d⟩ := st
  exact ⟨o, e, fun v z => by rw [d] at z; cases z⟩
 keep := fun i h h' st k => by
  obtain ⟨hi, o, e, r⟩ := st
  exact ⟨hi, o, k it (by simp) o e, r⟩
 item := by
  intro X hP hw hK hc i pins s σ H E I hf st hg
  subst hP hw hK
  have hi : i < l.reverse.length := hg
  have hi' : i < l.length := by rw [List.length_reverse] at hi; exact hi
  have hx : l.reverse[i]? = some (l.reverse[i]) := List.getElem?_eq_getElem hi
  have hxl : l[l.length - 1 - i]? = some (l.reverse[i]) := by rw [← hx, List.getElem?_reverse hi']
  obtain ⟨f0, f1, f2, f3, f4, f5⟩ := hf it (by simp)
  have e1 : (l.length : Int) - 1 - (i : Int) = ((l.length - 1 - i : Nat) : Int) := by omega
  have st1 := st.2
  rw [e1] at st1
  refine wpAny_pyNext_revStr_item st1 (by rw [T_len]; omega) (by rw [T_len]; exact hz) (T_at hxl) fun h' u k st' sb => ?_
  have I1 : Inv X pins σ H { s with heap := h', toks := k } := I.turned (t' := k) (fun b o hb e => (sb.2 b hb).trans e) f0 f1 f3 f4 f5
  obtain ⟨o, e, c, d⟩ := id st'
  refine ⟨_, rfl, go_of (s := { s with heap := h', toks := k }) e c d (by decide) ⟨.str (T [l.reverse[i]]), H, I1, ⟨_, rfl⟩, ⟨rfl, _, hx, rfl⟩, ⟨hi', ?_⟩, fun b hb => (hf b hb).1⟩⟩
  have e2 : (l.length : Int) - 1 - ((i + 1 : Nat) : Int) = ((l.length - 1 - i : Nat) : Int) - 1 := by omega
  rw [e2]
  exact st'
 done := by
  intro X hP hw hK hc i pins s σ H E I hf st hg
  subst hP hw hK
  have hi : l.reverse.length ≤ i := hg
  rw [List.length_reverse] at hi
  obtain ⟨f0, f1, f2, f3, f4, f5⟩ := hf it (by simp)
  have e1 : (l.length : Int) - 1 - (i : Int) = -1 := by have := st.1; omega
  have st1 := st.2
  rw [e1] at st1
  exact wpAny_pyNext_revStr_end (I.ok.hd hc) st1 fun h' eb => ⟨rfl, I.turned (t' := s.toks) (fun b o hb e => eb b o hb e) f0 f1 f3 f4 f5⟩
 self := fun _ _ _ _ _ st h => wpAny_pyIter_revStr st.2 h
def iRevS (ta : TA) : TI := fun σ H R => ta σ H fun vs H1 => ∃ l, vs = [.str (T l)] ∧ l.length ≤ sizeLine ∧ R (Its l.reverse) H1
theorem pi_revS {X : Cx} {tg a : Expr} {ta : TA} {p pos : Pos} (hg : Gl X "reversed") (hm : X.mg "reversed" = none) (ha : PA X [a] ta) (hs : starEach [a] X.env = [(false, eval a X.env)] := by rfl) : PI X tg (.Call (.Name "reversed" p) [a] [] pos) (iRevS ta) := by
 intro pins s σ H R I h
 refine Call_ (ld_blt I hg hm boot_reversed (PyProof.Rows.callWith_type1 (thn (ha pos pins s σ H _ I h) fun us s1 ⟨vs, H1, I1, r1, q1⟩ => ?_) hs rfl))
 refine gate' fun gG hgG => ?_
 obtain ⟨l, rfl, hz, q⟩ := q1
 obtain ⟨u, rfl, ru⟩ := vals1 r1
 obtain ⟨t, rfl⟩ := (show ∃ t, u = Value.str (T l) t from ru)
 refine hgG.go ?_
 clear hgG
 refine call_reversed_str (by rw [T_len]; exact hz) fun k => ?_
 have I2 : Inv X pins σ H1 { s1 with heap := s1.heap.push (revStr (T l) t (((T l).length : Int) - 1)), toks := k } := I1.kept fun b o e => Heap.get?_push_of_some _ e
 have st : ({ s1 with heap := s1.heap.push (revStr (T l) t (((T l).length : Int) - 1)), toks := k } : Shared).heap.IsRevStr s1.heap.objs.size (T l) t ((l.length : Int) - 1 - ((0 : Nat) : Int)) := by
  refine ⟨_, Heap.get?_push_size _ rfl, rfl, ?_⟩
  show Data.fields #[.str (T l) t, rawInt (((T l).length : Int) - 1)] = Data.fields #[.str (T l) t, rawInt ((l.length : Int) - 1 - ((0 : Nat) : Int))]
  rw [T_len]
  simp
 refine wpAny_pyIter_revStr st ?_
 refine ⟨s1.heap.objs.size, [s1.heap.objs.size], _, _, H1, rfl, I2, turn_revStr l t _ hz, ⟨Nat.zero_le _, st⟩, fun b hb => ?_, q⟩
 have e : b = s1.heap.objs.size := by simpa using hb
 subst e
 exact I1.fpOk (Nat.le_refl _) (I1.hok.fresh (Nat.le_refl _))
end L2
set_option Elab.async false
set_option linter.all false
set_option maxRecDepth 100000
namespace L2
open PySem PySem.Spec PyProof.Rows
def KDict (K : PySem.W.Frag) (w : World) (a : Addr) (es : Array DictEntry) : Prop := ∃ (n : Nat), K.lookup a = some ⟨.type "dict", none, .dict es n, #[]⟩ ∧ ∀ e ∈ es, ∃ x t, e.key = .str x t ∧ e.hash = hashStr w x
def tKGet (K : PySem.W.Frag) (w : World) (td ty : TE) : TE := fun σ H Q => td σ H fun x H1 => ty σ H1 fun y H2 => ∃ a es z u v, x = .ref a ∧ y = .str z ∧ KDict K w a es ∧ findBy Value.isStrOf es z = some u ∧ RelV v u ∧ Q v H2
section
variable {X : Cx} {o i : Expr} {pos : Pos} {td ty : TE}
theorem pe_kget (ho : PE X o td) (hi : PE X i ty) (hs : NoSl i) : PE X (.Subscript o i pos) (tKGet X.K X.w td ty) := by
 intro pins s σ H Q I h
 refine subD_of PySem.F.slot_dict_getitem.lookup hs (thn (ho pins s σ H _ I h) fun u s1 ⟨x, H1, I1, rx, q1⟩ => thn (hi pins s1 σ H1 _ I1 q1) fun iv s2 ⟨y, H2, I2, ry, q2⟩ => ?_)
 refine gate' fun gG hgG => ?_
 obtain ⟨a, es, z, u', v, rfl, rfl, ⟨n, hk, hkeys⟩, hf, rv, q⟩ := q2
 obtain rfl : u = Value.ref a := rx
 obtain ⟨t, rfl⟩ := (show ∃ t, iv = Value.str z t from ry)
 refine hgG.go ?_
 clear hgG
 have hg := I2.kIn a _ hk
 have hm : s2.heap.MapOf (strKind X.prog X.w) a (findBy (strKind X.prog X.w).is es) := ⟨_, es, n, hg, ⟨rfl, rfl, rfl⟩, rfl, fun e he => by
  obtain ⟨x, t, e1, e2⟩ := hkeys e he
  refine ⟨x, ?_, e2⟩
  show Value.isStrOf x e.key = true
  rw [e1]
  simp [Value.isStrOf], fun _ => rfl⟩
 refine ⟨⟨_, hg, rfl⟩, wpAny_getItem_of (knd := strKind X.prog X.w) (k := z) ?_ hm hf ?_⟩
 ·show Value.isStrOf z (Value.str z t) = true
  simp [Value.isStrOf]
 ·exact ⟨v, H2, I2.tok _, rv, q⟩
end
end L2
namespace WM
def Lt (c : Nat) : Prop := c = 110 ∨ c = 119 ∨ c = 115 ∨ c = 101
def IsW (l : List Nat) : Prop := ∀ c ∈ l, Lt c
theorem isW_nil : IsW [] := fun _ h => nomatch h
theorem isW_cons {c : Nat} {l : List Nat} : IsW (c :: l) ↔ Lt c ∧ IsW l := by
 constructor
 ·intro h
  exact ⟨h c List.mem_cons_self, fun d hd => h d (List.mem_cons_of_mem _ hd)⟩
 ·rintro ⟨h1, h2⟩ d hd
  rcases List.mem_cons.mp hd with rfl | hd
  ·exact h1
  ·exact h2 d hd
theorem isW_append {a b : List Nat} : IsW (a ++ b) ↔ IsW a ∧ IsW b := by
 constructor
 ·intro h
  exact ⟨fun c hc => h c (List.mem_append_left _ hc), fun c hc => h c (List.mem_append_right _ hc)⟩
 ·rintro ⟨h1, h2⟩ c hc
  rcases List.mem_append.mp hc with h | h
  ·exact h1 c h
  ·exact h2 c h
theorem isW_reverse {a : List Nat} : IsW a.reverse ↔ IsW a := by
 constructor
 ·intro h c hc
  exact h c (List.mem_reverse.mpr hc)
 ·intro h c hc
  exact h c (List.mem_reverse.mp hc)
theorem isW_replicate {n c : Nat} (h : Lt c) : IsW (List.replicate n c) := by
 intro d hd
 rw [(List.mem_replicate.mp hd).2]
 exact h
abbrev Pt := Int × Int
def stepP (p : Pt) (c : Nat) : Pt :=
 if c = 110 then (p.1, p.2 + 1) else if c = 101 then (p.1 + 1, p.2) else if c = 115 then (p.1, p.2 - 1) else (p.1 - 1, p.2)
def goP (p : Pt) (l : List Nat) : Pt := l.foldl stepP p
def posOf (l : List Nat) : Pt := goP (0, 0) l
def placesP : Pt → List Nat → List Pt
 | p, [] => [p]
 | p, c :: r => p :: placesP (stepP p c) r
def plOf (l : List Nat) : List Pt := placesP (0, 0) l
theorem goP_cons (p : Pt) (c : Nat) (l : List Nat) : goP p (c :: l) = goP (stepP p c) l := rfl
theorem goP_append (p : Pt) (a b : List Nat) : goP p (a ++ b) = goP (goP p a) b := List.foldl_append
theorem goP_snoc (p : Pt) (l : List Nat) (c : Nat) : goP p (l ++ [c]) = stepP (goP p l) c := by
 rw [goP_append]
 rfl
theorem placesP_snoc : ∀ (l : List Nat) (p : Pt) (c : Nat), placesP p (l ++ [c]) = placesP p l ++ [stepP (goP p l) c]
 | [], p, c => rfl
 | d :: r, p, c => by
  show p :: placesP (stepP p d) (r ++ [c]) = p :: placesP (stepP p d) r ++ [stepP (goP (stepP p d) r) c]
  rw [placesP_snoc r]
  rfl
theorem placesP_length : ∀ (l : List Nat) (p : Pt), (placesP p l).length = l.length + 1
 | [], _ => rfl
 | c :: r, p => by
  show (placesP (stepP p c) r).length + 1 = r.length + 1 + 1
  rw [placesP_length r]
theorem placesP_last : ∀ (l : List Nat) (p : Pt), ∃ pre, placesP p l = pre ++ [goP p l]
 | [], p => ⟨[], rfl⟩
 | c :: r, p => by
  obtain ⟨pre, e⟩ := placesP_last r (stepP p c)
  exact ⟨p :: pre, by show p :: placesP (stepP p c) r = _; rw [e]; rfl⟩
def vec (c : Nat) : Pt := if c = 110 then (0, 1) else if c = 101 then (1, 0) else if c = 115 then (0, -1) else (-1, 0)
theorem stepP_vec (p : Pt) (c : Nat) : stepP p c = (p.1 + (vec c).1, p.2 + (vec c).2) := by
 unfold stepP vec
 split
 ·simp
 ·split
  ·simp
  ·split
   ·refine Prod.ext ?_ ?_
    ·simp
    ·show p.2 - 1 = p.2 + -1
     omega
   ·refine Prod.ext ?_ ?_
    ·show p.1 - 1 = p.1 + -1
     omega
    ·simp
theorem goP_add : ∀ (l : List Nat) (p : Pt), goP p l = (p.1 + (posOf l).1, p.2 + (posOf l).2)
 | [], p => by
  show p = (p.1 + 0, p.2 + 0)
  simp
 | c :: r, p => by
  have h1 := goP_add r (stepP p c)
  have h2 := goP_add r (stepP (0, 0) c)
  have e1 : goP p (c :: r) = goP (stepP p c) r := rfl
  have e2 : posOf (c :: r) = goP (stepP (0, 0) c) r := rfl
  rw [e1, e2, h1, h2, stepP_vec, stepP_vec (0, 0)]
  refine Prod.ext ?_ ?_
  ·show p.1 + (vec c).1 + (posOf r).1 = p.1 + (0 + (vec c).1 + (posOf r).1)
   omega
  ·show p.2 + (vec c).2 + (posOf r).2 = p.2 + (0 + (vec c).2 + (posOf r).2)
   omega
theorem posOf_cons (c : Nat) (r : List Nat) : posOf (c :: r) = ((vec c).1 + (posOf r).1, (vec c).2 + (posOf r).2) := by
 have h := goP_add r (stepP (0, 0) c)
 have e2 : posOf (c :: r) = goP (stepP (0, 0) c) r := rfl
 rw [e2, h, stepP_vec]
 refine Prod.ext ?_ ?_
 ·show 0 + (vec c).1 + (posOf r).1 = (vec c).1 + (posOf r).1
  omega
 ·show 0 + (vec c).2 + (posOf r).2 = (vec c).2 + (posOf r).2
  omega
theorem posOf_append (a b : List Nat) : posOf (a ++ b) = ((posOf a).1 + (posOf b).1, (posOf a).2 + (posOf b).2) := by
 have e : posOf (a ++ b) = goP (posOf a) b := goP_append _ _ _
 rw [e, goP_add]
def cntC (c : Nat) : List Nat → Nat
 | [] => 0
 | d :: r => (if d = c then 1 else 0) + cntC c r
theorem cntC_cons (c d : Nat) (r : List Nat) : cntC c (d :: r) = (if d = c then 1 else 0) + cntC c r := rfl
theorem posOf_cnt : ∀ {l : List Nat}, IsW l → posOf l = ((cntC 101 l : Int) - (cntC 119 l : Int), (cntC 110 l : Int) - (cntC 115 l : Int))
 | [], _ => rfl
 | c :: r, h => by
  obtain ⟨h1, h2⟩ := isW_cons.mp h
  rw [posOf_cons, posOf_cnt h2, cntC_cons, cntC_cons, cntC_cons, cntC_cons]
  rcases h1 with rfl | rfl | rfl | rfl
  all_goals
   refine Prod.ext ?_ ?_
   ·simp [vec]
    try omega
   ·simp [vec]
    try omega
def ix (c : Nat) : Nat := if c = 110 then 0 else if c = 119 then 1 else if c = 115 then 2 else 3
def lw (i : Nat) : Nat := if i = 0 then 110 else if i = 1 then 119 else if i = 2 then 115 else 101
def tn (q : Nat) (c : Nat) : Nat := lw ((ix c + q) % 4)
def turnL (q : Nat) (l : List Nat) : List Nat := l.map (tn q)
theorem lt_lw (i : Nat) : Lt (lw i) := by
 unfold lw Lt
 split
 ·exact .inl rfl
 ·split
  ·exact .inr (.inl rfl)
  ·split
   ·exact .inr (.inr (.inl rfl))
   ·exact .inr (.inr (.inr rfl))
theorem lt_tn (q c : Nat) : Lt (tn q c) := lt_lw _
theorem isW_turnL (q : Nat) (l : List Nat) : IsW (turnL q l) := by
 intro c hc
 obtain ⟨d, _, rfl⟩ := List.mem_map.mp hc
 exact lt_tn q d
theorem ix_lt (c : Nat) : ix c < 4 := by
 unfold ix
 split
 ·decide
 ·split
  ·decide
  ·split <;> decide
theorem ix_lw {i : Nat} (h : i < 4) : ix (lw i) = i := by
 rcases (by omega : i = 0 ∨ i = 1 ∨ i = 2 ∨ i = 3) with rfl | rfl | rfl | rfl <;> rfl
theorem lw_ix {c : Nat} (h : Lt c) : lw (ix c) = c := by
 rcases h with rfl | rfl | rfl | rfl <;> rfl
theorem tn_tn (p q : Nat) (c : Nat) : tn p (tn q c) = tn ((p + q) % 4) c := by
 unfold tn
 rw [ix_lw (Nat.mod_lt _ (by decide))]
 congr 1
 omega
theorem tn_zero {c : Nat} (h : Lt c) : tn 0 c = c := by
 unfold tn
 rw [Nat.add_zero, Nat.mod_eq_of_lt (ix_lt c)]
 exact lw_ix h
theorem turnL_turnL {p q : Nat} {l : List Nat} (h : IsW l) (hpq : (p + q) % 4 = 0) : turnL p (turnL q l) = l := by
 unfold turnL
 rw [List.map_map]
 have e : ∀ c ∈ l, (tn p ∘ tn q) c = c := by
  intro c hc
  show tn p (tn q c) = c
  rw [tn_tn, hpq, tn_zero (h c hc)]
 have := List.map_congr_left e
 rw [this, List.map_id']
theorem turnL_zero {l : List Nat} (h : IsW l) : turnL 0 l = l := by
 have e : ∀ c ∈ l, tn 0 c = c := fun c hc => tn_zero (h c hc)
 unfold turnL
 rw [List.map_congr_left e, List.map_id']
def rot (q : Nat) (p : Pt) : Pt := if q = 0 then p else if q = 1 then (-p.2, p.1) else if q = 2 then (-p.1, -p.2) else (p.2, -p.1)
theorem vec_tn {q c : Nat} (hq : q < 4) (h : Lt c) : vec (tn q c) = rot q (vec c) := by
 rcases (by omega : q = 0 ∨ q = 1 ∨ q = 2 ∨ q = 3) with rfl | rfl | rfl | rfl <;>
  (rcases h with rfl | rfl | rfl | rfl <;> decide)
theorem rot_add {q : Nat} (a b : Pt) : rot q (a.1 + b.1, a.2 + b.2) = ((rot q a).1 + (rot q b).1, (rot q a).2 + (rot q b).2) := by
 unfold rot
 split
 ·rfl
 ·split
  ·refine Prod.ext ?_ ?_
   ·show -(a.2 + b.2) = -a.2 + -b.2
    omega
   ·rfl
  ·split
   ·refine Prod.ext ?_ ?_
    ·show -(a.1 + b.1) = -a.1 + -b.1
     omega
    ·show -(a.2 + b.2) = -a.2 + -b.2
     omega
   ·refine Prod.ext ?_ ?_
    ·rfl
    ·show -(a.1 + b.1) = -a.1 + -b.1
     omega
theorem rot_zero (q : Nat) : rot q (0, 0) = (0, 0) := by
 unfold rot
 split
 ·rfl
 ·split
  ·rfl
  ·split <;> rfl
theorem posOf_turnL {q : Nat} (hq : q < 4) : ∀ {l : List Nat}, IsW l → posOf (turnL q l) = rot q (posOf l)
 | [], _ => by
  show ((0, 0) : Pt) = rot q (0, 0)
  rw [rot_zero]
 | c :: r, h => by
  obtain ⟨h1, h2⟩ := isW_cons.mp h
  have e : turnL q (c :: r) = tn q c :: turnL q r := rfl
  rw [e, posOf_cons, posOf_cons, posOf_turnL hq h2, vec_tn hq h1, rot_add]
def backL (l : List Nat) : List Nat := turnL 2 l.reverse
def mir (c : Nat) : Nat := if c = 101 then 119 else if c = 119 then 101 else c
def mirL (l : List Nat) : List Nat := l.map mir
theorem lt_mir {c : Nat} (h : Lt c) : Lt (mir c) := by
 rcases h with rfl | rfl | rfl | rfl
 ·exact .inl rfl
 ·exact .inr (.inr (.inr rfl))
 ·exact .inr (.inr (.inl rfl))
 ·exact .inr (.inl rfl)
theorem isW_mirL {l : List Nat} (h : IsW l) : IsW (mirL l) := by
 intro c hc
 obtain ⟨d, hd, rfl⟩ := List.mem_map.mp hc
 exact lt_mir (h d hd)
theorem mir_mir {c : Nat} (h : Lt c) : mir (mir c) = c := by
 rcases h with rfl | rfl | rfl | rfl <;> rfl
theorem mirL_mirL {l : List Nat} (h : IsW l) : mirL (mirL l) = l := by
 unfold mirL
 rw [List.map_map]
 have e : ∀ c ∈ l, (mir ∘ mir) c = c := fun c hc => mir_mir (h c hc)
 rw [List.map_congr_left e, List.map_id']
theorem isW_backL (l : List Nat) : IsW (backL l) := isW_turnL _ _
theorem turnL_reverse (q : Nat) (l : List Nat) : turnL q l.reverse = (turnL q l).reverse := by
 unfold turnL
 rw [List.map_reverse]
theorem backL_backL {l : List Nat} (h : IsW l) : backL (backL l) = l := by
 unfold backL
 rw [← turnL_reverse, List.reverse_reverse]
 exact turnL_turnL h rfl
theorem posOf_reverse : ∀ l : List Nat, posOf l.reverse = posOf l
 | [] => rfl
 | c :: r => by
  rw [List.reverse_cons, posOf_append, posOf_reverse r, posOf_cons, posOf_cons]
  show ((posOf r).1 + ((vec c).1 + 0), (posOf r).2 + ((vec c).2 + 0)) = _
  refine Prod.ext ?_ ?_
  ·show (posOf r).1 + ((vec c).1 + 0) = (vec c).1 + (posOf r).1
   omega
  ·show (posOf r).2 + ((vec c).2 + 0) = (vec c).2 + (posOf r).2
   omega
theorem posOf_backL {l : List Nat} (h : IsW l) : posOf (backL l) = (-(posOf l).1, -(posOf l).2) := by
 unfold backL
 rw [posOf_turnL (by decide) (isW_reverse.mpr h), posOf_reverse]
 rfl
theorem posOf_replicate (n c : Nat) : posOf (List.replicate n c) = ((n : Int) * (vec c).1, (n : Int) * (vec c).2) := by
 induction n with
 | zero => 
  show ((0, 0) : Pt) = _
  simp
 | succ n ih =>
  rw [List.replicate_succ, posOf_cons, ih]
  refine Prod.ext ?_ ?_
  ·show (vec c).1 + (n : Int) * (vec c).1 = ((n + 1 : Nat) : Int) * (vec c).1
   rw [Int.natCast_add, Int.add_mul]
   simp
   omega
  ·show (vec c).2 + (n : Int) * (vec c).2 = ((n + 1 : Nat) : Int) * (vec c).2
   rw [Int.natCast_add, Int.add_mul]
   simp
   omega
def rotL (k : Nat) (l : List Nat) : List Nat := l.drop k ++ l.take k
theorem isW_rotL {k : Nat} {l : List Nat} (h : IsW l) : IsW (rotL k l) := by
 refine isW_append.mpr ⟨fun c hc => h c (List.mem_of_mem_drop hc), fun c hc => h c (List.mem_of_mem_take hc)⟩
theorem rotL_length (k : Nat) (l : List Nat) : (rotL k l).length = l.length := by
 unfold rotL
 rw [List.length_append, List.length_drop, List.length_take]
 omega
theorem mod_shift (i : Nat) (b : Int) (n : Nat) (hn : 0 < n) : ((i : Int) + b) % (n : Int) = (((i + (b % (n : Int)).toNat) % n : Nat) : Int) := by
 have h0 : 0 ≤ b % (n : Int) := Int.emod_nonneg _ (by omega)
 have e : (((i + (b % (n : Int)).toNat) % n : Nat) : Int) = ((i : Int) + (b % (n : Int))) % (n : Int) := by
  rw [Int.natCast_emod, Int.natCast_add, Int.toNat_of_nonneg h0]
 rw [e, Int.add_emod, Int.add_emod (i : Int) (b % (n : Int)), Int.emod_emod_of_dvd b (Int.dvd_refl _)]
end WM
set_option Elab.async false
set_option linter.all false
set_option maxRecDepth 100000
set_option maxHeartbeats 4000000
namespace SW
open PySem L2 WM
theorem lit_n : (Str.ofString "n") = T [110] := by decide +kernel
theorem lit_e : (Str.ofString "e") = T [101] := by decide +kernel
theorem lit_s : (Str.ofString "s") = T [115] := by decide +kernel
theorem lit_w : (Str.ofString "w") = T [119] := by decide +kernel
theorem lit_0 : (Str.ofString "") = T [] := by decide +kernel
theorem lit_nwse : (Str.ofString "nwse") = T [110, 119, 115, 101] := by decide +kernel
theorem strT {l m : List Nat} : decide (V.str (T l) = V.str (T m)) = decide (l = m) := by
 by_cases h : l = m
 ·subst h
  rw [decide_eq_true rfl, decide_eq_true rfl]
 ·rw [decide_eq_false h, decide_eq_false fun z => h (T_inj (V.str.inj z))]
theorem occ_ix {c : Nat} (h : Lt c) : ∃ rest, Builtin.Str.occurrences (T [110, 119, 115, 101]) (T [c]) 0 (T [110, 119, 115, 101]).length 1 = ix c :: rest := by
 rcases h with rfl | rfl | rfl | rfl
 ·exact ⟨[], by decide +kernel⟩
 ·exact ⟨[], by decide +kernel⟩
 ·exact ⟨[], by decide +kernel⟩
 ·exact ⟨[], by decide +kernel⟩
theorem occ_in {c : Nat} (h : Lt c) : (Builtin.Str.occurrences (T [110, 119, 115, 101]) (T [c]) 0 (T [110, 119, 115, 101]).length 1).isEmpty = false := by
 obtain ⟨rest, e⟩ := occ_ix h
 rw [e]
 rfl
theorem lw_at {i : Nat} (h : i < 4) : ([110, 119, 115, 101] : List Nat)[i]? = some (lw i) := by
 rcases (by omega : i = 0 ∨ i = 1 ∨ i = 2 ∨ i = 3) with rfl | rfl | rfl | rfl <;> rfl
def compB (N : List Str) (fsc sc : Scope) : Bool :=
 decide (sc.kind = .function) && sc.names.all (fun y => decide (y.2 ≠ .cell)) && sc.names.all (fun y => decide (y.2 = .local → sc.names.lookup y.1 = some .local)) &&
  sc.names.all (fun y => decide (y.2 = .free → fsc.names.lookup y.1 = some .cell ∨ fsc.names.lookup y.1 = some .free)) && N.all fun x => decide (sc.names.lookup x ≠ some .local)
theorem compSc_of {X : Cx} {sc : Scope} (N : List Str) (fsc : Scope) (hN : X.N = N) (hs : X.env.scope = fsc) (hb : compB N fsc sc = true) : CompSc X sc := by
 unfold compB at hb
 simp only [Bool.and_eq_true, List.all_eq_true, decide_eq_true_eq] at hb
 obtain ⟨⟨⟨⟨h1, h2⟩, h3⟩, h4⟩, h5⟩ := hb
 refine ⟨h1, h2, h3, fun y hy e => ?_, fun x hx => ?_⟩
 ·have := h4 y hy e
  rw [← hs] at this
  exact this
 ·rw [hN] at hx
  exact h5 x hx
theorem nd_of {X : Cx} (N : List Str) (hN : X.N = N) (hb : N.Nodup) : X.N.Nodup := by
 rw [hN]
 exact hb
structure Df (K : PySem.W.Frag) (mg : Str → Option Value) (x : Str) (st : Stmt) (ps : List Str) (f : Addr) (fd : FuncData) : Prop where
 fn : Fun K x x st f fd
 bi : Binds K fd ps []
 at_ : mg x = some (.ref f)
structure Txt (K : PySem.W.Frag) (mg : Str → Option Value) : Prop where
 isi : mg "isinstance" = none
 str : mg "str" = none
 int : mg "int" = none
 bool : mg "bool" = none
 lw : ∃ t, mg "LEFTWARD" = some (.str "nwse" t)
theorem kit_str (K : PySem.W.Frag) : PySem.W.kitOne K (.type "str") (.type "str") = some true := by
 unfold PySem.W.kitOne
 rw [if_pos (by decide +kernel)]
theorem kit_int_bool (K : PySem.W.Frag) : PySem.W.kitOne K (.type "int") (.type "bool") = some false := by
 unfold PySem.W.kitOne
 rw [if_neg (by decide +kernel)]
 first | rfl | decide +kernel
theorem kit_int (K : PySem.W.Frag) : PySem.W.kitOne K (.type "int") (.type "int") = some true := by
 unfold PySem.W.kitOne
 rw [if_pos (by decide +kernel)]
section
variable {P : Program} {w : World} {K : PySem.W.Frag} {mg : Str → Option Value} {base : Heap}
def spCheckWalk : Sp := fun vs H Q _ => ∃ l, vs = [.str (T l)] ∧ IsW l ∧ Q .non H
def spCheckNumber : Sp := fun vs H Q _ => ∃ i, vs = [.int i] ∧ Q .non H
def spStepped (K : PySem.W.Frag) : Sp := fun vs H Q _ => ∃ (a : Addr) (p : Pt) (c : Nat), vs = [.ref a, .str (T [c])] ∧ Lt c ∧ SqT K H a [.int p.1, .int p.2] ∧ ∀ b, H b = none → Q (.ref b) (upd H b (.tup [.int (stepP p c).1, .int (stepP p c).2]))
theorem two_le : 2 ≤ sizeLine := by decide
abbrev Tups (H : Hp) : List Addr → List Pt → Prop := Paired fun a (q : Pt) => H a = some (.tup [.int q.1, .int q.2])
theorem Tups.mono {H H' : Hp} {as : List Addr} {ps : List Pt} (h : Tups H as ps) (s : ∀ b xs, H b = some (.tup xs) → H' b = some (.tup xs)) : Tups H' as ps := Paired.mapP h fun a q e => s a _ e
def PlAt (H : Hp) (d : Addr) (ps : List Pt) : Prop := ∃ as : List Addr, H d = some (.lst (as.map V.ref)) ∧ Tups H as ps
theorem PlAt.same {H H' : Hp} {d : Addr} {ps : List Pt} (h : PlAt H d ps) (s : Same H H') : PlAt H' d ps := by
 obtain ⟨as, h1, h2⟩ := h
 exact ⟨as, s _ _ h1, h2.mono fun b xs e => s _ _ e⟩
def spPlaces : Sp := fun vs H Q _ => ∃ l, vs = [.str (T l)] ∧ IsW l ∧ l.length ≤ 1000 ∧ ∀ d H', H d = none → Same H H' → PlAt H' d (plOf l) → Q (.ref d) H'
def spEnd : Sp := fun vs H Q _ => ∃ l, vs = [.str (T l)] ∧ IsW l ∧ ∀ b, H b = none → Q (.ref b) (upd H b (.tup [.int (posOf l).1, .int (posOf l).2]))
theorem cntL_eq (c : Nat) : ∀ l : List Nat, cntL c l = cntC c l
 | [] => rfl
 | d :: r => by
  show (if d = c then 1 else 0) + cntL c r = (if d = c then 1 else 0) + cntC c r
  rw [cntL_eq c r]
end
section
variable {P : Program} {w : World} {K : PySem.W.Frag} {mg : Str → Option Value} {base : Heap}
def spTurned : Sp := fun vs H Q _ => ∃ (c : Nat) (q : Int), vs = [.str (T [c]), .int q] ∧ Lt c ∧ Q (.str (T [tn (q % 4).toNat c])) H
theorem turn_ix (c : Nat) (q : Int) : (((ix c : Nat) : Int) + q) % 4 = (((ix c + (q % 4).toNat) % 4 : Nat) : Int) := mod_shift (ix c) q 4 (by decide)
def spTakenBack : Sp := fun vs H Q _ => ∃ (c : Nat), vs = [.str (T [c])] ∧ Lt c ∧ Q (.str (T [tn 2 c])) H
def spQuartered : Sp := fun vs H Q _ => ∃ (l : List Nat) (b : Int), vs = [.str (T l), .int b] ∧ IsW l ∧ l.length ≤ 1000 ∧ ∀ H', Same H H' → Q (.str (T (turnL (b % 4).toNat l))) H'
theorem mod4 (b : Int) : (b % 4 % 4).toNat = (b % 4).toNat := by rw [Int.emod_emod_of_dvd b (Int.dvd_refl 4)]
end
def mirEs (w : World) (t1 t2 t3 t4 u1 u2 u3 u4 : Tok) : Array DictEntry := #[⟨PyData.keyHash w.params "n", .str "n" t1, .str "n" u1⟩, ⟨PyData.keyHash w.params "e", .str "e" t2, .str "w" u2⟩, ⟨PyData.keyHash w.params "s", .str "s" t3, .str "s" u3⟩, ⟨PyData.keyHash w.params "w", .str "w" t4, .str "e" u4⟩]
structure TxtM (K : PySem.W.Frag) (mg : Str → Option Value) (w : World) : Prop where
 at_ : ∃ a n t1 t2 t3 t4 u1 u2 u3 u4, mg "MIRROR" = some (.ref a) ∧ K.lookup a = some ⟨.type "dict", none, .dict (mirEs w t1 t2 t3 t4 u1 u2 u3 u4) n, #[]⟩
theorem mir_find {w : World} {t1 t2 t3 t4 u1 u2 u3 u4 : Tok} {c : Nat} (h : Lt c) : ∃ u, findBy Value.isStrOf (mirEs w t1 t2 t3 t4 u1 u2 u3 u4) (T [c]) = some u ∧ RelV (.str (T [mir c])) u := by
 rcases h with rfl | rfl | rfl | rfl
 ·exact ⟨.str "n" u1, rfl, u1, by rw [lit_n]; rfl⟩
 ·exact ⟨.str "e" u4, rfl, u4, by rw [lit_e]; rfl⟩
 ·exact ⟨.str "s" u3, rfl, u3, by rw [lit_s]; rfl⟩
 ·exact ⟨.str "w" u2, rfl, u2, by rw [lit_w]; rfl⟩
section
variable {P : Program} {w : World} {K : PySem.W.Frag} {mg : Str → Option Value} {base : Heap}
def spMirrored : Sp := fun vs H Q _ => ∃ (l : List Nat), vs = [.str (T l)] ∧ IsW l ∧ l.length ≤ 1000 ∧ ∀ H', Same H H' → Q (.str (T (mirL l))) H'
def spBackwards : Sp := fun vs H Q _ => ∃ (l : List Nat), vs = [.str (T l)] ∧ IsW l ∧ l.length ≤ 1000 ∧ ∀ H', Same H H' → Q (.str (T (backL l))) H'
theorem eqv_pt (p q : Pt) : PyData.eqv (.tuple [.int p.1, .int p.2]) (.tuple [.int q.1, .int q.2]) = decide (p = q) := by
 by_cases h : p = q
 ·subst h
  simp [PyData.eqv, PyData.eqvAll]
 ·rw [decide_eq_false h]
  have : ¬ (p.1 = q.1 ∧ p.2 = q.2) := fun z => h (Prod.ext z.1 z.2)
  simp [PyData.eqv, PyData.eqvAll]
  intro e1 e2
  exact this ⟨e1, e2⟩
theorem shaped_pt (p : Pt) : SeqAt.shaped (.tuple [.int p.1, .int p.2]) = true := rfl
theorem dat_pt {H : Hp} {a : Addr} {p : Pt} (h : H a = some (.tup [.int p.1, .int p.2])) : DatV K H (.ref a) (.tuple [.int p.1, .int p.2]) := .tup (SqT.of h) (.cons (.int _) (.cons (.int _) .nil))
def spCheckClosed : Sp := fun vs H Q _ => ∃ (l : List Nat), vs = [.str (T l)] ∧ IsW l ∧ posOf l = (0, 0) ∧ ∀ H', Same H H' → Q .non H'
def spBegun : Sp := fun vs H Q _ => ∃ (l : List Nat) (b : Int), vs = [.str (T l), .int b] ∧ IsW l ∧ l.length ≤ 1000 ∧ posOf l = (0, 0) ∧ ∀ H', Same H H' → Q (.str (T (rotL (b % (l.length : Int)).toNat l))) H'
theorem cut_from {l : List Nat} {k : Nat} (h : k ≤ l.length) : cutL l (some (k : Int)) none = l.drop k := by
 unfold cutL
 rw [HT.sIx_nat, HT.sIx_none, Nat.min_eq_left h]
 exact List.take_of_length_le (by rw [List.length_drop]; exact Nat.le_refl _)
theorem cut_to {l : List Nat} {k : Nat} (h : k ≤ l.length) : cutL l none (some (k : Int)) = l.take k := by
 unfold cutL
 rw [HT.sIx_nat, HT.sIx_none, Nat.min_eq_left h]
 rfl
end
section
variable {X : Cx} {o i e tg : Expr} {pos pos' : Pos} {td ty te : TE} {g : TG} {st : Stmt} {rest : List Stmt} {t u : TS}
end
section
variable {P : Program} {w : World} {K : PySem.W.Frag} {mg : Str → Option Value} {base : Heap}
theorem same_new {H : Hp} {b : Addr} {o : HO} (h : H b = none) : Same H (upd H b o) := same_upd h (Same.refl _)
theorem tups_last {H : Hp} {as : List Addr} {pre : List Pt} {p : Pt} (h : Tups H as (pre ++ [p])) : ∃ as' q, as = as' ++ [q] ∧ H q = some (.tup [.int p.1, .int p.2]) := by
 induction pre generalizing as with
 | nil =>
  change Tups H as [p] at h
  cases h with | cons h t =>
  cases t
  exact ⟨[], _, rfl, h⟩
 | cons x pre ih =>
  change Tups H as (x :: (pre ++ [p])) at h
  cases h with | cons h t =>
  obtain ⟨as', q, rfl, hq⟩ := ih t
  exact ⟨_ :: as', q, rfl, hq⟩
end
section
variable {P : Program} {w : World} {K : PySem.W.Frag} {mg : Str → Option Value} {base : Heap}
end
def ptD (p : Pt) : PyData := .tuple [.int p.1, .int p.2]
theorem lay_pl : ∀ ps : List Pt, PyData.canLayAll0 (ps.map ptD) = true
 | [] => rfl
 | p :: r => by
  rw [List.map_cons]
  show (PyData.canLay0 (ptD p) && PyData.canLayAll0 (r.map ptD)) = true
  rw [lay_pl r]
  rfl
theorem deep_pl : ∀ ps : List Pt, PyData.depthAll (ps.map ptD) ≤ 1
 | [] => Nat.zero_le _
 | p :: r => by
  have ih := deep_pl r
  have e : PyData.depth (ptD p) = 1 := rfl
  simp only [List.map_cons, PyData.depthAll, e]
  omega
theorem shaped_pl (ps : List Pt) : SeqAt.shaped (.list (ps.map ptD)) = true := by
 have h1 := lay_pl ps
 have h2 := deep_pl ps
 simp only [SeqAt.shaped, PyData.canLay0, PyData.depth, h1, Bool.true_and, decide_eq_true_eq]
 exact decide_eq_true (by omega)
theorem eqv_pl : ∀ ps : List Pt, PyData.eqvAll (ps.map ptD) (ps.map ptD) = true
 | [] => rfl
 | p :: r => by
  have e : PyData.eqv (ptD p) (ptD p) = true := (eqv_pt p p).trans (decide_eq_true rfl)
  simp only [List.map_cons, PyData.eqvAll, e, eqv_pl r, Bool.and_self]
theorem eqv_pls (ps : List Pt) : PyData.eqv (.list (ps.map ptD)) (.list (ps.map ptD)) = true := by
 simp only [PyData.eqv]
 exact eqv_pl ps
theorem dats_pl {K : PySem.W.Frag} {H : Hp} {as : List Addr} {ps : List Pt} (h : Tups H as ps) : DatVs K H (as.map V.ref) (ps.map ptD) := by
 induction h with
 | nil => exact .nil
 | cons h t ih => exact .cons (dat_pt h) ih
theorem dat_pl {K : PySem.W.Frag} {H : Hp} {d : Addr} {ps : List Pt} (h : PlAt H d ps) : DatV K H (.ref d) (.list (ps.map ptD)) := by
 obtain ⟨as, h1, h2⟩ := h
 exact .lst (SqL.of h1) (dats_pl h2)
theorem kit_list (K : PySem.W.Frag) : PySem.W.kitOne K (.type "list") (.type "list") = some true := by
 unfold PySem.W.kitOne
 rw [if_pos (by decide +kernel)]
theorem kit_tuple (K : PySem.W.Frag) : PySem.W.kitOne K (.type "tuple") (.type "tuple") = some true := by
 unfold PySem.W.kitOne
 rw [if_pos (by decide +kernel)]
end SW
namespace L2
open PySem
def partsV (H : Hp) : V → List V
 | .ref a => match H a with
  | some (.tup xs) => xs
  | _ => []
 | _ => []
theorem partsV_eq {H : Hp} {a : Addr} {xs : List V} (h : H a = some (.tup xs)) : partsV H (.ref a) = xs := by
 unfold partsV
 dsimp only
 rw [h]
theorem pss_consL {X : Cx} {st : Stmt} {rest : List Stmt} {t u : TS} (h1 : PS X st t) (h2 : PSs X rest u) : PSs X (st :: rest) (let r := u; tSeq t r) := pss_cons h1 h2
theorem lX {x : Cx} {b : List Stmt} {D : Ends} {σ : L2.St} {H : Hp} (h : let X := x; let E := D; ∃ t, PSs X b t ∧ t E σ H) : ∃ t, PSs x b t ∧ t D σ H := h
theorem len1 {α : Type} {p : List α → Prop} (h : ∀ a, p [a]) : ∀ us : List α, us.length = 1 → p us
 | [], e => nomatch e
 | a :: r, e => by
  cases List.eq_nil_of_length_eq_zero (Nat.succ.inj e)
  exact h a
theorem len2 {α : Type} {p : List α → Prop} (h : ∀ a b, p [a, b]) : ∀ us : List α, us.length = 2 → p us
 | [], e => nomatch e
 | a :: r, e => len1 (p := fun r => p (a :: r)) (h a) r (Nat.succ.inj e)
theorem len3 {α : Type} {p : List α → Prop} (h : ∀ a b c, p [a, b, c]) : ∀ us : List α, us.length = 3 → p us
 | [], e => nomatch e
 | a :: r, e => len2 (p := fun r => p (a :: r)) (h a) r (Nat.succ.inj e)
end L2
set_option Elab.async false
set_option linter.all false
set_option maxRecDepth 100000
set_option maxHeartbeats 1000000
namespace L2
open PySem PySem.Spec PyProof PyProof.Rows
section
variable {X : Cx} {e st : Expr} {te ts : TE} {lo hi : Option Expr} {tl th : TO} {pos p2 : Pos}
end
def tMrg (t : TS) : TS := fun D σ H => ∃ P : St → Hp → Prop, t { D with nx := P } σ H ∧ ∀ σ' H', P σ' H' → D.nx σ' H'
theorem ps_mrg {X : Cx} {st : Stmt} {t : TS} (h : PS X st t) : PS X st (tMrg t) := by
 intro pins s σ H D I q
 obtain ⟨P, q1, q2⟩ := q
 refine thn (h pins s σ H _ I q1) fun f s' r => ?_
 cases f with
 | next =>
  obtain ⟨σ', H', I', r'⟩ := r
  exact ⟨σ', H', I', q2 _ _ r'⟩
 | brk => exact r
 | cont => exact r
 | ret u => exact r
end L2
namespace WM
theorem step_back (p : Pt) (c : Nat) (h : Lt c) : stepP (stepP p c) (tn 2 c) = p := by
 rcases h with rfl | rfl | rfl | rfl
 all_goals
  refine Prod.ext ?_ ?_
  ·simp [stepP, tn, ix, lw]
   try omega
  ·simp [stepP, tn, ix, lw]
   try omega
def crossS (a : Pt × Int) (c : Nat) : Pt × Int := (stepP a.1 c, a.2 + (a.1.1 * (stepP a.1 c).2 - (stepP a.1 c).1 * a.1.2))
def twice (l : List Nat) : Int := (l.foldl crossS ((0, 0), 0)).2
def xdyS (a : Pt × Int) (c : Nat) : Pt × Int := (stepP a.1 c, a.2 + a.1.1 * (vec c).2)
def xdy (l : List Nat) : Int := (l.foldl xdyS ((0, 0), 0)).2
theorem cross_vec (p : Pt) (c : Nat) : p.1 * (stepP p c).2 - (stepP p c).1 * p.2 = p.1 * (vec c).2 - (vec c).1 * p.2 := by
 rw [stepP_vec]
 show p.1 * (p.2 + (vec c).2) - (p.1 + (vec c).1) * p.2 = _
 rw [Int.mul_add, Int.add_mul]
 omega
theorem cross_xdy : ∀ (l : List Nat) (p : Pt) (u v : Int), (l.foldl crossS (p, u)).2 + (goP p l).1 * (goP p l).2 - p.1 * p.2 - u = 2 * ((l.foldl xdyS (p, v)).2 - v)
 | [], p, u, v => by
  show u + p.1 * p.2 - p.1 * p.2 - u = 2 * (v - v)
  omega
 | c :: l, p, u, v => by
  have ih := cross_xdy l (stepP p c) (u + (p.1 * (stepP p c).2 - (stepP p c).1 * p.2)) (v + p.1 * (vec c).2)
  have e1 : (c :: l).foldl crossS (p, u) = l.foldl crossS (stepP p c, u + (p.1 * (stepP p c).2 - (stepP p c).1 * p.2)) := rfl
  have e2 : (c :: l).foldl xdyS (p, v) = l.foldl xdyS (stepP p c, v + p.1 * (vec c).2) := rfl
  have e3 : goP p (c :: l) = goP (stepP p c) l := rfl
  rw [e1, e2, e3]
  rw [cross_vec] at ih ⊢
  have e4 : (stepP p c).1 * (stepP p c).2 = p.1 * p.2 + p.1 * (vec c).2 + (vec c).1 * p.2 := by
   rw [stepP_vec]
   show (p.1 + (vec c).1) * (p.2 + (vec c).2) = _
   have hv : (vec c).1 * (vec c).2 = 0 := by
    unfold vec
    split
    ·rfl
    ·split
     ·rfl
     ·split <;> rfl
   rw [Int.add_mul, Int.mul_add, Int.mul_add, hv]
   omega
  generalize (l.foldl crossS (stepP p c, u + (p.1 * (vec c).2 - (vec c).1 * p.2))).2 = A at *
  generalize (l.foldl xdyS (stepP p c, v + p.1 * (vec c).2)).2 = B at *
  generalize (goP (stepP p c) l).1 * (goP (stepP p c) l).2 = C at *
  generalize (stepP p c).1 * (stepP p c).2 = D at *
  generalize p.1 * (vec c).2 = E at *
  generalize (vec c).1 * p.2 = F at *
  generalize p.1 * p.2 = G at *
  omega
theorem twice_xdy {l : List Nat} (h : posOf l = (0, 0)) : twice l = 2 * xdy l := by
 have := cross_xdy l (0, 0) 0 0
 have e : goP (0, 0) l = (0, 0) := h
 rw [e] at this
 unfold twice xdy
 have z : (0 : Int) * 0 = 0 := rfl
 simp only [z] at this
 omega
end WM
namespace WM
def crossF (p : Pt) (l : List Nat) : Int := (l.foldl crossS (p, 0)).2
def cr (a b : Pt) : Int := a.1 * b.2 - b.1 * a.2
theorem crossF_nil (p : Pt) : crossF p [] = 0 := rfl
theorem cross_start : ∀ (l : List Nat) (p : Pt) (u : Int), (l.foldl crossS (p, u)).2 = u + crossF p l
 | [], p, u => by show u = u + 0; omega
 | c :: l, p, u => by
  have h1 := cross_start l (stepP p c) (u + (p.1 * (stepP p c).2 - (stepP p c).1 * p.2))
  have h2 := cross_start l (stepP p c) (0 + (p.1 * (stepP p c).2 - (stepP p c).1 * p.2))
  have e1 : (c :: l).foldl crossS (p, u) = l.foldl crossS (stepP p c, u + (p.1 * (stepP p c).2 - (stepP p c).1 * p.2)) := rfl
  have e2 : crossF p (c :: l) = (l.foldl crossS (stepP p c, 0 + (p.1 * (stepP p c).2 - (stepP p c).1 * p.2))).2 := rfl
  rw [e1, e2, h1, h2]
  omega
theorem crossF_cons (p : Pt) (c : Nat) (l : List Nat) : crossF p (c :: l) = cr p (vec c) + crossF (stepP p c) l := by
 have e2 : crossF p (c :: l) = (l.foldl crossS (stepP p c, 0 + (p.1 * (stepP p c).2 - (stepP p c).1 * p.2))).2 := rfl
 rw [e2, cross_start, cross_vec]
 unfold cr
 omega
theorem crossF_append : ∀ (a b : List Nat) (p : Pt), crossF p (a ++ b) = crossF p a + crossF (goP p a) b
 | [], b, p => by show crossF p b = 0 + crossF p b; omega
 | c :: a, b, p => by
  have ih := crossF_append a b (stepP p c)
  rw [List.cons_append, crossF_cons, crossF_cons, ih]
  show _ = cr p (vec c) + crossF (stepP p c) a + crossF (goP (stepP p c) a) b
  omega
theorem twice_crossF (l : List Nat) : twice l = crossF (0, 0) l := rfl
theorem crossF_move : ∀ (l : List Nat) (p : Pt), crossF p l = crossF (0, 0) l + cr p (posOf l)
 | [], p => by
  show 0 = 0 + (p.1 * 0 - 0 * p.2)
  omega
 | c :: l, p => by
  have h1 := crossF_move l (stepP p c)
  have h2 := crossF_move l (stepP (0, 0) c)
  rw [crossF_cons, crossF_cons, h1, h2, posOf_cons, stepP_vec, stepP_vec (0, 0)]
  unfold cr
  dsimp only
  simp only [Int.zero_mul, Int.mul_zero, Int.zero_add, Int.sub_self, Int.add_mul, Int.mul_add]
  omega
theorem goP_backL {l : List Nat} (h : IsW l) (p : Pt) : goP (goP p l) (backL l) = p := by
 rw [goP_add (backL l), posOf_backL h, goP_add l]
 refine Prod.ext ?_ ?_
 ·show p.1 + (posOf l).1 + -(posOf l).1 = p.1
  omega
 ·show p.2 + (posOf l).2 + -(posOf l).2 = p.2
  omega
theorem backL_cons (c : Nat) (l : List Nat) : backL (c :: l) = backL l ++ [tn 2 c] := by
 unfold backL turnL
 rw [List.reverse_cons, List.map_append]
 rfl
theorem vec_tn2 {c : Nat} (h : Lt c) : vec (tn 2 c) = (-(vec c).1, -(vec c).2) := by
 rw [vec_tn (by decide) h]
 rfl
theorem crossF_backL : ∀ {l : List Nat} (p : Pt), IsW l → crossF (goP p l) (backL l) = -crossF p l
 | [], p, _ => by show (0 : Int) = -0; omega
 | c :: l, p, h => by
  obtain ⟨h1, h2⟩ := isW_cons.mp h
  have ih := crossF_backL (stepP p c) h2
  have e : goP p (c :: l) = goP (stepP p c) l := rfl
  rw [backL_cons, crossF_append, e, ih, goP_backL h2, crossF_cons, crossF_cons, crossF_nil, vec_tn2 h1, stepP_vec]
  unfold cr
  dsimp only
  simp only [Int.add_mul, Int.mul_add, Int.mul_neg, Int.neg_mul]
  have := Int.mul_comm (vec c).1 (vec c).2
  omega
theorem twice_backL {l : List Nat} (h : IsW l) (h0 : posOf l = (0, 0)) : twice (backL l) = -twice l := by
 have := crossF_backL (0, 0) h
 have e : goP (0, 0) l = (0, 0) := h0
 rw [e] at this
 exact this
theorem cr_rot (q : Nat) (a b : Pt) : cr (rot q a) (rot q b) = cr a b := by
 unfold rot cr
 split
 ·rfl
 ·split
  ·show -a.2 * b.1 - -b.2 * a.1 = _
   rw [Int.neg_mul, Int.neg_mul]
   have := Int.mul_comm a.2 b.1
   have := Int.mul_comm b.2 a.1
   omega
  ·split
   ·show -a.1 * -b.2 - -b.1 * -a.2 = _
    rw [Int.neg_mul_neg, Int.neg_mul_neg]
   ·show a.2 * -b.1 - b.2 * -a.1 = _
    rw [Int.mul_neg, Int.mul_neg]
    have := Int.mul_comm a.2 b.1
    have := Int.mul_comm b.2 a.1
    omega
theorem step_tn {q c : Nat} (hq : q < 4) (h : Lt c) (p : Pt) : stepP (rot q p) (tn q c) = rot q (stepP p c) := by
 rw [stepP_vec, stepP_vec p c, vec_tn hq h, rot_add]
theorem crossF_turnL {q : Nat} (hq : q < 4) : ∀ {l : List Nat} (p : Pt), IsW l → crossF (rot q p) (turnL q l) = crossF p l
 | [], p, _ => rfl
 | c :: l, p, h => by
  obtain ⟨h1, h2⟩ := isW_cons.mp h
  have e : turnL q (c :: l) = tn q c :: turnL q l := rfl
  rw [e, crossF_cons, crossF_cons, step_tn hq h1, crossF_turnL hq _ h2, vec_tn hq h1, cr_rot]
theorem twice_turnL {q : Nat} {l : List Nat} (hq : q < 4) (h : IsW l) : twice (turnL q l) = twice l := by
 have := crossF_turnL hq (0, 0) h
 rw [rot_zero] at this
 exact this
def flip (p : Pt) : Pt := (-p.1, p.2)
theorem vec_mir {c : Nat} (h : Lt c) : vec (mir c) = flip (vec c) := by
 rcases h with rfl | rfl | rfl | rfl <;> decide
theorem step_mir {c : Nat} (h : Lt c) (p : Pt) : stepP (flip p) (mir c) = flip (stepP p c) := by
 rw [stepP_vec, stepP_vec p c, vec_mir h]
 refine Prod.ext ?_ ?_
 ·show -p.1 + -(vec c).1 = -(p.1 + (vec c).1)
  omega
 ·rfl
theorem crossF_mirL : ∀ {l : List Nat} (p : Pt), IsW l → crossF (flip p) (mirL l) = -crossF p l
 | [], p, _ => by show (0 : Int) = -0; omega
 | c :: l, p, h => by
  obtain ⟨h1, h2⟩ := isW_cons.mp h
  have e : mirL (c :: l) = mir c :: mirL l := rfl
  rw [e, crossF_cons, crossF_cons, step_mir h1, crossF_mirL _ h2, vec_mir h1]
  unfold cr flip
  dsimp only
  simp only [Int.neg_mul]
  omega
theorem twice_mirL {l : List Nat} (h : IsW l) : twice (mirL l) = -twice l := crossF_mirL (0, 0) h
theorem posOf_mirL : ∀ {l : List Nat}, IsW l → posOf (mirL l) = flip (posOf l)
 | [], _ => rfl
 | c :: l, h => by
  obtain ⟨h1, h2⟩ := isW_cons.mp h
  have e : mirL (c :: l) = mir c :: mirL l := rfl
  rw [e, posOf_cons, posOf_cons, posOf_mirL h2, vec_mir h1]
  refine Prod.ext ?_ ?_
  ·show -(vec c).1 + -(posOf l).1 = -((vec c).1 + (posOf l).1)
   omega
  ·rfl
theorem twice_rotL {k : Nat} {l : List Nat} (h0 : posOf l = (0, 0)) : twice (rotL k l) = twice l := by
 have e : posOf (l.take k ++ l.drop k) = (0, 0) := by rw [List.take_append_drop]; exact h0
 have e2 : twice l = twice (l.take k ++ l.drop k) := by rw [List.take_append_drop]
 unfold rotL
 rw [e2, twice_crossF, twice_crossF, crossF_append, crossF_append]
 generalize l.take k = a at *
 generalize l.drop k = b at *
 rw [posOf_append] at e
 have e3 : (posOf a).1 + (posOf b).1 = 0 := congrArg Prod.fst e
 have e4 : (posOf a).2 + (posOf b).2 = 0 := congrArg Prod.snd e
 have m1 := crossF_move a (goP (0, 0) b)
 have m2 := crossF_move b (goP (0, 0) a)
 rw [m1, m2]
 have e5 : (posOf b).1 = -(posOf a).1 := by omega
 have e6 : (posOf b).2 = -(posOf a).2 := by omega
 show crossF (0, 0) b + (crossF (0, 0) a + cr (posOf b) (posOf a)) = crossF (0, 0) a + (crossF (0, 0) b + cr (posOf a) (posOf b))
 have z1 : cr (posOf b) (posOf a) = 0 := by
  unfold cr
  rw [e5, e6, Int.neg_mul, Int.mul_neg]
  omega
 have z2 : cr (posOf a) (posOf b) = 0 := by
  unfold cr
  rw [e5, e6, Int.neg_mul, Int.mul_neg]
  omega
 rw [z1, z2]
 omega
def areaL (l : List Nat) : Int := twice l / 2
theorem twice_area {l : List Nat} (h : posOf l = (0, 0)) : twice l = 2 * areaL l := by
 have := twice_xdy h
 unfold areaL
 omega
theorem area_xdy {l : List Nat} (h : posOf l = (0, 0)) : areaL l = xdy l := by
 have := twice_xdy h
 unfold areaL
 omega
def b01 (b : Bool) : Int := if b then 1 else 0
def eastC (q p : Pt) (c : Nat) : Int :=
 if c = 110 then b01 (decide (q.1 < p.1 ∧ p.2 = q.2)) else if c = 115 then -b01 (decide (q.1 < p.1 ∧ p.2 - 1 = q.2)) else 0
def northC (q p : Pt) (c : Nat) : Int :=
 if c = 119 then b01 (decide (q.2 < p.2 ∧ p.1 - 1 = q.1)) else if c = 101 then -b01 (decide (q.2 < p.2 ∧ p.1 = q.1)) else 0
def sumC (f : Pt → Nat → Int) : Pt → List Nat → Int
 | _, [] => 0
 | p, c :: l => f p c + sumC f (stepP p c) l
def aroundE (q : Pt) (l : List Nat) : Int := sumC (eastC q) (0, 0) l
def aroundN (q : Pt) (l : List Nat) : Int := sumC (northC q) (0, 0) l
theorem sumC_append (f : Pt → Nat → Int) : ∀ (a b : List Nat) (p : Pt), sumC f p (a ++ b) = sumC f p a + sumC f (goP p a) b
 | [], b, p => by show sumC f p b = 0 + sumC f p b; omega
 | c :: a, b, p => by
  show f p c + sumC f (stepP p c) (a ++ b) = f p c + sumC f (stepP p c) a + sumC f (goP (stepP p c) a) b
  rw [sumC_append f a b]
  omega
theorem sumC_snoc (f : Pt → Nat → Int) (l : List Nat) (p : Pt) (c : Nat) : sumC f p (l ++ [c]) = sumC f p l + f (goP p l) c := by
 rw [sumC_append]
 show _ + (f _ c + 0) = _
 omega
theorem sumC_pot {f g : Pt → Nat → Int} {φ : Pt → Int} (h : ∀ p c, Lt c → f p c - g p c = φ (stepP p c) - φ p) : ∀ {l : List Nat} (p : Pt), IsW l → sumC f p l - sumC g p l = φ (goP p l) - φ p
 | [], p, _ => by show (0 : Int) - 0 = φ p - φ p; omega
 | c :: l, p, hl => by
  obtain ⟨h1, h2⟩ := isW_cons.mp hl
  have ih := sumC_pot h (stepP p c) h2
  have h3 := h p c h1
  show f p c + sumC f (stepP p c) l - (g p c + sumC g (stepP p c) l) = φ (goP (stepP p c) l) - φ p
  omega
def quad (q p : Pt) : Int := b01 (decide (q.1 < p.1 ∧ q.2 < p.2))
theorem quad_step (q p : Pt) (c : Nat) (h : Lt c) : eastC q p c - northC q p c = quad q (stepP p c) - quad q p := by
 obtain ⟨x, y⟩ := q
 obtain ⟨X, Y⟩ := p
 rcases h with rfl | rfl | rfl | rfl
 ·simp only [eastC, northC, quad, b01, stepP, decide_eq_true_eq]
  simp (decide := true) only [if_true, if_false]
  repeat' split
  all_goals omega
 ·simp only [eastC, northC, quad, b01, stepP, decide_eq_true_eq]
  simp (decide := true) only [if_true, if_false]
  repeat' split
  all_goals omega
 ·simp only [eastC, northC, quad, b01, stepP, decide_eq_true_eq]
  simp (decide := true) only [if_true, if_false]
  repeat' split
  all_goals omega
 ·simp only [eastC, northC, quad, b01, stepP, decide_eq_true_eq]
  simp (decide := true) only [if_true, if_false]
  repeat' split
  all_goals omega
theorem around_both {q : Pt} {l : List Nat} (h : IsW l) (h0 : posOf l = (0, 0)) : aroundE q l = aroundN q l := by
 have := sumC_pot (quad_step q) (0, 0) h
 have e : goP (0, 0) l = (0, 0) := h0
 rw [e] at this
 unfold aroundE aroundN
 omega
end WM
set_option Elab.async false
set_option linter.all false
set_option maxRecDepth 100000
set_option maxHeartbeats 4000000
namespace SW
open PySem L2 WM
theorem placesP_get : ∀ {l : List Nat} {p : Pt} {i : Nat}, i ≤ l.length → (placesP p l)[i]? = some (goP p (l.take i))
 | [], _, 0, _ => rfl
 | _ :: _, _, 0, _ => rfl
 | c :: l, p, i + 1, h => by
  show (placesP (stepP p c) l)[i]? = _
  rw [placesP_get (l := l) (by simpa using h)]
  rfl
theorem plOf_get {l : List Nat} {i : Nat} (h : i ≤ l.length) : (plOf l)[i]? = some (posOf (l.take i)) := placesP_get h
theorem tups_at {H : Hp} : ∀ {as : List Addr} {ps : List Pt} {i : Nat} {p : Pt}, Tups H as ps → ps[i]? = some p → ∃ a, (as.map V.ref)[i]? = some (.ref a) ∧ H a = some (.tup [.int p.1, .int p.2])
 | _, _, _, _, .nil, e => by simp at e
 | _, _, 0, _, .cons h _, e => by
  simp at e
  subst e
  exact ⟨_, rfl, h⟩
 | _, _, i + 1, p, .cons _ t, e => by
  obtain ⟨a, h1, h2⟩ := tups_at (i := i) t (by simpa using e)
  exact ⟨a, by simpa using h1, h2⟩
theorem PlAt.at {K : PySem.W.Frag} {H : Hp} {d : Addr} {l : List Nat} {i : Nat} (h : PlAt H d (plOf l)) (hi : i ≤ l.length) : ∃ xs a, SqL K H d xs ∧ xs[i]? = some (.ref a) ∧ H a = some (.tup [.int (posOf (l.take i)).1, .int (posOf (l.take i)).2]) := by
 obtain ⟨as, h1, h2⟩ := h
 obtain ⟨a, h3, h4⟩ := tups_at h2 (plOf_get hi)
 exact ⟨_, a, SqL.of h1, h3, h4⟩
def spArea : Sp := fun vs H Q _ => ∃ (l : List Nat), vs = [.str (T l)] ∧ IsW l ∧ l.length ≤ 1000 ∧ posOf l = (0, 0) ∧ ∀ H', Same H H' → Q (.int (areaL l)) H'
end SW
set_option Elab.async false
set_option linter.all false
set_option maxRecDepth 100000
set_option maxHeartbeats 1000000
namespace L2
open PySem PySem.Spec PyProof.Rows
def TSame (H H' : Hp) : Prop := ∀ b xs, H b = some (.tup xs) → H' b = some (.tup xs)
theorem Same.tup {H H' : Hp} (s : Same H H') : TSame H H' := fun b xs e => s b _ e
theorem TSame.trans {H H' H'' : Hp} (s : TSame H H') (t : TSame H' H'') : TSame H H'' := fun b xs e => t b xs (s b xs e)
theorem tsame_lst {H : Hp} {d : Addr} {ys : List V} {o : HO} (h : H d = some (.lst ys)) : TSame H (upd H d o) := fun b xs e => by
 rw [upd_ne (ne_of e h (by intro z; cases z))]
 exact e
theorem comp_rel {J : It} {xs : List V} {k : Nat} {g : BK TG} {te : BK TE} {σ : St} {H1 : Hp} {Q : VK} (sl : V → St) (hsl : ∀ x, (sl x).length = k) (hsz : xs.length ≤ sizeLine)
  (hgo : ∀ i H2, Same H1 H2 → i < xs.length → J.go i H2 ∧ ∀ x H3, J.yld i H2 x H3 → H3 = H2 ∧ xs[i]? = some x) (hst : ∀ H2, Same H1 H2 → J.stop xs.length H2)
  (hg : ∀ C fp s₀ H₀ (i : Nat) x, xs[i]? = some x → ∀ H3 (R : St → Hp → Prop), Same H1 H3 → R (σ ++ sl x) H3 → g C fp s₀ H₀ x (σ ++ List.replicate k none) H3 R)
  (Rl : Nat → V → Hp → Prop) (hR : ∀ i y H H', Rl i y H → TSame H H' → Rl i y H')
  (hel : ∀ C fp s₀ H₀ (i : Nat) x, xs[i]? = some x → ∀ H3 (R : VK), Same H1 H3 → (∀ y H4, Same H3 H4 → Rl i y H4 → R y H4) → te C fp s₀ H₀ (σ ++ sl x) H3 R)
  (hq : ∀ D ys H', H1 D = none → Same H1 H' → H' D = some (.lst ys) → ys.length = xs.length → (∀ (i : Nat) y, ys[i]? = some y → Rl i y H') → Q (.ref D) H') :
  CompIn k J g (fun _ _ _ _ => tTrue) te σ H1 Q := by
 unfold CompIn
 intro D hD
 refine ⟨fun i m ys H2 => m = xs.length - i ∧ i ≤ xs.length ∧ ys.length = i ∧ Same H1 H2 ∧ H2 D = some (.lst ys) ∧ ∀ (j : Nat) y, ys[j]? = some y → Rl j y H2, ⟨xs.length, by simp, Nat.zero_le _, rfl, same_upd hD (Same.refl _), upd_same, fun j y h => by simp at h⟩, ?_⟩
 rintro i m ys H2 ⟨rfl, hi, hlen, s2, hDl, hrel⟩
 refine ⟨hDl, ?_⟩
 by_cases hlt : i < xs.length
 ·refine .inr ⟨(hgo i H2 s2 hlt).1, fun x H3 y C fp s₀ H₀ => ?_⟩
  obtain ⟨rfl, hx⟩ := (hgo i H2 s2 hlt).2 x H3 y
  refine hg C fp s₀ H₀ i x hx H3 _ s2 ⟨⟨sl x, rfl, hsl x⟩, ?_⟩
  unfold tTrue
  dsimp only
  rw [if_pos rfl]
  refine hel C fp s₀ H₀ i x hx H3 _ s2 fun y H4 s4 hy => ⟨s4 D _ hDl, by omega, xs.length - (i + 1), by omega, rfl, hlt, by rw [List.length_append, hlen]; rfl, same_upd hD (s2.trans s4), upd_same, fun j z hz => ?_⟩
  have tS : TSame H4 (upd H4 D (.lst (ys ++ [y]))) := tsame_lst (s4 D _ hDl)
  rcases Nat.lt_or_ge j ys.length with z1 | z1
  ·rw [List.getElem?_append_left z1] at hz
   exact hR j z _ _ (hrel j z hz) (s4.tup.trans tS)
  ·rw [List.getElem?_append_right z1] at hz
   have ej : j - ys.length = 0 := by
    cases hjj : j - ys.length with
    | zero => rfl
    | succ q => rw [hjj] at hz; simp at hz
   rw [ej] at hz
   have ez : y = z := by simpa using hz
   have ej2 : j = i := by omega
   rw [← ez, ej2]
   exact hR _ _ _ _ hy tS
 ·have e : i = xs.length := by omega
  subst e
  exact .inl ⟨hst H2 s2, hq D ys H2 hD s2 hDl hlen hrel⟩
theorem comp_relL {K : PySem.W.Frag} {a : Addr} {xs : List V} {k : Nat} {g : BK TG} {te : BK TE} {σ : St} {H1 : Hp} {Q : VK} (sl : V → St) (hsl : ∀ x, (sl x).length = k) (hsz : xs.length ≤ sizeLine) (hl : SqL K H1 a xs)
  (hg : ∀ C fp s₀ H₀ (i : Nat) x, xs[i]? = some x → ∀ H3 (R : St → Hp → Prop), Same H1 H3 → R (σ ++ sl x) H3 → g C fp s₀ H₀ x (σ ++ List.replicate k none) H3 R)
  (Rl : Nat → V → Hp → Prop) (hR : ∀ i y H H', Rl i y H → TSame H H' → Rl i y H')
  (hel : ∀ C fp s₀ H₀ (i : Nat) x, xs[i]? = some x → ∀ H3 (R : VK), Same H1 H3 → (∀ y H4, Same H3 H4 → Rl i y H4 → R y H4) → te C fp s₀ H₀ (σ ++ sl x) H3 R)
  (hq : ∀ D ys H', H1 D = none → Same H1 H' → H' D = some (.lst ys) → ys.length = xs.length → (∀ (i : Nat) y, ys[i]? = some y → Rl i y H') → Q (.ref D) H') :
  CompIn k (Itl K a) g (fun _ _ _ _ => tTrue) te σ H1 Q :=
 comp_rel sl hsl hsz (fun i H2 s2 hi => ⟨⟨xs, xs[i], s2.seq hl, by simp [hi]⟩, fun x H3 y => ⟨y.1, y.2 xs (s2.seq hl)⟩⟩) (fun H2 s2 => ⟨xs, s2.seq hl, Nat.le_refl _⟩) hg Rl hR hel hq
theorem comp_relR {m k : Nat} {lo : Int} {g : BK TG} {te : BK TE} {σ : St} {H1 : Hp} {Q : VK} (sl : V → St) (hsl : ∀ x, (sl x).length = k) (hsz : m ≤ sizeLine)
  (hg : ∀ C fp s₀ H₀ (i : Nat), i < m → ∀ H3 (R : St → Hp → Prop), Same H1 H3 → R (σ ++ sl (.int (lo + i))) H3 → g C fp s₀ H₀ (.int (lo + i)) (σ ++ List.replicate k none) H3 R)
  (Rl : Nat → V → Hp → Prop) (hR : ∀ i y H H', Rl i y H → TSame H H' → Rl i y H')
  (hel : ∀ C fp s₀ H₀ (i : Nat), i < m → ∀ H3 (R : VK), Same H1 H3 → (∀ y H4, Same H3 H4 → Rl i y H4 → R y H4) → te C fp s₀ H₀ (σ ++ sl (.int (lo + i))) H3 R)
  (hq : ∀ D ys H', H1 D = none → Same H1 H' → H' D = some (.lst ys) → ys.length = m → (∀ (i : Nat) y, ys[i]? = some y → Rl i y H') → Q (.ref D) H') :
  CompIn k (Itr lo m) g (fun _ _ _ _ => tTrue) te σ H1 Q := by
 have key : ∀ i, i < m → ((List.range m).map fun k : Nat => V.int (lo + k))[i]? = some (.int (lo + i)) := fun i hi => by
  rw [List.getElem?_map, List.getElem?_range hi]
  rfl
 have hin : ∀ i x, ((List.range m).map fun k : Nat => V.int (lo + k))[i]? = some x → i < m ∧ x = .int (lo + i) := fun i x hx => by
  by_cases hi : i < m
  ·rw [key i hi] at hx
   cases hx
   exact ⟨hi, rfl⟩
  ·rw [List.getElem?_eq_none (by rw [List.length_map, List.length_range]; omega)] at hx
   cases hx
 have hlen : ((List.range m).map fun k : Nat => V.int (lo + k)).length = m := by rw [List.length_map, List.length_range]
 refine comp_rel (xs := (List.range m).map fun k : Nat => V.int (lo + k)) sl hsl (by rw [hlen]; exact hsz) (fun i H2 _ hi => ?_) (fun H2 _ => ?_) (fun C fp s₀ H₀ i x hx => ?_) Rl hR (fun C fp s₀ H₀ i x hx => ?_) (fun D ys H' h1 h2 h3 h4 h5 => hq D ys H' h1 h2 h3 (by rw [h4, hlen]) h5)
 ·rw [hlen] at hi
  refine ⟨hi, fun x H3 y => ?_⟩
  obtain ⟨e, rfl⟩ := y
  exact ⟨e, key i hi⟩
 ·show m ≤ _
  rw [hlen]
  exact Nat.le_refl _
 ·obtain ⟨hi, rfl⟩ := hin i x hx
  exact hg C fp s₀ H₀ i hi
 ·obtain ⟨hi, rfl⟩ := hin i x hx
  exact hel C fp s₀ H₀ i hi
theorem comp_filtR {m n : Nat} {tt : BK TT} {te : BK TE} {σ : St} {H1 : Hp} {Q : VK} (p : Nat → Bool) (f : Nat → V) (hn : n = σ.length) (hsz : m ≤ sizeLine)
  (ht : ∀ C fp s₀ H₀ (i : Nat), i < m → ∀ H3 (R : Bool → Hp → Prop), Same H1 H3 → (∀ H4, Same H3 H4 → R (p i) H4) → tt C fp s₀ H₀ (σ ++ [some (.int (i : Int))]) H3 R)
  (hel : ∀ C fp s₀ H₀ (i : Nat), i < m → p i = true → ∀ H3 (R : VK), Same H1 H3 → (∀ H4, Same H3 H4 → R (f i) H4) → te C fp s₀ H₀ (σ ++ [some (.int (i : Int))]) H3 R)
  (hq : ∀ D H', H1 D = none → Same H1 H' → H' D = some (.lst (((List.range m).filter p).map f)) → Q (.ref D) H') :
  CompIn 1 (Itr 0 m) (fun _ _ _ _ => gName n) tt te σ H1 Q := by
 unfold CompIn
 intro D hD
 refine ⟨fun i k ys H2 => k = m - i ∧ i ≤ m ∧ ys = ((List.range i).filter p).map f ∧ Same H1 H2 ∧ H2 D = some (.lst ys), ⟨m, by simp, Nat.zero_le _, by simp, same_upd hD (Same.refl _), upd_same⟩, ?_⟩
 rintro i k ys H2 ⟨rfl, hi, rfl, s2, hDl⟩
 refine ⟨hDl, ?_⟩
 by_cases hlt : i < m
 ·refine .inr ⟨hlt, fun x H3 y C fp s₀ H₀ => ?_⟩
  obtain ⟨rfl, rfl⟩ := y
  rw [Int.zero_add]
  refine ⟨⟨[some (.int (i : Int))], set_end hn _, rfl⟩, ?_⟩
  rw [set_end hn]
  refine ht C fp s₀ H₀ i hlt _ _ s2 fun H4 s4 => ?_
  cases hp : p i with
  | true =>
   rw [if_pos rfl]
   refine hel C fp s₀ H₀ i hlt hp H4 _ (s2.trans s4) fun H5 s5 => ⟨s5 D _ (s4 D _ hDl), ?_, m - (i + 1), by omega, rfl, hlt, ?_, same_upd hD ((s2.trans s4).trans s5), upd_same⟩
   ·rw [List.length_map]
    have := List.length_filter_le p (List.range i)
    rw [List.length_range] at this
    omega
   ·rw [List.range_succ, List.filter_append, List.map_append, List.filter_cons_of_pos hp]
    rfl
  | false =>
   rw [if_neg Bool.false_ne_true]
   refine ⟨m - (i + 1), by omega, rfl, hlt, ?_, s2.trans s4, s4 D _ hDl⟩
   rw [List.range_succ, List.filter_append, List.map_append, List.filter_cons_of_neg (by rw [hp]; exact Bool.false_ne_true)]
   simp
 ·have e : i = m := by omega
  subst e
  exact .inl ⟨Nat.le_refl _, hq D H2 hD s2 hDl⟩
theorem g_two {K : PySem.W.Frag} {σ : St} {n : Nat} {H : Hp} {a : Addr} {u v : V} {R : St → Hp → Prop} (hn : n = σ.length) (h : SqT K H a [u, v]) (k : R (σ ++ [some u, some v]) H) : gTup K 2 (gCons (gName n) (gCons (gName (n + 1)) gNil)) (.ref a) (σ ++ List.replicate 2 none) H R := by
 subst hn
 refine ⟨a, _, rfl, h, rfl, u, _, rfl, v, _, rfl, rfl, ?_⟩
 have e1 : (σ ++ List.replicate 2 none).set σ.length (some u) = σ ++ [some u, none] := by
  rw [List.set_append_right _ _ (Nat.le_refl _), Nat.sub_self]
  rfl
 have e2 : (σ ++ [some u, none]).set (σ.length + 1) (some v) = σ ++ [some u, some v] := by
  rw [List.set_append_right _ _ (by omega), Nat.add_sub_cancel_left]
  rfl
 rw [e1, e2]
 exact k
end L2
set_option Elab.async false
set_option linter.all false
set_option maxRecDepth 100000
set_option maxHeartbeats 1000000
namespace L2
open PySem PySem.Spec PyProof.Rows
section
variable {X : Cx} {pins : List (Addr × Obj)} {σ : St} {H : Hp} {s : Shared} {h' : Heap}
theorem Inv.turnLay {a : Addr} {o : HO} {t' : Nat} {ch : List Addr} (I : Inv X pins σ H s) (hf : ∀ b ∈ ch, FpOk X pins H b) (k : ∀ b u, b ∉ ch → s.heap.get? b = some u → h'.get? b = some u) (hp : s.heap.objs.size ≤ a) (new : ObjOk X.prog X.w (upd H a o) h' a o) :
  Inv X pins σ (upd H a o) { s with heap := h', toks := t' } := by
 have hn : H a = none := I.hok.fresh hp
 have nit : ∀ b u, H b = some u → b ∉ ch := fun b u e z => by
  rw [(hf b z).1] at e
  cases e
 have old : ∀ b u, s.heap.get? b = some u → b ≠ a := fun b u e z => absurd (Heap.lt_size e) (by rw [z]; exact Nat.not_lt.mpr hp)
 refine I.step (g' := s.gens) (d' := s.drawn) (ch := ch) (fun b hb => ⟨(hf b hb).2.2.2.1, (hf b hb).2.1, (hf b hb).2.2.2.2.1, (hf b hb).2.2.2.2.2⟩) (fun b o _ _ hc e _ => k b o hc e) (fun b o _ _ hc e _ => ⟨o.slots, k b o hc e⟩)
  (fun b o _ e n => by rw [upd_ne (old b o e)]; exact n) (fun b o hc e => ⟨o, k b o hc e⟩) (fun b xs e => by rw [upd_ne (ne_of_none e hn)]; exact e) (fun b o u e => by rw [upd_ne (ne_of_none e hn)]; exact e) (fun b ps e => ⟨#[], by rw [upd_ne (ne_of_none e hn), e]; simp⟩) (fun m hm => ?_) (fun b u e => ?_) I.bare
 ·obtain ⟨o, es, ep, ho, r⟩ := hm
  refine ⟨o, es, ep, k _ o (fun z => (hf _ z).2.1 rfl) ho, r⟩
 ·by_cases hb : b = a
  ·subst hb
   rw [upd_same] at e
   cases e
   exact new
  ·rw [upd_ne hb] at e
   refine (I.hok b u e).stay (fun c v hc q => k c v ?_ q) (fun c q => by rw [upd_ne (ne_of_none q hn)]; exact q) fun c xs q => by rw [upd_ne (ne_of_none q hn)]; exact q
   rcases hc with z | z
   ·rw [z]
    exact nit b u e
   ·exact nit c _ z
end
def Ite (K : PySem.W.Frag) (a : Addr) : It :=
 ⟨fun i H => ∃ xs x, SqL K H a xs ∧ xs[i]? = some x, fun i H x H' => ∃ b v, x = .ref b ∧ H b = none ∧ H' = upd H b (.tup [.int (i : Int), v]) ∧ ∀ xs, SqL K H a xs → xs[i]? = some v, fun i H => ∃ xs, SqL K H a xs ∧ xs.length ≤ i⟩
theorem turn_enumL {P : Program} {w : World} {K : PySem.W.Frag} {es : List Expr} {x1 : _} {tp : Pos} (a it e : Addr) : Turn P w K (.Tuple es x1 tp) (Ite K a) [e, it] e (fun i h => (∃ old, IsEnum h e it (i : Int) old) ∧ h.IsListIter it a i) where
 mem := by simp
 obj := fun i h st b hb => by
  obtain ⟨⟨old, he⟩, o, ho, c, d⟩ := st
  rcases List.mem_cons.mp hb with rfl | hb
  ·exact ⟨_, he, fun v z => by cases z⟩
  ·have : b = it := by simpa using hb
   subst this
   exact ⟨o, ho, fun v z => by rw [d] at z; cases z⟩
 keep := fun i h h' st k => ⟨let ⟨old, he⟩ := st.1; ⟨old, k e (by simp) _ he⟩, st.2.at fun o q => k it (by simp) o q⟩
 item := by
  intro X hP hw hK hc i pins s σ H E I hf st hg
  subst hP hw hK
  refine gate' fun gG hgG => ?_
  obtain ⟨xs, x, hq, hx⟩ := hg
  obtain ⟨its, rv, p, hz⟩ := I.list hq
  obtain ⟨u, hu, ru⟩ := rv.get hx
  obtain ⟨⟨old, he⟩, hit⟩ := st
  refine hgG.go ?_
  clear hgG
  have hl := p.isList
  have hne : e ≠ it := fun z => by
   obtain ⟨o, ho, c, _⟩ := hit
   rw [← z] at ho
   rw [he] at ho
   cases ho
   exact absurd (Value.type.inj c) (by decide)
  have hla : a ≠ it := fun z => by
   refine gate' fun gG hgG => ?_
   obtain ⟨o, ho, c, _⟩ := hit
   obtain ⟨o', ho', c', _⟩ := hl
   refine hgG.go ?_
   clear hgG
   rw [z, ho] at ho'
   cases ho'
   rw [c] at c'
   exact absurd (Value.type.inj c') (by decide)
  have hea : e ≠ a := fun z => by
   obtain ⟨o', ho', c', _⟩ := hl
   rw [← z] at ho'
   rw [he] at ho'
   cases ho'
   exact absurd (Value.type.inj c') (by decide)
  have D : Draws X.prog X.w X.A.in1 it [it, a] its.toArray.size (fun i v => its.toArray[i]? = some v) (fun i h => h.IsListIter it a i ∧ h.IsList a its.toArray) := Draws.list (A := X.A.in1) (I.ok.hd hc) it a hla its.toArray
  have hlt : i < its.toArray.size := by
   have := (List.getElem?_eq_some_iff.mp hu).1
   simpa using this
  refine wpAny_pyNext_enum_itemD D he ⟨hit, hl⟩ hlt hne (by simp only [List.mem_cons, List.not_mem_nil, or_false, not_or]; exact ⟨hne, hea⟩) fun v h1 tk hPv heo hst ht hsz hk => ?_
  have ev : v = u := by
   have : its.toArray[i]? = some u := by simpa using hu
   rw [this] at hPv
   exact (Option.some.inj hPv).symm
  subst ev
  refine ⟨_, rfl, wpAny_letOwnedTupleGo_enum (s := { s with heap := h1, toks := tk + 1 }) heo fun h2 he2 hs2 => ?_⟩
  have he1 : e < s.heap.objs.size := Heap.lt_size he
  have ht2 : h2.get? s.heap.objs.size = some { cls := .type "tuple", data := .seq #[.int (i : Int) tk, v] } := (hs2.2 _ (Nat.ne_of_gt he1)).trans ht
  have kk : ∀ b o, b ∉ [e, it] → s.heap.get? b = some o → h2.get? b = some o := fun b o hb q => by
   simp only [List.mem_cons, List.not_mem_nil, or_false, not_or] at hb
   exact (hs2.2 b hb.1).trans (hk b o hb.1 hb.2 q)
  have I1 : Inv X pins σ (upd H s.heap.objs.size (.tup [.int (i : Int), x])) { s with heap := h2, toks := tk + 1 } := by
   refine I.turnLay hf kk (Nat.le_refl _) ⟨by show 2 ≤ sizeLine; decide, [.int (i : Int) tk, v], .cons ⟨tk, rfl⟩ (.cons ru .nil), ?_⟩
   exact ⟨_, ht2, rfl, _, rfl⟩
  refine ⟨.ref s.heap.objs.size, _, I1, rfl, ⟨_, x, rfl, I.hok.fresh (Nat.le_refl _), rfl, fun ys hy => by rw [I.list_inj hy hq]; exact hx⟩, ⟨⟨_, he2⟩, ?_⟩, fun b hb => ?_⟩
  ·refine hst.1.at fun o q => ?_
   rw [hs2.2 it (Ne.symm hne)]
   exact q
  ·have hb0 := (hf b hb).1
   rw [upd_ne]
   ·exact hb0
   ·intro z
    rcases List.mem_cons.mp hb with rfl | hb'
    ·exact absurd he1 (by rw [z]; exact Nat.lt_irrefl _)
    ·have : b = it := by simpa using hb'
     subst this
     obtain ⟨o, ho, _⟩ := hit
     exact absurd (Heap.lt_size ho) (by rw [z]; exact Nat.lt_irrefl _)
 done := by
  intro X hP hw hK hc i pins s σ H E I hf st hg
  subst hP hw hK
  refine gate' fun gG hgG => ?_
  obtain ⟨xs, hq, hx⟩ := hg
  obtain ⟨its, rv, p, hz⟩ := I.list hq
  obtain ⟨⟨old, he⟩, hit⟩ := st
  have hl := p.isList
  have hla : a ≠ it := fun z => by
   obtain ⟨o, ho, c, _⟩ := hit
   obtain ⟨o', ho', c', _⟩ := hl
   rw [z, ho] at ho'
   cases ho'
   rw [c] at c'
   exact absurd (Value.type.inj c') (by decide)
  obtain ⟨f0, f1, f2, f3, f4, f5⟩ := hf it (by simp)
  refine hgG.go ?_
  clear hgG
  have hlen := rv.length
  refine wpAny_pyNext_enum_end (i := i) (I.ok.hd hc) he hit hl (by simp; omega) fun h1 eb => ⟨rfl, I.turned (t' := s.toks) (fun b o hb q => eb b o hb q) f0 f1 f3 f4 f5⟩
 self := fun _ _ _ _ _ st h => let ⟨old, he⟩ := st.1; wpAny_pyIter_enum he h
def iEnumL (K : PySem.W.Frag) (ta : TA) : TI := fun σ H R => ta σ H fun vs H1 => ∃ a, vs = [.ref a] ∧ (∃ xs, SqL K H1 a xs) ∧ R (Ite K a) H1
theorem pi_enumL {X : Cx} {a : Expr} {es : List Expr} {x1 : _} {tp p pos : Pos} {ta : TA} (hg : Gl X "enumerate") (hm : X.mg "enumerate" = none) (ha : PA X [a] ta) (hs : starEach [a] X.env = [(false, eval a X.env)] := by rfl) :
  PI X (.Tuple es x1 tp) (.Call (.Name "enumerate" p) [a] [] pos) (iEnumL X.K ta) := by
 intro pins s σ H R I h
 refine Call_ (ld_blt I hg hm boot_enumerate (PyProof.Rows.callWith_type1 (thn (ha pos pins s σ H _ I h) fun us s1 ⟨vs, H1, I1, r1, q1⟩ => ?_) hs rfl))
 refine gate' fun gG hgG => ?_
 obtain ⟨l, rfl, ⟨xs, hq⟩, q⟩ := q1
 obtain ⟨u, rfl, ru⟩ := vals1 r1
 refine hgG.go ?_
 clear hgG
 cases (show u = Value.ref l from ru)
 obtain ⟨its, rv, pl, hz⟩ := I1.list hq
 refine call_enumerate_list pl.isList fun h' he hit hsz hk => ?_
 have I2 : Inv X pins σ H1 { s1 with heap := h' } := I1.kept (t' := s1.toks) hk
 refine wpAny_pyIter_enum (s := { s1 with heap := h' }) he ?_
 refine ⟨s1.heap.objs.size + 1, [s1.heap.objs.size + 1, s1.heap.objs.size], _, _, H1, rfl, I2, turn_enumL l _ _, ⟨⟨_, he⟩, hit⟩, fun b hb => ?_, q⟩
 rcases List.mem_cons.mp hb with rfl | hb
 ·exact I1.fpOk (Nat.le_succ _) (I1.hok.fresh (Nat.le_succ _))
 ·have e : b = s1.heap.objs.size := by simpa using hb
  subst e
  exact I1.fpOk (Nat.le_refl _) (I1.hok.fresh (Nat.le_refl _))
theorem for_enumL {K : PySem.W.Frag} {a : Addr} {xs : List V} {g : TG} {tb : TS} {D : Ends} {σ : St} {H : Hp} (Pv : Nat → St → Hp → Prop) (h0 : Pv 0 σ H) (hl : ∀ i σ H, i ≤ xs.length → Pv i σ H → SqL K H a xs)
  (hs : ∀ i v σ H b, xs[i]? = some v → Pv i σ H → H b = none → g (.ref b) σ (upd H b (.tup [.int (i : Int), v])) fun σ2 H2 => tb { D with nx := Pv (i + 1), ct := Pv (i + 1), bk := D.nx } σ2 H2) (hd : ∀ σ H, Pv xs.length σ H → D.nx σ H) :
  ∃ W : Nat → Nat → St → Hp → Prop, (∃ m, W 0 m σ H) ∧ ∀ i m σ H, W i m σ H →
   ((Ite K a).stop i H ∧ D.nx σ H) ∨ ((Ite K a).go i H ∧ ∃ N : St → Hp → Prop, (∀ σ' H', N σ' H' → ∃ m', m' < m ∧ W (i + 1) m' σ' H') ∧ ∀ x H', (Ite K a).yld i H x H' → g x σ H' fun σ2 H2 => tb { D with nx := N, ct := N, bk := D.nx } σ2 H2) := by
 refine ⟨fun i m σ H => m = xs.length - i ∧ i ≤ xs.length ∧ Pv i σ H, ⟨xs.length, by simp, Nat.zero_le _, h0⟩, ?_⟩
 rintro i m σ H ⟨rfl, hi, p⟩
 have q := hl i σ H hi p
 by_cases hlt : i < xs.length
 ·refine .inr ⟨⟨xs, xs[i], q, by simp [hlt]⟩, Pv (i + 1), fun σ' H' p' => ⟨xs.length - (i + 1), by omega, rfl, hlt, p'⟩, fun x H' y => ?_⟩
  obtain ⟨b, v, rfl, hb, rfl, hv⟩ := y
  exact hs i v σ H b (hv xs q) p hb
 ·have e : i = xs.length := by omega
  subst e
  exact .inl ⟨⟨xs, q, Nat.le_refl _⟩, hd σ H p⟩
theorem draws_str {prog : Program} {w : World} {A : Around} (hh : A.handled = none) (it : Addr) (x : Str) (t : Tok) :
  Draws prog w A it [it] x.cps.size (fun i v => ∃ c u, x.cps[i]? = some c ∧ v = .str ⟨#[c]⟩ u) (fun i h => h.IsStrIter it (strIterType x) x t i) := by
 unfold strIterType
 cases x.cps.all (· < 128) with
 | true => exact Draws.strAscii hh it x t
 | false => exact Draws.strWide hh it x t
end L2
set_option Elab.async false
set_option linter.all false
set_option maxRecDepth 100000
set_option maxHeartbeats 1000000
namespace PySem
section
variable {prog : Program} {w : World} {A : Around} {E : Value → Shared → Prop} {s : Shared}
structure ZApart (z TI TO i1 i2 : Addr) (fp1 fp2 : List Addr) : Prop where
 zTI : z ≠ TI
 zTO : z ≠ TO
 TITO : TI ≠ TO
 z1 : z ≠ i1
 z2 : z ≠ i2
 TI1 : TI ≠ i1
 TI2 : TI ≠ i2
 TO1 : TO ≠ i1
 TO2 : TO ≠ i2
 i12 : i1 ≠ i2
 f1 : ∀ c ∈ fp1, c ≠ z ∧ c ≠ TO ∧ c ≠ i2
 f2 : ∀ c ∈ fp2, c ≠ z ∧ c ≠ TO ∧ c ≠ i1
def zipObj (f0 f1 : Value) (TI TO : Addr) : Obj := { cls := .type "zip", data := .fields #[f0, f1, .bool false, .ref TI, .ref TO] }
theorem setField_zip {z TI TO : Addr} {f0 f1 x : Value} {Q : Unit → Shared → Prop} (hz : s.heap.get? z = some (zipObj f0 f1 TI TO)) (h : ∀ h', h'.get? z = some (zipObj x f1 TI TO) → Heap.SameBut z s.heap h' → Q () { s with heap := h' }) : wpAny (model prog w) A (setField (.ref z) 0 x) Q E s := by
 refine wpAny_setField hz rfl (by simp) (h _ ?_ (Heap.SameBut.update ..))
 exact Heap.get?_update_self _ hz rfl
theorem setField_zip1 {z TI TO : Addr} {f0 f1 x : Value} {Q : Unit → Shared → Prop} (hz : s.heap.get? z = some (zipObj f0 f1 TI TO)) (h : ∀ h', h'.get? z = some (zipObj f0 x TI TO) → Heap.SameBut z s.heap h' → Q () { s with heap := h' }) : wpAny (model prog w) A (setField (.ref z) 1 x) Q E s := by
 refine wpAny_setField hz rfl (by simp) (h _ ?_ (Heap.SameBut.update ..))
 exact Heap.get?_update_self _ hz rfl
theorem wpAny_pyNext_zipD_item {z TI TO i1 i2 : Addr} {fp1 fp2 : List Addr} {n1 n2 k1 k2 : Nat} {P1 P2 : Nat → Value → Prop} {St1 St2 : Nat → Heap → Prop} {a b : Value} {Q : Option Value → Shared → Prop}
  (D1 : Draws prog w A.in1 i1 fp1 n1 P1 St1) (D2 : Draws prog w A.in1 i2 fp2 n2 P2 St2) (ap : ZApart z TI TO i1 i2 fp1 fp2) (hz : IsZip s.heap z TI TO .none) (hTI : IsPair s.heap TI (.ref i1) (.ref i2)) (hTO : IsPair s.heap TO a b)
  (h1 : St1 k1 s.heap) (h2 : St2 k2 s.heap) (l1 : k1 < n1) (l2 : k2 < n2)
  (hQ : ∀ (x y : Value) (h' : Heap) (tk : Nat), P1 k1 x → P2 k2 y → IsZip h' z TI TO (rawInt (s.heap.objs.size : Int)) → IsPair h' TO x y → IsPair h' TI (.ref i1) (.ref i2) → St1 (k1 + 1) h' → St2 (k2 + 1) h' → IsPair h' s.heap.objs.size x y →
   (∀ c o, c ≠ z → c ≠ TO → c ≠ i1 → c ≠ i2 → s.heap.get? c = some o → h'.get? c = some o) → Q (some (.ref s.heap.objs.size)) { s with heap := h', toks := tk }) : wpAny (model prog w) A (pyNext (.ref z)) Q E s := by
 have hT : s.TypeIs (.ref z) "zip" := ⟨_, hz, rfl⟩
 unfold pyNext
 refine wpAny_bind (wpAny_attempt (wpAny_callSpecial?_slot (name := Str.ofString "__next__") hT F.slot_zip_next
  (wpAny_call_entry F.slot_zip_next hT F.entry_zip_next ?_ (F.args_zip_next_1 _))))
 unfold Builtin.«zip.__next__»
 refine wpAny_bind (wpAny_of_eq (a := (Value.ref z, [])) rfl ?_)
 try dsimp only
 refine wpAny_bind (wpAny_field hz rfl (x := .bool false) rfl ?_)
 refine wpAny_bind (wpAny_field hz rfl (x := .ref TI) rfl ?_)
 refine wpAny_bind (wpAny_seqItems hTI rfl ?_)
 try dsimp only
 rw [if_neg (by simp)]
 refine wpAny_bind ?_
 unfold Builtin.SmallTypes.ownedTupleIsFree
 refine wpAny_bind (wpAny_field hz rfl (x := .none) rfl (wpAny_pure ?_))
 try dsimp only
 rw [if_pos rfl]
 refine wpAny_bind (wpAny_rule ?_)
 refine wpAny_bind (wpAny_field hz rfl (x := .ref TO) rfl ?_)
 try dsimp only
 refine wpAny_bind (setField_zip (f0 := .none) (f1 := .bool false) hz fun ha hza hsa => ?_)
 refine wpAny_bind ?_
 show wpAny _ _ (forIn [(Value.ref i1, 0), (Value.ref i2, 1)] _ _) _ _ _
 rw [List.forIn_cons]
 refine wpAny_bind (wpAny_bind (wpAny_onRaise ?_))
 show wpAny _ _ (Builtin.SmallTypes.nextOf (.ref i1) >>= fun x => pure (some x)) _ _ _
 have h1a : St1 k1 ha := D1.frame _ _ _ h1 fun c hc o q => (hsa.2 c (ap.f1 c hc).1).trans q
 have h2a : St2 k2 ha := D2.frame _ _ _ h2 fun c hc o q => (hsa.2 c (ap.f2 c hc).1).trans q
 refine wpAny_bind (D1.item k1 { s with heap := ha } _ _ l1 h1a fun x hb tk px h1b hsb => wpAny_pure ?_)
 dsimp only
 have hTOb : IsPair hb TO a b := (hsb.2 TO ap.TO1).trans ((hsa.2 TO (Ne.symm ap.zTO)).trans hTO)
 refine wpAny_bind (wpAny_seqItems hTOb rfl ?_)
 dsimp only
 refine wpAny_bind (wpAny_updateSeq_pair (s := { s with heap := hb, toks := tk }) hTOb fun hc hTOc hsc => ?_)
 refine wpAny_bind (wpAny_letGo (wpAny_pure ?_))
 dsimp only
 rw [List.forIn_cons]
 refine wpAny_bind (wpAny_bind (wpAny_onRaise ?_))
 show wpAny _ _ (Builtin.SmallTypes.nextOf (.ref i2) >>= fun x => pure (some x)) _ _ _
 have h1c : St1 (k1 + 1) hc := D1.frame _ _ _ h1b fun c hc' o q => (hsc.2 c (ap.f1 c hc').2.1).trans q
 have h2c : St2 k2 hc := D2.frame _ _ _ h2a fun c hc' o q => (hsc.2 c (ap.f2 c hc').2.1).trans ((hsb.2 c (ap.f2 c hc').2.2).trans q)
 refine wpAny_bind (D2.item k2 { s with heap := hc, toks := tk } _ _ l2 h2c fun y hd tk2 py h2d hsd => wpAny_pure ?_)
 dsimp only
 have hTOd : IsPair hd TO x b := (hsd.2 TO ap.TO2).trans hTOc
 refine wpAny_bind (wpAny_seqItems hTOd rfl ?_)
 dsimp only
 refine wpAny_bind (wpAny_updateSeq_pair (s := { s with heap := hd, toks := tk2 }) hTOd fun he hTOe hse => ?_)
 refine wpAny_bind (wpAny_letGo (wpAny_pure ?_))
 dsimp only
 rw [List.forIn_nil]
 refine wpAny_pure ?_
 dsimp only
 have hTOe' : IsPair he TO x y := hTOe
 refine wpAny_bind (wpAny_seqItems hTOe' rfl ?_)
 dsimp only
 refine wpAny_bind (wpAny_newTuple ?_)
 have keep : ∀ c o, c ≠ z → c ≠ TO → c ≠ i1 → c ≠ i2 → s.heap.get? c = some o → he.get? c = some o := fun c o n1 n2 n3 n4 q =>
  (hse.2 c n2).trans ((hsd.2 c n4).trans ((hsc.2 c n2).trans ((hsb.2 c n3).trans ((hsa.2 c n1).trans q))))
 have esz : he.objs.size = s.heap.objs.size := hse.1.trans (hsd.1.trans (hsc.1.trans (hsb.1.trans hsa.1)))
 have hze : he.get? z = some (zipObj .ellipsis (.bool false) TI TO) := (hse.2 z ap.zTO).trans ((hsd.2 z ap.z2).trans ((hsc.2 z ap.zTO).trans ((hsb.2 z ap.z1).trans hza)))
 unfold Builtin.SmallTypes.ownedTupleHandOut
 dsimp only
 have pk : ∀ c o, he.get? c = some o → (he.push { cls := Value.type "tuple", data := Data.seq #[x, y] }).get? c = some o := fun c o q => Heap.get?_push_of_some _ q
 have pn : (he.push { cls := Value.type "tuple", data := Data.seq #[x, y] }).get? he.objs.size = some { cls := Value.type "tuple", data := Data.seq #[x, y] } := Heap.get?_push_size _ rfl
 have zlt : z < he.objs.size := Heap.lt_size hze
 have h1e : St1 (k1 + 1) he := D1.frame _ _ _ h1c fun c hc' o q => (hse.2 c (ap.f1 c hc').2.1).trans ((hsd.2 c (ap.f1 c hc').2.2).trans q)
 have h2e : St2 (k2 + 1) he := D2.frame _ _ _ h2d fun c hc' o q => (hse.2 c (ap.f2 c hc').2.1).trans q
 refine wpAny_bind (wpAny_bind (setField_zip (s := { s with heap := he.push { cls := Value.type "tuple", data := Data.seq #[x, y] }, toks := tk2 }) (pk _ _ hze) fun hf hzf hsf => ?_))
 refine setField_zip1 (s := { s with heap := hf, toks := tk2 }) hzf fun hg hzg hsg => ?_
 have on : ∀ c o, c ≠ z → he.get? c = some o → hg.get? c = some o := fun c o n q => (hsg.2 c n).trans ((hsf.2 c n).trans (pk c o q))
 refine wpAny_pure ⟨_, rfl, wpAny_pure ?_⟩
 rw [esz]
 refine hQ x y hg tk2 px py ?_ (on TO _ (Ne.symm ap.zTO) hTOe') (on TI _ (Ne.symm ap.zTI) (keep TI _ (Ne.symm ap.zTI) ap.TITO ap.TI1 ap.TI2 hTI)) (D1.frame _ _ _ h1e fun c hc' o q => on c o (ap.f1 c hc').1 q) (D2.frame _ _ _ h2e fun c hc' o q => on c o (ap.f2 c hc').1 q) ?_ fun c o n1 n2 n3 n4 q => on c o n1 (keep c o n1 n2 n3 n4 q)
 ·rw [← esz]
  exact hzg
 ·rw [← esz]
  exact (hsg.2 _ (Nat.ne_of_gt zlt)).trans ((hsf.2 _ (Nat.ne_of_gt zlt)).trans pn)
theorem wpAny_pyNext_zipD_end {z TI TO i1 i2 : Addr} {fp1 fp2 : List Addr} {n1 n2 k1 k2 : Nat} {P1 P2 : Nat → Value → Prop} {St1 St2 : Nat → Heap → Prop} {a b : Value} {Q : Option Value → Shared → Prop}
  (D1 : Draws prog w A.in1 i1 fp1 n1 P1 St1) (D2 : Draws prog w A.in1 i2 fp2 n2 P2 St2) (ap : ZApart z TI TO i1 i2 fp1 fp2) (hz : IsZip s.heap z TI TO .none) (hTI : IsPair s.heap TI (.ref i1) (.ref i2)) (hTO : IsPair s.heap TO a b)
  (h1 : St1 k1 s.heap) (h2 : St2 k2 s.heap) (hl : k1 = n1 ∨ (k1 < n1 ∧ k2 = n2))
  (hQ : ∀ (h' : Heap) (tk : Nat), (∀ c o, c ≠ z → c ≠ TO → c ≠ i1 → c ≠ i2 → s.heap.get? c = some o → h'.get? c = some o) → Q none { s with heap := h', toks := tk }) : wpAny (model prog w) A (pyNext (.ref z)) Q E s := by
 have hT : s.TypeIs (.ref z) "zip" := ⟨_, hz, rfl⟩
 unfold pyNext
 refine wpAny_bind (wpAny_attempt (wpAny_callSpecial?_slot (name := Str.ofString "__next__") hT F.slot_zip_next
  (wpAny_call_entry F.slot_zip_next hT F.entry_zip_next ?_ (F.args_zip_next_1 _))))
 unfold Builtin.«zip.__next__»
 refine wpAny_bind (wpAny_of_eq (a := (Value.ref z, [])) rfl ?_)
 try dsimp only
 refine wpAny_bind (wpAny_field hz rfl (x := .bool false) rfl ?_)
 refine wpAny_bind (wpAny_field hz rfl (x := .ref TI) rfl ?_)
 refine wpAny_bind (wpAny_seqItems hTI rfl ?_)
 try dsimp only
 rw [if_neg (by simp)]
 refine wpAny_bind ?_
 unfold Builtin.SmallTypes.ownedTupleIsFree
 refine wpAny_bind (wpAny_field hz rfl (x := .none) rfl (wpAny_pure ?_))
 try dsimp only
 rw [if_pos rfl]
 refine wpAny_bind (wpAny_rule ?_)
 refine wpAny_bind (wpAny_field hz rfl (x := .ref TO) rfl ?_)
 try dsimp only
 refine wpAny_bind (setField_zip (f0 := .none) (f1 := .bool false) hz fun ha hza hsa => ?_)
 refine wpAny_bind ?_
 show wpAny _ _ (forIn [(Value.ref i1, 0), (Value.ref i2, 1)] _ _) _ _ _
 rw [List.forIn_cons]
 refine wpAny_bind (wpAny_bind (wpAny_onRaise ?_))
 show wpAny _ _ (Builtin.SmallTypes.nextOf (.ref i1) >>= fun x => pure (some x)) _ _ _
 have h1a : St1 k1 ha := D1.frame _ _ _ h1 fun c hc o q => (hsa.2 c (ap.f1 c hc).1).trans q
 have h2a : St2 k2 ha := D2.frame _ _ _ h2 fun c hc o q => (hsa.2 c (ap.f2 c hc).1).trans q
 rcases hl with rfl | ⟨l1, rfl⟩
 ·refine wpAny_bind (D1.done { s with heap := ha } _ _ h1a fun hb e hsb hx => ?_)
  have hzb : hb.get? z = some (zipObj .ellipsis (.bool false) TI TO) := hsb z _ ap.z1 hza
  refine setField_zip (s := { s with heap := hb }) hzb fun hc hzc hsc => ?_
  obtain ⟨o, ho, hcls⟩ := hx
  have hez : e ≠ z := fun q => by
   rw [q, hzb] at ho
   cases ho
   exact absurd (Value.type.inj hcls) (by decide)
  refine wpAny_bind (wpAny_isInstance (s := { s with heap := hc }) (T := "StopIteration") (b := true) ⟨o, (hsc.2 e hez).trans ho, hcls⟩ isSubtype_stop ?_)
  refine wpAny_pure (hQ _ _ fun c o n1 n2 n3 n4 q => (hsc.2 c n1).trans (hsb c o n3 ((hsa.2 c n1).trans q)))
 ·refine wpAny_bind (D1.item k1 { s with heap := ha } _ _ l1 h1a fun x hb tk px h1b hsb => wpAny_pure ?_)
  dsimp only
  have hTOb : IsPair hb TO a b := (hsb.2 TO ap.TO1).trans ((hsa.2 TO (Ne.symm ap.zTO)).trans hTO)
  refine wpAny_bind (wpAny_seqItems hTOb rfl ?_)
  dsimp only
  refine wpAny_bind (wpAny_updateSeq_pair (s := { s with heap := hb, toks := tk }) hTOb fun hc hTOc hsc => ?_)
  refine wpAny_bind (wpAny_letGo (wpAny_pure ?_))
  dsimp only
  rw [List.forIn_cons]
  refine wpAny_bind (wpAny_bind (wpAny_onRaise ?_))
  show wpAny _ _ (Builtin.SmallTypes.nextOf (.ref i2) >>= fun x => pure (some x)) _ _ _
  have h2c : St2 k2 hc := D2.frame _ _ _ h2a fun c hc' o q => (hsc.2 c (ap.f2 c hc').2.1).trans ((hsb.2 c (ap.f2 c hc').2.2).trans q)
  refine wpAny_bind (D2.done { s with heap := hc, toks := tk } _ _ h2c fun hd e hsd hx => ?_)
  have hzd : hd.get? z = some (zipObj .ellipsis (.bool false) TI TO) := hsd z _ ap.z2 ((hsc.2 z ap.zTO).trans ((hsb.2 z ap.z1).trans hza))
  refine setField_zip (s := { s with heap := hd, toks := tk }) hzd fun he hze hse => ?_
  obtain ⟨o, ho, hcls⟩ := hx
  have hez : e ≠ z := fun q => by
   rw [q, hzd] at ho
   cases ho
   exact absurd (Value.type.inj hcls) (by decide)
  refine wpAny_bind (wpAny_isInstance (s := { s with heap := he, toks := tk }) (T := "StopIteration") (b := true) ⟨o, (hse.2 e hez).trans ho, hcls⟩ isSubtype_stop ?_)
  refine wpAny_pure (hQ _ _ fun c o n1 n2 n3 n4 q => (hse.2 c n1).trans (hsd c o n4 ((hsc.2 c n2).trans ((hsb.2 c n3).trans ((hsa.2 c n1).trans q)))))
theorem call_zipD {v1 v2 : Value} {o1 o2 : Obj} {Q : Value → Shared → Prop} (f1 : o1.isFreed = false) (f2 : o2.isFreed = false)
  (g1 : ∀ (A : Around) (E : Value → Shared → Prop) (Q : Value → Shared → Prop), Q (.ref s.heap.objs.size) { s with heap := s.heap.push o1 } → wpAny (model prog w) A (pyIter v1) Q E s)
  (g2 : ∀ (A : Around) (E : Value → Shared → Prop) (Q : Value → Shared → Prop), Q (.ref (s.heap.push o1).objs.size) { s with heap := (s.heap.push o1).push o2 } → wpAny (model prog w) A (pyIter v2) Q E { s with heap := s.heap.push o1 })
  (hQ : ∀ h' : Heap, IsZip h' (s.heap.objs.size + 4) (s.heap.objs.size + 2) (s.heap.objs.size + 3) .none → IsPair h' (s.heap.objs.size + 2) (.ref s.heap.objs.size) (.ref (s.heap.objs.size + 1)) → IsPair h' (s.heap.objs.size + 3) .none .none →
   h'.get? s.heap.objs.size = some o1 → h'.get? (s.heap.objs.size + 1) = some o2 → (∀ c o, s.heap.get? c = some o → h'.get? c = some o) → Q (.ref (s.heap.objs.size + 4)) { s with heap := h' }) :
  wpAny (model prog w) A (call (.type "zip") [v1, v2]) Q E s := by
 let H2 := (s.heap.push o1).push o2
 let H3 := H2.push { cls := Value.type "tuple", data := Data.seq #[Value.ref s.heap.objs.size, Value.ref (s.heap.push o1).objs.size] }
 let H4 := H3.push { cls := Value.type "tuple", data := Data.seq #[Value.none, Value.none] }
 let H5 := H4.push (zipObj .none (.bool false) H2.objs.size H3.objs.size)
 have p1 : (s.heap.push o1).objs.size = s.heap.objs.size + 1 := Heap.size_push ..
 have p2 : H2.objs.size = s.heap.objs.size + 2 := (Heap.size_push ..).trans (by rw [p1])
 have p3 : H3.objs.size = s.heap.objs.size + 3 := (Heap.size_push ..).trans (by rw [p2])
 have p4 : H4.objs.size = s.heap.objs.size + 4 := (Heap.size_push ..).trans (by rw [p3])
 refine callType_codes (Q₁ := fun obj s₁ => obj = .ref H4.objs.size ∧ s₁ = { s with heap := H5 }) F.called_zip (F.typeCall_zip_2 _ _) F.entry_object_init ?_ ?_
 ·refine codeAny_of_tree ?_
  show wpAny _ A.in1.in1 (do checkBuiltinCall "zip.__new__" ⟨[.type "zip", v1, v2], []⟩; again (.builtin "zip.__new__" ⟨[.type "zip", v1, v2], []⟩)) _ _ s
  refine wpAny_bind (wpAny_of_eq (F.newCall_zip_2 _ _) (wpAny_pure ⟨plainId_quiet F.called_zip.plain _, codeAny_builtin F.entry_zip_new ?_⟩))
  rw [Around.under_plainId F.called_zip.plain _]
  unfold Builtin.«zip.__new__»
  refine wpAny_bind (wpAny_of_eq (a := (Value.type "zip", [v1, v2])) (by
   unfold Builtin.SmallTypes.newClass
   try dsimp only
   rw [show isType (Value.type "zip") = pure true from rfl, pure_bind]
   try dsimp only
   rw [F.called_zip.sub, pure_bind]
   rfl) ?_)
  try dsimp only
  rw [if_neg (by simp)]
  try dsimp only
  refine wpAny_bind ?_
  unfold Builtin.SmallTypes.iterAll
  try dsimp only
  refine wpAny_bind ?_
  rw [List.forIn_cons]
  refine wpAny_bind (wpAny_bind (wpAny_holding (g1 _ _ _ ?_)))
  refine wpAny_pure ?_
  try dsimp only
  rw [List.forIn_cons]
  refine wpAny_bind (wpAny_bind (wpAny_holding (g2 _ _ _ ?_)))
  refine wpAny_pure ?_
  try dsimp only
  rw [List.forIn_nil]
  refine wpAny_pure (wpAny_pure ?_)
  refine wpAny_bind (wpAny_newTuple (hsz := by simp; decide) ?_)
  refine wpAny_bind (wpAny_newTuple (hsz := by simp; decide) ?_)
  unfold Builtin.SmallTypes.newRecord
  try dsimp only
  refine wpAny_bind (wpAny_newObj_type (hd := by show _ ≤ sizeLine + 2; simp [Builtin.SmallTypes.ownedTupleFields]; decide) ?_)
  exact wpAny_pure ⟨rfl, rfl⟩
 ·rintro obj s₁ ⟨rfl, rfl⟩
  have e5 : H5.get? H4.objs.size = some (zipObj .none (.bool false) H2.objs.size H3.objs.size) := Heap.get?_push_size _ rfl
  have k4 : ∀ c o, H4.get? c = some o → H5.get? c = some o := fun c o q => Heap.get?_push_of_some _ q
  have k3 : ∀ c o, H3.get? c = some o → H5.get? c = some o := fun c o q => k4 c o (Heap.get?_push_of_some _ q)
  have k2 : ∀ c o, H2.get? c = some o → H5.get? c = some o := fun c o q => k3 c o (Heap.get?_push_of_some _ q)
  have k1 : ∀ c o, (s.heap.push o1).get? c = some o → H5.get? c = some o := fun c o q => k2 c o (Heap.get?_push_of_some _ q)
  have hT : ({ s with heap := H5 } : Shared).TypeIs (.ref H4.objs.size) "zip" := ⟨_, e5, rfl⟩
  refine ⟨hT, F.args_object_init_3 _ _ _, object_init_meets (T := "zip") F.called_zip.init.lookup F.called_zip.made (by decide) prog w A.in1 _ _ ⟨hT, rfl, ?_⟩⟩
  have q := hQ H5 ?_ ?_ ?_ ?_ ?_ ?_
  ·rw [p4]
   exact q
  ·rw [← p4, ← p2, ← p3]
   exact e5
  ·have : H3.get? H2.objs.size = some { cls := Value.type "tuple", data := Data.seq #[Value.ref s.heap.objs.size, Value.ref (s.heap.push o1).objs.size] } := Heap.get?_push_size _ rfl
   rw [← p1, ← p2]
   exact k3 _ _ this
  ·have : H4.get? H3.objs.size = some { cls := Value.type "tuple", data := Data.seq #[Value.none, Value.none] } := Heap.get?_push_size _ rfl
   rw [← p3]
   exact k4 _ _ this
  ·exact k1 _ _ (Heap.get?_push_size _ f1)
  ·rw [← p1]
   exact k2 _ _ (Heap.get?_push_size _ f2)
  ·exact fun c o q => k1 c o (Heap.get?_push_of_some _ q)
end
end PySem
namespace L2
open PySem PySem.Spec PyProof.Rows
section
variable {X : Cx} {pins : List (Addr × Obj)} {σ : St} {H : Hp} {s : Shared} {h' : Heap}
theorem Inv.turnedL {t' : Nat} {ch : List Addr} (I : Inv X pins σ H s) (hf : ∀ b ∈ ch, FpOk X pins H b) (k : ∀ b u, b ∉ ch → s.heap.get? b = some u → h'.get? b = some u) : Inv X pins σ H { s with heap := h', toks := t' } := by
 have nit : ∀ b u, H b = some u → b ∉ ch := fun b u e z => by
  rw [(hf b z).1] at e
  cases e
 refine I.step (g' := s.gens) (d' := s.drawn) (ch := ch) (fun b hb => ⟨(hf b hb).2.2.2.1, (hf b hb).2.1, (hf b hb).2.2.2.2.1, (hf b hb).2.2.2.2.2⟩) (fun b o _ _ hc e _ => k b o hc e) (fun b o _ _ hc e _ => ⟨o.slots, k b o hc e⟩)
  (fun _ _ _ _ n => n) (fun b o hc e => ⟨o, k b o hc e⟩) (fun _ _ e => e) (fun _ _ _ e => e) (fun b ps e => ⟨#[], by rw [e]; simp⟩) (fun m hm => ?_) (fun b u e => ?_) I.bare
 ·obtain ⟨o, es, ep, ho, r⟩ := hm
  exact ⟨o, es, ep, k _ o (fun z => (hf _ z).2.1 rfl) ho, r⟩
 ·refine (I.hok b u e).stay (fun c v hc q => k c v ?_ q) (fun _ q => q) fun _ _ q => q
  rcases hc with z | z
  ·rw [z]
   exact nit b u e
  ·exact nit c _ z
end
structure Src (P : Program) (w : World) (K : PySem.W.Frag) (S : Hp → List V → Prop) (it : Addr) (Sn : Nat → Heap → Prop) : Prop where
 obj : ∀ i h, Sn i h → ∃ o n vs, h.get? it = some o ∧ o.cls = .type n ∧ o.data = .fields vs ∧ n ≠ "zip" ∧ n ≠ "tuple" ∧ n ≠ "list"
 keep : ∀ i h h', Sn i h → (∀ o, h.get? it = some o → h'.get? it = some o) → Sn i h'
 inj : ∀ {X : Cx} {pins σ H s xs ys}, X.K = K → Inv X pins σ H s → S H xs → S H ys → xs = ys
 drw : ∀ (X : Cx), X.prog = P → X.w = w → X.K = K → X.calm = true → ∀ (i : Nat) (pins : List (Addr × Obj)) (s : Shared) (σ : St) (H : Hp) (xs : List V), Inv X pins σ H s → S H xs → Sn i s.heap →
  ∃ (fp : List Addr) (Pv : Nat → Value → Prop) (St' : Nat → Heap → Prop), Draws X.prog X.w X.A.in1 it fp xs.length Pv St' ∧ St' i s.heap ∧ (∀ j h, St' j h → Sn j h) ∧ (∀ j x v, xs[j]? = some x → Pv j v → RelV x v) ∧
   ∀ b ∈ fp, b = it ∨ ∃ o, s.heap.get? b = some o ∧ o.cls = .type "list"
theorem src_list {P : Program} {w : World} {K : PySem.W.Frag} (a it : Addr) : Src P w K (fun H xs => SqL K H a xs) it (fun i h => h.IsListIter it a i) where
 obj := fun i h ⟨o, ho, c, d⟩ => ⟨o, _, _, ho, c, d, by decide, by decide, by decide⟩
 keep := fun i h h' st k => st.at fun o q => k o q
 inj := fun hK I h1 h2 => by
  subst hK
  exact I.list_inj h1 h2
 drw := by
  intro X hP hw hK hc i pins s σ H xs I hq st
  subst hP hw hK
  obtain ⟨its, rv, p, hz⟩ := I.list hq
  have hl := p.isList
  have hla : a ≠ it := fun z => by
   refine gate' fun gG hgG => ?_
   obtain ⟨o, ho, c, _⟩ := st
   obtain ⟨o', ho', c', _⟩ := hl
   refine hgG.go ?_
   clear hgG
   rw [z, ho] at ho'
   cases ho'
   rw [c] at c'
   exact absurd (Value.type.inj c') (by decide)
  have hsz : its.toArray.size = xs.length := by
   have := rv.length
   simp
   omega
  refine ⟨[it, a], fun i v => its.toArray[i]? = some v, fun i h => h.IsListIter it a i ∧ h.IsList a its.toArray, ?_, ⟨st, hl⟩, fun j h q => q.1, fun j x v hx hv => ?_, fun b hb => ?_⟩
  ·rw [← hsz]
   exact Draws.list (A := X.A.in1) (I.ok.hd hc) it a hla its.toArray
  ·obtain ⟨u, hu, ru⟩ := rv.get hx
   have : its.toArray[j]? = some u := by simpa using hu
   have hv' : its.toArray[j]? = some v := hv
   rw [this] at hv'
   cases hv'
   exact ru
  ·rcases List.mem_cons.mp hb with rfl | hb
   ·exact .inl rfl
   ·have e : b = a := by simpa using hb
    subst e
    obtain ⟨o, ho, c, _⟩ := hl
    exact .inr ⟨o, ho, c⟩
theorem strIter_cases (x : Str) : strIterType x = "str_ascii_iterator" ∨ strIterType x = "str_iterator" := by
 unfold strIterType
 split
 ·exact .inl rfl
 ·exact .inr rfl
def letsV (l : List Nat) : List V := l.map fun c => V.str (T [c])
theorem src_str {P : Program} {w : World} {K : PySem.W.Frag} (l : List Nat) (t : Tok) (it : Addr) : Src P w K (fun _ xs => xs = letsV l) it (fun i h => h.IsStrIter it (strIterType (T l)) (T l) t i) where
 obj := fun i h ⟨o, ho, c, d⟩ => by
  refine ⟨o, _, _, ho, c, d, ?_, ?_, ?_⟩ <;> rcases strIter_cases (T l) with e | e <;> rw [e] <;> decide
 keep := fun i h h' ⟨o, ho, r⟩ k => ⟨o, k o ho, r⟩
 inj := fun _ _ h1 h2 => h1.trans h2.symm
 drw := by
  intro X hP hw hK hc i pins s σ H xs I hq st
  subst hP hw hK hq
  have D := draws_str (prog := X.prog) (w := X.w) (A := X.A.in1) (I.ok.hd hc) it (T l) t
  have hsz : (T l).cps.size = (letsV l).length := by
   show l.toArray.size = _
   simp [letsV]
  rw [hsz] at D
  refine ⟨_, _, _, D, st, fun j h q => q, fun j x v hx hv => ?_, fun b hb => .inl (by simpa using hb)⟩
  obtain ⟨c, u, hcu, rfl⟩ := hv
  have hcl : l[j]? = some c := by
   have : l.toArray[j]? = some c := hcu
   simpa using this
  unfold letsV at hx
  rw [List.getElem?_map, hcl] at hx
  cases hx
  exact ⟨u, rfl⟩
def Itz (S1 S2 : Hp → List V → Prop) : It :=
 ⟨fun i H => ∃ xs ys, S1 H xs ∧ S2 H ys ∧ i < xs.length ∧ i < ys.length, fun i H x H' => ∃ b u v, x = .ref b ∧ H b = none ∧ H' = upd H b (.tup [u, v]) ∧ ∀ xs ys, S1 H xs → S2 H ys → xs[i]? = some u ∧ ys[i]? = some v,
  fun i H => ∃ xs ys, S1 H xs ∧ S2 H ys ∧ i = min xs.length ys.length⟩
theorem turn_zip {P : Program} {w : World} {K : PySem.W.Frag} {es : List Expr} {x1 : _} {tp : Pos} {S1 S2 : Hp → List V → Prop} {St1 St2 : Nat → Heap → Prop} {z TI TO i1 i2 : Addr} (R1 : Src P w K S1 i1 St1) (R2 : Src P w K S2 i2 St2) (h12 : i1 ≠ i2) (hTT : TI ≠ TO) :
  Turn P w K (.Tuple es x1 tp) (Itz S1 S2) [z, TI, TO, i1, i2] z (fun i h => IsZip h z TI TO .none ∧ IsPair h TI (.ref i1) (.ref i2) ∧ (∃ a b, IsPair h TO a b) ∧ St1 i h ∧ St2 i h) := by
 have ap : ∀ {i : Nat} {h : Heap} {fp1 fp2 : List Addr}, IsZip h z TI TO .none → IsPair h TI (.ref i1) (.ref i2) → (∃ a b, IsPair h TO a b) → St1 i h → St2 i h → (∀ b ∈ fp1, b = i1 ∨ ∃ o, h.get? b = some o ∧ o.cls = .type "list") → (∀ b ∈ fp2, b = i2 ∨ ∃ o, h.get? b = some o ∧ o.cls = .type "list") →
   ZApart z TI TO i1 i2 fp1 fp2 := by
  intro i h fp1 fp2 hz hTI ⟨a, b, hTO⟩ h1 h2 f1 f2
  refine gate' fun gG hgG => ?_
  obtain ⟨o1, n1, v1, e1, c1, d1, n1z, n1t, n1l⟩ := R1.obj i h h1
  obtain ⟨o2, n2, v2, e2, c2, d2, n2z, n2t, n2l⟩ := R2.obj i h h2
  refine hgG.go ?_
  clear hgG
  have dif : ∀ {x y : Addr} {ox oy : Obj} {nx ny : String}, h.get? x = some ox → h.get? y = some oy → ox.cls = .type nx → oy.cls = .type ny → nx ≠ ny → x ≠ y := fun ex ey cx cy ne q => by
   subst q
   rw [ex] at ey
   cases ey
   rw [cx] at cy
   exact ne (Value.type.inj cy)
  refine ⟨dif hz hTI rfl rfl (by decide), dif hz hTO rfl rfl (by decide), hTT, dif hz e1 rfl c1 (Ne.symm n1z), dif hz e2 rfl c2 (Ne.symm n2z), dif hTI e1 rfl c1 (Ne.symm n1t), dif hTI e2 rfl c2 (Ne.symm n2t), dif hTO e1 rfl c1 (Ne.symm n1t), dif hTO e2 rfl c2 (Ne.symm n2t), h12, fun c hc => ?_, fun c hc => ?_⟩
  ·rcases f1 c hc with rfl | ⟨o, ho, co⟩
   ·exact ⟨dif e1 hz c1 rfl n1z, dif e1 hTO c1 rfl n1t, h12⟩
   ·exact ⟨dif ho hz co rfl (by decide), dif ho hTO co rfl (by decide), dif ho e2 co c2 (Ne.symm n2l)⟩
  ·rcases f2 c hc with rfl | ⟨o, ho, co⟩
   ·exact ⟨dif e2 hz c2 rfl n2z, dif e2 hTO c2 rfl n2t, Ne.symm h12⟩
   ·exact ⟨dif ho hz co rfl (by decide), dif ho hTO co rfl (by decide), dif ho e1 co c1 (Ne.symm n1l)⟩
 refine ⟨by simp, fun i h ⟨hz, hTI, ⟨a, b, hTO⟩, h1, h2⟩ c hc => ?_, fun i h h' ⟨hz, hTI, ⟨a, b, hTO⟩, h1, h2⟩ k => ?_, ?_, ?_, ?_⟩
 ·simp only [List.mem_cons, List.not_mem_nil, or_false] at hc
  refine gate' fun gG hgG => ?_
  obtain ⟨o1, n1, v1, e1, c1, d1, _⟩ := R1.obj i h h1
  obtain ⟨o2, n2, v2, e2, c2, d2, _⟩ := R2.obj i h h2
  refine hgG.go ?_
  clear hgG
  rcases hc with rfl | rfl | rfl | rfl | rfl
  ·exact ⟨_, hz, fun v q => by cases q⟩
  ·exact ⟨_, hTI, fun v q => by cases q⟩
  ·exact ⟨_, hTO, fun v q => by cases q⟩
  ·exact ⟨o1, e1, fun v q => by rw [d1] at q; cases q⟩
  ·exact ⟨o2, e2, fun v q => by rw [d2] at q; cases q⟩
 ·exact ⟨k z (by simp) _ hz, k TI (by simp) _ hTI, ⟨a, b, k TO (by simp) _ hTO⟩, R1.keep _ _ _ h1 fun o q => k i1 (by simp) o q, R2.keep _ _ _ h2 fun o q => k i2 (by simp) o q⟩
 ·intro X hP hw hK hc i pins s σ H E I hf ⟨hz, hTI, hTO, h1, h2⟩ ⟨xs, ys, q1, q2, l1, l2⟩
  refine gate' fun gG hgG => ?_
  obtain ⟨fp1, P1, St1', D1, t1, b1, r1, f1⟩ := R1.drw X hP hw hK hc i pins s σ H xs I q1 h1
  obtain ⟨fp2, P2, St2', D2, t2, b2, r2, f2⟩ := R2.drw X hP hw hK hc i pins s σ H ys I q2 h2
  have hap := ap hz hTI hTO h1 h2 f1 f2
  obtain ⟨a, b, hTO⟩ := hTO
  refine hgG.go ?_
  clear hgG
  subst hP hw
  refine wpAny_pyNext_zipD_item D1 D2 hap hz hTI hTO t1 t2 l1 l2 fun x y h' tk px py hz' hTO' hTI' g1 g2 hn hk => ?_
  refine ⟨_, rfl, wpAny_letOwnedTupleGo_zip (s := { s with heap := h', toks := tk }) hz' fun hh hzh hsh => ?_⟩
  have zlt : z < s.heap.objs.size := Heap.lt_size hz
  have ht2 : hh.get? s.heap.objs.size = some { cls := .type "tuple", data := .seq #[x, y] } := (hsh.2 _ (Nat.ne_of_gt zlt)).trans hn
  have kk : ∀ c o, c ∉ [z, TI, TO, i1, i2] → s.heap.get? c = some o → hh.get? c = some o := fun c o hc q => by
   simp only [List.mem_cons, List.not_mem_nil, or_false, not_or] at hc
   exact (hsh.2 c hc.1).trans (hk c o hc.1 hc.2.2.1 hc.2.2.2.1 hc.2.2.2.2 q)
  obtain ⟨u, hu⟩ : ∃ u, xs[i]? = some u := ⟨xs[i], List.getElem?_eq_getElem l1⟩
  obtain ⟨v, hv⟩ : ∃ v, ys[i]? = some v := ⟨ys[i], List.getElem?_eq_getElem l2⟩
  have I1 : Inv X pins σ (upd H s.heap.objs.size (.tup [u, v])) { s with heap := hh, toks := tk } := by
   refine I.turnLay hf kk (Nat.le_refl _) ⟨by show 2 ≤ sizeLine; decide, [x, y], .cons (r1 i u x hu px) (.cons (r2 i v y hv py) .nil), ?_⟩
   exact ⟨_, ht2, rfl, _, rfl⟩
  have zz : ∀ c o, c ≠ z → h'.get? c = some o → hh.get? c = some o := fun c o n q => (hsh.2 c n).trans q
  refine ⟨.ref s.heap.objs.size, _, I1, rfl, ⟨_, u, v, rfl, I.hok.fresh (Nat.le_refl _), rfl, fun xs' ys' p1 p2 => ?_⟩, ⟨hzh, zz _ _ (Ne.symm hap.zTI) hTI', ⟨_, _, zz _ _ (Ne.symm hap.zTO) hTO'⟩, R1.keep _ _ _ (b1 _ _ g1) fun o q => zz _ _ (Ne.symm hap.z1) q, R2.keep _ _ _ (b2 _ _ g2) fun o q => zz _ _ (Ne.symm hap.z2) q⟩, fun c hc => ?_⟩
  ·rw [R1.inj hK I p1 q1, R2.inj hK I p2 q2]
   exact ⟨hu, hv⟩
  ·have hc0 := (hf c hc).1
   rw [upd_ne]
   ·exact hc0
   ·intro q
    refine gate' fun gG hgG => ?_
    obtain ⟨o1, n1, v1, e1, _⟩ := R1.obj i _ h1
    obtain ⟨o2, n2, v2, e2, _⟩ := R2.obj i _ h2
    refine hgG.go ?_
    clear hgG
    have lt : c < s.heap.objs.size := by
     simp only [List.mem_cons, List.not_mem_nil, or_false] at hc
     rcases hc with rfl | rfl | rfl | rfl | rfl
     ·exact zlt
     ·exact Heap.lt_size hTI
     ·exact Heap.lt_size hTO
     ·exact Heap.lt_size e1
     ·exact Heap.lt_size e2
    exact absurd lt (by rw [q]; exact Nat.lt_irrefl _)
 ·intro X hP hw hK hc i pins s σ H E I hf ⟨hz, hTI, hTO, h1, h2⟩ ⟨xs, ys, q1, q2, le⟩
  refine gate' fun gG hgG => ?_
  obtain ⟨fp1, P1, St1', D1, t1, b1, r1, f1⟩ := R1.drw X hP hw hK hc i pins s σ H xs I q1 h1
  obtain ⟨fp2, P2, St2', D2, t2, b2, r2, f2⟩ := R2.drw X hP hw hK hc i pins s σ H ys I q2 h2
  have hap := ap hz hTI hTO h1 h2 f1 f2
  obtain ⟨a, b, hTO⟩ := hTO
  refine hgG.go ?_
  clear hgG
  subst hP hw
  refine wpAny_pyNext_zipD_end D1 D2 hap hz hTI hTO t1 t2 (by omega) fun h' tk hk => ⟨rfl, ?_⟩
  refine I.turnedL (t' := tk) hf fun c o hc q => ?_
  simp only [List.mem_cons, List.not_mem_nil, or_false, not_or] at hc
  exact hk c o hc.1 hc.2.2.1 hc.2.2.2.1 hc.2.2.2.2 q
 ·intro A i s Q E ⟨hz, _⟩ q
  exact wpAny_pyIter_zip hz q
def iZipLL (K : PySem.W.Frag) (ta : TA) : TI := fun σ H R => ta σ H fun vs H1 => ∃ a b, vs = [.ref a, .ref b] ∧ (∃ xs, SqL K H1 a xs) ∧ (∃ ys, SqL K H1 b ys) ∧ R (Itz (fun H xs => SqL K H a xs) (fun H xs => SqL K H b xs)) H1
def iZipLS (K : PySem.W.Frag) (ta : TA) : TI := fun σ H R => ta σ H fun vs H1 => ∃ a l, vs = [.ref a, .str (T l)] ∧ (∃ xs, SqL K H1 a xs) ∧ R (Itz (fun H xs => SqL K H a xs) (fun _ xs => xs = letsV l)) H1
def iZipSS (ta : TA) : TI := fun σ H R => ta σ H fun vs H1 => ∃ m l, vs = [.str (T m), .str (T l)] ∧ R (Itz (fun _ xs => xs = letsV m) (fun _ xs => xs = letsV l)) H1
theorem pi_zip {X : Cx} {es : List Expr} {x1 : _} {tp : Pos} {σ : St} {H1 : Hp} {pins : List (Addr × Obj)} {s1 : Shared} {v1 v2 : Value} {o1 o2 : Obj} {S1 S2 : Hp → List V → Prop} {St1 St2 : Nat → Heap → Prop} {R : It → Hp → Prop} (I1 : Inv X pins σ H1 s1)
  (f1 : o1.isFreed = false) (f2 : o2.isFreed = false)
  (g1 : ∀ (A : Around) (E : Value → Shared → Prop) (Q : Value → Shared → Prop), Q (.ref s1.heap.objs.size) { s1 with heap := s1.heap.push o1 } → wpAny (model X.prog X.w) A (pyIter v1) Q E s1)
  (g2 : ∀ (A : Around) (E : Value → Shared → Prop) (Q : Value → Shared → Prop), Q (.ref (s1.heap.push o1).objs.size) { s1 with heap := (s1.heap.push o1).push o2 } → wpAny (model X.prog X.w) A (pyIter v2) Q E { s1 with heap := s1.heap.push o1 })
  (R1 : Src X.prog X.w X.K S1 s1.heap.objs.size St1) (R2 : Src X.prog X.w X.K S2 (s1.heap.objs.size + 1) St2) (t1 : ∀ h : Heap, h.get? s1.heap.objs.size = some o1 → St1 0 h) (t2 : ∀ h : Heap, h.get? (s1.heap.objs.size + 1) = some o2 → St2 0 h) (q : R (Itz S1 S2) H1) :
  wpAny (model X.prog X.w) X.A (call (.type "zip") [v1, v2]) (fun v s2 => wpAny (model X.prog X.w) X.A (pyIter v) (PIE X pins σ (.Tuple es x1 tp) R) X.xe s2) X.xe s1 := by
 refine call_zipD f1 f2 g1 g2 fun h' hz hTI hTO e1 e2 hk => ?_
 have I2 : Inv X pins σ H1 { s1 with heap := h' } := I1.kept (t' := s1.toks) hk
 refine wpAny_pyIter_zip (s := { s1 with heap := h' }) hz ?_
 refine ⟨_, [s1.heap.objs.size + 4, s1.heap.objs.size + 2, s1.heap.objs.size + 3, s1.heap.objs.size, s1.heap.objs.size + 1], _, _, H1, rfl, I2, turn_zip (z := s1.heap.objs.size + 4) (TI := s1.heap.objs.size + 2) (TO := s1.heap.objs.size + 3) R1 R2 (Nat.ne_of_lt (Nat.lt_succ_self _)) (Nat.ne_of_lt (Nat.lt_succ_self _)), ⟨hz, hTI, ⟨_, _, hTO⟩, t1 _ e1, t2 _ e2⟩, fun c hc => ?_, q⟩
 have le : s1.heap.objs.size ≤ c := by
  simp only [List.mem_cons, List.not_mem_nil, or_false] at hc
  rcases hc with rfl | rfl | rfl | rfl | rfl
  ·exact Nat.le_add_right _ _
  ·exact Nat.le_add_right _ _
  ·exact Nat.le_add_right _ _
  ·exact Nat.le_refl _
  ·exact Nat.le_add_right _ _
 exact I1.fpOk le (I1.hok.fresh le)
section
variable {X : Cx} {a b : Expr} {es : List Expr} {x1 : _} {tp p pos : Pos} {ta : TA}
theorem pi_zipLL (hg : Gl X "zip") (hm : X.mg "zip" = none) (ha : PA X [a, b] ta) (hs : starEach [a, b] X.env = (false, eval a X.env) :: starEach [b] X.env := by rfl) (hs2 : starEach [b] X.env = [(false, eval b X.env)] := by rfl) : PI X (.Tuple es x1 tp) (.Call (.Name "zip" p) [a, b] [] pos) (iZipLL X.K ta) := by
 intro pins s σ H R I h
 refine Call_ (ld_blt I hg hm boot_zip (PyProof.Rows.callWith_type1 (thn (ha pos pins s σ H _ I h) fun us s1 ⟨vs, H1, I1, r1, q1⟩ => ?_) (by rw [hs, hs2]) (by rw [hs2]; rfl)))
 refine gate' fun gG hgG => ?_
 obtain ⟨l1, l2, rfl, ⟨xs, hx⟩, ⟨ys, hy⟩, q⟩ := q1
 obtain ⟨u1, u2, rfl, ru1, ru2⟩ := vals2 r1
 refine hgG.go ?_
 clear hgG
 cases (show u1 = Value.ref l1 from ru1)
 cases (show u2 = Value.ref l2 from ru2)
 refine gate' fun gG hgG => ?_
 obtain ⟨its1, _, p1, _⟩ := I1.list hx
 obtain ⟨its2, _, p2, _⟩ := I1.list hy
 refine hgG.go ?_
 clear hgG
 exact pi_zip (o1 := { cls := Value.type "list_iterator", data := Data.fields #[Value.ref l1, Value.int 0 0] }) (o2 := { cls := Value.type "list_iterator", data := Data.fields #[Value.ref l2, Value.int 0 0] }) I1 rfl rfl (fun A E Q h => wpAny_pyIter_list p1.isList h)
  (fun A E Q h => wpAny_pyIter_list (s := { s1 with heap := s1.heap.push _ }) (p2.isList.at fun o e => Heap.get?_push_of_some _ e) h) (src_list l1 _) (src_list l2 _) (fun h e => ⟨_, e, rfl, rfl⟩) (fun h e => ⟨_, e, rfl, rfl⟩) q
theorem pi_zipLS (hg : Gl X "zip") (hm : X.mg "zip" = none) (ha : PA X [a, b] ta) (hs : starEach [a, b] X.env = (false, eval a X.env) :: starEach [b] X.env := by rfl) (hs2 : starEach [b] X.env = [(false, eval b X.env)] := by rfl) : PI X (.Tuple es x1 tp) (.Call (.Name "zip" p) [a, b] [] pos) (iZipLS X.K ta) := by
 intro pins s σ H R I h
 refine Call_ (ld_blt I hg hm boot_zip (PyProof.Rows.callWith_type1 (thn (ha pos pins s σ H _ I h) fun us s1 ⟨vs, H1, I1, r1, q1⟩ => ?_) (by rw [hs, hs2]) (by rw [hs2]; rfl)))
 refine gate' fun gG hgG => ?_
 obtain ⟨l1, l, rfl, ⟨xs, hx⟩, q⟩ := q1
 obtain ⟨u1, u2, rfl, ru1, ru2⟩ := vals2 r1
 refine hgG.go ?_
 clear hgG
 cases (show u1 = Value.ref l1 from ru1)
 obtain ⟨t, rfl⟩ := (show ∃ t, u2 = Value.str (T l) t from ru2)
 obtain ⟨its1, _, p1, _⟩ := I1.list hx
 exact pi_zip (o1 := { cls := Value.type "list_iterator", data := Data.fields #[Value.ref l1, Value.int 0 0] }) (o2 := { cls := Value.type (strIterType (T l)), data := Data.fields #[Value.str (T l) t, Value.int 0 0] }) I1 rfl rfl (fun A E Q h => wpAny_pyIter_list p1.isList h)
  (fun A E Q h => wpAny_pyIter_strU (s := { s1 with heap := s1.heap.push _ }) h) (src_list l1 _) (src_str l t _) (fun h e => ⟨_, e, rfl, rfl⟩) (fun h e => ⟨_, e, rfl, rfl⟩) q
theorem pi_zipSS (hg : Gl X "zip") (hm : X.mg "zip" = none) (ha : PA X [a, b] ta) (hs : starEach [a, b] X.env = (false, eval a X.env) :: starEach [b] X.env := by rfl) (hs2 : starEach [b] X.env = [(false, eval b X.env)] := by rfl) : PI X (.Tuple es x1 tp) (.Call (.Name "zip" p) [a, b] [] pos) (iZipSS ta) := by
 intro pins s σ H R I h
 refine Call_ (ld_blt I hg hm boot_zip (PyProof.Rows.callWith_type1 (thn (ha pos pins s σ H _ I h) fun us s1 ⟨vs, H1, I1, r1, q1⟩ => ?_) (by rw [hs, hs2]) (by rw [hs2]; rfl)))
 refine gate' fun gG hgG => ?_
 obtain ⟨m, l, rfl, q⟩ := q1
 obtain ⟨u1, u2, rfl, ru1, ru2⟩ := vals2 r1
 obtain ⟨t0, rfl⟩ := (show ∃ t, u1 = Value.str (T m) t from ru1)
 obtain ⟨t, rfl⟩ := (show ∃ t, u2 = Value.str (T l) t from ru2)
 refine hgG.go ?_
 clear hgG
 exact pi_zip (o1 := { cls := Value.type (strIterType (T m)), data := Data.fields #[Value.str (T m) t0, Value.int 0 0] }) (o2 := { cls := Value.type (strIterType (T l)), data := Data.fields #[Value.str (T l) t, Value.int 0 0] }) I1 rfl rfl (fun A E Q h => wpAny_pyIter_strU h)
  (fun A E Q h => wpAny_pyIter_strU (s := { s1 with heap := s1.heap.push _ }) h) (src_str m t0 _) (src_str l t _) (fun h e => ⟨_, e, rfl, rfl⟩) (fun h e => ⟨_, e, rfl, rfl⟩) q
end
theorem for_zip {S1 S2 : Hp → List V → Prop} {xs ys : List V} {g : TG} {tb : TS} {D : Ends} {σ : St} {H : Hp} (Pv : Nat → St → Hp → Prop) (h0 : Pv 0 σ H) (hl : ∀ i σ H, Pv i σ H → S1 H xs ∧ S2 H ys)
  (hs : ∀ i u v σ H b, xs[i]? = some u → ys[i]? = some v → Pv i σ H → H b = none → g (.ref b) σ (upd H b (.tup [u, v])) fun σ2 H2 => tb { D with nx := Pv (i + 1), ct := Pv (i + 1), bk := D.nx } σ2 H2) (hd : ∀ σ H, Pv (min xs.length ys.length) σ H → D.nx σ H) :
  ∃ W : Nat → Nat → St → Hp → Prop, (∃ m, W 0 m σ H) ∧ ∀ i m σ H, W i m σ H →
   ((Itz S1 S2).stop i H ∧ D.nx σ H) ∨ ((Itz S1 S2).go i H ∧ ∃ N : St → Hp → Prop, (∀ σ' H', N σ' H' → ∃ m', m' < m ∧ W (i + 1) m' σ' H') ∧ ∀ x H', (Itz S1 S2).yld i H x H' → g x σ H' fun σ2 H2 => tb { D with nx := N, ct := N, bk := D.nx } σ2 H2) := by
 refine ⟨fun i m σ H => m = min xs.length ys.length - i ∧ i ≤ min xs.length ys.length ∧ Pv i σ H, ⟨min xs.length ys.length, by simp, Nat.zero_le _, h0⟩, ?_⟩
 rintro i m σ H ⟨rfl, hi, p⟩
 obtain ⟨q1, q2⟩ := hl i σ H p
 by_cases hlt : i < min xs.length ys.length
 ·refine .inr ⟨⟨xs, ys, q1, q2, by omega, by omega⟩, Pv (i + 1), fun σ' H' p' => ⟨min xs.length ys.length - (i + 1), by omega, rfl, hlt, p'⟩, fun x H' y => ?_⟩
  refine gate' fun gG hgG => ?_
  obtain ⟨b, u, v, rfl, hb, rfl, hv⟩ := y
  obtain ⟨e1, e2⟩ := hv xs ys q1 q2
  refine hgG.go ?_
  clear hgG
  exact hs i u v σ H b e1 e2 p hb
 ·have e : i = min xs.length ys.length := by omega
  subst e
  exact .inl ⟨⟨xs, ys, q1, q2, rfl⟩, hd σ H p⟩
end L2
namespace WM
def isL (p c : Nat) : Bool := decide (c = tn 1 p)
def isR (p c : Nat) : Bool := decide (c = tn 3 p)
def cntT (f : Nat → Nat → Bool) : Nat → List Nat → Nat
 | _, [] => 0
 | p, c :: l => (if f p c = true then 1 else 0) + cntT f c l
def lastD (p : Nat) : List Nat → Nat
 | [] => p
 | c :: l => lastD c l
theorem lastD_append : ∀ (a b : List Nat) (p : Nat), lastD p (a ++ b) = lastD (lastD p a) b
 | [], _, _ => rfl
 | c :: a, b, _ => lastD_append a b c
theorem lastD_snoc (a : List Nat) (p c : Nat) : lastD p (a ++ [c]) = c := by
 rw [lastD_append]
 rfl
theorem lastD_any {a : List Nat} (h : a ≠ []) (p q : Nat) : lastD p a = lastD q a := by
 cases a with
 | nil => exact absurd rfl h
 | cons c a => rfl
theorem cntT_append (f : Nat → Nat → Bool) : ∀ (a b : List Nat) (p : Nat), cntT f p (a ++ b) = cntT f p a + cntT f (lastD p a) b
 | [], b, p => by show cntT f p b = 0 + cntT f p b; omega
 | c :: a, b, p => by
  show (if f p c = true then 1 else 0) + cntT f c (a ++ b) = (if f p c = true then 1 else 0) + cntT f c a + cntT f (lastD c a) b
  rw [cntT_append f a b c]
  omega
def cycT (f : Nat → Nat → Bool) (l : List Nat) : Nat := cntT f (lastD 0 l) l
theorem cycT_swap (f : Nat → Nat → Bool) (a b : List Nat) : cycT f (a ++ b) = cycT f (b ++ a) := by
 unfold cycT
 rw [cntT_append, cntT_append, lastD_append, lastD_append]
 by_cases ha : a = []
 ·subst ha
  show 0 + cntT f (lastD (lastD 0 b) []) b = cntT f _ b + 0
  show 0 + cntT f (lastD 0 b) b = cntT f (lastD 0 b) b + 0
  omega
 ·by_cases hb : b = []
  ·subst hb
   show cntT f (lastD 0 a) a + 0 = 0 + cntT f (lastD 0 a) a
   omega
  ·rw [lastD_any ha (lastD (lastD 0 a) b) 0, lastD_any hb (lastD 0 a) 0, lastD_any ha (lastD 0 b) 0, lastD_any hb (lastD 0 a) 0]
   omega
theorem cycT_rotL (f : Nat → Nat → Bool) (k : Nat) (l : List Nat) : cycT f (rotL k l) = cycT f l := by
 unfold rotL
 rw [cycT_swap, List.take_append_drop]
theorem lastD_map (g : Nat → Nat) : ∀ (l : List Nat) (p : Nat), lastD (g p) (l.map g) = g (lastD p l)
 | [], _ => rfl
 | c :: l, _ => lastD_map g l c
theorem cntT_map {f h : Nat → Nat → Bool} {g : Nat → Nat} (e : ∀ p c, Lt p → Lt c → f (g p) (g c) = h p c) : ∀ {l : List Nat} {p : Nat}, IsW l → Lt p → cntT f (g p) (l.map g) = cntT h p l
 | [], _, _, _ => rfl
 | c :: l, p, hl, hp => by
  obtain ⟨h1, h2⟩ := isW_cons.mp hl
  show (if f (g p) (g c) = true then 1 else 0) + cntT f (g c) (l.map g) = (if h p c = true then 1 else 0) + cntT h c l
  rw [e p c hp h1, cntT_map e h2 h1]
theorem lt_lastD : ∀ {l : List Nat} {p : Nat}, IsW l → (l = [] → Lt p) → Lt (lastD p l)
 | [], _, _, h => h rfl
 | c :: l, _, hl, _ => by
  obtain ⟨h1, h2⟩ := isW_cons.mp hl
  exact lt_lastD (l := l) (p := c) h2 fun _ => h1
theorem cycT_map {f h : Nat → Nat → Bool} {g : Nat → Nat} (e : ∀ p c, Lt p → Lt c → f (g p) (g c) = h p c) {l : List Nat} (hl : IsW l) : cycT f (l.map g) = cycT h l := by
 cases l with
 | nil => rfl
 | cons c l =>
  have h1 := (isW_cons.mp hl).1
  have e1 : lastD 0 ((c :: l).map g) = g (lastD 0 (c :: l)) := lastD_map g l c
  unfold cycT
  rw [e1]
  exact cntT_map e hl (lt_lastD hl fun z => nomatch z)
theorem isL_tn {q p c : Nat} (_ : Lt p) (hc : Lt c) : isL (tn q p) (tn q c) = isL p c := by
 unfold isL
 rw [tn_tn]
 congr 1
 refine propext ⟨fun h => ?_, fun h => ?_⟩
 ·have := congrArg (tn ((3 * q) % 4)) h
  rw [tn_tn, tn_tn] at this
  have e1 : ((3 * q) % 4 + q) % 4 = 0 := by omega
  have e2 : ((3 * q) % 4 + (1 + q) % 4) % 4 = 1 := by omega
  rw [e1, e2, tn_zero hc] at this
  exact this
 ·rw [h, tn_tn]
  congr 1
  omega
theorem isR_tn {q p c : Nat} (_ : Lt p) (hc : Lt c) : isR (tn q p) (tn q c) = isR p c := by
 unfold isR
 rw [tn_tn]
 congr 1
 refine propext ⟨fun h => ?_, fun h => ?_⟩
 ·have := congrArg (tn ((3 * q) % 4)) h
  rw [tn_tn, tn_tn] at this
  have e1 : ((3 * q) % 4 + q) % 4 = 0 := by omega
  have e2 : ((3 * q) % 4 + (3 + q) % 4) % 4 = 3 := by omega
  rw [e1, e2, tn_zero hc] at this
  exact this
 ·rw [h, tn_tn]
  congr 1
  omega
theorem isL_mir {p c : Nat} (hp : Lt p) (hc : Lt c) : isL (mir p) (mir c) = isR p c := by
 rcases hp with rfl | rfl | rfl | rfl <;> (rcases hc with rfl | rfl | rfl | rfl <;> decide)
theorem isR_mir {p c : Nat} (hp : Lt p) (hc : Lt c) : isR (mir p) (mir c) = isL p c := by
 rcases hp with rfl | rfl | rfl | rfl <;> (rcases hc with rfl | rfl | rfl | rfl <;> decide)
theorem isL_swap {p c : Nat} (hp : Lt p) (hc : Lt c) : isL c p = isR p c := by
 rcases hp with rfl | rfl | rfl | rfl <;> (rcases hc with rfl | rfl | rfl | rfl <;> decide)
theorem isR_swap {p c : Nat} (hp : Lt p) (hc : Lt c) : isR c p = isL p c := by
 rcases hp with rfl | rfl | rfl | rfl <;> (rcases hc with rfl | rfl | rfl | rfl <;> decide)
theorem cntT_reverse {f h : Nat → Nat → Bool} (e : ∀ p c, Lt p → Lt c → f c p = h p c) : ∀ {l : List Nat} {p : Nat}, IsW l → Lt p → cntT f (lastD p l) ((p :: l).reverse.drop 1) = cntT h p l
 | [], _, _, _ => rfl
 | c :: l, p, hl, hp => by
  obtain ⟨h1, h2⟩ := isW_cons.mp hl
  have ih := cntT_reverse e h2 h1
  have e1 : (p :: c :: l).reverse.drop 1 = (c :: l).reverse.drop 1 ++ [p] := by
   rw [List.reverse_cons, List.drop_append_of_le_length (by rw [List.length_reverse, List.length_cons]; omega)]
  have e2 : lastD p (c :: l) = lastD c l := rfl
  rw [e1, e2, cntT_append, ih]
  have e3 : lastD (lastD c l) ((c :: l).reverse.drop 1) = c := by
   cases l with
   | nil => rfl
   | cons d l =>
    rw [List.reverse_cons, List.drop_append_of_le_length (by rw [List.length_reverse, List.length_cons]; omega), lastD_snoc]
  rw [e3]
  show cntT h c l + ((if f c p = true then 1 else 0) + 0) = (if h p c = true then 1 else 0) + cntT h c l
  rw [e p c hp h1]
  omega
theorem cycT_reverse {f h : Nat → Nat → Bool} (e : ∀ p c, Lt p → Lt c → f c p = h p c) {l : List Nat} (hl : IsW l) : cycT f l.reverse = cycT h l := by
 cases l with
 | nil => rfl
 | cons c l =>
  obtain ⟨h1, h2⟩ := isW_cons.mp hl
  have key := cntT_reverse e h2 h1
  have hz : lastD c l = lastD 0 (c :: l) := rfl
  have hlast : Lt (lastD c l) := lt_lastD h2 fun _ => h1
  have e0 : lastD 0 (c :: l).reverse = c := by rw [List.reverse_cons, lastD_snoc]
  unfold cycT
  rw [e0, ← hz]
  show _ = (if h (lastD c l) c = true then 1 else 0) + cntT h c l
  rw [← key]
  have er : (c :: l).reverse = lastD c l :: (c :: l).reverse.drop 1 := by
   have gen : ∀ (l : List Nat) (c : Nat), (c :: l).reverse = lastD c l :: (c :: l).reverse.drop 1 := by
    intro l
    induction l with
    | nil => intro c; rfl
    | cons d l ih =>
     intro c
     have e1 : (c :: d :: l).reverse = (d :: l).reverse ++ [c] := List.reverse_cons
     have e2 := ih d
     rw [e1]
     show (d :: l).reverse ++ [c] = lastD d l :: ((d :: l).reverse ++ [c]).drop 1
     rw [List.drop_append_of_le_length (by rw [List.length_reverse, List.length_cons]; omega)]
     calc (d :: l).reverse ++ [c] = (lastD d l :: (d :: l).reverse.drop 1) ++ [c] := by rw [← e2]
      _ = _ := rfl
   exact gen l c
  rw [er]
  show (if f c (lastD c l) = true then 1 else 0) + cntT f (lastD c l) ((c :: l).reverse.drop 1) = _
  rw [e (lastD c l) c hlast h1, ← er]
theorem turnsL_backL {l : List Nat} (h : IsW l) : cycT isL (backL l) = cycT isR l := by
 unfold backL turnL
 rw [cycT_map (h := isL) (fun p c hp hc => isL_tn hp hc) (isW_reverse.mpr h)]
 exact cycT_reverse (fun p c hp hc => isL_swap hp hc) h
theorem turnsR_backL {l : List Nat} (h : IsW l) : cycT isR (backL l) = cycT isL l := by
 unfold backL turnL
 rw [cycT_map (h := isR) (fun p c hp hc => isR_tn hp hc) (isW_reverse.mpr h)]
 exact cycT_reverse (fun p c hp hc => isR_swap hp hc) h
theorem turnsL_mirL {l : List Nat} (h : IsW l) : cycT isL (mirL l) = cycT isR l := cycT_map (fun _ _ hp hc => isL_mir hp hc) h
theorem turnsR_mirL {l : List Nat} (h : IsW l) : cycT isR (mirL l) = cycT isL l := cycT_map (fun _ _ hp hc => isR_mir hp hc) h
theorem turnsL_turnL {q : Nat} {l : List Nat} (h : IsW l) : cycT isL (turnL q l) = cycT isL l := cycT_map (fun _ _ hp hc => isL_tn hp hc) h
theorem turnsR_turnL {q : Nat} {l : List Nat} (h : IsW l) : cycT isR (turnL q l) = cycT isR l := cycT_map (fun _ _ hp hc => isR_tn hp hc) h
end WM
namespace WM
def trail : Pt → List Nat → List Pt
 | _, [] => []
 | p, c :: l => stepP p c :: trail (stepP p c) l
theorem places_trail : ∀ (l : List Nat) (p : Pt), placesP p l = p :: trail p l
 | [], _ => rfl
 | c :: l, p => by
  show p :: placesP (stepP p c) l = p :: stepP p c :: trail (stepP p c) l
  rw [places_trail l]
theorem trail_append : ∀ (a b : List Nat) (p : Pt), trail p (a ++ b) = trail p a ++ trail (goP p a) b
 | [], _, _ => rfl
 | c :: a, b, p => by
  show stepP p c :: trail (stepP p c) (a ++ b) = stepP p c :: (trail (stepP p c) a ++ trail (goP (stepP p c) a) b)
  rw [trail_append a b]
theorem trail_last : ∀ {l : List Nat} {p : Pt}, l ≠ [] → ∃ pre, trail p l = pre ++ [goP p l]
 | [], _, h => absurd rfl h
 | [c], p, _ => ⟨[], rfl⟩
 | c :: d :: l, p, _ => by
  obtain ⟨pre, e⟩ := trail_last (l := d :: l) (p := stepP p c) (fun z => nomatch z)
  exact ⟨stepP p c :: pre, by show stepP p c :: trail (stepP p c) (d :: l) = _; rw [e]; rfl⟩
theorem goP_rep (p : Pt) (c : Nat) : ∀ k : Nat, goP p (List.replicate k c) = (p.1 + (k : Int) * (vec c).1, p.2 + (k : Int) * (vec c).2) := by
 intro k
 rw [goP_add, posOf_replicate]
theorem trail_rep_mem {c : Nat} : ∀ {k : Nat} {p q : Pt}, q ∈ trail p (List.replicate k c) → ∃ j : Nat, 1 ≤ j ∧ j ≤ k ∧ q = (p.1 + (j : Int) * (vec c).1, p.2 + (j : Int) * (vec c).2)
 | 0, _, _, h => nomatch h
 | k + 1, p, q, h => by
  rw [List.replicate_succ] at h
  rcases List.mem_cons.mp h with rfl | h
  ·exact ⟨1, Nat.le_refl _, by omega, by rw [stepP_vec]; simp⟩
  ·obtain ⟨j, h1, h2, rfl⟩ := trail_rep_mem h
   refine ⟨j + 1, by omega, by omega, ?_⟩
   rw [stepP_vec]
   refine Prod.ext ?_ ?_
   ·show p.1 + (vec c).1 + (j : Int) * (vec c).1 = p.1 + ((j + 1 : Nat) : Int) * (vec c).1
    rw [Int.natCast_add, Int.add_mul]
    simp
    omega
   ·show p.2 + (vec c).2 + (j : Int) * (vec c).2 = p.2 + ((j + 1 : Nat) : Int) * (vec c).2
    rw [Int.natCast_add, Int.add_mul]
    simp
    omega
theorem vec_nz {c : Nat} : ¬ ((vec c).1 = 0 ∧ (vec c).2 = 0) := by
 unfold vec
 split
 ·decide
 ·split
  ·decide
  ·split <;> decide
theorem trail_rep_nodup (c : Nat) : ∀ (k : Nat) (p : Pt), (trail p (List.replicate k c)).Nodup
 | 0, _ => List.nodup_nil
 | k + 1, p => by
  rw [List.replicate_succ]
  refine List.nodup_cons.mpr ⟨fun h => ?_, trail_rep_nodup c k _⟩
  obtain ⟨j, h1, _, e⟩ := trail_rep_mem h
  have e1 : (j : Int) * (vec c).1 = 0 := by
   have := congrArg Prod.fst e
   dsimp only at this
   omega
  have e2 : (j : Int) * (vec c).2 = 0 := by
   have := congrArg Prod.snd e
   dsimp only at this
   omega
  refine vec_nz (c := c) ⟨?_, ?_⟩
  ·rcases Int.mul_eq_zero.mp e1 with z | z
   ·omega
   ·exact z
  ·rcases Int.mul_eq_zero.mp e2 with z | z
   ·omega
   ·exact z
def vert (b t : Nat) : List Nat := if b < t then List.replicate (t - b) 110 else List.replicate (b - t) 115
def tops : List Nat → List Nat
 | [] => []
 | b :: r => 119 :: (vert b (r.headD 0) ++ tops r)
def rimB (rb : List Nat) : List Nat := List.replicate rb.length 101 ++ (List.replicate (rb.headD 0) 110 ++ tops rb)
theorem isW_vert (b t : Nat) : IsW (vert b t) := by
 unfold vert
 split
 ·exact isW_replicate (.inl rfl)
 ·exact isW_replicate (.inr (.inr (.inl rfl)))
theorem isW_tops : ∀ rb : List Nat, IsW (tops rb)
 | [] => isW_nil
 | _ :: r => isW_cons.mpr ⟨.inr (.inl rfl), isW_append.mpr ⟨isW_vert _ _, isW_tops r⟩⟩
theorem isW_rimB (rb : List Nat) : IsW (rimB rb) := isW_append.mpr ⟨isW_replicate (.inr (.inr (.inr rfl))), isW_append.mpr ⟨isW_replicate (.inl rfl), isW_tops rb⟩⟩
theorem go_vert (x : Int) (b t : Nat) : goP (x, (b : Int)) (vert b t) = (x, (t : Int)) := by
 unfold vert
 split
 ·rw [goP_rep]
  refine Prod.ext ?_ ?_
  ·show x + ((t - b : Nat) : Int) * 0 = x
   omega
  ·show (b : Int) + ((t - b : Nat) : Int) * 1 = t
   omega
 ·rw [goP_rep]
  refine Prod.ext ?_ ?_
  ·show x + ((b - t : Nat) : Int) * 0 = x
   omega
  ·show (b : Int) + ((b - t : Nat) : Int) * (-1) = t
   omega
theorem step_w (x y : Int) : stepP (x + 1, y) 119 = (x, y) := by
 show (x + 1 - 1, y) = (x, y)
 refine Prod.ext ?_ rfl
 show x + 1 - 1 = x
 omega
theorem go_tops : ∀ rb : List Nat, goP ((rb.length : Int), ((rb.headD 0 : Nat) : Int)) (tops rb) = (0, 0)
 | [] => rfl
 | b :: r => by
  show goP (((r.length + 1 : Nat) : Int), (b : Int)) (119 :: (vert b (r.headD 0) ++ tops r)) = _
  rw [goP_cons, Int.natCast_add]
  show goP (stepP ((r.length : Int) + 1, (b : Int)) 119) _ = _
  rw [step_w, goP_append, go_vert]
  exact go_tops r
theorem go_ground (rb : List Nat) : goP (0, 0) (List.replicate rb.length 101) = ((rb.length : Int), 0) := by
 rw [goP_rep]
 refine Prod.ext ?_ ?_
 ·show 0 + (rb.length : Int) * 1 = _
  omega
 ·show 0 + (rb.length : Int) * 0 = _
  omega
theorem go_wall (x : Int) (b : Nat) : goP (x, 0) (List.replicate b 110) = (x, (b : Int)) := by
 rw [goP_rep]
 refine Prod.ext ?_ ?_
 ·show x + (b : Int) * 0 = _
  omega
 ·show 0 + (b : Int) * 1 = _
  omega
theorem closed_rimB (rb : List Nat) : posOf (rimB rb) = (0, 0) := by
 show goP (0, 0) (rimB rb) = _
 unfold rimB
 rw [goP_append, go_ground, goP_append, go_wall, go_tops]
theorem sumC_rep0 {f : Pt → Nat → Int} {c : Nat} (h : ∀ p, f p c = 0) : ∀ (k : Nat) (p : Pt), sumC f p (List.replicate k c) = 0
 | 0, _ => rfl
 | k + 1, p => by
  rw [List.replicate_succ]
  show f p c + sumC f _ _ = 0
  rw [h, sumC_rep0 h k]
  rfl
theorem north_vert (q : Pt) (b t : Nat) (p : Pt) : sumC (northC q) p (vert b t) = 0 := by
 unfold vert
 split
 ·exact sumC_rep0 (f := northC q) (c := 110) (fun p => rfl) _ _
 ·exact sumC_rep0 (f := northC q) (c := 115) (fun p => rfl) _ _
theorem north_tops (q : Pt) : ∀ rb : List Nat, sumC (northC q) ((rb.length : Int), ((rb.headD 0 : Nat) : Int)) (tops rb) = if 0 ≤ q.1 ∧ q.1 < (rb.length : Int) then b01 (decide (q.2 < ((rb.reverse.getD q.1.toNat 0 : Nat) : Int))) else 0
 | [] => by
  rw [if_neg]
  ·rfl
  ·intro h
   have : (([] : List Nat).length : Int) = 0 := rfl
   omega
 | b :: r => by
  have ih := north_tops q r
  show sumC (northC q) (((r.length + 1 : Nat) : Int), (b : Int)) (119 :: (vert b (r.headD 0) ++ tops r)) = _
  rw [Int.natCast_add]
  show northC q ((r.length : Int) + 1, (b : Int)) 119 + sumC (northC q) (stepP ((r.length : Int) + 1, (b : Int)) 119) (vert b (r.headD 0) ++ tops r) = _
  rw [step_w, sumC_append, north_vert, go_vert, ih]
  have e1 : northC q ((r.length : Int) + 1, (b : Int)) 119 = b01 (decide (q.2 < (b : Int) ∧ (r.length : Int) + 1 - 1 = q.1)) := rfl
  rw [e1]
  have el : ((b :: r).length : Int) = (r.length : Int) + 1 := by rw [List.length_cons]; omega
  rw [el]
  by_cases hq : q.1 = (r.length : Int)
  ·rw [if_neg (by omega), if_pos (by omega)]
   have e2 : (b :: r).reverse.getD q.1.toNat 0 = b := by
    rw [hq, List.reverse_cons, List.getD_eq_getElem?_getD, List.getElem?_append_right (by rw [List.length_reverse]; omega), List.length_reverse]
    simp
   rw [e2]
   have e3 : decide (q.2 < (b : Int) ∧ (r.length : Int) + 1 - 1 = q.1) = decide (q.2 < (b : Int)) := by
    congr 1
    refine propext ⟨fun h => h.1, fun h => ⟨h, by omega⟩⟩
   rw [e3]
   omega
  ·have e3 : decide (q.2 < (b : Int) ∧ (r.length : Int) + 1 - 1 = q.1) = false := decide_eq_false fun h => hq (by omega)
   rw [e3]
   by_cases hr : 0 ≤ q.1 ∧ q.1 < (r.length : Int)
   ·rw [if_pos hr, if_pos (by omega)]
    have e2 : (b :: r).reverse.getD q.1.toNat 0 = r.reverse.getD q.1.toNat 0 := by
     rw [List.reverse_cons, List.getD_eq_getElem?_getD, List.getElem?_append_left (by rw [List.length_reverse]; omega), ← List.getD_eq_getElem?_getD]
    rw [e2]
    show 0 + (0 + _) = _
    omega
   ·rw [if_neg hr, if_neg (by omega)]
    rfl
theorem north_ground (q : Pt) : ∀ (k : Nat) (x : Int), sumC (northC q) (x, 0) (List.replicate k 101) = if x ≤ q.1 ∧ q.1 < x + (k : Int) then -b01 (decide (q.2 < 0)) else 0
 | 0, x => by
  rw [if_neg (by omega)]
  rfl
 | k + 1, x => by
  rw [List.replicate_succ]
  have ih := north_ground q k (x + 1)
  show northC q (x, 0) 101 + sumC (northC q) (stepP (x, 0) 101) (List.replicate k 101) = _
  have e0 : stepP (x, 0) 101 = (x + 1, 0) := rfl
  have e1 : northC q (x, 0) 101 = -b01 (decide (q.2 < 0 ∧ x = q.1)) := rfl
  rw [e0, e1, ih]
  by_cases hx : x = q.1
  ·rw [if_neg (by omega), if_pos (by omega)]
   have e3 : decide (q.2 < 0 ∧ x = q.1) = decide (q.2 < 0) := by
    congr 1
    exact propext ⟨fun h => h.1, fun h => ⟨h, hx⟩⟩
   rw [e3]
   omega
  ·have e3 : decide (q.2 < 0 ∧ x = q.1) = false := decide_eq_false fun h => hx h.2
   rw [e3]
   by_cases hr : x + 1 ≤ q.1 ∧ q.1 < x + 1 + (k : Int)
   ·rw [if_pos hr, if_pos (by omega)]
    show -(0 : Int) + _ = _
    omega
   ·rw [if_neg hr, if_neg (by omega)]
    rfl
theorem around_rimB (q : Pt) (rb : List Nat) : aroundE q (rimB rb) = if 0 ≤ q.1 ∧ q.1 < (rb.length : Int) then b01 (decide (0 ≤ q.2 ∧ q.2 < ((rb.reverse.getD q.1.toNat 0 : Nat) : Int))) else 0 := by
 rw [around_both (isW_rimB rb) (closed_rimB rb)]
 unfold aroundN rimB
 rw [sumC_append, sumC_append, go_ground, go_wall, north_tops, north_ground, sumC_rep0 (f := northC q) (c := 110) (fun p => rfl)]
 by_cases h : 0 ≤ q.1 ∧ q.1 < (rb.length : Int)
 ·rw [if_pos h, if_pos h, if_pos (by omega)]
  unfold b01
  simp only [decide_eq_true_eq]
  repeat' split
  all_goals omega
 ·rw [if_neg h, if_neg h, if_neg (by omega)]
  rfl
theorem trail_vert {x : Int} {b t : Nat} {q : Pt} (h : q ∈ trail (x, (b : Int)) (vert b t)) : q.1 = x ∧ ((b : Int) < q.2 ∧ q.2 ≤ (t : Int) ∨ (t : Int) ≤ q.2 ∧ q.2 < (b : Int)) := by
 unfold vert at h
 split at h
 ·obtain ⟨j, h1, h2, rfl⟩ := trail_rep_mem h
  refine ⟨?_, .inl ?_⟩
  ·show x + (j : Int) * 0 = x
   omega
  ·show (b : Int) < (b : Int) + (j : Int) * 1 ∧ (b : Int) + (j : Int) * 1 ≤ t
   omega
 ·obtain ⟨j, h1, h2, rfl⟩ := trail_rep_mem h
  refine ⟨?_, .inr ?_⟩
  ·show x + (j : Int) * 0 = x
   omega
  ·show (t : Int) ≤ (b : Int) + (j : Int) * (-1) ∧ (b : Int) + (j : Int) * (-1) < b
   omega
theorem nodup_vert (p : Pt) (b t : Nat) : (trail p (vert b t)).Nodup := by
 unfold vert
 split <;> exact trail_rep_nodup _ _ _
def Pos1 (rb : List Nat) : Prop := ∀ b ∈ rb, 1 ≤ b
theorem trail_tops : ∀ {rb : List Nat} {q : Pt}, Pos1 rb → q ∈ trail ((rb.length : Int), ((rb.headD 0 : Nat) : Int)) (tops rb) → 0 ≤ q.1 ∧ q.1 < (rb.length : Int) ∧ 0 ≤ q.2 ∧ (q.2 = 0 → q = (0, 0))
 | [], _, _, h => nomatch h
 | b :: r, q, hp, h => by
  have hb : 1 ≤ b := hp b List.mem_cons_self
  have hr : Pos1 r := fun x hx => hp x (List.mem_cons_of_mem _ hx)
  have el : ((b :: r).length : Int) = (r.length : Int) + 1 := by rw [List.length_cons]; omega
  rw [el] at h ⊢
  have h' : q ∈ stepP ((r.length : Int) + 1, (b : Int)) 119 :: trail (stepP ((r.length : Int) + 1, (b : Int)) 119) (vert b (r.headD 0) ++ tops r) := h
  rw [step_w, trail_append, go_vert] at h'
  have hh : r = [] ∨ 1 ≤ r.headD 0 := by
   cases r with
   | nil => exact .inl rfl
   | cons c r => exact .inr (hr c List.mem_cons_self)
  rcases List.mem_cons.mp h' with rfl | h'
  ·exact ⟨Int.natCast_nonneg _, by show (r.length : Int) < _; omega, by show (0 : Int) ≤ (b : Int); omega, fun z => by have z' : (b : Int) = 0 := z; omega⟩
  ·rcases List.mem_append.mp h' with h' | h'
   ·obtain ⟨e1, e2⟩ := trail_vert h'
    refine ⟨by omega, by omega, by omega, fun z => ?_⟩
    rcases hh with rfl | hh
    ·refine Prod.ext ?_ z
     rw [e1]
     rfl
    ·omega
   ·obtain ⟨i1, i2, i3, i4⟩ := trail_tops hr h'
    exact ⟨i1, by omega, i3, i4⟩
theorem nodup_tops : ∀ {rb : List Nat}, Pos1 rb → (trail ((rb.length : Int), ((rb.headD 0 : Nat) : Int)) (tops rb)).Nodup
 | [], _ => List.nodup_nil
 | b :: r, hp => by
  have hr : Pos1 r := fun x hx => hp x (List.mem_cons_of_mem _ hx)
  have el : ((b :: r).length : Int) = (r.length : Int) + 1 := by rw [List.length_cons]; omega
  rw [el]
  show (stepP ((r.length : Int) + 1, (b : Int)) 119 :: trail (stepP ((r.length : Int) + 1, (b : Int)) 119) (vert b (r.headD 0) ++ tops r)).Nodup
  rw [step_w, trail_append, go_vert]
  refine List.nodup_cons.mpr ⟨fun h => ?_, List.nodup_append.mpr ⟨nodup_vert _ _ _, nodup_tops hr, fun x hx y hy e => ?_⟩⟩
  ·rcases List.mem_append.mp h with h | h
   ·obtain ⟨_, e2⟩ := trail_vert h
    dsimp only at e2
    omega
   ·obtain ⟨_, i2, _⟩ := trail_tops hr h
    dsimp only at i2
    omega
  ·subst e
   obtain ⟨e1, _⟩ := trail_vert hx
   obtain ⟨_, i2, _⟩ := trail_tops hr hy
   omega
theorem nodup_rimB {rb : List Nat} (hp : Pos1 rb) : (trail (0, 0) (rimB rb)).Nodup := by
 unfold rimB
 rw [trail_append, trail_append, go_ground, go_wall]
 have hg : ∀ q, q ∈ trail (0, 0) (List.replicate rb.length 101) → 1 ≤ q.1 ∧ q.1 ≤ (rb.length : Int) ∧ q.2 = 0 := by
  intro q h
  obtain ⟨j, h1, h2, rfl⟩ := trail_rep_mem h
  refine ⟨?_, ?_, ?_⟩
  ·show 1 ≤ 0 + (j : Int) * 1
   omega
  ·show 0 + (j : Int) * 1 ≤ _
   omega
  ·show 0 + (j : Int) * 0 = 0
   omega
 have hw : ∀ q, q ∈ trail ((rb.length : Int), 0) (List.replicate (rb.headD 0) 110) → q.1 = (rb.length : Int) ∧ 1 ≤ q.2 := by
  intro q h
  obtain ⟨j, h1, h2, rfl⟩ := trail_rep_mem h
  refine ⟨?_, ?_⟩
  ·show (rb.length : Int) + (j : Int) * 0 = _
   omega
  ·show 1 ≤ 0 + (j : Int) * 1
   omega
 refine List.nodup_append.mpr ⟨trail_rep_nodup _ _ _, List.nodup_append.mpr ⟨trail_rep_nodup _ _ _, nodup_tops hp, fun x hx y hy e => ?_⟩, fun x hx y hy e => ?_⟩
 ·subst e
  obtain ⟨e1, e2⟩ := hw x hx
  obtain ⟨_, i2, _⟩ := trail_tops hp hy
  omega
 ·subst e
  obtain ⟨g1, g2, g3⟩ := hg x hx
  rcases List.mem_append.mp hy with hy | hy
  ·obtain ⟨e1, e2⟩ := hw x hy
   omega
  ·obtain ⟨_, _, _, i4⟩ := trail_tops hp hy
   have := i4 g3
   have : x.1 = 0 := congrArg Prod.fst this
   omega
end WM
namespace WM
def ia (c : Nat) : Int := if c = 101 then 0 else if c = 110 then 1 else if c = 119 then 2 else 3
def Al (p c : Nat) : Prop := p = c ∨ (p = 101 ∧ c = 110) ∨ (p = 110 ∧ c = 119) ∨ (p = 119 ∧ c = 110) ∨ (p = 119 ∧ c = 115) ∨ (p = 115 ∧ c = 119)
def okT : Nat → List Nat → Prop
 | _, [] => True
 | p, c :: l => Al p c ∧ okT c l
theorem okT_append : ∀ {a b : List Nat} {p : Nat}, okT p a → okT (lastD p a) b → okT p (a ++ b)
 | [], _, _, _, h => h
 | _ :: a, _, _, h1, h2 => ⟨h1.1, okT_append (a := a) h1.2 h2⟩
theorem okT_rep {c : Nat} : ∀ (k : Nat) {p : Nat}, (1 ≤ k → Al p c) → okT p (List.replicate k c)
 | 0, _, _ => trivial
 | k + 1, p, h => ⟨h (by omega), okT_rep k (p := c) fun _ => .inl rfl⟩
def ne (p c : Nat) : Bool := decide (¬ c = p)
theorem al_turn {p c : Nat} (hp : Lt p) (h : Al p c) : ((if isL p c = true then 1 else 0 : Nat) : Int) - ((if isR p c = true then 1 else 0 : Nat) : Int) = ia c - ia p ∧ (if isL p c = true then 1 else 0) + (if isR p c = true then 1 else 0) = if ne p c = true then 1 else 0 := by
 rcases h with rfl | ⟨rfl, rfl⟩ | ⟨rfl, rfl⟩ | ⟨rfl, rfl⟩ | ⟨rfl, rfl⟩ | ⟨rfl, rfl⟩
 ·rcases hp with rfl | rfl | rfl | rfl <;> decide
 ·decide
 ·decide
 ·decide
 ·decide
 ·decide
theorem okT_turn : ∀ {l : List Nat} {p : Nat}, Lt p → IsW l → okT p l → (cntT isL p l : Int) - (cntT isR p l : Int) = ia (lastD p l) - ia p ∧ cntT isL p l + cntT isR p l = cntT ne p l
 | [], p, _, _, _ => by
  refine ⟨?_, rfl⟩
  show (0 : Int) - 0 = ia p - ia p
  omega
 | c :: l, p, hp, hl, h => by
  obtain ⟨h1, h2⟩ := isW_cons.mp hl
  obtain ⟨i1, i2⟩ := okT_turn h1 h2 h.2
  obtain ⟨a1, a2⟩ := al_turn hp h.1
  constructor
  ·show (((if isL p c = true then 1 else 0) + cntT isL c l : Nat) : Int) - (((if isR p c = true then 1 else 0) + cntT isR c l : Nat) : Int) = ia (lastD c l) - ia p
   rw [Int.natCast_add, Int.natCast_add]
   omega
  ·show (if isL p c = true then 1 else 0) + cntT isL c l + ((if isR p c = true then 1 else 0) + cntT isR c l) = (if ne p c = true then 1 else 0) + cntT ne c l
   omega
theorem lastD_rep (c : Nat) : ∀ (k : Nat) (p : Nat), lastD p (List.replicate k c) = if k = 0 then p else c
 | 0, _ => rfl
 | k + 1, p => by
  rw [if_neg (by omega), List.replicate_succ]
  show lastD c (List.replicate k c) = c
  rw [lastD_rep c k c]
  split <;> rfl
theorem okT_vert (b t : Nat) : okT 119 (vert b t) := by
 unfold vert
 split
 ·exact okT_rep _ fun _ => .inr (.inr (.inr (.inl ⟨rfl, rfl⟩)))
 ·exact okT_rep _ fun _ => .inr (.inr (.inr (.inr (.inl ⟨rfl, rfl⟩))))
theorem lastD_vert (b t : Nat) : lastD 119 (vert b t) = if b < t then 110 else if b = t then 119 else 115 := by
 unfold vert
 by_cases h : b < t
 ·rw [if_pos h, if_pos h, lastD_rep, if_neg (by omega)]
 ·rw [if_neg h, if_neg h, lastD_rep]
  by_cases e : b = t
  ·rw [if_pos (by omega), if_pos e]
  ·rw [if_neg (by omega), if_neg e]
theorem okT_tops : ∀ (rb : List Nat) {p : Nat}, p = 110 ∨ p = 119 ∨ p = 115 → okT p (tops rb)
 | [], _, _ => trivial
 | b :: r, p, hp => by
  refine ⟨?_, okT_append (okT_vert _ _) (okT_tops r ?_)⟩
  ·rcases hp with rfl | rfl | rfl
   ·exact .inr (.inr (.inl ⟨rfl, rfl⟩))
   ·exact .inl rfl
   ·exact .inr (.inr (.inr (.inr (.inr ⟨rfl, rfl⟩))))
  ·rw [lastD_vert]
   split
   ·exact .inl rfl
   ·split
    ·exact .inr (.inl rfl)
    ·exact .inr (.inr rfl)
theorem last_tops : ∀ {rb : List Nat} (p : Nat), Pos1 rb → rb ≠ [] → lastD p (tops rb) = 115
 | [], _, _, h => absurd rfl h
 | [b], p, hp, _ => by
  have hb := hp b List.mem_cons_self
  show lastD 119 (vert b 0 ++ []) = 115
  rw [List.append_nil, lastD_vert, if_neg (by omega), if_neg (by omega)]
 | b :: c :: r, p, hp, _ => by
  have hr : Pos1 (c :: r) := fun x hx => hp x (List.mem_cons_of_mem _ hx)
  show lastD 119 (vert b c ++ tops (c :: r)) = 115
  rw [lastD_append]
  exact last_tops _ hr (fun z => nomatch z)
theorem turns_rimB {rb : List Nat} (hp : Pos1 rb) (h0 : rb ≠ []) : (cycT isL (rimB rb) : Int) - (cycT isR (rimB rb) : Int) = 4 ∧ cycT isL (rimB rb) + cycT isR (rimB rb) = cycT ne (rimB rb) := by
 cases rb with
 | nil => exact absurd rfl h0
 | cons b r =>
  have hb : 1 ≤ b := hp b List.mem_cons_self
  have er : rimB (b :: r) = 101 :: (List.replicate r.length 101 ++ (List.replicate b 110 ++ tops (b :: r))) := by
   unfold rimB
   rw [List.length_cons, List.replicate_succ]
   rfl
  have hw : IsW (List.replicate r.length 101 ++ (List.replicate b 110 ++ tops (b :: r))) := by
   have := isW_rimB (b :: r)
   rw [er] at this
   exact (isW_cons.mp this).2
  have hl : lastD 101 (List.replicate r.length 101 ++ (List.replicate b 110 ++ tops (b :: r))) = 115 := by
   rw [lastD_append, lastD_append]
   exact last_tops _ hp (fun z => nomatch z)
  have e1 : lastD 101 (List.replicate r.length 101) = 101 := by
   rw [lastD_rep]
   split <;> rfl
  have hok : okT 101 (List.replicate r.length 101 ++ (List.replicate b 110 ++ tops (b :: r))) := by
   refine okT_append (okT_rep _ fun _ => .inl rfl) ?_
   rw [e1]
   refine okT_append (okT_rep _ fun _ => .inr (.inl ⟨rfl, rfl⟩)) (okT_tops _ ?_)
   rw [lastD_rep, if_neg (by omega)]
   exact .inl rfl
  obtain ⟨t1, t2⟩ := okT_turn (.inr (.inr (.inr rfl))) hw hok
  rw [hl] at t1
  have c1 : ∀ f, cycT f (rimB (b :: r)) = (if f 115 101 = true then 1 else 0) + cntT f 101 (List.replicate r.length 101 ++ (List.replicate b 110 ++ tops (b :: r))) := by
   intro f
   rw [er]
   unfold cycT
   have : lastD 0 (101 :: (List.replicate r.length 101 ++ (List.replicate b 110 ++ tops (b :: r)))) = 115 := hl
   rw [this]
   rfl
  rw [c1, c1, c1]
  have i1 : isL 115 101 = true := by decide
  have i2 : isR 115 101 = false := by decide
  have i3 : ne 115 101 = true := by decide
  rw [i1, i2, i3]
  have a1 : ia 115 = 3 := rfl
  have a2 : ia 101 = 0 := rfl
  rw [a1, a2] at t1
  simp only [if_true, Bool.false_eq_true, if_false]
  constructor
  ·rw [Int.natCast_add, Int.natCast_add]
   omega
  ·omega
def innC : List Nat → Nat
 | [] => 0
 | [_] => 0
 | b :: c :: r => (min b c - 1) + innC (c :: r)
theorem vert_length (b t : Nat) : (vert b t).length = if b < t then t - b else b - t := by
 unfold vert
 split <;> exact List.length_replicate ..
theorem rim_length {rb : List Nat} : Pos1 rb → rb ≠ [] → (rimB rb).length + 2 * innC rb = 2 * rb.sum + 2 := by
 have key : ∀ {rb : List Nat}, Pos1 rb → rb ≠ [] → rb.length + rb.headD 0 + (tops rb).length + 2 * innC rb = 2 * rb.sum + 2 := by
  intro rb
  induction rb with
  | nil => intro _ h; exact absurd rfl h
  | cons b r ih =>
   intro hp _
   have hb : 1 ≤ b := hp b List.mem_cons_self
   cases r with
   | nil =>
    show 1 + b + (119 :: (vert b 0 ++ [])).length + 2 * 0 = 2 * (b + 0) + 2
    rw [List.append_nil, List.length_cons, vert_length, if_neg (by omega)]
    omega
   | cons c r =>
    have hr : Pos1 (c :: r) := fun x hx => hp x (List.mem_cons_of_mem _ hx)
    have i := ih hr (fun z => nomatch z)
    have hc : 1 ≤ c := hr c List.mem_cons_self
    have e1 : (tops (b :: c :: r)).length = 1 + (vert b c).length + (tops (c :: r)).length := by
     show (119 :: (vert b c ++ tops (c :: r))).length = _
     rw [List.length_cons, List.length_append]
     omega
    have e2 : (b :: c :: r).sum = b + (c :: r).sum := rfl
    have e3 : innC (b :: c :: r) = (min b c - 1) + innC (c :: r) := rfl
    have e4 : (c :: r).headD 0 = c := rfl
    have e5 : (b :: c :: r).headD 0 = b := rfl
    rw [e4] at i
    rw [e1, e2, e3, e5, List.length_cons, vert_length]
    split <;> omega
 intro hp h0
 have := key hp h0
 unfold rimB
 rw [List.length_append, List.length_append, List.length_replicate, List.length_replicate]
 omega
end WM
namespace WM
theorem sumC_congr {f g : Pt → Nat → Int} {S : Pt → Prop} (h : ∀ p c, Lt c → S p → S (stepP p c) → f p c = g p c) : ∀ {l : List Nat} {p : Pt}, IsW l → S p → (∀ q ∈ trail p l, S q) → sumC f p l = sumC g p l
 | [], _, _, _, _ => rfl
 | c :: l, p, hl, hp, ht => by
  obtain ⟨h1, h2⟩ := isW_cons.mp hl
  have hs : S (stepP p c) := ht _ List.mem_cons_self
  show f p c + sumC f (stepP p c) l = g p c + sumC g (stepP p c) l
  rw [h p c h1 hp hs, sumC_congr h h2 hs fun q hq => ht q (List.mem_cons_of_mem _ hq)]
theorem around_west {x y : Int} {l : List Nat} (h : IsW l) (hn : (x, y) ∉ plOf l) : aroundE (x - 1, y) l = aroundE (x, y) l := by
 unfold plOf at hn
 rw [places_trail] at hn
 refine sumC_congr (S := fun p => p ≠ (x, y)) (fun p c hc hp hs => ?_) h (fun e => hn (e ▸ List.mem_cons_self)) (fun q hq e => hn (e ▸ List.mem_cons_of_mem _ hq))
 obtain ⟨X, Y⟩ := p
 have hp' : ¬ (X = x ∧ Y = y) := fun z => hp (by rw [z.1, z.2])
 rcases hc with rfl | rfl | rfl | rfl
 ·have hs' : ¬ (X = x ∧ Y + 1 = y) := fun z => hs (by show (X, Y + 1) = _; rw [z.1, z.2])
  show b01 (decide (x - 1 < X ∧ Y = y)) = b01 (decide (x < X ∧ Y = y))
  congr 2
  exact propext ⟨fun z => by omega, fun z => by omega⟩
 ·rfl
 ·have hs' : ¬ (X = x ∧ Y - 1 = y) := fun z => hs (by show (X, Y - 1) = _; rw [z.1, z.2])
  show -b01 (decide (x - 1 < X ∧ Y - 1 = y)) = -b01 (decide (x < X ∧ Y - 1 = y))
  congr 3
  exact propext ⟨fun z => by omega, fun z => by omega⟩
 ·rfl
theorem northw {x y : Int} {l : List Nat} (h : IsW l) (hn : (x, y) ∉ plOf l) : aroundN (x, y - 1) l = aroundN (x, y) l := by
 unfold plOf at hn
 rw [places_trail] at hn
 refine sumC_congr (S := fun p => p ≠ (x, y)) (fun p c hc hp hs => ?_) h (fun e => hn (e ▸ List.mem_cons_self)) (fun q hq e => hn (e ▸ List.mem_cons_of_mem _ hq))
 obtain ⟨X, Y⟩ := p
 have hp' : ¬ (X = x ∧ Y = y) := fun z => hp (by rw [z.1, z.2])
 rcases hc with rfl | rfl | rfl | rfl
 ·rfl
 ·have hs' : ¬ (X - 1 = x ∧ Y = y) := fun z => hs (by show (X - 1, Y) = _; rw [z.1, z.2])
  show b01 (decide (y - 1 < Y ∧ X - 1 = x)) = b01 (decide (y < Y ∧ X - 1 = x))
  congr 2
  exact propext ⟨fun z => by omega, fun z => by omega⟩
 ·rfl
 ·have hs' : ¬ (X + 1 = x ∧ Y = y) := fun z => hs (by show (X + 1, Y) = _; rw [z.1, z.2])
  show -b01 (decide (y - 1 < Y ∧ X = x)) = -b01 (decide (y < Y ∧ X = x))
  congr 3
  exact propext ⟨fun z => by omega, fun z => by omega⟩
theorem northw' {x y : Int} {l : List Nat} (h : IsW l) (hn : (x, y) ∉ plOf l) : aroundN (x - 1, y - 1) l = aroundN (x - 1, y) l := by
 unfold plOf at hn
 rw [places_trail] at hn
 refine sumC_congr (S := fun p => p ≠ (x, y)) (fun p c hc hp hs => ?_) h (fun e => hn (e ▸ List.mem_cons_self)) (fun q hq e => hn (e ▸ List.mem_cons_of_mem _ hq))
 obtain ⟨X, Y⟩ := p
 have hp' : ¬ (X = x ∧ Y = y) := fun z => hp (by rw [z.1, z.2])
 rcases hc with rfl | rfl | rfl | rfl
 ·rfl
 ·have hs' : ¬ (X - 1 = x ∧ Y = y) := fun z => hs (by show (X - 1, Y) = _; rw [z.1, z.2])
  show b01 (decide (y - 1 < Y ∧ X - 1 = x - 1)) = b01 (decide (y < Y ∧ X - 1 = x - 1))
  congr 2
  exact propext ⟨fun z => by omega, fun z => by omega⟩
 ·rfl
 ·have hs' : ¬ (X + 1 = x ∧ Y = y) := fun z => hs (by show (X + 1, Y) = _; rw [z.1, z.2])
  show -b01 (decide (y - 1 < Y ∧ X = x - 1)) = -b01 (decide (y < Y ∧ X = x - 1))
  congr 3
  exact propext ⟨fun z => by omega, fun z => by omega⟩
theorem around_four {x y : Int} {l : List Nat} (h : IsW l) (h0 : posOf l = (0, 0)) (hn : (x, y) ∉ plOf l) :
  aroundE (x - 1, y) l = aroundE (x, y) l ∧ aroundE (x, y - 1) l = aroundE (x, y) l ∧ aroundE (x - 1, y - 1) l = aroundE (x, y) l := by
 have e1 := around_west h hn
 have e2 := northw h hn
 have e3 := northw' h hn
 rw [← around_both h h0, ← around_both h h0] at e2 e3
 exact ⟨e1, e2, e3.trans e1⟩
theorem trail_turnL {q : Nat} (hq : q < 4) : ∀ {l : List Nat} (p : Pt), IsW l → trail (rot q p) (turnL q l) = (trail p l).map (rot q)
 | [], _, _ => rfl
 | c :: l, p, h => by
  obtain ⟨h1, h2⟩ := isW_cons.mp h
  show stepP (rot q p) (tn q c) :: trail (stepP (rot q p) (tn q c)) (turnL q l) = rot q (stepP p c) :: (trail (stepP p c) l).map (rot q)
  rw [step_tn hq h1, trail_turnL hq _ h2]
theorem trail_mirL : ∀ {l : List Nat} (p : Pt), IsW l → trail (flip p) (mirL l) = (trail p l).map flip
 | [], _, _ => rfl
 | c :: l, p, h => by
  obtain ⟨h1, h2⟩ := isW_cons.mp h
  show stepP (flip p) (mir c) :: trail (stepP (flip p) (mir c)) (mirL l) = flip (stepP p c) :: (trail (stepP p c) l).map flip
  rw [step_mir h1, trail_mirL _ h2]
theorem plOf_turnL {q : Nat} {l : List Nat} (hq : q < 4) (h : IsW l) : plOf (turnL q l) = (plOf l).map (rot q) := by
 unfold plOf
 rw [places_trail, places_trail, List.map_cons, ← trail_turnL hq (0, 0) h, rot_zero]
theorem plOf_mirL {l : List Nat} (h : IsW l) : plOf (mirL l) = (plOf l).map flip := by
 unfold plOf
 rw [places_trail, places_trail, List.map_cons, ← trail_mirL (0, 0) h]
 rfl
theorem places_backL : ∀ {l : List Nat} (p : Pt), IsW l → placesP (goP p l) (backL l) = (placesP p l).reverse
 | [], _, _ => rfl
 | c :: l, p, h => by
  obtain ⟨h1, h2⟩ := isW_cons.mp h
  have e : goP p (c :: l) = goP (stepP p c) l := rfl
  rw [e, backL_cons, placesP_snoc, places_backL _ h2, goP_backL h2, step_back _ _ h1]
  show _ = (p :: placesP (stepP p c) l).reverse
  rw [List.reverse_cons]
theorem plOf_backL {l : List Nat} (h : IsW l) (h0 : posOf l = (0, 0)) : plOf (backL l) = (plOf l).reverse := by
 have := places_backL (0, 0) h
 have e : goP (0, 0) l = (0, 0) := h0
 rw [e] at this
 exact this
def addP (p q : Pt) : Pt := (p.1 + q.1, p.2 + q.2)
theorem step_addP (t p : Pt) (c : Nat) : stepP (addP t p) c = addP t (stepP p c) := by
 rw [stepP_vec, stepP_vec p c]
 refine Prod.ext ?_ ?_
 ·show t.1 + p.1 + (vec c).1 = t.1 + (p.1 + (vec c).1)
  omega
 ·show t.2 + p.2 + (vec c).2 = t.2 + (p.2 + (vec c).2)
  omega
theorem trail_addP (t : Pt) : ∀ (l : List Nat) (p : Pt), trail (addP t p) l = (trail p l).map (addP t)
 | [], _ => rfl
 | c :: l, p => by
  show stepP (addP t p) c :: trail (stepP (addP t p) c) l = addP t (stepP p c) :: (trail (stepP p c) l).map (addP t)
  rw [step_addP, trail_addP t l]
theorem trail_rotL {k : Nat} {l : List Nat} (h0 : posOf l = (0, 0)) : (trail (0, 0) (rotL k l)).map (addP (posOf (l.take k))) = trail (posOf (l.take k)) (l.drop k) ++ trail (0, 0) (l.take k) := by
 unfold rotL
 rw [← trail_addP]
 have e : addP (posOf (l.take k)) (0, 0) = posOf (l.take k) := by
  refine Prod.ext ?_ ?_
  ·exact Int.add_zero _
  ·exact Int.add_zero _
 rw [e, trail_append]
 congr 1
 have e2 : goP (posOf (l.take k)) (l.drop k) = posOf (l.take k ++ l.drop k) := (goP_append (0, 0) _ _).symm
 rw [e2, List.take_append_drop, h0]
theorem perm_rotL {k : Nat} {l : List Nat} (h0 : posOf l = (0, 0)) : ((trail (0, 0) (rotL k l)).map (addP (posOf (l.take k)))).Perm (trail (0, 0) l) := by
 rw [trail_rotL h0]
 have e : trail (0, 0) l = trail (0, 0) (l.take k) ++ trail (posOf (l.take k)) (l.drop k) := by
  have := trail_append (l.take k) (l.drop k) (0, 0)
  rw [List.take_append_drop] at this
  exact this
 rw [e]
 exact List.perm_append_comm
theorem mem_plOf {l : List Nat} {q : Pt} (h0 : posOf l = (0, 0)) (hl : l ≠ []) : q ∈ plOf l ↔ q ∈ trail (0, 0) l := by
 unfold plOf
 rw [places_trail]
 constructor
 ·intro h
  rcases List.mem_cons.mp h with rfl | h
  ·obtain ⟨pre, e⟩ := trail_last (p := (0, 0)) hl
   have e2 : goP (0, 0) l = (0, 0) := h0
   rw [e, e2]
   exact List.mem_append_right _ List.mem_cons_self
  ·exact h
 ·exact fun h => List.mem_cons_of_mem _ h
theorem north_turn1 (q p : Pt) {c : Nat} (h : Lt c) : northC (-q.2 - 1, q.1) (rot 1 p) (tn 1 c) = eastC q p c := by
 obtain ⟨x, y⟩ := q
 obtain ⟨X, Y⟩ := p
 rcases h with rfl | rfl | rfl | rfl
 ·show b01 (decide (x < X ∧ -Y - 1 = -y - 1)) = b01 (decide (x < X ∧ Y = y))
  congr 2
  exact propext ⟨fun z => by omega, fun z => by omega⟩
 ·rfl
 ·show -b01 (decide (x < X ∧ -Y = -y - 1)) = -b01 (decide (x < X ∧ Y - 1 = y))
  congr 3
  exact propext ⟨fun z => by omega, fun z => by omega⟩
 ·rfl
theorem sum_turn1 (q : Pt) : ∀ {l : List Nat} (p : Pt), IsW l → sumC (northC (-q.2 - 1, q.1)) (rot 1 p) (turnL 1 l) = sumC (eastC q) p l
 | [], _, _ => rfl
 | c :: l, p, h => by
  obtain ⟨h1, h2⟩ := isW_cons.mp h
  show northC (-q.2 - 1, q.1) (rot 1 p) (tn 1 c) + sumC (northC (-q.2 - 1, q.1)) (stepP (rot 1 p) (tn 1 c)) (turnL 1 l) = eastC q p c + sumC (eastC q) (stepP p c) l
  rw [north_turn1 q p h1, step_tn (by decide) h1, sum_turn1 q _ h2]
theorem around_turn1 {q : Pt} {l : List Nat} (h : IsW l) (h0 : posOf l = (0, 0)) : aroundE (-q.2 - 1, q.1) (turnL 1 l) = aroundE q l := by
 have hc : posOf (turnL 1 l) = (0, 0) := by rw [posOf_turnL (by decide) h, h0]; rfl
 rw [around_both (isW_turnL 1 l) hc]
 exact sum_turn1 q (0, 0) h
theorem north_mir (q p : Pt) {c : Nat} (h : Lt c) : northC (-q.1 - 1, q.2) (flip p) (mir c) = -northC q p c := by
 obtain ⟨x, y⟩ := q
 obtain ⟨X, Y⟩ := p
 rcases h with rfl | rfl | rfl | rfl
 ·rfl
 ·show -b01 (decide (y < Y ∧ -X = -x - 1)) = -b01 (decide (y < Y ∧ X - 1 = x))
  congr 3
  exact propext ⟨fun z => by omega, fun z => by omega⟩
 ·rfl
 ·show b01 (decide (y < Y ∧ -X - 1 = -x - 1)) = - -b01 (decide (y < Y ∧ X = x))
  rw [Int.neg_neg]
  congr 2
  exact propext ⟨fun z => by omega, fun z => by omega⟩
theorem sum_mir (q : Pt) : ∀ {l : List Nat} (p : Pt), IsW l → sumC (northC (-q.1 - 1, q.2)) (flip p) (mirL l) = -sumC (northC q) p l
 | [], _, _ => rfl
 | c :: l, p, h => by
  obtain ⟨h1, h2⟩ := isW_cons.mp h
  show northC (-q.1 - 1, q.2) (flip p) (mir c) + sumC (northC (-q.1 - 1, q.2)) (stepP (flip p) (mir c)) (mirL l) = -(northC q p c + sumC (northC q) (stepP p c) l)
  rw [north_mir q p h1, step_mir h1, sum_mir q _ h2]
  omega
theorem around_mir {q : Pt} {l : List Nat} (h : IsW l) (h0 : posOf l = (0, 0)) : aroundE (-q.1 - 1, q.2) (mirL l) = -aroundE q l := by
 have hc : posOf (mirL l) = (0, 0) := by rw [posOf_mirL h, h0]; rfl
 rw [around_both (isW_mirL h) hc, around_both h h0]
 exact sum_mir q (0, 0) h
theorem east_back (q p : Pt) {c : Nat} (h : Lt c) : eastC q (stepP p c) (tn 2 c) = -eastC q p c := by
 obtain ⟨x, y⟩ := q
 obtain ⟨X, Y⟩ := p
 rcases h with rfl | rfl | rfl | rfl
 ·show -b01 (decide (x < X ∧ Y + 1 - 1 = y)) = -b01 (decide (x < X ∧ Y = y))
  congr 3
  exact propext ⟨fun z => by omega, fun z => by omega⟩
 ·rfl
 ·show b01 (decide (x < X ∧ Y - 1 = y)) = - -b01 (decide (x < X ∧ Y - 1 = y))
  rw [Int.neg_neg]
 ·rfl
theorem sum_back (q : Pt) : ∀ {l : List Nat} (p : Pt), IsW l → sumC (eastC q) (goP p l) (backL l) = -sumC (eastC q) p l
 | [], _, _ => rfl
 | c :: l, p, h => by
  obtain ⟨h1, h2⟩ := isW_cons.mp h
  have e : goP p (c :: l) = goP (stepP p c) l := rfl
  rw [e, backL_cons, sumC_snoc, sum_back q _ h2, goP_backL h2, east_back q p h1]
  show -sumC (eastC q) (stepP p c) l + -eastC q p c = -(eastC q p c + sumC (eastC q) (stepP p c) l)
  omega
theorem around_back {q : Pt} {l : List Nat} (h : IsW l) (h0 : posOf l = (0, 0)) : aroundE q (backL l) = -aroundE q l := by
 have := sum_back q (0, 0) h
 have e : goP (0, 0) l = (0, 0) := h0
 rw [e] at this
 exact this
theorem east_addP (t q p : Pt) (c : Nat) : eastC (addP t q) (addP t p) c = eastC q p c := by
 obtain ⟨a, b⟩ := t
 obtain ⟨x, y⟩ := q
 obtain ⟨X, Y⟩ := p
 unfold eastC addP
 dsimp only
 have e1 : (a + x < a + X ∧ b + Y = b + y) = (x < X ∧ Y = y) := propext ⟨fun z => by omega, fun z => by omega⟩
 have e2 : (a + x < a + X ∧ b + Y - 1 = b + y) = (x < X ∧ Y - 1 = y) := propext ⟨fun z => by omega, fun z => by omega⟩
 simp only [e1, e2]
theorem sum_addP (t q : Pt) : ∀ (l : List Nat) (p : Pt), sumC (eastC (addP t q)) (addP t p) l = sumC (eastC q) p l
 | [], _ => rfl
 | c :: l, p => by
  show eastC (addP t q) (addP t p) c + sumC (eastC (addP t q)) (stepP (addP t p) c) l = _
  rw [east_addP, step_addP, sum_addP t q l]
  rfl
theorem around_rotL {k : Nat} {q : Pt} {l : List Nat} (h0 : posOf l = (0, 0)) : aroundE q (rotL k l) = aroundE (addP (posOf (l.take k)) q) l := by
 have e1 : aroundE q (rotL k l) = sumC (eastC (addP (posOf (l.take k)) q)) (posOf (l.take k)) (rotL k l) := by
  have := sum_addP (posOf (l.take k)) q (rotL k l) (0, 0)
  have e : addP (posOf (l.take k)) (0, 0) = posOf (l.take k) := by
   refine Prod.ext ?_ ?_
   ·exact Int.add_zero _
   ·exact Int.add_zero _
  rw [e] at this
  exact this.symm
 rw [e1]
 unfold rotL
 rw [sumC_append]
 have e2 : goP (posOf (l.take k)) (l.drop k) = posOf (l.take k ++ l.drop k) := (goP_append (0, 0) _ _).symm
 rw [e2, List.take_append_drop, h0]
 have e3 : aroundE (addP (posOf (l.take k)) q) l = sumC (eastC (addP (posOf (l.take k)) q)) (0, 0) (l.take k) + sumC (eastC (addP (posOf (l.take k)) q)) (posOf (l.take k)) (l.drop k) := by
  have := sumC_append (eastC (addP (posOf (l.take k)) q)) (l.take k) (l.drop k) (0, 0)
  rw [List.take_append_drop] at this
  exact this
 rw [e3]
 omega
end WM
namespace WM
def sumL {α : Type} (f : α → Int) : List α → Int
 | [] => 0
 | a :: r => f a + sumL f r
theorem sumL_append {α : Type} (f : α → Int) : ∀ a b : List α, sumL f (a ++ b) = sumL f a + sumL f b
 | [], b => by show sumL f b = 0 + sumL f b; omega
 | x :: a, b => by
  show f x + sumL f (a ++ b) = f x + sumL f a + sumL f b
  rw [sumL_append f a b]
  omega
theorem sumL_perm {α : Type} (f : α → Int) {a b : List α} (h : a.Perm b) : sumL f a = sumL f b := by
 induction h with
 | nil => rfl
 | cons x _ ih =>
  show f x + _ = f x + _
  rw [ih]
 | swap x y l =>
  show f y + (f x + sumL f l) = f x + (f y + sumL f l)
  omega
 | trans _ _ h1 h2 => exact h1.trans h2
theorem sumL_zero {α : Type} {f : α → Int} : ∀ {l : List α}, (∀ a ∈ l, f a = 0) → sumL f l = 0
 | [], _ => rfl
 | x :: l, h => by
  show f x + sumL f l = 0
  rw [h x List.mem_cons_self, sumL_zero fun a ha => h a (List.mem_cons_of_mem _ ha)]
  rfl
theorem sumL_congr {α : Type} {f g : α → Int} : ∀ {l : List α}, (∀ a ∈ l, f a = g a) → sumL f l = sumL g l
 | [], _ => rfl
 | x :: l, h => by
  show f x + sumL f l = g x + sumL g l
  rw [h x List.mem_cons_self, sumL_congr fun a ha => h a (List.mem_cons_of_mem _ ha)]
theorem sumL_add {α : Type} (f g : α → Int) : ∀ l : List α, sumL (fun a => f a + g a) l = sumL f l + sumL g l
 | [] => rfl
 | x :: l => by
  show f x + g x + sumL _ l = f x + sumL f l + (g x + sumL g l)
  rw [sumL_add f g l]
  omega
theorem sumL_neg {α : Type} (f : α → Int) : ∀ l : List α, sumL (fun a => -f a) l = -sumL f l
 | [] => rfl
 | x :: l => by
  show -f x + sumL _ l = -(f x + sumL f l)
  rw [sumL_neg f l]
  omega
theorem sumL_map {α β : Type} (f : β → Int) (g : α → β) : ∀ l : List α, sumL f (l.map g) = sumL (fun a => f (g a)) l
 | [] => rfl
 | x :: l => by
  show f (g x) + sumL f (l.map g) = f (g x) + sumL _ l
  rw [sumL_map f g l]
theorem sumL_flat {α β : Type} (f : β → Int) (g : α → List β) : ∀ l : List α, sumL f (l.flatMap g) = sumL (fun a => sumL f (g a)) l
 | [] => rfl
 | x :: l => by
  rw [List.flatMap_cons, sumL_append, sumL_flat f g l]
  rfl
theorem sumL_sub {α : Type} [DecidableEq α] {f : α → Int} {S B : List α} (hS : S.Nodup) (hB : B.Nodup) (hs : ∀ a ∈ S, a ∉ B → f a = 0) (hb : ∀ a ∈ B, a ∉ S → f a = 0) : sumL f S = sumL f B := by
 have key : ∀ {S B : List α}, S.Nodup → (∀ a ∈ S, a ∉ B → f a = 0) → sumL f S = sumL f (S.filter (· ∈ B)) := by
  intro S
  induction S with
  | nil => intro B _ _; rfl
  | cons x S ih =>
   intro B hn h
   have hn' := List.nodup_cons.mp hn
   have i := ih (B := B) hn'.2 fun a ha => h a (List.mem_cons_of_mem _ ha)
   by_cases hx : x ∈ B
   ·rw [List.filter_cons_of_pos (by simpa using hx)]
    show f x + sumL f S = f x + sumL f _
    rw [i]
   ·rw [List.filter_cons_of_neg (by simpa using hx), ← i]
    show f x + sumL f S = sumL f S
    rw [h x List.mem_cons_self hx]
    omega
 rw [key hS hs, key hB hb]
 refine sumL_perm f ?_
 refine (List.perm_ext_iff_of_nodup (hS.filter _) (hB.filter _)).mpr fun a => ?_
 simp only [List.mem_filter, decide_eq_true_eq]
 exact And.comm
def rowI (n : Nat) : List Int := (List.range (2 * n)).map fun (i : Nat) => (i : Int) - (n : Int)
def box (n : Nat) : List Pt := (rowI n).flatMap fun x => (rowI n).map fun y => (x, y)
theorem mem_rowI {n : Nat} {x : Int} : x ∈ rowI n ↔ -(n : Int) ≤ x ∧ x < (n : Int) := by
 unfold rowI
 constructor
 ·intro h
  obtain ⟨i, hi, rfl⟩ := List.mem_map.mp h
  have := List.mem_range.mp hi
  omega
 ·intro h
  exact List.mem_map.mpr ⟨(x + (n : Int)).toNat, List.mem_range.mpr (by omega), by omega⟩
theorem nodup_rowI (n : Nat) : (rowI n).Nodup := by
 unfold rowI
 refine List.Pairwise.map _ (fun a b h => ?_) List.nodup_range
 intro z
 exact h (by omega)
theorem mem_box {n : Nat} {q : Pt} : q ∈ box n ↔ (-(n : Int) ≤ q.1 ∧ q.1 < (n : Int)) ∧ (-(n : Int) ≤ q.2 ∧ q.2 < (n : Int)) := by
 unfold box
 rw [List.mem_flatMap]
 constructor
 ·rintro ⟨x, hx, h⟩
  obtain ⟨y, hy, rfl⟩ := List.mem_map.mp h
  exact ⟨mem_rowI.mp hx, mem_rowI.mp hy⟩
 ·rintro ⟨h1, h2⟩
  exact ⟨q.1, mem_rowI.mpr h1, List.mem_map.mpr ⟨q.2, mem_rowI.mpr h2, rfl⟩⟩
theorem nodup_box (n : Nat) : (box n).Nodup := by
 have key : ∀ {xs : List Int}, xs.Nodup → (xs.flatMap fun x => (rowI n).map fun y => (x, y)).Nodup := by
  intro xs
  induction xs with
  | nil => intro _; exact List.nodup_nil
  | cons x xs ih =>
   intro h
   obtain ⟨h1, h2⟩ := List.nodup_cons.mp h
   rw [List.flatMap_cons]
   refine List.nodup_append.mpr ⟨?_, ih h2, ?_⟩
   ·refine List.Pairwise.map _ (fun a b hab z => hab ?_) (nodup_rowI n)
    exact congrArg Prod.snd z
   ·intro a ha b hb e
    subst e
    obtain ⟨y, _, rfl⟩ := List.mem_map.mp ha
    obtain ⟨x', hx', hb⟩ := List.mem_flatMap.mp hb
    obtain ⟨y', _, e⟩ := List.mem_map.mp hb
    have : x' = x := congrArg Prod.fst e
    exact h1 (this ▸ hx')
 exact key (nodup_rowI n)
theorem sum_rowI_eq {n : Nat} {k : Int} (h : -(n : Int) ≤ k ∧ k < (n : Int)) : sumL (fun y => b01 (decide (k = y))) (rowI n) = 1 := by
 have key : ∀ {l : List Int}, l.Nodup → sumL (fun y => b01 (decide (k = y))) l = if k ∈ l then 1 else 0 := by
  intro l
  induction l with
  | nil => intro _; rfl
  | cons x l ih =>
   intro hn
   obtain ⟨h1, h2⟩ := List.nodup_cons.mp hn
   show b01 (decide (k = x)) + sumL _ l = _
   rw [ih h2]
   by_cases e : k = x
   ·subst e
    rw [if_neg h1, if_pos List.mem_cons_self, decide_eq_true rfl]
    rfl
   ·rw [decide_eq_false e]
    by_cases hk : k ∈ l
    ·rw [if_pos hk, if_pos (List.mem_cons_of_mem _ hk)]
     rfl
    ·rw [if_neg hk, if_neg fun z => by rcases List.mem_cons.mp z with z | z; exact e z; exact hk z]
     rfl
 rw [key (nodup_rowI n), if_pos (mem_rowI.mpr h)]
theorem sum_rowI_lt {n : Nat} {k : Int} (h : -(n : Int) ≤ k ∧ k ≤ (n : Int)) : sumL (fun x => b01 (decide (x < k))) (rowI n) = k + (n : Int) := by
 have key : ∀ m : Nat, sumL (fun x => b01 (decide (x < k))) ((List.range m).map fun (i : Nat) => (i : Int) - (n : Int)) = if (m : Int) ≤ k + (n : Int) then (m : Int) else k + (n : Int) := by
  intro m
  induction m with
  | zero =>
   rw [if_pos (by omega)]
   rfl
  | succ m ih =>
   rw [List.range_succ, List.map_append, sumL_append, ih]
   show _ + (b01 (decide ((m : Int) - (n : Int) < k)) + 0) = _
   by_cases e : (m : Int) - (n : Int) < k
   ·rw [decide_eq_true e, if_pos (by omega), if_pos (by omega)]
    show (m : Int) + (1 + 0) = _
    omega
   ·rw [decide_eq_false e]
    show _ + ((0 : Int) + 0) = _
    by_cases e2 : (m : Int) ≤ k + (n : Int)
    ·rw [if_pos e2, if_neg (by omega)]
     omega
    ·rw [if_neg e2, if_neg (by omega)]
     omega
 unfold rowI
 rw [key, if_neg_or]
 where
  if_neg_or : (if ((2 * n : Nat) : Int) ≤ k + (n : Int) then ((2 * n : Nat) : Int) else k + (n : Int)) = k + (n : Int) := by
   split <;> omega
theorem sum_box_step {n : Nat} {p : Pt} {c : Nat} (hc : Lt c) (hp : (-(n : Int) ≤ p.1 ∧ p.1 ≤ (n : Int)) ∧ -(n : Int) ≤ p.2 ∧ p.2 ≤ (n : Int)) (hs : -(n : Int) ≤ (stepP p c).2 ∧ (stepP p c).2 ≤ (n : Int)) :
  sumL (fun q => eastC q p c) (box n) = (p.1 + (n : Int)) * (vec c).2 := by
 obtain ⟨X, Y⟩ := p
 have two : ∀ k : Int, -(n : Int) ≤ k → k < (n : Int) → sumL (fun q : Pt => b01 (decide (q.1 < X ∧ k = q.2))) (box n) = X + (n : Int) := by
  intro k h1 h2
  unfold box
  rw [sumL_flat]
  have e : ∀ x ∈ rowI n, sumL (fun q : Pt => b01 (decide (q.1 < X ∧ k = q.2))) ((rowI n).map fun y => (x, y)) = b01 (decide (x < X)) := by
   intro x _
   rw [sumL_map]
   by_cases hx : x < X
   ·have e1 : ∀ y ∈ rowI n, b01 (decide (x < X ∧ k = y)) = b01 (decide (k = y)) := fun y _ => by
     congr 2
     exact propext ⟨fun z => z.2, fun z => ⟨hx, z⟩⟩
    rw [sumL_congr (g := fun y => b01 (decide (k = y))) e1, sum_rowI_eq ⟨h1, h2⟩, decide_eq_true hx]
    rfl
   ·rw [decide_eq_false hx]
    refine sumL_zero fun y _ => ?_
    rw [decide_eq_false fun z => hx z.1]
    rfl
  rw [sumL_congr (g := fun x => b01 (decide (x < X))) e]
  exact sum_rowI_lt hp.1
 rcases hc with rfl | rfl | rfl | rfl
 ·have hs' : -(n : Int) ≤ Y + 1 ∧ Y + 1 ≤ (n : Int) := hs
  show sumL (fun q : Pt => b01 (decide (q.1 < X ∧ Y = q.2))) (box n) = (X + (n : Int)) * 1
  rw [two Y (by have := hp.2.1; exact this) (by omega)]
  omega
 ·show sumL (fun q : Pt => (0 : Int)) (box n) = (X + (n : Int)) * 0
  rw [sumL_zero fun _ _ => rfl]
  omega
 ·have hs' : -(n : Int) ≤ Y - 1 ∧ Y - 1 ≤ (n : Int) := hs
  have hY : Y ≤ (n : Int) := hp.2.2
  show sumL (fun q : Pt => -b01 (decide (q.1 < X ∧ Y - 1 = q.2))) (box n) = (X + (n : Int)) * (-1)
  rw [sumL_neg, two (Y - 1) (by omega) (by omega)]
  omega
 ·show sumL (fun q : Pt => (0 : Int)) (box n) = (X + (n : Int)) * 0
  rw [sumL_zero fun _ _ => rfl]
  omega
theorem xdy_start : ∀ (l : List Nat) (p : Pt) (u : Int), (l.foldl xdyS (p, u)).2 = u + sumC (fun p c => p.1 * (vec c).2) p l
 | [], _, u => by show u = u + 0; omega
 | c :: l, p, u => by
  have h := xdy_start l (stepP p c) (u + p.1 * (vec c).2)
  show (l.foldl xdyS (stepP p c, u + p.1 * (vec c).2)).2 = u + (p.1 * (vec c).2 + sumC _ (stepP p c) l)
  rw [h]
  omega
theorem sumC_lin (n : Int) : ∀ (l : List Nat) (p : Pt), sumC (fun p c => (p.1 + n) * (vec c).2) p l = sumC (fun p c => p.1 * (vec c).2) p l + n * ((goP p l).2 - p.2)
 | [], p => by
  show (0 : Int) = 0 + n * (p.2 - p.2)
  rw [Int.sub_self, Int.mul_zero]
  rfl
 | c :: l, p => by
  have ih := sumC_lin n l (stepP p c)
  show (p.1 + n) * (vec c).2 + sumC _ (stepP p c) l = p.1 * (vec c).2 + sumC _ (stepP p c) l + n * ((goP (stepP p c) l).2 - p.2)
  rw [ih]
  have e : (stepP p c).2 = p.2 + (vec c).2 := by rw [stepP_vec]
  rw [e, Int.add_mul, Int.mul_sub, Int.mul_sub, Int.mul_add]
  omega
theorem add4 {a b c d n : Nat} (h1 : a + c ≤ n) (h2 : b + d ≤ 1) : (a + b) + (c + d) ≤ n + 1 := by omega
theorem trail_bound : ∀ {l : List Nat} {p q : Pt}, q ∈ trail p l → (q.1 - p.1).natAbs + (q.2 - p.2).natAbs ≤ l.length
 | [], _, _, h => nomatch h
 | c :: l, p, q, h => by
  have hv : (vec c).1.natAbs + (vec c).2.natAbs ≤ 1 := by
   unfold vec
   split
   ·decide
   ·split
    ·decide
    ·split <;> decide
  have e1 : (stepP p c).1 = p.1 + (vec c).1 := by rw [stepP_vec]
  have e2 : (stepP p c).2 = p.2 + (vec c).2 := by rw [stepP_vec]
  rw [List.length_cons]
  rcases List.mem_cons.mp h with rfl | h
  ·rw [e1, e2, Int.add_comm p.1, Int.add_comm p.2, Int.add_sub_cancel, Int.add_sub_cancel]
   exact Nat.le_trans hv (Nat.succ_le_succ (Nat.zero_le _))
  ·have ih := trail_bound h
   have d1 : q.1 - p.1 = (q.1 - (stepP p c).1) + (vec c).1 := by omega (config := {})
   have d2 : q.2 - p.2 = (q.2 - (stepP p c).2) + (vec c).2 := by omega (config := {})
   rw [d1, d2]
   exact Nat.le_trans (Nat.add_le_add (Int.natAbs_add_le _ _) (Int.natAbs_add_le _ _)) (add4 ih hv)
theorem sum_box {n : Nat} : ∀ {l : List Nat} {p : Pt}, IsW l → ((-(n : Int) ≤ p.1 ∧ p.1 ≤ (n : Int)) ∧ -(n : Int) ≤ p.2 ∧ p.2 ≤ (n : Int)) → (∀ q ∈ trail p l, (-(n : Int) ≤ q.1 ∧ q.1 ≤ (n : Int)) ∧ -(n : Int) ≤ q.2 ∧ q.2 ≤ (n : Int)) →
  sumL (fun q => sumC (eastC q) p l) (box n) = sumC (fun p c => (p.1 + (n : Int)) * (vec c).2) p l
 | [], p, _, _, _ => by
  show sumL (fun q : Pt => (0 : Int)) (box n) = 0
  exact sumL_zero fun _ _ => rfl
 | c :: l, p, hl, hp, ht => by
  obtain ⟨h1, h2⟩ := isW_cons.mp hl
  have hs := ht _ List.mem_cons_self
  show sumL (fun q => eastC q p c + sumC (eastC q) (stepP p c) l) (box n) = (p.1 + (n : Int)) * (vec c).2 + sumC _ (stepP p c) l
  rw [sumL_add, sum_box_step h1 hp hs.2, sum_box h2 hs fun q hq => ht q (List.mem_cons_of_mem _ hq)]
theorem in_box {l : List Nat} {q : Pt} (h : q ∈ trail (0, 0) l) : (-(l.length : Int) ≤ q.1 ∧ q.1 ≤ (l.length : Int)) ∧ -(l.length : Int) ≤ q.2 ∧ q.2 ≤ (l.length : Int) := by
 have := trail_bound h
 rw [Int.sub_zero, Int.sub_zero] at this
 have h1 : q.1.natAbs ≤ l.length := Nat.le_trans (Nat.le_add_right _ _) this
 have h2 : q.2.natAbs ≤ l.length := Nat.le_trans (Nat.le_add_left _ _) this
 have k : ∀ {x : Int} {n : Nat}, x.natAbs ≤ n → -(n : Int) ≤ x ∧ x ≤ (n : Int) := fun h => by omega (config := {})
 exact ⟨k h1, k h2⟩
theorem sum_box_area {l : List Nat} (h : IsW l) (h0 : posOf l = (0, 0)) : sumL (fun q => aroundE q l) (box l.length) = areaL l := by
 rw [area_xdy h0]
 have e := sum_box (n := l.length) (p := (0, 0)) h (by dsimp only; omega) fun q hq => in_box hq
 have e2 : goP (0, 0) l = (0, 0) := h0
 unfold xdy
 rw [xdy_start, show (fun q => aroundE q l) = fun q => sumC (eastC q) (0, 0) l from rfl, e, sumC_lin, e2, Int.sub_self, Int.mul_zero]
 omega
theorem around_far {l : List Nat} {q : Pt} (h : IsW l) (h0 : posOf l = (0, 0)) (hq : q ∉ box l.length) : aroundE q l = 0 := by
 have zero : ∀ f : Pt → Nat → Int, (∀ p c, Lt c → ((-(l.length : Int) ≤ p.1 ∧ p.1 ≤ (l.length : Int)) ∧ -(l.length : Int) ≤ p.2 ∧ p.2 ≤ (l.length : Int)) → ((-(l.length : Int) ≤ (stepP p c).1 ∧ (stepP p c).1 ≤ (l.length : Int)) ∧ -(l.length : Int) ≤ (stepP p c).2 ∧ (stepP p c).2 ≤ (l.length : Int)) → f p c = 0) → sumC f (0, 0) l = 0 := by
  intro f hf
  have := sumC_congr (f := f) (g := fun _ _ => 0) hf (l := l) (p := (0, 0)) h (by dsimp only; omega (config := {})) fun q hq => in_box hq
  rw [this]
  have z : ∀ (m : List Nat) (p : Pt), sumC (fun _ _ => (0 : Int)) p m = 0 := by
   intro m
   induction m with
   | nil => intro p; rfl
   | cons c m ih =>
    intro p
    show (0 : Int) + _ = 0
    rw [ih]
    rfl
  exact z l _
 have hq' : ¬ ((-(l.length : Int) ≤ q.1 ∧ q.1 < (l.length : Int)) ∧ (-(l.length : Int) ≤ q.2 ∧ q.2 < (l.length : Int))) := fun z => hq (mem_box.mpr z)
 obtain ⟨x, y⟩ := q
 dsimp only at hq'
 by_cases hy : -(l.length : Int) ≤ y ∧ y < (l.length : Int)
 ·rw [around_both h h0]
  refine zero _ fun p c hc hp hs => ?_
  obtain ⟨X, Y⟩ := p
  dsimp only at hp
  rcases hc with rfl | rfl | rfl | rfl
  ·rfl
  ·have hs' : -(l.length : Int) ≤ X - 1 ∧ X - 1 ≤ (l.length : Int) := hs.1
   show b01 (decide (y < Y ∧ X - 1 = x)) = 0
   rw [decide_eq_false (by omega (config := {}))]
   rfl
  ·rfl
  ·have hs' : -(l.length : Int) ≤ X + 1 ∧ X + 1 ≤ (l.length : Int) := hs.1
   show -b01 (decide (y < Y ∧ X = x)) = 0
   rw [decide_eq_false (by omega (config := {}))]
   rfl
 ·refine zero _ fun p c hc hp hs => ?_
  obtain ⟨X, Y⟩ := p
  dsimp only at hp
  rcases hc with rfl | rfl | rfl | rfl
  ·have hs' : -(l.length : Int) ≤ Y + 1 ∧ Y + 1 ≤ (l.length : Int) := hs.2
   show b01 (decide (x < X ∧ Y = y)) = 0
   rw [decide_eq_false (by omega (config := {}))]
   rfl
  ·rfl
  ·have hs' : -(l.length : Int) ≤ Y - 1 ∧ Y - 1 ≤ (l.length : Int) := hs.2
   show -b01 (decide (x < X ∧ Y - 1 = y)) = 0
   rw [decide_eq_false (by omega (config := {}))]
   rfl
  ·rfl
theorem sum_area {l : List Nat} {S : List Pt} (h : IsW l) (h0 : posOf l = (0, 0)) (hS : S.Nodup) (hall : ∀ q, ¬ aroundE q l = 0 → q ∈ S) : sumL (fun q => aroundE q l) S = areaL l := by
 rw [← sum_box_area h h0]
 refine sumL_sub hS (nodup_box _) (fun q _ hq => around_far h h0 hq) fun q _ hq => ?_
 by_cases z : aroundE q l = 0
 ·exact z
 ·exact absurd (hall q z) hq
end WM
namespace WM
abbrev Tr := Int × Int × Int
def upr : Pt → List Nat → List Tr
 | _, [] => []
 | p, c :: l => (if c = 110 then [(p.2, p.1, 1)] else if c = 115 then [(p.2 - 1, p.1, -1)] else []) ++ upr (stepP p c) l
theorem upr_snoc : ∀ (l : List Nat) (p : Pt) (c : Nat), upr p (l ++ [c]) = upr p l ++ (if c = 110 then [((goP p l).2, (goP p l).1, 1)] else if c = 115 then [((goP p l).2 - 1, (goP p l).1, -1)] else [])
 | [], p, c => by simp [upr, goP]
 | d :: l, p, c => by
  show _ ++ upr (stepP p d) (l ++ [c]) = (_ ++ upr (stepP p d) l) ++ _
  rw [upr_snoc l, List.append_assoc]
  rfl
theorem upr_length : ∀ (l : List Nat) (p : Pt), (upr p l).length ≤ l.length
 | [], _ => Nat.le_refl _
 | c :: l, p => by
  have := upr_length l (stepP p c)
  unfold upr
  rw [List.length_append, List.length_cons]
  split
  ·rw [List.length_singleton]; omega
  ·split
   ·rw [List.length_singleton]; omega
   ·rw [List.length_nil]; omega
theorem upr_sum (f : Tr → Int) (g : Pt → Nat → Int) (hn : ∀ p, g p 110 = f (p.2, p.1, 1)) (hs : ∀ p, g p 115 = f (p.2 - 1, p.1, -1)) (ho : ∀ p c, ¬ c = 110 → ¬ c = 115 → g p c = 0) : ∀ (l : List Nat) (p : Pt), sumL f (upr p l) = sumC g p l
 | [], _ => rfl
 | c :: l, p => by
  show sumL f (_ ++ upr (stepP p c) l) = g p c + sumC g (stepP p c) l
  rw [sumL_append, upr_sum f g hn hs ho l]
  by_cases h1 : c = 110
  ·subst h1
   rw [if_pos rfl, hn]
   show f _ + 0 + _ = _
   omega
  ·by_cases h2 : c = 115
   ·subst h2
    rw [if_neg (by decide), if_pos rfl, hs]
    show f _ + 0 + _ = _
    omega
   ·rw [if_neg h1, if_neg h2, ho p c h1 h2]
    show 0 + _ = _
    rfl
theorem upr_area {l : List Nat} (h0 : posOf l = (0, 0)) : sumL (fun t => t.2.1 * t.2.2) (upr (0, 0) l) = areaL l := by
 rw [area_xdy h0]
 unfold xdy
 rw [xdy_start, upr_sum (fun t => t.2.1 * t.2.2) (fun p c => p.1 * (vec c).2)]
 ·omega
 ·intro p; rfl
 ·intro p; rfl
 ·intro p c h1 h2
  unfold vec
  rw [if_neg h1]
  split
  ·exact Int.mul_zero _
  ·first | exact Int.mul_zero _ | (rw [if_neg h2]; exact Int.mul_zero _)
def eastT (q : Pt) (t : Tr) : Int := if t.1 = q.2 ∧ q.1 < t.2.1 then t.2.2 else 0
theorem upr_around (q : Pt) (l : List Nat) : sumL (eastT q) (upr (0, 0) l) = aroundE q l := by
 unfold aroundE
 have e1 : ∀ (a b : Prop) [Decidable a] [Decidable b], (if a ∧ b then (1 : Int) else 0) = b01 (decide (b ∧ a)) := fun a b _ _ => by
  unfold b01
  by_cases ha : a <;> by_cases hb : b <;> simp [ha, hb]
 have e2 : ∀ (a b : Prop) [Decidable a] [Decidable b], (if a ∧ b then (-1 : Int) else 0) = -b01 (decide (b ∧ a)) := fun a b _ _ => by
  unfold b01
  by_cases ha : a <;> by_cases hb : b <;> simp [ha, hb]
 refine upr_sum _ _ (fun p => ?_) (fun p => ?_) (fun p c h1 h2 => ?_) l (0, 0)
 ·exact (e1 _ _).symm
 ·exact (e2 _ _).symm
 ·unfold eastC
  rw [if_neg h1, if_neg h2]
def rowT (r : Int) (t : Tr) : Int := if t.1 = r then t.2.2 else 0
def aboveR (r : Int) (y : Int) : Int := if r < y then 1 else 0
theorem upr_row_step (r : Int) : ∀ (l : List Nat) (p : Pt), IsW l → sumL (rowT r) (upr p l) = aboveR r (goP p l).2 - aboveR r p.2
 | [], p, _ => by
  show (0 : Int) = aboveR r p.2 - aboveR r p.2
  omega
 | c :: l, p, h => by
  have ih := upr_row_step r l (stepP p c) fun d hd => h d (List.mem_cons_of_mem _ hd)
  show sumL (rowT r) (_ ++ upr (stepP p c) l) = aboveR r (goP (stepP p c) l).2 - aboveR r p.2
  rw [sumL_append, ih]
  have key : sumL (rowT r) (if c = 110 then [(p.2, p.1, 1)] else if c = 115 then [(p.2 - 1, p.1, -1)] else []) = aboveR r (stepP p c).2 - aboveR r p.2 := by
   rw [stepP_vec]
   rcases h c List.mem_cons_self with rfl | rfl | rfl | rfl
   ·simp [sumL, rowT, aboveR, vec]; split <;> split <;> omega
   ·simp [sumL, rowT, aboveR, vec]
   ·simp [sumL, rowT, aboveR, vec]; split <;> split <;> omega
   ·simp [sumL, rowT, aboveR, vec]
  rw [key]
  omega
theorem upr_row {l : List Nat} (h : IsW l) (h0 : posOf l = (0, 0)) (r : Int) : sumL (rowT r) (upr (0, 0) l) = 0 := by
 rw [upr_row_step r l (0, 0) h]
 show aboveR r (posOf l).2 - aboveR r 0 = 0
 rw [h0]
 exact Int.sub_self _
end WM
namespace WM
theorem upr_way : ∀ {l : List Nat} {p : Pt} {t : Tr}, t ∈ upr p l → t.2.2 = 1 ∨ t.2.2 = -1
 | [], _, _, h => by cases h
 | c :: l, p, t, h => by
  unfold upr at h
  rcases List.mem_append.mp h with h | h
  ·split at h
   ·left; rw [List.mem_singleton.mp h]
   ·split at h
    ·right; rw [List.mem_singleton.mp h]
    ·cases h
  ·exact upr_way h
end WM
set_option Elab.async false
set_option linter.all false
set_option maxRecDepth 100000
set_option maxHeartbeats 4000000
namespace SW
open PySem L2 WM
def TrP (H : Hp) (a : Addr) (t : Tr) : Prop := H a = some (.tup [.int t.1, .int t.2.1, .int t.2.2])
abbrev TrsAt (H : Hp) : List Addr → List Tr → Prop := Paired (TrP H)
theorem TrsAt.mono {H H' : Hp} {as : List Addr} {ts : List Tr} (h : TrsAt H as ts) (s : TSame H H') : TrsAt H' as ts := by
 induction h with
 | nil => exact .nil
 | cons h t ih => exact .cons (s _ _ h) ih
theorem paired_get {α β : Type} {S : α → β → Prop} : ∀ {as : List α} {bs : List β} {i : Nat} {a : α}, Paired S as bs → as[i]? = some a → ∃ b, bs[i]? = some b ∧ S a b
 | _, _, _, _, .nil, e => by simp at e
 | _, _, 0, _, .cons h _, e => by
  simp at e
  subst e
  exact ⟨_, rfl, h⟩
 | _, _, i + 1, x, .cons _ t, e => by
  obtain ⟨b, h1, h2⟩ := paired_get (i := i) t (by simpa using e)
  exact ⟨b, by simpa using h1, h2⟩
theorem paired_app {α β : Type} {S : α → β → Prop} {as as' : List α} {bs bs' : List β} (h : Paired S as bs) (k : Paired S as' bs') : Paired S (as ++ as') (bs ++ bs') := by
 induction h with
 | nil => exact k
 | cons h t ih => exact .cons h ih
theorem map_ref_get {as : List Addr} {i : Nat} {x : V} (h : (as.map V.ref)[i]? = some x) : ∃ a, as[i]? = some a ∧ x = .ref a := by
 rw [List.getElem?_map] at h
 cases e : as[i]? with
 | none => rw [e] at h; cases h
 | some a => rw [e] at h; exact ⟨a, rfl, (Option.some.inj h).symm⟩
def spUpright : Sp := fun vs H Q _ => ∃ (l : List Nat), vs = [.str (T l)] ∧ IsW l ∧ l.length ≤ 1000 ∧ ∀ (d : Addr) (H' : Hp) (as : List Addr), H d = none → Same H H' → H' d = some (.lst (as.map V.ref)) → TrsAt H' as (upr (0, 0) l) → Q (.ref d) H'
def sl3 (H : Hp) (x : V) : St := [(partsV H x)[0]?, (partsV H x)[1]?, (partsV H x)[2]?]
theorem sl3_len (H : Hp) (x : V) : (sl3 H x).length = 3 := rfl
theorem sl3_eq {H : Hp} {a : Addr} {u v y : V} (h : H a = some (.tup [u, v, y])) : sl3 H (.ref a) = [some u, some v, some y] := by
 unfold sl3
 rw [partsV_eq h]
 rfl
theorem g_three {K : PySem.W.Frag} {σ : St} {n : Nat} {H : Hp} {a : Addr} {u v y : V} {R : St → Hp → Prop} (hn : n = σ.length) (h : SqT K H a [u, v, y]) (k : R (σ ++ [some u, some v, some y]) H) : gTup K 3 (gCons (gName n) (gCons (gName (n + 1)) (gCons (gName (n + 2)) gNil))) (.ref a) (σ ++ List.replicate 3 none) H R := by
 subst hn
 refine ⟨a, _, rfl, h, rfl, u, _, rfl, v, _, rfl, y, _, rfl, rfl, ?_⟩
 have e1 : (σ ++ List.replicate 3 none).set σ.length (some u) = σ ++ [some u, none, none] := by
  rw [List.set_append_right _ _ (Nat.le_refl _), Nat.sub_self]
  rfl
 have e2 : (σ ++ [some u, none, none]).set (σ.length + 1) (some v) = σ ++ [some u, some v, none] := by
  rw [List.set_append_right _ _ (by omega), Nat.add_sub_cancel_left]
  rfl
 have e3 : (σ ++ [some u, some v, none]).set (σ.length + 2) (some y) = σ ++ [some u, some v, some y] := by
  rw [List.set_append_right _ _ (by omega), Nat.add_sub_cancel_left]
  rfl
 rw [e1, e2, e3]
 exact k
theorem three_le : 3 ≤ sizeLine := by decide
end SW
namespace SW
open WM
theorem sum_sumL' {α : Type} (f : α → Int) : ∀ l : List α, (l.map f).sum = sumL f l
 | [] => rfl
 | a :: r => by
  rw [List.map_cons, List.sum_cons, sum_sumL' f r]
  rfl
end SW
set_option linter.all false
set_option maxRecDepth 100000
set_option maxHeartbeats 4000000
namespace TS
open PySem PyProof.Rows
def gallop' : Bool → Keyed → Array Keyed → Nat → Nat → Nat → StateT SortSt Sem (Option Nat) := sortPriv% PySem.Builtin.gallop
def mergeLo' : Array Keyed → Array Keyed → StateT SortSt Sem (Array Keyed) := sortPriv% PySem.Builtin.mergeLo
def mergeHi' : Array Keyed → Array Keyed → StateT SortSt Sem (Array Keyed) := sortPriv% PySem.Builtin.mergeHi
def setG (st : SortSt) (g : Nat) : SortSt := SortSt.mk' (kindOf st) (arrOf st) (pendingOf st) g (failedOf st)
def setMin (g : Nat) : StateT SortSt Sem Unit := modify fun s => setG s g
def beyond (left : Bool) (key : Keyed) (arr : Array Keyed) (base i : Nat) : StateT SortSt Sem (Option Bool) :=
 elem' arr (base + i) >>= fun x => if left then lt' x key else lt' key x >>= fun r => pure (r.map fun c => !c)
end TS
set_option linter.all false
set_option maxRecDepth 100000
set_option maxHeartbeats 4000000
namespace TS
open PySem PyProof.Rows
structure Cmp (prog : Program) (w : World) (A : Around) (s : Shared) (κ : SortKind) (D : Keyed → Prop) (R : Keyed → Keyed → Bool) : Prop where
 ask : ∀ x y, D x → D y → ∀ (E : Value → Shared → Prop) (st : SortSt) (Q : Option Bool → SortSt → Prop), kindOf st = κ → Q (some (R x y)) st → wpS (model prog w) A E s (lt' x y) Q st
 asym : ∀ x y, D x → D y → R x y = true → R y x = false
 neg : ∀ x y z, D x → D y → D z → R x y = false → R y z = false → R x z = false
section
variable {prog : Program} {w : World} {A : Around} {E : Value → Shared → Prop} {s : Shared} {κ : SortKind} {D : Keyed → Prop} {R : Keyed → Keyed → Bool}
def bey (R : Keyed → Keyed → Bool) (left : Bool) (key x : Keyed) : Bool := if left then R x key else !R key x
theorem wpS_elem {arr : Array Keyed} {i : Nat} {x : Keyed} {st : SortSt} {Q : Keyed → SortSt → Prop} (hx : arr[i]? = some x) (h : Q x st) : wpS (model prog w) A E s (elem' arr i) Q st := by
 rw [elem'_eq, hx]
 exact wpS_pure h
theorem wpS_beyond (C : Cmp prog w A s κ D R) {left : Bool} {key x : Keyed} {arr : Array Keyed} {base i : Nat} {st : SortSt} {Q : Option Bool → SortSt → Prop} (hk : kindOf st = κ) (hkey : D key) (hx : arr[base + i]? = some x) (hD : D x)
  (h : Q (some (bey R left key x)) st) : wpS (model prog w) A E s (beyond left key arr base i) Q st := by
 unfold beyond
 refine wpS_bind (wpS_elem hx ?_)
 unfold bey at h
 cases left with
 | true =>
  simp only [if_true] at h ⊢
  exact C.ask _ _ hD hkey E st Q hk h
 | false =>
  simp only [Bool.false_eq_true, if_false] at h ⊢
  exact wpS_bind (C.ask _ _ hkey hD E st _ hk (wpS_pure h))
structure Gal (D : Keyed → Prop) (R : Keyed → Keyed → Bool) (left : Bool) (key : Keyed) (arr : Array Keyed) (base n k : Nat) : Prop where
 le : k ≤ n
 dk : D key
 at_ : ∀ i, i < n → ∃ x, arr[base + i]? = some x ∧ D x ∧ bey R left key x = decide (i < k)
theorem wpS_gallop (C : Cmp prog w A s κ D R) {left : Bool} {key : Keyed} {arr : Array Keyed} {base n hint k : Nat} {st : SortSt} {Q : Option Nat → SortSt → Prop} (G : Gal D R left key arr base n k) (hh : hint < n) (hk : kindOf st = κ)
  (h : Q (some k) st) : wpS (model prog w) A E s (gallop' left key arr base n hint) Q st := by
 have ask : ∀ i, i < n → ∀ (Q' : Option Bool → SortSt → Prop), Q' (some (decide (i < k))) st → wpS (model prog w) A E s (beyond left key arr base i) Q' st := by
  intro i hi Q' hq
  obtain ⟨x, hx, hD, e⟩ := G.at_ i hi
  exact wpS_beyond C hk G.dk hx hD (by rw [e]; exact hq)
 have hkn := G.le
 refine wpS_bind (ask hint hh _ ?_)
 dsimp only
 by_cases hr : hint < k
 ·rw [decide_eq_true hr, if_pos rfl]
  refine wpS_bind (wpS_mono (wpS_forRange (I := fun x c st' => st' = st ∧ ∃ last ofs, c = (none, last, ofs) ∧ hint + last < k ∧ last < ofs ∧ x + 1 ≤ ofs) (Q := fun c st' => st' = st ∧ ∃ last ofs, c = (none, last, ofs) ∧ hint + last < k ∧ last < ofs ∧ (n - hint ≤ ofs ∨ k ≤ hint + ofs)) ?step ?fin ⟨rfl, 0, 1, rfl, by assumption, by omega (config := {}), by omega (config := {})⟩) ?post)
  case step =>
   rintro x c st' _ hx ⟨rfl, last, ofs, rfl, g1, g2, g3⟩
   dsimp only
   by_cases hge : ofs ≥ n - hint
   ·rw [if_pos hge]
    exact wpS_pure ⟨rfl, last, ofs, rfl, g1, g2, .inl hge⟩
   ·rw [if_neg hge]
    refine wpS_bind (ask _ (by omega (config := {})) _ ?_)
    dsimp only
    by_cases hm : hint + ofs < k
    ·rw [decide_eq_true hm]
     simp only [Bool.not_true, Bool.false_eq_true, if_false]
     exact wpS_pure ⟨rfl, _, _, rfl, hm, by omega (config := {}), by omega (config := {})⟩
    ·rw [decide_eq_false hm]
     simp only [Bool.not_false, if_true]
     exact wpS_pure ⟨rfl, last, ofs, rfl, g1, g2, .inr (by omega (config := {}))⟩
  case fin =>
   rintro c st' ⟨rfl, last, ofs, rfl, g1, g2, g3⟩
   exact ⟨rfl, last, ofs, rfl, g1, g2, .inl (by omega (config := {}))⟩
  case post =>
   rintro c st' ⟨est, last, ofs, rfl, g1, g2, g3⟩
   subst st'
   dsimp only
   refine wpS_bind (wpS_mono (wpS_forRange (I := fun x c st' => st' = st ∧ ∃ lo hi, c = (none, lo, hi) ∧ lo ≤ k ∧ k ≤ hi ∧ hi ≤ n ∧ hi - lo ≤ n - x) (Q := fun c st' => st' = st ∧ c = (none, k, k)) ?stp ?fin2 ⟨rfl, hint + last + 1, hint + min ofs (n - hint), rfl, by assumption, by omega (config := {}), by omega (config := {}), by omega (config := {})⟩) ?post2)
   case stp =>
    rintro x c st' _ hx ⟨rfl, lo, hi, rfl, g1, g2, g3, g4⟩
    dsimp only
    by_cases hge : lo ≥ hi
    ·rw [if_pos hge]
     refine wpS_pure ⟨rfl, ?_⟩
     have e1 : lo = k := by omega (config := {})
     have e2 : hi = k := by omega (config := {})
     rw [e1, e2]
    ·rw [if_neg hge]
     refine wpS_bind (ask _ (by omega (config := {})) _ ?_)
     dsimp only
     by_cases hm : lo + (hi - lo) / 2 < k
     ·rw [decide_eq_true hm, if_pos rfl]
      exact wpS_pure ⟨rfl, _, _, rfl, by assumption, g2, g3, by omega (config := {})⟩
     ·rw [decide_eq_false hm, if_neg Bool.false_ne_true]
      exact wpS_pure ⟨rfl, _, _, rfl, g1, by omega (config := {}), by omega (config := {}), by omega (config := {})⟩
   case fin2 =>
    rintro c st' ⟨rfl, lo, hi, rfl, g1, g2, g3, g4⟩
    refine ⟨rfl, ?_⟩
    have e1 : lo = k := by omega (config := {})
    have e2 : hi = k := by omega (config := {})
    rw [e1, e2]
   case post2 =>
    rintro c st' ⟨rfl, rfl⟩
    exact wpS_pure h
 ·rw [decide_eq_false hr, if_neg Bool.false_ne_true]
  refine wpS_bind (wpS_mono (wpS_forRange (I := fun x c st' => st' = st ∧ ∃ last ofs, c = (none, last, ofs) ∧ k + last ≤ hint ∧ last < ofs ∧ x + 1 ≤ ofs) (Q := fun c st' => st' = st ∧ ∃ last ofs, c = (none, last, ofs) ∧ k + last ≤ hint ∧ last < ofs ∧ (hint + 1 ≤ ofs ∨ (ofs ≤ hint ∧ hint - ofs < k))) ?step ?fin ⟨rfl, 0, 1, rfl, by omega (config := {}), by omega (config := {}), by omega (config := {})⟩) ?post)
  case step =>
   rintro x c st' _ hx ⟨rfl, last, ofs, rfl, g1, g2, g3⟩
   dsimp only
   by_cases hge : ofs ≥ hint + 1
   ·rw [if_pos hge]
    exact wpS_pure ⟨rfl, last, ofs, rfl, g1, g2, .inl hge⟩
   ·rw [if_neg hge]
    refine wpS_bind (ask _ (by omega (config := {})) _ ?_)
    dsimp only
    by_cases hm : hint - ofs < k
    ·rw [decide_eq_true hm, if_pos rfl]
     exact wpS_pure ⟨rfl, last, ofs, rfl, g1, g2, .inr ⟨by omega (config := {}), hm⟩⟩
    ·rw [decide_eq_false hm, if_neg Bool.false_ne_true]
     exact wpS_pure ⟨rfl, _, _, rfl, by omega (config := {}), by omega (config := {}), by omega (config := {})⟩
  case fin =>
   rintro c st' ⟨rfl, last, ofs, rfl, g1, g2, g3⟩
   exact ⟨rfl, last, ofs, rfl, g1, g2, .inl (by omega (config := {}))⟩
  case post =>
   rintro c st' ⟨est, last, ofs, rfl, g1, g2, g3⟩
   subst st'
   dsimp only
   refine wpS_bind (wpS_mono (wpS_forRange (I := fun x c st' => st' = st ∧ ∃ lo hi, c = (none, lo, hi) ∧ lo ≤ k ∧ k ≤ hi ∧ hi ≤ n ∧ hi - lo ≤ n - x) (Q := fun c st' => st' = st ∧ c = (none, k, k)) ?stp ?fin2 ⟨rfl, hint + 1 - min ofs (hint + 1), hint - last, rfl, by omega (config := {}), by omega (config := {}), by omega (config := {}), by omega (config := {})⟩) ?post2)
   case stp =>
    rintro x c st' _ hx ⟨rfl, lo, hi, rfl, g1, g2, g3, g4⟩
    dsimp only
    by_cases hge : lo ≥ hi
    ·rw [if_pos hge]
     refine wpS_pure ⟨rfl, ?_⟩
     have e1 : lo = k := by omega (config := {})
     have e2 : hi = k := by omega (config := {})
     rw [e1, e2]
    ·rw [if_neg hge]
     refine wpS_bind (ask _ (by omega (config := {})) _ ?_)
     dsimp only
     by_cases hm : lo + (hi - lo) / 2 < k
     ·rw [decide_eq_true hm, if_pos rfl]
      exact wpS_pure ⟨rfl, _, _, rfl, by assumption, g2, g3, by omega (config := {})⟩
     ·rw [decide_eq_false hm, if_neg Bool.false_ne_true]
      exact wpS_pure ⟨rfl, _, _, rfl, g1, by omega (config := {}), by omega (config := {}), by omega (config := {})⟩
   case fin2 =>
    rintro c st' ⟨rfl, lo, hi, rfl, g1, g2, g3, g4⟩
    refine ⟨rfl, ?_⟩
    have e1 : lo = k := by omega (config := {})
    have e2 : hi = k := by omega (config := {})
    rw [e1, e2]
   case post2 =>
    rintro c st' ⟨rfl, rfl⟩
    exact wpS_pure h
end
end TS
set_option linter.all false
set_option maxRecDepth 100000
set_option maxHeartbeats 4000000
namespace TS
open PySem PyProof.Rows
section
variable {D : Keyed → Prop} {R : Keyed → Keyed → Bool}
def le (R : Keyed → Keyed → Bool) (x y : Keyed) : Prop := R y x = false
def Srt (R : Keyed → Keyed → Bool) (l : List Keyed) : Prop := l.Pairwise (le R)
structure Wk (D : Keyed → Prop) (R : Keyed → Keyed → Bool) : Prop where
 asym : ∀ x y, D x → D y → R x y = true → R y x = false
 neg : ∀ x y z, D x → D y → D z → R x y = false → R y z = false → R x z = false
theorem Wk.trans (W : Wk D R) {x y z : Keyed} (hx : D x) (hy : D y) (hz : D z) (h1 : le R x y) (h2 : le R y z) : le R x z := W.neg z y x hz hy hx h2 h1
theorem Wk.of_lt (W : Wk D R) {x y : Keyed} (hx : D x) (hy : D y) (h : R x y = true) : le R x y := W.asym x y hx hy h
theorem Wk.refl (W : Wk D R) {x : Keyed} (hx : D x) : le R x x := by
 unfold le
 cases h : R x x with
 | false => rfl
 | true => exact absurd (W.asym x x hx hx h) (by rw [h]; simp)
theorem srt_at {l : List Keyed} (h : Srt R l) {i j : Nat} {x y : Keyed} (hij : i < j) (hx : l[i]? = some x) (hy : l[j]? = some y) : le R x y := by
 obtain ⟨hi, rfl⟩ := List.getElem?_eq_some_iff.mp hx
 obtain ⟨hj, rfl⟩ := List.getElem?_eq_some_iff.mp hy
 exact List.pairwise_iff_getElem.mp h i j hi hj hij
theorem srt_at' (W : Wk D R) {l : List Keyed} (hD : ∀ x ∈ l, D x) (h : Srt R l) {i j : Nat} {x y : Keyed} (hij : i ≤ j) (hx : l[i]? = some x) (hy : l[j]? = some y) : le R x y := by
 rcases Nat.lt_or_eq_of_le hij with z | rfl
 ·exact srt_at h z hx hy
 ·rw [hx] at hy
  cases hy
  exact W.refl (hD x (List.mem_of_getElem? hx))
theorem srt_drop {l : List Keyed} (h : Srt R l) (n : Nat) : Srt R (l.drop n) := h.sublist (List.drop_sublist n l)
theorem srt_take {l : List Keyed} (h : Srt R l) (n : Nat) : Srt R (l.take n) := h.sublist (List.take_sublist n l)
theorem drop_cons {l : List Keyed} {i : Nat} {x : Keyed} (h : l[i]? = some x) : l.drop i = x :: l.drop (i + 1) := by
 obtain ⟨hi, rfl⟩ := List.getElem?_eq_some_iff.mp h
 exact List.drop_eq_getElem_cons hi
theorem take_snoc {l : List Keyed} {i : Nat} {x : Keyed} (h : l[i]? = some x) : l.take (i + 1) = l.take i ++ [x] := by
 rw [List.take_add_one, h]
 rfl
theorem cut_at : ∀ (n : Nat) {f : Nat → Bool}, (∀ i j, i ≤ j → j < n → f j = true → f i = true) → ∃ k, k ≤ n ∧ ∀ i, i < n → f i = decide (i < k)
 | 0, _, _ => ⟨0, Nat.le_refl _, fun i hi => absurd hi (Nat.not_lt_zero _)⟩
 | n + 1, f, h => by
  obtain ⟨k, hk, hc⟩ := cut_at n (f := f) fun i j hij hj => h i j hij (by omega)
  cases hn : f n with
  | true =>
   refine ⟨n + 1, Nat.le_refl _, fun i hi => ?_⟩
   rw [h i n (by omega) (by omega) hn, decide_eq_true hi]
  | false =>
   refine ⟨k, by omega, fun i hi => ?_⟩
   rcases Nat.lt_or_ge i n with z | z
   ·exact hc i z
   ·have : i = n := by omega
    subst this
    rw [hn, decide_eq_false (by omega)]
structure Up (D : Keyed → Prop) (R : Keyed → Keyed → Bool) (la lb o : List Keyed) (ia ib : Nat) : Prop where
 perm : o.Perm (la.take ia ++ lb.take ib)
 srt : Srt R o
 low : ∀ x ∈ o, ∀ y ∈ la.drop ia ++ lb.drop ib, le R x y
structure Two (D : Keyed → Prop) (R : Keyed → Keyed → Bool) (la lb : List Keyed) : Prop where
 wk : Wk D R
 da : ∀ x ∈ la, D x
 db : ∀ x ∈ lb, D x
 sa : Srt R la
 sb : Srt R lb
 first : ∀ y, lb[0]? = some y → ∀ x ∈ la, le R y x
 last : ∀ x, la[la.length - 1]? = some x → ∀ y ∈ lb, le R y x
variable {la lb o : List Keyed} {ia ib : Nat}
theorem Up.pushB (T : Two D R la lb) (U : Up D R la lb o ia ib) {x : Keyed} (hx : lb[ib]? = some x) (h : ∀ y, la[ia]? = some y → le R x y) : Up D R la lb (o ++ [x]) ia (ib + 1) := by
 have hxD := T.db x (List.mem_of_getElem? hx)
 refine ⟨?_, ?_, ?_⟩
 ·rw [take_snoc hx, ← List.append_assoc]
  exact U.perm.append_right _
 ·refine List.pairwise_append.mpr ⟨U.srt, List.pairwise_singleton _ _, fun y hy z hz => ?_⟩
  rw [List.mem_singleton.mp hz]
  refine U.low y hy x (List.mem_append_right _ ?_)
  rw [drop_cons hx]
  exact List.mem_cons_self
 ·intro y hy z hz
  rcases List.mem_append.mp hy with hy | hy
  ·refine U.low y hy z ?_
   rcases List.mem_append.mp hz with hz | hz
   ·exact List.mem_append_left _ hz
   ·refine List.mem_append_right _ ?_
    rw [drop_cons hx]
    exact List.mem_cons_of_mem _ hz
  ·rw [List.mem_singleton.mp hy]
   rcases List.mem_append.mp hz with hz | hz
   ·obtain ⟨j, hj, rfl⟩ := List.mem_iff_getElem.mp hz
    have hlen : ia < la.length := by
     rw [List.length_drop] at hj
     omega
    have h1 := h la[ia] (List.getElem?_eq_getElem hlen)
    have ej : (la.drop ia)[j]? = la[ia + j]? := List.getElem?_drop
    have h2 : le R la[ia] (la.drop ia)[j] := srt_at' T.wk T.da T.sa (Nat.le_add_right ia j) (List.getElem?_eq_getElem hlen) (by rw [← ej]; exact List.getElem?_eq_getElem hj)
    exact T.wk.trans hxD (T.da _ (List.getElem_mem _)) (T.da _ (List.mem_of_mem_drop (List.getElem_mem _))) h1 h2
   ·obtain ⟨j, hj, rfl⟩ := List.mem_iff_getElem.mp hz
    have ej : (lb.drop (ib + 1))[j]? = lb[ib + 1 + j]? := List.getElem?_drop
    exact srt_at T.sb (by omega : ib < ib + 1 + j) hx (by rw [← ej]; exact List.getElem?_eq_getElem hj)
theorem Up.pushA (T : Two D R la lb) (U : Up D R la lb o ia ib) {x : Keyed} (hx : la[ia]? = some x) (h : ∀ y, lb[ib]? = some y → le R x y) : Up D R la lb (o ++ [x]) (ia + 1) ib := by
 have hxD := T.da x (List.mem_of_getElem? hx)
 refine ⟨?_, ?_, ?_⟩
 ·rw [take_snoc hx]
  refine (U.perm.append_right _).trans ?_
  rw [List.append_assoc, List.append_assoc]
  exact List.Perm.append_left _ List.perm_append_comm
 ·refine List.pairwise_append.mpr ⟨U.srt, List.pairwise_singleton _ _, fun y hy z hz => ?_⟩
  rw [List.mem_singleton.mp hz]
  refine U.low y hy x (List.mem_append_left _ ?_)
  rw [drop_cons hx]
  exact List.mem_cons_self
 ·intro y hy z hz
  rcases List.mem_append.mp hy with hy | hy
  ·refine U.low y hy z ?_
   rcases List.mem_append.mp hz with hz | hz
   ·refine List.mem_append_left _ ?_
    rw [drop_cons hx]
    exact List.mem_cons_of_mem _ hz
   ·exact List.mem_append_right _ hz
  ·rw [List.mem_singleton.mp hy]
   rcases List.mem_append.mp hz with hz | hz
   ·obtain ⟨j, hj, rfl⟩ := List.mem_iff_getElem.mp hz
    have ej : (la.drop (ia + 1))[j]? = la[ia + 1 + j]? := List.getElem?_drop
    exact srt_at T.sa (by omega : ia < ia + 1 + j) hx (by rw [← ej]; exact List.getElem?_eq_getElem hj)
   ·obtain ⟨j, hj, rfl⟩ := List.mem_iff_getElem.mp hz
    have hlen : ib < lb.length := by
     rw [List.length_drop] at hj
     omega
    have h1 := h lb[ib] (List.getElem?_eq_getElem hlen)
    have ej : (lb.drop ib)[j]? = lb[ib + j]? := List.getElem?_drop
    have h2 : le R lb[ib] (lb.drop ib)[j] := srt_at' T.wk T.db T.sb (Nat.le_add_right ib j) (List.getElem?_eq_getElem hlen) (by rw [← ej]; exact List.getElem?_eq_getElem hj)
    exact T.wk.trans hxD (T.db _ (List.getElem_mem _)) (T.db _ (List.mem_of_mem_drop (List.getElem_mem _))) h1 h2
theorem take_drop_succ {l : List Keyed} {i k : Nat} {x : Keyed} (h : l[i + k]? = some x) : (l.drop i).take (k + 1) = (l.drop i).take k ++ [x] := by
 rw [List.take_add_one, List.getElem?_drop, h]
 rfl
theorem Up.manyA (T : Two D R la lb) (U : Up D R la lb o ia ib) {y : Keyed} (hy : lb[ib]? = some y) : ∀ (k : Nat), ia + k ≤ la.length → (∀ i x, i < k → la[ia + i]? = some x → le R x y) → Up D R la lb (o ++ (la.drop ia).take k) (ia + k) ib
 | 0, _, _ => by simpa using U
 | k + 1, hl, h => by
  have ih := U.manyA T hy k (by omega) fun i x hi => h i x (by omega)
  have hk : ia + k < la.length := by assumption
  have hx := List.getElem?_eq_getElem hk
  rw [take_drop_succ hx, ← List.append_assoc]
  refine ih.pushA T hx fun z hz => ?_
  rw [hy] at hz
  cases hz
  exact h k _ (by omega) hx
theorem Up.manyB (T : Two D R la lb) (U : Up D R la lb o ia ib) {y : Keyed} (hy : la[ia]? = some y) : ∀ (k : Nat), ib + k ≤ lb.length → (∀ i x, i < k → lb[ib + i]? = some x → le R x y) → Up D R la lb (o ++ (lb.drop ib).take k) ia (ib + k)
 | 0, _, _ => by simpa using U
 | k + 1, hl, h => by
  have ih := U.manyB T hy k (by omega) fun i x hi => h i x (by omega)
  have hk : ib + k < lb.length := by assumption
  have hx := List.getElem?_eq_getElem hk
  rw [take_drop_succ hx, ← List.append_assoc]
  refine ih.pushB T hx fun z hz => ?_
  rw [hy] at hz
  cases hz
  exact h k _ (by omega) hx
def Mrg (R : Keyed → Keyed → Bool) (la lb m : List Keyed) : Prop := m.Perm (la ++ lb) ∧ Srt R m
theorem Up.start (T : Two D R la lb) {y : Keyed} (hy : lb[0]? = some y) : Up D R la lb [y] 0 1 := by
 have U0 : Up D R la lb [] 0 0 := ⟨by simp, List.Pairwise.nil, fun _ h => nomatch h⟩
 exact U0.pushB T hy fun x hx => T.first y hy x (List.mem_of_getElem? hx)
theorem perm_rest {o : List Keyed} (h : o.Perm (la.take ia ++ lb.take ib)) : (o ++ la.drop ia ++ lb.drop ib).Perm (la ++ lb) := by
 have e : (la ++ lb).Perm (la.take ia ++ lb.take ib ++ (la.drop ia ++ lb.drop ib)) := by
  have h1 : la ++ lb = la.take ia ++ la.drop ia ++ (lb.take ib ++ lb.drop ib) := by rw [List.take_append_drop, List.take_append_drop]
  rw [h1, List.append_assoc, List.append_assoc]
  refine List.Perm.append_left _ ?_
  rw [← List.append_assoc, ← List.append_assoc]
  exact List.Perm.append_right _ List.perm_append_comm
 rw [List.append_assoc]
 exact (h.append_right _).trans e.symm
theorem Up.doneB (T : Two D R la lb) (U : Up D R la lb o ia ib) (hb : ib = lb.length) : Mrg R la lb (o ++ la.drop ia ++ lb.drop ib) := by
 refine ⟨perm_rest U.perm, ?_⟩
 have e : lb.drop ib = [] := by rw [hb]; exact List.drop_length
 rw [e, List.append_nil]
 refine List.pairwise_append.mpr ⟨U.srt, srt_drop T.sa _, fun x hx y hy => U.low x hx y (List.mem_append_left _ hy)⟩
theorem Up.doneA (T : Two D R la lb) (U : Up D R la lb o ia ib) (ha : ia = la.length) : Mrg R la lb (o ++ la.drop ia ++ lb.drop ib) := by
 refine ⟨perm_rest U.perm, ?_⟩
 have e : la.drop ia = [] := by rw [ha]; exact List.drop_length
 rw [e, List.append_nil]
 refine List.pairwise_append.mpr ⟨U.srt, srt_drop T.sb _, fun x hx y hy => U.low x hx y (List.mem_append_right _ hy)⟩
theorem Up.lastA (T : Two D R la lb) (U : Up D R la lb o ia ib) (ha : ia + 1 = la.length) : Mrg R la lb (o ++ lb.drop ib ++ la.drop ia) := by
 have hx : la[ia]? = some la[ia] := List.getElem?_eq_getElem (by omega)
 have e : la.drop ia = [la[ia]] := by
  rw [drop_cons hx, ha, List.drop_length]
 refine ⟨?_, ?_⟩
 ·refine List.Perm.trans ?_ (perm_rest U.perm)
  rw [List.append_assoc, List.append_assoc]
  exact List.Perm.append_left _ List.perm_append_comm
 ·rw [List.append_assoc]
  refine List.pairwise_append.mpr ⟨U.srt, List.pairwise_append.mpr ⟨srt_drop T.sb _, srt_drop T.sa _, fun x hx' y hy => ?_⟩, fun x hx' y hy => U.low x hx' y ?_⟩
  ·rw [e] at hy
   rw [List.mem_singleton.mp hy]
   have el : la.length - 1 = ia := by omega
   exact T.last la[ia] (by rw [el]; exact hx) x (List.mem_of_mem_drop hx')
  ·rcases List.mem_append.mp hy with z | z
   ·exact List.mem_append_right _ z
   ·exact List.mem_append_left _ z
end
end TS
set_option linter.all false
set_option maxRecDepth 100000
set_option maxHeartbeats 4000000
namespace TS
open PySem PyProof.Rows
section
variable {prog : Program} {w : World} {A : Around} {E : Value → Shared → Prop} {s : Shared} {κ : SortKind} {D : Keyed → Prop} {R : Keyed → Keyed → Bool}
theorem Cmp.wk (C : Cmp prog w A s κ D R) : Wk D R := ⟨C.asym, C.neg⟩
theorem wpS_setMin {g : Nat} {st : SortSt} {Q : Unit → SortSt → Prop} (h : Q () (setG st g)) : wpS (model prog w) A E s (setMin g) Q st := wpS_modify h
theorem wpS_rule {x : String} {st : SortSt} {Q : Unit → SortSt → Prop} (h : Q () st) : wpS (model prog w) A E s (liftM (rule x) : StateT SortSt Sem Unit) Q st := wpS_lift (wpAny_rule ⟨rfl, h⟩)
theorem arr_at {a : Array Keyed} {i : Nat} (h : i < a.size) : ∃ x, a[i]? = some x ∧ a.toList[i]? = some x := ⟨a[i], by simp [h], by simp [h]⟩
theorem arr_list {a : Array Keyed} {i : Nat} : a[i]? = a.toList[i]? := by simp
theorem ext_to (a : Array Keyed) (i : Nat) : (a.extract i a.size).toList = a.toList.drop i := by
 rw [Array.toList_extract, List.extract_eq_take_drop, List.take_of_length_le]
 simp
theorem ext_mid (a : Array Keyed) (i k : Nat) : (a.extract i (i + k)).toList = (a.toList.drop i).take k := by
 rw [Array.toList_extract, List.extract_eq_take_drop]
 congr 1
 omega
theorem gal_right (W : Wk D R) {arr : Array Keyed} {key : Keyed} {base n : Nat} (hs : Srt R arr.toList) (hD : ∀ x ∈ arr.toList, D x) (hk : D key) (hn : base + n ≤ arr.size) :
  ∃ k, Gal D R false key arr base n k ∧ (∀ i x, i < k → arr.toList[base + i]? = some x → le R x key) ∧ ∀ i x, k ≤ i → i < n → arr.toList[base + i]? = some x → R key x = true := by
 have mono : ∀ i j, i ≤ j → j < n → (match arr.toList[base + j]? with | some x => bey R false key x | none => false) = true → (match arr.toList[base + i]? with | some x => bey R false key x | none => false) = true := by
  intro i j hij hj h
  obtain ⟨x, _, hx⟩ := arr_at (a := arr) (i := base + i) (by omega)
  obtain ⟨y, _, hy⟩ := arr_at (a := arr) (i := base + j) (by omega)
  rw [hy] at h
  rw [hx]
  dsimp only [bey] at h ⊢
  simp only [Bool.false_eq_true, if_false, Bool.not_eq_true'] at h ⊢
  exact W.neg key y x hk (hD y (List.mem_of_getElem? hy)) (hD x (List.mem_of_getElem? hx)) h (srt_at' W hD hs (by omega) hx hy)
 obtain ⟨k, hk1, hk2⟩ := cut_at n mono
 have at_ : ∀ i x, i < n → arr.toList[base + i]? = some x → bey R false key x = decide (i < k) := by
  intro i x hi hx
  have := hk2 i hi
  rw [hx] at this
  exact this
 refine ⟨k, ⟨hk1, hk, fun i hi => ?_⟩, fun i x hi hx => ?_, fun i x h1 h2 hx => ?_⟩
 ·obtain ⟨x, hx, hx'⟩ := arr_at (a := arr) (i := base + i) (by omega)
  exact ⟨x, hx, hD x (List.mem_of_getElem? hx'), at_ i x hi hx'⟩
 ·have := at_ i x (by omega) hx
  rw [decide_eq_true hi] at this
  dsimp only [bey] at this
  simpa [le] using this
 ·have := at_ i x h2 hx
  rw [decide_eq_false (by omega)] at this
  dsimp only [bey] at this
  simpa using this
theorem gal_left (W : Wk D R) {arr : Array Keyed} {key : Keyed} {base n : Nat} (hs : Srt R arr.toList) (hD : ∀ x ∈ arr.toList, D x) (hk : D key) (hn : base + n ≤ arr.size) :
  ∃ k, Gal D R true key arr base n k ∧ (∀ i x, i < k → arr.toList[base + i]? = some x → R x key = true) ∧ ∀ i x, k ≤ i → i < n → arr.toList[base + i]? = some x → le R key x := by
 have mono : ∀ i j, i ≤ j → j < n → (match arr.toList[base + j]? with | some x => bey R true key x | none => false) = true → (match arr.toList[base + i]? with | some x => bey R true key x | none => false) = true := by
  intro i j hij hj h
  obtain ⟨x, _, hx⟩ := arr_at (a := arr) (i := base + i) (by omega)
  obtain ⟨y, _, hy⟩ := arr_at (a := arr) (i := base + j) (by omega)
  rw [hy] at h
  rw [hx]
  dsimp only [bey] at h ⊢
  simp only [if_true] at h ⊢
  have hxD := hD x (List.mem_of_getElem? hx)
  have hyD := hD y (List.mem_of_getElem? hy)
  cases hc : R x key with
  | true => rfl
  | false =>
   have := W.neg y x key hyD hxD hk (srt_at' W hD hs (by omega) hx hy) hc
   rw [h] at this
   cases this
 obtain ⟨k, hk1, hk2⟩ := cut_at n mono
 have at_ : ∀ i x, i < n → arr.toList[base + i]? = some x → bey R true key x = decide (i < k) := by
  intro i x hi hx
  have := hk2 i hi
  rw [hx] at this
  exact this
 refine ⟨k, ⟨hk1, hk, fun i hi => ?_⟩, fun i x hi hx => ?_, fun i x h1 h2 hx => ?_⟩
 ·obtain ⟨x, hx, hx'⟩ := arr_at (a := arr) (i := base + i) (by omega)
  exact ⟨x, hx, hD x (List.mem_of_getElem? hx'), at_ i x hi hx'⟩
 ·have := at_ i x (by omega) hx
  rw [decide_eq_true hi] at this
  dsimp only [bey] at this
  simpa using this
 ·have := at_ i x h2 hx
  rw [decide_eq_false (by omega)] at this
  dsimp only [bey] at this
  simpa [le] using this
theorem wpS_post {α : Type} {M : Model} {m : StateT SortSt Sem α} {st : SortSt} {Q : α → SortSt → Prop} (h : ∀ P : α → SortSt → Prop, (∀ x st', Q x st' → P x st') → wpS M A E s m P st) : wpS M A E s m Q st := h Q fun _ _ q => q
theorem wpS_T {α : Type} {M : Model} {c : Prop} [Decidable c] {x y : StateT SortSt Sem α} {st : SortSt} {Q : α → SortSt → Prop} (hc : c) (h : wpS M A E s x Q st) : wpS M A E s (if c then x else y) Q st := by
 rw [if_pos hc]
 exact h
theorem wpS_F {α : Type} {M : Model} {c : Prop} [Decidable c] {x y : StateT SortSt Sem α} {st : SortSt} {Q : α → SortSt → Prop} (hc : ¬ c) (h : wpS M A E s y Q st) : wpS M A E s (if c then x else y) Q st := by
 rw [if_neg hc]
 exact h
theorem wpS_C {α : Type} {M : Model} {c : Prop} [Decidable c] {x y : StateT SortSt Sem α} {st : SortSt} {Q : α → SortSt → Prop} (h1 : c → wpS M A E s x Q st) (h2 : ¬ c → wpS M A E s y Q st) : wpS M A E s (if c then x else y) Q st := by
 by_cases h : c
 ·exact wpS_T h (h1 h)
 ·exact wpS_F h (h2 h)
theorem wpS_bindO {α β : Type} {M : Model} {m : StateT SortSt Sem α} {f : α → StateT SortSt Sem β} {Q : β → SortSt → Prop} {st : SortSt} (h : ∀ k : α → StateT SortSt Sem β, k = f → wpS M A E s m (fun a st' => wpS M A E s (k a) Q st') st) : wpS M A E s (m >>= f) Q st := wpS_bind (h f rfl)
theorem gate {g : Prop} (h : ∀ G : Prop, (g → G) → G) : g := h g id
theorem ne_beq {m n : Nat} (h : ¬ (m == n) = true) : ¬ m = n := fun z => h (by rw [z]; exact beq_self_eq_true _)
theorem wpS_mergeLo (C : Cmp prog w A s κ D R) {a b : Array Keyed} (T : Two D R a.toList b.toList) (ha : 1 ≤ a.size) (hb : 1 ≤ b.size) {st : SortSt} (hk : kindOf st = κ) {Q : Array Keyed → SortSt → Prop}
  (h : ∀ m g, Mrg R a.toList b.toList m.toList → Q m (setG st g)) : wpS (model prog w) A E s (mergeLo' a b) Q st := by
 obtain ⟨b0, hb0, hb0'⟩ := arr_at (a := b) (i := 0) (by assumption)
 have U0 : Up D R a.toList b.toList (#[b0] : Array Keyed).toList 0 1 := Up.start T hb0'
 have la : a.toList.length = a.size := Array.length_toList
 have lb : b.toList.length = b.size := Array.length_toList
 have mDone : ∀ (out : Array Keyed) (ia ib : Nat), Up D R a.toList b.toList out.toList ia ib → ib = b.size ∨ ia = a.size → Mrg R a.toList b.toList (out ++ a.extract ia a.size ++ b.extract ib b.size).toList := by
  intro out ia ib U hz
  rw [Array.toList_append, Array.toList_append, ext_to, ext_to]
  rcases hz with z | z
  ·exact U.doneB T (by assumption)
  ·exact U.doneA T (by assumption)
 have mLast : ∀ (out : Array Keyed) (ia ib : Nat), Up D R a.toList b.toList out.toList ia ib → ia + 1 = a.size → Mrg R a.toList b.toList (out ++ b.extract ib b.size ++ a.extract ia a.size).toList := by
  intro out ia ib U hz
  rw [Array.toList_append, Array.toList_append, ext_to, ext_to]
  exact U.lastA T (by assumption)
 have hst : st = setG st (gallopOf st) := rfl
 refine wpS_bind (wpS_rule (wpS_bind (wpS_elem hb0 (wpS_C (fun (e1 : (1 == b.size) = true) => wpS_pure (h _ _ (mDone _ _ _ U0 (.inl (eq_of_beq e1))))) (fun (e1 : ¬ (1 == b.size) = true) => wpS_C (fun (e2 : (0 + 1 == a.size) = true) => wpS_pure (h _ _ (mLast _ _ _ U0 (eq_of_beq e2)))) (fun (e2 : ¬ (0 + 1 == a.size) = true) => ?_))))))
 have nb1 : 1 < b.size := by
  have := ne_beq e1
  omega
 have na1 : 0 + 1 < a.size := by
  have := ne_beq e2
  omega
 refine wpS_bind (wpS_get (wpS_bind (wpS_mono (wpS_forRange (I := fun x c st' => (∃ g, st' = setG st g) ∧ ∃ (out : Array Keyed) (ia ib mg : Nat), c = (none, out, ia, ib, mg) ∧ Up D R a.toList b.toList out.toList ia ib ∧ ia + 1 < a.size ∧ ib < b.size ∧ x ≤ ia + ib)
  (Q := fun c st' => (∃ g, st' = setG st g) ∧ ∃ m rest, c = (some m, rest) ∧ Mrg R a.toList b.toList m.toList) ?step ?fin ⟨⟨_, hst⟩, _, _, _, _, rfl, U0, na1, nb1, by omega⟩) ?post)))
 case fin =>
  intro c st' hI_
  refine gate fun gG hgG => ?_
  obtain ⟨_, out, ia, ib, mg, rfl, U, h1, h2, h3⟩ := hI_
  refine hgG ?_
  clear hgG
  omega
 case post =>
  rintro c st' ⟨⟨g, rfl⟩, m, rest, rfl, hm⟩
  exact wpS_pure (h m g hm)
 case step =>
  clear h
  intro x c st' _ hx hI
  refine wpS_post fun P0 hP0 => ?_
  refine gate fun G hG => ?_
  refine gate fun gG hgG => ?_
  obtain ⟨⟨g, rfl⟩, out, ia, ib, mg, rfl, U, h1, h2, h3⟩ := hI
  refine hgG ?_
  clear hgG
  refine hG ?_
  clear hG
  refine wpS_bindO fun kk hkk => (wpS_mono (wpS_forRange (I := fun y c st' => st' = setG st g ∧ ∃ (out : Array Keyed) (ia' ib' ac bc : Nat), c = (none, out, ia', ib', ac, bc) ∧ Up D R a.toList b.toList out.toList ia' ib' ∧ ia' + 1 < a.size ∧ ib' < b.size ∧ ia + ib + y ≤ ia' + ib')
   (Q := fun c st' => st' = setG st g ∧ ((∃ m rest, c = (some m, rest) ∧ Mrg R a.toList b.toList m.toList) ∨ ∃ (out : Array Keyed) (ia' ib' ac bc : Nat), c = (none, out, ia', ib', ac, bc) ∧ Up D R a.toList b.toList out.toList ia' ib' ∧ ia' + 1 < a.size ∧ ib' < b.size ∧ ia + ib + 1 ≤ ia' + ib')) ?step1 ?fin1 ⟨rfl, _, _, _, _, _, rfl, U, h1, h2, Nat.le_refl _⟩) ?post1)
  case fin1 =>
   clear hkk hP0
   intro c st' hI_
   refine gate fun gG hgG => ?_
   obtain ⟨_, out, ia', ib', ac, bc, rfl, U', g1, g2, g3⟩ := hI_
   refine hgG ?_
   clear hgG
   omega
  case step1 =>
   clear hkk hP0
   intro y c st' _ hy hI
   refine wpS_post fun P hP => ?_
   refine gate fun G hG => ?_
   refine gate fun gG hgG => ?_
   obtain ⟨rfl, out, ia', ib', ac, bc, rfl, U', g1, g2, g3⟩ := hI
   have pFin : ∀ m rest, Mrg R a.toList b.toList m.toList → P (.done (some m, rest)) (setG st g) := fun m rest hm => hP _ _ ⟨rfl, .inl ⟨m, rest, rfl, hm⟩⟩
   have pBrk : ∀ out i j ac bc, Up D R a.toList b.toList out.toList i j → i + 1 < a.size → j < b.size → ia + ib + 1 ≤ i + j → P (.done (none, out, i, j, ac, bc)) (setG st g) := fun out i j ac bc U h1 h2 h3 => hP _ _ ⟨rfl, .inr ⟨out, i, j, ac, bc, rfl, U, h1, h2, h3⟩⟩
   have pGo : ∀ out i j ac bc, Up D R a.toList b.toList out.toList i j → i + 1 < a.size → j < b.size → ia + ib + (y + 1) ≤ i + j → P (.yield (none, out, i, j, ac, bc)) (setG st g) := fun out i j ac bc U h1 h2 h3 => hP _ _ ⟨rfl, out, i, j, ac, bc, rfl, U, h1, h2, h3⟩
   clear hP
   obtain ⟨xb, hxb, hxb'⟩ := arr_at (a := b) (i := ib') (by assumption)
   obtain ⟨xa, hxa, hxa'⟩ := arr_at (a := a) (i := ia') (by omega)
   refine hgG ?_
   clear hgG
   have dxa := T.da xa (List.mem_of_getElem? hxa')
   have dxb := T.db xb (List.mem_of_getElem? hxb')
   refine hG ?_
   clear hG
   refine wpS_bind (wpS_elem hxb (wpS_bind (wpS_elem hxa (wpS_bind (C.ask xb xa dxb dxa E _ _ hk ?_)))))
   cases hc : R xb xa with
   | true =>
    have U2 : Up D R a.toList b.toList (out.push xb).toList ia' (ib' + 1) := by
     rw [Array.toList_push]
     exact U'.pushB T hxb' fun z hz => by
      rw [hxa'] at hz
      cases hz
      exact T.wk.of_lt dxb dxa hc
    refine wpS_T rfl (wpS_bind (wpS_elem hxb ?_))
    refine wpS_C (fun (e3 : (ib' + 1 == b.size) = true) => (wpS_pure (pFin _ _ (mDone _ _ _ U2 (.inl (eq_of_beq e3)))))) (fun (e3 : ¬ (ib' + 1 == b.size) = true) => ?_)
    have e3' := ne_beq e3
    exact wpS_C (fun (e4 : bc + 1 ≥ mg) => (wpS_pure (pBrk _ ia' (ib' + 1) _ _ U2 g1 (by omega) (by omega)))) (fun (e4 : ¬ bc + 1 ≥ mg) => (wpS_pure (pGo _ ia' (ib' + 1) _ _ U2 g1 (by omega) (by omega))))
   | false =>
    have U2 : Up D R a.toList b.toList (out.push xa).toList (ia' + 1) ib' := by
     rw [Array.toList_push]
     exact U'.pushA T hxa' fun z hz => by
      rw [hxb'] at hz
      cases hz
      exact hc
    refine wpS_F Bool.false_ne_true (wpS_bind (wpS_elem hxa ?_))
    refine wpS_C (fun (e3 : (ia' + 1 + 1 == a.size) = true) => (wpS_pure (pFin _ _ (mLast _ _ _ U2 (eq_of_beq e3))))) (fun (e3 : ¬ (ia' + 1 + 1 == a.size) = true) => ?_)
    have e3' := ne_beq e3
    exact wpS_C (fun (e4 : ac + 1 ≥ mg) => (wpS_pure (pBrk _ (ia' + 1) ib' _ _ U2 (by omega) g2 (by omega)))) (fun (e4 : ¬ ac + 1 ≥ mg) => (wpS_pure (pGo _ (ia' + 1) ib' _ _ U2 (by omega) g2 (by omega))))
  case post1 =>
   intro c st' hI
   refine gate fun G hG => ?_
   obtain ⟨rfl, ⟨m, rest, rfl, hm⟩ | ⟨out1, ia1, ib1, ac1, bc1, rfl, U1, g1, g2, g3⟩⟩ := hI
   ·obtain ⟨r1, r2, r3, r4, r5⟩ := rest
    subst hkk
    exact hG (wpS_pure (hP0 _ _ ⟨⟨g, rfl⟩, m, _, rfl, hm⟩))
   refine hG ?_
   clear U h1 h2 U0 hG
   subst hkk
   refine wpS_bind (wpS_rule (wpS_bind (wpS_mono (wpS_forRange (I := fun y c st' => (∃ g, st' = setG st g) ∧ ∃ (out : Array Keyed) (ia' ib' mg ac bc : Nat), c = (none, out, ia', ib', mg, ac, bc) ∧ Up D R a.toList b.toList out.toList ia' ib' ∧ ia' + 1 < a.size ∧ ib' < b.size ∧ ia1 + ib1 + y ≤ ia' + ib')
    (Q := fun c st' => (∃ g, st' = setG st g) ∧ ((∃ m rest, c = (some m, rest) ∧ Mrg R a.toList b.toList m.toList) ∨ ∃ (out : Array Keyed) (ia' ib' mg ac bc : Nat), c = (none, out, ia', ib', mg, ac, bc) ∧ Up D R a.toList b.toList out.toList ia' ib' ∧ ia' + 1 < a.size ∧ ib' < b.size ∧ ia1 + ib1 ≤ ia' + ib')) ?step2 ?fin2 ⟨⟨g, rfl⟩, _, _, _, _, _, _, rfl, U1, g1, g2, Nat.le_refl _⟩) ?post2)))
   case fin2 =>
    clear hP0
    intro c st' hI_
    refine gate fun gG hgG => ?_
    obtain ⟨_, out, ia', ib', mg, ac, bc, rfl, U', g1, g2, g3⟩ := hI_
    refine hgG ?_
    clear hgG
    omega
   case post2 =>
    rintro c st' ⟨⟨g2, rfl⟩, ⟨m, rest, rfl, hm⟩ | ⟨out2, ia2, ib2, mg2, ac2, bc2, rfl, U2, k1, k2, k3⟩⟩
    ·obtain ⟨r1, r2, r3, r4, r5, r6⟩ := rest
     exact wpS_pure (hP0 _ _ ⟨⟨g2, rfl⟩, m, _, rfl, hm⟩)
    ·exact wpS_bind (wpS_setMin (wpS_pure (hP0 _ _ ⟨⟨_, rfl⟩, _, _, _, _, rfl, U2, k1, k2, by dsimp only; omega⟩)))
   case step2 =>
    clear hP0
    clear U1 g1 g2 g3 h3
    intro y c st' _ hy hI
    refine wpS_post fun P hP => ?_
    refine gate fun G hG => ?_
    refine gate fun gG hgG => ?_
    obtain ⟨⟨g', rfl⟩, out, ia', ib', mg', ac, bc, rfl, U', f1, f2, f3⟩ := hI
    have pFin : ∀ m rest g, Mrg R a.toList b.toList m.toList → P (.done (some m, rest)) (setG st g) := fun m rest g hm => hP _ _ ⟨⟨g, rfl⟩, .inl ⟨m, rest, rfl, hm⟩⟩
    have pBrk : ∀ out ia ib mg ac bc g, Up D R a.toList b.toList out.toList ia ib → ia + 1 < a.size → ib < b.size → ia1 + ib1 ≤ ia + ib → P (.done (none, out, ia, ib, mg, ac, bc)) (setG st g) := fun out ia ib mg ac bc g U h1 h2 h3 => hP _ _ ⟨⟨g, rfl⟩, .inr ⟨out, ia, ib, mg, ac, bc, rfl, U, h1, h2, h3⟩⟩
    have pGo : ∀ out ia ib mg ac bc g, Up D R a.toList b.toList out.toList ia ib → ia + 1 < a.size → ib < b.size → ia1 + ib1 + (y + 1) ≤ ia + ib → P (.yield (none, out, ia, ib, mg, ac, bc)) (setG st g) := fun out ia ib mg ac bc g U h1 h2 h3 => hP _ _ ⟨⟨g, rfl⟩, out, ia, ib, mg, ac, bc, rfl, U, h1, h2, h3⟩
    clear hP
    obtain ⟨xb, hxb, hxb'⟩ := arr_at (a := b) (i := ib') (by assumption)
    have dxb := T.db xb (List.mem_of_getElem? hxb')
    obtain ⟨k, G, kl, kr⟩ := gal_right C.wk T.sa T.da dxb (base := ia') (n := a.size - ia') (arr := a) (by omega)
    refine hgG ?_
    clear hgG
    have hkn := G.le
    have Uk := Up.manyA T U' hxb' k (by omega) kl
    rw [← ext_mid, ← Array.toList_append] at Uk
    refine hG ?_
    clear hG
    dsimp -zeta only
    extract_lets s0 o s1 i s2 j s3 m s4 c0 d0 jb jp mm
    have hj : ∀ n g, wpS (model prog w) A E s (jp () n) P (setG st g) := by
     intro n g
     refine wpS_bind (wpS_setMin (wpS_bind (wpS_elem hxb (wpS_bind (wpS_gallop C G (by show 0 < a.size - ia'; omega) hk ?_)))))
     dsimp -zeta only
     extract_lets ac2 jp2 oo ii
     have hj2 : ∀ (out2 : Array Keyed) ia2, Up D R a.toList b.toList out2.toList ia2 ib' → ia2 = ia' + k → ia2 + 1 < a.size → wpS (model prog w) A E s (jp2 () out2 ia2) P (setG st n) := by
      intro out2 ia2 U2 e2 l2
      obtain ⟨xa, hxa, hxa'⟩ := arr_at (a := a) (i := ia2) (by omega)
      have dxa := T.da xa (List.mem_of_getElem? hxa')
      have V1 := Up.pushB T U2 hxb' fun z hz => by
       rw [hxa'] at hz
       cases hz
       exact T.wk.of_lt dxb dxa (kr k _ (Nat.le_refl _) (by omega) (by rw [← e2]; exact hxa'))
      rw [← Array.toList_push] at V1
      refine wpS_bind (wpS_elem hxb (wpS_C (fun (e3 : (ib' + 1 == b.size) = true) => wpS_pure (pFin _ _ _ (mDone _ _ _ V1 (.inl (eq_of_beq e3))))) (fun (e3 : ¬ (ib' + 1 == b.size) = true) => ?_)))
      have e3' := ne_beq e3
      obtain ⟨k2, G2, k2l, k2r⟩ := gal_left C.wk T.sb T.db dxa (base := ib' + 1) (n := b.size - (ib' + 1)) (arr := b) (by omega)
      have hk2n := G2.le
      have V2 := Up.manyB T V1 hxa' k2 (by omega) fun i x hi hx => T.wk.of_lt (T.db x (List.mem_of_getElem? hx)) dxa (k2l i x hi hx)
      rw [← ext_mid, ← Array.toList_append] at V2
      refine wpS_bind (wpS_elem hxa (wpS_bind (wpS_gallop C G2 (by show 0 < b.size - (ib' + 1); omega) hk ?_)))
      dsimp -zeta only
      extract_lets bc2 ii2 jp3 oo2 jj2
      have hj3 : ∀ (out3 : Array Keyed) ib3, Up D R a.toList b.toList out3.toList ia2 ib3 → ib3 = ib' + 1 + k2 → ib3 < b.size → wpS (model prog w) A E s (jp3 () out3 ib3) P (setG st n) := by
       intro out3 ib3 U3 e3 l3
       have V4 := Up.pushA T U3 hxa' fun z hz => k2r k2 z (Nat.le_refl _) (by omega) (by rw [← e3]; exact hz)
       rw [← Array.toList_push] at V4
       refine wpS_bind (wpS_elem hxa (wpS_C (fun (e5 : (ia2 + 1 + 1 == a.size) = true) => wpS_pure (pFin _ _ _ (mLast _ _ _ V4 (eq_of_beq e5)))) (fun (e5 : ¬ (ia2 + 1 + 1 == a.size) = true) => ?_)))
       have e5' := ne_beq e5
       exact wpS_C (fun e6 => wpS_pure (pBrk _ (ia2 + 1) ib3 _ _ _ _ V4 (by omega) l3 (by omega))) (fun e6 => wpS_pure (pGo _ (ia2 + 1) ib3 _ _ _ _ V4 (by omega) l3 (by omega)))
      clear_value jp3
      refine wpS_C (fun (e4 : k2 > 0) => ?_) (fun (e4 : ¬ k2 > 0) => hj3 _ _ V1 (by show ib' + 1 = ib' + 1 + k2; omega) (by show ib' + 1 < b.size; omega))
      refine wpS_C (fun (e5 : (ib' + 1 + k2 == b.size) = true) => wpS_pure (pFin _ _ _ (mDone _ _ _ V2 (.inl (eq_of_beq e5))))) (fun (e5 : ¬ (ib' + 1 + k2 == b.size) = true) => ?_)
      have e7' := ne_beq e5
      exact hj3 _ _ V2 rfl (by show ib' + 1 + k2 < b.size; omega)
     clear_value jp2
     refine wpS_C (fun (e2 : k > 0) => ?_) (fun (e2 : ¬ k > 0) => hj2 _ _ U' (by show ia' = ia' + k; omega) f1)
     refine wpS_C (fun (e9 : (ia' + k + 1 == a.size) = true) => wpS_pure (pFin _ _ _ (mLast _ _ _ Uk (eq_of_beq e9)))) (fun (e9 : ¬ (ia' + k + 1 == a.size) = true) => ?_)
     have e9' := ne_beq e9
     refine wpS_C (fun (e10 : (ia' + k == a.size) = true) => wpS_pure (pFin _ _ _ (mDone _ _ _ Uk (.inr (eq_of_beq e10))))) (fun (e10 : ¬ (ia' + k == a.size) = true) => ?_)
     have e10' := ne_beq e10
     exact hj2 _ _ Uk rfl (by show ia' + k + 1 < a.size; omega)
    clear_value jp
    exact wpS_C (fun _ => hj _ _) (fun _ => hj _ _)
end
end TS
set_option linter.all false
set_option maxRecDepth 100000
set_option maxHeartbeats 4000000
namespace TS
open PySem PyProof.Rows
section
variable {D : Keyed → Prop} {R : Keyed → Keyed → Bool} {la lb o : List Keyed} {na nb : Nat}
structure Dn (D : Keyed → Prop) (R : Keyed → Keyed → Bool) (la lb o : List Keyed) (na nb : Nat) : Prop where
 la_ : na ≤ la.length
 lb_ : nb ≤ lb.length
 perm : o.Perm (la.drop na ++ lb.drop nb)
 srt : Srt R o
 high : ∀ x ∈ la.take na ++ lb.take nb, ∀ y ∈ o, le R x y
theorem mem_take_at {l : List Keyed} {n : Nat} {x : Keyed} (h : x ∈ l.take n) : ∃ i, i < n ∧ l[i]? = some x := by
 obtain ⟨i, hi, rfl⟩ := List.mem_iff_getElem.mp h
 rw [List.length_take] at hi
 refine ⟨i, by omega, ?_⟩
 rw [List.getElem_take, List.getElem?_eq_getElem (by omega)]
theorem Dn.pushA (T : Two D R la lb) {n : Nat} (U : Dn D R la lb o (n + 1) nb) {x : Keyed} (hx : la[n]? = some x) (h : ∀ y, 0 < nb → lb[nb - 1]? = some y → le R y x) : Dn D R la lb (x :: o) n nb := by
 have hxD := T.da x (List.mem_of_getElem? hx)
 have h1 := U.la_
 have h2 := U.lb_
 refine ⟨by omega (config := {}), h2, ?_, ?_, ?_⟩
 ·rw [drop_cons hx]
  exact U.perm.cons x
 ·refine List.pairwise_cons.mpr ⟨fun y hy => U.high x (List.mem_append_left _ ?_) y hy, U.srt⟩
  rw [take_snoc hx]
  exact List.mem_append_right _ List.mem_cons_self
 ·intro z hz y hy
  rcases List.mem_cons.mp hy with rfl | hy
  ·rcases List.mem_append.mp hz with hz | hz
   ·obtain ⟨i, hi, hzi⟩ := mem_take_at hz
    exact srt_at T.sa hi hzi hx
   ·obtain ⟨i, hi, hzi⟩ := mem_take_at hz
    have hw : lb[nb - 1]? = some lb[nb - 1] := List.getElem?_eq_getElem (by omega (config := {}))
    exact T.wk.trans (T.db z (List.mem_of_getElem? hzi)) (T.db _ (List.mem_of_getElem? hw)) hxD (srt_at' T.wk T.db T.sb (by omega (config := {})) hzi hw) (h _ (by omega (config := {})) hw)
  ·refine U.high z ?_ y hy
   rcases List.mem_append.mp hz with hz | hz
   ·refine List.mem_append_left _ ?_
    rw [take_snoc hx]
    exact List.mem_append_left _ hz
   ·exact List.mem_append_right _ hz
theorem Dn.pushB (T : Two D R la lb) {n : Nat} (U : Dn D R la lb o na (n + 1)) {x : Keyed} (hx : lb[n]? = some x) (h : ∀ y, 0 < na → la[na - 1]? = some y → le R y x) : Dn D R la lb (x :: o) na n := by
 have hxD := T.db x (List.mem_of_getElem? hx)
 have h1 := U.la_
 have h2 := U.lb_
 refine ⟨h1, by omega, ?_, ?_, ?_⟩
 ·rw [drop_cons hx]
  refine (U.perm.cons x).trans ?_
  exact List.perm_middle.symm
 ·refine List.pairwise_cons.mpr ⟨fun y hy => U.high x (List.mem_append_right _ ?_) y hy, U.srt⟩
  rw [take_snoc hx]
  exact List.mem_append_right _ List.mem_cons_self
 ·intro z hz y hy
  rcases List.mem_cons.mp hy with rfl | hy
  ·rcases List.mem_append.mp hz with hz | hz
   ·obtain ⟨i, hi, hzi⟩ := mem_take_at hz
    have hw : la[na - 1]? = some la[na - 1] := List.getElem?_eq_getElem (by omega)
    exact T.wk.trans (T.da z (List.mem_of_getElem? hzi)) (T.da _ (List.mem_of_getElem? hw)) hxD (srt_at' T.wk T.da T.sa (by omega) hzi hw) (h _ (by omega) hw)
   ·obtain ⟨i, hi, hzi⟩ := mem_take_at hz
    exact srt_at T.sb hi hzi hx
  ·refine U.high z ?_ y hy
   rcases List.mem_append.mp hz with hz | hz
   ·exact List.mem_append_left _ hz
   ·refine List.mem_append_right _ ?_
    rw [take_snoc hx]
    exact List.mem_append_left _ hz
theorem Dn.manyA (T : Two D R la lb) : ∀ (k : Nat) {o : List Keyed} {n : Nat}, Dn D R la lb o (n + k) nb → (∀ i x y, n ≤ i → i < n + k → la[i]? = some x → 0 < nb → lb[nb - 1]? = some y → le R y x) → Dn D R la lb ((la.drop n).take k ++ o) n nb
 | 0, o, n, U, _ => by simpa using U
 | k + 1, o, n, U, h => by
  have hl := U.la_
  have hx : la[n + k]? = some la[n + k] := List.getElem?_eq_getElem (by assumption)
  have U1 := Dn.pushA T (n := n + k) U hx fun y hy0 hy => h (n + k) _ y (by omega) (by omega) hx hy0 hy
  have U2 := Dn.manyA T k U1 fun i x y h1 h2 => h i x y h1 (by omega)
  rw [take_drop_succ hx, List.append_assoc]
  exact U2
theorem Dn.manyB (T : Two D R la lb) : ∀ (k : Nat) {o : List Keyed} {n : Nat}, Dn D R la lb o na (n + k) → (∀ i x y, n ≤ i → i < n + k → lb[i]? = some x → 0 < na → la[na - 1]? = some y → le R y x) → Dn D R la lb ((lb.drop n).take k ++ o) na n
 | 0, o, n, U, _ => by simpa using U
 | k + 1, o, n, U, h => by
  have hl := U.lb_
  have hx : lb[n + k]? = some lb[n + k] := List.getElem?_eq_getElem (by assumption)
  have U1 := Dn.pushB T (n := n + k) U hx fun y hy0 hy => h (n + k) _ y (by omega) (by omega) hx hy0 hy
  have U2 := Dn.manyB T k U1 fun i x y h1 h2 => h i x y h1 (by omega)
  rw [take_drop_succ hx, List.append_assoc]
  exact U2
theorem Dn.popA (T : Two D R la lb) (U : Dn D R la lb o na nb) (h0 : 0 < na) {x : Keyed} (hx : la[na - 1]? = some x) (h : ∀ y, 0 < nb → lb[nb - 1]? = some y → le R y x) : Dn D R la lb (x :: o) (na - 1) nb := by
 obtain ⟨n, rfl⟩ : ∃ n, na = n + 1 := ⟨na - 1, by omega⟩
 exact U.pushA T hx h
theorem Dn.popB (T : Two D R la lb) (U : Dn D R la lb o na nb) (h0 : 0 < nb) {x : Keyed} (hx : lb[nb - 1]? = some x) (h : ∀ y, 0 < na → la[na - 1]? = some y → le R y x) : Dn D R la lb (x :: o) na (nb - 1) := by
 obtain ⟨n, rfl⟩ : ∃ n, nb = n + 1 := ⟨nb - 1, by omega⟩
 exact U.pushB T hx h
theorem Dn.toA (T : Two D R la lb) (U : Dn D R la lb o na nb) {n : Nat} (hn : n ≤ na) (h : ∀ i x y, n ≤ i → i < na → la[i]? = some x → 0 < nb → lb[nb - 1]? = some y → le R y x) : Dn D R la lb ((la.drop n).take (na - n) ++ o) n nb := by
 obtain ⟨k, rfl⟩ : ∃ k, na = n + k := ⟨na - n, by omega⟩
 rw [Nat.add_sub_cancel_left]
 exact Dn.manyA T k U h
theorem Dn.toB (T : Two D R la lb) (U : Dn D R la lb o na nb) {n : Nat} (hn : n ≤ nb) (h : ∀ i x y, n ≤ i → i < nb → lb[i]? = some x → 0 < na → la[na - 1]? = some y → le R y x) : Dn D R la lb ((lb.drop n).take (nb - n) ++ o) na n := by
 obtain ⟨k, rfl⟩ : ∃ k, nb = n + k := ⟨nb - n, by omega⟩
 rw [Nat.add_sub_cancel_left]
 exact Dn.manyB T k U h
theorem Dn.start (T : Two D R la lb) {n : Nat} {x : Keyed} (hn : n + 1 = la.length) (hx : la[n]? = some x) : Dn D R la lb [x] n lb.length := by
 have U0 : Dn D R la lb [] (n + 1) lb.length := ⟨by omega, Nat.le_refl _, by rw [hn, List.drop_length, List.drop_length]; exact List.Perm.refl _, List.Pairwise.nil, fun _ _ _ h => nomatch h⟩
 refine U0.pushA T hx fun y _ hy => T.last x ?_ y (List.mem_of_getElem? hy)
 have e : la.length - 1 = n := by omega
 rw [e]
 exact hx
theorem perm_front {o : List Keyed} (h : o.Perm (la.drop na ++ lb.drop nb)) : (la.take na ++ lb.take nb ++ o).Perm (la ++ lb) := by
 have h1 : la ++ lb = la.take na ++ la.drop na ++ (lb.take nb ++ lb.drop nb) := by rw [List.take_append_drop, List.take_append_drop]
 rw [h1, List.append_assoc, List.append_assoc]
 refine List.Perm.append_left _ ?_
 refine (List.Perm.append_left _ h).trans ?_
 rw [← List.append_assoc, ← List.append_assoc]
 exact List.Perm.append_right _ List.perm_append_comm
theorem Dn.doneA (T : Two D R la lb) (U : Dn D R la lb o na nb) (ha : na = 0) : Mrg R la lb (la.take na ++ lb.take nb ++ o) := by
 refine ⟨perm_front U.perm, ?_⟩
 have e : la.take na = [] := by rw [ha]; rfl
 have U' := U.high
 rw [e, List.nil_append] at U' ⊢
 exact List.pairwise_append.mpr ⟨srt_take T.sb _, U.srt, U'⟩
theorem Dn.doneB (T : Two D R la lb) (U : Dn D R la lb o na nb) (hb : nb = 0) : Mrg R la lb (la.take na ++ lb.take nb ++ o) := by
 refine ⟨perm_front U.perm, ?_⟩
 have e : lb.take nb = [] := by rw [hb]; rfl
 have U' := U.high
 rw [e, List.append_nil] at U' ⊢
 exact List.pairwise_append.mpr ⟨srt_take T.sa _, U.srt, U'⟩
theorem Dn.firstB (T : Two D R la lb) (U : Dn D R la lb o na nb) (hb : nb = 1) : Mrg R la lb (lb.take nb ++ la.take na ++ o) := by
 have hl := U.lb_
 have hx : lb[0]? = some lb[0] := List.getElem?_eq_getElem (by omega (config := {}))
 have e : lb.take nb = [lb[0]] := by
  subst hb
  exact take_snoc (i := 0) hx
 refine ⟨?_, ?_⟩
 ·refine List.Perm.trans ?_ (perm_front U.perm)
  exact List.Perm.append_right _ List.perm_append_comm
 ·refine List.pairwise_append.mpr ⟨List.pairwise_append.mpr ⟨srt_take T.sb _, srt_take T.sa _, fun x hx' y hy => ?_⟩, U.srt, fun x hx' y hy => U.high x ?_ y hy⟩
  ·rw [e] at hx'
   rw [List.mem_singleton.mp hx']
   exact T.first _ hx y (List.mem_of_mem_take hy)
  ·rcases List.mem_append.mp hx' with z | z
   ·exact List.mem_append_right _ z
   ·exact List.mem_append_left _ z
end
section
variable {prog : Program} {w : World} {A : Around} {E : Value → Shared → Prop} {s : Shared} {κ : SortKind} {D : Keyed → Prop} {R : Keyed → Keyed → Bool}
theorem ext_front (a : Array Keyed) (i : Nat) : (a.extract 0 i).toList = a.toList.take i := by
 rw [Array.toList_extract, List.extract_eq_take_drop]
 simp
theorem ext_seg (a : Array Keyed) {i j : Nat} (h : i ≤ j) : (a.extract i j).toList = (a.toList.drop i).take (j - i) := by
 rw [Array.toList_extract, List.extract_eq_take_drop]
theorem rev_push (out : Array Keyed) (x : Keyed) : x :: out.toList.reverse = (out.push x).toList.reverse := by
 rw [Array.toList_push, List.reverse_append]
 rfl
theorem rev_app (out seg : Array Keyed) : seg.toList ++ out.toList.reverse = (out ++ seg.reverse).toList.reverse := by
 rw [Array.toList_append, Array.toList_reverse, List.reverse_append, List.reverse_reverse]
theorem wpS_mergeHi (C : Cmp prog w A s κ D R) {a b : Array Keyed} (T : Two D R a.toList b.toList) (ha : 1 ≤ a.size) (hb : 1 ≤ b.size) {st : SortSt} (hk : kindOf st = κ) {Q : Array Keyed → SortSt → Prop}
  (h : ∀ m g, Mrg R a.toList b.toList m.toList → Q m (setG st g)) : wpS (model prog w) A E s (mergeHi' a b) Q st := by
 have la : a.toList.length = a.size := Array.length_toList
 have lb : b.toList.length = b.size := Array.length_toList
 obtain ⟨a0, ha0, ha0'⟩ := arr_at (a := a) (i := a.size - 1) (by omega)
 have U0 : Dn D R a.toList b.toList (#[a0] : Array Keyed).toList.reverse (a.size - 1) b.size := by
  have := Dn.start T (n := a.size - 1) (by omega) ha0'
  rw [lb] at this
  exact this
 have mDone : ∀ (out : Array Keyed) (na nb : Nat), Dn D R a.toList b.toList out.toList.reverse na nb → na = 0 ∨ nb = 0 → Mrg R a.toList b.toList (a.extract 0 na ++ b.extract 0 nb ++ out.reverse).toList := by
  intro out na nb U hz
  rw [Array.toList_append, Array.toList_append, ext_front, ext_front, Array.toList_reverse]
  rcases hz with z | z
  ·exact U.doneA T z
  ·exact U.doneB T z
 have mFirst : ∀ (out : Array Keyed) (na nb : Nat), Dn D R a.toList b.toList out.toList.reverse na nb → nb = 1 → Mrg R a.toList b.toList (b.extract 0 nb ++ a.extract 0 na ++ out.reverse).toList := by
  intro out na nb U hz
  rw [Array.toList_append, Array.toList_append, ext_front, ext_front, Array.toList_reverse]
  exact U.firstB T hz
 have hst : st = setG st (gallopOf st) := rfl
 refine wpS_bind (wpS_rule (wpS_bind (wpS_elem ha0 (wpS_C (fun (e1 : (a.size - 1 == 0) = true) => wpS_pure (h _ _ (mDone _ _ _ U0 (.inl (eq_of_beq e1))))) (fun (e1 : ¬ (a.size - 1 == 0) = true) => wpS_C (fun (e2 : (b.size == 1) = true) => wpS_pure (h _ _ (mFirst _ _ _ U0 (eq_of_beq e2)))) (fun (e2 : ¬ (b.size == 1) = true) => ?_))))))
 have na1 : 1 ≤ a.size - 1 := by
  have := ne_beq e1
  omega
 have nb1 : 2 ≤ b.size := by
  have := ne_beq e2
  omega
 refine wpS_bind (wpS_get (wpS_bind (wpS_mono (wpS_forRange (I := fun x c st' => (∃ g, st' = setG st g) ∧ ∃ (out : Array Keyed) (na' nb' mg : Nat), c = (none, na', nb', out, mg) ∧ Dn D R a.toList b.toList out.toList.reverse na' nb' ∧ 1 ≤ na' ∧ 2 ≤ nb' ∧ x + na' + nb' ≤ a.size + b.size)
  (Q := fun c st' => (∃ g, st' = setG st g) ∧ ∃ m rest, c = (some m, rest) ∧ Mrg R a.toList b.toList m.toList) ?step ?fin ⟨⟨_, hst⟩, _, _, _, _, rfl, U0, na1, nb1, by omega⟩) ?post)))
 case fin =>
  intro c st' hI_
  refine gate fun gG hgG => ?_
  obtain ⟨_, out, na', nb', mg, rfl, U, h1, h2, h3⟩ := hI_
  refine hgG ?_
  clear hgG
  omega
 case post =>
  rintro c st' ⟨⟨g, rfl⟩, m, rest, rfl, hm⟩
  exact wpS_pure (h m g hm)
 case step =>
  clear h
  intro x c st' _ hx hI
  refine wpS_post fun P0 hP0 => ?_
  refine gate fun G hG => ?_
  refine gate fun gG hgG => ?_
  obtain ⟨⟨g, rfl⟩, out, na, nb, mg, rfl, U, h1, h2, h3⟩ := hI
  refine hgG ?_
  clear hgG
  have la0 := U.la_
  have lb0 := U.lb_
  refine hG ?_
  clear hG
  refine wpS_bindO fun kk hkk => (wpS_mono (wpS_forRange (I := fun y c st' => st' = setG st g ∧ ∃ (out : Array Keyed) (na' nb' ac bc : Nat), c = (none, na', nb', out, ac, bc) ∧ Dn D R a.toList b.toList out.toList.reverse na' nb' ∧ 1 ≤ na' ∧ 2 ≤ nb' ∧ y + na' + nb' ≤ na + nb)
   (Q := fun c st' => st' = setG st g ∧ ((∃ m rest, c = (some m, rest) ∧ Mrg R a.toList b.toList m.toList) ∨ ∃ (out : Array Keyed) (na' nb' ac bc : Nat), c = (none, na', nb', out, ac, bc) ∧ Dn D R a.toList b.toList out.toList.reverse na' nb' ∧ 1 ≤ na' ∧ 2 ≤ nb' ∧ 1 + na' + nb' ≤ na + nb)) ?step1 ?fin1 ⟨rfl, _, _, _, _, _, rfl, U, h1, h2, by dsimp only; omega⟩) ?post1)
  case fin1 =>
   clear hkk hP0
   intro c st' hI_
   refine gate fun gG hgG => ?_
   obtain ⟨_, out, na', nb', ac, bc, rfl, U', g1, g2, g3⟩ := hI_
   refine hgG ?_
   clear hgG
   first | omega | (dsimp only at *; omega)
  case step1 =>
   clear hkk hP0
   intro y c st' _ hy hI
   refine wpS_post fun P hP => ?_
   refine gate fun G hG => ?_
   refine gate fun gG hgG => ?_
   obtain ⟨rfl, out, na', nb', ac, bc, rfl, U', g1, g2, g3⟩ := hI
   have pFin : ∀ m rest, Mrg R a.toList b.toList m.toList → P (.done (some m, rest)) (setG st g) := fun m rest hm => hP _ _ ⟨rfl, .inl ⟨m, rest, rfl, hm⟩⟩
   have pBrk : ∀ out i j ac bc, Dn D R a.toList b.toList out.toList.reverse i j → 1 ≤ i → 2 ≤ j → 1 + i + j ≤ na + nb → P (.done (none, i, j, out, ac, bc)) (setG st g) := fun out i j ac bc U h1 h2 h3 => hP _ _ ⟨rfl, .inr ⟨out, i, j, ac, bc, rfl, U, h1, h2, h3⟩⟩
   have pGo : ∀ out i j ac bc, Dn D R a.toList b.toList out.toList.reverse i j → 1 ≤ i → 2 ≤ j → y + 1 + i + j ≤ na + nb → P (.yield (none, i, j, out, ac, bc)) (setG st g) := fun out i j ac bc U h1 h2 h3 => hP _ _ ⟨rfl, out, i, j, ac, bc, rfl, U, h1, h2, h3⟩
   clear hP
   have la1 := U'.la_
   have lb1 := U'.lb_
   obtain ⟨xb, hxb, hxb'⟩ := arr_at (a := b) (i := nb' - 1) (by omega)
   obtain ⟨xa, hxa, hxa'⟩ := arr_at (a := a) (i := na' - 1) (by omega)
   refine hgG ?_
   clear hgG
   have dxa := T.da xa (List.mem_of_getElem? hxa')
   have dxb := T.db xb (List.mem_of_getElem? hxb')
   refine hG ?_
   clear hG
   refine wpS_bind (wpS_elem hxb (wpS_bind (wpS_elem hxa (wpS_bind (C.ask xb xa dxb dxa E _ _ hk ?_)))))
   cases hc : R xb xa with
   | true =>
    have U2 := Dn.popA T U' (by assumption) hxa' fun z hz0 hz => by
     rw [hxb'] at hz
     cases hz
     exact T.wk.of_lt dxb dxa hc
    rw [rev_push] at U2
    refine wpS_T rfl (wpS_bind (wpS_elem hxa ?_))
    refine wpS_C (fun (e3 : (na' - 1 == 0) = true) => (wpS_pure (pFin _ _ (mDone _ _ _ U2 (.inl (eq_of_beq e3)))))) (fun (e3 : ¬ (na' - 1 == 0) = true) => ?_)
    have e3' := ne_beq e3
    exact wpS_C (fun (e4 : ac + 1 ≥ mg) => (wpS_pure (pBrk _ (na' - 1) nb' _ _ U2 (by omega) g2 (by omega)))) (fun (e4 : ¬ ac + 1 ≥ mg) => (wpS_pure (pGo _ (na' - 1) nb' _ _ U2 (by omega) g2 (by omega))))
   | false =>
    have U2 := Dn.popB T U' (by omega) hxb' fun z hz0 hz => by
     rw [hxa'] at hz
     cases hz
     exact hc
    rw [rev_push] at U2
    refine wpS_F Bool.false_ne_true (wpS_bind (wpS_elem hxb ?_))
    refine wpS_C (fun (e3 : (nb' - 1 == 1) = true) => (wpS_pure (pFin _ _ (mFirst _ _ _ U2 (eq_of_beq e3))))) (fun (e3 : ¬ (nb' - 1 == 1) = true) => ?_)
    have e3' := ne_beq e3
    exact wpS_C (fun (e4 : bc + 1 ≥ mg) => (wpS_pure (pBrk _ na' (nb' - 1) _ _ U2 g1 (by omega) (by omega)))) (fun (e4 : ¬ bc + 1 ≥ mg) => (wpS_pure (pGo _ na' (nb' - 1) _ _ U2 g1 (by omega) (by omega))))
  case post1 =>
   intro c st' hI
   refine gate fun G hG => ?_
   obtain ⟨rfl, ⟨m, rest, rfl, hm⟩ | ⟨out1, na1', nb1', ac1, bc1, rfl, U1, g1, g2, g3⟩⟩ := hI
   ·obtain ⟨r1, r2, r3, r4, r5⟩ := rest
    subst hkk
    exact hG (wpS_pure (hP0 _ _ ⟨⟨g, rfl⟩, m, _, rfl, hm⟩))
   have la1 := U1.la_
   have lb1 := U1.lb_
   refine hG ?_
   clear hG U h1 h2 U0
   subst hkk
   refine wpS_bind (wpS_rule (wpS_bind (wpS_mono (wpS_forRange (I := fun y c st' => (∃ g, st' = setG st g) ∧ ∃ (out : Array Keyed) (na' nb' mg ac bc : Nat), c = (none, na', nb', out, mg, ac, bc) ∧ Dn D R a.toList b.toList out.toList.reverse na' nb' ∧ 1 ≤ na' ∧ 2 ≤ nb' ∧ y + na' + nb' ≤ na1' + nb1')
    (Q := fun c st' => (∃ g, st' = setG st g) ∧ ((∃ m rest, c = (some m, rest) ∧ Mrg R a.toList b.toList m.toList) ∨ ∃ (out : Array Keyed) (na' nb' mg ac bc : Nat), c = (none, na', nb', out, mg, ac, bc) ∧ Dn D R a.toList b.toList out.toList.reverse na' nb' ∧ 1 ≤ na' ∧ 2 ≤ nb' ∧ na' + nb' ≤ na1' + nb1')) ?step2 ?fin2 ⟨⟨g, rfl⟩, _, _, _, _, _, _, rfl, U1, g1, g2, by dsimp only; omega⟩) ?post2)))
   case fin2 =>
    clear hP0
    intro c st' hI_
    refine gate fun gG hgG => ?_
    obtain ⟨_, out, na', nb', mg, ac, bc, rfl, U', g1, g2, g3⟩ := hI_
    refine hgG ?_
    clear hgG
    first | omega | (dsimp only at *; omega)
   case post2 =>
    rintro c st' ⟨⟨g2, rfl⟩, ⟨m, rest, rfl, hm⟩ | ⟨out2, na2, nb2, mg2, ac2, bc2, rfl, U2, k1, k2, k3⟩⟩
    ·obtain ⟨r1, r2, r3, r4, r5, r6⟩ := rest
     exact wpS_pure (hP0 _ _ ⟨⟨g2, rfl⟩, m, _, rfl, hm⟩)
    ·exact wpS_bind (wpS_setMin (wpS_pure (hP0 _ _ ⟨⟨_, rfl⟩, _, _, _, _, rfl, U2, k1, k2, by dsimp only at *; omega⟩)))
   case step2 =>
    clear hP0
    clear U1 g1 g2 g3 h3
    intro y c st' _ hy hI
    refine wpS_post fun P hP => ?_
    refine gate fun G hG => ?_
    refine gate fun gG hgG => ?_
    obtain ⟨⟨g', rfl⟩, out, na', nb', mg', ac, bc, rfl, U', f1, f2, f3⟩ := hI
    have pFin : ∀ m rest g, Mrg R a.toList b.toList m.toList → P (.done (some m, rest)) (setG st g) := fun m rest g hm => hP _ _ ⟨⟨g, rfl⟩, .inl ⟨m, rest, rfl, hm⟩⟩
    have pBrk : ∀ out i j mg ac bc g, Dn D R a.toList b.toList out.toList.reverse i j → 1 ≤ i → 2 ≤ j → i + j ≤ na1' + nb1' → P (.done (none, i, j, out, mg, ac, bc)) (setG st g) := fun out i j mg ac bc g U h1 h2 h3 => hP _ _ ⟨⟨g, rfl⟩, .inr ⟨out, i, j, mg, ac, bc, rfl, U, h1, h2, h3⟩⟩
    have pGo : ∀ out i j mg ac bc g, Dn D R a.toList b.toList out.toList.reverse i j → 1 ≤ i → 2 ≤ j → y + 1 + i + j ≤ na1' + nb1' → P (.yield (none, i, j, out, mg, ac, bc)) (setG st g) := fun out i j mg ac bc g U h1 h2 h3 => hP _ _ ⟨⟨g, rfl⟩, out, i, j, mg, ac, bc, rfl, U, h1, h2, h3⟩
    clear hP
    have la2 := U'.la_
    have lb2 := U'.lb_
    obtain ⟨xb, hxb, hxb'⟩ := arr_at (a := b) (i := nb' - 1) (by omega)
    have dxb := T.db xb (List.mem_of_getElem? hxb')
    obtain ⟨k, G1, kl, kr⟩ := gal_right C.wk T.sa T.da dxb (base := 0) (n := na') (arr := a) (by omega)
    refine hgG ?_
    clear hgG
    have hkn := G1.le
    have Uk := Dn.toA T U' (n := k) hkn fun i x z g5 g6 hx hz0 hz => by
     rw [hxb'] at hz
     cases hz
     exact T.wk.of_lt dxb (T.da x (List.mem_of_getElem? hx)) (kr i x g5 g6 (by rw [Nat.zero_add]; exact hx))
    rw [← ext_seg a hkn, rev_app] at Uk
    refine hG ?_
    clear hG
    dsimp -zeta only
    extract_lets s0 i s1 j s2 o s3 m s4 c0 d0 jb jp mm
    have hj : ∀ n g, wpS (model prog w) A E s (jp () n) P (setG st g) := by
     intro n g
     refine wpS_bind (wpS_setMin (wpS_bind (wpS_elem hxb (wpS_bind (wpS_gallop C G1 (by show na' - 1 < na'; omega) hk ?_)))))
     dsimp -zeta only
     extract_lets kk ac2 jp2 oo ii
     have hj2 : ∀ (out2 : Array Keyed) i2, Dn D R a.toList b.toList out2.toList.reverse i2 nb' → i2 = k → 1 ≤ i2 → wpS (model prog w) A E s (jp2 () i2 out2) P (setG st n) := by
      intro out2 i2 U2 e2 l2
      obtain ⟨xa, hxa, hxa'⟩ := arr_at (a := a) (i := i2 - 1) (by omega)
      have dxa := T.da xa (List.mem_of_getElem? hxa')
      have V1 := Dn.popB T U2 (by omega) hxb' fun z hz0 hz => kl (i2 - 1) z (by omega) (by rw [Nat.zero_add]; exact hz)
      rw [rev_push] at V1
      refine wpS_bind (wpS_elem hxb (wpS_C (fun (e3 : (nb' - 1 == 1) = true) => wpS_pure (pFin _ _ _ (mFirst _ _ _ V1 (eq_of_beq e3)))) (fun (e3 : ¬ (nb' - 1 == 1) = true) => ?_)))
      have e3' := ne_beq e3
      obtain ⟨k2, G2, k2l, k2r⟩ := gal_left C.wk T.sb T.db dxa (base := 0) (n := nb' - 1) (arr := b) (by omega)
      have hk2n := G2.le
      have V2 := Dn.toB T V1 (n := k2) hk2n fun i x z g5 g6 hx hz0 hz => by
       rw [hxa'] at hz
       cases hz
       exact k2r i x g5 g6 (by rw [Nat.zero_add]; exact hx)
      rw [← ext_seg b hk2n, rev_app] at V2
      refine wpS_bind (wpS_elem hxa (wpS_bind (wpS_gallop C G2 (by show nb' - 1 - 1 < nb' - 1; omega) hk ?_)))
      dsimp -zeta only
      extract_lets kk2 bc2 ii2 jp3 oo2 jj2
      have hj3 : ∀ (out3 : Array Keyed) j3, Dn D R a.toList b.toList out3.toList.reverse i2 j3 → j3 = k2 → 2 ≤ j3 → wpS (model prog w) A E s (jp3 () j3 out3) P (setG st n) := by
       intro out3 j3 U3 e4 l3
       have V4 := Dn.popA T U3 (by assumption) hxa' fun z hz0 hz => T.wk.of_lt (T.db z (List.mem_of_getElem? hz)) dxa (k2l (j3 - 1) z (by omega) (by rw [Nat.zero_add]; exact hz))
       rw [rev_push] at V4
       refine wpS_bind (wpS_elem hxa (wpS_C (fun (e8 : (i2 - 1 == 0) = true) => wpS_pure (pFin _ _ _ (mDone _ _ _ V4 (.inl (eq_of_beq e8))))) (fun (e8 : ¬ (i2 - 1 == 0) = true) => ?_)))
       have e8' := ne_beq e8
       exact wpS_C (fun e6 => wpS_pure (pBrk _ (i2 - 1) j3 _ _ _ _ V4 (by omega) l3 (by omega))) (fun e6 => wpS_pure (pGo _ (i2 - 1) j3 _ _ _ _ V4 (by omega) l3 (by omega)))
      clear_value jp3
      refine wpS_C (fun (e4 : nb' - 1 - k2 > 0) => ?_) (fun (e4 : ¬ nb' - 1 - k2 > 0) => hj3 _ _ V1 (by show nb' - 1 = k2; omega) (by show 2 ≤ nb' - 1; omega))
      refine wpS_C (fun (e5 : (k2 == 1) = true) => wpS_pure (pFin _ _ _ (mFirst _ _ _ V2 (eq_of_beq e5)))) (fun (e5 : ¬ (k2 == 1) = true) => ?_)
      have e5' := ne_beq e5
      refine wpS_C (fun (e7 : (k2 == 0) = true) => wpS_pure (pFin _ _ _ (mDone _ _ _ V2 (.inr (eq_of_beq e7))))) (fun (e7 : ¬ (k2 == 0) = true) => ?_)
      have e7' := ne_beq e7
      exact hj3 _ _ V2 rfl (by show 2 ≤ k2; omega)
     clear_value jp2
     refine wpS_C (fun (e2 : na' - k > 0) => ?_) (fun (e2 : ¬ na' - k > 0) => hj2 _ _ U' (by show na' = k; omega) f1)
     refine wpS_C (fun (e9 : (k == 0) = true) => wpS_pure (pFin _ _ _ (mDone _ _ _ Uk (.inl (eq_of_beq e9))))) (fun (e9 : ¬ (k == 0) = true) => ?_)
     have e9' := ne_beq e9
     exact hj2 _ _ Uk rfl (by show 1 ≤ k; omega)
    clear_value jp
    exact wpS_C (fun _ => hj _ _) (fun _ => hj _ _)
end
end TS
set_option linter.all false
set_option maxRecDepth 100000
set_option maxHeartbeats 4000000
namespace TS
open PySem PyProof.Rows
section
variable {D : Keyed → Prop} {R : Keyed → Keyed → Bool} {a : Array Keyed} {lo n : Nat}
def Asc (R : Keyed → Keyed → Bool) (a : Array Keyed) (lo n : Nat) : Prop := ∀ i j x y, lo ≤ i → i ≤ j → j < lo + n → a[i]? = some x → a[j]? = some y → le R x y
def Desc (R : Keyed → Keyed → Bool) (a : Array Keyed) (lo n : Nat) : Prop := ∀ i j x y, lo ≤ i → i ≤ j → j < lo + n → a[i]? = some x → a[j]? = some y → le R y x
def Eqb (R : Keyed → Keyed → Bool) (a : Array Keyed) (p q : Nat) : Prop := ∀ i j x y, p ≤ i → i < q → p ≤ j → j < q → a[i]? = some x → a[j]? = some y → le R x y
def Dom (D : Keyed → Prop) (a : Array Keyed) : Prop := ∀ (i : Nat) (x : Keyed), a[i]? = some x → D x
theorem Asc.one (W : Wk D R) (hD : Dom D a) : Asc R a lo 1 := fun i j x y h1 h2 h3 hx hy => by
 have : i = j := by omega
 subst this
 rw [hx] at hy
 cases hy
 exact W.refl (hD _ _ hx)
theorem Asc.snoc (W : Wk D R) (hD : Dom D a) (h : Asc R a lo n) (h1 : 1 ≤ n) {x y : Keyed} (hx : a[lo + n - 1]? = some x) (hy : a[lo + n]? = some y) (hxy : le R x y) : Asc R a lo (n + 1) := fun i j u v g1 g2 g3 hu hv => by
 rcases Nat.lt_or_ge j (lo + n) with z | z
 ·exact h i j u v g1 g2 z hu hv
 ·have ej : j = lo + n := by omega
  subst ej
  rw [hy] at hv
  cases hv
  rcases Nat.lt_or_ge i (lo + n) with z2 | z2
  ·exact W.trans (hD _ _ hu) (hD _ _ hx) (hD _ _ hy) (h i (lo + n - 1) u x g1 (by omega) (by omega) hu hx) hxy
  ·have : i = lo + n := by omega
   subst this
   rw [hy] at hu
   cases hu
   exact W.refl (hD _ _ hy)
theorem Desc.snoc (W : Wk D R) (hD : Dom D a) (h : Desc R a lo n) (h1 : 1 ≤ n) {x y : Keyed} (hx : a[lo + n - 1]? = some x) (hy : a[lo + n]? = some y) (hxy : le R y x) : Desc R a lo (n + 1) := fun i j u v g1 g2 g3 hu hv => by
 rcases Nat.lt_or_ge j (lo + n) with z | z
 ·exact h i j u v g1 g2 z hu hv
 ·have ej : j = lo + n := by omega
  subst ej
  rw [hy] at hv
  cases hv
  rcases Nat.lt_or_ge i (lo + n) with z2 | z2
  ·exact W.trans (hD _ _ hy) (hD _ _ hx) (hD _ _ hu) hxy (h i (lo + n - 1) u x g1 (by omega) (by omega) hu hx)
  ·have : i = lo + n := by omega
   subst this
   rw [hy] at hu
   cases hu
   exact W.refl (hD _ _ hy)
theorem Eqb.one (W : Wk D R) (hD : Dom D a) {p : Nat} : Eqb R a p (p + 1) := fun i j x y h1 h2 h3 h4 hx hy => by
 have : i = j := by omega
 subst this
 rw [hx] at hy
 cases hy
 exact W.refl (hD _ _ hx)
theorem Eqb.snoc (W : Wk D R) (hD : Dom D a) {p q : Nat} (h : Eqb R a p q) (hpq : p < q) {x y : Keyed} (hx : a[q - 1]? = some x) (hy : a[q]? = some y) (h1 : le R x y) (h2 : le R y x) : Eqb R a p (q + 1) := fun i j u v g1 g2 g3 g4 hu hv => by
 rcases Nat.lt_or_ge i q with z | z
 ·rcases Nat.lt_or_ge j q with z2 | z2
  ·exact h i j u v g1 z g3 z2 hu hv
  ·have : j = q := by omega
   subst this
   rw [hy] at hv
   cases hv
   exact W.trans (hD _ _ hu) (hD _ _ hx) (hD _ _ hy) (h i (j - 1) u x g1 z (by omega) (by omega) hu hx) h1
 ·have : i = q := by omega
  subst this
  rw [hy] at hu
  cases hu
  rcases Nat.lt_or_ge j i with z2 | z2
  ·exact W.trans (hD _ _ hy) (hD _ _ hx) (hD _ _ hv) h2 (h (i - 1) j x v (by omega) (by omega) g3 z2 hx hv)
  ·have : j = i := by omega
   subst this
   rw [hy] at hv
   cases hv
   exact W.refl (hD _ _ hy)
theorem Dom.perm {b : Array Keyed} (h : Dom D a) (hp : b.Perm a) : Dom D b := fun i x hx => by
 have hm : x ∈ b.toList := by
  have : b.toList[i]? = some x := by simpa using hx
  exact List.mem_of_getElem? this
 have hm2 : x ∈ a.toList := (Array.perm_iff_toList_perm.mp hp).mem_iff.mp hm
 obtain ⟨j, hj⟩ := List.mem_iff_getElem?.mp hm2
 exact h j x (by simpa using hj)
theorem Desc.turnB {p q : Nat} (h : Desc R a lo n) (he : Eqb R a p q) (h1 : lo ≤ p) (h2 : q ≤ lo + n) (hz : lo + n ≤ a.size) : Desc R (mirror a p q ((q - p) / 2)) lo n := fun i j x y g1 g2 g3 hx hy => by
 rw [getElem?_mirror_all (by omega)] at hx hy
 by_cases ci : p ≤ i ∧ i < q
 ·rw [if_pos ci] at hx
  by_cases cj : p ≤ j ∧ j < q
  ·rw [if_pos cj] at hy
   exact he _ _ y x (by omega) (by omega) (by omega) (by omega) hy hx
  ·rw [if_neg cj] at hy
   exact h _ _ x y (by omega) (by omega) g3 hx hy
 ·rw [if_neg ci] at hx
  by_cases cj : p ≤ j ∧ j < q
  ·rw [if_pos cj] at hy
   exact h _ _ x y g1 (by omega) (by omega) hx hy
  ·rw [if_neg cj] at hy
   exact h _ _ x y g1 g2 g3 hx hy
theorem Eqb.turnB {p q : Nat} (he : Eqb R a p q) (hz : q ≤ a.size) : Eqb R (mirror a p q ((q - p) / 2)) p q := fun i j x y g1 g2 g3 g4 hx hy => by
 rw [getElem?_mirror_all hz, if_pos ⟨g1, g2⟩] at hx
 rw [getElem?_mirror_all hz, if_pos ⟨g3, g4⟩] at hy
 exact he _ _ x y (by omega) (by omega) (by omega) (by omega) hx hy
theorem Desc.turned (h : Desc R a lo n) (hz : lo + n ≤ a.size) : Asc R (mirror a lo (lo + n) ((lo + n - lo) / 2)) lo n := fun i j x y g1 g2 g3 hx hy => by
 rw [getElem?_mirror_all hz, if_pos ⟨g1, by omega (config := {})⟩] at hx
 rw [getElem?_mirror_all hz, if_pos ⟨by omega (config := {}), g3⟩] at hy
 exact h _ _ y x (by omega (config := {})) (by omega (config := {})) (by omega (config := {})) hy hx
theorem Eqb.desc (h : Eqb R a lo (lo + n)) : Desc R a lo n := fun i j x y g1 g2 g3 hx hy => h j i y x (by omega) g3 g1 (by omega) hy hx
theorem Asc.eqb (W : Wk D R) (hD : Dom D a) (h : Asc R a lo n) {x y : Keyed} (hx : a[lo]? = some x) (hy : a[lo + n - 1]? = some y) (hxy : le R y x) : Eqb R a lo (lo + n) := fun i j u v g1 g2 g3 g4 hu hv => by
 have h1 := h i (lo + n - 1) u y g1 (by omega (config := {})) (by omega (config := {})) hu hy
 have h2 := h lo j x v (Nat.le_refl _) g3 g4 hx hv
 exact W.trans (hD _ _ hu) (hD _ _ hx) (hD _ _ hv) (W.trans (hD _ _ hu) (hD _ _ hy) (hD _ _ hx) h1 hxy) h2
end
structure Bs (D : Keyed → Prop) (κ : SortKind) (p₀ : Array (Nat × Nat × Nat)) (a₀ : Array Keyed) (lo : Nat) (st : SortSt) : Prop where
 kind : kindOf st = κ
 pend : pendingOf st = p₀
 failed : failedOf st = none
 perm : (arrOf st).Perm a₀
 keep : ∀ k, k < lo → (arrOf st)[k]? = a₀[k]?
 dom : Dom D a₀
section
variable {prog : Program} {w : World} {A : Around} {E : Value → Shared → Prop} {s : Shared} {κ : SortKind} {D : Keyed → Prop} {R : Keyed → Keyed → Bool} {p₀ : Array (Nat × Nat × Nat)} {a₀ : Array Keyed} {lo : Nat}
theorem Bs.size {st : SortSt} (B : Bs D κ p₀ a₀ lo st) : (arrOf st).size = a₀.size := B.perm.size_eq
theorem Bs.domA {st : SortSt} (B : Bs D κ p₀ a₀ lo st) : Dom D (arrOf st) := B.dom.perm B.perm
theorem Bs.at {st : SortSt} (B : Bs D κ p₀ a₀ lo st) {i : Nat} (h : i < a₀.size) : ∃ x, (arrOf st)[i]? = some x ∧ D x := by
 have := B.size
 obtain ⟨x, hx, _⟩ := arr_at (a := arrOf st) (i := i) (by omega)
 exact ⟨x, hx, B.domA i x hx⟩
theorem Bs.turn {st : SortSt} (B : Bs D κ p₀ a₀ lo st) {i j : Nat} (hi : lo ≤ i) (hj : j ≤ a₀.size) : Bs D κ p₀ a₀ lo (setArr st (mirror (arrOf st) i j ((j - i) / 2))) :=
 ⟨B.kind, B.pend, B.failed, (mirror_perm _ _ _ _).trans B.perm, fun k hk => by
  show (mirror (arrOf st) i j ((j - i) / 2))[k]? = _
  rw [getElem?_mirror_all (by rw [B.size]; exact hj), if_neg (by omega)]
  exact B.keep k hk, B.dom⟩
theorem wpS_ltAt (C : Cmp prog w A s κ D R) {st : SortSt} (B : Bs D κ p₀ a₀ lo st) {i j : Nat} {x y : Keyed} {Q : Option Bool → SortSt → Prop} (hx : (arrOf st)[i]? = some x) (hy : (arrOf st)[j]? = some y) (h : Q (some (R x y)) st) :
  wpS (model prog w) A E s (ltAt' i j) Q st := by
 rw [ltAt'_eq]
 refine wpS_bind (wpS_get ?_)
 exact wpS_bind (wpS_elem hx (wpS_bind (wpS_elem hy (C.ask x y (B.domA _ _ hx) (B.domA _ _ hy) E st Q B.kind h))))
theorem wpS_rev {st : SortSt} {i j : Nat} {Q : Unit → SortSt → Prop} (h : Q () (setArr st (mirror (arrOf st) i j ((j - i) / 2)))) : wpS (model prog w) A E s (reverseSlice' i j) Q st := by
 rw [reverseSlice'_eq]
 exact wpS_modify h
theorem wpS_countRun (C : Cmp prog w A s κ D R) {st : SortSt} (B : Bs D κ p₀ a₀ lo st) {nrem : Nat} (h1 : 1 ≤ nrem) (hz : lo + nrem ≤ a₀.size) {Q : Option Nat → SortSt → Prop}
  (h : ∀ n st', Bs D κ p₀ a₀ lo st' → 1 ≤ n → n ≤ nrem → Asc R (arrOf st') lo n → Q (some n) st') : wpS (model prog w) A E s (countRun' lo nrem) Q st := by
 have W := C.wk
 rw [countRun'_eq]
 refine wpS_bind (wpS_mono (wpS_forRange (I := fun x c st' => st' = st ∧ c = (none, x) ∧ 1 ≤ x ∧ x ≤ nrem ∧ Asc R (arrOf st) lo x)
  (Q := fun c st' => st' = st ∧ ∃ n, c = (none, n) ∧ 1 ≤ n ∧ n ≤ nrem ∧ Asc R (arrOf st) lo n ∧ (n < nrem → ∃ x y, (arrOf st)[lo + n]? = some x ∧ (arrOf st)[lo + n - 1]? = some y ∧ R x y = true)) ?step ?fin ⟨rfl, rfl, Nat.le_refl _, h1, Asc.one W B.domA⟩) ?post)
 case step =>
  rintro x c st' h0 hx ⟨rfl, rfl, g1, g2, g3⟩
  dsimp only
  obtain ⟨u, hu, du⟩ := B.at (i := lo + x) (by omega)
  obtain ⟨v, hv, dv⟩ := B.at (i := lo + x - 1) (by omega)
  refine wpS_bind (wpS_ltAt C B hu hv ?_)
  dsimp only
  cases hc : R u v with
  | true =>
   rw [if_pos rfl]
   exact wpS_pure ⟨rfl, x, rfl, g1, g2, g3, fun _ => ⟨u, v, hu, hv, hc⟩⟩
  | false =>
   rw [if_neg Bool.false_ne_true]
   exact wpS_pure ⟨rfl, rfl, by omega, by assumption, g3.snoc W B.domA g1 hv hu hc⟩
 case fin =>
  rintro c st' ⟨rfl, rfl, g1, g2, g3⟩
  have e : max 1 nrem = nrem := by omega
  rw [e] at g1 g2 g3 ⊢
  exact ⟨rfl, nrem, rfl, g1, g2, g3, fun z => absurd z (Nat.lt_irrefl _)⟩
 case post =>
  intro c st' hI
  refine gate fun G hG => ?_
  refine gate fun gG hgG => ?_
  obtain ⟨est, n, rfl, g1, g2, g3, g4⟩ := hI
  refine hgG ?_
  clear hgG
  subst st'
  refine hG ?_
  clear hG
  dsimp -zeta only
  extract_lets rr nn nn1 neq0 jp
  have hj : n < nrem → ∀ st1, Bs D κ p₀ a₀ lo st1 → Desc R (arrOf st1) lo (n + 1) → wpS (model prog w) A E s (jp ()) Q st1 := by
   intro hlt st1 B1 hD1
   refine wpS_bind (wpS_rule ?_)
   refine wpS_bind (wpS_mono (wpS_forRange (I := fun x c st' => Bs D κ p₀ a₀ lo st' ∧ ∃ q, c = (none, x, q) ∧ n + 1 ≤ x ∧ x ≤ nrem ∧ q + 1 ≤ x ∧ Desc R (arrOf st') lo x ∧ Eqb R (arrOf st') (lo + x - (q + 1)) (lo + x))
    (Q := fun c st' => Bs D κ p₀ a₀ lo st' ∧ ∃ n' q, c = (none, n', q) ∧ n + 1 ≤ n' ∧ n' ≤ nrem ∧ q + 1 ≤ n' ∧ Desc R (arrOf st') lo n' ∧ Eqb R (arrOf st') (lo + n' - (q + 1)) (lo + n')) ?step2 ?fin2 ⟨B1, 0, rfl, Nat.le_refl _, by assumption, by omega, hD1, ?one⟩) ?post2)
   case one =>
    have e : lo + (n + 1) = lo + (n + 1) - (0 + 1) + 1 := by omega
    exact e ▸ Eqb.one W (B1).domA
   case step2 =>
    intro x c st' h0 hx hI_
    refine gate fun gG hgG => ?_
    obtain ⟨B', q, rfl, k1, k2, k3, k4, k5⟩ := hI_
    refine hgG ?_
    clear hgG
    have z2 := B'.size
    dsimp only
    obtain ⟨u2, hu2, du2⟩ := B'.at (i := lo + x) (by omega)
    obtain ⟨v2, hv2, dv2⟩ := B'.at (i := lo + x - 1) (by omega)
    refine wpS_bind (wpS_ltAt C B' hu2 hv2 ?_)
    dsimp only
    cases hc : R u2 v2 with
    | true =>
     refine wpS_T rfl ?_
     have D2 : Desc R (arrOf st') lo (x + 1) := k4.snoc W B'.domA (by omega) hv2 hu2 (W.of_lt du2 dv2 hc)
     by_cases hq : q > 0
     ·rw [if_pos hq]
      refine wpS_bind (wpS_rev (wpS_pure ⟨B'.turn (by omega) (by omega), 0, rfl, by omega, by assumption, by omega, D2.turnB k5 (by omega) (by omega) (by omega), ?_⟩))
      have e : lo + (x + 1) = lo + (x + 1) - (0 + 1) + 1 := by omega
      exact e ▸ Eqb.one W (B'.turn (by omega) (by omega)).domA
     ·rw [if_neg hq]
      refine wpS_pure ⟨B', 0, rfl, by omega, by assumption, by omega, D2, ?_⟩
      have e : lo + (x + 1) = lo + (x + 1) - (0 + 1) + 1 := by omega
      exact e ▸ Eqb.one W B'.domA
    | false =>
     refine wpS_F Bool.false_ne_true ?_
     refine wpS_bind (wpS_ltAt C B' hv2 hu2 ?_)
     dsimp only
     cases hc2 : R v2 u2 with
     | true =>
      refine wpS_T rfl ?_
      exact wpS_pure ⟨B', x, q, rfl, k1, k2, k3, k4, k5⟩
     | false =>
      refine wpS_F Bool.false_ne_true ?_
      refine wpS_pure ⟨B', q + 1, rfl, by omega, by assumption, by omega, k4.snoc W B'.domA (by omega) hv2 hu2 hc2, ?_⟩
      have e1 : lo + (x + 1) - (q + 1 + 1) = lo + x - (q + 1) := by omega
      rw [e1]
      exact k5.snoc W B'.domA (by omega) hv2 hu2 hc hc2
   case fin2 =>
    intro c st' hI_
    refine gate fun gG hgG => ?_
    obtain ⟨B', q, rfl, k1, k2, k3, k4, k5⟩ := hI_
    refine hgG ?_
    clear hgG
    exact ⟨B', _, q, rfl, k1, k2, k3, k4, k5⟩
   case post2 =>
    intro c st' hI
    refine gate fun G hG => ?_
    refine gate fun gG hgG => ?_
    obtain ⟨B', n', q, rfl, k1, k2, k3, k4, k5⟩ := hI
    refine hgG ?_
    clear hgG
    refine hG ?_
    clear hG
    have z2 := B'.size
    dsimp -zeta only
    extract_lets s2 n2 q2 jp2
    have hj2 : ∀ st3, Bs D κ p₀ a₀ lo st3 → Desc R (arrOf st3) lo n' → wpS (model prog w) A E s (jp2 ()) Q st3 := by
      intro st3 B3 hD3
      have z3 := (B3).size
      have B4 := (B3).turn (i := lo) (j := lo + n') (Nat.le_refl _) (by omega)
      have A4 := Desc.turned (hD3) (by omega)
      refine wpS_bind (wpS_rev ?_)
      generalize hst4 : setArr st3 _ = st4 at B4 ⊢
      have hA4 : Asc R (arrOf st4) lo n' := by
       rw [← hst4]
       exact A4
      refine wpS_bind (wpS_mono (wpS_forRange (I := fun x c st' => st' = st4 ∧ c = (none, x) ∧ n' ≤ x ∧ x ≤ nrem ∧ Asc R (arrOf st4) lo x)
       (Q := fun c st' => st' = st4 ∧ ∃ m, c = (none, m) ∧ 1 ≤ m ∧ m ≤ nrem ∧ Asc R (arrOf st4) lo m) ?step5 ?fin5 ⟨rfl, rfl, Nat.le_refl _, by omega, hA4⟩) ?post5)
      case step5 =>
       rintro x c st' h0 hx ⟨rfl, rfl, k1, k2, k3⟩
       dsimp only
       obtain ⟨u5, hu5, du5⟩ := B4.at (i := lo + x) (by omega)
       obtain ⟨v5, hv5, dv5⟩ := B4.at (i := lo + x - 1) (by omega)
       refine wpS_bind (wpS_ltAt C B4 hu5 hv5 ?_)
       dsimp only
       cases hc : R u5 v5 with
       | true =>
        refine wpS_T rfl ?_
        exact wpS_pure ⟨rfl, x, rfl, by omega, k2, k3⟩
       | false =>
        refine wpS_F Bool.false_ne_true ?_
        exact wpS_pure ⟨rfl, rfl, by omega, by assumption, k3.snoc W B4.domA (by omega) hv5 hu5 hc⟩
      case fin5 =>
       rintro c st' ⟨rfl, rfl, k1, k2, k3⟩
       exact ⟨rfl, _, rfl, by omega, k2, k3⟩
      case post5 =>
       rintro c st' ⟨est, m, rfl, k1, k2, k3⟩
       subst st'
       exact wpS_pure (h m st4 B4 k1 k2 k3)
    clear_value jp2
    refine wpS_C (fun hq => ?_) (fun hq => hj2 _ B' k4)
    have B3 := B'.turn (i := lo + n' - (q + 1)) (j := lo + n') (by omega) (by omega)
    have D3 := k4.turnB k5 (by omega) (by omega) (by omega)
    exact wpS_bind (wpS_rev (hj2 _ B3 D3))
  clear_value jp
  refine wpS_C (fun e1 => wpS_pure (h n st B g1 g2 g3)) (fun e1 => ?_)
  have hlt : n < nrem := by
   have : ¬ n = nrem := fun z => e1 (by show (n == nrem) = true; rw [z]; exact beq_self_eq_true _)
   omega
  obtain ⟨u, v, hu, hv, huv⟩ := g4 hlt
  refine wpS_C (fun e2 => ?_) (fun e2 => ?_)
  ·obtain ⟨f0, hf0, df0⟩ := B.at (i := lo) (by omega)
   refine wpS_bind (wpS_ltAt C B hf0 hv ?_)
   dsimp only
   cases hc0 : R f0 v with
   | true => exact wpS_T rfl (wpS_pure (h n st B g1 g2 g3))
   | false =>
    refine wpS_F Bool.false_ne_true ?_
    have E0 := g3.eqb W B.domA hf0 hv hc0
    have z0 := B.size
    have B1 := B.turn (i := lo) (j := lo + n) (Nat.le_refl _) (by omega)
    have E1 := E0.turnB (by omega)
    have u1 : (mirror (arrOf st) lo (lo + n) ((lo + n - lo) / 2))[lo + n]? = some u := by
     rw [getElem?_mirror_all (by omega), if_neg (by omega)]
     exact hu
    have v1 : (mirror (arrOf st) lo (lo + n) ((lo + n - lo) / 2))[lo + n - 1]? = some f0 := by
     rw [getElem?_mirror_all (by omega), if_pos (by omega)]
     have e : lo + (lo + n) - 1 - (lo + n - 1) = lo := by omega
     rw [e]
     exact hf0
    have du := B.domA _ _ hu
    have dv := B.domA _ _ hv
    have D1 := E1.desc.snoc W B1.domA g1 v1 u1 (W.trans du dv df0 (W.of_lt du dv huv) hc0)
    exact wpS_bind (wpS_rev (hj hlt _ B1 D1))
  ·have e2' : ¬ n > 1 := e2
   have en : n = 1 := by omega
   have D1 : Desc R (arrOf st) lo (n + 1) := by
    have E0 : Eqb R (arrOf st) lo (lo + n) := by
     rw [en]
     exact Eqb.one W B.domA
    exact E0.desc.snoc W B.domA g1 hv hu (W.of_lt (B.domA _ _ hu) (B.domA _ _ hv) huv)
   exact hj hlt _ B D1
end
end TS
set_option linter.all false
set_option maxRecDepth 100000
set_option maxHeartbeats 4000000
namespace TS
open PySem PyProof.Rows
section
variable {prog : Program} {w : World} {A : Around} {E : Value → Shared → Prop} {s : Shared} {κ : SortKind} {D : Keyed → Prop} {R : Keyed → Keyed → Bool} {p₀ : Array (Nat × Nat × Nat)} {a₀ : Array Keyed} {lo : Nat}
theorem Bs.down {st : SortSt} (B : Bs D κ p₀ a₀ lo st) {src dst : Nat} (h1 : lo ≤ dst) (h2 : dst ≤ src) (h3 : src < a₀.size) : Bs D κ p₀ a₀ lo (setArr st (bubble (arrOf st) src (src - dst))) :=
 ⟨B.kind, B.pend, B.failed, (bubble_perm _ _ _).trans B.perm, fun k hk => by
  show (bubble (arrOf st) src (src - dst))[k]? = _
  rw [getElem?_bubble (by rw [B.size]; exact h3) _ (by omega (config := {})), if_neg (by omega (config := {})), if_neg (by omega (config := {}))]
  exact B.keep k hk, B.dom⟩
theorem Asc.insert (W : Wk D R) {a : Array Keyed} (hD : Dom D a) {k l : Nat} {x : Keyed} (h : Asc R a lo k) (hl : l ≤ k) (hz : lo + k < a.size) (hx : a[lo + k]? = some x) (h1 : ∀ i y, i < l → a[lo + i]? = some y → le R y x) (h2 : ∀ i y, l ≤ i → i < k → a[lo + i]? = some y → le R x y) :
  Asc R (bubble a (lo + k) (lo + k - (lo + l))) lo (k + 1) := fun i j u v g1 g2 g3 hu hv => by
 have e : lo + k - (lo + k - (lo + l)) = lo + l := by omega
 rw [getElem?_bubble hz _ (by omega), e] at hu hv
 have old : ∀ i, lo ≤ i → i < lo + k → ∀ y, a[i]? = some y → (i < lo + l → le R y x) ∧ (lo + l ≤ i → le R x y) := fun i hi1 hi2 y hy => by
  have ei : a[lo + (i - lo)]? = some y := by
   have : lo + (i - lo) = i := by omega
   rw [this]
   exact hy
  exact ⟨fun z => h1 (i - lo) y (by omega) ei, fun z => h2 (i - lo) y (by omega) (by omega) ei⟩
 by_cases ci : i = lo + l
 ·rw [if_pos ci, hx] at hu
  cases hu
  by_cases cj : j = lo + l
  ·rw [if_pos cj, hx] at hv
   cases hv
   exact W.refl (hD _ _ hx)
  ·rw [if_neg cj, if_pos (by omega)] at hv
   exact (old (j - 1) (by omega) (by omega) v hv).2 (by omega)
 ·rw [if_neg ci] at hu
  by_cases ci2 : lo + l < i ∧ i ≤ lo + k
  ·rw [if_pos ci2] at hu
   rw [if_neg (by omega), if_pos (by omega)] at hv
   exact h (i - 1) (j - 1) u v (by omega) (by omega) (by omega) hu hv
  ·rw [if_neg ci2] at hu
   by_cases cj : j = lo + l
   ·rw [if_pos cj, hx] at hv
    cases hv
    exact (old i g1 (by omega) u hu).1 (by omega)
   ·rw [if_neg cj] at hv
    by_cases cj2 : lo + l < j ∧ j ≤ lo + k
    ·rw [if_pos cj2] at hv
     exact h i (j - 1) u v g1 (by omega) (by omega) hu hv
    ·rw [if_neg cj2] at hv
     exact h i j u v g1 g2 (by omega) hu hv
theorem wpS_binarySort (C : Cmp prog w A s κ D R) {st : SortSt} (B : Bs D κ p₀ a₀ lo st) {n ok : Nat} (hok : 1 ≤ ok) (hn : ok ≤ n) (hz : lo + n ≤ a₀.size) (hA : Asc R (arrOf st) lo ok) {Q : Bool → SortSt → Prop}
  (h : ∀ st', Bs D κ p₀ a₀ lo st' → Asc R (arrOf st') lo n → Q true st') : wpS (model prog w) A E s (binarySort' lo n ok) Q st := by
 have W := C.wk
 have em : max ok 1 = ok := by omega
 rw [binarySort'_eq, em]
 refine wpS_bind (wpS_mono (wpS_forRange (I := fun k c st' => c = (none, ()) ∧ Bs D κ p₀ a₀ lo st' ∧ ok ≤ k ∧ k ≤ n ∧ Asc R (arrOf st') lo k) (Q := fun c st' => c = (none, ()) ∧ Bs D κ p₀ a₀ lo st' ∧ Asc R (arrOf st') lo n) ?step ?fin ⟨rfl, B, Nat.le_refl _, hn, hA⟩) ?post)
 case fin =>
  rintro c st' ⟨rfl, B', k1, k2, k3⟩
  have e : max ok n = n := by omega
  rw [e] at k3
  exact ⟨rfl, B', k3⟩
 case post =>
  rintro c st' ⟨rfl, B', k3⟩
  exact wpS_pure (h st' B' k3)
 case step =>
  rintro k c st' _ hk ⟨rfl, B', k1, k2, k3⟩
  have z1 := B'.size
  dsimp only
  obtain ⟨x, hx, dx⟩ := B'.at (i := lo + k) (by omega)
  refine wpS_bind (wpS_mono (wpS_forRange (I := fun j c st'' => st'' = st' ∧ ∃ l r, c = (none, l, r) ∧ l ≤ r ∧ r ≤ k ∧ r - l ≤ k - j ∧ (∀ i y, i < l → (arrOf st')[lo + i]? = some y → le R y x) ∧ ∀ i y, r ≤ i → i < k → (arrOf st')[lo + i]? = some y → le R x y)
   (Q := fun c st'' => st'' = st' ∧ ∃ l r, c = (none, l, r) ∧ l ≤ k ∧ (∀ i y, i < l → (arrOf st')[lo + i]? = some y → le R y x) ∧ ∀ i y, l ≤ i → i < k → (arrOf st')[lo + i]? = some y → le R x y) ?step1 ?fin1 ⟨rfl, 0, k, rfl, by omega, by omega, by omega, fun i y hi => absurd hi (Nat.not_lt_zero _), fun i y h1 h2 => by omega⟩) ?post1)
  case step1 =>
   intro j c st'' _ hj hI_
   refine gate fun gG hgG => ?_
   obtain ⟨rfl, l, r, rfl, m1, m2, m3, m4, m5⟩ := hI_
   refine hgG ?_
   clear hgG
   dsimp only
   by_cases hge : l ≥ r
   ·rw [if_pos hge]
    have e : l = r := by omega
    subst e
    exact wpS_pure ⟨rfl, l, l, rfl, m2, m4, m5⟩
   ·rw [if_neg hge]
    obtain ⟨y, hy, dy⟩ := B'.at (i := lo + (l + r) / 2) (by omega)
    refine wpS_bind (wpS_ltAt C B' hx hy ?_)
    dsimp only
    cases hc : R x y with
    | true =>
     rw [if_pos rfl]
     refine wpS_pure ⟨rfl, l, (l + r) / 2, rfl, by omega, by omega, by omega, m4, fun i y' g1 g2 hy' => ?_⟩
     exact W.trans dx dy (B'.domA _ _ hy') (W.of_lt dx dy hc) (k3 _ _ y y' (by omega) (by omega) (by omega) hy hy')
    | false =>
     rw [if_neg Bool.false_ne_true]
     refine wpS_pure ⟨rfl, (l + r) / 2 + 1, r, rfl, by omega, m2, by omega, fun i y' g1 hy' => ?_, m5⟩
     exact W.trans (B'.domA _ _ hy') dy dx (k3 _ _ y' y (by omega) (by omega) (by omega) hy' hy) hc
  case fin1 =>
   intro c st'' hI_
   refine gate fun gG hgG => ?_
   obtain ⟨rfl, l, r, rfl, m1, m2, m3, m4, m5⟩ := hI_
   refine hgG ?_
   clear hgG
   have e : l = r := by omega
   subst e
   exact ⟨rfl, l, l, rfl, m2, m4, m5⟩
  case post1 =>
   rintro c st'' ⟨est, l, r, rfl, m1, m2, m3⟩
   subst st''
   dsimp only
   rw [moveDown'_eq]
   exact wpS_bind (wpS_modify (wpS_pure ⟨rfl, B'.down (by omega) (by omega) (by omega), by omega, by assumption, k3.insert W B'.domA m1 (by omega) hx m2 m3⟩))
end
section
variable {D : Keyed → Prop} {R : Keyed → Keyed → Bool}
def seg (l : List Keyed) (i n : Nat) : List Keyed := (l.drop i).take n
theorem asc_srt {a : Array Keyed} {lo n : Nat} (h : Asc R a lo n) : Srt R (seg a.toList lo n) := by
 refine List.pairwise_iff_getElem.mpr fun i j hi hj hij => ?_
 unfold seg at hi hj ⊢
 rw [List.length_take, List.length_drop, Array.length_toList] at hi hj
 rw [List.getElem_take, List.getElem_take, List.getElem_drop, List.getElem_drop]
 refine h (lo + i) (lo + j) _ _ (by omega) (by omega) (by omega) ?_ ?_
 ·rw [arr_list, List.getElem?_eq_getElem (by rw [Array.length_toList]; omega)]
 ·rw [arr_list, List.getElem?_eq_getElem (by rw [Array.length_toList]; omega)]
def Ch (R : Keyed → Keyed → Bool) (a : Array Keyed) : Nat → List (Nat × Nat × Nat) → Nat → Prop
 | s, [], e => s = e
 | s, (t, n, _) :: r, e => t = s ∧ 1 ≤ n ∧ Asc R a s n ∧ Ch R a (s + n) r e
theorem Ch.append {a : Array Keyed} : ∀ {p q : List (Nat × Nat × Nat)} {s e : Nat}, Ch R a s (p ++ q) e ↔ ∃ m, Ch R a s p m ∧ Ch R a m q e
 | [], q, s, e => ⟨fun h => ⟨s, rfl, h⟩, fun ⟨m, h1, h2⟩ => by
  have h1' : s = m := h1
  rw [h1']
  exact h2⟩
 | (t, n, w) :: p, q, s, e => by
  constructor
  ·rintro ⟨h1, h2, h3, h4⟩
   obtain ⟨m, h5, h6⟩ := Ch.append.mp h4
   exact ⟨m, ⟨h1, h2, h3, h5⟩, h6⟩
  ·rintro ⟨m, ⟨h1, h2, h3, h4⟩, h5⟩
   exact ⟨h1, h2, h3, Ch.append.mpr ⟨m, h4, h5⟩⟩
theorem Ch.le_ {a : Array Keyed} : ∀ {p : List (Nat × Nat × Nat)} {s e : Nat}, Ch R a s p e → s + p.length ≤ e
 | [], s, e, h => by
  have h' : s = e := h
  simp [h']
 | (t, n, w) :: p, s, e, ⟨h1, h2, h3, h4⟩ => by
  have := Ch.le_ h4
  rw [List.length_cons]
  omega
theorem Asc.congr {a b : Array Keyed} {lo n : Nat} (h : Asc R a lo n) (e : ∀ i, lo ≤ i → i < lo + n → b[i]? = a[i]?) : Asc R b lo n := fun i j x y g1 g2 g3 hx hy => by
 rw [e i g1 (by omega)] at hx
 rw [e j (by omega) g3] at hy
 exact h i j x y g1 g2 g3 hx hy
theorem Ch.congr {a b : Array Keyed} : ∀ {p : List (Nat × Nat × Nat)} {s e : Nat}, Ch R a s p e → (∀ i, s ≤ i → i < e → b[i]? = a[i]?) → Ch R b s p e
 | [], _, _, h, _ => h
 | (t, n, w) :: p, s, e, ⟨h1, h2, h3, h4⟩, hc => by
  have := Ch.le_ h4
  exact ⟨h1, h2, h3.congr fun i g1 g2 => hc i g1 (by omega), Ch.congr h4 fun i g1 g2 => hc i (by omega) g2⟩
theorem write_at : ∀ (m : List Keyed) (a : Array Keyed) (s k : Nat), s + k + m.length ≤ a.size → ∀ i, ((m.zipIdx k).foldl (fun a (p : Keyed × Nat) => a.setIfInBounds (s + p.2) p.1) a)[i]? = if s + k ≤ i ∧ i < s + k + m.length then m[i - (s + k)]? else a[i]?
 | [], a, s, k, _, i => by
  rw [if_neg (by simp only [List.length_nil]; omega)]
  rfl
 | x :: m, a, s, k, hz, i => by
  rw [List.length_cons] at hz
  rw [List.zipIdx_cons, List.foldl_cons, write_at m _ s (k + 1) (by rw [Array.size_setIfInBounds]; omega)]
  rw [Array.getElem?_setIfInBounds, List.length_cons]
  dsimp only
  by_cases h1 : s + (k + 1) ≤ i ∧ i < s + (k + 1) + m.length
  ·rw [if_pos h1, if_pos (by omega)]
   have e : i - (s + k) = (i - (s + (k + 1))) + 1 := by omega
   rw [e, List.getElem?_cons_succ]
  ·rw [if_neg h1]
   by_cases h2 : s + k = i
   ·rw [if_pos h2, if_pos (by omega), if_pos (by omega)]
    have e : i - (s + k) = 0 := by omega
    rw [e]
    rfl
   ·rw [if_neg h2, if_neg (by omega)]
end
end TS
set_option linter.all false
set_option maxRecDepth 100000
set_option maxHeartbeats 4000000
namespace TS
open PySem PyProof.Rows
section
variable {prog : Program} {w : World} {A : Around} {E : Value → Shared → Prop} {s : Shared} {κ : SortKind} {D : Keyed → Prop} {R : Keyed → Keyed → Bool}
theorem gal_rightS (W : Wk D R) {arr : Array Keyed} {key : Keyed} {base n : Nat} (hs : Asc R arr base n) (hD : Dom D arr) (hk : D key) (hn : base + n ≤ arr.size) :
  ∃ k, Gal D R false key arr base n k ∧ (∀ i x, i < k → arr[base + i]? = some x → le R x key) ∧ ∀ i x, k ≤ i → i < n → arr[base + i]? = some x → R key x = true := by
 have mono : ∀ i j, i ≤ j → j < n → (match arr[base + j]? with | some x => bey R false key x | none => false) = true → (match arr[base + i]? with | some x => bey R false key x | none => false) = true := by
  intro i j hij hj h
  obtain ⟨x, hx, _⟩ := arr_at (a := arr) (i := base + i) (by omega)
  obtain ⟨y, hy, _⟩ := arr_at (a := arr) (i := base + j) (by omega)
  rw [hy] at h
  rw [hx]
  dsimp only [bey] at h ⊢
  simp only [Bool.false_eq_true, if_false, Bool.not_eq_true'] at h ⊢
  exact W.neg key y x hk (hD _ _ hy) (hD _ _ hx) h (hs _ _ x y (by omega) (by omega) (by omega) hx hy)
 obtain ⟨k, hk1, hk2⟩ := cut_at n mono
 have at_ : ∀ i x, i < n → arr[base + i]? = some x → bey R false key x = decide (i < k) := by
  intro i x hi hx
  have := hk2 i hi
  rw [hx] at this
  exact this
 refine ⟨k, ⟨hk1, hk, fun i hi => ?_⟩, fun i x hi hx => ?_, fun i x h1 h2 hx => ?_⟩
 ·obtain ⟨x, hx, hx'⟩ := arr_at (a := arr) (i := base + i) (by omega)
  exact ⟨x, hx, hD _ _ hx, at_ i x hi hx⟩
 ·have := at_ i x (by omega) hx
  rw [decide_eq_true hi] at this
  dsimp only [bey] at this
  simpa [le] using this
 ·have := at_ i x h2 hx
  rw [decide_eq_false (by omega)] at this
  dsimp only [bey] at this
  simpa using this
theorem gal_leftS (W : Wk D R) {arr : Array Keyed} {key : Keyed} {base n : Nat} (hs : Asc R arr base n) (hD : Dom D arr) (hk : D key) (hn : base + n ≤ arr.size) :
  ∃ k, Gal D R true key arr base n k ∧ (∀ i x, i < k → arr[base + i]? = some x → R x key = true) ∧ ∀ i x, k ≤ i → i < n → arr[base + i]? = some x → le R key x := by
 have mono : ∀ i j, i ≤ j → j < n → (match arr[base + j]? with | some x => bey R true key x | none => false) = true → (match arr[base + i]? with | some x => bey R true key x | none => false) = true := by
  intro i j hij hj h
  obtain ⟨x, hx, _⟩ := arr_at (a := arr) (i := base + i) (by omega)
  obtain ⟨y, hy, _⟩ := arr_at (a := arr) (i := base + j) (by omega)
  rw [hy] at h
  rw [hx]
  dsimp only [bey] at h ⊢
  simp only [if_true] at h ⊢
  cases hc : R x key with
  | true => rfl
  | false =>
   have := W.neg y x key (hD _ _ hy) (hD _ _ hx) hk (hs _ _ x y (by omega) (by omega) (by omega) hx hy) hc
   rw [h] at this
   cases this
 obtain ⟨k, hk1, hk2⟩ := cut_at n mono
 have at_ : ∀ i x, i < n → arr[base + i]? = some x → bey R true key x = decide (i < k) := by
  intro i x hi hx
  have := hk2 i hi
  rw [hx] at this
  exact this
 refine ⟨k, ⟨hk1, hk, fun i hi => ?_⟩, fun i x hi hx => ?_, fun i x h1 h2 hx => ?_⟩
 ·obtain ⟨x, hx, hx'⟩ := arr_at (a := arr) (i := base + i) (by omega)
  exact ⟨x, hx, hD _ _ hx, at_ i x hi hx⟩
 ·have := at_ i x (by omega) hx
  rw [decide_eq_true hi] at this
  dsimp only [bey] at this
  simpa using this
 ·have := at_ i x h2 hx
  rw [decide_eq_false (by omega)] at this
  dsimp only [bey] at this
  simpa [le] using this
theorem wr_list {a a' : Array Keyed} {m : List Keyed} {p : Nat} (h : ∀ i : Nat, a'[i]? = if p ≤ i ∧ i < p + m.length then m[i - p]? else a[i]?) (hz : p + m.length ≤ a.size) : a'.toList = a.toList.take p ++ (m ++ a.toList.drop (p + m.length)) := by
 refine List.ext_getElem? fun i => ?_
 have e : a'.toList[i]? = a'[i]? := by simp
 rw [e, h i]
 have lt : (a.toList.take p).length = p := by rw [List.length_take, Array.length_toList]; omega
 by_cases h1 : i < p
 ·rw [if_neg (by omega), List.getElem?_append_left (by omega), List.getElem?_take, if_pos h1, arr_list]
 ·rw [List.getElem?_append_right (by omega), lt]
  by_cases h2 : i < p + m.length
  ·rw [if_pos (by omega), List.getElem?_append_left (by omega)]
  ·rw [if_neg (by omega), List.getElem?_append_right (by omega), List.getElem?_drop, arr_list]
   congr 1
   omega
theorem split3 {a : Array Keyed} {p q r : Nat} (h1 : p ≤ q) (h2 : q ≤ r) : a.toList = a.toList.take p ++ ((a.extract p q).toList ++ (a.extract q r).toList ++ a.toList.drop r) := by
 rw [ext_seg a h1, ext_seg a h2]
 have e1 : a.toList.drop p = (a.toList.drop p).take (q - p) ++ (a.toList.drop q) := by
  have := List.take_append_drop (q - p) (a.toList.drop p)
  rw [List.drop_drop] at this
  have e : p + (q - p) = q := by omega
  rw [e] at this
  exact this.symm
 have e2 : a.toList.drop q = (a.toList.drop q).take (r - q) ++ a.toList.drop r := by
  have := List.take_append_drop (r - q) (a.toList.drop q)
  rw [List.drop_drop] at this
  have e : q + (r - q) = r := by omega
  rw [e] at this
  exact this.symm
 rw [List.append_assoc, ← e2, ← e1, List.take_append_drop]
theorem perm_write {a a' : Array Keyed} {m : List Keyed} {p q r : Nat} (h1 : p ≤ q) (h2 : q ≤ r) (h3 : r ≤ a.size) (hm : m.Perm ((a.extract p q).toList ++ (a.extract q r).toList)) (hw : a'.toList = a.toList.take p ++ (m ++ a.toList.drop r)) : a'.Perm a := by
 rw [Array.perm_iff_toList_perm, hw]
 have e := split3 (a := a) h1 h2
 refine List.Perm.trans ?_ (List.Perm.of_eq e.symm)
 exact List.Perm.append_left _ (List.Perm.append_right _ hm)
end
end TS
set_option linter.all false
set_option maxRecDepth 100000
set_option maxHeartbeats 4000000
namespace TS
open PySem PyProof.Rows
section
variable {prog : Program} {w : World} {A : Around} {E : Value → Shared → Prop} {s : Shared} {κ : SortKind} {D : Keyed → Prop} {R : Keyed → Keyed → Bool}
theorem wpS_set {M : Model} {σ : Type} {st st' : σ} {Q : PUnit → σ → Prop} (h : Q ⟨⟩ st') : wpS M A E s (set st' : StateT σ Sem PUnit) Q st := by
 unfold wpS
 rw [StateT.run_set]
 exact wpAny_pure ⟨rfl, h⟩
theorem mem_ext {a : Array Keyed} {p q : Nat} {x : Keyed} (h : x ∈ (a.extract p q).toList) (hq : p ≤ q) : ∃ j, p ≤ j ∧ j < q ∧ a[j]? = some x := by
 rw [ext_seg a hq] at h
 obtain ⟨i, hi, rfl⟩ := List.mem_iff_getElem.mp h
 rw [List.length_take, List.length_drop, Array.length_toList] at hi
 refine ⟨p + i, by omega, by omega, ?_⟩
 rw [List.getElem_take, List.getElem_drop, arr_list, List.getElem?_eq_getElem (by rw [Array.length_toList]; omega)]
theorem Asc.join (W : Wk D R) {a : Array Keyed} {sa na nb : Nat} (hD : Dom D a) (h1 : Asc R a sa na) (h2 : Asc R a (sa + na) nb) (h : ∀ i x j y, sa ≤ i → i < sa + na → sa + na ≤ j → j < sa + na + nb → a[i]? = some x → a[j]? = some y → le R x y) : Asc R a sa (na + nb) := fun i j x y g1 g2 g3 hx hy => by
 rcases Nat.lt_or_ge j (sa + na) with z | z
 ·exact h1 i j x y g1 g2 z hx hy
 ·rcases Nat.lt_or_ge i (sa + na) with z2 | z2
  ·exact h i x j y g1 z2 z (by omega) hx hy
  ·exact h2 i j x y z2 g2 (by omega) hx hy
theorem pend_new {p : Array (Nat × Nat × Nat)} {pre post : List (Nat × Nat × Nat)} {u v n : Nat × Nat × Nat} {i : Nat} (hp : p.toList = pre ++ u :: v :: post) (hi : pre.length = i) : ((p.setIfInBounds i n).eraseIdxIfInBounds (i + 1)).toList = pre ++ n :: post := by
 have hs : p.size = pre.length + (post.length + 1 + 1) := by
  rw [← Array.length_toList, hp, List.length_append, List.length_cons, List.length_cons]
 have hb : i + 1 < (p.setIfInBounds i n).size := by
  rw [Array.size_setIfInBounds]
  omega
 unfold Array.eraseIdxIfInBounds
 rw [dif_pos hb, Array.toList_eraseIdx, Array.toList_setIfInBounds, hp, ← hi, List.set_append_right _ _ (Nat.le_refl _), Nat.sub_self, List.set_cons_zero, List.eraseIdx_append_of_length_le (by omega)]
 congr 1
 have e : pre.length + 1 - pre.length = 1 := by omega
 rw [e]
 rfl
theorem pend_at {p : Array (Nat × Nat × Nat)} {pre post : List (Nat × Nat × Nat)} {u v : Nat × Nat × Nat} {i : Nat} (hp : p.toList = pre ++ u :: v :: post) (hi : pre.length = i) : p[i]? = some u ∧ p[i + 1]? = some v := by
 have e : ∀ k : Nat, p[k]? = p.toList[k]? := fun k => by simp
 rw [e, e, hp, ← hi]
 constructor
 ·rw [List.getElem?_append_right (Nat.le_refl _), Nat.sub_self]
  rfl
 ·rw [List.getElem?_append_right (Nat.le_add_right _ _), Nat.add_sub_cancel_left]
  rfl
theorem wpS_mergeAt (C : Cmp prog w A s κ D R) {st : SortSt} {i : Nat} {pre post : List (Nat × Nat × Nat)} {sa na pw sb nb qw lo : Nat} (hk : kindOf st = κ) (hf : failedOf st = none) (hD : Dom D (arrOf st))
  (hp : (pendingOf st).toList = pre ++ (sa, na, pw) :: (sb, nb, qw) :: post) (hi : pre.length = i) (hc : Ch R (arrOf st) 0 (pendingOf st).toList lo) (hlo : lo ≤ (arrOf st).size) {Q : Bool → SortSt → Prop}
  (h : ∀ st', kindOf st' = κ → failedOf st' = none → (arrOf st').Perm (arrOf st) → (pendingOf st').toList = pre ++ (sa, na + nb, pw) :: post → Ch R (arrOf st') 0 (pendingOf st').toList lo → (∀ k, lo ≤ k → (arrOf st')[k]? = (arrOf st)[k]?) → Q true st') :
  wpS (model prog w) A E s (mergeAt' i) Q st := by
 refine gate fun gG hgG => ?_
 have W := C.wk
 obtain ⟨e1, e2⟩ := pend_at hp hi
 rw [hp, Ch.append] at hc
 obtain ⟨m0, c1, c2, c3, c4, c5, c6, c7, c8⟩ := hc
 refine hgG ?_
 clear hgG
 subst c2
 subst c5
 have cle := c8.le_
 refine wpS_bind (wpS_get ?_)
 rw [e1, e2]
 dsimp only
 refine wpS_bind (wpS_set ?_)
 have hpn := pend_new (n := (sa, na + nb, pw)) hp hi
 change wpS (model prog w) A E s _ Q (SortSt.mk' (kindOf st) (arrOf st) (((pendingOf st).setIfInBounds i (sa, na + nb, pw)).eraseIdxIfInBounds (i + 1)) (gallopOf st) (failedOf st))
 generalize hst1 : SortSt.mk' (kindOf st) (arrOf st) (((pendingOf st).setIfInBounds i (sa, na + nb, pw)).eraseIdxIfInBounds (i + 1)) (gallopOf st) (failedOf st) = st1
 have a1 : arrOf st1 = arrOf st := by rw [← hst1]
 have k1' : kindOf st1 = κ := by rw [← hst1]; exact hk
 have f1' : failedOf st1 = none := by rw [← hst1]; exact hf
 have p1' : (pendingOf st1).toList = pre ++ (sa, na + nb, pw) :: post := by rw [← hst1]; exact hpn
 clear hst1
 generalize ha : arrOf st = a at *
 rw [show (sortPriv% PySem.Builtin.SortState.a) st = a from ha]
 have easy : Asc R a sa (na + nb) → Q true st1 := fun hA => by
  refine h st1 k1' f1' (by rw [a1]) p1' ?_ (fun k _ => by rw [a1])
  rw [a1, p1', Ch.append]
  exact ⟨sa, c1, rfl, by omega, hA, by rw [← Nat.add_assoc]; exact c8⟩
 obtain ⟨y0, hy0, _⟩ := arr_at (a := a) (i := sa + na) (by omega)
 have dy0 := hD _ _ hy0
 refine wpS_bind (wpS_elem hy0 ?_)
 obtain ⟨k, G, kl, kr⟩ := gal_rightS W c4 hD dy0 (by omega)
 have hkn := G.le
 refine wpS_bind (wpS_gallop C G (by assumption) k1' ?_)
 dsimp only
 have y0le : ∀ j y, sa + na ≤ j → j < sa + na + nb → a[j]? = some y → le R y0 y := fun j y g1 g2 hy => c7 _ _ y0 y (Nat.le_refl _) g1 g2 hy0 hy
 have lowP : ∀ i x, sa ≤ i → i < sa + k → a[i]? = some x → le R x y0 := fun i x g1 g2 hx => by
  refine kl (i - sa) x (by omega) ?_
  have : sa + (i - sa) = i := by omega
  rw [this]
  exact hx
 by_cases z1 : (na - k == 0) = true
 ·rw [if_pos z1]
  have z1' : na - k = 0 := eq_of_beq z1
  refine wpS_pure (easy (Asc.join W hD c4 c7 fun i x j y g1 g2 g3 g4 hx hy => ?_))
  exact W.trans (hD _ _ hx) dy0 (hD _ _ hy) (lowP i x g1 (by omega) hx) (y0le j y g3 g4 hy)
 rw [if_neg z1]
 have z1' : ¬ na - k = 0 := fun z => z1 (by rw [z]; rfl)
 obtain ⟨xl, hxl, _⟩ := arr_at (a := a) (i := sa + k + (na - k) - 1) (by omega)
 have dxl := hD _ _ hxl
 refine wpS_bind (wpS_elem hxl ?_)
 obtain ⟨k2, G2, k2l, k2r⟩ := gal_leftS W c7 hD dxl (by omega)
 have hk2n := G2.le
 refine wpS_bind (wpS_gallop C G2 (by omega) k1' ?_)
 dsimp only
 have lexl : ∀ i x, sa ≤ i → i < sa + na → a[i]? = some x → le R x xl := fun i x g1 g2 hx => c4 _ _ x xl g1 (by omega) (by omega) hx hxl
 have highZ : ∀ j y, sa + na + k2 ≤ j → j < sa + na + nb → a[j]? = some y → le R xl y := fun j y g1 g2 hy => by
  refine k2r (j - (sa + na)) y (by omega) (by omega) ?_
  have : sa + na + (j - (sa + na)) = j := by omega
  rw [this]
  exact hy
 by_cases z2 : (k2 == 0) = true
 ·rw [if_pos z2]
  have z2' : k2 = 0 := eq_of_beq z2
  refine wpS_pure (easy (Asc.join W hD c4 c7 fun i x j y g1 g2 g3 g4 hx hy => ?_))
  exact W.trans (hD _ _ hx) dxl (hD _ _ hy) (lexl i x g1 g2 hx) (highZ j y (by omega) g4 hy)
 rw [if_neg z2]
 have z2' : ¬ k2 = 0 := fun z => z2 (by rw [z]; rfl)
 have q1 : sa + k ≤ sa + na := by omega
 have q2 : sa + na ≤ sa + na + k2 := by omega
 have lx : (a.extract (sa + k) (sa + na)).toList.length = na - k := by
  rw [Array.length_toList, Array.size_extract]
  omega
 have ly : (a.extract (sa + na) (sa + na + k2)).toList.length = k2 := by
  rw [Array.length_toList, Array.size_extract]
  omega
 have T : Two D R (a.extract (sa + k) (sa + na)).toList (a.extract (sa + na) (sa + na + k2)).toList := by
  refine ⟨W, fun x hx => ?_, fun x hx => ?_, ?_, ?_, fun y hy x hx => ?_, fun x hx y hy => ?_⟩
  ·obtain ⟨j, _, _, hj⟩ := mem_ext hx q1
   exact hD _ _ hj
  ·obtain ⟨j, _, _, hj⟩ := mem_ext hx q2
   exact hD _ _ hj
  ·have e : (a.extract (sa + k) (sa + na)).toList = seg a.toList (sa + k) (na - k) := by
    rw [ext_seg a q1]
    unfold seg
    congr 1
    omega
   rw [e]
   exact asc_srt fun i j x y g1 g2 g3 hx hy => c4 i j x y (by omega) g2 (by omega) hx hy
  ·have e : (a.extract (sa + na) (sa + na + k2)).toList = seg a.toList (sa + na) k2 := by
    rw [ext_seg a q2]
    unfold seg
    congr 1
    omega
   rw [e]
   exact asc_srt fun i j x y g1 g2 g3 hx hy => c7 i j x y (by assumption) g2 (by omega) hx hy
  ·have ey : y = y0 := by
    rw [ext_seg a q2, List.getElem?_take, if_pos (by omega), List.getElem?_drop, Nat.add_zero, ← arr_list, hy0] at hy
    exact (Option.some.inj hy).symm
   subst ey
   obtain ⟨j, g1, g2, hj⟩ := mem_ext hx q1
   refine W.of_lt dy0 (hD _ _ hj) (kr (j - sa) x (by omega) (by omega) ?_)
   have : sa + (j - sa) = j := by omega
   rw [this]
   exact hj
  ·have ex : x = xl := by
    rw [lx, ext_seg a q1, List.getElem?_take, if_pos (by omega), List.getElem?_drop, ← arr_list] at hx
    have e : sa + k + (na - k - 1) = sa + k + (na - k) - 1 := by omega
    rw [e, hxl] at hx
    exact (Option.some.inj hx).symm
   subst ex
   obtain ⟨j, g1, g2, hj⟩ := mem_ext hy q2
   refine W.of_lt (hD _ _ hj) dxl (k2l (j - (sa + na)) y (by omega) ?_)
   have : sa + na + (j - (sa + na)) = j := by omega
   rw [this]
   exact hj
 have after : ∀ (m : Array Keyed) (g : Nat), Mrg R (a.extract (sa + k) (sa + na)).toList (a.extract (sa + na) (sa + na + k2)).toList m.toList →
   wpS (model prog w) A E s (do
    modify fun s => setArr s (m.toList.zipIdx.foldl (fun a (p, j) => a.setIfInBounds (sa + k + j) p) (arrOf s))
    let __do_lift ← get
    pure (failedOf __do_lift).isNone) Q (setG st1 g) := by
  intro m g hm
  obtain ⟨mp, ms⟩ := hm
  have lm : m.toList.length = (na - k) + k2 := by
   rw [mp.length_eq, List.length_append, lx, ly]
  refine wpS_bind (wpS_modify (wpS_bind (wpS_get (wpS_pure ?_))))
  have hw : ∀ i, (m.toList.zipIdx.foldl (fun a (p : Keyed × Nat) => a.setIfInBounds (sa + k + p.2) p.1) a)[i]? = if sa + k ≤ i ∧ i < sa + k + m.toList.length then m.toList[i - (sa + k)]? else a[i]? := fun i => write_at m.toList a (sa + k) 0 (by rw [lm]; omega) i
  have ea : arrOf (setG st1 g) = a := a1
  show Q (failedOf (setArr (setG st1 g) (m.toList.zipIdx.foldl (fun a (p : Keyed × Nat) => a.setIfInBounds (sa + k + p.2) p.1) (arrOf (setG st1 g))))).isNone (setArr (setG st1 g) (m.toList.zipIdx.foldl (fun a (p : Keyed × Nat) => a.setIfInBounds (sa + k + p.2) p.1) (arrOf (setG st1 g))))
  rw [ea]
  generalize m.toList.zipIdx.foldl (fun a (p : Keyed × Nat) => a.setIfInBounds (sa + k + p.2) p.1) a = a' at hw ⊢
  have hff : (failedOf (setArr (setG st1 g) a')).isNone = true := by
   show (failedOf st1).isNone = true
   rw [f1']
   rfl
  rw [hff]
  rw [lm] at hw
  have hwl : a'.toList = a.toList.take (sa + k) ++ (m.toList ++ a.toList.drop (sa + na + k2)) := by
   have := wr_list (a := a) (a' := a') (m := m.toList) (p := sa + k) (by rw [lm]; exact hw) (by rw [lm]; omega)
   rw [lm] at this
   have e : sa + k + (na - k + k2) = sa + na + k2 := by omega
   rw [e] at this
   exact this
  have hperm : a'.Perm a := perm_write q1 q2 (by omega) mp hwl
  have hD' : Dom D a' := hD.perm hperm
  have memM : ∀ x, x ∈ m.toList → (∃ j, sa + k ≤ j ∧ j < sa + na ∧ a[j]? = some x) ∨ ∃ j, sa + na ≤ j ∧ j < sa + na + k2 ∧ a[j]? = some x := fun x hx => by
   rcases List.mem_append.mp (mp.mem_iff.mp hx) with z | z
   ·exact .inl (mem_ext z q1)
   ·exact .inr (mem_ext z q2)
  have hA : Asc R a' sa (na + nb) := by
   intro i j x y g1 g2 g3 hx hy
   rw [hw] at hx hy
   by_cases ci : sa + k ≤ i ∧ i < sa + k + (na - k + k2)
   ·rw [if_pos ci] at hx
    by_cases cj : sa + k ≤ j ∧ j < sa + k + (na - k + k2)
    ·rw [if_pos cj] at hy
     refine srt_at' W (fun z hz => ?_) ms (by omega) hx hy
     rcases memM z hz with ⟨q, _, _, hq⟩ | ⟨q, _, _, hq⟩ <;> exact hD _ _ hq
    ·rw [if_neg cj] at hy
     rcases memM x (List.mem_of_getElem? hx) with ⟨q, w1, w2, hq⟩ | ⟨q, w1, w2, hq⟩
     ·exact W.trans (hD _ _ hq) dxl (hD _ _ hy) (lexl q x (by omega) w2 hq) (highZ j y (by omega) (by omega) hy)
     ·exact c7 q j x y w1 (by omega) (by omega) hq hy
   ·rw [if_neg ci] at hx
    by_cases cj : sa + k ≤ j ∧ j < sa + k + (na - k + k2)
    ·rw [if_pos cj] at hy
     have hik : i < sa + k := by omega
     rcases memM y (List.mem_of_getElem? hy) with ⟨q, w1, w2, hq⟩ | ⟨q, w1, w2, hq⟩
     ·exact c4 i q x y g1 (by omega) w2 hx hq
     ·exact W.trans (hD _ _ hx) dy0 (hD _ _ hq) (lowP i x g1 hik hx) (y0le q y w1 (by omega) hq)
    ·rw [if_neg cj] at hy
     rcases Nat.lt_or_ge i (sa + k) with z | z
     ·rcases Nat.lt_or_ge j (sa + k) with z2 | z2
      ·exact c4 i j x y g1 g2 (by omega) hx hy
      ·exact W.trans (hD _ _ hx) dy0 (hD _ _ hy) (lowP i x g1 z hx) (y0le j y (by omega) (by omega) hy)
     ·exact c7 i j x y (by omega) g2 (by omega) hx hy
  refine h _ k1' f1' hperm p1' ?_ (fun q hq => ?_)
  ·show Ch R a' 0 (pendingOf st1).toList lo
   rw [p1', Ch.append]
   refine ⟨sa, c1.congr fun q g1 g2 => ?_, rfl, by omega, hA, ?_⟩
   ·rw [hw, if_neg (by omega)]
   ·have e : sa + (na + nb) = sa + na + nb := by omega
    rw [e]
    refine c8.congr fun q g1 g2 => ?_
    rw [hw, if_neg (by omega)]
  ·show a'[q]? = a[q]?
   rw [hw, if_neg (by omega)]
 by_cases z3 : na - k ≤ k2
 ·rw [if_pos z3]
  exact wpS_bind (wpS_mergeLo C T (by rw [← Array.length_toList, lx]; omega) (by rw [← Array.length_toList, ly]; omega) k1' fun m g hm => after m g hm)
 ·rw [if_neg z3]
  exact wpS_bind (wpS_mergeHi C T (by rw [← Array.length_toList, lx]; omega) (by rw [← Array.length_toList, ly]; omega) k1' fun m g hm => after m g hm)
end
end TS
set_option linter.all false
set_option maxRecDepth 100000
set_option maxHeartbeats 4000000
namespace TS
open PySem PyProof.Rows
section
variable {prog : Program} {w : World} {A : Around} {E : Value → Shared → Prop} {s : Shared} {κ : SortKind} {D : Keyed → Prop} {R : Keyed → Keyed → Bool}
theorem split2 {α : Type} : ∀ (j : Nat) (l : List α), j + 1 < l.length → ∃ pre u v post, l = pre ++ u :: v :: post ∧ pre.length = j
 | 0, u :: v :: post, _ => ⟨[], u, v, post, rfl, rfl⟩
 | 0, [_], h => by simp at h
 | 0, [], h => by simp at h
 | _ + 1, [], h => by simp at h
 | j + 1, x :: l, h => by
  obtain ⟨pre, u, v, post, e, hl⟩ := split2 j l (by simpa using h)
  exact ⟨x :: pre, u, v, post, by rw [e]; rfl, by rw [List.length_cons, hl]⟩
theorem Ch.powers {a : Array Keyed} : ∀ {p q : List (Nat × Nat × Nat)} {s e : Nat}, Ch R a s p e → q.map (fun t => (t.1, t.2.1)) = p.map (fun t => (t.1, t.2.1)) → Ch R a s q e
 | [], [], _, _, h, _ => h
 | [], _ :: _, _, _, _, hm => by simp at hm
 | _ :: _, [], _, _, _, hm => by simp at hm
 | (t, n, w) :: p, (t', n', w') :: q, s, e, ⟨h1, h2, h3, h4⟩, hm => by
  simp only [List.map_cons, List.cons.injEq, Prod.mk.injEq] at hm
  obtain ⟨⟨rfl, rfl⟩, hm⟩ := hm
  exact ⟨h1, h2, h3, Ch.powers h4 hm⟩
structure Kd (D : Keyed → Prop) (κ : SortKind) (R : Keyed → Keyed → Bool) (a₀ : Array Keyed) (lo : Nat) (st : SortSt) : Prop where
 kind : kindOf st = κ
 failed : failedOf st = none
 perm : (arrOf st).Perm a₀
 ch : Ch R (arrOf st) 0 (pendingOf st).toList lo
 le_ : lo ≤ a₀.size
structure Jn (D : Keyed → Prop) (κ : SortKind) (R : Keyed → Keyed → Bool) (a₀ : Array Keyed) (lo n : Nat) (st : SortSt) : Prop where
 kind : kindOf st = κ
 failed : failedOf st = none
 perm : (arrOf st).Perm a₀
 ch : Ch R (arrOf st) 0 (pendingOf st).toList lo
 asc : Asc R (arrOf st) lo n
theorem Jn.push {a₀ : Array Keyed} {lo n : Nat} {st : SortSt} (J : Jn D κ R a₀ lo n st) (h1 : 1 ≤ n) (h2 : lo + n ≤ a₀.size) : Kd D κ R a₀ (lo + n) (setPending st ((pendingOf st).push (lo, n, 0))) := by
 refine ⟨J.kind, J.failed, J.perm, ?_, h2⟩
 show Ch R (arrOf st) 0 ((pendingOf st).push (lo, n, 0)).toList (lo + n)
 rw [Array.toList_push, Ch.append]
 exact ⟨lo, J.ch, rfl, h1, J.asc, rfl⟩
theorem Jn.power {a₀ : Array Keyed} {lo n : Nat} {st : SortSt} (J : Jn D κ R a₀ lo n st) (k pw : Nat) : Jn D κ R a₀ lo n (setPending st ((pendingOf st).modify k fun x => (x.1, x.2.1, pw))) := by
 refine ⟨J.kind, J.failed, J.perm, ?_, J.asc⟩
 refine J.ch.powers ?_
 show ((pendingOf st).modify k fun x => (x.1, x.2.1, pw)).toList.map (fun t => (t.1, t.2.1)) = _
 refine List.ext_getElem? fun i => ?_
 rw [List.getElem?_map, List.getElem?_map]
 have e : ∀ (q : Array (Nat × Nat × Nat)) (j : Nat), q.toList[j]? = q[j]? := fun q j => by simp
 rw [e, e, Array.getElem?_modify]
 split
 ·cases (pendingOf st)[i]? <;> rfl
 ·rfl
theorem wpS_sortAll (C : Cmp prog w A s κ D R) {a₀ : Array Keyed} {st : SortSt} (hD : Dom D a₀) (h0 : 1 ≤ a₀.size) (hk : kindOf st = κ) (hf : failedOf st = none) (hp : pendingOf st = #[]) (ha : arrOf st = a₀) {Q : Unit → SortSt → Prop}
  (h : ∀ st', failedOf st' = none → (arrOf st').Perm a₀ → Asc R (arrOf st') 0 a₀.size → Q () st') : wpS (model prog w) A E s sortRuns' Q st := by
 have W := C.wk
 rw [sortRuns'_eq]
 refine wpS_bind (wpS_get ?_)
 dsimp only
 rw [ha]
 have K0 : Kd D κ R a₀ 0 st := ⟨hk, hf, by rw [ha], by rw [hp]; rfl, Nat.zero_le _⟩
 refine wpS_bind (wpS_mono (wpS_forRange (I := fun x c st' => ∃ lo, c = (none, lo) ∧ Kd D κ R a₀ lo st' ∧ (x ≤ lo ∨ lo = a₀.size)) (Q := fun c st' => c = (none, a₀.size) ∧ Kd D κ R a₀ a₀.size st') ?step ?fin ⟨0, rfl, K0, by omega⟩) ?post)
 case fin =>
  rintro c st' ⟨lo, rfl, K, hx⟩
  have := K.le_
  have e : lo = a₀.size := by omega
  subst e
  exact ⟨rfl, K⟩
 case post =>
  rintro c st' ⟨rfl, K⟩
  dsimp only
  refine wpS_bind (wpS_mono (wpS_forRange (I := fun x c st2 => c = (none, ()) ∧ Kd D κ R a₀ a₀.size st2 ∧ (pendingOf st2).size + x ≤ a₀.size ∨ (c = (none, ()) ∧ Kd D κ R a₀ a₀.size st2 ∧ (pendingOf st2).size ≤ 1)) (Q := fun c st2 => c = (none, ()) ∧ Kd D κ R a₀ a₀.size st2 ∧ (pendingOf st2).size ≤ 1) ?stepF ?finF (.inl ⟨rfl, K, ?ini⟩)) ?postF)
  case ini =>
   have := K.ch.le_
   rw [Array.length_toList] at this
   omega
  case finF =>
   rintro c st2 (⟨rfl, K2, hs⟩ | ⟨rfl, K2, hs⟩)
   ·exact ⟨rfl, K2, by omega⟩
   ·exact ⟨rfl, K2, hs⟩
  case postF =>
   rintro c st2 ⟨rfl, K2, hs⟩
   refine wpS_pure (h st2 K2.failed K2.perm ?_)
   have hc := K2.ch
   have hl : (pendingOf st2).toList.length ≤ 1 := by rw [Array.length_toList]; exact hs
   cases hpl : (pendingOf st2).toList with
   | nil =>
    rw [hpl] at hc
    have : 0 = a₀.size := hc
    omega
   | cons u r =>
    rw [hpl] at hc hl
    obtain ⟨u1, u2, u3⟩ := u
    cases r with
    | nil =>
     obtain ⟨_, _, c3, c4⟩ := hc
     have c4' : 0 + u2 = a₀.size := c4
     rw [Nat.zero_add] at c4'
     rw [← c4']
     exact c3
    | cons v r => simp at hl
  case stepF =>
   rintro x c st2 _ hx hI
   refine wpS_bind (wpS_get ?_)
   by_cases hsz : (pendingOf st2).size ≤ 1
   ·rw [if_pos hsz]
    rcases hI with ⟨rfl, K2, _⟩ | ⟨rfl, K2, _⟩
    ·exact wpS_pure ⟨rfl, K2, hsz⟩
    ·exact wpS_pure ⟨rfl, K2, hsz⟩
   ·rw [if_neg hsz]
    rcases hI with ⟨rfl, K2, hs⟩ | ⟨rfl, K2, hs⟩
    ·have main : ∀ i, i + 1 < (pendingOf st2).size → wpS (model prog w) A E s (mergeAt' i) (fun b st3 => b = true ∧ Kd D κ R a₀ a₀.size st3 ∧ (pendingOf st3).size + 1 = (pendingOf st2).size) st2 := by
      intro i hi
      refine gate fun gG hgG => ?_
      obtain ⟨pre, u, v, post, ep, el⟩ := split2 i (pendingOf st2).toList (by rw [Array.length_toList]; exact hi)
      obtain ⟨sa, na, pwa⟩ := u
      obtain ⟨sb, nb, pwb⟩ := v
      refine hgG ?_
      clear hgG
      refine wpS_mergeAt C K2.kind K2.failed (hD.perm K2.perm) ep el K2.ch (by rw [K2.perm.size_eq]; exact Nat.le_refl _) fun st4 q1 q2 q3 q4 q5 q6 => ⟨rfl, ⟨q1, q2, q3.trans K2.perm, q5, Nat.le_refl _⟩, ?_⟩
      rw [← Array.length_toList, ← Array.length_toList, q4, ep, List.length_append, List.length_append, List.length_cons, List.length_cons, List.length_cons]
      omega
     refine wpS_bind (wpS_mono (main _ ?_) fun b st3 hq => ?_)
     ·have gen : ∀ (b : Bool) (n : Nat), 2 ≤ n → (if b = true then n - 2 - 1 else n - 2) + 1 < n := by
       intro b n h
       cases b with
       | true => rw [if_pos rfl]; omega
       | false => rw [if_neg Bool.false_ne_true]; omega
      exact gen _ _ (by omega)
     ·obtain ⟨rfl, K3, hs3⟩ := hq
      simp only [Bool.not_true, Bool.false_eq_true, if_false]
      exact wpS_pure (.inl ⟨rfl, K3, by omega⟩)
    ·omega
 case step =>
  rintro x c st' _ hx ⟨lo, rfl, K, hxl⟩
  have hle := K.le_
  dsimp only
  by_cases e1 : lo ≥ a₀.size
  ·rw [if_pos e1]
   have e : lo = a₀.size := by omega
   subst e
   exact wpS_pure ⟨rfl, K⟩
  rw [if_neg e1]
  have B0 : Bs D κ (pendingOf st') (arrOf st') lo st' := ⟨K.kind, rfl, K.failed, Array.Perm.refl _, fun _ _ => rfl, hD.perm K.perm⟩
  have z0 : (arrOf st').size = a₀.size := K.perm.size_eq
  refine wpS_bind (wpS_countRun C B0 (by omega) (by omega) fun n st2 B2 n1 n2 A2 => ?_)
  dsimp only
  generalize hmr : minRun' a₀.size a₀.size 0 = mr
  by_cases hlt : n < mr
  ·rw [if_pos hlt]
   refine wpS_bind (wpS_rule ?_)
   refine wpS_bind (wpS_binarySort C B2 n1 (n := min (a₀.size - lo) mr) (by omega) (by omega) A2 fun st3 B3 A3 => ?_)
   simp only [Bool.not_true, Bool.false_eq_true, if_false]
   generalize hN : min (a₀.size - lo) mr = N at A3 ⊢
   have hN1 : 1 ≤ N := by omega
   have hN2 : lo + N ≤ a₀.size := by omega
   have J2 : Jn D κ R a₀ lo N st3 := ⟨(B3).kind, (B3).failed, (B3).perm.trans K.perm, by rw [(B3).pend]; exact K.ch.congr fun i _ g2 => (B3).keep i g2, A3⟩
   refine wpS_bind (wpS_get ?_)
   cases hb : (pendingOf st3).back? with
   | none =>
    dsimp only
    exact wpS_bind (wpS_modify (wpS_pure ⟨_, rfl, J2.push (by assumption) (by assumption), by omega⟩))
   | some tt =>
    obtain ⟨s1, n1, pw0⟩ := tt
    dsimp only
    refine wpS_bind (wpS_mono (wpS_forRange (I := fun _ c st5 => c = (none, ()) ∧ Jn D κ R a₀ lo N st5) (Q := fun c st5 => c = (none, ()) ∧ Jn D κ R a₀ lo N st5) ?stepJ ?finJ ⟨rfl, J2⟩) ?postJ)
    case finJ =>
     exact fun c st5 hh => hh
    case stepJ =>
     rintro y c st5 _ _ ⟨rfl, J⟩
     refine wpS_bind (wpS_get ?_)
     by_cases hsz : (pendingOf st5).size > 1
     ·rw [if_pos hsz]
      refine gate fun gG hgG => ?_
      obtain ⟨pre, u, v, post, ep, el⟩ := split2 ((pendingOf st5).size - 2) (pendingOf st5).toList (by rw [Array.length_toList]; omega)
      obtain ⟨sa, na, pwa⟩ := u
      obtain ⟨sb, nb, pwb⟩ := v
      obtain ⟨e3, _⟩ := pend_at ep el
      refine hgG ?_
      clear hgG
      rw [e3]
      dsimp only
      split
      ·exact wpS_pure ⟨rfl, J⟩
      ·refine wpS_bind (wpS_mergeAt C J.kind J.failed (hD.perm J.perm) ep el J.ch (by rw [J.perm.size_eq]; omega) fun st4 q1 q2 q3 q4 q5 q6 => ?_)
       simp only [Bool.not_true, Bool.false_eq_true, if_false]
       exact wpS_pure ⟨rfl, q1, q2, q3.trans J.perm, q5, J.asc.congr fun i g1 g2 => q6 i g1⟩
     ·rw [if_neg hsz]
      exact wpS_pure ⟨rfl, J⟩
    case postJ =>
     rintro c st5 ⟨rfl, J⟩
     dsimp only
     refine wpS_bind (wpS_modify (wpS_bind (wpS_modify (wpS_pure ⟨_, rfl, Jn.push (J.power _ _) (by assumption) (by assumption), by omega⟩))))
  ·rw [if_neg hlt]
   have J2 : Jn D κ R a₀ lo n st2 := ⟨(B2).kind, (B2).failed, (B2).perm.trans K.perm, by rw [(B2).pend]; exact K.ch.congr fun i _ g2 => (B2).keep i g2, A2⟩
   refine wpS_bind (wpS_get ?_)
   cases hb : (pendingOf st2).back? with
   | none =>
    dsimp only
    exact wpS_bind (wpS_modify (wpS_pure ⟨_, rfl, J2.push (by omega) (by omega), by omega⟩))
   | some tt =>
    obtain ⟨s1, n1, pw0⟩ := tt
    dsimp only
    refine wpS_bind (wpS_mono (wpS_forRange (I := fun _ c st5 => c = (none, ()) ∧ Jn D κ R a₀ lo n st5) (Q := fun c st5 => c = (none, ()) ∧ Jn D κ R a₀ lo n st5) ?stepJ ?finJ ⟨rfl, J2⟩) ?postJ)
    case finJ =>
     exact fun c st5 hh => hh
    case stepJ =>
     rintro y c st5 _ _ ⟨rfl, J⟩
     refine wpS_bind (wpS_get ?_)
     by_cases hsz : (pendingOf st5).size > 1
     ·rw [if_pos hsz]
      refine gate fun gG hgG => ?_
      obtain ⟨pre, u, v, post, ep, el⟩ := split2 ((pendingOf st5).size - 2) (pendingOf st5).toList (by rw [Array.length_toList]; omega)
      obtain ⟨sa, na, pwa⟩ := u
      obtain ⟨sb, nb, pwb⟩ := v
      obtain ⟨e3, _⟩ := pend_at ep el
      refine hgG ?_
      clear hgG
      rw [e3]
      dsimp only
      split
      ·exact wpS_pure ⟨rfl, J⟩
      ·refine wpS_bind (wpS_mergeAt C J.kind J.failed (hD.perm J.perm) ep el J.ch (by rw [J.perm.size_eq]; assumption) fun st4 q1 q2 q3 q4 q5 q6 => ?_)
       simp only [Bool.not_true, Bool.false_eq_true, if_false]
       exact wpS_pure ⟨rfl, q1, q2, q3.trans J.perm, q5, J.asc.congr fun i g1 g2 => q6 i g1⟩
     ·rw [if_neg hsz]
      exact wpS_pure ⟨rfl, J⟩
    case postJ =>
     rintro c st5 ⟨rfl, J⟩
     dsimp only
     refine wpS_bind (wpS_modify (wpS_bind (wpS_modify (wpS_pure ⟨_, rfl, Jn.push (J.power _ _) (by assumption) (by omega), by omega⟩))))
end
end TS
set_option Elab.async false
set_option linter.all false
set_option maxRecDepth 100000
set_option maxHeartbeats 4000000
namespace TS
open PySem PyProof.Rows
section
variable {prog : Program} {w : World} {A : Around} {E : Value → Shared → Prop} {s : Shared} {κ : SortKind} {D : Keyed → Prop} {R : Keyed → Keyed → Bool}
theorem zip_self {α : Type} : ∀ l : List α, l.zip l = l.map fun v => (v, v)
 | [] => rfl
 | x :: l => by
  rw [List.zip_cons_cons, List.map_cons, zip_self l]
def leV (R : Keyed → Keyed → Bool) (x y : Value) : Prop := R (y, y) (x, x) = false
theorem pairs_snd {vs : List Value} {xs : Array Keyed} (hp : xs.Perm (pairsOf vs)) : (xs.map (·.2)).toList.Perm vs ∧ ∀ p ∈ xs.toList, p.1 = p.2 := by
 have e : (pairsOf vs).toList = vs.map fun v => (v, v) := by
  unfold pairsOf
  rw [Array.toList_zip]
  exact zip_self vs
 have hl := Array.perm_iff_toList_perm.mp hp
 rw [e] at hl
 constructor
 ·rw [Array.toList_map]
  have := hl.map Prod.snd
  rw [List.map_map] at this
  refine this.trans (List.Perm.of_eq ?_)
  exact List.map_id' vs
 ·intro p hpp
  obtain ⟨v, _, rfl⟩ := List.mem_map.mp (hl.mem_iff.mp hpp)
  rfl
theorem asc_out {vs : List Value} {xs : Array Keyed} (hp : xs.Perm (pairsOf vs)) (hs : Asc R xs 0 (pairsOf vs).size) : (xs.map (·.2)).toList.Pairwise (leV R) := by
 have h2 := (pairs_snd hp).2
 have hz := hp.size_eq
 refine List.pairwise_iff_getElem.mpr fun i j hi hj hij => ?_
 rw [Array.length_toList, Array.size_map] at hi hj
 have hx : xs[i]? = some xs[i] := by simp [hi]
 have hy : xs[j]? = some xs[j] := by simp [hj]
 have := hs i j _ _ (Nat.zero_le _) (Nat.le_of_lt hij) (by omega) hx hy
 have e1 := h2 xs[i] (by simp)
 have e2 := h2 xs[j] (by simp)
 have m1 : (xs.map (·.2)).toList[i] = xs[i].2 := by simp
 have m2 : (xs.map (·.2)).toList[j] = xs[j].2 := by simp
 rw [m1, m2]
 have p1 : xs[i] = (xs[i].2, xs[i].2) := Prod.ext e1 rfl
 have p2 : xs[j] = (xs[j].2, xs[j].2) := Prod.ext e2 rfl
 unfold leV
 rw [← p1, ← p2]
 exact this
theorem dom_pairs {vs : List Value} (h : ∀ v ∈ vs, D (v, v)) : Dom D (pairsOf vs) := fun i x hx => by
 have e : (pairsOf vs).toList = vs.map fun v => (v, v) := by
  unfold pairsOf
  rw [Array.toList_zip]
  exact zip_self vs
 have : x ∈ (pairsOf vs).toList := List.mem_of_getElem? (by rw [← arr_list]; exact hx)
 rw [e] at this
 obtain ⟨v, hv, rfl⟩ := List.mem_map.mp this
 exact h v hv
theorem list_sort_any {a : Addr} {vs : List Value} {n : Nat} {P : Fin → Shared → Prop} (ho : s.heap.get? a = some (seqObj "list" vs.toArray n)) (hz : vs.length ≤ sizeLine) (hD : ∀ v ∈ vs, D (v, v))
  (C : ∀ h', (∀ b o, b ≠ a → s.heap.get? b = some o → h'.get? b = some o) → Cmp prog w A { s with heap := h' } κ D R)
  (hkk : ∀ h', (∀ b o, b ≠ a → s.heap.get? b = some o → h'.get? b = some o) → 2 ≤ vs.length → ∀ (Q : SortKind → Shared → Prop), Q κ { s with heap := h' } → wpAny (model prog w) A (keyKind' vs.toArray) Q E { s with heap := h' })
  (h : ∀ out : Array Value, out.toList.Perm vs → out.toList.Pairwise (leV R) → P (.done (.ret .none)) { s with heap := sortedHeap s.heap a vs out }) :
  wpAny (model prog w) A (Builtin.«list.sort» ⟨[.ref a], []⟩) P E s := by
 rw [list_sort_plain]
 have ha : a < s.heap.objs.size := Heap.lt_size ho
 refine wpAny_bind (listItems_at ho rfl ?_)
 refine wpAny_bind (listUpdate_at ho rfl ?_ (by rw [List.size_toArray]; exact hz) (Nat.zero_le _))
 obtain ⟨e1, ho1⟩ : ∃ e1, (s.heap.update a (Obj.mapSeq fun _ => #[])).get? a = some (seqObj "list" #[] e1) := ⟨_, get?_update_seq ho (fun _ => #[])⟩
 refine wpAny_bind (seqEpoch_at ho1 rfl ?_)
 refine wpAny_bind (wpAny_newTuple ?_ (by show vs.length ≤ _; exact hz))
 refine wpAny_bind (wpAny_newList ?_ (Nat.zero_le _))
 refine wpAny_holding ?_
 have ho6 : (((s.heap.update a (Obj.mapSeq fun _ => #[])).push (seqObj "tuple" vs.toArray 0)).push (seqObj "list" #[] 0)).get? a = some (seqObj "list" #[] e1) := by
  rw [Heap.get?_push_ne _ _ _ (by rw [size_push', Heap.size_update]; exact Nat.ne_of_lt (Nat.lt_succ_of_lt ha)), Heap.get?_push_ne _ _ _ (by rw [Heap.size_update]; exact Nat.ne_of_lt ha)]
  exact ho1
 have kept : ∀ b o, b ≠ a → s.heap.get? b = some o → (((s.heap.update a (Obj.mapSeq fun _ => #[])).push (seqObj "tuple" vs.toArray 0)).push (seqObj "list" #[] 0)).get? b = some o := fun b o hb e =>
  Heap.get?_push_of_some _ (Heap.get?_push_of_some _ (by rw [Heap.get?_update_ne _ _ _ _ hb]; exact e))
 show wpAny (model prog w) A _ P E { s with heap := ((s.heap.update a (Obj.mapSeq fun _ => #[])).push (seqObj "tuple" vs.toArray 0)).push (seqObj "list" #[] 0) }
 dsimp only
 have hsz : vs.toArray.size = vs.length := by simp
 have fin : ∀ st' : SortSt, (arrOf st').Perm (pairsOf vs) → Asc R (arrOf st') 0 (pairsOf vs).size → P (.done (.ret .none)) { s with heap := sortedHeap s.heap a vs ((arrOf st').map (·.2)) } := fun st' hp hs => h _ (pairs_snd hp).1 (asc_out hp hs)
 by_cases h2 : vs.toArray.size < 2
 ·rw [if_pos h2, if_pos h2]
  refine wpAny_bind (wpAny_pure ?_)
  rw [StateT.run_pure]
  refine wpAny_bind (wpAny_pure ?_)
  dsimp only
  refine wpAny_bind (seqEpoch_at ho6 rfl ?_)
  refine wpAny_bind (listUpdate_at ho6 rfl ?_ (Nat.zero_le _) (by rw [Array.size_map]; show (pairsOf vs).size ≤ _; rw [pairsOf_size]; omega))
  simp only [bne_self_eq_false, Bool.false_eq_true, if_false]
  refine wpAny_pure (fin (SortSt.mk' general' (vs.toArray.zip vs.toArray) #[] 7 none) (Array.Perm.refl _) ?_)
  intro i j x y _ hij hj hx hy
  have : i = j := by rw [pairsOf_size] at hj; omega
  subst this
  have hxy : x = y := by
   rw [hx] at hy
   exact Option.some.inj hy
  subst hxy
  have W := (C _ kept).wk
  exact W.refl (dom_pairs hD i x hx)
 ·rw [if_neg h2, if_neg h2]
  refine wpAny_bind (hkk _ kept (by omega) _ ?_)
  refine wpAny_bind (wpAny_mono (wpS_sortAll (C _ kept) (a₀ := pairsOf vs) (st := SortSt.mk' κ (vs.toArray.zip vs.toArray) #[] 7 none)
   (Q := fun _ st' => (arrOf st').Perm (pairsOf vs) ∧ failedOf st' = none ∧ Asc R (arrOf st') 0 (pairsOf vs).size)
   (dom_pairs hD) (by rw [pairsOf_size]; omega) rfl rfl rfl rfl fun st' a1 a2 a3 => ⟨a2, a1, a3⟩) ?_ fun _ _ e => e)
  rintro ⟨⟨⟩, st'⟩ s' ⟨rfl, hp, hf, hs⟩
  dsimp only
  refine wpAny_bind (seqEpoch_at ho6 rfl ?_)
  refine wpAny_bind (listUpdate_at ho6 rfl ?_ (Nat.zero_le _) (by refine Nat.le_trans (Nat.le_of_eq ((Array.size_map ..).trans (hp.size_eq.trans (pairsOf_size _)))) ?_; omega))
  rw [hf]
  simp only [bne_self_eq_false, Bool.false_eq_true, if_false]
  exact wpAny_pure (fin st' hp hs)
theorem sorted_any {l : Addr} {vs : List Value} {Q : Value → Shared → Prop} (hl : s.heap.IsList l vs.toArray) (hz : vs.length ≤ sizeLine) (hD : ∀ v ∈ vs, D (v, v))
  (C : ∀ (A : Around) h', (∀ b o, s.heap.get? b = some o → h'.get? b = some o) → Cmp prog w A { s with heap := h' } κ D R)
  (hkk : ∀ (A : Around) (E : Value → Shared → Prop) h', (∀ b o, s.heap.get? b = some o → h'.get? b = some o) → 2 ≤ vs.length → ∀ (Q : SortKind → Shared → Prop), Q κ { s with heap := h' } → wpAny (model prog w) A (keyKind' vs.toArray) Q E { s with heap := h' })
  (h : ∀ out : Array Value, out.toList.Perm vs → out.toList.Pairwise (leV R) → Q (.ref (s.heap.objs.size + 1)) { s with heap := sortedAll s.heap vs out }) :
  wpAny (model prog w) A (call (.builtin "sorted") [.ref l]) Q E s := by
 refine Calls.call_function_entry kind_sorted plain_sorted entry_sorted (args_sorted1 _) ?_
 unfold Builtin.«sorted»
 refine wpAny_bind (m := checkCount "sorted" 1 1 _) (wpAny_pure ?_)
 refine wpAny_bind (collect_list hl ?_ hz)
 refine wpAny_bind (wpAny_newList ?_ (by show vs.length ≤ _; exact hz))
 have hsz : ((s.heap.push (seqObj "list" #[] 0)).update s.heap.objs.size (Obj.mapSeq (· ++ vs.toArray))).objs.size = s.heap.objs.size + 1 := by
  rw [Heap.size_update, size_push']
 have hoL : (((s.heap.push (seqObj "list" #[] 0)).update s.heap.objs.size (Obj.mapSeq (· ++ vs.toArray))).push (seqObj "list" vs.toArray 0)).get? (s.heap.objs.size + 1) = some (seqObj "list" vs.toArray 0) := by
  rw [← hsz]; exact Heap.get?_push_size _ rfl
 have kept : ∀ b o, s.heap.get? b = some o → (((s.heap.push (seqObj "list" #[] 0)).update s.heap.objs.size (Obj.mapSeq (· ++ vs.toArray))).push (seqObj "list" vs.toArray 0)).get? b = some o := fun b o e => by
  have hlt : b < s.heap.objs.size := Heap.lt_size e
  refine Heap.get?_push_of_some _ ?_
  rw [Heap.get?_update_ne _ _ _ _ (Nat.ne_of_lt hlt), Heap.get?_push_ne _ _ _ (Nat.ne_of_lt hlt)]
  exact e
 have ne1 : ∀ b o, s.heap.get? b = some o → b ≠ s.heap.objs.size + 1 := fun b o e => Nat.ne_of_lt (Nat.lt_succ_of_lt (Heap.lt_size e))
 show wpAny _ _ _ _ _ { s with heap := ((s.heap.push (seqObj "list" #[] 0)).update s.heap.objs.size (Obj.mapSeq (· ++ vs.toArray))).push (seqObj "list" vs.toArray 0) }
 rw [hsz]
 refine wpAny_bind (wpAny_holding (wpAny_call_entry slot_list_sort ⟨_, hoL, rfl⟩ entry_list_sort (list_sort_any (κ := κ) (D := D) (R := R) hoL hz hD (fun h' k => C _ h' fun b o e => k b o (ne1 b o e) (kept b o e)) (fun h' k h2 Q' hq => hkk _ _ h' (fun b o e => k b o (ne1 b o e) (kept b o e)) h2 Q' hq) fun out a1 a2 => ⟨_, rfl, ?_⟩) (args_list_sort _)))
 exact wpAny_pure ⟨_, rfl, h out a1 a2⟩
end
end TS
set_option Elab.async false
set_option linter.all false
set_option maxRecDepth 100000
set_option maxHeartbeats 4000000
namespace TS
open PySem PyProof.Rows PySem.W
def ltP (p q : Int × Int) : Bool := decide (p.1 < q.1 ∨ (p.1 = q.1 ∧ p.2 < q.2))
def IsPt (h : Heap) (v : Value) (p : Int × Int) : Prop := ∃ (a : Addr) (o : Obj) (t u : Tok) (n : Nat), v = .ref a ∧ h.get? a = some o ∧ o.cls = .type "tuple" ∧ o.data = .seq #[.int p.1 t, .int p.2 u] n
theorem IsPt.kept {h h' : Heap} {v : Value} {p : Int × Int} (x : IsPt h v p) (k : ∀ b o, h.get? b = some o → h'.get? b = some o) : IsPt h' v p := by
 refine gate fun gG hgG => ?_
 obtain ⟨a, o, t, u, n, e, ho, r⟩ := x
 refine hgG ?_
 clear hgG
 exact ⟨a, o, t, u, n, e, k a o ho, r⟩
section
variable {prog : Program} {w : World} {A : Around} {E : Value → Shared → Prop} {s : Shared}
theorem keyLt_pts {x y : Value} {p q : Int × Int} {Q : Bool → Shared → Prop} (hx : IsPt s.heap x p) (hy : IsPt s.heap y q) (h : Q (ltP p q) s) : wpAny (model prog w) A (keyLt' (tuples' true) x y) Q E s := by
 refine gate fun gG hgG => ?_
 obtain ⟨a, o, t, u, n, rfl, ho, _, hd⟩ := hx
 obtain ⟨b, o', t', u', n', rfl, ho', _, hd'⟩ := hy
 refine hgG ?_
 clear hgG
 refine kat_lt ho hd ho' hd' ?_
 show KatLex prog w A true _ Q [(.int p.1 t, .int q.1 t'), (.int p.2 u, .int q.2 u')] 0 s
 refine kat_cons (wpAny_eqBool_int ?_)
 unfold ltP at h
 by_cases e1 : p.1 = q.1
 ·rw [show (p.1 == q.1) = true from by rw [e1]; exact beq_self_eq_true _]
  refine kat_yes (kat_cons (wpAny_eqBool_int ?_))
  by_cases e2 : p.2 = q.2
  ·rw [show (p.2 == q.2) = true from by rw [e2]; exact beq_self_eq_true _]
   refine kat_yes (kat_nil ?_)
   rw [decide_eq_false (by omega)] at h
   exact h
  ·rw [show (p.2 == q.2) = false from beq_eq_false_iff_ne.mpr e2]
   refine kat_no (kat_one _ _ (lt_int ?_))
   rw [show decide (p.1 < q.1 ∨ p.1 = q.1 ∧ p.2 < q.2) = decide (p.2 < q.2) from by
    congr 1
    exact propext ⟨fun z => by omega, fun z => .inr ⟨e1, z⟩⟩] at h
   exact h
 ·rw [show (p.1 == q.1) = false from beq_eq_false_iff_ne.mpr e1]
  refine kat_no (oneLt_int ?_)
  rw [show decide (p.1 < q.1 ∨ p.1 = q.1 ∧ p.2 < q.2) = decide (p.1 < q.1) from by
   congr 1
   exact propext ⟨fun z => by omega, fun z => .inl z⟩] at h
  exact h
theorem cmp_pts {vs : List Value} {key : Value → Int × Int} (h : ∀ v ∈ vs, IsPt s.heap v (key v)) : Cmp prog w A s (tuples' true) (fun x => x.1 ∈ vs) (fun x y => ltP (key x.1) (key y.1)) where
 ask := fun x y hx hy E st Q hk hq => by
  rw [lt'_eq]
  refine wpS_bind (wpS_get ?_)
  rw [hk]
  refine wpS_bind (wpS_lift (wpAny_attempt (keyLt_pts (h _ hx) (h _ hy) ⟨rfl, ?_⟩)))
  exact wpS_pure hq
 asym := fun x y _ _ e => by
  unfold ltP at e ⊢
  have := of_decide_eq_true e
  exact decide_eq_false (by omega (config := {}))
 neg := fun x y z _ _ _ e1 e2 => by
  unfold ltP at e1 e2 ⊢
  have h1 := of_decide_eq_false e1
  have h2 := of_decide_eq_false e2
  exact decide_eq_false (by omega (config := {}))
theorem tups_of {h : Heap} {key : Value → Int × Int} : ∀ {vs : List Value}, (∀ v ∈ vs, IsPt h v (key v)) → ∃ fs, KatTups h vs fs ∧ fs.length = vs.length ∧ ∀ v ∈ fs, ∃ i t, v = Value.int i t
 | [], _ => ⟨[], trivial, rfl, fun _ hv => nomatch hv⟩
 | v :: vs, hh => by
  refine gate fun gG hgG => ?_
  obtain ⟨fs, h1, h2, h3⟩ := tups_of (vs := vs) fun x hx => hh x (List.mem_cons_of_mem _ hx)
  obtain ⟨a, o, t, u, n, rfl, ho, hc, hd⟩ := hh v List.mem_cons_self
  refine hgG ?_
  clear hgG
  refine ⟨.int (key (.ref a)).1 t :: fs, KatTups.cons ho hc hd rfl h1, by rw [List.length_cons, List.length_cons, h2], fun x hx => ?_⟩
  rcases List.mem_cons.mp hx with rfl | hx
  ·exact ⟨_, _, rfl⟩
  ·exact h3 x hx
theorem kind_pts {vs : List Value} {key : Value → Int × Int} {Q : SortKind → Shared → Prop} (h : ∀ v ∈ vs, IsPt s.heap v (key v)) (h2 : 2 ≤ vs.length) (hq : Q (tuples' true) s) : wpAny (model prog w) A (keyKind' vs.toArray) Q E s := by
 obtain ⟨fs, h1, hl, h3⟩ := tups_of h
 refine kat_kind (T := .type "int") h1 (by omega) (fun v hv => ?_) rfl ?_
 ·obtain ⟨i, t, rfl⟩ := h3 v hv
  exact Looks.of_pure rfl
 ·have e : ((Value.type "int") != Value.type "tuple") = true := by decide
  rw [e]
  exact hq
theorem sorted_pts {l : Addr} {vs : List Value} {key : Value → Int × Int} {Q : Value → Shared → Prop} (hl : s.heap.IsList l vs.toArray) (hz : vs.length ≤ sizeLine) (hk : ∀ v ∈ vs, IsPt s.heap v (key v))
  (h : ∀ out : Array Value, out.toList.Perm vs → out.toList.Pairwise (fun x y => ltP (key y) (key x) = false) → Q (.ref (s.heap.objs.size + 1)) { s with heap := sortedAll s.heap vs out }) :
  wpAny (model prog w) A (call (.builtin "sorted") [.ref l]) Q E s :=
 sorted_any (κ := tuples' true) (D := fun x => x.1 ∈ vs) (R := fun x y => ltP (key x.1) (key y.1)) hl hz (fun v hv => hv) (fun A h' k => cmp_pts fun v hv => (hk v hv).kept k) (fun A E h' k h2 Q hq => kind_pts (fun v hv => (hk v hv).kept k) h2 hq) h
end
end TS
set_option Elab.async false
set_option linter.all false
set_option maxRecDepth 100000
set_option maxHeartbeats 4000000
namespace TS
open PySem PyProof PyProof.Rows PySem.W
section
variable {prog : Program} {w : World} {A : Around} {E : Value → Shared → Prop} {s : Shared}
end
end TS
set_option Elab.async false
set_option linter.all false
set_option maxRecDepth 100000
set_option maxHeartbeats 1000000
namespace L2
open PySem PySem.Spec PyProof PyProof.Rows TS
def Itr3 (lo c : Int) (n : Nat) : It := ⟨fun i _ => i < n, fun i H x H' => H' = H ∧ x = .int (lo + i * c), fun i _ => n ≤ i⟩
theorem turn_range3 {P : Program} {w : World} {K : PySem.W.Frag} {tg : Expr} (it : Addr) (lo c : Int) (n : Nat) : Turn P w K tg (Itr3 lo c n) [it] it (fun i h => IsRangeIter h it (lo + (i : Nat) * c) ((n : Int) - (i : Nat)) c) where
 mem := by simp
 obj := fun i h st b hb => by
  have e : b = it := by simpa using hb
  subst e
  exact ⟨_, st, fun v z => by
   have z' : Data.fields _ = Data.cell v := z
   cases z'⟩
 keep := fun i h h' st k => k it (by simp) _ st
 item := by
  intro X hP hw hK hc i pins s σ H E I hf st hg
  subst hP hw hK
  obtain ⟨f0, f1, f2, f3, f4, f5⟩ := hf it (by simp)
  have W := Walks.range (prog := X.prog) (w := X.w) (I.ok.hd hc) it lo c n
  refine W.item i s _ _ hg st fun v h' tk hv st' kk => ?_
  obtain ⟨t, rfl⟩ := hv
  have I1 : Inv X pins σ H { s with heap := h', toks := tk } := I.turned (fun b o hb e => kk b o (by simpa using hb) e) f0 f1 f3 f4 f5
  exact ⟨_, rfl, go_of (s := { s with heap := h', toks := tk }) (n := "range_iterator") st' rfl rfl (by decide) ⟨.int (lo + i * c), H, I1, ⟨t, rfl⟩, ⟨rfl, rfl⟩, st', fun b hb => (hf b hb).1⟩⟩
 done := by
  intro X hP hw hK hc i pins s σ H E I hf st hg
  subst hP hw hK
  obtain ⟨f0, f1, f2, f3, f4, f5⟩ := hf it (by simp)
  exact wpAny_pyNext_range_end (I.ok.hd hc) st (by have : n ≤ i := hg; omega) fun h' eb => ⟨rfl, I.turned (t' := s.toks) (fun b o hb e => eb b o hb e) f0 f1 f3 f4 f5⟩
 self := fun _ _ _ _ _ st h => wpAny_pyIter_rangeiter st h
section
variable {X : Cx} {tg : Expr}
end
theorem for_range3 {lo c : Int} {n : Nat} {g : TG} {tb : TS} {D : Ends} {σ : St} {H : Hp} (Pv : Nat → St → Hp → Prop) (h0 : Pv 0 σ H)
  (hs : ∀ i σ H, i < n → Pv i σ H → g (.int (lo + i * c)) σ H fun σ2 H2 => tb { D with nx := Pv (i + 1), ct := Pv (i + 1), bk := D.nx } σ2 H2) (hd : ∀ σ H, Pv n σ H → D.nx σ H) :
  ∃ W : Nat → Nat → St → Hp → Prop, (∃ m, W 0 m σ H) ∧ ∀ i m σ H, W i m σ H →
   ((Itr3 lo c n).stop i H ∧ D.nx σ H) ∨ ((Itr3 lo c n).go i H ∧ ∃ N : St → Hp → Prop, (∀ σ' H', N σ' H' → ∃ m', m' < m ∧ W (i + 1) m' σ' H') ∧ ∀ x H', (Itr3 lo c n).yld i H x H' → g x σ H' fun σ2 H2 => tb { D with nx := N, ct := N, bk := D.nx } σ2 H2) := by
 refine ⟨fun i m σ H => m = n - i ∧ i ≤ n ∧ Pv i σ H, ⟨n, by simp, Nat.zero_le _, h0⟩, ?_⟩
 rintro i m σ H ⟨rfl, hi, p⟩
 by_cases hlt : i < n
 ·refine .inr ⟨hlt, Pv (i + 1), fun σ' H' p' => ⟨n - (i + 1), by omega, rfl, hlt, p'⟩, fun x H' y => ?_⟩
  obtain ⟨e, y⟩ := y
  subst e y
  exact hs i σ _ hlt p
 ·have e : i = n := by omega
  subst e
  exact .inl ⟨Nat.le_refl _, hd σ H p⟩
end L2
set_option Elab.async false
set_option linter.all false
set_option maxRecDepth 100000
set_option maxHeartbeats 1000000
namespace L2
open PySem PySem.Spec PyProof.Rows TS
theorem IsPt.uniq {h : Heap} {v : Value} {p q : Int × Int} (x : IsPt h v p) (y : IsPt h v q) : p = q := by
 refine gate' fun gG hgG => ?_
 obtain ⟨a, o, t, u, n, rfl, ho, _, hd⟩ := x
 obtain ⟨b, o', t', u', n', e, ho', _, hd'⟩ := y
 refine hgG.go ?_
 clear hgG
 cases e
 rw [ho] at ho'
 cases ho'
 rw [hd] at hd'
 have h1 := congrArg (fun d => match d with | Data.seq xs _ => xs.toList | _ => []) hd'
 dsimp only at h1
 simp only [List.cons.injEq, and_true] at h1
 obtain ⟨e1, e2⟩ := h1
 injection e1 with e1 _
 injection e2 with e2 _
 exact Prod.ext e1 e2
open Classical in
noncomputable def keyP (h : Heap) (v : Value) : Int × Int := if x : ∃ q, IsPt h v q then Classical.choose x else (0, 0)
theorem keyP_of {h : Heap} {v : Value} {q : Int × Int} (x : IsPt h v q) : keyP h v = q := by
 unfold keyP
 rw [dif_pos ⟨q, x⟩]
 exact IsPt.uniq (Classical.choose_spec (⟨q, x⟩ : ∃ q, IsPt h v q)) x
def addrV : Value → Addr
 | .ref a => a
 | _ => 0
theorem vals_refs : ∀ {as : List Addr} {us : List Value}, Vals (as.map V.ref) us → us = as.map Value.ref
 | [], _, r => by
  rw [List.map_nil] at r
  cases r
  rfl
 | a :: as, _, r => by
  rw [List.map_cons] at r
  cases r with
  | cons h t =>
   cases (show _ = Value.ref a from h)
   rw [vals_refs t]
   rfl
theorem refs_vals : ∀ (as : List Addr), Vals (as.map V.ref) (as.map Value.ref)
 | [] => .nil
 | a :: as => .cons rfl (refs_vals as)
theorem paired_map {α β : Type} {S : α → β → Prop} {f : α → β} : ∀ {as : List α}, (∀ a ∈ as, S a (f a)) → Paired S as (as.map f)
 | [], _ => .nil
 | a :: as, h => .cons (h a List.mem_cons_self) (paired_map fun b hb => h b (List.mem_cons_of_mem _ hb))
theorem paired_eq {α β : Type} {S : α → β → Prop} {f : α → β} {as : List α} {bs : List β} (h : Paired S as bs) (e : ∀ a ∈ as, ∀ b, S a b → b = f a) : bs = as.map f := by
 induction h with
 | nil => rfl
 | cons h t ih => rw [List.map_cons, ← e _ List.mem_cons_self _ h, ← ih fun a ha => e a (List.mem_cons_of_mem _ ha)]
theorem paired_mem {α β : Type} {S : α → β → Prop} {as : List α} {bs : List β} {a : α} (h : Paired S as bs) (m : a ∈ as) : ∃ b ∈ bs, S a b := by
 induction h with
 | nil => cases m
 | cons h t ih =>
  rcases List.mem_cons.mp m with rfl | m
  ·exact ⟨_, List.mem_cons_self, h⟩
  ·obtain ⟨b, hb, hs⟩ := ih m
   exact ⟨b, List.mem_cons_of_mem _ hb, hs⟩
section
variable {X : Cx}
theorem isPt_of {pins : List (Addr × Obj)} {σ : St} {H : Hp} {s : Shared} {a : Addr} {q : Int × Int} (I : Inv X pins σ H s) (h : SqT X.K H a [.int q.1, .int q.2]) : IsPt s.heap (.ref a) q := by
 refine gate' fun gG hgG => ?_
 obtain ⟨its, rv, ⟨o, ho, hc, n, hd⟩, _⟩ := I.tuple h
 refine hgG.go ?_
 clear hgG
 cases rv with
 | cons r1 rr =>
  cases rr with
  | cons r2 rr =>
   cases rr
   obtain ⟨t, rfl⟩ := r1
   obtain ⟨u, rfl⟩ := r2
   exact ⟨a, o, t, u, n, rfl, ho, hc, hd⟩
end
end L2
set_option Elab.async false
set_option linter.all false
set_option maxRecDepth 100000
set_option maxHeartbeats 1000000
namespace PySem
open Sem (wp)
open TS (ltP)
end PySem
namespace L2
open PySem PySem.Spec PyProof PyProof.Rows TS
end L2
set_option Elab.async false
set_option linter.all false
set_option maxRecDepth 100000
set_option maxHeartbeats 4000000
namespace SW
open PySem L2 WM TS
def SqP (H : Hp) (a : Addr) (q : Pt × Int) : Prop := ∃ b, H a = some (.tup [.ref b, .int q.2]) ∧ H b = some (.tup [.int q.1.1, .int q.1.2])
abbrev SqsAt (H : Hp) : List Addr → List (Pt × Int) → Prop := Paired (SqP H)
theorem SqP.mono {H H' : Hp} {a : Addr} {q : Pt × Int} (h : SqP H a q) (s : TSame H H') : SqP H' a q := by
 obtain ⟨b, h1, h2⟩ := h
 exact ⟨b, s _ _ h1, s _ _ h2⟩
theorem SqsAt.mono {H H' : Hp} {as : List Addr} {qs : List (Pt × Int)} (h : SqsAt H as qs) (s : TSame H H') : SqsAt H' as qs := by
 induction h with
 | nil => exact .nil
 | cons h t ih => exact .cons (h.mono s) ih
structure IsSq (l : List Nat) (qs : List (Pt × Int)) : Prop where
 rise : qs.Pairwise fun a b => ltP a.1 b.1 = true
 mem : ∀ q n, (q, n) ∈ qs ↔ n = aroundE q l ∧ n ≠ 0
 few : qs.length ≤ 5000000
def spSquares : Sp := fun vs H Q _ => ∃ (l : List Nat), vs = [.str (T l)] ∧ IsW l ∧ l.length ≤ 1000 ∧ posOf l = (0, 0) ∧ ∀ (d : Addr) (H' : Hp) (as : List Addr) (qs : List (Pt × Int)), H d = none → Same H H' → H' d = some (.lst (as.map V.ref)) → SqsAt H' as qs → IsSq l qs → Q (.ref d) H'
theorem ltP_irrefl (p : Pt) : ltP p p = false := decide_eq_false (by omega)
theorem ltP_asym {p q : Pt} (h : ltP p q = true) : ltP q p = false := by
 have := of_decide_eq_true h
 exact decide_eq_false (by omega)
theorem rise_nodup {qs : List (Pt × Int)} (h : qs.Pairwise fun a b => ltP a.1 b.1 = true) : (qs.map (·.1)).Nodup := by
 rw [List.nodup_iff_pairwise_ne, List.pairwise_map]
 refine h.imp fun {a b} hab e => ?_
 rw [e, ltP_irrefl] at hab
 cases hab
theorem sum_sumL {α : Type} (f : α → Int) : ∀ l : List α, (l.map f).sum = sumL f l
 | [] => rfl
 | a :: r => by
  rw [List.map_cons, List.sum_cons, sum_sumL f r]
  rfl
theorem sum_squares {l : List Nat} {qs : List (Pt × Int)} (h : IsW l) (h0 : posOf l = (0, 0)) (hq : IsSq l qs) : (qs.map (·.2)).sum = areaL l := by
 have e : qs.map (·.2) = (qs.map (·.1)).map fun q => aroundE q l := by
  rw [List.map_map]
  refine List.map_congr_left fun q hm => ?_
  exact ((hq.mem q.1 q.2).mp hm).1
 rw [e, sum_sumL]
 refine sum_area h h0 (rise_nodup hq.rise) fun q hn => ?_
 exact List.mem_map.mpr ⟨(q, aroundE q l), (hq.mem _ _).mpr ⟨rfl, hn⟩, rfl⟩
def sl2 (H : Hp) (x : V) : St := [(partsV H x)[0]?, (partsV H x)[1]?]
theorem sl2_len (H : Hp) (x : V) : (sl2 H x).length = 2 := rfl
theorem sl2_eq {H : Hp} {a : Addr} {u v : V} (h : H a = some (.tup [u, v])) : sl2 H (.ref a) = [some u, some v] := by
 unfold sl2
 rw [partsV_eq h]
 rfl
end SW
set_option Elab.async false
set_option linter.all false
set_option maxRecDepth 100000
set_option maxHeartbeats 4000000
namespace TS
open PySem PyProof.Rows PySem.W
def ltT (p q : Int × Int × Int) : Bool := decide (p.1 < q.1 ∨ (p.1 = q.1 ∧ (p.2.1 < q.2.1 ∨ (p.2.1 = q.2.1 ∧ p.2.2 < q.2.2))))
def IsTr (h : Heap) (v : Value) (p : Int × Int × Int) : Prop := ∃ (a : Addr) (o : Obj) (t u u2 : Tok) (n : Nat), v = .ref a ∧ h.get? a = some o ∧ o.cls = .type "tuple" ∧ o.data = .seq #[.int p.1 t, .int p.2.1 u, .int p.2.2 u2] n
theorem IsTr.kept {h h' : Heap} {v : Value} {p : Int × Int × Int} (x : IsTr h v p) (k : ∀ b o, h.get? b = some o → h'.get? b = some o) : IsTr h' v p := by
 refine gate' fun gG hgG => ?_
 obtain ⟨a, o, t, u, u2, n, e, ho, r⟩ := x
 refine hgG.go ?_
 clear hgG
 exact ⟨a, o, t, u, u2, n, e, k a o ho, r⟩
def ltQ (p q : (Int × Int) × Int) : Bool := decide (ltP p.1 q.1 = true ∨ (p.1 = q.1 ∧ p.2 < q.2))
def IsQ (h : Heap) (v : Value) (q : (Int × Int) × Int) : Prop := ∃ (a b : Addr) (o : Obj) (t : Tok) (n : Nat), v = .ref a ∧ h.get? a = some o ∧ o.cls = .type "tuple" ∧ o.data = .seq #[.ref b, .int q.2 t] n ∧ IsPt h (.ref b) q.1
theorem IsQ.kept {h h' : Heap} {v : Value} {p : (Int × Int) × Int} (x : IsQ h v p) (k : ∀ b o, h.get? b = some o → h'.get? b = some o) : IsQ h' v p := by
 refine gate' fun gG hgG => ?_
 obtain ⟨a, b, o, t, n, e, ho, hc, hd, hp⟩ := x
 refine hgG.go ?_
 clear hgG
 exact ⟨a, b, o, t, n, e, k a o ho, hc, hd, hp.kept k⟩
theorem lexLt_pt (p q : Int × Int) : HT.lexLt [p.1, p.2] [q.1, q.2] = ltP p q := by
 unfold ltP
 simp only [HT.lexLt]
 by_cases e1 : p.1 = q.1
 ·rw [if_pos e1]
  by_cases e2 : p.2 = q.2
  ·rw [if_pos e2, decide_eq_false (by omega (config := {}))]
  ·rw [if_neg e2]
   by_cases e3 : p.2 < q.2
   ·rw [decide_eq_true e3, decide_eq_true (by omega (config := {}))]
   ·rw [decide_eq_false e3, decide_eq_false (by omega (config := {}))]
 ·rw [if_neg e1]
  by_cases e3 : p.1 < q.1
  ·rw [decide_eq_true e3, decide_eq_true (.inl e3)]
  ·rw [decide_eq_false e3, decide_eq_false (by omega (config := {}))]
section
variable {prog : Program} {w : World} {A : Around} {E : Value → Shared → Prop} {s : Shared} {κ : SortKind} {D : Keyed → Prop} {R : Keyed → Keyed → Bool}
theorem isTup_pt {h : Heap} {b : Addr} {p : Int × Int} (x : IsPt h (.ref b) p) : ∃ items, IsTup h b items ∧ IntsAre items.toList [p.1, p.2] := by
 refine gate' fun gG hgG => ?_
 obtain ⟨a, o, t, u, n, e, ho, hc, hd⟩ := x
 refine hgG.go ?_
 clear hgG
 cases e
 exact ⟨_, ⟨o, ho, hc, n, hd⟩, .cons _ _ (.cons _ _ .nil)⟩
theorem isKey_pt {h : Heap} {b : Addr} {p : Int × Int} (x : IsPt h (.ref b) p) : IsTupleKey (intKind prog w) h [p.1, p.2] b := by
 refine gate' fun gG hgG => ?_
 obtain ⟨a, o, t, u, n, e, ho, hc, hd⟩ := x
 refine hgG.go ?_
 clear hgG
 cases e
 refine ⟨o, _, n, ho, hc, hd, ?_⟩
 exact .cons (by simp [PySem.intKind, Value.isInt]) (.cons (by simp [PySem.intKind, Value.isInt]) .nil)
theorem keyLt_trs {x y : Value} {p q : Int × Int × Int} {Q : Bool → Shared → Prop} (hx : IsTr s.heap x p) (hy : IsTr s.heap y q) (h : Q (ltT p q) s) : wpAny (model prog w) A (keyLt' (tuples' true) x y) Q E s := by
 refine gate' fun gG hgG => ?_
 obtain ⟨a, o, t, u, u2, n, rfl, ho, _, hd⟩ := hx
 obtain ⟨b, o', t', u', u2', n', rfl, ho', _, hd'⟩ := hy
 refine hgG.go ?_
 clear hgG
 refine kat_lt ho hd ho' hd' ?_
 show KatLex prog w A true _ Q [(.int p.1 t, .int q.1 t'), (.int p.2.1 u, .int q.2.1 u'), (.int p.2.2 u2, .int q.2.2 u2')] 0 s
 refine kat_cons (wpAny_eqBool_int ?_)
 by_cases e1 : p.1 = q.1
 ·rw [show (p.1 == q.1) = true from by rw [e1]; exact beq_self_eq_true _]
  refine kat_yes (kat_cons (wpAny_eqBool_int ?_))
  by_cases e2 : p.2.1 = q.2.1
  ·rw [show (p.2.1 == q.2.1) = true from by rw [e2]; exact beq_self_eq_true _]
   refine kat_yes (kat_cons (wpAny_eqBool_int ?_))
   by_cases e3 : p.2.2 = q.2.2
   ·rw [show (p.2.2 == q.2.2) = true from by rw [e3]; exact beq_self_eq_true _]
    refine kat_yes (kat_nil ?_)
    have e : ltT p q = false := decide_eq_false (by omega)
    rw [e] at h
    exact h
   ·rw [show (p.2.2 == q.2.2) = false from beq_eq_false_iff_ne.mpr e3]
    refine kat_no (kat_one _ _ (lt_int ?_))
    have e : ltT p q = decide (p.2.2 < q.2.2) := by
     unfold ltT
     congr 1
     exact propext ⟨fun z => by omega, fun z => by omega⟩
    rw [e] at h
    exact h
  ·rw [show (p.2.1 == q.2.1) = false from beq_eq_false_iff_ne.mpr e2]
   refine kat_no (kat_one _ _ (lt_int ?_))
   have e : ltT p q = decide (p.2.1 < q.2.1) := by
    unfold ltT
    congr 1
    exact propext ⟨fun z => by omega, fun z => by omega⟩
   rw [e] at h
   exact h
 ·rw [show (p.1 == q.1) = false from beq_eq_false_iff_ne.mpr e1]
  refine kat_no (oneLt_int ?_)
  have e : ltT p q = decide (p.1 < q.1) := by
   unfold ltT
   congr 1
   exact propext ⟨fun z => by omega, fun z => by omega⟩
  rw [e] at h
  exact h
theorem keyLt_qs {x y : Value} {p q : (Int × Int) × Int} {Q : Bool → Shared → Prop} (hu : A.units < cLine) (hx : IsQ s.heap x p) (hy : IsQ s.heap y q) (h : Q (ltQ p q) s) : wpAny (model prog w) A (keyLt' (tuples' false) x y) Q E s := by
 refine gate' fun gG hgG => ?_
 obtain ⟨a, b, o, t, n, rfl, ho, _, hd, hp⟩ := hx
 obtain ⟨a', b', o', t', n', rfl, ho', _, hd', hp'⟩ := hy
 refine hgG.go ?_
 clear hgG
 refine kat_lt ho hd ho' hd' ?_
 show KatLex prog w A false _ Q [(.ref b, .ref b'), (.int p.2 t, .int q.2 t')] 0 s
 refine kat_cons (wpAny_eqBool_tuple (knd := intKind prog w) hu (isKey_pt hp) (isKey_pt hp') ?_)
 by_cases e1 : p.1 = q.1
 ·rw [show decide ([p.1.1, p.1.2] = [q.1.1, q.1.2]) = true from decide_eq_true (by rw [e1])]
  refine kat_yes (kat_cons (wpAny_eqBool_int ?_))
  have en : ltP p.1 q.1 = false := by
   rw [e1]
   exact decide_eq_false (by omega)
  by_cases e2 : p.2 = q.2
  ·rw [show (p.2 == q.2) = true from by rw [e2]; exact beq_self_eq_true _]
   refine kat_yes (kat_nil ?_)
   have e : ltQ p q = false := by
    unfold ltQ
    rw [en]
    exact decide_eq_false (by rintro (z | z); exact absurd z (by decide); omega)
   rw [e] at h
   exact h
  ·rw [show (p.2 == q.2) = false from beq_eq_false_iff_ne.mpr e2]
   refine kat_no (kat_one _ _ (lt_int ?_))
   have e : ltQ p q = decide (p.2 < q.2) := by
    unfold ltQ
    rw [en]
    congr 1
    exact propext ⟨fun z => by rcases z with z | z; exact absurd z (by decide); exact z.2, fun z => .inr ⟨e1, z⟩⟩
   rw [e] at h
   exact h
 ·rw [show decide ([p.1.1, p.1.2] = [q.1.1, q.1.2]) = false from decide_eq_false (fun z => e1 (by simp only [List.cons.injEq, and_true] at z; exact Prod.ext z.1 z.2))]
  obtain ⟨i1, t1, n1⟩ := isTup_pt hp
  obtain ⟨i2, t2, n2⟩ := isTup_pt hp'
  refine kat_no (kat_one _ _ (HT.lt_tupInts t1 t2 n1 n2 hu ?_))
  rw [lexLt_pt]
  have e : ltQ p q = ltP p.1 q.1 := by
   unfold ltQ
   by_cases z : ltP p.1 q.1 = true
   ·rw [z]; exact decide_eq_true (.inl rfl)
   ·rw [Bool.not_eq_true] at z
    rw [z]
    exact decide_eq_false (by rintro (y | y); exact absurd y (by decide); exact e1 y.1)
  rw [e] at h
  exact h
theorem lex_asym {a b c d e f : Int} (h : a < d ∨ (a = d ∧ (b < e ∨ (b = e ∧ c < f)))) : ¬ (d < a ∨ (d = a ∧ (e < b ∨ (e = b ∧ f < c)))) := by omega
theorem lex_neg {a b c d e f g i j : Int} (h1 : ¬ (a < d ∨ (a = d ∧ (b < e ∨ (b = e ∧ c < f))))) (h2 : ¬ (d < g ∨ (d = g ∧ (e < i ∨ (e = i ∧ f < j))))) : ¬ (a < g ∨ (a = g ∧ (b < i ∨ (b = i ∧ c < j)))) := by omega
theorem cmp_trs {vs : List Value} {key : Value → Int × Int × Int} (h : ∀ v ∈ vs, IsTr s.heap v (key v)) : Cmp prog w A s (tuples' true) (fun x => x.1 ∈ vs) (fun x y => ltT (key x.1) (key y.1)) where
 ask := fun x y hx hy E st Q hk hq => by
  rw [lt'_eq]
  refine wpS_bind (wpS_get ?_)
  rw [hk]
  refine wpS_bind (wpS_lift (wpAny_attempt (keyLt_trs (h _ hx) (h _ hy) ⟨rfl, ?_⟩)))
  exact wpS_pure hq
 asym := fun x y _ _ e => by
  unfold ltT at e ⊢
  exact decide_eq_false (lex_asym (of_decide_eq_true e))
 neg := fun x y z _ _ _ e1 e2 => by
  unfold ltT at e1 e2 ⊢
  exact decide_eq_false (lex_neg (of_decide_eq_false e1) (of_decide_eq_false e2))
theorem ltQ_iff (p q : (Int × Int) × Int) : ltQ p q = true ↔ (p.1.1 < q.1.1 ∨ (p.1.1 = q.1.1 ∧ (p.1.2 < q.1.2 ∨ (p.1.2 = q.1.2 ∧ p.2 < q.2)))) := by
 unfold ltQ ltP
 rw [decide_eq_true_iff, decide_eq_true_iff, Prod.ext_iff]
 omega
theorem cmp_qs {vs : List Value} {key : Value → (Int × Int) × Int} (hu : A.units < cLine) (h : ∀ v ∈ vs, IsQ s.heap v (key v)) : Cmp prog w A s (tuples' false) (fun x => x.1 ∈ vs) (fun x y => ltQ (key x.1) (key y.1)) where
 ask := fun x y hx hy E st Q hk hq => by
  rw [lt'_eq]
  refine wpS_bind (wpS_get ?_)
  rw [hk]
  refine wpS_bind (wpS_lift (wpAny_attempt (keyLt_qs hu (h _ hx) (h _ hy) ⟨rfl, ?_⟩)))
  exact wpS_pure hq
 asym := fun x y _ _ e => by
  rw [ltQ_iff] at e
  rw [← Bool.not_eq_true, ltQ_iff]
  exact lex_asym e
 neg := fun x y z _ _ _ e1 e2 => by
  rw [← Bool.not_eq_true, ltQ_iff] at e1 e2 ⊢
  exact lex_neg e1 e2
theorem tups_trs {h : Heap} {key : Value → Int × Int × Int} : ∀ {vs : List Value}, (∀ v ∈ vs, IsTr h v (key v)) → ∃ fs, KatTups h vs fs ∧ fs.length = vs.length ∧ ∀ v ∈ fs, ∃ i t, v = Value.int i t
 | [], _ => ⟨[], trivial, rfl, fun _ hv => nomatch hv⟩
 | v :: vs, hh => by
  refine gate' fun gG hgG => ?_
  obtain ⟨fs, h1, h2, h3⟩ := tups_trs (vs := vs) fun x hx => hh x (List.mem_cons_of_mem _ hx)
  obtain ⟨a, o, t, u, u2, n, rfl, ho, hc, hd⟩ := hh v List.mem_cons_self
  refine hgG.go ?_
  clear hgG
  refine ⟨.int (key (.ref a)).1 t :: fs, KatTups.cons ho hc hd rfl h1, by rw [List.length_cons, List.length_cons, h2], fun x hx => ?_⟩
  rcases List.mem_cons.mp hx with rfl | hx
  ·exact ⟨_, _, rfl⟩
  ·exact h3 x hx
theorem tups_qs {h : Heap} {key : Value → (Int × Int) × Int} : ∀ {vs : List Value}, (∀ v ∈ vs, IsQ h v (key v)) → ∃ fs, KatTups h vs fs ∧ fs.length = vs.length ∧ ∀ v ∈ fs, ∃ b o, v = Value.ref b ∧ h.get? b = some o ∧ o.cls = .type "tuple"
 | [], _ => ⟨[], trivial, rfl, fun _ hv => nomatch hv⟩
 | v :: vs, hh => by
  refine gate' fun gG hgG => ?_
  obtain ⟨fs, h1, h2, h3⟩ := tups_qs (vs := vs) fun x hx => hh x (List.mem_cons_of_mem _ hx)
  obtain ⟨a, b, o, t, n, rfl, ho, hc, hd, hp⟩ := hh v List.mem_cons_self
  refine hgG.go ?_
  clear hgG
  refine ⟨.ref b :: fs, KatTups.cons ho hc hd rfl h1, by rw [List.length_cons, List.length_cons, h2], fun x hx => ?_⟩
  rcases List.mem_cons.mp hx with rfl | hx
  ·obtain ⟨b', o', _, _, _, e, ho', hc', _⟩ := hp
   cases e
   exact ⟨_, _, rfl, ho', hc'⟩
  ·exact h3 x hx
theorem kind_trs {vs : List Value} {key : Value → Int × Int × Int} {Q : SortKind → Shared → Prop} (h : ∀ v ∈ vs, IsTr s.heap v (key v)) (h2 : 2 ≤ vs.length) (hq : Q (tuples' true) s) : wpAny (model prog w) A (keyKind' vs.toArray) Q E s := by
 obtain ⟨fs, h1, hl, h3⟩ := tups_trs h
 refine kat_kind (T := .type "int") h1 (by omega) (fun v hv => ?_) rfl ?_
 ·obtain ⟨i, t, rfl⟩ := h3 v hv
  exact Looks.of_pure rfl
 ·have e : ((Value.type "int") != Value.type "tuple") = true := by decide
  rw [e]
  exact hq
theorem kind_qs {vs : List Value} {key : Value → (Int × Int) × Int} {Q : SortKind → Shared → Prop} (h : ∀ v ∈ vs, IsQ s.heap v (key v)) (h2 : 2 ≤ vs.length) (hq : Q (tuples' false) s) : wpAny (model prog w) A (keyKind' vs.toArray) Q E s := by
 obtain ⟨fs, h1, hl, h3⟩ := tups_qs h
 refine kat_kind (T := .type "tuple") h1 (by omega) (fun v hv => ?_) rfl ?_
 ·obtain ⟨b, o, rfl, ho, hc⟩ := h3 v hv
  intro A Q E s k hq
  exact wpAny_typeOf ⟨o, k _ _ ho, hc⟩ hq
 ·have e : ((Value.type "tuple") != Value.type "tuple") = false := by decide
  rw [e]
  exact hq
theorem sorted_anyU {l : Addr} {vs : List Value} {Q : Value → Shared → Prop} (hl : s.heap.IsList l vs.toArray) (hz : vs.length ≤ sizeLine) (hD : ∀ v ∈ vs, D (v, v))
  (C : ∀ (A' : Around) h', A'.units ≤ A.units + 4 → (∀ b o, s.heap.get? b = some o → h'.get? b = some o) → Cmp prog w A' { s with heap := h' } κ D R)
  (hkk : ∀ (A : Around) (E : Value → Shared → Prop) h', (∀ b o, s.heap.get? b = some o → h'.get? b = some o) → 2 ≤ vs.length → ∀ (Q : SortKind → Shared → Prop), Q κ { s with heap := h' } → wpAny (model prog w) A (keyKind' vs.toArray) Q E { s with heap := h' })
  (h : ∀ out : Array Value, out.toList.Perm vs → out.toList.Pairwise (leV R) → Q (.ref (s.heap.objs.size + 1)) { s with heap := sortedAll s.heap vs out }) :
  wpAny (model prog w) A (call (.builtin "sorted") [.ref l]) Q E s := by
 refine Calls.call_function_entry kind_sorted plain_sorted entry_sorted (args_sorted1 _) ?_
 unfold Builtin.«sorted»
 refine wpAny_bind (m := checkCount "sorted" 1 1 _) (wpAny_pure ?_)
 refine wpAny_bind (collect_list hl ?_ hz)
 refine wpAny_bind (wpAny_newList ?_ (by show vs.length ≤ _; exact hz))
 have hsz : ((s.heap.push (seqObj "list" #[] 0)).update s.heap.objs.size (Obj.mapSeq (· ++ vs.toArray))).objs.size = s.heap.objs.size + 1 := by
  rw [Heap.size_update, size_push']
 have hoL : (((s.heap.push (seqObj "list" #[] 0)).update s.heap.objs.size (Obj.mapSeq (· ++ vs.toArray))).push (seqObj "list" vs.toArray 0)).get? (s.heap.objs.size + 1) = some (seqObj "list" vs.toArray 0) := by
  rw [← hsz]; exact Heap.get?_push_size _ rfl
 have kept : ∀ b o, s.heap.get? b = some o → (((s.heap.push (seqObj "list" #[] 0)).update s.heap.objs.size (Obj.mapSeq (· ++ vs.toArray))).push (seqObj "list" vs.toArray 0)).get? b = some o := fun b o e => by
  have hlt : b < s.heap.objs.size := Heap.lt_size e
  refine Heap.get?_push_of_some _ ?_
  rw [Heap.get?_update_ne _ _ _ _ (Nat.ne_of_lt hlt), Heap.get?_push_ne _ _ _ (Nat.ne_of_lt hlt)]
  exact e
 have ne1 : ∀ b o, s.heap.get? b = some o → b ≠ s.heap.objs.size + 1 := fun b o e => Nat.ne_of_lt (Nat.lt_succ_of_lt (Heap.lt_size e))
 show wpAny _ _ _ _ _ { s with heap := ((s.heap.push (seqObj "list" #[] 0)).update s.heap.objs.size (Obj.mapSeq (· ++ vs.toArray))).push (seqObj "list" vs.toArray 0) }
 rw [hsz]
 refine wpAny_bind (wpAny_holding (wpAny_call_entry slot_list_sort ⟨_, hoL, rfl⟩ entry_list_sort (list_sort_any (κ := κ) (D := D) (R := R) hoL hz hD (fun h' k => C _ h' (by show A.units + 1 + 1 ≤ A.units + 4; omega) fun b o e => k b o (ne1 b o e) (kept b o e)) (fun h' k h2 Q' hq => hkk _ _ h' (fun b o e => k b o (ne1 b o e) (kept b o e)) h2 Q' hq) fun out a1 a2 => ⟨_, rfl, ?_⟩) (args_list_sort _)))
 exact wpAny_pure ⟨_, rfl, h out a1 a2⟩
theorem sorted_trs {l : Addr} {vs : List Value} {key : Value → Int × Int × Int} {Q : Value → Shared → Prop} (hl : s.heap.IsList l vs.toArray) (hz : vs.length ≤ sizeLine) (hk : ∀ v ∈ vs, IsTr s.heap v (key v))
  (h : ∀ out : Array Value, out.toList.Perm vs → out.toList.Pairwise (fun x y => ltT (key y) (key x) = false) → Q (.ref (s.heap.objs.size + 1)) { s with heap := sortedAll s.heap vs out }) :
  wpAny (model prog w) A (call (.builtin "sorted") [.ref l]) Q E s :=
 sorted_any (κ := tuples' true) (D := fun x => x.1 ∈ vs) (R := fun x y => ltT (key x.1) (key y.1)) hl hz (fun v hv => hv) (fun A h' k => cmp_trs fun v hv => (hk v hv).kept k) (fun A E h' k h2 Q hq => kind_trs (fun v hv => (hk v hv).kept k) h2 hq) h
theorem sorted_qs {l : Addr} {vs : List Value} {key : Value → (Int × Int) × Int} {Q : Value → Shared → Prop} (hu : A.units + 4 < cLine) (hl : s.heap.IsList l vs.toArray) (hz : vs.length ≤ sizeLine) (hk : ∀ v ∈ vs, IsQ s.heap v (key v))
  (h : ∀ out : Array Value, out.toList.Perm vs → out.toList.Pairwise (fun x y => ltQ (key y) (key x) = false) → Q (.ref (s.heap.objs.size + 1)) { s with heap := sortedAll s.heap vs out }) :
  wpAny (model prog w) A (call (.builtin "sorted") [.ref l]) Q E s :=
 sorted_anyU (κ := tuples' false) (D := fun x => x.1 ∈ vs) (R := fun x y => ltQ (key x.1) (key y.1)) hl hz (fun v hv => hv) (fun A h' hu' k => cmp_qs (by omega) fun v hv => (hk v hv).kept k) (fun A E h' k h2 Q hq => kind_qs (fun v hv => (hk v hv).kept k) h2 hq) h
end
end TS
namespace L2
open PySem PySem.Spec PyProof.Rows TS
theorem IsTr.uniq {h : Heap} {v : Value} {p q : Int × Int × Int} (x : IsTr h v p) (y : IsTr h v q) : p = q := by
 refine gate' fun gG hgG => ?_
 obtain ⟨a, o, t, u, u2, n, rfl, ho, _, hd⟩ := x
 obtain ⟨b, o', t', u', u2', n', e, ho', _, hd'⟩ := y
 refine hgG.go ?_
 clear hgG
 cases e
 rw [ho] at ho'
 cases ho'
 rw [hd] at hd'
 have h1 := congrArg (fun d => match d with | Data.seq xs _ => xs.toList | _ => []) hd'
 dsimp only at h1
 simp only [List.cons.injEq, and_true] at h1
 obtain ⟨e1, e2, e3⟩ := h1
 injection e1 with e1 _
 injection e2 with e2 _
 injection e3 with e3 _
 exact Prod.ext e1 (Prod.ext e2 e3)
theorem IsQ.uniq {h : Heap} {v : Value} {p q : (Int × Int) × Int} (x : IsQ h v p) (y : IsQ h v q) : p = q := by
 refine gate' fun gG hgG => ?_
 obtain ⟨a, c, o, t, n, rfl, ho, _, hd, hp⟩ := x
 obtain ⟨b, c', o', t', n', e, ho', _, hd', hp'⟩ := y
 refine hgG.go ?_
 clear hgG
 cases e
 rw [ho] at ho'
 cases ho'
 rw [hd] at hd'
 have h1 := congrArg (fun d => match d with | Data.seq xs _ => xs.toList | _ => []) hd'
 dsimp only at h1
 simp only [List.cons.injEq, and_true] at h1
 obtain ⟨e1, e2⟩ := h1
 injection e1 with e1
 injection e2 with e2 _
 subst e1
 exact Prod.ext (IsPt.uniq hp hp') e2
open Classical in
noncomputable def keyBy {α : Type} (z : α) (S : Value → α → Prop) (v : Value) : α := if x : ∃ q, S v q then Classical.choose x else z
theorem keyBy_of {α : Type} {z : α} {S : Value → α → Prop} {v : Value} {q : α} (u : ∀ p, S v p → p = q) (x : S v q) : keyBy z S v = q := by
 unfold keyBy
 rw [dif_pos ⟨q, x⟩]
 exact u _ (Classical.choose_spec (⟨q, x⟩ : ∃ q, S v q))
section
variable {X : Cx}
theorem isTr_of {pins : List (Addr × Obj)} {σ : St} {H : Hp} {s : Shared} {a : Addr} {q : Int × Int × Int} (I : Inv X pins σ H s) (h : SqT X.K H a [.int q.1, .int q.2.1, .int q.2.2]) : IsTr s.heap (.ref a) q := by
 refine gate' fun gG hgG => ?_
 obtain ⟨its, rv, ⟨o, ho, hc, n, hd⟩, _⟩ := I.tuple h
 refine hgG.go ?_
 clear hgG
 cases rv with
 | cons r1 rr =>
  cases rr with
  | cons r2 rr =>
   cases rr with
   | cons r3 rr =>
    cases rr
    obtain ⟨t, rfl⟩ := r1
    obtain ⟨u, rfl⟩ := r2
    obtain ⟨u2, rfl⟩ := r3
    exact ⟨a, o, t, u, u2, n, rfl, ho, hc, hd⟩
theorem isQ_of {pins : List (Addr × Obj)} {σ : St} {H : Hp} {s : Shared} {a b : Addr} {q : (Int × Int) × Int} (I : Inv X pins σ H s) (h : SqT X.K H a [.ref b, .int q.2]) (h2 : SqT X.K H b [.int q.1.1, .int q.1.2]) : IsQ s.heap (.ref a) q := by
 refine gate' fun gG hgG => ?_
 obtain ⟨its, rv, ⟨o, ho, hc, n, hd⟩, _⟩ := I.tuple h
 refine hgG.go ?_
 clear hgG
 cases rv with
 | cons r1 rr =>
  cases rr with
  | cons r2 rr =>
   cases rr
   cases (show _ = Value.ref b from r1)
   obtain ⟨u, rfl⟩ := r2
   exact ⟨a, b, o, u, n, rfl, ho, hc, hd, isPt_of I h2⟩
theorem call_sorted_by {α : Type} (z : α) (S : Shared → Value → α → Prop) (Sq : Hp → Addr → α → Prop) (lt : α → α → Bool) (hun : ∀ s v p q, S s v p → S s v q → p = q) (hS : ∀ {pins σ H s a q}, Inv X pins σ H s → Sq H a q → S s (.ref a) q)
  (hso : ∀ {s : Shared} {l : Addr} {vs : List Value} {key : Value → α} {Q : Value → Shared → Prop}, s.heap.IsList l vs.toArray → vs.length ≤ sizeLine → (∀ v ∈ vs, S s v (key v)) →
   (∀ out : Array Value, out.toList.Perm vs → out.toList.Pairwise (fun x y => lt (key y) (key x) = false) → Q (.ref (s.heap.objs.size + 1)) { s with heap := sortedAll s.heap vs out }) → wpAny (model X.prog X.w) X.A (call (.builtin "sorted") [.ref l]) Q X.xe s) :
  CallR X (.builtin "sorted") (fun xs H Q => ∃ (p : Addr) (as : List Addr) (ps : List α), xs = [.ref p] ∧ SqL X.K H p (as.map V.ref) ∧ Paired (Sq H) as ps ∧
   ∀ l as' ps', H l = none → as'.Perm as → Paired (Sq H) as' ps' → ps'.Perm ps → ps'.Pairwise (fun a b => lt b a = false) → Q (.ref l) (upd H l (.lst (as'.map V.ref)))) := by
 intro pins s σ H xs us Q I r h
 refine gate' fun gG hgG => ?_
 obtain ⟨p, as, ps, rfl, hL, hP, q⟩ := h
 obtain ⟨u, rfl, ru⟩ := vals1 r
 refine hgG.go ?_
 clear hgG
 cases (show u = Value.ref p from ru)
 obtain ⟨its, rv, pl, hz⟩ := I.list hL
 have ei := vals_refs rv
 subst ei
 rw [List.length_map] at hz
 let key : Value → α := keyBy z (S s)
 have hkey : ∀ {a q}, Sq H a q → key (.ref a) = q := fun hb => keyBy_of (fun p hp => hun _ _ _ _ hp (hS I hb)) (hS I hb)
 have hpt : ∀ a ∈ as, S s (.ref a) (key (.ref a)) := fun a ha => by
  obtain ⟨b, _, hb⟩ := paired_mem hP ha
  rw [hkey hb]
  exact hS I hb
 have eps : ps = as.map fun a => key (.ref a) := paired_eq hP fun a _ b hb => (hkey hb).symm
 have hsq : ∀ a ∈ as, Sq H a (key (.ref a)) := fun a ha => by
  obtain ⟨b, _, hb⟩ := paired_mem hP ha
  rw [hkey hb]
  exact hb
 refine hso (key := key) pl.isList (by rw [List.length_map]; exact hz) (fun v hv => ?_) fun out hperm hsort => ?_
 ·obtain ⟨a, ha, rfl⟩ := List.mem_map.mp hv
  exact hpt a ha
 have eout : out.toList = (out.toList.map addrV).map Value.ref := by
  rw [List.map_map]
  conv => lhs; rw [← List.map_id' out.toList]
  refine List.map_congr_left fun v hv => ?_
  obtain ⟨a, _, rfl⟩ := List.mem_map.mp (hperm.mem_iff.mp hv)
  rfl
 have hpa : (out.toList.map addrV).Perm as := by
  have := hperm.map addrV
  rw [List.map_map] at this
  exact this.trans (List.Perm.of_eq (List.map_id' as))
 generalize out.toList.map addrV = as' at *
 obtain ⟨e, he⟩ := sortedAll_at s.heap (as.map Value.ref) out
 have hlen : as'.length ≤ sizeLine := by rw [hpa.length_eq]; exact hz
 have hfree : H (s.heap.objs.size + 1) = none := I.hok.fresh (Nat.le_succ _)
 have I1 : Inv X pins σ (upd H (s.heap.objs.size + 1) (.lst (as'.map V.ref))) { s with heap := sortedAll s.heap (as.map Value.ref) out } := by
  refine I.laid (t' := s.toks) (fun b u hb => sortedAll_old hb) (Nat.le_succ _) ?_
  refine ⟨by rw [List.length_map]; exact hlen, as'.map Value.ref, e, refs_vals as', ?_⟩
  rw [← eout]
  exact he
 refine ⟨.ref (s.heap.objs.size + 1), _, I1, rfl, q _ as' (as'.map fun a => key (.ref a)) hfree hpa (paired_map fun a ha => hsq a (hpa.mem_iff.mp ha)) ?_ ?_⟩
 ·rw [eps]
  exact hpa.map _
 ·rw [eout, List.pairwise_map] at hsort
  rw [List.pairwise_map]
  exact hsort
end
end L2
namespace WM
def leT (a b : Tr) : Prop := a.1 < b.1 ∨ (a.1 = b.1 ∧ a.2.1 ≤ b.2.1)
def wayT (t : Tr) : Int := t.2.2
def rngI (lo hi : Int) : List Int := (List.range (hi - lo).toNat).map fun (i : Nat) => lo + (i : Int)
theorem mem_rngI {lo hi x : Int} : x ∈ rngI lo hi ↔ lo ≤ x ∧ x < hi := by
 unfold rngI
 rw [List.mem_map]
 constructor
 ·rintro ⟨i, hi', rfl⟩
  rw [List.mem_range] at hi'
  omega
 ·rintro ⟨h1, h2⟩
  exact ⟨(x - lo).toNat, by rw [List.mem_range]; omega, by omega⟩
theorem nodup_rngI (lo hi : Int) : (rngI lo hi).Nodup := by
 unfold rngI
 rw [List.nodup_iff_pairwise_ne, List.pairwise_map]
 refine List.nodup_range.imp fun {a b} hab e => ?_
 omega
def segT (t : Int) (a b : Tr) : List (Pt × Int) := if t = 0 then [] else (rngI a.2.1 b.2.1).map fun x => ((x, a.1), t)
def scan : Int → List Tr → List (Pt × Int)
 | t, a :: b :: r => segT (t - a.2.2) a b ++ scan (t - a.2.2) (b :: r)
 | _, _ => []
theorem mem_segT {t : Int} {a b : Tr} {q : Pt} {n : Int} : (q, n) ∈ segT t a b ↔ n = t ∧ t ≠ 0 ∧ q.2 = a.1 ∧ a.2.1 ≤ q.1 ∧ q.1 < b.2.1 := by
 unfold segT
 by_cases h : t = 0
 ·rw [if_pos h]
  simp [h]
 ·rw [if_neg h, List.mem_map]
  constructor
  ·rintro ⟨x, hx, e⟩
   cases e
   have := mem_rngI.mp hx
   exact ⟨rfl, h, rfl, this.1, this.2⟩
  ·rintro ⟨rfl, _, h1, h2, h3⟩
   exact ⟨q.1, mem_rngI.mpr ⟨h2, h3⟩, by rw [← h1]⟩
def Rest (S : List Tr) : Prop := ∀ a r, S = a :: r → ∀ y, a.1 < y → sumL (rowT y) S = 0
theorem rest_tail {a b : Tr} {r : List Tr} (h : Rest (a :: b :: r)) (s : leT a b) : Rest (b :: r) := by
 rintro c r' e y hy
 cases e
 have := h a _ rfl y (by rcases s with s | s <;> omega)
 have e : sumL (rowT y) (a :: b :: r) = rowT y a + sumL (rowT y) (b :: r) := rfl
 rw [e] at this
 have e2 : rowT y a = 0 := by
  unfold rowT
  rw [if_neg (by rcases s with s | s <;> omega)]
 omega
theorem sum_head : ∀ {a : Tr} {r : List Tr}, (a :: r).Pairwise leT → Rest (a :: r) → sumL wayT (a :: r) = sumL (rowT a.1) (a :: r)
 | a, [], _, _ => by
  show a.2.2 + 0 = (if a.1 = a.1 then a.2.2 else 0) + 0
  rw [if_pos rfl]
 | a, b :: r, hp, hr => by
  rw [List.pairwise_cons] at hp
  have s := hp.1 b List.mem_cons_self
  have ih := sum_head (a := b) (r := r) hp.2 (rest_tail hr s)
  show a.2.2 + sumL wayT (b :: r) = (if a.1 = a.1 then a.2.2 else 0) + sumL (rowT a.1) (b :: r)
  rw [if_pos rfl, ih]
  by_cases e : b.1 = a.1
  ·rw [e]
  ·have lt : a.1 < b.1 := by rcases s with s | s <;> omega
   have z1 : sumL (rowT b.1) (a :: b :: r) = 0 := hr a _ rfl b.1 lt
   have e1 : sumL (rowT b.1) (a :: b :: r) = rowT b.1 a + sumL (rowT b.1) (b :: r) := rfl
   have e2 : rowT b.1 a = 0 := by
    unfold rowT
    rw [if_neg (by omega)]
   have z2 : sumL (rowT a.1) (b :: r) = 0 := by
    refine sumL_zero fun c hc => ?_
    unfold rowT
    rw [if_neg]
    have hbc : b.1 ≤ c.1 := by
     rcases List.mem_cons.mp hc with rfl | hc
     ·exact Int.le_refl _
     ·have := (List.pairwise_cons.mp hp.2).1 c hc
      rcases this with s | s <;> omega
    omega
   omega
theorem sum_next {a b : Tr} {r : List Tr} (hp : (a :: b :: r).Pairwise leT) (hr : Rest (a :: b :: r)) (h : sumL wayT (b :: r) ≠ 0) : b.1 = a.1 := by
 rw [List.pairwise_cons] at hp
 have s := hp.1 b List.mem_cons_self
 by_cases e : b.1 = a.1
 ·exact e
 ·exfalso
  have lt : a.1 < b.1 := by rcases s with s | s <;> omega
  have ih := sum_head (a := b) (r := r) hp.2 (rest_tail hr s)
  have z1 : sumL (rowT b.1) (a :: b :: r) = 0 := hr a _ rfl b.1 lt
  have e1 : sumL (rowT b.1) (a :: b :: r) = rowT b.1 a + sumL (rowT b.1) (b :: r) := rfl
  have e2 : rowT b.1 a = 0 := by
   unfold rowT
   rw [if_neg (by omega)]
  omega
theorem east_row {q : Pt} {S : List Tr} (h : ∀ c ∈ S, c.1 = q.2 → q.1 < c.2.1) : sumL (eastT q) S = sumL (rowT q.2) S := by
 refine sumL_congr fun c hc => ?_
 unfold eastT rowT
 by_cases e : c.1 = q.2
 ·rw [if_pos e, if_pos ⟨e, h c hc e⟩]
 ·rw [if_neg e, if_neg fun z => e z.1]
theorem east_some {q : Pt} {S : List Tr} (h : sumL (eastT q) S ≠ 0) : ∃ c ∈ S, c.1 = q.2 ∧ q.1 < c.2.1 := by
 by_cases z : ∃ c ∈ S, c.1 = q.2 ∧ q.1 < c.2.1
 ·exact z
 ·exfalso
  refine h (sumL_zero fun c hc => ?_)
  unfold eastT
  rw [if_neg fun y => z ⟨c, hc, y⟩]
theorem scan_mem : ∀ {S : List Tr}, S.Pairwise leT → Rest S → ∀ (q : Pt) (n : Int), (q, n) ∈ scan (sumL wayT S) S ↔ n = sumL (eastT q) S ∧ n ≠ 0 ∧ ∃ a ∈ S, a.1 = q.2 ∧ a.2.1 ≤ q.1
 | [], _, _, q, n => by
  constructor
  ·intro h; cases h
  ·rintro ⟨rfl, h, _⟩
   exact absurd rfl h
 | [a], _, _, q, n => by
  constructor
  ·intro h; cases h
  ·rintro ⟨rfl, h, c, hc, h1, h2⟩
   exfalso
   rw [List.mem_singleton.mp hc] at h1 h2
   obtain ⟨d, hd, h3, h4⟩ := east_some h
   rw [List.mem_singleton.mp hd] at h3 h4
   omega
 | a :: b :: r, hp, hr, q, n => by
  have hp' := List.pairwise_cons.mp hp
  have s := hp'.1 b List.mem_cons_self
  have hr' := rest_tail hr s
  have ih := scan_mem (S := b :: r) hp'.2 hr' q n
  have et : sumL wayT (a :: b :: r) - a.2.2 = sumL wayT (b :: r) := by
   show a.2.2 + sumL wayT (b :: r) - a.2.2 = _
   omega
  have es : scan (sumL wayT (a :: b :: r)) (a :: b :: r) = segT (sumL wayT (b :: r)) a b ++ scan (sumL wayT (b :: r)) (b :: r) := by
   show segT (sumL wayT (a :: b :: r) - a.2.2) a b ++ scan (sumL wayT (a :: b :: r) - a.2.2) (b :: r) = _
   rw [et]
  have ea : ∀ c ∈ (a :: b :: r), c.1 = q.2 → c.2.1 ≤ q.1 → sumL (eastT q) (a :: b :: r) = sumL (eastT q) (b :: r) := by
   intro c hc h1 h2
   have z : eastT q a = 0 := by
    unfold eastT
    rw [if_neg]
    rintro ⟨y1, y2⟩
    rcases List.mem_cons.mp hc with rfl | hc
    ·omega
    ·rcases hp'.1 c hc with s | s <;> omega
   show eastT q a + _ = _
   omega
  have hge : ∀ c ∈ b :: r, c.1 = b.1 → b.2.1 ≤ c.2.1 := fun c hc e => by
   rcases List.mem_cons.mp hc with rfl | hc
   ·exact Int.le_refl _
   ·rcases (List.pairwise_cons.mp hp'.2).1 c hc with s | s <;> omega
  rw [es, List.mem_append, mem_segT]
  constructor
  ·rintro (⟨rfl, h0, h1, h2, h3⟩ | h)
   ·have eb := sum_next hp hr h0
    refine ⟨?_, h0, a, List.mem_cons_self, h1.symm, h2⟩
    rw [ea a List.mem_cons_self h1.symm h2, east_row fun c hc e => ?_, sum_head hp'.2 hr', eb, h1]
    have := hge c hc (by omega)
    omega
   ·obtain ⟨h1, h2, c, hc, h3, h4⟩ := ih.mp h
    exact ⟨by rw [ea c (List.mem_cons_of_mem _ hc) h3 h4]; exact h1, h2, c, List.mem_cons_of_mem _ hc, h3, h4⟩
  ·rintro ⟨h1, h2, c, hc, h3, h4⟩
   rw [ea c hc h3 h4] at h1
   by_cases z : ∃ c ∈ b :: r, c.1 = q.2 ∧ c.2.1 ≤ q.1
   ·exact .inr (ih.mpr ⟨h1, h2, z⟩)
   ·left
    have hca : c = a := by
     rcases List.mem_cons.mp hc with e | e
     ·exact e
     ·exact absurd ⟨c, e, h3, h4⟩ z
    subst hca
    obtain ⟨d, hd, h5, h6⟩ := east_some (by rw [← h1]; exact h2)
    have eb : b.1 = c.1 := by
     have hbd : b.1 ≤ d.1 := by
      rcases List.mem_cons.mp hd with rfl | hd
      ·exact Int.le_refl _
      ·rcases (List.pairwise_cons.mp hp'.2).1 d hd with s | s <;> omega
     rcases s with s | s <;> omega
    have hn : n = sumL wayT (b :: r) := by
     rw [h1, east_row fun e he y => ?_, sum_head hp'.2 hr', eb, h3]
     by_cases y2 : q.1 < e.2.1
     ·exact y2
     ·exact absurd ⟨e, he, y, by omega⟩ z
    refine ⟨hn, by rw [← hn]; exact h2, h3.symm, h4, ?_⟩
    by_cases y2 : q.1 < b.2.1
    ·exact y2
    ·exact absurd ⟨b, List.mem_cons_self, by omega, by omega⟩ z
theorem scan_from : ∀ {S : List Tr} {t : Int} {a : Tr} {r : List Tr}, S = a :: r → S.Pairwise leT → ∀ q ∈ scan t S, a.1 < q.1.2 ∨ (a.1 = q.1.2 ∧ a.2.1 ≤ q.1.1)
 | [a], t, _, _, e, _, q, h => by cases h
 | a :: b :: r, t, _, _, e, hp, (q, n), h => by
  cases e
  have hp' := List.pairwise_cons.mp hp
  have s := hp'.1 b List.mem_cons_self
  have h' : (q, n) ∈ segT (t - a.2.2) a b ++ scan (t - a.2.2) (b :: r) := h
  rcases List.mem_append.mp h' with h | h
  ·obtain ⟨_, _, h1, h2, _⟩ := mem_segT.mp h
   exact .inr ⟨h1.symm, h2⟩
  ·have := scan_from (S := b :: r) rfl hp'.2 (q, n) h
   rcases this with z | z <;> rcases s with s | s
   ·exact .inl (by omega)
   ·exact .inl (by omega)
   ·exact .inl (by omega)
   ·exact .inr ⟨by omega, by omega⟩
theorem scan_nodup : ∀ {S : List Tr} {t : Int}, S.Pairwise leT → ((scan t S).map (·.1)).Nodup
 | [], _, _ => List.nodup_nil
 | [_], _, _ => List.nodup_nil
 | a :: b :: r, t, hp => by
  have hp' := List.pairwise_cons.mp hp
  have s := hp'.1 b List.mem_cons_self
  show ((segT (t - a.2.2) a b ++ scan (t - a.2.2) (b :: r)).map (·.1)).Nodup
  rw [List.map_append, List.nodup_append]
  refine ⟨?_, scan_nodup hp'.2, ?_⟩
  ·unfold segT
   split
   ·exact List.nodup_nil
   ·rw [List.map_map, List.nodup_iff_pairwise_ne, List.pairwise_map]
    refine (nodup_rngI a.2.1 b.2.1).imp fun {x y} hxy e => hxy ?_
    have := congrArg Prod.fst e
    exact this
  ·intro p hp1 p' hp2 e
   subst e
   obtain ⟨⟨q1, n1⟩, m1, e1⟩ := List.mem_map.mp hp1
   obtain ⟨⟨q2, n2⟩, m2, e2⟩ := List.mem_map.mp hp2
   dsimp only at e1 e2
   subst e1
   subst e2
   obtain ⟨_, _, h1, h2, h3⟩ := mem_segT.mp m1
   have := scan_from (S := b :: r) rfl hp'.2 _ m2
   dsimp only at this
   rcases this with z | z <;> rcases s with s | s <;> omega
theorem scan_all {l : List Nat} {S : List Tr} (h : IsW l) (h0 : posOf l = (0, 0)) (hp : S.Perm (upr (0, 0) l)) (hs : S.Pairwise leT) (q : Pt) (n : Int) : (q, n) ∈ scan 0 S ↔ n = aroundE q l ∧ n ≠ 0 := by
 have hrow : ∀ y, sumL (rowT y) S = 0 := fun y => by
  rw [sumL_perm _ hp]
  exact upr_row h h0 y
 have hR : Rest S := fun a r e y _ => hrow y
 have hE : sumL (eastT q) S = aroundE q l := by
  rw [sumL_perm _ hp]
  exact upr_around q l
 have hW : sumL wayT S = 0 := by
  cases S with
  | nil => rfl
  | cons a r => rw [sum_head hs hR, hrow]
 have key := scan_mem hs hR q n
 rw [hW, hE] at key
 rw [key]
 constructor
 ·rintro ⟨h1, h2, _⟩
  exact ⟨h1, h2⟩
 ·rintro ⟨h1, h2⟩
  refine ⟨h1, h2, ?_⟩
  by_cases z : ∃ a ∈ S, a.1 = q.2 ∧ a.2.1 ≤ q.1
  ·exact z
  ·exfalso
   have : sumL (eastT q) S = sumL (rowT q.2) S := east_row fun c hc e => by
    by_cases y : q.1 < c.2.1
    ·exact y
    ·exact absurd ⟨c, hc, e, by omega⟩ z
   rw [hE, hrow, ← h1] at this
   exact h2 this
theorem box_length (n : Nat) : (box n).length = 2 * n * (2 * n) := by
 unfold box
 rw [List.length_flatMap]
 have e : (fun x => ((rowI n).map fun y => ((x, y) : Pt)).length) = fun _ : Int => 2 * n := funext fun x => by
  rw [List.length_map]
  unfold rowI
  rw [List.length_map, List.length_range]
 rw [e]
 have : ∀ l : List Int, (l.map fun _ => 2 * n).sum = l.length * (2 * n) := fun l => by
  induction l with
  | nil => simp
  | cons x r ih =>
   rw [List.map_cons, List.sum_cons, ih, List.length_cons]
   rw [Nat.add_mul, Nat.one_mul, Nat.add_comm]
 rw [this]
 unfold rowI
 rw [List.length_map, List.length_range]
theorem nodup_len {α : Type} [DecidableEq α] : ∀ {l m : List α}, l.Nodup → (∀ a ∈ l, a ∈ m) → l.length ≤ m.length
 | [], _, _, _ => Nat.zero_le _
 | a :: l, m, h, s => by
  rw [List.nodup_cons] at h
  have := nodup_len (l := l) (m := m.erase a) h.2 fun b hb => by
   have ne : b ≠ a := fun e => h.1 (e ▸ hb)
   exact (List.mem_erase_of_ne ne).mpr (s b (List.mem_cons_of_mem _ hb))
  have ha := s a List.mem_cons_self
  rw [List.length_erase_of_mem ha] at this
  have hpos : 0 < m.length := List.length_pos_of_mem ha
  rw [List.length_cons]
  omega
theorem scan_few {l : List Nat} {S : List Tr} (h : IsW l) (h0 : posOf l = (0, 0)) (hl : l.length ≤ 1000) (hp : S.Perm (upr (0, 0) l)) (hs : S.Pairwise leT) : (scan 0 S).length ≤ 4000000 := by
 have h1 := nodup_len (scan_nodup (t := 0) hs) (m := box l.length) fun q hq => by
  obtain ⟨⟨q', n⟩, hm, e⟩ := List.mem_map.mp hq
  dsimp only at e
  subst e
  have := (scan_all h h0 hp hs q' n).mp hm
  by_cases z : q' ∈ box l.length
  ·exact z
  ·exact absurd (this.1.trans (around_far h h0 z)) this.2
 rw [List.length_map, box_length] at h1
 have : 2 * l.length * (2 * l.length) ≤ 2000 * 2000 := Nat.mul_le_mul (by omega) (by omega)
 omega
end WM
namespace WM
theorem upr_bound : ∀ {l : List Nat} {p : Pt} {t : Tr}, t ∈ upr p l → (t.2.1 - p.1).natAbs ≤ l.length
 | [], _, _, h => by cases h
 | c :: l, p, t, h => by
  unfold upr at h
  rw [List.length_cons]
  rcases List.mem_append.mp h with h | h
  ·split at h
   ·rw [List.mem_singleton.mp h]; simp
   ·split at h
    ·rw [List.mem_singleton.mp h]; simp
    ·cases h
  ·have := upr_bound h
   have hs : ((stepP p c).1 - p.1).natAbs ≤ 1 := by
    rw [stepP_vec]
    unfold vec
    split
    ·simp
    ·split
     ·simp; omega (config := {})
     ·split
      ·simp
      ·simp; omega (config := {})
   omega (config := {})
end WM
set_option Elab.async false
set_option linter.all false
set_option maxRecDepth 100000
set_option maxHeartbeats 4000000
namespace SW
open PySem L2 WM TS
theorem hu4_of {A : Around} {k : Nat} (hr : Room k A) : A.units + 4 < cLine := Nat.lt_of_le_of_lt (Nat.add_le_add_left (by decide : 4 ≤ 64) _) hr.units
theorem call_sortedTr {X : Cx} : CallR X (.builtin "sorted") (fun xs H Q => ∃ (p : Addr) (as : List Addr) (ps : List Tr), xs = [.ref p] ∧ SqL X.K H p (as.map V.ref) ∧ TrsAt H as ps ∧
   ∀ l as' ps', H l = none → as'.Perm as → TrsAt H as' ps' → ps'.Perm ps → ps'.Pairwise (fun a b => ltT b a = false) → Q (.ref l) (upd H l (.lst (as'.map V.ref)))) :=
 call_sorted_by (0, 0, 0) (fun s v q => IsTr s.heap v q) TrP ltT (fun s v p q h1 h2 => IsTr.uniq h1 h2) (fun I h => isTr_of I (SqT.of h)) (fun hl hz hk h => sorted_trs hl hz hk h)
theorem call_sortedSq {X : Cx} (hu : X.A.units + 4 < cLine) : CallR X (.builtin "sorted") (fun xs H Q => ∃ (p : Addr) (as : List Addr) (ps : List (Pt × Int)), xs = [.ref p] ∧ SqL X.K H p (as.map V.ref) ∧ SqsAt H as ps ∧
   ∀ l as' ps', H l = none → as'.Perm as → SqsAt H as' ps' → ps'.Perm ps → ps'.Pairwise (fun a b => ltQ b a = false) → Q (.ref l) (upd H l (.lst (as'.map V.ref)))) :=
 call_sorted_by ((0, 0), 0) (fun s v q => IsQ s.heap v q) SqP ltQ (fun s v p q h1 h2 => IsQ.uniq h1 h2) (fun I ⟨b, h1, h2⟩ => isQ_of I (SqT.of h1) (SqT.of h2)) (fun hl hz hk h => sorted_qs hu hl hz hk h)
theorem call_sortedPt {X : Cx} : CallR X (.builtin "sorted") (fun xs H Q => ∃ (p : Addr) (as : List Addr) (ps : List Pt), xs = [.ref p] ∧ SqL X.K H p (as.map V.ref) ∧ Tups H as ps ∧
   ∀ l as' ps', H l = none → as'.Perm as → Tups H as' ps' → ps'.Perm ps → ps'.Pairwise (fun a b => ltP b a = false) → Q (.ref l) (upd H l (.lst (as'.map V.ref)))) :=
 call_sorted_by (0, 0) (fun s v q => IsPt s.heap v q) (fun H a (q : Pt) => H a = some (.tup [.int q.1, .int q.2])) ltP (fun s v p q h1 h2 => IsPt.uniq h1 h2) (fun I h => isPt_of I (SqT.of h)) (fun hl hz hk h => sorted_pts hl hz hk h)
theorem le_of_ltT {a b : Tr} (h : ltT b a = false) : leT a b := by
 unfold ltT at h
 have := of_decide_eq_false h
 unfold leT
 omega (config := {})
theorem sorted_leT {S : List Tr} (h : S.Pairwise fun a b => ltT b a = false) : S.Pairwise leT := h.imp le_of_ltT
theorem rise_of {qs : List (Pt × Int)} (h : qs.Pairwise fun a b => ltQ b a = false) (nd : (qs.map (·.1)).Nodup) : qs.Pairwise fun a b => ltP a.1 b.1 = true := by
 rw [List.nodup_iff_pairwise_ne, List.pairwise_map] at nd
 refine (h.and nd).imp fun {a b} ⟨h1, h2⟩ => ?_
 rw [← Bool.not_eq_true, ltQ_iff] at h1
 unfold ltP
 refine decide_eq_true ?_
 have : ¬ (a.1.1 = b.1.1 ∧ a.1.2 = b.1.2) := fun z => h2 (Prod.ext z.1 z.2)
 omega (config := {})
theorem isSq_of {l : List Nat} {S : List Tr} {qs : List (Pt × Int)} (h : IsW l) (h0 : posOf l = (0, 0)) (hl : l.length ≤ 1000) (hp : S.Perm (upr (0, 0) l)) (hs : S.Pairwise leT) (hq : qs.Perm (scan 0 S)) (ho : qs.Pairwise fun a b => ltQ b a = false) : IsSq l qs := by
 refine ⟨rise_of ho ?_, fun q n => ?_, ?_⟩
 ·exact (hq.map (·.1)).nodup_iff.mpr (scan_nodup hs)
 ·rw [hq.mem_iff]
  exact scan_all h h0 hp hs q n
 ·rw [hq.length_eq]
  have := scan_few h h0 hl hp hs
  omega
theorem comp_filtL {K : PySem.W.Frag} {a : Addr} {xs : List V} {k : Nat} {g : BK TG} {tt : BK TT} {te : BK TE} {σ : St} {H1 : Hp} {Q : VK} (sl : V → St) (hsl : ∀ x, (sl x).length = k) (p : Nat → Bool) (f : Nat → V) (hsz : xs.length ≤ sizeLine) (hl : SqL K H1 a xs)
  (hg : ∀ C fp s₀ H₀ (i : Nat) x, xs[i]? = some x → ∀ H3 (R : St → Hp → Prop), Same H1 H3 → R (σ ++ sl x) H3 → g C fp s₀ H₀ x (σ ++ List.replicate k none) H3 R)
  (ht : ∀ C fp s₀ H₀ (i : Nat) x, xs[i]? = some x → ∀ H3 (R : Bool → Hp → Prop), Same H1 H3 → (∀ H4, Same H3 H4 → R (p i) H4) → tt C fp s₀ H₀ (σ ++ sl x) H3 R)
  (hel : ∀ C fp s₀ H₀ (i : Nat) x, xs[i]? = some x → p i = true → ∀ H3 (R : VK), Same H1 H3 → (∀ H4, Same H3 H4 → R (f i) H4) → te C fp s₀ H₀ (σ ++ sl x) H3 R)
  (hq : ∀ D H', H1 D = none → Same H1 H' → H' D = some (.lst (((List.range xs.length).filter p).map f)) → Q (.ref D) H') :
  CompIn k (Itl K a) g tt te σ H1 Q := by
 unfold CompIn
 intro D hD
 refine ⟨fun i m ys H2 => m = xs.length - i ∧ i ≤ xs.length ∧ ys = ((List.range i).filter p).map f ∧ Same H1 H2 ∧ H2 D = some (.lst ys), ⟨xs.length, by simp, Nat.zero_le _, by simp, same_upd hD (Same.refl _), upd_same⟩, ?_⟩
 rintro i m ys H2 ⟨rfl, hi, rfl, s2, hDl⟩
 refine ⟨hDl, ?_⟩
 by_cases hlt : i < xs.length
 ·refine .inr ⟨⟨xs, xs[i], s2.seq hl, by simp [hlt]⟩, fun x H3 y C fp s₀ H₀ => ?_⟩
  obtain ⟨rfl, hy⟩ := y
  have hx := hy xs (s2.seq hl)
  refine hg C fp s₀ H₀ i x hx H3 _ s2 ⟨⟨sl x, rfl, hsl x⟩, ?_⟩
  refine ht C fp s₀ H₀ i x hx _ _ s2 fun H4 s4 => ?_
  cases hp : p i with
  | true =>
   rw [if_pos rfl]
   refine hel C fp s₀ H₀ i x hx hp H4 _ (s2.trans s4) fun H5 s5 => ⟨s5 D _ (s4 D _ hDl), ?_, xs.length - (i + 1), by omega, rfl, hlt, ?_, same_upd hD ((s2.trans s4).trans s5), upd_same⟩
   ·rw [List.length_map]
    have := List.length_filter_le p (List.range i)
    rw [List.length_range] at this
    omega
   ·rw [List.range_succ, List.filter_append, List.map_append, List.filter_cons_of_pos hp]
    rfl
  | false =>
   rw [if_neg Bool.false_ne_true]
   refine ⟨xs.length - (i + 1), by omega, rfl, hlt, ?_, s2.trans s4, s4 D _ hDl⟩
   rw [List.range_succ, List.filter_append, List.map_append, List.filter_cons_of_neg (by rw [hp]; exact Bool.false_ne_true)]
   simp
 ·have e : i = xs.length := by omega
  subst e
  exact .inl ⟨⟨xs, s2.seq hl, Nat.le_refl _⟩, hq D H2 hD s2 hDl⟩
theorem paired_of {β : Type} {S : Addr → β → Prop} : ∀ (ys : List V) (g : Nat → β), (∀ (i : Nat) y, ys[i]? = some y → ∃ a, y = .ref a ∧ S a (g i)) → ∃ cs : List Addr, ys = cs.map V.ref ∧ Paired S cs ((List.range ys.length).map g)
 | [], _, _ => ⟨[], rfl, .nil⟩
 | y :: ys, g, h => by
  obtain ⟨a, rfl, ha⟩ := h 0 y rfl
  obtain ⟨cs, e, hp⟩ := paired_of ys (fun i => g (i + 1)) fun i y hy => h (i + 1) y (by simpa using hy)
  refine ⟨a :: cs, by rw [e]; rfl, ?_⟩
  rw [List.length_cons, List.range_succ_eq_map, List.map_cons, List.map_map]
  exact .cons ha hp
theorem segT_eq {t : Int} {a b : Tr} (h : ¬ t = 0) : segT t a b = (List.range (b.2.1 - a.2.1).toNat).map fun (i : Nat) => ((a.2.1 + (i : Int), a.1), t) := by
 unfold segT rngI
 rw [if_neg h, List.map_map]
 rfl
end SW
set_option Elab.async false
set_option linter.all false
set_option maxRecDepth 100000
set_option maxHeartbeats 1000000
namespace PySem
def Heap.DictEs (h : Heap) (d : Addr) (es : Array DictEntry) (ep : Nat) : Prop := ∃ o, h.get? d = some o ∧ o.ExactDict ∧ o.data = .dict es ep
section
variable {prog : Program} {w : World} {A : Around} {E : Value → Shared → Prop} {s : Shared}
theorem Heap.DictEs.at {h h' : Heap} {d : Addr} {es : Array DictEntry} {ep : Nat} (x : h.DictEs d es ep) (k : ∀ o, h.get? d = some o → h'.get? d = some o) : h'.DictEs d es ep := let ⟨o, ho, r⟩ := x; ⟨o, k o ho, r⟩
theorem pyNext_keyE_item {it d : Addr} {es : Array DictEntry} {ep i : Nat} {e : DictEntry} {Q : Option Value → Shared → Prop} (hit : s.heap.IsKeyIter it d i es.size ep) (hd : s.heap.DictEs d es ep) (he : es[i]? = some e)
  (hQ : ∀ h', h'.IsKeyIter it d (i + 1) es.size ep → Heap.SameBut it s.heap h' → Q (some e.key) { s with heap := h' }) : wpAny (model prog w) A (pyNext (.ref it)) Q E s := by
 refine gate' fun gG hgG => ?_
 obtain ⟨o, ho, hc, hf⟩ := id hit
 obtain ⟨od, hod, hex, hdd⟩ := id hd
 refine hgG.go ?_
 clear hgG
 have hT : s.TypeIs (.ref it) "dict_keyiterator" := ⟨o, ho, hc⟩
 unfold pyNext
 refine wpAny_bind (wpAny_attempt (wpAny_callSpecial?_slot (name := Str.ofString "__next__") hT F.slot_dict_keyiterator_next
  (wpAny_call_entry F.slot_dict_keyiterator_next hT F.entry_dict_keyiterator_next ?_ (F.args_dict_keyiterator_next_1 _))))
 unfold Builtin.«dict_keyiterator.__next__»
 refine wpAny_bind (m := Builtin.Dict_items.slot0 "__next__" _) (wpAny_of_eq (a := Value.ref it) rfl ?_)
 refine wpAny_bind ?_
 refine wpAny_bind (wpAny_bind (wpAny_typeNameOfWhole_keyiter hT (wpAny_pure ?_)))
 refine wpAny_bind (wpAny_fieldsOf ho hf ?_)
 show wpAny _ _ (if (Value.ref d == Value.none) = true then _ else _) _ _ _
 rw [if_neg (show ¬ ((Value.ref d == Value.none) = true) from Bool.false_ne_true)]
 refine wpAny_bind (m := Builtin.Dict_items.addrOf (Value.ref d)) (wpAny_of_eq (a := d) rfl ?_)
 refine wpAny_bind (wpAny_dictEntries hod hdd ?_)
 dsimp only
 rw [if_neg (by simp)]
 refine wpAny_bind (m := Builtin.Dict_items.addrOf (Value.ref d)) (wpAny_of_eq (a := d) rfl ?_)
 refine wpAny_bind (wpAny_dictEpoch hod hdd ?_)
 rw [if_neg (by simp)]
 refine wpAny_pure ?_
 dsimp only
 rw [if_neg (by omega), Int.toNat_natCast, he]
 dsimp only
 refine wpAny_bind (wpAny_bind (wpAny_typeNameOfWhole_keyiter hT (wpAny_pure ?_)))
 refine wpAny_bind (wpAny_isOneOf_keyiter hT ?_)
 show wpAny _ _ (setField (.ref it) 1 (rawInt ((i : Int) + 1)) >>= _) _ _ _
 refine wpAny_bind (wpAny_setField ho hf (by simp) ?_)
 have hit2 : (s.heap.update it (Obj.mapFields fun x_1 => x_1.setIfInBounds 1 (rawInt ((i : Int) + 1)))).IsKeyIter it d (i + 1) es.size ep := by
  refine ⟨_, Heap.get?_update_self _ ho (Obj.isFreed_of_fields (Obj.data_mapFields hf _)), (Obj.cls_mapFields ..).trans hc, ?_⟩
  rw [Obj.data_mapFields hf]
  simp [rawInt]
 refine wpAny_bind (wpAny_holding ?_)
 have hT2 : ({ s with heap := s.heap.update it (Obj.mapFields fun x_1 => x_1.setIfInBounds 1 (rawInt ((i : Int) + 1))) } : Shared).TypeIs (.ref it) "dict_keyiterator" := let ⟨o, ho, hc, _⟩ := hit2; ⟨o, ho, hc⟩
 refine wpAny_bind (wpAny_isOneOf_keyiter hT2 ?_)
 show wpAny _ _ (pure e.key) _ _ _
 refine wpAny_pure ?_
 refine wpAny_pure ⟨_, rfl, wpAny_pure ?_⟩
 exact hQ _ hit2 (Heap.SameBut.update ..)
theorem pyNext_keyE_end {it d : Addr} {es : Array DictEntry} {ep : Nat} {Q : Option Value → Shared → Prop} (hh : A.handled = none) (hit : s.heap.IsKeyIter it d es.size es.size ep) (hd : s.heap.DictEs d es ep)
  (hQ : ∀ h', Heap.ExtBut it s.heap h' → Q none { s with heap := h' }) : wpAny (model prog w) A (pyNext (.ref it)) Q E s := by
 refine gate' fun gG hgG => ?_
 obtain ⟨o, ho, hc, hf⟩ := id hit
 obtain ⟨od, hod, hex, hdd⟩ := id hd
 refine hgG.go ?_
 clear hgG
 have hT : s.TypeIs (.ref it) "dict_keyiterator" := ⟨o, ho, hc⟩
 unfold pyNext
 refine wpAny_bind (wpAny_attempt (wpAny_callSpecial?_slot (name := Str.ofString "__next__") hT F.slot_dict_keyiterator_next
  (wpAny_call_entry F.slot_dict_keyiterator_next hT F.entry_dict_keyiterator_next ?_ (F.args_dict_keyiterator_next_1 _))))
 unfold Builtin.«dict_keyiterator.__next__»
 refine wpAny_bind (m := Builtin.Dict_items.slot0 "__next__" _) (wpAny_of_eq (a := Value.ref it) rfl ?_)
 refine wpAny_bind ?_
 refine wpAny_bind (wpAny_bind (wpAny_typeNameOfWhole_keyiter hT (wpAny_pure ?_)))
 refine wpAny_bind (wpAny_fieldsOf ho hf ?_)
 show wpAny _ _ (if (Value.ref d == Value.none) = true then _ else _) _ _ _
 rw [if_neg (show ¬ ((Value.ref d == Value.none) = true) from Bool.false_ne_true)]
 refine wpAny_bind (m := Builtin.Dict_items.addrOf (Value.ref d)) (wpAny_of_eq (a := d) rfl ?_)
 refine wpAny_bind (wpAny_dictEntries hod hdd ?_)
 dsimp only
 rw [if_neg (by simp)]
 refine wpAny_bind (m := Builtin.Dict_items.addrOf (Value.ref d)) (wpAny_of_eq (a := d) rfl ?_)
 refine wpAny_bind (wpAny_dictEpoch hod hdd ?_)
 rw [if_neg (by simp)]
 refine wpAny_pure ?_
 dsimp only
 rw [if_neg (by omega), Int.toNat_natCast, Array.getElem?_eq_none (Nat.le_refl _)]
 dsimp only
 refine wpAny_bind (wpAny_bind (wpAny_typeNameOfWhole_keyiter hT (wpAny_pure ?_)))
 show wpAny _ _ (setField (.ref it) 0 Value.none >>= _) _ _ _
 refine wpAny_bind (wpAny_setField ho hf (by simp) ?_)
 refine wpAny_bind ?_
 simp only [newExc, newTuple]
 refine wpAny_bind (wpAny_newObj_type ?_ (by size_fits))
 refine wpAny_bind (m := firstArgMember _ _) (wpAny_of_eq (a := Value.none) (by first | rfl | (simp only [firstArgMember]; rfl)) ?_)
 refine wpAny_newObj_type ?_ (by size_fits)
 simp only [raiseNew]
 refine wpAny_bind (wpAny_handled ?_)
 first | rw [show A.in1.handled = none from hh] | rw [hh]
 refine wpAny_bind (wpAny_pure (wpAny_throw ?_))
 refine wpAny_bind (wpAny_isInstance (T := "StopIteration") (b := true) ⟨_, Heap.get?_push_size _ rfl, rfl⟩ isSubtype_stop ?_)
 refine wpAny_pure (hQ _ fun b ob hb e => ?_)
 refine Heap.get?_push_of_some _ (Heap.get?_push_of_some _ ?_)
 exact (Heap.get?_update_other _ _ (Ne.symm hb)).trans e
theorem pyIter_dictE {d : Addr} {es : Array DictEntry} {ep : Nat} {Q : Value → Shared → Prop} (hs : (d == sysModules) = false) (hd : s.heap.DictEs d es ep)
  (h : Q (.ref s.heap.objs.size) { s with heap := s.heap.push { cls := .type "dict_keyiterator", data := .fields #[.ref d, rawInt 0, rawInt (es.size : Int), rawInt (ep : Int)] } }) : wpAny (model prog w) A (pyIter (.ref d)) Q E s := by
 obtain ⟨o, ho, hex, hdd⟩ := id hd
 have hT : s.TypeIs (.ref d) "dict" := ⟨o, ho, hex.1⟩
 refine wpAny_pyIter_slot hT F.slot_dict_iter (wpAny_call_entry F.slot_dict_iter hT F.entry_dict_iter ?_ (F.args_dict_iter_1 _))
 unfold Builtin.«dict.__iter__»
 refine wpAny_bind ?_
 unfold Builtin.Dict.dictSlotNone
 refine wpAny_bind (m := Builtin.Dict.notOrdered _ _) (wpAny_notOrdered_dict hT ?_)
 refine wpAny_bind (wpAny_of_eq (a := (Value.ref d, [])) rfl (wpAny_pure ?_))
 refine wpAny_bind (m := Builtin.Dict.addrOf (Value.ref d)) (wpAny_of_eq (a := d) rfl ?_)
 refine wpAny_bind (m := Builtin.Dict.showsAll d) (wpAny_of_eq (a := ()) (by unfold Builtin.Dict.showsAll; rw [hs]; rfl) ?_)
 refine wpAny_bind (wpAny_dictEntries ho hdd ?_)
 refine wpAny_bind (wpAny_dictEpoch ho hdd ?_)
 unfold newFields
 refine wpAny_bind (wpAny_newObj_type ?_ (by size_fits))
 refine wpAny_pure ⟨_, rfl, "dict_keyiterator", _, ⟨_, Heap.get?_push_size _ rfl, rfl⟩, F.slot_dict_keyiterator_next.lookup, h⟩
theorem walks_dictE (hh : A.handled = none) (I d : Addr) (hdI : d ≠ I) (es : Array DictEntry) (ep : Nat) :
  Walks prog w A I [I, d] [I] es.size (fun i v => ∃ e, es[i]? = some e ∧ v = e.key) (fun i h => h.IsKeyIter I d i es.size ep ∧ h.DictEs d es ep) where
 sub := fun b hb => by simp at hb; simp [hb]
 frame := fun i h h' ⟨x, y⟩ k => ⟨let ⟨o, ho, r⟩ := x; ⟨o, k I (by simp) o ho, r⟩, y.at fun o q => k d (by simp) o q⟩
 item := fun i s Q E hi ⟨x, y⟩ h => by
  refine pyNext_keyE_item x y (e := es[i]) (Array.getElem?_eq_getElem hi) fun h' x' sb => ?_
  exact h _ h' s.toks ⟨_, Array.getElem?_eq_getElem hi, rfl⟩ ⟨x', y.at fun o q => (sb.2 d hdI).trans q⟩ fun b o hb q => (sb.2 b (by simpa using hb)).trans q
 done := fun s Q E ⟨x, y⟩ h => pyNext_keyE_end hh x y fun h' eb => h h' s.toks fun b o hb q => eb b o (by simpa using hb) q
 self := fun i s Q E ⟨⟨o, ho, hc, hf⟩, y⟩ h => by
  exact wpAny_pyIter_keyiter (d := d) (i := i) (n := es.size) (ep := ep) ⟨o, ho, hc, hf⟩ h
theorem kdl_dictE {d : Addr} {es : Array DictEntry} {ep : Nat} (hs : (d == sysModules) = false) : PySem.W.KdlSrc prog w "dict" d d es.size (fun i v => ∃ e, es[i]? = some e ∧ v = e.key) (fun h => h.DictEs d es ep) where
 type := fun s ⟨o, ho, hex, _⟩ => ⟨o, ho, hex.1⟩
 there := fun h ⟨o, ho, _⟩ => ⟨Heap.lt_size ho, Heap.lt_size ho⟩
 keep := fun h h' x k => x.at fun o q => k d (.inl rfl) o q
 notList := by decide
 notTuple := by decide
 hint := fun A E s Q ⟨o, ho, hex, _⟩ hq => PySem.W.kdl_hint_dict ⟨o, ho, hex.1⟩ hq
 iter := fun A s hh hd => by
  have hlt : d < s.heap.objs.size := let ⟨o, ho, _⟩ := hd; Heap.lt_size ho
  refine ⟨_, fun i h => h.IsKeyIter s.heap.objs.size d i es.size ep ∧ h.DictEs d es ep, fun E Q h => pyIter_dictE hs hd h, walks_dictE hh _ d (Nat.ne_of_lt hlt) es ep, ⟨_, Heap.get?_push_size _ rfl, rfl, rfl⟩, hd.at fun o q => Heap.get?_push_of_some _ q⟩
def CollR (s : Shared) (P : Nat → Value → Prop) (n : Nat) (r : Result) (s' : Shared) : Prop := ∃ (h' : Heap) (tk : Nat) (acc : Array Value) (c : Nat), r = Except.ok (Flow.ret (Value.ref s.heap.objs.size)) ∧ s' = { s with heap := h', toks := tk } ∧ (∀ b o, s.heap.get? b = some o → h'.get? b = some o) ∧ h'.get? s.heap.objs.size = some { cls := Value.type "list", data := Data.seq acc c } ∧ ItemsOf P acc n
theorem collect_src {T : String} {r d : Addr} {n : Nat} {P : Nat → Value → Prop} {OK : Heap → Prop} {Q : List Value → Shared → Prop} (S : PySem.W.KdlSrc prog w T r d n P OK) (hh : A.handled = none) (hok : OK s.heap) (hn : n ≤ sizeLine)
  (h : ∀ (h' : Heap) (tk : Nat) (acc : Array Value), (∀ b o, s.heap.get? b = some o → h'.get? b = some o) → ItemsOf P acc n → Q acc.toList { s with heap := h', toks := tk }) : wpAny (model prog w) A (collect (.ref r)) Q E s := by
 unfold collect
 refine wpAny_bind (wpAny_runValue (codeAny_mono (R := CollR s P n) (codeAny_builtin F.entry_proto_collect ?_) ?_))
 ·rw [Around.under_plainId F.plain_proto_collect _]
  unfold Builtin.«proto.collect»
  dsimp only
  refine wpAny_bind (wpAny_newList ?_ (Nat.zero_le _))
  refine wpAny_pure ⟨plainId_quiet F.plain_list_iadd _, codeAny_builtin F.entry_list_iadd ?_⟩
  rw [Around.under_plainId F.plain_list_iadd _]
  unfold Builtin.«list.__iadd__»
  refine wpAny_bind (wpAny_of_eq (a := (Value.ref s.heap.objs.size, [Value.ref r])) rfl ?_)
  dsimp only
  have hlt := S.there _ hok
  have k1 : ∀ b o, s.heap.get? b = some o → (s.heap.push { cls := Value.type "list", data := Data.seq ([] : List Value).toArray 0 }).get? b = some o := fun b o q => Heap.get?_push_of_some _ q
  exact PySem.W.kdl_extend (R := CollR s P n) (s := { s with heap := s.heap.push { cls := Value.type "list", data := Data.seq ([] : List Value).toArray 0 } }) S hh (S.keep _ _ hok fun b _ o q => k1 b o q) s.heap.objs.size (Nat.ne_of_gt hlt.1) (Nat.ne_of_gt hlt.2) (Value.ref s.heap.objs.size) 0 (Heap.get?_push_size _ rfl)
   (fun h' tk acc c hk hS hi => ⟨h', tk, acc, c, rfl, rfl, fun b o q => hk b o (Nat.ne_of_lt (Heap.lt_size q)) (k1 b o q), hS, hi⟩) hn
 ·intro r s' hI_
  refine gate' fun gG hgG => ?_
  obtain ⟨h', tk, acc, c, rfl, rfl, hk, hS, hi⟩ := hI_
  refine hgG.go ?_
  clear hgG
  dsimp only
  refine wpAny_bind (wpAny_load hS ?_)
  dsimp only
  exact wpAny_pure (h h' tk acc hk hi)
end
end PySem
namespace TS
open PySem PyProof.Rows PySem.W
section
variable {prog : Program} {w : World} {A : Around} {E : Value → Shared → Prop} {s : Shared} {κ : SortKind} {D : Keyed → Prop} {R : Keyed → Keyed → Bool}
theorem sorted_src {T : String} {r d : Addr} {n : Nat} {Pi : Nat → Value → Prop} {OK : Heap → Prop} {Q : Value → Shared → Prop} (S : KdlSrc prog w T r d n Pi OK) (hh : A.handled = none) (hok : OK s.heap) (hz : n ≤ sizeLine) (hD : ∀ vs : List Value, vs.length = n → (∀ (j : Nat) v, vs[j]? = some v → Pi j v) → ∀ v ∈ vs, D (v, v))
  (C : ∀ (A' : Around) h' tk, A'.units ≤ A.units + 4 → (∀ b o, s.heap.get? b = some o → h'.get? b = some o) → Cmp prog w A' { s with heap := h', toks := tk } κ D R)
  (hkk : ∀ (A : Around) (E : Value → Shared → Prop) h' tk (vs : List Value), (∀ b o, s.heap.get? b = some o → h'.get? b = some o) → vs.length = n → (∀ (j : Nat) v, vs[j]? = some v → Pi j v) → 2 ≤ vs.length → ∀ (Q : SortKind → Shared → Prop), Q κ { s with heap := h', toks := tk } → wpAny (model prog w) A (keyKind' vs.toArray) Q E { s with heap := h', toks := tk })
  (h : ∀ (vs : List Value) (out : Array Value) (h1 h' : Heap) (tk : Nat) (e : Nat), vs.length = n → (∀ (j : Nat) v, vs[j]? = some v → Pi j v) → out.toList.Perm vs → out.toList.Pairwise (leV R) → (∀ b o, s.heap.get? b = some o → h1.get? b = some o) → (∀ b o, h1.get? b = some o → h'.get? b = some o) → h'.get? h1.objs.size = some (seqObj "list" out e) → Q (.ref h1.objs.size) { s with heap := h', toks := tk }) :
  wpAny (model prog w) A (call (.builtin "sorted") [.ref r]) Q E s := by
 refine Calls.call_function_entry kind_sorted plain_sorted entry_sorted (args_sorted1 _) ?_
 unfold Builtin.«sorted»
 refine wpAny_bind (m := checkCount "sorted" 1 1 _) (wpAny_pure ?_)
 refine wpAny_bind (collect_src S hh hok hz fun h1 tk acc hk hi => ?_)
 have hlen : acc.toList.length = n := by rw [Array.length_toList]; exact hi.1
 have hPi : ∀ (j : Nat) v, acc.toList[j]? = some v → Pi j v := fun j v e => hi.2 j v (by rw [← Array.getElem?_toList]; exact e)
 refine wpAny_bind (wpAny_newList ?_ (by rw [hlen]; exact hz))
 have hoL : (h1.push (seqObj "list" acc.toList.toArray 0)).get? h1.objs.size = some (seqObj "list" acc.toList.toArray 0) := Heap.get?_push_size _ rfl
 have kept : ∀ b o, s.heap.get? b = some o → (h1.push (seqObj "list" acc.toList.toArray 0)).get? b = some o := fun b o e => Heap.get?_push_of_some _ (hk b o e)
 have lt1 : ∀ b o, s.heap.get? b = some o → b < h1.objs.size := fun b o e => Heap.lt_size (hk b o e)
 have ne1 : ∀ b o, s.heap.get? b = some o → b ≠ h1.objs.size := fun b o e => Nat.ne_of_lt (lt1 b o e)
 show wpAny _ _ _ _ _ { s with heap := h1.push (seqObj "list" acc.toList.toArray 0), toks := tk }
 refine wpAny_bind (wpAny_holding (wpAny_call_entry slot_list_sort ⟨_, hoL, rfl⟩ entry_list_sort (list_sort_any (s := { s with heap := h1.push (seqObj "list" acc.toList.toArray 0), toks := tk }) (κ := κ) (D := D) (R := R) hoL (by rw [hlen]; exact hz) (hD _ hlen hPi)
  (fun h' k => C _ h' tk (by show A.units + 1 + 1 ≤ A.units + 4; omega) fun b o e => k b o (ne1 b o e) (kept b o e)) (fun h' k h2 Q' hq => hkk _ _ h' tk _ (fun b o e => k b o (ne1 b o e) (kept b o e)) hlen hPi h2 Q' hq) fun out a1 a2 => ⟨_, rfl, ?_⟩) (args_list_sort _)))
 obtain ⟨e, he⟩ := sortedHeap_at (out := out) (vs := acc.toList) hoL
 refine wpAny_pure ⟨_, rfl, h acc.toList out h1 _ tk e hlen hPi a1 a2 hk (fun b o q => ?_) he⟩
 have lt2 : b < h1.objs.size := Heap.lt_size q
 rw [sortedHeap_old (Nat.ne_of_lt lt2) (show b < (h1.push (seqObj "list" acc.toList.toArray 0)).objs.size by rw [Heap.size_push]; exact Nat.lt_succ_of_lt lt2)]
 exact Heap.get?_push_of_some _ q
end
end TS
set_option Elab.async false
set_option linter.all false
set_option maxRecDepth 100000
set_option maxHeartbeats 1000000
namespace L2
open PySem PySem.Spec PyProof.Rows TS
section
variable {X : Cx}
theorem call_isC : CallR X (.builtin "isinstance") (fun xs H Q => ∃ x C t b, xs = [x, .ref C] ∧ TyOf X.K H x t ∧ PySem.W.kitOne X.K t (.ref C) = some b ∧ Q (.bl b) H) := by
 intro pins s σ H xs us Q I r h
 refine gate' fun gG hgG => ?_
 obtain ⟨x, C, t, b, rfl, ty, e, q⟩ := h
 obtain ⟨u, w', rfl, ru, rw'⟩ := vals2 r
 refine hgG.go ?_
 clear hgG
 cases (show w' = Value.ref C from rw')
 exact isinst_ok I ru ty e fun tk => ⟨.bl b, H, I.tok tk, rfl, q⟩
end
end L2
namespace SW
open PySem PySem.Spec PyProof.Rows L2 WM TS
def ptK (q : Pt) : List Key := [.inl q.1, .inl q.2]
theorem ptK_inj {p q : Pt} (h : ptK p = ptK q) : p = q := by
 unfold ptK at h
 injection h with h1 h2
 injection h2 with h2 _
 exact Prod.ext (Sum.inl.inj h1) (Sum.inl.inj h2)
theorem ptK_kV (q : Pt) : (ptK q).map kV = [.int q.1, .int q.2] := rfl
section
variable {X : Cx}
theorem call_sortedD (hc : X.calm = true) : CallR X (.builtin "sorted") (fun xs H Q => ∃ (p : Addr) (kvs : List (List Key × V)) (ps : List Pt), xs = [.ref p] ∧ Rd H p (.dT kvs) ∧ kvs.map (·.1) = ps.map ptK ∧
  ∀ l as' ps', H l = none → Tups H as' ps' → ps'.Perm ps → ps'.Pairwise (fun a b => ltP b a = false) → Q (.ref l) (upd H l (.lst (as'.map V.ref)))) := by
 intro pins s σ H xs us Q I r h
 refine gate' fun gG hgG => ?_
 obtain ⟨p, kvs, ps, rfl, hp, hks, q⟩ := h
 obtain ⟨u, rfl, ru⟩ := vals1 r
 refine hgG.go ?_
 clear hgG
 cases (show u = Value.ref p from ru)
 refine gate' fun gG hgG => ?_
 obtain ⟨hz, hsys, xs, hKT, o, es, ep, ho, hex, hdd, hes, hnd⟩ := (show ObjOk X.prog X.w H s.heap p (.dT kvs) from hp.ok I.hok)
 refine hgG.go ?_
 clear hgG
 let as := xs.map fun x => x.2.1
 have hTup : Tups H as ps := by
  have go : ∀ {kvs : List (List Key × V)} {xs : List (List Key × Addr × Value)} {ps : List Pt}, Paired (fun (p : List Key × V) (q : List Key × Addr × Value) => p.1 = q.1 ∧ H q.2.1 = some (.tup (p.1.map kV)) ∧ RelV p.2 q.2.2) kvs xs → kvs.map (·.1) = ps.map ptK → Tups H (xs.map fun x => x.2.1) ps := by
   intro kvs xs ps hP
   induction hP generalizing ps with
   | nil =>
    intro e
    cases ps with
    | nil => exact .nil
    | cons a b => cases e
   | cons h t ih =>
    intro e
    cases ps with
    | nil => cases e
    | cons a b =>
     rw [List.map_cons, List.map_cons] at e
     injection e with e1 e2
     obtain ⟨h1, h2, h3⟩ := h
     rw [e1, ptK_kV] at h2
     exact .cons h2 (ih e2)
  exact go hKT hks
 have hkeys : es.toList.map (·.key) = as.map Value.ref := by
  rw [hes, List.map_map, List.map_map]
  rfl
 have hsz : es.size ≤ sizeLine := by
  have e1 : es.size = xs.length := by rw [← Array.length_toList, hes, List.length_map]
  have e2 : kvs.length = xs.length := Paired.length hKT
  omega
 have all : ∀ vs : List Value, vs.length = es.size → (∀ (j : Nat) v, vs[j]? = some v → ∃ e, es[j]? = some e ∧ v = e.key) → vs = as.map Value.ref := fun vs hl hv => by
  rw [← hkeys]
  refine List.ext_getElem? fun j => ?_
  rw [List.getElem?_map]
  cases ej : vs[j]? with
  | none =>
   have : vs.length ≤ j := by simpa using ej
   rw [List.getElem?_eq_none (by rw [Array.length_toList]; omega)]
   rfl
  | some v =>
   obtain ⟨e, he, rfl⟩ := hv j v ej
   rw [Array.getElem?_toList, he]
   rfl
 have hpt : ∀ {a}, a ∈ as → ∃ q : Pt, H a = some (.tup [.int q.1, .int q.2]) ∧ IsPt s.heap (.ref a) q := fun {a} ha => by
  obtain ⟨b, _, hb⟩ := paired_mem hTup ha
  exact ⟨b, hb, isPt_of I (SqT.of hb)⟩
 have hpk : ∀ v ∈ as.map Value.ref, IsPt s.heap v (keyP s.heap v) := fun v hv => by
  obtain ⟨a, ha, rfl⟩ := List.mem_map.mp hv
  obtain ⟨q, _, hq⟩ := hpt ha
  rw [keyP_of hq]
  exact hq
 refine sorted_src (κ := tuples' true) (D := fun x => x.1 ∈ as.map Value.ref) (R := fun x y => ltP (keyP s.heap x.1) (keyP s.heap y.1)) (kdl_dictE (es := es) (ep := ep) hsys) (I.ok.hd hc) ⟨o, ho, hex, hdd⟩ hsz (fun vs hl hv v hm => ?_) (fun A' h' tk _ k => ?_) (fun A' E' h' tk vs k hl hv h2 Q' hq => ?_) (fun vs out h1 h' tk e hl hv hperm hsort k1 k2 he => ?_)
 ·rw [← all vs hl hv]
  exact hm
 ·exact cmp_pts (s := { s with heap := h', toks := tk }) fun v hv => (hpk v hv).kept k
 ·rw [all vs hl hv] at h2 ⊢
  exact kind_pts (s := { s with heap := h', toks := tk }) (fun v hv => (hpk v hv).kept k) h2 hq
 ·rw [all vs hl hv] at hperm
  have eout : out.toList = (out.toList.map addrV).map Value.ref := by
   rw [List.map_map]
   conv => lhs; rw [← List.map_id' out.toList]
   refine List.map_congr_left fun v hv => ?_
   obtain ⟨a, _, rfl⟩ := List.mem_map.mp (hperm.mem_iff.mp hv)
   rfl
  have hpa : (out.toList.map addrV).Perm as := by
   have := hperm.map addrV
   rw [List.map_map] at this
   exact this.trans (List.Perm.of_eq (List.map_id' as))
  generalize out.toList.map addrV = as' at *
  have eps : ps = as.map fun a => keyP s.heap (.ref a) := paired_eq hTup fun a _ b hb => (keyP_of (isPt_of I (SqT.of hb))).symm
  have I1 : Inv X pins σ H { s with heap := h1, toks := tk } := I.kept (t' := tk) k1
  have hfree : H h1.objs.size = none := I1.hok.fresh (Nat.le_refl _)
  have hlen : as'.length ≤ sizeLine := by
   rw [hpa.length_eq, List.length_map]
   have e1 : es.size = xs.length := by rw [← Array.length_toList, hes, List.length_map]
   omega
  have I2 : Inv X pins σ (upd H h1.objs.size (.lst (as'.map V.ref))) { s with heap := h', toks := tk } := by
   refine I1.laid (t' := tk) (fun b u hb => k2 b u hb) (Nat.le_refl _) ?_
   refine ⟨by rw [List.length_map]; exact hlen, as'.map Value.ref, e, refs_vals as', ?_⟩
   rw [← eout]
   exact he
  refine ⟨.ref h1.objs.size, _, I2, rfl, q _ as' (as'.map fun a => keyP s.heap (.ref a)) hfree (paired_map fun a ha => ?_) ?_ ?_⟩
  ·obtain ⟨q', hq', hq2⟩ := hpt (hpa.mem_iff.mp ha)
   show H a = some (.tup [.int (keyP s.heap (.ref a)).1, .int (keyP s.heap (.ref a)).2])
   rw [keyP_of hq2]
   exact hq'
  ·rw [eps]
   exact hpa.map _
  ·rw [eout, List.pairwise_map] at hsort
   rw [List.pairwise_map]
   exact hsort
end
end SW
set_option Elab.async false
set_option linter.all false
set_option maxRecDepth 100000
set_option maxHeartbeats 4000000
namespace SW
open PySem L2 WM TS
def leP (a b : Pt) : Bool := !ltP b a
def srtP (l : List Pt) : List Pt := l.mergeSort leP
theorem leP_iff {a b : Pt} : leP a b = true ↔ ltP b a = false := by
 unfold leP
 cases ltP b a <;> simp
theorem srtP_perm (l : List Pt) : (srtP l).Perm l := List.mergeSort_perm l leP
theorem srtP_sorted (l : List Pt) : (srtP l).Pairwise fun a b => ltP b a = false := by
 have := List.pairwise_mergeSort (le := leP) (fun a b c h1 h2 => ?_) (fun a b => ?_) l
 ·exact this.imp fun h => leP_iff.mp h
 ·rw [leP_iff] at h1 h2 ⊢
  unfold ltP at *
  have h1 := of_decide_eq_false h1
  have h2 := of_decide_eq_false h2
  exact decide_eq_false (by omega (config := {}))
 ·unfold leP ltP
  by_cases h : a.1 < b.1 ∨ (a.1 = b.1 ∧ a.2 < b.2)
  ·rw [decide_eq_false (p := b.1 < a.1 ∨ (b.1 = a.1 ∧ b.2 < a.2)) (by omega (config := {}))]
   rfl
  ·rw [decide_eq_false (p := a.1 < b.1 ∨ (a.1 = b.1 ∧ a.2 < b.2)) h]
   simp
theorem ltP_anti {a b : Pt} (h1 : ltP a b = false) (h2 : ltP b a = false) : a = b := by
 unfold ltP at *
 have h1 := of_decide_eq_false h1
 have h2 := of_decide_eq_false h2
 exact Prod.ext (by omega (config := {})) (by omega (config := {}))
theorem sorted_uniq : ∀ {cs ds : List Pt}, cs.Perm ds → cs.Pairwise (fun a b => ltP b a = false) → ds.Pairwise (fun a b => ltP b a = false) → cs = ds := by
 intro cs ds hp h1 h2
 exact hp.eq_of_pairwise (fun a b _ _ x y => ltP_anti y x) h1 h2
theorem srtP_eq {cs l : List Pt} (hp : cs.Perm l) (h : cs.Pairwise fun a b => ltP b a = false) : cs = srtP l := sorted_uniq (hp.trans (srtP_perm l).symm) h (srtP_sorted l)
def cntP (l : List Nat) : List Pt := if l ≠ [] ∧ posOf l = (0, 0) then (plOf l).dropLast else plOf l
theorem cntP_length (l : List Nat) : (cntP l).length ≤ l.length + 1 := by
 unfold cntP
 split
 ·rw [List.length_dropLast, show (plOf l).length = l.length + 1 from placesP_length _ _]
  omega
 ·rw [show (plOf l).length = l.length + 1 from placesP_length _ _]
  exact Nat.le_refl _
structure ClT (K : PySem.W.Frag) (mg : Str → Option Value) (x : Str) (C fI fS : Addr) : Prop where
 cl : Cls K C
 at_ : mg x = some (.ref C)
 mkr : Mk K C fI
 ms : Meth K C "shows" fS
 ha : PySem.W.findIn K (.ref C) "__class__" = some (some (.builtin "object.__class__"))
 hn : PySem.W.specialIn K (.builtin "object.__class__") "__get__" = some (some (.builtin "getset_descriptor.__get__"))
 htk : PySem.W.takesIn K (.builtin "object.__class__") = some true
 hm : PySem.W.mroIn K C (.type "object") = some true
theorem ClT.ty {K : PySem.W.Frag} {mg : Str → Option Value} {x : Str} {C fI fS : Addr} (c : ClT K mg x C fI fS) {H : Hp} {a dx : Addr} {fs : List (Str × V)} (e : H a = some (.ins C dx fs)) : TyOf K H (.ref a) (.ref C) := .ins e c.cl c.ha c.hn c.htk c.hm
structure Mf (K : PySem.W.Frag) (x q : Str) (st : Stmt) (ps : List Str) (f : Addr) (fd : FuncData) : Prop where
 fn : Fun K x q st f fd
 bi : Binds K fd ps []
def fsS (d : Addr) : List (Str × V) := [("places", .ref d)]
def fsT (i j : Int) : List (Str × V) := [("first", .int i), ("second", .int j)]
def SimpAt (Cs : Addr) (H : Hp) (p : Addr) (ps : List Pt) : Prop := ∃ dx d as, H p = some (.ins Cs dx (fsS d)) ∧ H d = some (.lst (List.map V.ref as)) ∧ Tups H as ps
def TwAt (Ct : Addr) (H : Hp) (p : Addr) (i j : Int) : Prop := ∃ dx, H p = some (.ins Ct dx (fsT i j))
def spCounted : Sp := fun vs H Q _ => ∃ l, vs = [.str (T l)] ∧ IsW l ∧ l.length ≤ 1000 ∧ ∀ d H', H d = none → Same H H' → PlAt H' d (cntP l) → Q (.ref d) H'
def spSimpInit (K : PySem.W.Frag) (Cs : Addr) : Sp := fun vs H Q _ => ∃ (p dx a : Addr) (xs : List V), vs = [.ref p, .ref a] ∧ H p = some (.ins Cs dx []) ∧ SqL K H a xs ∧ ∀ d, H d = none → Q .non (upd (upd H d (.lst xs)) p (.ins Cs dx (fsS d)))
def spTwInit (Ct : Addr) : Sp := fun vs H Q _ => ∃ (p dx : Addr) (i j : Int), vs = [.ref p, .int i, .int j] ∧ H p = some (.ins Ct dx []) ∧ Q .non (upd (upd H p (.ins Ct dx [("first", .int i)])) p (.ins Ct dx (fsT i j)))
def twice (l : List Nat) (i j : Int) : Prop := 0 ≤ i ∧ i < j ∧ j ≤ (l.length : Int) ∧ ¬ (i = 0 ∧ j = (l.length : Int)) ∧ posOf (l.take i.toNat) = posOf (l.take j.toNat)
instance (l : List Nat) (i j : Int) : Decidable (twice l i j) := by unfold twice; infer_instance
def spMeets (Cs Ct : Addr) : Sp := fun vs H Q _ => ∃ (l : List Nat), vs = [.str (T l)] ∧ IsW l ∧ l.length ≤ 1000 ∧ ((cntP l).Nodup → ∀ p H', H p = none → Same H H' → SimpAt Cs H' p (srtP (cntP l)) → Q (.ref p) H') ∧
 ∀ (i j : Nat) p H', i < j → j < (cntP l).length → (cntP l)[i]? = (cntP l)[j]? → H p = none → Same H H' → TwAt Ct H' p i j → Q (.ref p) H'
theorem tups_dropLast {H : Hp} {as : List Addr} {ps : List Pt} (h : Tups H as ps) : Tups H as.dropLast ps.dropLast := by
 induction h with
 | nil => exact .nil
 | cons h t ih => cases t with
  | nil => exact .nil
  | cons h2 t => exact .cons h ih
theorem tups_mono {H H' : Hp} {as : List Addr} {ps : List Pt} (h : Tups H as ps) (s : TSame H H') : Tups H' as ps := h.mono fun b xs e => s b xs e
end SW
set_option Elab.async false
set_option linter.all false
set_option maxRecDepth 100000
set_option maxHeartbeats 1000000
namespace PySem
open PyProof.Rows
section
variable {prog : Program} {w : World} {A : Around} {E : Value → Shared → Prop} {s : Shared}
theorem list_no_keys : typeLookup (.type "list") "keys" = pure none := by rw [typeLookup_type, builtinLookup_eq_fast]; kernel_rfl
theorem list_no_hook : typeLookup (.type "list") "__getattr__" = pure none := by rw [typeLookup_type, builtinLookup_eq_fast]; kernel_rfl
theorem getAttr?_list {a : Addr} {xs : Array Value} {k : Nat} {sl : Array (Option Value)} {Q : Option Value → Shared → Prop} (hh : A.handled = none) (ha : s.heap.get? a = some { cls := .type "list", data := .seq xs k, slots := sl })
  (hQ : ∀ h' tk, (∀ b o, s.heap.get? b = some o → h'.get? b = some o) → Q none { s with heap := h', toks := tk }) : wpAny (model prog w) A (getAttr? (.ref a) "keys") Q E s := by
 have hT : s.TypeIs (.ref a) "list" := ⟨_, ha, rfl⟩
 unfold getAttr?
 refine wpAny_bind (wpAny_mkText ?_)
 unfold getAttrBy?
 refine wpAny_bind (wpAny_attempt ?_)
 unfold getAttrBy
 refine wpAny_holding ?_
 refine wpAny_bind (wpAny_typeOf (s := { s with toks := s.toks + 1 }) ⟨_, ha, rfl⟩ ?_)
 refine wpAny_bind (wpAny_of_eq F.slot_list_getattribute.lookup ?_)
 dsimp only
 rw [if_neg (by decide)]
 unfold getAttrByItsOwn
 refine wpAny_bind (m := hookBefore _) (wpAny_of_eq (a := none) rfl ?_)
 refine wpAny_bind (wpAny_attempt (wpAny_holding ?_))
 unfold callGetattribute
 rw [if_neg (by decide)]
 unfold boundAndCalled
 refine wpAny_bind (m := bindSpecial _ _) ?_
 unfold bindSpecial
 refine wpAny_bind (wpAny_of_eq (a := Value.type "wrapper_descriptor") (by first | rfl | kernel_rfl) ?_)
 rw [if_pos (by decide)]
 refine wpAny_pure ?_
 show wpAny _ _ (call (.builtin "list.__getattribute__") [.ref a, .str "keys" s.toks]) _ _ _
 refine call_meets (s := { s with toks := s.toks + 1 }) F.slot_list_getattribute ⟨_, ha, rfl⟩ am_entry_list_getattribute (F.args_list_getattribute_2 _ _) (meets_getattribute_miss_list a xs k sl "keys" s.toks list_no_keys (by decide +kernel)) ⟨ha, hh, fun h' tk e ne => ?_⟩
 obtain ⟨t, u, he⟩ := ne.there
 have hsub : isSubtype (.type "AttributeError") (.type "AttributeError") = pure true := by rw [isSubtype_type]; kernel_rfl
 show wpAny _ _ (getattributeRaised _ _ _ _ _ _ _) _ _ _
 unfold getattributeRaised
 refine wpAny_bind (wpAny_isInstance (s := { s with heap := h', toks := tk }) (T := "AttributeError") (b := true) ⟨_, he, rfl⟩ hsub ?_)
 rw [if_pos rfl]
 unfold hookBehind
 rw [if_neg (by decide)]
 refine wpAny_bind (wpAny_of_eq list_no_hook ?_)
 unfold hookOrError attributeErrorLeaves
 dsimp only
 rw [if_pos (show (!false) = true from rfl)]
 refine wpAny_bind (wpAny_throw ?_)
 refine wpAny_bind (wpAny_isInstance (s := { s with heap := h', toks := tk }) (T := "AttributeError") (b := true) ⟨_, he, rfl⟩ hsub ?_)
 rw [if_pos rfl]
 exact wpAny_pure (hQ h' tk ne.keeps)
theorem plain_dict_loop : plainId "dict.update.loop" = true := by decide +kernel
theorem entry_dict_loop : entryFor table "dict.update.loop" = some Builtin.«dict.update.loop» := entryFor_of_tree (by kernel_rfl)
def putAllH {κ : Type} [DecidableEq κ] : List (κ × Addr × Value) → List (κ × Addr × Value) → List (κ × Addr × Value)
 | xs, [] => xs
 | xs, q :: r => putAllH (storedH xs q.1 q.2.1 q.2.2) r
theorem storedH_length {κ : Type} [DecidableEq κ] (xs : List (κ × Addr × Value)) (k : κ) (a : Addr) (v : Value) : (storedH xs k a v).length ≤ xs.length + 1 := by
 unfold storedH
 split
 ·rw [List.length_map]; exact Nat.le_succ _
 ·rw [List.length_append]; exact Nat.le_refl _
theorem storedH_keys {κ : Type} [DecidableEq κ] {xs : List (κ × Addr × Value)} {k : κ} {a : Addr} {v : Value} {x : κ × Addr × Value} (h : x ∈ storedH xs k a v) : (∃ y ∈ xs, y.1 = x.1 ∧ y.2.1 = x.2.1) ∨ (k = x.1 ∧ a = x.2.1) := by
 unfold storedH at h
 split at h
 ·obtain ⟨y, hy, rfl⟩ := List.mem_map.mp h
  refine .inl ⟨y, hy, ?_⟩
  unfold putAt
  split <;> exact ⟨rfl, rfl⟩
 ·rcases List.mem_append.mp h with h | h
  ·exact .inl ⟨x, h, rfl, rfl⟩
  ·rw [List.mem_singleton.mp h]
   exact .inr ⟨rfl, rfl⟩
theorem dictH_at {κ : Type} [DecidableEq κ] {knd : HeapKind prog w κ} {h h' : Heap} {d : Addr} {xs : List (κ × Addr × Value)} (x : h.DictOfH knd d xs) (k : ∀ o, h.get? d = some o → h'.get? d = some o) (is : ∀ x ∈ xs, knd.is h' x.1 x.2.1) : h'.DictOfH knd d xs := by
 refine gate' fun gG hgG => ?_
 obtain ⟨o, es, ep, h1, h2, h3, h4, _, h6⟩ := x
 refine hgG.go ?_
 clear hgG
 exact ⟨o, es, ep, k o h1, h2, h3, h4, is, h6⟩
def PairIs (h : Heap) (v : Value) (b : Addr) (u : Value) : Prop := ∃ a o n, v = .ref a ∧ h.get? a = some o ∧ o.cls = .type "tuple" ∧ o.data = .seq #[.ref b, u] n
theorem PairIs.kept {h h' : Heap} {v u : Value} {b : Addr} (x : PairIs h v b u) (k : ∀ b o, h.get? b = some o → h'.get? b = some o) : PairIs h' v b u := by
 obtain ⟨a, o, n, e, ho, r⟩ := x
 exact ⟨a, o, n, e, k a o ho, r⟩
theorem pairItems_tup {v u : Value} {b : Addr} {Q : List Value → Shared → Prop} (x : PairIs s.heap v b u) (h : Q [.ref b, u] s) : wpAny (model prog w) A (Builtin.Dict.pairItems v) Q E s := by
 refine gate' fun gG hgG => ?_
 obtain ⟨a, o, n, rfl, ho, hc, hd⟩ := x
 refine hgG.go ?_
 clear hgG
 unfold Builtin.Dict.pairItems
 refine wpAny_bind (wpAny_typeOf ⟨o, ho, hc⟩ ?_)
 rw [if_pos (by decide)]
 refine wpAny_bind (wpAny_seqItems ho hd ?_)
 exact wpAny_pure h
theorem dict_loop {κ : Type} [DecidableEq κ] {knd : HeapKind prog w κ} {d it l : Addr} {items : Array Value} {R : Result → Shared → Prop} {h₀ : Heap} (hh : A.handled = none) (hroom : knd.room A.in1) (qs : List (κ × Addr × Value)) (hq : qs.length = items.size)
  (hitem : ∀ (i : Nat) q, qs[i]? = some q → ∃ v, items[i]? = some v ∧ PairIs h₀ v q.2.1 q.2.2) (hkey : ∀ q ∈ qs, ∀ h : Heap, (∀ b o, h₀.get? b = some o → h.get? b = some o) → knd.is h q.1 q.2.1) (hz : items.size ≤ 100000) (hdi : d ≠ it) (hdl : d ≠ l) (hil : l ≠ it) (hd0 : h₀.get? d = none) (hi0 : h₀.get? it = none) :
  ∀ (k i : Nat) (s : Shared) (xs : List (κ × Addr × Value)), items.size - i = k → i ≤ items.size → (∀ b o, h₀.get? b = some o → s.heap.get? b = some o) → s.heap.IsListIter it l i → s.heap.IsList l items → s.heap.DictOfH knd d xs → xs.length ≤ i → (∀ x ∈ xs, ∃ q ∈ qs, q.1 = x.1 ∧ q.2.1 = x.2.1) →
   (∀ (h' : Heap) (tk : Nat), (∀ b o, h₀.get? b = some o → h'.get? b = some o) → h'.DictOfH knd d (putAllH xs (qs.drop i)) → R (.ok (.ret .none)) { s with heap := h', toks := tk }) →
   codeAny (model prog w) A (.builtin "dict.update.loop" ⟨[.ref d, .ref it, rawInt (i : Int), .none], []⟩) R s := by
 have esz : sizeLine = 16777216 := PySem.sizeLine_eq
 intro k
 induction k with
 | zero =>
  intro i s xs hk hi kp hit hl hdict hxl hxk h
  have e : i = items.size := by omega
  refine codeAny_builtin entry_dict_loop ?_
  rw [Around.under_plainId plain_dict_loop _]
  unfold Builtin.«dict.update.loop»
  show wpAny _ _ (pyNext (.ref it) >>= _) _ _ _
  refine wpAny_bind ((Walks.list (A := A.in1) hh it l hil items).done s _ _ (by rw [← e]; exact ⟨hit, hl⟩) fun h' tk hk' => ?_)
  dsimp only
  refine wpAny_bind (m := Builtin.Dict.addKeywords d []) (wpAny_of_eq (a := ()) rfl ?_)
  have kp' : ∀ b o, h₀.get? b = some o → h'.get? b = some o := fun b o q => hk' b o (by
   intro z
   have : b = it := by simpa using z
   rw [this, hi0] at q
   cases q) (kp b o q)
  refine wpAny_pure (h h' tk kp' ?_)
  rw [List.drop_of_length_le (by omega)]
  refine dictH_at hdict (fun o q => hk' d o (by simpa using hdi) q) fun x hx => ?_
  obtain ⟨q, hq', e1, e2⟩ := hxk x hx
  rw [← e1, ← e2]
  exact hkey q hq' h' kp'
 | succ k ih =>
  intro i s xs hk hi kp hit hl hdict hxl hxk h
  have hlt : i < items.size := by omega
  have hqi : qs[i]? = some qs[i] := List.getElem?_eq_getElem (by omega)
  obtain ⟨v, hv, hp⟩ := hitem i _ hqi
  refine codeAny_builtin entry_dict_loop ?_
  rw [Around.under_plainId plain_dict_loop _]
  unfold Builtin.«dict.update.loop»
  show wpAny _ _ (pyNext (.ref it) >>= _) _ _ _
  refine wpAny_bind ((Walks.list (A := A.in1) hh it l hil items).item i s _ _ hlt ⟨hit, hl⟩ fun v' h1 tk hv' hst hk' => ?_)
  have ev : v' = v := by
   rw [hv] at hv'
   exact (Option.some.inj hv').symm
  subst ev
  have kp1 : ∀ b o, h₀.get? b = some o → h1.get? b = some o := fun b o q => hk' b o (by
   intro z
   have : b = it := by simpa using z
   rw [this, hi0] at q
   cases q) (kp b o q)
  dsimp only
  refine wpAny_bind (wpAny_holding (wpAny_bind (wpAny_tryCatch (pairItems_tup (s := { s with heap := h1, toks := tk }) (hp.kept kp1) ?_))))
  dsimp only
  have hd1 : h1.DictOfH knd d xs := dictH_at hdict (fun o q => hk' d o (by simpa using hdi) q) fun x hx => by
   obtain ⟨q, hq', e1, e2⟩ := hxk x hx
   rw [← e1, ← e2]
   exact hkey q hq' h1 kp1
  refine wpAny_holding (wpAny_dictSet_heap (s := { s with heap := h1, toks := tk }) hroom (hkey _ (List.getElem_mem _) h1 kp1) hd1 (fun h2 hd2 sb => ?_) (by omega))
  have kp2 : ∀ b o, h₀.get? b = some o → h2.get? b = some o := fun b o q => (sb.2 b (by
   intro z
   rw [z, hd0] at q
   cases q)).trans (kp1 b o q)
  refine wpAny_pure ⟨plainId_quiet plain_dict_loop _, ?_⟩
  refine ih (i + 1) { s with heap := h2, toks := tk + knd.draws (qs[i]).1 } _ (by omega) (by assumption) kp2 (hst.1.at fun o q => (sb.2 it (Ne.symm hdi)).trans q) (hst.2.at fun o q => (sb.2 l (Ne.symm hdl)).trans q) hd2 (by have := storedH_length xs (qs[i]).1 (qs[i]).2.1 (qs[i]).2.2; omega) (fun x hx => ?_) fun h' tk' kp' hd' => ?_
  ·rcases storedH_keys hx with ⟨y, hy, e1, e2⟩ | ⟨e1, e2⟩
   ·obtain ⟨q, hq', e3, e4⟩ := hxk y hy
    exact ⟨q, hq', e3.trans e1, e4.trans e2⟩
   ·exact ⟨_, List.getElem_mem _, e1, e2⟩
  refine h h' tk' kp' ?_
  have ed : qs.drop i = qs[i] :: qs.drop (i + 1) := List.drop_eq_getElem_cons (by omega)
  rw [ed]
  exact hd'
theorem call_dictL {κ : Type} [DecidableEq κ] {knd : HeapKind prog w κ} {l : Addr} {items : Array Value} {k : Nat} {sl : Array (Option Value)} {Q : Value → Shared → Prop} (hh : A.handled = none) (hroom : knd.room A.in1.in1) (hl : s.heap.get? l = some { cls := .type "list", data := .seq items k, slots := sl }) (qs : List (κ × Addr × Value)) (hq : qs.length = items.size) (hz : items.size ≤ 100000)
  (hitem : ∀ (i : Nat) q, qs[i]? = some q → ∃ v, items[i]? = some v ∧ PairIs s.heap v q.2.1 q.2.2) (hkey : ∀ q ∈ qs, ∀ h : Heap, (∀ b o, s.heap.get? b = some o → h.get? b = some o) → knd.is h q.1 q.2.1)
  (h : ∀ (h' : Heap) (tk : Nat), (∀ b o, s.heap.get? b = some o → h'.get? b = some o) → h'.DictOfH knd s.heap.objs.size (putAllH [] qs) → Q (.ref s.heap.objs.size) { s with heap := h', toks := tk }) :
  wpAny (model prog w) A (call (.type "dict") [.ref l]) Q E s := by
 refine callType_codes (Q₁ := fun obj s₁ => obj = .ref s.heap.objs.size ∧ s₁ = { s with heap := s.heap.push { cls := .type "dict", data := .dict #[] 0 } }) F.kt_called_dict (F.kt_typeCall_dict_1 _) F.entry_dict_init ?_ ?_
 ·refine codeAny_of_tree ?_
  show wpAny _ A.in1.in1 (do checkBuiltinCall "dict.__new__" ⟨[.type "dict", .ref l], []⟩; again (.builtin "dict.__new__" ⟨[.type "dict", .ref l], []⟩)) _ _ s
  refine wpAny_bind (wpAny_of_eq (F.kt_newCall_dict_1 _) (wpAny_pure ⟨plainId_quiet F.kt_called_dict.plain _, codeAny_builtin (b := Builtin.«dict.__new__») (entryFor_of_tree (by kernel_rfl)) ?_⟩))
  rw [Around.under_plainId F.kt_called_dict.plain _]
  unfold Builtin.«dict.__new__»
  dsimp only
  refine wpAny_bind (wpAny_of_eq (a := true) rfl ?_)
  rw [if_neg (by decide)]
  refine wpAny_bind (wpAny_of_eq F.kt_called_dict.sub ?_)
  rw [if_neg (by decide)]
  refine wpAny_bind (wpAny_of_eq F.kt_mro_dict ?_)
  rw [if_neg (by decide)]
  refine wpAny_bind (wpAny_newObj_type (hd := by show _ ≤ _; decide) ?_)
  exact wpAny_pure ⟨rfl, rfl⟩
 ·rintro obj s₁ ⟨rfl, rfl⟩
  have hn : (s.heap.push { cls := .type "dict", data := .dict #[] 0 }).get? s.heap.objs.size = some { cls := .type "dict", data := .dict #[] 0 } := Heap.get?_push_size _ rfl
  have hT : ({ s with heap := s.heap.push { cls := .type "dict", data := .dict #[] 0 } } : Shared).TypeIs (.ref s.heap.objs.size) "dict" := ⟨_, hn, rfl⟩
  have k1 : ∀ b o, s.heap.get? b = some o → (s.heap.push { cls := .type "dict", data := .dict #[] 0 }).get? b = some o := fun b o q => Heap.get?_push_of_some _ q
  have hll := k1 _ _ hl
  refine ⟨hT, F.args_dict_init_2 _ _, ?_⟩
  unfold Builtin.«dict.__init__»
  refine wpAny_bind ?_
  unfold Builtin.Dict.selfAndRest
  refine wpAny_bind (m := Builtin.Dict.notOrdered _ _) (wpAny_notOrdered_dict hT ?_)
  refine wpAny_bind (m := Builtin.Dict.addrOf _) (wpAny_of_eq (a := s.heap.objs.size) rfl (wpAny_pure ?_))
  dsimp only
  unfold Builtin.Dict.updateCommon Builtin.Dict.updateFrom
  dsimp only
  refine wpAny_bind (wpAny_typeOf ⟨_, hll, rfl⟩ ?_)
  rw [if_pos (by decide)]
  refine wpAny_bind (getAttr?_list (A := A.in1.in1) (s := { s with heap := s.heap.push { cls := .type "dict", data := .dict #[] 0 } }) hh hll fun h2 tk2 k2 => ?_)
  rw [if_pos (show (none : Option Value).isNone = true from rfl)]
  refine wpAny_bind (wpAny_rule ?_)
  have hl2 := k2 _ _ hll
  have hl2' : h2.IsList l items := ⟨_, hl2, rfl, k, rfl⟩
  refine wpAny_bind (wpAny_pyIter_list (s := { s with heap := h2, toks := tk2 }) hl2' ?_)
  have hn2 := k2 _ _ hn
  have lt2 : s.heap.objs.size < h2.objs.size := Heap.lt_size hn2
  have ll2 : l < h2.objs.size := Heap.lt_size hl2
  have lls : l < s.heap.objs.size := Heap.lt_size hl
  have k3 : ∀ b o, h2.get? b = some o → (h2.push { cls := Value.type "list_iterator", data := Data.fields #[Value.ref l, Value.int 0 0] }).get? b = some o := fun b o q => Heap.get?_push_of_some _ q
  refine wpAny_pure ⟨plainId_quiet plain_dict_loop _, ?_⟩
  have fresh0 : ∀ b, s.heap.objs.size ≤ b → s.heap.get? b = none := fun b hb => by
   cases e : s.heap.get? b with
   | none => rfl
   | some o => exact absurd (Heap.lt_size e) (Nat.not_lt.mpr hb)
  refine dict_loop (A := A.in1) (knd := knd) (d := s.heap.objs.size) (it := h2.objs.size) (l := l) (h₀ := s.heap) hh hroom qs hq hitem hkey hz (Nat.ne_of_lt lt2) (Nat.ne_of_gt lls) (Nat.ne_of_lt ll2) (fresh0 _ (Nat.le_refl _)) (fresh0 _ (Nat.le_of_lt lt2)) items.size 0 _ [] (by omega) (Nat.zero_le _) (fun b o q => k3 _ _ (k2 _ _ (k1 _ _ q))) ⟨_, Heap.get?_push_size _ rfl, rfl, rfl⟩ (hl2'.push _) ?_ (Nat.zero_le _) (fun x hx => by cases hx) fun h' tk kp hd => ⟨rfl, h h' tk kp hd⟩
  exact ⟨_, #[], 0, k3 _ _ hn2, ⟨rfl, rfl, rfl⟩, rfl, rfl, (fun x hx => (List.not_mem_nil hx).elim), List.nodup_nil⟩
end
end PySem
set_option Elab.async false
set_option linter.all false
set_option maxRecDepth 100000
set_option maxHeartbeats 1000000
namespace SW
open PySem PySem.Spec PyProof.Rows L2 WM TS
def KvP (H : Hp) (a : Addr) (q : Pt × V) : Prop := ∃ b, H a = some (.tup [.ref b, q.2]) ∧ H b = some (.tup [.int q.1.1, .int q.1.2])
def putAllK : List (List Key × V) → List (Pt × V) → List (List Key × V)
 | kvs, [] => kvs
 | kvs, q :: r => putAllK (putK kvs (ptK q.1) q.2) r
theorem putAllK_length : ∀ (qs : List (Pt × V)) (kvs : List (List Key × V)), (putAllK kvs qs).length ≤ kvs.length + qs.length
 | [], kvs => Nat.le_refl _
 | q :: r, kvs => by
  have := putAllK_length r (putK kvs (ptK q.1) q.2)
  have h2 := length_putK kvs (ptK q.1) q.2
  show (putAllK (putK kvs (ptK q.1) q.2) r).length ≤ _
  rw [List.length_cons]
  omega
theorem kt_all {H : Hp} {qs : List (Pt × V)} {bs : List (List Key × Addr × Value)} {kvs : List (List Key × V)} {xs : List (List Key × Addr × Value)} (h : KT H kvs xs)
  (hp : Paired (fun (q : Pt × V) (x : List Key × Addr × Value) => x.1 = ptK q.1 ∧ H x.2.1 = some (.tup ((ptK q.1).map kV)) ∧ RelV q.2 x.2.2) qs bs) : KT H (putAllK kvs qs) (putAllH xs bs) := by
 induction hp generalizing kvs xs with
 | nil => exact h
 | @cons q x r bs e t ih =>
  obtain ⟨e1, e2, e3⟩ := e
  show KT H (putAllK (putK kvs (ptK q.1) q.2) r) (putAllH (storedH xs x.1 x.2.1 x.2.2) bs)
  rw [e1]
  exact ih (h.put (ptK q.1) e2 e3)
section
variable {X : Cx}
theorem call_dictP (hc : X.calm = true) (hu : X.A.units + 4 < cLine) : CallR X (.type "dict") (fun xs H Q => ∃ (p : Addr) (as : List Addr) (qs : List (Pt × V)), xs = [.ref p] ∧ H p = some (.lst (as.map V.ref)) ∧ Paired (KvP H) as qs ∧ qs.length ≤ 100000 ∧
  ∀ d, H d = none → Q (.ref d) (upd H d (.dT (putAllK [] qs)))) := by
 intro pins s σ H xs us Q I r h
 refine gate' fun gG hgG => ?_
 obtain ⟨p, as, qs, rfl, hp, hP, hz, q⟩ := h
 obtain ⟨u, rfl, ru⟩ := vals1 r
 refine hgG.go ?_
 clear hgG
 cases (show u = Value.ref p from ru)
 obtain ⟨hz2, its, n, rv, ho⟩ := (show ObjOk X.prog X.w H s.heap p (.lst (as.map V.ref)) from I.hok p _ hp)
 have ei := vals_refs rv
 subst ei
 have key : ∃ bs : List (List Key × Addr × Value), Paired (fun (q : Pt × V) (x : List Key × Addr × Value) => x.1 = ptK q.1 ∧ H x.2.1 = some (.tup ((ptK q.1).map kV)) ∧ RelV q.2 x.2.2) qs bs ∧ bs.length = as.length ∧ ∀ (i : Nat) x, bs[i]? = some x → ∃ a, as[i]? = some a ∧ PairIs s.heap (.ref a) x.2.1 x.2.2 := by
  clear q hz hz2 rv ho hp
  induction hP with
  | nil => exact ⟨[], .nil, rfl, fun i x hx => by simp at hx⟩
  | @cons a q' as' qs' hab t ih =>
   refine gate' fun gG hgG => ?_
   obtain ⟨bs, h1, h2, h3⟩ := ih
   obtain ⟨b, hb1, hb2⟩ := hab
   obtain ⟨its, rv2, ⟨o, ho, hc', n', hd⟩, _⟩ := I.tuple (SqT.of hb1)
   refine hgG.go ?_
   clear hgG
   cases rv2 with
   | cons r1 rr =>
    cases rr with
    | cons r2 rr =>
     cases rr
     cases (show _ = Value.ref b from r1)
     rename_i w2
     refine ⟨(ptK q'.1, b, w2) :: bs, .cons ⟨rfl, hb2, r2⟩ h1, by rw [List.length_cons, List.length_cons, h2], fun i x hx => ?_⟩
     cases i with
     | zero =>
      simp at hx
      subst hx
      exact ⟨a, rfl, a, o, n', rfl, ho, hc', hd⟩
     | succ i =>
      obtain ⟨a', ha', hp'⟩ := h3 i x (by simpa using hx)
      exact ⟨a', by simpa using ha', hp'⟩
 obtain ⟨bs, hb1, hb2, hb3⟩ := key
 have hal : as.length = qs.length := Paired.length hP
 refine call_dictL (knd := tupleKind (mixKind X.prog X.w)) (I.ok.hd hc) (show X.A.units + 1 + 1 < cLine by omega) ho bs (by rw [hb2]; simp) (by simp; omega) (fun i x hx => ?_) (fun x hx h kp => ?_) fun h' tk kp hd => ?_
 ·obtain ⟨a, ha, hp'⟩ := hb3 i x hx
  refine ⟨.ref a, ?_, hp'⟩
  simp [ha]
 ·obtain ⟨i, hi⟩ := List.mem_iff_getElem?.mp hx
  have hm : ∃ q', x.1 = ptK q' ∧ H x.2.1 = some (.tup ((ptK q').map kV)) := by
   clear hb2 hb3 hi
   have go : ∀ {qs : List (Pt × V)} {bs : List (List Key × Addr × Value)}, Paired (fun (q : Pt × V) (x : List Key × Addr × Value) => x.1 = ptK q.1 ∧ H x.2.1 = some (.tup ((ptK q.1).map kV)) ∧ RelV q.2 x.2.2) qs bs → x ∈ bs → ∃ q', x.1 = ptK q' ∧ H x.2.1 = some (.tup ((ptK q').map kV)) := by
    intro qs bs hh
    induction hh with
    | nil => intro hx; cases hx
    | cons ha _ ih =>
     intro hx
     rcases List.mem_cons.mp hx with rfl | hx
     ·exact ⟨_, ha.1, ha.2.1⟩
     ·exact ih hx
   exact go hb1 hx
  obtain ⟨q', e1, e2⟩ := hm
  rw [e1]
  refine gate' fun gG hgG => ?_
  obtain ⟨o, items, n2, h1, h2, h3, h4⟩ := key_of I.hok e2
  refine hgG.go ?_
  clear hgG
  exact ⟨o, items, n2, kp _ _ h1, h2, h3, h4⟩
 ·have hfree : H s.heap.objs.size = none := I.hok.fresh (Nat.le_refl _)
  refine gate' fun gG hgG => ?_
  have hkt : KT H (putAllK [] qs) (putAllH [] bs) := kt_all .nil hb1
  obtain ⟨o, es, ep, g1, g2, g3, g4, g5, g6⟩ := hd
  refine hgG.go ?_
  clear hgG
  have hlen := putAllK_length qs []
  have esz : sizeLine = 16777216 := PySem.sizeLine_eq
  have hsys : (s.heap.objs.size == sysModules) = false := by
   have := I.big
   exact beq_eq_false_iff_ne.mpr (Nat.ne_of_gt this)
  refine ⟨.ref s.heap.objs.size, _, I.laid (t' := tk) (o := .dT (putAllK [] qs)) (fun b u hb => kp b u hb) (Nat.le_refl _) ⟨by simp at hlen; omega, hsys, putAllH [] bs, hkt.keeps fun c ys ec => ?_, o, es, ep, g1, g2, g3, g4, g6⟩, rfl, q _ hfree⟩
  rw [upd_ne (ne_of_none ec hfree)]
  exact ec
end
end SW
set_option Elab.async false
set_option linter.all false
set_option maxRecDepth 100000
set_option maxHeartbeats 4000000
namespace SW
open PySem L2 WM TS
theorem rise_uniq : ∀ {as bs : List Pt}, as.Pairwise (fun a b => ltP a b = true) → bs.Pairwise (fun a b => ltP a b = true) → (∀ q, q ∈ as ↔ q ∈ bs) → as = bs := by
 intro as bs ha hb h
 have nd : ∀ {l : List Pt}, l.Pairwise (fun a b => ltP a b = true) → l.Nodup := fun hl => by
  rw [List.nodup_iff_pairwise_ne]
  refine hl.imp fun {a b} hab e => ?_
  rw [e, ltP_irrefl] at hab
  cases hab
 have hp : as.Perm bs := (List.perm_ext_iff_of_nodup (nd ha) (nd hb)).mpr h
 exact hp.eq_of_pairwise (fun a b _ _ x y => by rw [ltP_asym x] at y; cases y) ha hb
theorem rise_uniqQ {as bs : List (Pt × Int)} (ha : as.Pairwise fun a b => ltP a.1 b.1 = true) (hb : bs.Pairwise fun a b => ltP a.1 b.1 = true) (h : ∀ q n, (q, n) ∈ as ↔ (q, n) ∈ bs) : as = bs := by
 have nd : ∀ {l : List (Pt × Int)}, l.Pairwise (fun a b => ltP a.1 b.1 = true) → l.Nodup := fun hl => by
  rw [List.nodup_iff_pairwise_ne]
  refine hl.imp fun {a b} hab e => ?_
  rw [e, ltP_irrefl] at hab
  cases hab
 have hp : as.Perm bs := (List.perm_ext_iff_of_nodup (nd ha) (nd hb)).mpr fun q => h q.1 q.2
 exact hp.eq_of_pairwise (fun a b _ _ x y => by rw [ltP_asym x] at y; cases y) ha hb
def InW (l : List Nat) (q : Pt) : Prop := ¬ aroundE q l = 0 ∧ q ∉ plOf l
def inL' (l : List Nat) (qs : List (Pt × Int)) : List Pt := (qs.map (·.1)).filter fun q => decide (q ∉ plOf l)
theorem inL_mem {l : List Nat} {qs : List (Pt × Int)} (hq : IsSq l qs) (q : Pt) : q ∈ inL' l qs ↔ InW l q := by
 unfold inL' InW
 rw [List.mem_filter, List.mem_map, decide_eq_true_iff]
 constructor
 ·rintro ⟨⟨⟨q', n⟩, hm, rfl⟩, h2⟩
  obtain ⟨e, ne⟩ := (hq.mem q' n).mp hm
  exact ⟨by rw [← e]; exact ne, h2⟩
 ·rintro ⟨h1, h2⟩
  exact ⟨⟨(q, aroundE q l), (hq.mem _ _).mpr ⟨rfl, h1⟩, rfl⟩, h2⟩
theorem inL_rise {l : List Nat} {qs : List (Pt × Int)} (hq : IsSq l qs) : (inL' l qs).Pairwise fun a b => ltP a b = true := by
 unfold inL'
 exact List.Pairwise.filter _ (List.pairwise_map.mpr hq.rise)
theorem inL_nodup {l : List Nat} {qs : List (Pt × Int)} (hq : IsSq l qs) : (inL' l qs).Nodup := by
 rw [List.nodup_iff_pairwise_ne]
 refine (inL_rise hq).imp fun {a b} hab e => ?_
 rw [e, ltP_irrefl] at hab
 cases hab
theorem in_le {l m : List Nat} {qs rs : List (Pt × Int)} (hq : IsSq l qs) (hr : IsSq m rs) (f : Pt → Pt) (hf : ∀ a b, f a = f b → a = b) (h : ∀ q, InW l q → InW m (f q)) : (inL' l qs).length ≤ (inL' m rs).length := by
 have nd : ((inL' l qs).map f).Nodup := by
  rw [List.nodup_iff_pairwise_ne, List.pairwise_map]
  exact (List.nodup_iff_pairwise_ne.mp (inL_nodup hq)).imp fun {a b} hab e => hab (hf a b e)
 have := nodup_len nd (m := inL' m rs) fun q hm => by
  obtain ⟨p, hp, rfl⟩ := List.mem_map.mp hm
  exact (inL_mem hr _).mpr (h p ((inL_mem hq p).mp hp))
 rw [List.length_map] at this
 exact this
theorem inW_mir {l : List Nat} (h : IsW l) (h0 : posOf l = (0, 0)) {q : Pt} (hq : InW l q) : InW (mirL l) (flip q) := by
 obtain ⟨h1, h2⟩ := hq
 have h0' : posOf (mirL l) = (0, 0) := by
  rw [posOf_mirL h, h0]
  rfl
 have hn : flip q ∉ plOf (mirL l) := by
  rw [plOf_mirL h]
  intro z
  obtain ⟨p, hp, e⟩ := List.mem_map.mp z
  have : p = q := by
   have e1 := congrArg Prod.fst e
   have e2 := congrArg Prod.snd e
   exact Prod.ext (by have : -p.1 = -q.1 := e1; omega) e2
  exact h2 (this ▸ hp)
 refine ⟨?_, hn⟩
 have := (around_four (x := -q.1) (y := q.2) (isW_mirL h) h0' hn).1
 have e2 := around_mir (q := q) h h0
 show ¬ aroundE (-q.1, q.2) (mirL l) = 0
 rw [← this, e2]
 omega
theorem inW_back {l : List Nat} (h : IsW l) (h0 : posOf l = (0, 0)) {q : Pt} (hq : InW l q) : InW (backL l) q := by
 obtain ⟨h1, h2⟩ := hq
 refine ⟨?_, ?_⟩
 ·rw [around_back h h0]
  omega
 ·rw [plOf_backL h h0, List.mem_reverse]
  exact h2
theorem inW_turn1 {l : List Nat} (h : IsW l) (h0 : posOf l = (0, 0)) {q : Pt} (hq : InW l q) : InW (turnL 1 l) (rot 1 q) := by
 obtain ⟨h1, h2⟩ := hq
 have h0' : posOf (turnL 1 l) = (0, 0) := by
  rw [posOf_turnL (by decide) h, h0]
  rfl
 have er : rot 1 q = (-q.2, q.1) := rfl
 have hn : rot 1 q ∉ plOf (turnL 1 l) := by
  rw [plOf_turnL (by decide) h]
  intro z
  obtain ⟨p, hp, e⟩ := List.mem_map.mp z
  have : p = q := by
   have e1 : -p.2 = -q.2 := congrArg Prod.fst e
   have e2 : p.1 = q.1 := congrArg Prod.snd e
   exact Prod.ext e2 (by omega)
  exact h2 (this ▸ hp)
 refine ⟨?_, hn⟩
 rw [er] at hn ⊢
 have := (around_four (x := -q.2) (y := q.1) (isW_turnL _ _) h0' hn).1
 rw [← this, around_turn1 h h0]
 exact h1
theorem inW_rotL {k : Nat} {l : List Nat} (h : IsW l) (h0 : posOf l = (0, 0)) (hl : l ≠ []) {q : Pt} (hq : InW (rotL k l) q) : InW l (addP (posOf (l.take k)) q) := by
 obtain ⟨h1, h2⟩ := hq
 refine ⟨by rw [← around_rotL h0]; exact h1, fun z => h2 ?_⟩
 have hr0 : posOf (rotL k l) = (0, 0) := by
  have e1 : posOf (rotL k l) = posOf (l.take k ++ l.drop k) := by
   unfold rotL
   rw [posOf_append, posOf_append]
   exact Prod.ext (by show _ + _ = _ + _; omega) (by show _ + _ = _ + _; omega)
  rw [e1, List.take_append_drop]
  exact h0
 have hrl : rotL k l ≠ [] := fun e => hl (List.eq_nil_of_length_eq_zero (by rw [← rotL_length k l, e]; rfl))
 rw [mem_plOf h0 hl] at z
 rw [mem_plOf hr0 hrl]
 have := (perm_rotL (k := k) h0).mem_iff.mpr z
 obtain ⟨p, hp, e⟩ := List.mem_map.mp this
 have : p = q := by
  have e1 : (posOf (l.take k)).1 + p.1 = (posOf (l.take k)).1 + q.1 := congrArg Prod.fst e
  have e2 : (posOf (l.take k)).2 + p.2 = (posOf (l.take k)).2 + q.2 := congrArg Prod.snd e
  exact Prod.ext (by omega) (by omega)
 exact this ▸ hp
theorem flip_inj (a b : Pt) (e : WM.flip a = WM.flip b) : a = b := by
 have e1 : -a.1 = -b.1 := congrArg (fun p : Pt => p.1) e
 have e2 : a.2 = b.2 := (congrArg (fun p : Pt => p.2) e : (WM.flip a).2 = (WM.flip b).2)
 exact Prod.ext (by omega) e2
theorem rot1_inj (a b : Pt) (e : rot 1 a = rot 1 b) : a = b := by
 have e1 : -a.2 = -b.2 := congrArg Prod.fst e
 have e2 : a.1 = b.1 := congrArg Prod.snd e
 exact Prod.ext e2 (by omega)
theorem addP_inj (t a b : Pt) (e : addP t a = addP t b) : a = b := by
 have e1 : t.1 + a.1 = t.1 + b.1 := congrArg Prod.fst e
 have e2 : t.2 + a.2 = t.2 + b.2 := congrArg Prod.snd e
 exact Prod.ext (by omega) (by omega)
theorem pos0_mir {l : List Nat} (h : IsW l) (h0 : posOf l = (0, 0)) : posOf (mirL l) = (0, 0) := by
 rw [posOf_mirL h, h0]
 rfl
theorem pos0_turn {q : Nat} (hq : q < 4) {l : List Nat} (h : IsW l) (h0 : posOf l = (0, 0)) : posOf (turnL q l) = (0, 0) := by
 rw [posOf_turnL hq h, h0]
 exact rot_zero q
theorem pos0_back {l : List Nat} (h : IsW l) (h0 : posOf l = (0, 0)) : posOf (backL l) = (0, 0) := by
 rw [posOf_backL h, h0]
 rfl
theorem pos0_rot {k : Nat} {l : List Nat} (h0 : posOf l = (0, 0)) : posOf (rotL k l) = (0, 0) := by
 have e1 : posOf (rotL k l) = posOf (l.take k ++ l.drop k) := by
  unfold rotL
  rw [posOf_append, posOf_append]
  exact Prod.ext (by show _ + _ = _ + _; omega) (by show _ + _ = _ + _; omega)
 rw [e1, List.take_append_drop]
 exact h0
theorem sq_ex {l : List Nat} (h : IsW l) (h0 : posOf l = (0, 0)) (hl : l.length ≤ 1000) : ∃ qs, IsSq l qs := by
 let S := (upr (0, 0) l).mergeSort fun a b => !ltT b a
 have hp : S.Perm (upr (0, 0) l) := List.mergeSort_perm _ _
 have hs : S.Pairwise leT := by
  refine (List.pairwise_mergeSort (le := fun a b => !ltT b a) (fun a b c h1 h2 => ?_) (fun a b => ?_) (upr (0, 0) l)).imp fun {a b} hab => le_of_ltT (by simpa using hab)
  ·simp only [Bool.not_eq_true'] at *
   unfold ltT at *
   have h1 := of_decide_eq_false h1
   have h2 := of_decide_eq_false h2
   exact decide_eq_false (lex_neg h2 h1)
  ·unfold ltT
   by_cases z : b.1 < a.1 ∨ (b.1 = a.1 ∧ (b.2.1 < a.2.1 ∨ (b.2.1 = a.2.1 ∧ b.2.2 < a.2.2)))
   ·rw [decide_eq_false (p := a.1 < b.1 ∨ (a.1 = b.1 ∧ (a.2.1 < b.2.1 ∨ (a.2.1 = b.2.1 ∧ a.2.2 < b.2.2)))) (lex_asym z)]
    simp
   ·rw [decide_eq_false z]
    simp
 let Q := (scan 0 S).mergeSort fun a b => !ltQ b a
 have hq : Q.Perm (scan 0 S) := List.mergeSort_perm _ _
 have ho : Q.Pairwise fun a b => ltQ b a = false := by
  refine (List.pairwise_mergeSort (le := fun a b => !ltQ b a) (fun a b c h1 h2 => ?_) (fun a b => ?_) (scan 0 S)).imp fun {a b} hab => by simpa using hab
  ·simp only [Bool.not_eq_true'] at *
   rw [← Bool.not_eq_true, ltQ_iff] at *
   exact lex_neg h2 h1
  ·cases e : ltQ b a with
   | false => simp
   | true =>
    have : ltQ a b = false := by
     rw [ltQ_iff] at e
     rw [← Bool.not_eq_true, ltQ_iff]
     exact lex_asym e
    rw [this]
    rfl
 exact ⟨Q, isSq_of h h0 hl hp hs hq ho⟩
theorem in_mir {l : List Nat} {qs rs : List (Pt × Int)} (h : IsW l) (h0 : posOf l = (0, 0)) (hq : IsSq l qs) (hr : IsSq (mirL l) rs) : (inL' (mirL l) rs).length = (inL' l qs).length := by
 refine Nat.le_antisymm ?_ (in_le hq hr flip flip_inj fun q => inW_mir h h0)
 refine in_le hr hq flip flip_inj fun q hh => ?_
 have := inW_mir (isW_mirL h) (pos0_mir h h0) hh
 rw [mirL_mirL h] at this
 exact this
theorem in_back {l : List Nat} {qs rs : List (Pt × Int)} (h : IsW l) (h0 : posOf l = (0, 0)) (hq : IsSq l qs) (hr : IsSq (backL l) rs) : (inL' (backL l) rs).length = (inL' l qs).length := by
 refine Nat.le_antisymm ?_ (in_le hq hr id (fun a b e => e) fun q => inW_back h h0)
 refine in_le hr hq id (fun a b e => e) fun q hh => ?_
 have := inW_back (isW_backL l) (pos0_back h h0) hh
 rw [backL_backL h] at this
 exact this
theorem turn_one {k : Nat} (l : List Nat) : turnL 1 (turnL k l) = turnL ((1 + k) % 4) l := by
 unfold turnL
 rw [List.map_map]
 refine List.map_congr_left fun c _ => ?_
 exact tn_tn 1 k c
theorem in_turn {l : List Nat} (h : IsW l) (h0 : posOf l = (0, 0)) (hl : l.length ≤ 1000) {k : Nat} (hk : k < 4) {qs rs : List (Pt × Int)} (hq : IsSq l qs) (hr : IsSq (turnL k l) rs) : (inL' (turnL k l) rs).length = (inL' l qs).length := by
 have tl : ∀ k, (turnL k l).length ≤ 1000 := fun k => by unfold turnL; rw [List.length_map]; exact hl
 have z0 : turnL 0 l = l := turnL_zero h
 obtain ⟨r1, h1⟩ := sq_ex (isW_turnL 1 l) (pos0_turn (by decide) h h0) (tl 1)
 obtain ⟨r2, h2⟩ := sq_ex (isW_turnL 2 l) (pos0_turn (by decide) h h0) (tl 2)
 obtain ⟨r3, h3⟩ := sq_ex (isW_turnL 3 l) (pos0_turn (by decide) h h0) (tl 3)
 have i0 := in_le hq h1 (rot 1) rot1_inj fun q => inW_turn1 h h0
 have i1 : (inL' (turnL 1 l) r1).length ≤ (inL' (turnL 2 l) r2).length := in_le h1 h2 (rot 1) rot1_inj fun q hh => by
  have := inW_turn1 (isW_turnL 1 l) (pos0_turn (by decide) h h0) hh
  rw [turn_one] at this
  exact this
 have i2 : (inL' (turnL 2 l) r2).length ≤ (inL' (turnL 3 l) r3).length := in_le h2 h3 (rot 1) rot1_inj fun q hh => by
  have := inW_turn1 (isW_turnL 2 l) (pos0_turn (by decide) h h0) hh
  rw [turn_one] at this
  exact this
 have i3 : (inL' (turnL 3 l) r3).length ≤ (inL' l qs).length := in_le h3 hq (rot 1) rot1_inj fun q hh => by
  have := inW_turn1 (isW_turnL 3 l) (pos0_turn (by decide) h h0) hh
  rw [turn_one] at this
  rw [show (1 + 3) % 4 = 0 from rfl, z0] at this
  exact this
 have uq : ∀ {m : List Nat} {a b : List (Pt × Int)}, IsSq m a → IsSq m b → a = b := fun ha hb => rise_uniqQ ha.rise hb.rise fun q n => (ha.mem q n).trans (hb.mem q n).symm
 rcases (by omega : k = 0 ∨ k = 1 ∨ k = 2 ∨ k = 3) with rfl | rfl | rfl | rfl
 ·rw [z0] at hr ⊢
  rw [uq hr hq]
 ·rw [uq hr h1]; omega
 ·rw [uq hr h2]; omega
 ·rw [uq hr h3]; omega
theorem rot_back {k : Nat} {l : List Nat} (hk : k ≤ l.length) : rotL (l.length - k) (rotL k l) = l := by
 unfold rotL
 have e1 : (l.drop k).length = l.length - k := List.length_drop
 rw [← e1, List.drop_left, List.take_left, List.take_append_drop]
theorem in_rot {l : List Nat} (h : IsW l) (h0 : posOf l = (0, 0)) (hne : l ≠ []) {k : Nat} (hk : k ≤ l.length) {qs rs : List (Pt × Int)} (hq : IsSq l qs) (hr : IsSq (rotL k l) rs) : (inL' (rotL k l) rs).length = (inL' l qs).length := by
 refine Nat.le_antisymm (in_le hr hq (addP (posOf (l.take k))) (addP_inj _) fun q => inW_rotL h h0 hne) ?_
 have e := rot_back hk
 refine in_le hq hr (addP (posOf ((rotL k l).take (l.length - k)))) (addP_inj _) fun q hh => ?_
 refine inW_rotL (isW_rotL h) (pos0_rot h0) (fun z => hne (List.eq_nil_of_length_eq_zero (by rw [← rotL_length k l, z]; rfl))) ?_
 rw [e]
 exact hh
theorem cnt_trail {l : List Nat} (h0 : posOf l = (0, 0)) (hl : l ≠ []) : (cntP l).Perm (trail (0, 0) l) := by
 unfold cntP
 rw [if_pos ⟨hl, h0⟩]
 have e : plOf l = (0, 0) :: trail (0, 0) l := places_trail l (0, 0)
 obtain ⟨pre, ep⟩ := trail_last (l := l) (p := (0, 0)) hl
 have eg : goP (0, 0) l = (0, 0) := h0
 rw [eg] at ep
 rw [e, ep, ← List.cons_append, List.dropLast_concat]
 exact (List.perm_append_singleton (0, 0) pre).symm
theorem nodup_map_inj {f : Pt → Pt} (hf : ∀ a b, f a = f b → a = b) {l : List Pt} (h : l.Nodup) : (l.map f).Nodup := by
 rw [List.nodup_iff_pairwise_ne, List.pairwise_map]
 exact (List.nodup_iff_pairwise_ne.mp h).imp fun {a b} hab e => hab (hf a b e)
theorem nodup_of_map {f : Pt → Pt} {l : List Pt} (h : (l.map f).Nodup) : l.Nodup := by
 rw [List.nodup_iff_pairwise_ne, List.pairwise_map] at h
 exact List.nodup_iff_pairwise_ne.mpr (h.imp fun {a b} hab e => hab (by rw [e]))
theorem loop_mir {l : List Nat} (h : IsW l) (h0 : posOf l = (0, 0)) (hl : l ≠ []) (nd : (cntP l).Nodup) : (cntP (mirL l)).Nodup := by
 have hl' : mirL l ≠ [] := fun z => hl (List.map_eq_nil_iff.mp z)
 rw [(cnt_trail (pos0_mir h h0) hl').nodup_iff]
 have := trail_mirL (0, 0) h
 rw [show flip (0, 0) = (0, 0) from rfl] at this
 rw [this]
 exact nodup_map_inj flip_inj ((cnt_trail h0 hl).nodup_iff.mp nd)
theorem rot_inj {q : Nat} (hq : q < 4) (a b : Pt) (e : rot q a = rot q b) : a = b := by
 rcases (by omega : q = 0 ∨ q = 1 ∨ q = 2 ∨ q = 3) with rfl | rfl | rfl | rfl
 ·exact e
 ·exact rot1_inj a b e
 ·have e1 : -a.1 = -b.1 := congrArg Prod.fst e
  have e2 : -a.2 = -b.2 := congrArg Prod.snd e
  exact Prod.ext (by omega) (by omega)
 ·have e1 : a.2 = b.2 := congrArg Prod.fst e
  have e2 : -a.1 = -b.1 := congrArg Prod.snd e
  exact Prod.ext (by omega) e1
theorem loop_turn {q : Nat} (hq : q < 4) {l : List Nat} (h : IsW l) (h0 : posOf l = (0, 0)) (hl : l ≠ []) (nd : (cntP l).Nodup) : (cntP (turnL q l)).Nodup := by
 have hl' : turnL q l ≠ [] := fun z => hl (List.map_eq_nil_iff.mp z)
 rw [(cnt_trail (pos0_turn hq h h0) hl').nodup_iff]
 have := trail_turnL hq (0, 0) h
 rw [rot_zero] at this
 rw [this]
 exact nodup_map_inj (rot_inj hq) ((cnt_trail h0 hl).nodup_iff.mp nd)
theorem loop_rot {k : Nat} {l : List Nat} (h0 : posOf l = (0, 0)) (hl : l ≠ []) (nd : (cntP l).Nodup) : (cntP (rotL k l)).Nodup := by
 have hl' : rotL k l ≠ [] := fun e => hl (List.eq_nil_of_length_eq_zero (by rw [← rotL_length k l, e]; rfl))
 rw [(cnt_trail (pos0_rot h0) hl').nodup_iff]
 exact nodup_of_map ((perm_rotL h0).nodup_iff.mpr ((cnt_trail h0 hl).nodup_iff.mp nd))
theorem loop_back {l : List Nat} (h : IsW l) (h0 : posOf l = (0, 0)) (hl : l ≠ []) (nd : (cntP l).Nodup) : (cntP (backL l)).Nodup := by
 have hl' : backL l ≠ [] := fun e => hl (by
  have := congrArg List.length e
  unfold backL turnL at this
  rw [List.length_map, List.length_reverse] at this
  exact List.eq_nil_of_length_eq_zero this)
 unfold cntP at nd ⊢
 rw [if_pos ⟨hl, h0⟩] at nd
 rw [if_pos ⟨hl', pos0_back h h0⟩, plOf_backL h h0]
 have e : plOf l = (0, 0) :: trail (0, 0) l := places_trail l (0, 0)
 obtain ⟨pre, ep⟩ := trail_last (l := l) (p := (0, 0)) hl
 have eg : goP (0, 0) l = (0, 0) := h0
 rw [eg] at ep
 rw [e, ep] at nd ⊢
 rw [← List.cons_append, List.dropLast_concat] at nd
 rw [List.reverse_cons, List.dropLast_concat, List.reverse_append]
 show ((0, 0) :: pre.reverse).Nodup
 rw [List.nodup_cons] at nd ⊢
 exact ⟨by rw [List.mem_reverse]; exact nd.1, (List.reverse_perm pre).nodup_iff.mpr nd.2⟩
end SW
set_option Elab.async false
set_option linter.all false
set_option maxRecDepth 100000
set_option maxHeartbeats 4000000
namespace SW
open PySem L2 WM TS
def hB : List Nat → Int → Nat
 | [], _ => 0
 | b :: r, x => if x = (r.length : Int) then b else hB r x
theorem hB_out : ∀ {rb : List Nat} {x : Int}, ¬ (0 ≤ x ∧ x < (rb.length : Int)) → hB rb x = 0
 | [], _, _ => rfl
 | b :: r, x, h => by
  unfold hB
  rw [List.length_cons] at h
  rw [if_neg (by omega)]
  exact hB_out (by omega)
theorem hB_get : ∀ {rb : List Nat} {x : Int}, 0 ≤ x → x < (rb.length : Int) → rb.reverse.getD x.toNat 0 = hB rb x
 | [], x, h1, h2 => by simp at h2; omega
 | b :: r, x, h1, h2 => by
  rw [List.length_cons] at h2
  unfold hB
  rw [List.reverse_cons, List.getD_eq_getElem?_getD]
  by_cases e : x = (r.length : Int)
  ·rw [if_pos e, List.getElem?_append_right (by rw [List.length_reverse]; omega), List.length_reverse, show x.toNat - r.length = 0 by omega]
   rfl
  ·rw [if_neg e, List.getElem?_append_left (by rw [List.length_reverse]; omega), ← List.getD_eq_getElem?_getD]
   exact hB_get h1 (by omega)
theorem tops_low : ∀ {rb : List Nat} {q : Pt}, Pos1 rb → q ∈ trail ((rb.length : Int), ((rb.headD 0 : Nat) : Int)) (tops rb) → (min (hB rb q.1) (hB rb (q.1 - 1)) : Int) ≤ q.2
 | [], _, _, h => nomatch h
 | b :: r, q, hp, h => by
  have hr : Pos1 r := fun x hx => hp x (List.mem_cons_of_mem _ hx)
  have el : ((b :: r).length : Int) = (r.length : Int) + 1 := by rw [List.length_cons]; omega
  rw [el] at h
  have h' : q ∈ stepP ((r.length : Int) + 1, (b : Int)) 119 :: trail (stepP ((r.length : Int) + 1, (b : Int)) 119) (vert b (r.headD 0) ++ tops r) := h
  rw [step_w, trail_append, go_vert] at h'
  have hn : hB (b :: r) (r.length : Int) = b := by unfold hB; rw [if_pos rfl]
  have hh : hB (b :: r) ((r.length : Int) - 1) = r.headD 0 := by
   unfold hB
   rw [if_neg (by omega)]
   cases r with
   | nil => rfl
   | cons c r =>
    unfold hB
    rw [if_pos (by rw [List.length_cons]; omega)]
    rfl
  rcases List.mem_cons.mp h' with rfl | h'
  ·show (min (hB (b :: r) (r.length : Int)) (hB (b :: r) ((r.length : Int) - 1)) : Int) ≤ (b : Int)
   rw [hn]
   omega
  ·rcases List.mem_append.mp h' with h' | h'
   ·obtain ⟨e1, e2⟩ := trail_vert h'
    rw [e1, hn, hh]
    omega
   ·have ih := tops_low hr h'
    obtain ⟨_, i2, _⟩ := trail_tops hr h'
    have k1 : hB (b :: r) q.1 = hB r q.1 := by unfold hB; rw [if_neg (by omega)]; cases r <;> rfl
    have k2 : hB (b :: r) (q.1 - 1) = hB r (q.1 - 1) := by unfold hB; rw [if_neg (by omega)]; cases r <;> rfl
    rw [k1, k2]
    exact ih
theorem around_bars {rb : List Nat} (q : Pt) : aroundE q (rimB rb) = if 0 ≤ q.2 ∧ q.2 < (hB rb q.1 : Int) then 1 else 0 := by
 rw [around_rimB]
 by_cases h : 0 ≤ q.1 ∧ q.1 < (rb.length : Int)
 ·rw [if_pos h, hB_get h.1 h.2]
  unfold b01
  by_cases z : 0 ≤ q.2 ∧ q.2 < (hB rb q.1 : Int)
  ·rw [if_pos z, decide_eq_true z]
   rfl
  ·rw [if_neg z, decide_eq_false z]
   rfl
 ·rw [if_neg h, hB_out h, if_neg (by omega)]
def wIn (rb : List Nat) (q : Pt) : Prop := 1 ≤ q.2 ∧ q.2 < (hB rb q.1 : Int) ∧ q.2 < (hB rb (q.1 - 1) : Int)
theorem in_bars {rb : List Nat} (hp : Pos1 rb) (q : Pt) : InW (rimB rb) q ↔ wIn rb q := by
 have h := isW_rimB rb
 have h0 := closed_rimB rb
 constructor
 ·rintro ⟨h1, h2⟩
  obtain ⟨f1, f2, f3⟩ := around_four (x := q.1) (y := q.2) h h0 h2
  rw [around_bars] at f1 f2 f3
  have e0 : aroundE (q.1, q.2) (rimB rb) = aroundE q (rimB rb) := rfl
  rw [e0] at f1 f2 f3
  have h1' := h1
  rw [around_bars] at h1'
  have g0 : 0 ≤ q.2 ∧ q.2 < (hB rb q.1 : Int) := by
   by_cases z : 0 ≤ q.2 ∧ q.2 < (hB rb q.1 : Int)
   ·exact z
   ·rw [if_neg z] at h1'
    exact absurd rfl h1'
  have g1 : 0 ≤ q.2 ∧ q.2 < (hB rb (q.1 - 1) : Int) := by
   by_cases z : 0 ≤ q.2 ∧ q.2 < (hB rb (q.1 - 1) : Int)
   ·exact z
   ·rw [if_neg z] at f1
    exact absurd f1.symm h1
  have g2 : 0 ≤ q.2 - 1 := by
   by_cases z : 0 ≤ q.2 - 1 ∧ q.2 - 1 < (hB rb q.1 : Int)
   ·exact z.1
   ·rw [if_neg z] at f2
    exact absurd f2.symm h1
  exact ⟨by omega, g0.2, g1.2⟩
 ·rintro ⟨h1, h2, h3⟩
  have hx : 0 ≤ q.1 ∧ q.1 < (rb.length : Int) := by
   by_cases z : 0 ≤ q.1 ∧ q.1 < (rb.length : Int)
   ·exact z
   ·rw [hB_out z] at h2
    omega
  refine ⟨?_, fun z => ?_⟩
  ·rw [around_bars, if_pos ⟨by omega, h2⟩]
   decide
  ·have e : plOf (rimB rb) = (0, 0) :: trail (0, 0) (rimB rb) := places_trail _ (0, 0)
   rw [e] at z
   unfold rimB at z
   rw [trail_append, trail_append, go_ground, go_wall] at z
   rcases List.mem_cons.mp z with z | z
   ·rw [z] at h1
    exact absurd h1 (by decide)
   rcases List.mem_append.mp z with z | z
   ·obtain ⟨j, _, _, rfl⟩ := trail_rep_mem z
    have : (1 : Int) ≤ 0 + (j : Int) * 0 := h1
    omega
   rcases List.mem_append.mp z with z | z
   ·obtain ⟨j, _, _, rfl⟩ := trail_rep_mem z
    have : (rb.length : Int) + (j : Int) * 0 < (rb.length : Int) := hx.2
    omega
   ·have := tops_low hp z
    omega
def dueL (bs : List Nat) : List (Pt × Int) := (List.range bs.length).flatMap fun i => (List.range (bs.getD i 0)).map fun (u : Nat) => (((i : Int), (u : Int)), (1 : Int))
def innL (bs : List Nat) : List Pt := (List.range (bs.length - 1)).flatMap fun i => (List.range (min (bs.getD i 0) (bs.getD (i + 1) 0) - 1)).map fun (u : Nat) => (1 + (i : Int), 1 + (u : Int))
theorem flat_rise {α : Type} (f : Nat → List α) (lt : α → α → Prop) (h1 : ∀ i, (f i).Pairwise lt) (h2 : ∀ i j a b, i < j → a ∈ f i → b ∈ f j → lt a b) : ∀ n, ((List.range n).flatMap f).Pairwise lt
 | 0 => .nil
 | n + 1 => by
  rw [List.range_succ, List.flatMap_append, List.flatMap_cons, List.flatMap_nil, List.append_nil, List.pairwise_append]
  refine ⟨flat_rise f lt h1 h2 n, h1 n, fun a ha b hb => ?_⟩
  obtain ⟨i, hi, ha⟩ := List.mem_flatMap.mp ha
  exact h2 i n a b (List.mem_range.mp hi) ha hb
theorem dueL_rise (bs : List Nat) : (dueL bs).Pairwise fun a b => ltP a.1 b.1 = true := by
 refine flat_rise _ _ (fun i => ?_) (fun i j a b hij ha hb => ?_) _
 ·rw [List.pairwise_map]
  exact List.pairwise_lt_range.imp fun {a b} hab => by
   unfold ltP
   exact decide_eq_true (.inr ⟨rfl, by show (a : Int) < (b : Int); omega⟩)
 ·obtain ⟨u, _, rfl⟩ := List.mem_map.mp ha
  obtain ⟨v, _, rfl⟩ := List.mem_map.mp hb
  exact decide_eq_true (.inl (by show (i : Int) < (j : Int); omega))
theorem innL_rise (bs : List Nat) : (innL bs).Pairwise fun a b => ltP a b = true := by
 refine flat_rise _ _ (fun i => ?_) (fun i j a b hij ha hb => ?_) _
 ·rw [List.pairwise_map]
  exact List.pairwise_lt_range.imp fun {a b} hab => by
   unfold ltP
   exact decide_eq_true (.inr ⟨rfl, by show 1 + (a : Int) < 1 + (b : Int); omega⟩)
 ·obtain ⟨u, _, rfl⟩ := List.mem_map.mp ha
  obtain ⟨v, _, rfl⟩ := List.mem_map.mp hb
  exact decide_eq_true (.inl (by show 1 + (i : Int) < 1 + (j : Int); omega))
theorem bar_at {rb : List Nat} {i : Nat} (h : i < rb.length) : rb.reverse.getD i 0 = hB rb (i : Int) := by
 have := hB_get (rb := rb) (x := (i : Int)) (by omega) (by omega)
 rw [Int.toNat_natCast] at this
 exact this
theorem dueL_mem (rb : List Nat) (q : Pt) (n : Int) : (q, n) ∈ dueL rb.reverse ↔ n = aroundE q (rimB rb) ∧ n ≠ 0 := by
 rw [around_bars]
 unfold dueL
 rw [List.mem_flatMap, List.length_reverse]
 constructor
 ·rintro ⟨i, hi, hm⟩
  rw [List.mem_range] at hi
  obtain ⟨u, hu, e⟩ := List.mem_map.mp hm
  rw [List.mem_range, bar_at hi] at hu
  cases e
  dsimp only
  rw [if_pos ⟨by omega, by omega⟩]
  exact ⟨rfl, by decide⟩
 ·rintro ⟨h1, h2⟩
  have g : 0 ≤ q.2 ∧ q.2 < (hB rb q.1 : Int) := by
   by_cases z : 0 ≤ q.2 ∧ q.2 < (hB rb q.1 : Int)
   ·exact z
   ·rw [if_neg z] at h1
    exact absurd h1 h2
  rw [if_pos g] at h1
  have hx : 0 ≤ q.1 ∧ q.1 < (rb.length : Int) := by
   by_cases z : 0 ≤ q.1 ∧ q.1 < (rb.length : Int)
   ·exact z
   ·rw [hB_out z] at g
    omega
  refine ⟨q.1.toNat, List.mem_range.mpr (by omega), List.mem_map.mpr ⟨q.2.toNat, ?_, ?_⟩⟩
  ·rw [List.mem_range, bar_at (by omega), show ((q.1.toNat : Nat) : Int) = q.1 by omega]
   omega
  ·rw [show ((q.1.toNat : Nat) : Int) = q.1 by omega, show ((q.2.toNat : Nat) : Int) = q.2 by omega, h1]
theorem innL_mem (rb : List Nat) (q : Pt) : q ∈ innL rb.reverse ↔ wIn rb q := by
 unfold innL wIn
 rw [List.mem_flatMap, List.length_reverse]
 constructor
 ·rintro ⟨i, hi, hm⟩
  rw [List.mem_range] at hi
  obtain ⟨u, hu, e⟩ := List.mem_map.mp hm
  rw [List.mem_range, bar_at (by omega), bar_at (by omega)] at hu
  subst e
  dsimp only
  have e1 : (1 : Int) + (i : Int) = ((i + 1 : Nat) : Int) := by omega
  have e2 : (1 : Int) + (i : Int) - 1 = (i : Int) := by omega
  rw [e2, e1]
  omega
 ·rintro ⟨h1, h2, h3⟩
  have hx : 0 ≤ q.1 ∧ q.1 < (rb.length : Int) := by
   by_cases z : 0 ≤ q.1 ∧ q.1 < (rb.length : Int)
   ·exact z
   ·rw [hB_out z] at h2
    omega
  have hx' : 0 ≤ q.1 - 1 ∧ q.1 - 1 < (rb.length : Int) := by
   by_cases z : 0 ≤ q.1 - 1 ∧ q.1 - 1 < (rb.length : Int)
   ·exact z
   ·rw [hB_out z] at h3
    omega
  refine ⟨(q.1 - 1).toNat, List.mem_range.mpr (by omega), List.mem_map.mpr ⟨(q.2 - 1).toNat, ?_, ?_⟩⟩
  ·have e1 : (((q.1 - 1).toNat + 1 : Nat) : Int) = q.1 := by omega
   have e2 : (((q.1 - 1).toNat : Nat) : Int) = q.1 - 1 := by omega
   rw [List.mem_range, bar_at (by omega), bar_at (by omega), e1, e2]
   omega
  ·exact Prod.ext (by show 1 + (((q.1 - 1).toNat : Nat) : Int) = q.1; omega) (by show 1 + (((q.2 - 1).toNat : Nat) : Int) = q.2; omega)
theorem sq_bars {rb : List Nat} {qs : List (Pt × Int)} (hq : IsSq (rimB rb) qs) : qs = dueL rb.reverse := rise_uniqQ hq.rise (dueL_rise _) fun q n => (hq.mem q n).trans (dueL_mem rb q n).symm
theorem in_bars_list {rb : List Nat} (hp : Pos1 rb) {qs : List (Pt × Int)} (hq : IsSq (rimB rb) qs) : inL' (rimB rb) qs = innL rb.reverse := rise_uniq (inL_rise hq) (innL_rise _) fun q => ((inL_mem hq q).trans (in_bars hp q)).trans (innL_mem rb q).symm
theorem innC_snoc : ∀ (l : List Nat) (b c : Nat), innC (l ++ [b, c]) = innC (l ++ [b]) + (min b c - 1)
 | [], b, c => by simp [innC]
 | [x], b, c => by simp [innC]
 | x :: y :: l, b, c => by
  have ih := innC_snoc (y :: l) b c
  show (min x y - 1) + innC ((y :: l) ++ [b, c]) = (min x y - 1) + innC ((y :: l) ++ [b]) + (min b c - 1)
  omega
theorem innC_reverse : ∀ l : List Nat, innC l.reverse = innC l
 | [] => rfl
 | [_] => rfl
 | b :: c :: r => by
  have ih := innC_reverse (c :: r)
  rw [List.reverse_cons, List.reverse_cons, List.append_assoc]
  show innC (r.reverse ++ [c, b]) = (min b c - 1) + innC (c :: r)
  rw [innC_snoc, ← ih, List.reverse_cons, Nat.min_comm, Nat.add_comm]
theorem innL_length : ∀ bs : List Nat, (innL bs).length = innC bs
 | [] => rfl
 | [_] => rfl
 | b :: c :: r => by
  have ih := innL_length (c :: r)
  unfold innL at ih ⊢
  rw [List.length_flatMap] at ih ⊢
  have e : (b :: c :: r).length - 1 = ((c :: r).length - 1) + 1 := by simp
  rw [e, List.range_succ_eq_map, List.map_cons, List.sum_cons, List.map_map]
  show ((List.range (min b c - 1)).map _).length + _ = (min b c - 1) + innC (c :: r)
  rw [List.length_map, List.length_range, ← ih]
  congr 2
  refine List.map_congr_left fun i _ => ?_
  show (List.map _ _).length = (List.map _ _).length
  rw [List.length_map, List.length_map]
  rfl
end SW
set_option Elab.async false
set_option linter.all false
set_option maxRecDepth 100000
set_option maxHeartbeats 1000000
namespace PySem
open PyProof.Rows
section
variable {prog : Program} {w : World} {A : Around} {E : Value → Shared → Prop} {s : Shared}
theorem asInt_int (i : Int) (t : Tok) : asInt? (.int i t) = pure (some i) := rfl
theorem rangeIter_no_reversed : isSubtype (.type "range_iterator") (.type "reversed") = pure false := by rw [isSubtype_type]; kernel_rfl
theorem rangeFields_at {r : Addr} {a b c : Int} {t u v : Tok} {Q : Int × Int × Int → Shared → Prop} (hr : s.heap.get? r = some { cls := .type "range", data := .fields #[.int a t, .int b u, .int c v] }) (h : Q (a, b, c) s) : wpAny (model prog w) A (Builtin.Range.rangeFields (.ref r)) Q E s := by
 unfold Builtin.Range.rangeFields
 refine wpAny_bind (wpAny_field hr rfl (x := .int a t) rfl ?_)
 refine wpAny_bind (wpAny_of_eq (asInt_int a t) ?_)
 refine wpAny_bind (wpAny_field hr rfl (x := .int b u) rfl ?_)
 refine wpAny_bind (wpAny_of_eq (asInt_int b u) ?_)
 refine wpAny_bind (wpAny_field hr rfl (x := .int c v) rfl ?_)
 refine wpAny_bind (wpAny_of_eq (asInt_int c v) ?_)
 exact wpAny_pure h
theorem call_reversed_range {r : Addr} {n : Nat} {t u v : Tok} {Q : Value → Shared → Prop} (hn : n < 2 ^ 40) (hr : s.heap.get? r = some { cls := .type "range", data := .fields #[.int 0 t, .int (n : Int) u, .int 1 v] })
  (h : Q (.ref s.heap.objs.size) { s with heap := s.heap.push { cls := .type "range_iterator", data := .fields #[rawInt ((n : Int) - 1), rawInt (n : Int), rawInt (-1)] } }) : wpAny (model prog w) A (call (.type "reversed") [.ref r]) Q E s := by
 have hT : s.TypeIs (.ref r) "range" := ⟨_, hr, rfl⟩
 refine callType_other (Q₁ := fun obj s₁ => obj = .ref s.heap.objs.size ∧ s₁ = { s with heap := s.heap.push { cls := .type "range_iterator", data := .fields #[rawInt ((n : Int) - 1), rawInt (n : Int), rawInt (-1)] } }) (U := "range_iterator") called_reversed.notType F.create_reversed ⟨_, _, F.mro_reversed⟩ F.made_reversed rangeIter_no_reversed (F.typeCall_reversed_1 _) ?_ ?_
 ·refine codeAny_of_tree ?_
  show wpAny _ A.in1.in1 (do checkBuiltinCall "reversed.__new__" ⟨[.type "reversed", .ref r], []⟩; again (.builtin "reversed.__new__" ⟨[.type "reversed", .ref r], []⟩)) _ _ s
  refine wpAny_bind (wpAny_of_eq (F.newCall_reversed_1 _) (wpAny_pure ⟨plainId_quiet F.plain_reversed_new _, codeAny_builtin F.entry_reversed_new ?_⟩))
  rw [Around.under_plainId F.plain_reversed_new _]
  unfold Builtin.«reversed.__new__»
  refine wpAny_bind (wpAny_of_eq (newClass_reversed _) ?_)
  try dsimp only
  refine wpAny_bind (wpAny_of_eq (a := ()) (by first | rfl | kernel_rfl) ?_)
  refine wpAny_bind (wpAny_of_eq (a := ()) (by first | rfl | kernel_rfl) ?_)
  try dsimp only
  refine wpAny_bind (wpAny_specialOf hT F.slot_range_reversed.lookup ?_)
  try dsimp only
  refine wpAny_bind ?_
  unfold bindSpecial
  refine wpAny_bind (wpAny_of_eq F.type_range_reversed ?_)
  rw [if_pos (by decide)]
  refine wpAny_pure ?_
  dsimp only
  rw [if_neg (by decide)]
  refine wpAny_bind (wpAny_rule ?_)
  refine wpAny_bind ?_
  show wpAny _ _ (call (.builtin "range.__reversed__") [.ref r]) _ _ _
  refine wpAny_call_entry F.slot_range_reversed hT F.entry_range_reversed ?_ (F.args_range_reversed_1 _)
  unfold Builtin.«range.__reversed__»
  refine wpAny_bind (wpAny_of_eq (a := Value.ref r) rfl ?_)
  refine wpAny_bind (rangeFields_at hr ?_)
  have hsz : Builtin.Range.rangeSize 0 (n : Int) 1 = (n : Int) := by
   unfold Builtin.Range.rangeSize
   rw [if_pos (by decide)]
   by_cases z : (0 : Int) < (n : Int)
   ·rw [if_pos z]
    omega
   ·rw [if_neg z]
    omega
  have hsm : (Builtin.Range.rangeFitsLong 0 && Builtin.Range.rangeFitsLong (n : Int) && Builtin.Range.rangeFitsLong 1 && Builtin.Range.rangeFitsLong (-1) && Builtin.Range.rangeFitsLong (0 - 1) && Builtin.Range.rangeFitsLong (Builtin.Range.rangeSize 0 (n : Int) 1)) = true := by
   rw [hsz]
   simp only [Builtin.Range.rangeFitsLong, Bool.and_eq_true, decide_eq_true_eq]
   omega
  dsimp only
  rw [hsm, if_neg (by decide), hsz]
  unfold newFields
  rw [if_pos rfl]
  refine wpAny_bind (wpAny_newObj_type ?_ (by size_fits))
  refine wpAny_pure ⟨_, rfl, ?_⟩
  refine wpAny_pure ⟨rfl, ?_⟩
  have e : (0 : Int) + ((n : Int) - 1) * 1 = (n : Int) - 1 := by omega
  rw [e]
 ·rintro obj s₁ ⟨rfl, rfl⟩
  exact ⟨⟨_, Heap.get?_push_size _ rfl, rfl⟩, h⟩
end
end PySem
namespace L2
open PySem PySem.Spec PyProof PyProof.Rows TS
section
variable {X : Cx} {tg : Expr}
theorem call_rng1 : CallR X (.type "range") (fun xs H Q => ∃ i : Int, xs = [.int i] ∧ ∀ d, H d = none → Q (.ref d) (upd H d (.rng 0 i))) := by
 intro pins s σ H xs us Q I r h
 refine gate' fun gG hgG => ?_
 obtain ⟨i, rfl, q⟩ := h
 obtain ⟨u, rfl, ru⟩ := vals1 r
 obtain ⟨t, rfl⟩ := (show ∃ t, u = Value.int i t from ru)
 refine hgG.go ?_
 clear hgG
 refine call_range_1 ?_
 exact ⟨.ref s.heap.objs.size, _, I.laid (t' := s.toks + 1 + 1) (o := .rng 0 i) (fun b o e => Heap.get?_push_of_some _ e) (Nat.le_refl _) ⟨_, _, _, Heap.get?_push_size _ rfl⟩, rfl, q _ (I.hok.fresh (Nat.le_refl _))⟩
def iRev (ta : TA) : TI := fun σ H R => ta σ H fun vs H1 => ∃ (d : Addr) (n : Nat), vs = [.ref d] ∧ H1 d = some (.rng 0 (n : Int)) ∧ n < 2 ^ 40 ∧ R (Itr3 ((n : Int) - 1) (-1) n) H1
theorem pi_revR {a : Expr} {ta : TA} {p pos : Pos} (hg : Gl X "reversed") (hm : X.mg "reversed" = none) (ha : PA X [a] ta) (hs : starEach [a] X.env = [(false, eval a X.env)] := by rfl) : PI X tg (.Call (.Name "reversed" p) [a] [] pos) (iRev ta) := by
 intro pins s σ H R I h
 refine Call_ (ld_blt I hg hm boot_reversed (PyProof.Rows.callWith_type1 (thn (ha pos pins s σ H _ I h) fun us s1 ⟨vs, H1, I1, r1, q1⟩ => ?_) hs rfl))
 refine gate' fun gG hgG => ?_
 obtain ⟨d, n, rfl, hd, hn, q⟩ := q1
 obtain ⟨u, rfl, ru⟩ := vals1 r1
 refine hgG.go ?_
 clear hgG
 cases (show u = Value.ref d from ru)
 obtain ⟨t, u', v, ho⟩ := (show ObjOk X.prog X.w H1 s1.heap d (.rng 0 (n : Int)) from I1.hok d _ hd)
 refine call_reversed_range hn ho ?_
 have I2 : Inv X pins σ H1 { s1 with heap := s1.heap.push { cls := .type "range_iterator", data := .fields #[rawInt ((n : Int) - 1), rawInt (n : Int), rawInt (-1)] } } := I1.kept (t' := s1.toks) fun b o e => Heap.get?_push_of_some _ e
 have hit : IsRangeIter (s1.heap.push { cls := .type "range_iterator", data := .fields #[rawInt ((n : Int) - 1), rawInt (n : Int), rawInt (-1)] }) s1.heap.objs.size ((n : Int) - 1) (n : Int) (-1) := Heap.get?_push_size _ rfl
 refine wpAny_pyIter_rangeiter (s := { s1 with heap := s1.heap.push { cls := .type "range_iterator", data := .fields #[rawInt ((n : Int) - 1), rawInt (n : Int), rawInt (-1)] } }) hit ?_
 refine ⟨_, [s1.heap.objs.size], _, _, H1, rfl, I2, turn_range3 s1.heap.objs.size ((n : Int) - 1) (-1) n, ?_, fun b hb => ?_, q⟩
 ·show IsRangeIter _ _ ((n : Int) - 1 + ((0 : Nat) : Int) * (-1)) ((n : Int) - ((0 : Nat) : Int)) (-1)
  have e1 : (n : Int) - 1 + ((0 : Nat) : Int) * (-1) = (n : Int) - 1 := by omega
  have e2 : (n : Int) - ((0 : Nat) : Int) = (n : Int) := by omega
  rw [e1, e2]
  exact hit
 ·have e : b = s1.heap.objs.size := by simpa using hb
  subst e
  exact I1.fpOk (Nat.le_refl _) (I1.hok.fresh (Nat.le_refl _))
end
end L2
set_option Elab.async false
set_option linter.all false
set_option maxRecDepth 100000
set_option maxHeartbeats 4000000
namespace SW
open PySem L2 WM TS
def intD (i : Int) : PyData := .int i
theorem lay_int : ∀ ns : List Int, PyData.canLayAll0 (ns.map intD) = true
 | [] => rfl
 | p :: r => by
  rw [List.map_cons]
  show (PyData.canLay0 (intD p) && PyData.canLayAll0 (r.map intD)) = true
  rw [lay_int r]
  rfl
theorem deep_int : ∀ ns : List Int, PyData.depthAll (ns.map intD) ≤ 1
 | [] => Nat.zero_le _
 | p :: r => by
  have ih := deep_int r
  have e : PyData.depth (intD p) = 0 := rfl
  simp only [List.map_cons, PyData.depthAll, e]
  assumption
theorem shaped_int (ns : List Int) : SeqAt.shaped (.list (ns.map intD)) = true := by
 have h1 := lay_int ns
 have h2 := deep_int ns
 simp only [SeqAt.shaped, PyData.canLay0, PyData.depth, h1, Bool.true_and, decide_eq_true_eq]
 exact decide_eq_true (by omega)
theorem eqv_int0 (ns : List Int) : PyData.eqv (.list (ns.map intD)) (.list []) = decide (ns = []) := by
 cases ns with
 | nil => rfl
 | cons x r => simp [PyData.eqv, PyData.eqvAll]
theorem dats_int {K : PySem.W.Frag} {H : Hp} : ∀ ns : List Int, DatVs K H (ns.map V.int) (ns.map intD)
 | [] => .nil
 | _ :: r => .cons (.int _) (dats_int r)
def sqD (q : Pt × Int) : PyData := .tuple [ptD q.1, .int q.2]
theorem lay_sq : ∀ qs : List (Pt × Int), PyData.canLayAll0 (qs.map sqD) = true
 | [] => rfl
 | p :: r => by
  rw [List.map_cons]
  show (PyData.canLay0 (sqD p) && PyData.canLayAll0 (r.map sqD)) = true
  rw [lay_sq r]
  rfl
theorem deep_sq : ∀ qs : List (Pt × Int), PyData.depthAll (qs.map sqD) ≤ 2
 | [] => Nat.zero_le _
 | p :: r => by
  have ih := deep_sq r
  have e : PyData.depth (sqD p) = 2 := rfl
  simp only [List.map_cons, PyData.depthAll, e]
  omega
theorem shaped_sq (qs : List (Pt × Int)) : SeqAt.shaped (.list (qs.map sqD)) = true := by
 have h1 := lay_sq qs
 have h2 := deep_sq qs
 simp only [SeqAt.shaped, PyData.canLay0, PyData.depth, h1, Bool.true_and, decide_eq_true_eq]
 exact decide_eq_true (by omega)
theorem eqv_sq1 (q : Pt × Int) : PyData.eqv (sqD q) (sqD q) = true := by
 simp [sqD, ptD, PyData.eqv, PyData.eqvAll]
theorem eqv_sqAll : ∀ qs : List (Pt × Int), PyData.eqvAll (qs.map sqD) (qs.map sqD) = true
 | [] => rfl
 | q :: r => by
  show (PyData.eqv (sqD q) (sqD q) && PyData.eqvAll (r.map sqD) (r.map sqD)) = true
  rw [eqv_sq1, eqv_sqAll r]
  rfl
theorem eqv_sqs (qs : List (Pt × Int)) : PyData.eqv (.list (qs.map sqD)) (.list (qs.map sqD)) = true := by
 simp only [PyData.eqv]
 exact eqv_sqAll qs
theorem dats_sq {K : PySem.W.Frag} {H : Hp} {as : List Addr} {qs : List (Pt × Int)} (h : SqsAt H as qs) : DatVs K H (as.map V.ref) (qs.map sqD) := by
 induction h with
 | nil => exact .nil
 | cons e t ih =>
  obtain ⟨b, h1, h2⟩ := e
  exact .cons (.tup (SqT.of h1) (.cons (dat_pt h2) (.cons (.int _) .nil))) ih
theorem dat_sq {K : PySem.W.Frag} {H : Hp} {d : Addr} {as : List Addr} {qs : List (Pt × Int)} (h : H d = some (.lst (as.map V.ref))) (h2 : SqsAt H as qs) : DatV K H (.ref d) (.list (qs.map sqD)) := .lst (SqL.of h) (dats_sq h2)
structure Good (nb : List Nat) (m : List Nat) (sg : Int) : Prop where
 isW : IsW m
 len : m.length = (rimB nb.reverse).length
 pos : posOf m = (0, 0)
 nod : (cntP m).Nodup
 diff : (cycT isL m : Int) - (cycT isR m : Int) = 4 * sg
 sum : cycT isL m + cycT isR m = cycT isL (rimB nb.reverse) + cycT isR (rimB nb.reverse)
 inn : ∀ qs, IsSq m qs → (inL' m qs).length = (innL nb).length
 area : areaL m = sg * (nb.sum : Int)
 one : sg = 1 ∨ sg = -1
theorem due_sum (nb : List Nat) : ((dueL nb).map (·.2)).sum = (nb.sum : Int) := by
 have h1 : (dueL nb).map (·.2) = List.replicate (dueL nb).length 1 := by
  refine List.ext_getElem? fun i => ?_
  rw [List.getElem?_map]
  by_cases hi : i < (dueL nb).length
  ·rw [List.getElem?_eq_getElem hi, List.getElem?_replicate, if_pos hi]
   have hm := List.getElem_mem hi
   unfold dueL at hm
   obtain ⟨j, _, hm⟩ := List.mem_flatMap.mp hm
   obtain ⟨u, _, e⟩ := List.mem_map.mp hm
   show some ((dueL nb)[i]).2 = some 1
   have : (dueL nb)[i] = (((j : Int), (u : Int)), (1 : Int)) := e.symm
   rw [this]
  ·rw [List.getElem?_eq_none (by omega), List.getElem?_replicate, if_neg hi]
   rfl
 have h2 : ∀ bs : List Nat, (dueL bs).length = bs.sum := by
  intro bs
  unfold dueL
  rw [List.length_flatMap]
  have e : (fun i => ((List.range (bs.getD i 0)).map fun (u : Nat) => (((i : Int), (u : Int)), (1 : Int))).length) = fun i => bs.getD i 0 := funext fun i => by rw [List.length_map, List.length_range]
  rw [e]
  congr 1
  refine List.ext_getElem? fun i => ?_
  rw [List.getElem?_map]
  by_cases hi : i < bs.length
  ·rw [List.getElem?_range hi, List.getElem?_eq_getElem hi]
   show some (bs.getD i 0) = _
   rw [List.getD_eq_getElem?_getD, List.getElem?_eq_getElem hi]
   rfl
  ·rw [List.getElem?_eq_none (by rw [List.length_range]; omega), List.getElem?_eq_none (by omega)]
   rfl
 have h3 : ∀ n : Nat, (List.replicate n (1 : Int)).sum = (n : Int) := by
  intro n
  induction n with
  | zero => rfl
  | succ n ih =>
   rw [List.replicate_succ, List.sum_cons, ih]
   omega
 rw [h1, h3, h2]
theorem good_rim {nb : List Nat} (hne : nb ≠ []) (h : ∀ b ∈ nb, 1 ≤ b) (hz : (rimB nb.reverse).length ≤ 1000) : Good nb (rimB nb.reverse) 1 := by
 have hp : Pos1 nb.reverse := fun b hb => h b (List.mem_reverse.mp hb)
 have hne' : nb.reverse ≠ [] := fun e => hne (List.reverse_eq_nil_iff.mp e)
 have h0 := closed_rimB nb.reverse
 have hw := isW_rimB nb.reverse
 have hl0 : rimB nb.reverse ≠ [] := fun e => by
  have := congrArg List.length e
  unfold rimB at this
  rw [List.length_append, List.length_replicate] at this
  have : nb.reverse.length = 0 := by rw [List.length_nil] at this; exact Nat.eq_zero_of_add_eq_zero_right this
  exact hne' (List.eq_nil_of_length_eq_zero this)
 obtain ⟨qs, hq⟩ := sq_ex hw h0 hz
 refine ⟨hw, rfl, h0, ?_, ?_, rfl, fun rs hr => ?_, ?_, .inl rfl⟩
 ·rw [(cnt_trail h0 hl0).nodup_iff]
  exact nodup_rimB hp
 ·have := (turns_rimB hp hne').1
  assumption
 ·rw [in_bars_list hp hr, List.reverse_reverse]
 ·rw [← sum_squares hw h0 hq, sq_bars hq, List.reverse_reverse, due_sum]
  omega
theorem rim_ne {nb : List Nat} (hne : nb ≠ []) : rimB nb.reverse ≠ [] := fun e => by
 have := congrArg List.length e
 unfold rimB at this
 rw [List.length_append, List.length_replicate] at this
 have : nb.reverse.length = 0 := by rw [List.length_nil] at this; exact Nat.eq_zero_of_add_eq_zero_right this
 exact hne (List.reverse_eq_nil_iff.mp (List.eq_nil_of_length_eq_zero this))
theorem area_two {m l : List Nat} {sg : Int} (hm : posOf m = (0, 0)) (hl : posOf l = (0, 0)) (h : WM.twice m = sg * WM.twice l) (h1 : sg = 1 ∨ sg = -1) : areaL m = sg * areaL l := by
 have e1 := twice_area hm
 have e2 := twice_area hl
 rcases h1 with rfl | rfl <;> omega
theorem good_begun {nb : List Nat} (G : Good nb (rimB nb.reverse) 1) (hne : nb ≠ []) (k : Nat) (hk : k ≤ (rimB nb.reverse).length) (hz : (rimB nb.reverse).length ≤ 1000) : Good nb (rotL k (rimB nb.reverse)) 1 := by
 have hl0 := rim_ne hne
 obtain ⟨qs, hq⟩ := sq_ex G.isW G.pos hz
 refine ⟨isW_rotL G.isW, rotL_length _ _, pos0_rot G.pos, loop_rot G.pos hl0 G.nod, ?_, ?_, fun rs hr => ?_, ?_, .inl rfl⟩
 ·rw [cycT_rotL, cycT_rotL]
  exact G.diff
 ·rw [cycT_rotL, cycT_rotL]
 ·rw [in_rot G.isW G.pos hl0 hk hq hr]
  exact G.inn qs hq
 ·have := area_two (sg := 1) (pos0_rot (k := k) G.pos) G.pos (by rw [twice_rotL G.pos]; omega) (.inl rfl)
  rw [this, G.area]
  omega
theorem good_mir {nb : List Nat} (G : Good nb (rimB nb.reverse) 1) (hne : nb ≠ []) (hz : (rimB nb.reverse).length ≤ 1000) : Good nb (mirL (rimB nb.reverse)) (-1) := by
 have hl0 := rim_ne hne
 obtain ⟨qs, hq⟩ := sq_ex G.isW G.pos hz
 have gd := G.diff
 refine ⟨isW_mirL G.isW, by unfold mirL; rw [List.length_map], pos0_mir G.isW G.pos, loop_mir G.isW G.pos hl0 G.nod, ?_, ?_, fun rs hr => ?_, ?_, .inr rfl⟩
 ·rw [turnsL_mirL G.isW, turnsR_mirL G.isW]
  omega
 ·rw [turnsL_mirL G.isW, turnsR_mirL G.isW]
  omega
 ·rw [in_mir G.isW G.pos hq hr]
  exact G.inn qs hq
 ·have := area_two (sg := -1) (pos0_mir G.isW G.pos) G.pos (by rw [twice_mirL G.isW]; omega) (.inr rfl)
  rw [this, G.area]
  omega
theorem good_back {nb : List Nat} (G : Good nb (rimB nb.reverse) 1) (hne : nb ≠ []) (hz : (rimB nb.reverse).length ≤ 1000) : Good nb (backL (rimB nb.reverse)) (-1) := by
 have hl0 := rim_ne hne
 obtain ⟨qs, hq⟩ := sq_ex G.isW G.pos hz
 have gd := G.diff
 refine ⟨isW_backL _, by unfold backL turnL; rw [List.length_map, List.length_reverse], pos0_back G.isW G.pos, loop_back G.isW G.pos hl0 G.nod, ?_, ?_, fun rs hr => ?_, ?_, .inr rfl⟩
 ·rw [turnsL_backL G.isW, turnsR_backL G.isW]
  omega
 ·rw [turnsL_backL G.isW, turnsR_backL G.isW]
  omega
 ·rw [in_back G.isW G.pos hq hr]
  exact G.inn qs hq
 ·have := area_two (sg := -1) (pos0_back G.isW G.pos) G.pos (by rw [twice_backL G.isW G.pos]; omega) (.inr rfl)
  rw [this, G.area]
  omega
theorem good_turn {nb : List Nat} (G : Good nb (rimB nb.reverse) 1) (hne : nb ≠ []) (hz : (rimB nb.reverse).length ≤ 1000) {q : Nat} (hq4 : q < 4) : Good nb (turnL q (rimB nb.reverse)) 1 := by
 have hl0 := rim_ne hne
 obtain ⟨qs, hq⟩ := sq_ex G.isW G.pos hz
 refine ⟨isW_turnL _ _, by unfold turnL; rw [List.length_map], pos0_turn hq4 G.isW G.pos, loop_turn hq4 G.isW G.pos hl0 G.nod, ?_, ?_, fun rs hr => ?_, ?_, .inl rfl⟩
 ·rw [turnsL_turnL G.isW, turnsR_turnL G.isW]
  exact G.diff
 ·rw [turnsL_turnL G.isW, turnsR_turnL G.isW]
 ·rw [in_turn G.isW G.pos hz hq4 hq hr]
  exact G.inn qs hq
 ·have := area_two (sg := 1) (pos0_turn hq4 G.isW G.pos) G.pos (by rw [twice_turnL hq4 G.isW]; omega) (.inl rfl)
  rw [this, G.area]
  omega
theorem mir_within {nb : List Nat} (hp : ∀ b ∈ nb, 1 ≤ b) {qs : List (Pt × Int)} (hq : IsSq (mirL (rimB nb.reverse)) qs) : inL' (mirL (rimB nb.reverse)) qs = srtP ((innL nb).map WM.flip) := by
 have hp' : Pos1 nb.reverse := fun b hb => hp b (List.mem_reverse.mp hb)
 have hw := isW_rimB nb.reverse
 have h0 := closed_rimB nb.reverse
 have nd : (innL nb).Nodup := by
  rw [List.nodup_iff_pairwise_ne]
  refine (innL_rise nb).imp fun {a b} hab e => ?_
  rw [e, ltP_irrefl] at hab
  cases hab
 refine srtP_eq ?_ ((inL_rise hq).imp fun {a b} hab => ltP_asym hab)
 refine (List.perm_ext_iff_of_nodup (inL_nodup hq) (nodup_map_inj flip_inj nd)).mpr fun q => ?_
 have key : ∀ q, q ∈ innL nb ↔ InW (rimB nb.reverse) q := fun q => by
  have := innL_mem nb.reverse q
  rw [List.reverse_reverse] at this
  exact this.trans (in_bars hp' q).symm
 rw [inL_mem hq q, List.mem_map]
 constructor
 ·intro hh
  have := inW_mir (isW_mirL hw) (pos0_mir hw h0) hh
  rw [mirL_mirL hw] at this
  refine ⟨WM.flip q, (key _).mpr this, ?_⟩
  exact Prod.ext (by show - -q.1 = q.1; omega) rfl
 ·rintro ⟨p, hp2, rfl⟩
  exact inW_mir hw h0 ((key p).mp hp2)
end SW
namespace WM
end WM
set_option Elab.async false
set_option linter.all false
set_option maxRecDepth 100000
set_option maxHeartbeats 4000000
namespace SW
open PySem L2 WM TS
def top (i : Nat) : Stmt := PySem.Challenge.pw_squarewalk_k06_whole_loops.main.body.getD i (.Pass ⟨0, 0, 0, 0⟩)
abbrev sWall : Stmt := top 0
abbrev sCheckWalk : Stmt := top 10
abbrev sIsNumber : Stmt := top 11
abbrev sCheckNumber : Stmt := top 12
abbrev sIsClosed : Stmt := top 13
abbrev sCheckClosed : Stmt := top 14
abbrev sStepped : Stmt := top 15
abbrev sPlaces : Stmt := top 16
abbrev sCountedPlaces : Stmt := top 17
abbrev sEnd : Stmt := top 18
abbrev sTurned : Stmt := top 19
abbrev sTakenBack : Stmt := top 20
abbrev sQuartered : Stmt := top 21
abbrev sMirrored : Stmt := top 22
abbrev sBackwards : Stmt := top 23
abbrev sBegun : Stmt := top 24
abbrev sUprightSteps : Stmt := top 26
abbrev sArea : Stmt := top 27
abbrev sSquares : Stmt := top 28
abbrev sMeets : Stmt := top 33
abbrev sCheckLoop : Stmt := top 35
abbrev sTurns : Stmt := top 36
abbrev sWithin : Stmt := top 37
abbrev sLawRim : Stmt := top 39
abbrev sLawBends : Stmt := top 40
abbrev sLaw : Stmt := top 41
abbrev sSimpleInit : Stmt := inClass (top 31) 0
abbrev sTwiceInit : Stmt := inClass (top 32) 0
section
variable {P : Program} {w : World} {K : PySem.W.Frag} {mg : Str → Option Value} {base : Heap}
theorem scCheckWalk : FnScope ["walk", "letter"] ["walk"] (defScope sCheckWalk) := ⟨rfl, rfl, rfl, by decide +kernel, rfl, by decide +kernel, by decide +kernel⟩
theorem ok_check_walk {f : Addr} {fd : FuncData} (F : Df K mg "check_walk" sCheckWalk ["walk"] f fd) (X : Txt K mg) : FnOk P w K mg base CX0 1 f fd ["walk"] spCheckWalk := by
 obtain ⟨tl, hlw⟩ := X.lw
 refine F.fn.ok scCheckWalk (fun vs H Q E h => ?_) (fun cdv A outer s H vs Q E hr h => ?_)
 ·obtain ⟨l, rfl, _⟩ := h
  rfl
 ·obtain ⟨l, rfl, hl, k⟩ := h
  refine lX ?_
  extract_lets
  refine ⟨_, pss_cons (ps_if (pt_not (pt_val (pe_callB call_isT rfl X.isi PyProof.Rows.boot_isinstance (pa_cons (pv 0) (pa_cons (pe_bltn rfl X.str PyProof.Rows.boot_str (v := .ty "str") rfl) pa_nil))))) pss_never pss_nil)
   (pss_one (ps_for PassesOwn.never rfl (pi_str (pv 0)) (pg_name (i := 1) scCheckWalk.nd rfl (Or.inl rfl))
    (pss_one (ps_if (pt_cmpR op_notin_str (pv 1) (pe_glob rfl hlw (v := .str (T [110, 119, 115, 101])) ⟨tl, by rw [lit_nwse]⟩) (by with_unfolding_all rfl)) pss_never pss_nil)))), ?_⟩
  refine ⟨_, rfl, _, _, _, true, rfl, .str _, kit_str K, _, rfl, ?_⟩
  refine iteF ?_
  refine ⟨_, rfl, l, rfl, for_str (l := l) (fun i σ H' => (∃ v, σ = [some (.str (T l)), v]) ∧ H' = H) ⟨⟨_, rfl⟩, rfl⟩ ?_ ?_⟩
  ·rintro i c σ H' hc ⟨⟨v, rfl⟩, rfl⟩
   have hlt : Lt c := hl c (List.mem_of_getElem? hc)
   refine ⟨_, rfl, _, _, rfl, rfl, _, rfl, ?_⟩
   rw [occ_in hlt]
   refine iteF ?_
   exact ⟨⟨_, rfl⟩, rfl⟩
  ·rintro σ H' ⟨_, rfl⟩
   exact k
theorem scIsNumber : FnScope ["value"] ["value"] (defScope sIsNumber) := ⟨rfl, rfl, rfl, by decide +kernel, rfl, by decide +kernel, by decide +kernel⟩
def spIsNumber : Sp := fun vs H Q _ => ∃ i, vs = [.int i] ∧ Q (.bl true) H
theorem ok_is_number {f : Addr} {fd : FuncData} (F : Df K mg "is_number" sIsNumber ["value"] f fd) (X : Txt K mg) : FnOk P w K mg base CX0 1 f fd ["value"] spIsNumber := by
 refine F.fn.ok scIsNumber (fun vs H Q E h => ?_) (fun cdv A outer s H vs Q E hr h => ?_)
 ·obtain ⟨i, rfl, _⟩ := h
  rfl
 ·obtain ⟨i, rfl, k⟩ := h
  refine lX ?_
  extract_lets
  refine ⟨_, pss_one (ps_ret (pe_and (pe_callB call_isT rfl X.isi PyProof.Rows.boot_isinstance (pa_cons (pv 0) (pa_cons (pe_bltn rfl X.int PyProof.Rows.boot_int (v := .ty "int") rfl) pa_nil)))
   (pe_one (pe_not (pe_callB call_isT rfl X.isi PyProof.Rows.boot_isinstance (pa_cons (pv 0) (pa_cons (pe_bltn rfl X.bool PyProof.Rows.boot_bool (v := .ty "bool") rfl) pa_nil))))))), ?_⟩
  refine ⟨_, rfl, _, _, _, true, rfl, .int _, kit_int K, ?_⟩
  refine ⟨_, rfl, ?_⟩
  refine iteT ?_
  refine ⟨_, rfl, _, _, _, false, rfl, .int _, kit_int_bool K, _, rfl, ?_⟩
  exact k
theorem scCheckNumber : FnScope ["number"] ["number"] (defScope sCheckNumber) := ⟨rfl, rfl, rfl, by decide +kernel, rfl, by decide +kernel, by decide +kernel⟩
theorem ok_check_number {f fN : Addr} {fd fdN : FuncData} (F : Df K mg "check_number" sCheckNumber ["number"] f fd) (X : Txt K mg) (N : Df K mg "is_number" sIsNumber ["value"] fN fdN) : FnOk P w K mg base CX0 2 f fd ["number"] spCheckNumber := by
 have GN : FnOk P w K mg base CX0 1 fN fdN ["value"] spIsNumber := ok_is_number N X
 refine F.fn.ok scCheckNumber (fun vs H Q E h => ?_) (fun cdv A outer s H vs Q E hr h => ?_)
 ·obtain ⟨i, rfl, _⟩ := h
  rfl
 ·obtain ⟨i, rfl, k⟩ := h
  refine lX ?_
  extract_lets
  refine ⟨_, pss_one (ps_if (pt_not (pt_val (pe_call GN hr rfl N.at_ N.fn.kp N.bi .nil pass0 (pa_cons (pv 0) pa_nil)))) pss_never pss_nil), ?_⟩
  refine ⟨_, rfl, i, rfl, _, rfl, ?_⟩
  refine iteF ?_
  exact k
theorem scStepped : FnScope ["place", "step"] ["place", "step"] (defScope sStepped) := ⟨rfl, rfl, rfl, by decide +kernel, rfl, by decide +kernel, by decide +kernel⟩
theorem ok_stepped {f : Addr} {fd : FuncData} (F : Df K mg "stepped" sStepped ["place", "step"] f fd) : FnOk P w K mg base CX0 1 f fd ["place", "step"] (spStepped K) := by
 refine F.fn.ok scStepped (fun vs H Q E h => ?_) (fun cdv A outer s H vs Q E hr h => ?_)
 ·obtain ⟨a, p, c, rfl, _⟩ := h
  rfl
 ·obtain ⟨a, p, c, rfl, hc, hS, k⟩ := h
  refine lX ?_
  extract_lets
  refine ⟨_, pss_consL (ps_if (pt_cmpR op_eq (pv 1) pe_str (nomark _)) (pss_one (ps_ret (pe_tup (pa_cons (pe_ix ix_tup (pv 0) pe_int (fun _ _ => rfl)) (pa_cons (pe_op op_add (pe_ix ix_tup (pv 0) pe_int (fun _ _ => rfl)) pe_int) pa_nil))))) pss_nil)
   (pss_consL (ps_if (pt_cmpR op_eq (pv 1) pe_str (nomark _)) (pss_one (ps_ret (pe_tup (pa_cons (pe_op op_add (pe_ix ix_tup (pv 0) pe_int (fun _ _ => rfl)) pe_int) (pa_cons (pe_ix ix_tup (pv 0) pe_int (fun _ _ => rfl)) pa_nil))))) pss_nil)
   (pss_consL (ps_if (pt_cmpR op_eq (pv 1) pe_str (nomark _)) (pss_one (ps_ret (pe_tup (pa_cons (pe_ix ix_tup (pv 0) pe_int (fun _ _ => rfl)) (pa_cons (pe_op op_sub (pe_ix ix_tup (pv 0) pe_int (fun _ _ => rfl)) pe_int) pa_nil))))) pss_nil)
   (pss_one (ps_ret (pe_tup (pa_cons (pe_op op_sub (pe_ix ix_tup (pv 0) pe_int (fun _ _ => rfl)) pe_int) (pa_cons (pe_ix ix_tup (pv 0) pe_int (fun _ _ => rfl)) pa_nil))))))), ?_⟩
  lift_lets
  extract_lets
  have a0 : atI [V.int p.1, V.int p.2] 0 = some (.int p.1) := atI_nat (j := 0) rfl
  have a1 : atI [V.int p.1, V.int p.2] 1 = some (.int p.2) := atI_nat (j := 1) rfl
  refine ⟨_, rfl, rfl, _, rfl, ?_⟩
  rw [lit_n, strT]
  refine ite2 (fun h => ?_) (fun h => ?_)
  ·have hc : c = 110 := by simpa using h
   subst hc
   exact ⟨_, rfl, _, _, _, _, rfl, rfl, hS, a0, _, rfl, _, _, _, _, rfl, rfl, hS, a1, _, _, rfl, rfl, two_le, k⟩
  have n1 : ¬ c = 110 := fun z => h (by simp [z])
  refine ⟨_, rfl, rfl, _, rfl, ?_⟩
  rw [lit_e, strT]
  refine ite2 (fun h => ?_) (fun h => ?_)
  ·have hc : c = 101 := by simpa using h
   subst hc
   exact ⟨_, rfl, _, _, _, _, rfl, rfl, hS, a0, _, _, rfl, rfl, _, rfl, _, _, _, _, rfl, rfl, hS, a1, two_le, k⟩
  have n2 : ¬ c = 101 := fun z => h (by simp [z])
  refine ⟨_, rfl, rfl, _, rfl, ?_⟩
  rw [lit_s, strT]
  refine ite2 (fun h => ?_) (fun h => ?_)
  ·have hc : c = 115 := by simpa using h
   subst hc
   exact ⟨_, rfl, _, _, _, _, rfl, rfl, hS, a0, _, rfl, _, _, _, _, rfl, rfl, hS, a1, _, _, rfl, rfl, two_le, k⟩
  have n3 : ¬ c = 115 := fun z => h (by simp [z])
  have hc' : c = 119 := by
   rcases hc with z | z | z | z
   ·exact absurd z n1
   ·exact z
   ·exact absurd z n3
   ·exact absurd z n2
  subst hc'
  exact ⟨_, rfl, _, _, _, _, rfl, rfl, hS, a0, _, _, rfl, rfl, _, rfl, _, _, _, _, rfl, rfl, hS, a1, two_le, k⟩
theorem scPlaces : FnScope ["walk", "place", "told", "step"] ["walk"] (defScope sPlaces) := ⟨rfl, rfl, rfl, by decide +kernel, rfl, by decide +kernel, by decide +kernel⟩
theorem ok_places {f fC fS : Addr} {fd fdC fdS : FuncData} (F : Df K mg "places" sPlaces ["walk"] f fd) (X : Txt K mg) (C : Df K mg "check_walk" sCheckWalk ["walk"] fC fdC) (S : Df K mg "stepped" sStepped ["place", "step"] fS fdS) :
  FnOk P w K mg base CX0 2 f fd ["walk"] spPlaces := by
 have GC : FnOk P w K mg base CX0 1 fC fdC ["walk"] spCheckWalk := ok_check_walk C X
 have GS : FnOk P w K mg base CX0 1 fS fdS ["place", "step"] (spStepped K) := ok_stepped S
 refine F.fn.ok scPlaces (fun vs H Q E h => ?_) (fun cdv A outer s H vs Q E hr h => ?_)
 ·obtain ⟨l, rfl, _⟩ := h
  rfl
 ·obtain ⟨l, rfl, hl, hz, k⟩ := h
  refine lX ?_
  extract_lets
  refine ⟨_, pss_consL (ps_expr (pe_call GC hr rfl C.at_ C.fn.kp C.bi .nil pass0 (pa_cons (pv 0) pa_nil)))
   (pss_consL (ps_set (i := 1) scPlaces.nd rfl (Or.inl rfl) (pe_tup (pa_cons pe_int (pa_cons pe_int pa_nil))))
   (pss_consL (ps_set (i := 2) scPlaces.nd rfl (Or.inl rfl) (pe_lst (pa_cons (pv 1) pa_nil)))
   (pss_consL (ps_for PassesOwn.never rfl (pi_str (pv 0)) (pg_name (i := 3) scPlaces.nd rfl (Or.inl rfl))
    (pss_consL (ps_set (i := 1) scPlaces.nd rfl (Or.inl rfl) (pe_call GS hr rfl S.at_ S.fn.kp S.bi .nil pass0 (pa_cons (pv 1) (pa_cons (pv 3) pa_nil))))
    (pss_one (ps_expr (pe_bm PySem.F.plainAttrs_list PySem.F.slot_list_append PySem.F.type_list_append mt_append (pv 2) (pa_cons (pv 1) pa_nil))))))
   (pss_one (ps_ret (pv 2)))))), ?_⟩
  lift_lets
  extract_lets
  refine ⟨_, rfl, l, rfl, hl, ?_⟩
  refine ⟨two_le, fun p hp => ?_⟩
  refine ⟨_, rfl, (by show 1 ≤ sizeLine; decide), fun d hd => ?_⟩
  have hpd : p ≠ d := fun z => by rw [z, upd_same] at hd; cases hd
  have hd0 : H d = none := by rw [upd_ne (Ne.symm hpd)] at hd; exact hd
  refine ⟨_, rfl, l, rfl, for_str (l := l) (fun i σ H' => ∃ (as : List Addr) (q : Addr) (v : Option V), σ = [some (.str (T l)), some (.ref q), some (.ref d), v] ∧ Same H H' ∧ H' d = some (.lst (as.map V.ref)) ∧
   Tups H' as (placesP (0, 0) (l.take i)) ∧ H' q = some (.tup [.int (posOf (l.take i)).1, .int (posOf (l.take i)).2])) ?_ ?_ ?_⟩
  ·refine ⟨[p], p, none, rfl, ?_, upd_same, ?_, ?_⟩
   ·intro b o e
    rw [upd_ne (ne_of_none e hd0), upd_ne (ne_of_none e hp)]
    exact e
   ·exact .cons (by rw [upd_ne hpd, upd_same] <;> rfl) .nil
   ·rw [upd_ne hpd, upd_same]
    rfl
  ·intro i c σ H' hc hI
   generalize hE1 : Ends.mk _ _ _ _ = E1
   revert E1
   refine keepG ?_
   set_option tactic.hygienic false in intros
   obtain ⟨as, q, v, rfl, s1, h1, h2, h3⟩ := hI
   have hlt : Lt c := hl c (List.mem_of_getElem? hc)
   have hil : i < l.length := (List.getElem?_eq_some_iff.mp hc).1
   have hlen : as.length = i + 1 := by
    have e := Paired.length h2
    rw [placesP_length, List.length_take] at e
    omega
   refine ⟨_, rfl, _, rfl, q, posOf (l.take i), c, rfl, hlt, SqT.of h3, fun b hb => ?_⟩
   have hbd : d ≠ b := ne_of_none h1 hb
   have h1' : ∀ o, upd H' b o d = some (.lst (as.map V.ref)) := fun o => by rw [upd_ne hbd]; exact h1
   refine ⟨_, rfl, .inl ⟨rfl, _, SqL.of (h1' _)⟩, _, rfl, d, _, _, rfl, rfl, h1' _, ?_, ?_⟩
   ·rw [List.length_map, hlen]
    have e : sizeLine = 16777216 := PySem.sizeLine_eq
    omega
   have et : l.take (i + 1) = l.take i ++ [c] := by rw [List.take_add_one, hc]; rfl
   subst hE1
   refine ⟨as ++ [b], b, _, rfl, ?_, ?_, ?_, ?_⟩
   ·intro x o e
    have hxb : x ≠ b := ne_of_none (s1 _ _ e) hb
    have hxd : x ≠ d := ne_of_none e hd0
    rw [upd_ne hxd, upd_ne hxb]
    exact s1 _ _ e
   ·rw [upd_same, List.map_append]
    rfl
   ·rw [et, placesP_snoc]
    refine Paired.snoc (h2.mono fun x xs e => ?_) ?_
    ·have hxb : x ≠ b := ne_of_none e hb
     have hxd : x ≠ d := ne_of e h1 (by intro z; cases z)
     rw [upd_ne hxd, upd_ne hxb]
     exact e
    ·rw [upd_ne (Ne.symm hbd), upd_same]
     rfl
   ·rw [upd_ne (Ne.symm hbd), upd_same, et]
    show some (HO.tup [.int (stepP (posOf (l.take i)) c).1, .int (stepP (posOf (l.take i)) c).2]) = some (HO.tup [.int (goP (0, 0) (l.take i ++ [c])).1, .int (goP (0, 0) (l.take i ++ [c])).2])
    rw [goP_snoc]
    rfl
  ·rintro σ H' ⟨as, q, v, rfl, s1, h1, h2, h3⟩
   rw [List.take_of_length_le (Nat.le_refl _)] at h2
   exact ⟨_, rfl, k d H' hd0 s1 ⟨as, h1, h2⟩⟩
theorem scCountedPlaces : FnScope ["walk", "told"] ["walk"] (defScope sCountedPlaces) := ⟨rfl, rfl, rfl, by decide +kernel, rfl, by decide +kernel, by decide +kernel⟩
theorem ok_counted_places {f fP : Addr} {fd fdP : FuncData} (F : Df K mg "counted_places" sCountedPlaces ["walk"] f fd) (hlen : mg "len" = none) (Pl : Df K mg "places" sPlaces ["walk"] fP fdP) (GP : FnOk P w K mg base CX0 2 fP fdP ["walk"] spPlaces) : FnOk P w K mg base CX0 3 f fd ["walk"] spCounted := by
 refine F.fn.ok scCountedPlaces (fun vs H Q E h => ?_) (fun cdv A outer s H vs Q E hr h => ?_)
 ·obtain ⟨l, rfl, _⟩ := h
  rfl
 ·obtain ⟨l, rfl, hl, hz, k⟩ := h
  have esz : sizeLine = 16777216 := PySem.sizeLine_eq
  refine lX ?_
  extract_lets
  refine ⟨_, pss_consL (ps_set (i := 1) scCountedPlaces.nd rfl (Or.inl rfl) (pe_call GP hr rfl Pl.at_ Pl.fn.kp Pl.bi .nil pass0 (pa_cons (pv 0) pa_nil)))
   (pss_consL (ps_if (PW.pt (pw_and (pt_cmpR op_gt (pe_callB call_len_str rfl hlen PySem.boot_len (pa_cons (pv 0) pa_nil)) pe_int (nomark _))
    (pw_and1 (pt_cmpR (op_eqD hr.units) (pe_ix ix_list (pv 1) (pe_un un_neg pe_int) (fun _ _ => rfl)) (pe_ix ix_list (pv 1) pe_int (fun _ _ => rfl)) (nomark _))))) (pss_one (ps_expr (pe_bm0 PySem.F.plainAttrs_list PySem.F.slot_list_pop PySem.F.type_list_pop mt_pop (pv 1)))) pss_nil)
   (pss_one (ps_ret (pv 1)))), ?_⟩
  lift_lets
  extract_lets
  refine ⟨_, rfl, l, rfl, hl, hz, fun d H1 hd s1 hP => ?_⟩
  refine ⟨_, rfl, _, rfl, (by rw [T_len]; omega), _, _, rfl, rfl, _, rfl, ?_⟩
  rw [T_len]
  by_cases hne : l = []
  ·subst hne
   refine iteF (iteF ?_)
   have e : cntP [] = plOf [] := by unfold cntP; rw [if_neg fun z => z.1 rfl]
   rw [← e] at hP
   exact ⟨_, rfl, k d H1 hd s1 hP⟩
  have hpos : 0 < l.length := List.length_pos_iff.mpr hne
  have ed : decide ((l.length : Int) > 0) = true := decide_eq_true (by omega)
  change if decide ((l.length : Int) > 0) = true then _ else _
  rw [ed]
  refine iteT ?_
  obtain ⟨as, h1, h2⟩ := id hP
  obtain ⟨pre, ep⟩ := placesP_last l (0, 0)
  obtain ⟨as', q, eas, hq⟩ : ∃ as' q, as = as' ++ [q] ∧ H1 q = some (.tup [.int (posOf l).1, .int (posOf l).2]) := by
   unfold plOf at h2
   rw [ep] at h2
   exact tups_last h2
  have atq : atI (as.map V.ref) (-1) = some (V.ref q) := by
   rw [eas, List.map_append]
   exact atI_last _ _
  obtain ⟨xs0, a0, hx0, ha0, hta⟩ := hP.at (K := K) (i := 0) (Nat.zero_le _)
  rw [List.take_zero] at hta
  obtain ⟨q0, eq0, hq0⟩ : ∃ q0, (as.map V.ref)[0]? = some (V.ref q0) ∧ H1 q0 = some (.tup [.int 0, .int 0]) := by
   obtain ⟨a, h3, h4⟩ := tups_at h2 (plOf_get (l := l) (i := 0) (Nat.zero_le _))
   exact ⟨a, h3, h4⟩
  refine ⟨_, rfl, _, rfl, d, _, _, _, rfl, rfl, SqL.of h1, atq, _, rfl, d, _, _, _, rfl, rfl, SqL.of h1, (by have := atI_nat eq0; simpa using this), ?_⟩
  refine ⟨_, _, dat_pt hq, dat_pt (p := (0, 0)) hq0, shaped_pt _, shaped_pt _, _, rfl, ?_⟩
  rw [eqv_pt]
  refine ite2 (fun h => ?_) (fun h => ?_)
  ·have hc : posOf l = (0, 0) := of_decide_eq_true h
   have em : as.map V.ref = as'.map V.ref ++ [V.ref q] := by rw [eas, List.map_append]; rfl
   refine ⟨_, rfl, .inl ⟨rfl, _, SqL.of h1⟩, d, as.map V.ref, V.ref q, rfl, rfl, h1, ?_, ?_⟩
   ·rw [em, List.length_append, List.length_singleton, Nat.add_sub_cancel, List.getElem?_append_right (Nat.le_refl _), Nat.sub_self]
    rfl
   have edl : (as.map V.ref).dropLast = as'.map V.ref := by rw [em, List.dropLast_concat]
   rw [edl]
   have e : cntP l = (plOf l).dropLast := by unfold cntP; rw [if_pos ⟨hne, hc⟩]
   have tl : TSame H1 (upd H1 d (.lst (as'.map V.ref))) := tsame_lst h1
   refine ⟨_, rfl, k d _ hd (same_upd hd s1) ⟨as', upd_same, ?_⟩⟩
   rw [e]
   have := tups_dropLast h2
   rw [eas, List.dropLast_concat] at this
   exact tups_mono this tl
  ·have hc : ¬ posOf l = (0, 0) := fun z => h (decide_eq_true z)
   have e : cntP l = plOf l := by unfold cntP; rw [if_neg fun z => hc z.2]
   rw [← e] at hP
   exact ⟨_, rfl, k d H1 hd s1 hP⟩
theorem scEnd : FnScope ["walk"] ["walk"] (defScope sEnd) := ⟨rfl, rfl, rfl, by decide +kernel, rfl, by decide +kernel, by decide +kernel⟩
theorem ok_end {f fC : Addr} {fd fdC : FuncData} (F : Df K mg "end" sEnd ["walk"] f fd) (X : Txt K mg) (C : Df K mg "check_walk" sCheckWalk ["walk"] fC fdC) : FnOk P w K mg base CX0 2 f fd ["walk"] spEnd := by
 have GC : FnOk P w K mg base CX0 1 fC fdC ["walk"] spCheckWalk := ok_check_walk C X
 refine F.fn.ok scEnd (fun vs H Q E h => ?_) (fun cdv A outer s H vs Q E hr h => ?_)
 ·obtain ⟨l, rfl, _⟩ := h
  rfl
 ·obtain ⟨l, rfl, hl, k⟩ := h
  refine lX ?_
  extract_lets
  refine ⟨_, pss_cons (ps_expr (pe_call GC hr rfl C.at_ C.fn.kp C.bi .nil pass0 (pa_cons (pv 0) pa_nil)))
   (pss_one (ps_ret (pe_tup (pa_cons (pe_op op_sub (pe_bm PySem.F.plainAttrs_str PySem.F.slot_str_count PySem.F.type_str_count mt_count (pv 0) (pa_cons pe_str pa_nil)) (pe_bm PySem.F.plainAttrs_str PySem.F.slot_str_count PySem.F.type_str_count mt_count (pv 0) (pa_cons pe_str pa_nil)))
    (pa_cons (pe_op op_sub (pe_bm PySem.F.plainAttrs_str PySem.F.slot_str_count PySem.F.type_str_count mt_count (pv 0) (pa_cons pe_str pa_nil)) (pe_bm PySem.F.plainAttrs_str PySem.F.slot_str_count PySem.F.type_str_count mt_count (pv 0) (pa_cons pe_str pa_nil))) pa_nil))))), ?_⟩
  refine ⟨_, rfl, l, rfl, hl, ?_⟩
  refine ⟨_, rfl, rfl, l, 101, rfl, by rw [lit_e], _, rfl, rfl, l, 119, rfl, by rw [lit_w], _, _, rfl, rfl, _, rfl, rfl, l, 110, rfl, by rw [lit_n], _, rfl, rfl, l, 115, rfl, by rw [lit_s], _, _, rfl, rfl, two_le, ?_⟩
  intro b hb
  have e := posOf_cnt hl
  have := k b hb
  rw [e] at this
  rw [cntL_eq, cntL_eq, cntL_eq, cntL_eq]
  exact this
theorem scTurned : FnScope ["step", "quarters"] ["step", "quarters"] (defScope sTurned) := ⟨rfl, rfl, rfl, by decide +kernel, rfl, by decide +kernel, by decide +kernel⟩
theorem ok_turned {f : Addr} {fd : FuncData} (F : Df K mg "turned" sTurned ["step", "quarters"] f fd) (X : Txt K mg) : FnOk P w K mg base CX0 1 f fd ["step", "quarters"] spTurned := by
 obtain ⟨tl, hlw⟩ := X.lw
 refine F.fn.ok scTurned (fun vs H Q E h => ?_) (fun cdv A outer s H vs Q E hr h => ?_)
 ·obtain ⟨c, q, rfl, _⟩ := h
  rfl
 ·obtain ⟨c, q, rfl, hc, k⟩ := h
  refine lX ?_
  extract_lets
  refine ⟨_, pss_one (ps_ret (pe_ix ix_str (pe_glob rfl hlw (v := .str (T [110, 119, 115, 101])) ⟨tl, by rw [lit_nwse]⟩)
   (pe_op op_mod (pe_op op_add (pe_bm PySem.F.plainAttrs_str PySem.F.slot_str_index PySem.F.type_str_index mt_index (pe_glob rfl hlw (v := .str (T [110, 119, 115, 101])) ⟨tl, by rw [lit_nwse]⟩) (pa_cons (pv 0) pa_nil)) (pv 1)) pe_int) (fun _ _ => rfl))), ?_⟩
  obtain ⟨rest, ho⟩ := occ_ix hc
  refine ⟨rfl, _, rfl, _, _, _, _, rfl, rfl, ho, _, rfl, _, _, rfl, rfl, _, _, rfl, rfl, (by show (0 : Int) < 4; decide), _, _, _, rfl, rfl, (by rw [T_len]; show 4 ≤ sizeLine; decide), ?_, k⟩
  rw [turn_ix]
  exact atI_nat (lw_at (Nat.mod_lt _ (by decide)))
theorem scTakenBack : FnScope ["step"] ["step"] (defScope sTakenBack) := ⟨rfl, rfl, rfl, by decide +kernel, rfl, by decide +kernel, by decide +kernel⟩
theorem ok_taken_back {f fT : Addr} {fd fdT : FuncData} (F : Df K mg "taken_back" sTakenBack ["step"] f fd) (X : Txt K mg) (Tn : Df K mg "turned" sTurned ["step", "quarters"] fT fdT) : FnOk P w K mg base CX0 2 f fd ["step"] spTakenBack := by
 have GT : FnOk P w K mg base CX0 1 fT fdT ["step", "quarters"] spTurned := ok_turned Tn X
 refine F.fn.ok scTakenBack (fun vs H Q E h => ?_) (fun cdv A outer s H vs Q E hr h => ?_)
 ·obtain ⟨c, rfl, _⟩ := h
  rfl
 ·obtain ⟨c, rfl, hc, k⟩ := h
  exact ⟨_, pss_one (ps_ret (pe_call GT hr rfl Tn.at_ Tn.fn.kp Tn.bi .nil pass0 (pa_cons (pv 0) (pa_cons pe_int pa_nil)))), _, rfl, c, 2, rfl, hc, k⟩
theorem scQuartered : FnScope ["walk", "by", "quarters"] ["walk", "by"] (defScope sQuartered) := ⟨rfl, rfl, rfl, by decide +kernel, rfl, by decide +kernel, by decide +kernel⟩
theorem ok_quartered {f fC fN fT fM : Addr} {fd fdC fdN fdT fdM : FuncData} (F : Df K mg "quartered" sQuartered ["walk", "by"] f fd) (X : Txt K mg) (C : Df K mg "check_walk" sCheckWalk ["walk"] fC fdC)
  (N : Df K mg "check_number" sCheckNumber ["number"] fN fdN) (Tn : Df K mg "turned" sTurned ["step", "quarters"] fT fdT) (M : Df K mg "is_number" sIsNumber ["value"] fM fdM) : FnOk P w K mg base CX0 3 f fd ["walk", "by"] spQuartered := by
 have GC : FnOk P w K mg base CX0 1 fC fdC ["walk"] spCheckWalk := ok_check_walk C X
 have GN : FnOk P w K mg base CX0 2 fN fdN ["number"] spCheckNumber := ok_check_number N X M
 have GT : FnOk P w K mg base CX0 1 fT fdT ["step", "quarters"] spTurned := ok_turned Tn X
 refine F.fn.ok scQuartered (fun vs H Q E h => ?_) (fun cdv A outer s H vs Q E hr h => ?_)
 ·obtain ⟨l, b, rfl, _⟩ := h
  rfl
 ·obtain ⟨l, b, rfl, hl, hz, k⟩ := h
  have hr1 : Room 1 _ := hr.mono (by decide)
  refine lX ?_
  extract_lets
  refine ⟨_, pss_consL (ps_expr (pe_call GC hr1 rfl C.at_ C.fn.kp C.bi .nil pass0 (pa_cons (pv 0) pa_nil)))
   (pss_consL (ps_expr (pe_call GN hr rfl N.at_ N.fn.kp N.bi .nil pass0 (pa_cons (pv 1) pa_nil)))
   (pss_consL (ps_set (i := 2) scQuartered.nd rfl (Or.inr rfl) (pe_op op_mod (pv 1) pe_int))
   (pss_one (ps_ret (pe_bm PySem.F.plainAttrs_str PySem.F.slot_str_join PySem.F.type_str_join mt_join pe_str
    (pa_cons (pe_comp (M := ["step"]) rfl (compSc_of ["walk", "by", "quarters"] (defScope sQuartered) rfl rfl (by decide +kernel)) (pi_str (pv 0)) (fun _ _ _ _ => pg_name (i := 3) (nd_of ["walk", "by", "quarters", "step"] rfl (by decide +kernel)) rfl (Or.inl rfl)) (fun _ _ _ _ => pts_nil)
     (fun _ _ _ _ => pe_call GT hr1 rfl Tn.at_ Tn.fn.kp Tn.bi .nil pass0 (pa_cons (pv 3) (pa_cons (pv 2) pa_nil)))) pa_nil)))))), ?_⟩
  lift_lets
  extract_lets
  refine ⟨_, rfl, l, rfl, hl, ?_⟩
  refine ⟨_, rfl, b, rfl, ?_⟩
  refine ⟨_, rfl, _, _, rfl, rfl, (by show (0 : Int) < 4; decide), ?_⟩
  refine ⟨rfl, _, rfl, l, rfl, ?_⟩
  refine comp_str (l := l) (fun c => .str (T [tn (b % 4).toNat c])) ?_ (by have e : sizeLine = 16777216 := PySem.sizeLine_eq; omega) (fun _ _ _ _ i c hc H3 R s3 kk => ?_) (fun D H' hD s1 hDl => ?_)
  ·rfl
  ·have hlt : Lt c := hl c (List.mem_of_getElem? hc)
   refine ⟨_, rfl, _, rfl, c, b % 4, rfl, hlt, ?_⟩
   rw [mod4]
   exact kk H3 (Same.refl _)
  ·refine ⟨D, (turnL (b % 4).toNat l).map fun c => [c], by rw [lit_0], rfl, ?_, ?_, ?_⟩
   ·refine SqL.of ?_
    rw [hDl]
    unfold turnL
    rw [List.map_map, List.map_map]
    rfl
   ·rw [flat_one]
    unfold turnL
    rw [List.length_map]
    omega
   ·rw [flat_one]
    exact k H' s1
theorem scMirrored : FnScope ["walk"] ["walk"] (defScope sMirrored) := ⟨rfl, rfl, rfl, by decide +kernel, rfl, by decide +kernel, by decide +kernel⟩
theorem ok_mirrored {f fC : Addr} {fd fdC : FuncData} (F : Df K mg "mirrored" sMirrored ["walk"] f fd) (X : Txt K mg) (Y : TxtM K mg w) (C : Df K mg "check_walk" sCheckWalk ["walk"] fC fdC) : FnOk P w K mg base CX0 2 f fd ["walk"] spMirrored := by
 have GC : FnOk P w K mg base CX0 1 fC fdC ["walk"] spCheckWalk := ok_check_walk C X
 obtain ⟨am, nm, t1, t2, t3, t4, u1, u2, u3, u4, hM, hK⟩ := Y.at_
 refine F.fn.ok scMirrored (fun vs H Q E h => ?_) (fun cdv A outer s H vs Q E hr h => ?_)
 ·obtain ⟨l, rfl, _⟩ := h
  rfl
 ·obtain ⟨l, rfl, hl, hz, k⟩ := h
  refine lX ?_
  extract_lets
  refine ⟨_, pss_cons (ps_expr (pe_call GC hr rfl C.at_ C.fn.kp C.bi .nil pass0 (pa_cons (pv 0) pa_nil)))
   (pss_one (ps_ret (pe_bm PySem.F.plainAttrs_str PySem.F.slot_str_join PySem.F.type_str_join mt_join pe_str
    (pa_cons (pe_comp (M := ["step"]) rfl (compSc_of ["walk"] (defScope sMirrored) rfl rfl (by decide +kernel)) (pi_str (pv 0)) (fun _ _ _ _ => pg_name (i := 1) (nd_of ["walk", "step"] rfl (by decide +kernel)) rfl (Or.inl rfl)) (fun _ _ _ _ => pts_nil)
     (fun _ _ _ _ => pe_kget (pe_glob rfl hM (v := .ref am) rfl) (pv 1) (fun _ _ => rfl))) pa_nil)))), ?_⟩
  refine ⟨_, rfl, l, rfl, hl, ?_⟩
  refine ⟨rfl, _, rfl, l, rfl, ?_⟩
  refine comp_str (l := l) (fun c => .str (T [mir c])) ?_ (by have e : sizeLine = 16777216 := PySem.sizeLine_eq; omega) (fun _ _ _ _ i c hc H3 R s3 kk => ?_) (fun D H' hD s1 hDl => ?_)
  ·rfl
  ·have hlt : Lt c := hl c (List.mem_of_getElem? hc)
   obtain ⟨u, e1, e2⟩ := mir_find (w := w) (t1 := t1) (t2 := t2) (t3 := t3) (t4 := t4) (u1 := u1) (u2 := u2) (u3 := u3) (u4 := u4) hlt
   refine ⟨_, rfl, am, _, _, u, _, rfl, rfl, ⟨nm, hK, fun e he => ?_⟩, e1, e2, kk H3 (Same.refl _)⟩
   unfold mirEs at he
   simp only [List.mem_toArray, List.mem_cons, List.not_mem_nil, or_false] at he
   rcases he with rfl | rfl | rfl | rfl
   ·exact ⟨_, _, rfl, rfl⟩
   ·exact ⟨_, _, rfl, rfl⟩
   ·exact ⟨_, _, rfl, rfl⟩
   ·exact ⟨_, _, rfl, rfl⟩
  ·refine ⟨D, (mirL l).map fun c => [c], by rw [lit_0], rfl, ?_, ?_, ?_⟩
   ·refine SqL.of ?_
    rw [hDl]
    unfold mirL
    rw [List.map_map, List.map_map]
    rfl
   ·rw [flat_one]
    unfold mirL
    rw [List.length_map]
    omega
   ·rw [flat_one]
    exact k H' s1
theorem scBackwards : FnScope ["walk"] ["walk"] (defScope sBackwards) := ⟨rfl, rfl, rfl, by decide +kernel, rfl, by decide +kernel, by decide +kernel⟩
theorem ok_backwards {f fC fB fT : Addr} {fd fdC fdB fdT : FuncData} (F : Df K mg "backwards" sBackwards ["walk"] f fd) (X : Txt K mg) (hrev : mg "reversed" = none) (C : Df K mg "check_walk" sCheckWalk ["walk"] fC fdC)
  (B : Df K mg "taken_back" sTakenBack ["step"] fB fdB) (Tn : Df K mg "turned" sTurned ["step", "quarters"] fT fdT) : FnOk P w K mg base CX0 3 f fd ["walk"] spBackwards := by
 have GC : FnOk P w K mg base CX0 1 fC fdC ["walk"] spCheckWalk := ok_check_walk C X
 have GB : FnOk P w K mg base CX0 2 fB fdB ["step"] spTakenBack := ok_taken_back B X Tn
 refine F.fn.ok scBackwards (fun vs H Q E h => ?_) (fun cdv A outer s H vs Q E hr h => ?_)
 ·obtain ⟨l, rfl, _⟩ := h
  rfl
 ·obtain ⟨l, rfl, hl, hz, k⟩ := h
  have hr1 : Room 1 _ := hr.mono (by decide)
  have hsz : l.length ≤ sizeLine := by have e : sizeLine = 16777216 := PySem.sizeLine_eq; omega
  refine lX ?_
  extract_lets
  refine ⟨_, pss_cons (ps_expr (pe_call GC hr1 rfl C.at_ C.fn.kp C.bi .nil pass0 (pa_cons (pv 0) pa_nil)))
   (pss_one (ps_ret (pe_bm PySem.F.plainAttrs_str PySem.F.slot_str_join PySem.F.type_str_join mt_join pe_str
    (pa_cons (pe_comp (M := ["step"]) rfl (compSc_of ["walk"] (defScope sBackwards) rfl rfl (by decide +kernel)) (pi_revS rfl hrev (pa_cons (pv 0) pa_nil)) (fun _ _ _ _ => pg_name (i := 1) (nd_of ["walk", "step"] rfl (by decide +kernel)) rfl (Or.inl rfl)) (fun _ _ _ _ => pts_nil)
     (fun _ _ _ _ => pe_call GB hr rfl B.at_ B.fn.kp B.bi .nil pass0 (pa_cons (pv 1) pa_nil))) pa_nil)))), ?_⟩
  refine ⟨_, rfl, l, rfl, hl, ?_⟩
  refine ⟨rfl, _, rfl, l, rfl, hsz, ?_⟩
  refine comp_str (l := l.reverse) (fun c => .str (T [tn 2 c])) ?_ (by rw [List.length_reverse]; exact hsz) (fun _ _ _ _ i c hc H3 R s3 kk => ?_) (fun D H' hD s1 hDl => ?_)
  ·rfl
  ·have hlt : Lt c := isW_reverse.mpr hl c (List.mem_of_getElem? hc)
   exact ⟨_, rfl, c, rfl, hlt, kk H3 (Same.refl _)⟩
  ·refine ⟨D, (backL l).map fun c => [c], by rw [lit_0], rfl, ?_, ?_, ?_⟩
   ·refine SqL.of ?_
    rw [hDl]
    unfold backL turnL
    rw [List.map_map, List.map_map]
    rfl
   ·rw [flat_one]
    unfold backL turnL
    rw [List.length_map, List.length_reverse]
    omega
   ·rw [flat_one]
    exact k H' s1
theorem scIsClosed : FnScope ["walk"] ["walk"] (defScope sIsClosed) := ⟨rfl, rfl, rfl, by decide +kernel, rfl, by decide +kernel, by decide +kernel⟩
def spIsClosed : Sp := fun vs H Q _ => ∃ (l : List Nat), vs = [.str (T l)] ∧ IsW l ∧ ∀ H', Same H H' → Q (.bl (decide (posOf l = (0, 0)))) H'
theorem ok_is_closed {f fC fE : Addr} {fd fdC fdE : FuncData} (F : Df K mg "is_closed" sIsClosed ["walk"] f fd) (X : Txt K mg) (C : Df K mg "check_walk" sCheckWalk ["walk"] fC fdC) (En : Df K mg "end" sEnd ["walk"] fE fdE) :
  FnOk P w K mg base CX0 3 f fd ["walk"] spIsClosed := by
 have GE : FnOk P w K mg base CX0 2 fE fdE ["walk"] spEnd := ok_end En X C
 refine F.fn.ok scIsClosed (fun vs H Q E h => ?_) (fun cdv A outer s H vs Q E hr h => ?_)
 ·obtain ⟨l, rfl, _⟩ := h
  rfl
 ·obtain ⟨l, rfl, hl, k⟩ := h
  refine lX ?_
  extract_lets
  refine ⟨_, pss_one (ps_ret (pe_cmpR (op_eqD hr.units) (pe_call GE hr rfl En.at_ En.fn.kp En.bi .nil pass0 (pa_cons (pv 0) pa_nil)) (pe_tup (pa_cons pe_int (pa_cons pe_int pa_nil))) (nomark _))), ?_⟩
  refine ⟨_, rfl, l, rfl, hl, fun b hb => ⟨two_le, fun c hc => ?_⟩⟩
  have hbc : b ≠ c := fun z => by rw [z, upd_same] at hc; cases hc
  refine ⟨_, _, dat_pt (p := posOf l) (by rw [upd_ne hbc, upd_same]), dat_pt (p := (0, 0)) upd_same, shaped_pt _, shaped_pt _, ?_⟩
  rw [eqv_pt]
  refine k _ fun x o e => ?_
  rw [upd_ne, upd_ne (ne_of_none e hb)]
  ·exact e
  ·refine ne_of_none (H := upd H b (.tup [.int (posOf l).1, .int (posOf l).2])) (o := o) ?_ hc
   rw [upd_ne (ne_of_none e hb)]
   exact e
theorem scSimpleInit : FnScope ["self", "places"] ["self", "places"] (defScope sSimpleInit) := ⟨rfl, rfl, rfl, by decide +kernel, rfl, by decide +kernel, by decide +kernel⟩
theorem ok_simple_init {f Cs : Addr} {fd : FuncData} (F : Mf K "__init__" "Simple.__init__" sSimpleInit ["self", "places"] f fd) (hlst : mg "list" = none) (cl : Cls K Cs) (nP : NoAttr K Cs "places") : FnOk P w K mg base CX0 1 f fd ["self", "places"] (spSimpInit K Cs) := by
 refine F.fn.ok scSimpleInit (fun vs H Q E h => ?_) (fun cdv A outer s H vs Q E hr h => ?_)
 ·obtain ⟨p, dx, a, xs, rfl, _⟩ := h
  rfl
 ·obtain ⟨p, dx, a, xs, rfl, hp, ha, k⟩ := h
  refine lX ?_
  extract_lets
  refine ⟨_, pss_one (ps_fld (pv 0) (pe_callTy call_list_of rfl hlst PyProof.Rows.boot_list (pa_cons (pv 1) pa_nil)) rfl), ?_⟩
  refine ⟨_, rfl, a, xs, rfl, .inl ha, fun d hd => ?_⟩
  have npd : p ≠ d := ne_of_none hp hd
  exact ⟨_, rfl, p, Cs, dx, [], rfl, (by rw [upd_ne npd]; exact hp), cl, nP, (by show 0 < 1000; decide), k d hd⟩
theorem scTwiceInit : FnScope ["self", "first", "second"] ["self", "first", "second"] (defScope sTwiceInit) := ⟨rfl, rfl, rfl, by decide +kernel, rfl, by decide +kernel, by decide +kernel⟩
theorem ok_twice_init {f Ct : Addr} {fd : FuncData} (F : Mf K "__init__" "Twice.__init__" sTwiceInit ["self", "first", "second"] f fd) (cl : Cls K Ct) (nF : NoAttr K Ct "first") (nS : NoAttr K Ct "second") : FnOk P w K mg base CX0 1 f fd ["self", "first", "second"] (spTwInit Ct) := by
 refine F.fn.ok scTwiceInit (fun vs H Q E h => ?_) (fun cdv A outer s H vs Q E hr h => ?_)
 ·obtain ⟨p, dx, i, j, rfl, _⟩ := h
  rfl
 ·obtain ⟨p, dx, i, j, rfl, hp, k⟩ := h
  refine lX ?_
  extract_lets
  refine ⟨_, pss_cons (ps_fld (pv 0) (pv 1) rfl) (pss_one (ps_fld (pv 0) (pv 2) rfl)), ?_⟩
  exact ⟨_, rfl, _, rfl, p, Ct, dx, [], rfl, hp, cl, nF, (by show 0 < 1000; decide), _, rfl, _, rfl, p, Ct, dx, _, rfl, upd_same, cl, nS, (by show 1 < 1000; decide), k⟩
theorem scMeets : FnScope ["walk", "moments", "moment", "place"] ["walk"] (defScope sMeets) := ⟨rfl, rfl, rfl, by decide +kernel, rfl, by decide +kernel, by decide +kernel⟩
def momK : Nat → List Pt → List (List Key × V)
 | _, [] => []
 | n, q :: r => (ptK q, .int (n : Int)) :: momK (n + 1) r
theorem momK_keys : ∀ (n : Nat) (ps : List Pt), (momK n ps).map (·.1) = ps.map ptK
 | _, [] => rfl
 | n, q :: r => by
  show ptK q :: _ = ptK q :: _
  rw [momK_keys (n + 1) r]
theorem momK_length (n : Nat) (ps : List Pt) : (momK n ps).length = ps.length := by
 have := congrArg List.length (momK_keys n ps)
 rw [List.length_map, List.length_map] at this
 exact this
theorem momK_snoc : ∀ (n : Nat) (ps : List Pt) (q : Pt), momK n (ps ++ [q]) = momK n ps ++ [(ptK q, .int ((n + ps.length : Nat) : Int))]
 | n, [], q => by simp [momK]
 | n, p :: ps, q => by
  show (ptK p, _) :: momK (n + 1) (ps ++ [q]) = (ptK p, _) :: (momK (n + 1) ps ++ _)
  rw [momK_snoc (n + 1) ps q, List.length_cons]
  have : n + 1 + ps.length = n + (ps.length + 1) := by omega
  rw [this]
theorem momK_val (q : Pt) : ∀ (n : Nat) (ps : List Pt), (∃ j : Nat, ps[j]? = some q ∧ valV (momK n ps) (ptK q) = some (.int ((n + j : Nat) : Int))) ∨ (q ∉ ps ∧ valV (momK n ps) (ptK q) = none)
 | n, [] => .inr ⟨List.not_mem_nil, rfl⟩
 | n, p :: ps => by
  by_cases e : p = q
  ·subst e
   exact .inl ⟨0, rfl, valV_pos (p := (ptK p, .int (n : Int))) (r := momK (n + 1) ps) rfl⟩
  ·have hv : valV (momK n (p :: ps)) (ptK q) = valV (momK (n + 1) ps) (ptK q) := valV_neg (p := (ptK p, .int (n : Int))) (r := momK (n + 1) ps) fun z => e (ptK_inj z)
   rcases momK_val q (n + 1) ps with ⟨j, h1, h2⟩ | ⟨h1, h2⟩
   ·refine .inl ⟨j + 1, by simpa using h1, ?_⟩
    rw [hv, h2]
    have : n + 1 + j = n + (j + 1) := by omega
    rw [this]
   ·refine .inr ⟨fun z => ?_, by rw [hv, h2]⟩
    rcases List.mem_cons.mp z with z | z
    ·exact e z.symm
    ·exact h1 z
theorem ok_meets {f fC Cs Ct fSI fSS fTI fTS : Addr} {fd fdC fdSI fdTI : FuncData} (F : Df K mg "meets" sMeets ["walk"] f fd) (henu : mg "enumerate" = none) (hsrt : mg "sorted" = none) (Cp : Df K mg "counted_places" sCountedPlaces ["walk"] fC fdC) (GC : FnOk P w K mg base CX0 3 fC fdC ["walk"] spCounted)
  (S : ClT K mg "Simple" Cs fSI fSS) (SI : Mf K "__init__" "Simple.__init__" sSimpleInit ["self", "places"] fSI fdSI) (GSI : FnOk P w K mg base CX0 1 fSI fdSI ["self", "places"] (spSimpInit K Cs))
  (Tw : ClT K mg "Twice" Ct fTI fTS) (TI : Mf K "__init__" "Twice.__init__" sTwiceInit ["self", "first", "second"] fTI fdTI) (GTI : FnOk P w K mg base CX0 1 fTI fdTI ["self", "first", "second"] (spTwInit Ct)) : FnOk P w K mg base CX0 4 f fd ["walk"] (spMeets Cs Ct) := by
 refine F.fn.ok scMeets (fun vs H Q E h => ?_) (fun cdv A outer s H vs Q E hr h => ?_)
 ·obtain ⟨l, rfl, _⟩ := h
  rfl
 ·obtain ⟨l, rfl, hl, hz, k1, k2⟩ := h
  have esz : sizeLine = 16777216 := PySem.sizeLine_eq
  have hu := hu_of hr
  have hrM : Room (1 + 1) _ := hr.mono (by decide)
  refine lX ?_
  extract_lets
  refine ⟨_, pss_consL (ps_set (i := 1) scMeets.nd rfl (Or.inl rfl) pe_dnewT)
   (pss_consL (ps_for PassesOwn.never rfl (pi_enumL rfl henu (pa_cons (pe_call GC hr rfl Cp.at_ Cp.fn.kp Cp.bi .nil pass0 (pa_cons (pv 0) pa_nil)) pa_nil)) (pg_tup (n := 2) rfl (pgs_cons (pg_name (i := 2) scMeets.nd rfl (Or.inl rfl)) (pgs_cons (pg_name (i := 3) scMeets.nd rfl (Or.inl rfl)) pgs_nil)))
    (pss_consL (ps_if (pt_cmp (pc_din hu (pv 3) (pv 1))) (pss_one (ps_ret (pe_make Tw.mkr GTI hrM rfl Tw.at_ TI.bi .nil pass0 (pa_cons (pe_dget hu (pv 1) (pv 3) (fun _ _ => rfl)) (pa_cons (pv 2) pa_nil))))) pss_nil)
    (pss_one (ps_dput hu (pv 1) (pv 3) (pv 2) rfl))))
   (pss_one (ps_ret (pe_make S.mkr GSI hrM rfl S.at_ SI.bi .nil pass0 (pa_cons (pe_callB (call_sortedD rfl) rfl hsrt PyProof.Rows.boot_sorted (pa_cons (pv 1) pa_nil)) pa_nil))))), ?_⟩
  lift_lets
  extract_lets
  intro m hm
  have hm1 : upd H m (.dT []) m = some (.dT []) := upd_same
  have s0 : Same H (upd H m (.dT [])) := same_new hm
  first | change Ends.nx _ _ (upd H m (.dT [])) | change tSeq _ _ _ _ (upd H m (.dT []))
  generalize upd H m (.dT []) = H0 at *
  revert H0
  refine keepG ?_
  set_option tactic.hygienic false in intros
  refine ⟨_, rfl, l, rfl, hl, hz, fun c H1 hc s1 hP => ?_⟩
  have hm2 : H1 m = some (.dT []) := s1 _ _ hm1
  have hcm : c ≠ m := fun z => by rw [z, hm1] at hc; cases hc
  have hcl := cntP_length l
  obtain ⟨as, hc1, hT⟩ := id hP
  have hlen : as.length = (cntP l).length := Paired.length hT
  refine ⟨c, rfl, ⟨_, SqL.of hc1⟩, ?_⟩
  refine for_enumL (K := K) (a := c) (xs := as.map V.ref) (fun i σ H' => ∃ (v2 v3 : Option V), σ = [some (.str (T l)), some (.ref m), v2, v3] ∧ (∀ b o, b ≠ m → H1 b = some o → H' b = some o) ∧ H' m = some (.dT (momK 0 ((cntP l).take i))) ∧ ((cntP l).take i).Nodup) ?_ ?_ ?_ ?_
  ·exact ⟨none, none, rfl, fun b o _ e => e, hm2, by rw [List.take_zero]; exact List.nodup_nil⟩
  ·rintro i σ H' hi ⟨v2, v3, rfl, kp, hm', nd⟩
   exact SqL.of (kp _ _ hcm hc1)
  ·intro i v σ H' b hv hI hb
   generalize hE1 : Ends.mk _ _ _ _ = E1
   revert E1
   refine keepG ?_
   set_option tactic.hygienic false in intros
   obtain ⟨v2, v3, rfl, kp, hm', nd⟩ := hI
   obtain ⟨a, ha, rfl⟩ := map_ref_get hv
   obtain ⟨q, hq, hta⟩ := paired_get hT ha
   have ham : a ≠ m := fun z => by rw [z, hm2] at hta; cases hta
   have hta' : H' a = some (.tup [.int q.1, .int q.2]) := kp _ _ ham hta
   have hil : i < (cntP l).length := (List.getElem?_eq_some_iff.mp hq).1
   have et : (cntP l).take (i + 1) = (cntP l).take i ++ [q] := by rw [List.take_add_one, hq]; rfl
   have hli : ((cntP l).take i).length = i := by rw [List.length_take]; omega
   have sb : Same H' (upd H' b (.tup [.int (i : Int), .ref a])) := same_new hb
   have tb : upd H' b (.tup [.int (i : Int), .ref a]) b = some (.tup [.int (i : Int), .ref a]) := upd_same
   change gTup _ _ _ _ _ (upd H' b (.tup [.int (i : Int), .ref a])) _
   generalize upd H' b (.tup [.int (i : Int), .ref a]) = H2 at *
   revert H2
   refine keepG ?_
   set_option tactic.hygienic false in intros
   have hm3 := sb _ _ hm'
   have hta3 : H2 a = some (.tup ((ptK q).map kV)) := sb _ _ hta'
   refine ⟨b, _, rfl, SqT.of tb, rfl, _, _, rfl, _, _, rfl, rfl, ?_⟩
   refine ⟨_, rfl, _, rfl, m, _, rfl, DGet.t hm3 hta3, _, rfl, ?_⟩
   rcases momK_val q 0 ((cntP l).take i) with ⟨j, hj1, hj2⟩ | ⟨hn1, hn2⟩
   ·rw [hj2]
    refine iteT ?_
    have hji : j < i := by
     have := (List.getElem?_eq_some_iff.mp hj1).1
     omega
    refine ⟨_, rfl, _, rfl, m, _, rfl, by have := DGet.t hm3 hta3; rw [hj2] at this; exact this, _, rfl, fun x dx hx hdx hne => ?_⟩
    subst hE1
    refine ⟨x, dx, ((0 + j : Nat) : Int), (i : Int), rfl, upd_same, rfl, ?_⟩
    have hxm : x ≠ m := fun z => by rw [z, hm3] at hx; cases hx
    have hdm : dx ≠ m := fun z => by rw [z, hm3] at hdx; cases hdx
    have hsame : ∀ y o, H y = some o → H2 y = some o := fun y o e => sb _ _ (kp _ _ (ne_of_none e hm) (s1 _ _ (s0 _ _ e)))
    have hx0 : H x = none := by
     cases e : H x with
     | none => rfl
     | some o => rw [hsame _ _ e] at hx; cases hx
    refine k2 j i x _ hji hil ?_ hx0 (fun y o e => ?_) ⟨dx, ?_⟩
    ·rw [List.getElem?_take, if_pos hji] at hj1
     rw [hj1, hq]
    ·have e2 := hsame _ _ e
     rw [upd_ne (ne_of_none e hx0), upd_ne (ne_of_none e hx0), upd_ne (ne_of_none e hx0), upd_ne (ne_of_none e2 hdx)]
     exact e2
    ·rw [upd_same, Nat.zero_add]
   ·rw [hn2]
    refine iteF ?_
    have hlt : (momK 0 ((cntP l).take i)).length < sizeLine := by
     rw [momK_length, List.length_take]
     omega
    refine ⟨_, rfl, _, rfl, _, rfl, m, _, rfl, DPut.t hm3 hta3 hlt, ?_⟩
    rw [putK_new _ hn2]
    subst hE1
    refine ⟨_, _, rfl, fun x o hx h1 => ?_, ?_, ?_⟩
    ·rw [upd_ne hx]
     exact sb _ _ (kp _ _ hx h1)
    ·rw [upd_same, et, momK_snoc, hli, Nat.zero_add]
    ·rw [et, List.nodup_append]
     refine ⟨nd, by simp, fun x hx y hy e => ?_⟩
     rw [List.mem_singleton.mp hy] at e
     exact hn1 (e ▸ hx)
  ·rintro σ H' ⟨v2, v3, rfl, kp, hm', nd⟩
   rw [List.length_map, hlen, List.take_of_length_le (Nat.le_refl _)] at nd
   rw [List.length_map, hlen, List.take_of_length_le (Nat.le_refl _)] at hm'
   have hsame : ∀ y o, H y = some o → H' y = some o := fun y o e => kp _ _ (ne_of_none e hm) (s1 _ _ (s0 _ _ e))
   refine ⟨_, rfl, m, _, cntP l, rfl, .inl hm', momK_keys 0 _, fun e as' ps' he hT' hpp hso => ?_⟩
   have s4 := same_new (o := .lst (as'.map V.ref)) he
   have h4 : upd H' e (.lst (as'.map V.ref)) e = some (.lst (as'.map V.ref)) := upd_same
   have hT4 : Tups (upd H' e (.lst (as'.map V.ref))) as' ps' := tups_mono hT' s4.tup
   intro x dx hx hdx hne
   change upd H' e (.lst (as'.map V.ref)) x = none at hx
   change upd H' e (.lst (as'.map V.ref)) dx = none at hdx
   change spSimpInit K Cs _ (upd (upd (upd H' e (.lst (as'.map V.ref))) dx (.own x)) x (.ins Cs dx [])) _ _
   generalize upd H' e (.lst (as'.map V.ref)) = H4 at *
   revert H4
   refine keepG ?_
   set_option tactic.hygienic false in intros
   have hex : e ≠ x := ne_of_none h4 hx
   have hed : e ≠ dx := ne_of_none h4 hdx
   refine ⟨x, dx, e, as'.map V.ref, rfl, upd_same, SqL.of (by rw [upd_ne hex, upd_ne hed]; exact h4), fun d hd => ⟨rfl, ?_⟩⟩
   have hdx' : d ≠ x := fun z => by rw [z, upd_same] at hd; cases hd
   have hdd : d ≠ dx := fun z => by rw [z, upd_ne hne, upd_same] at hd; cases hd
   have hd4 : H4 d = none := by rw [upd_ne hdx', upd_ne hdd] at hd; exact hd
   have hx0 : H x = none := by
    cases e' : H x with
    | none => rfl
    | some o => rw [s4 _ _ (hsame _ _ e')] at hx; cases hx
   have old : ∀ y o, H4 y = some o → upd (upd (upd (upd H4 dx (.own x)) x (.ins Cs dx [])) d (.lst (as'.map V.ref))) x (.ins Cs dx (fsS d)) y = some o := fun y o e' => by
    rw [upd_ne (ne_of_none e' hx), upd_ne (ne_of_none e' hd4), upd_ne (ne_of_none e' hx), upd_ne (ne_of_none e' hdx)]
    exact e'
   refine k1 nd x _ hx0 (fun y o e' => old _ _ (s4 _ _ (hsame _ _ e'))) ⟨dx, d, as', upd_same, ?_, ?_⟩
   ·rw [upd_ne hdx', upd_same]
   ·rw [← srtP_eq hpp hso]
    exact hT4.mono fun y xs e' => old _ _ e'
theorem scCheckClosed : FnScope ["walk"] ["walk"] (defScope sCheckClosed) := ⟨rfl, rfl, rfl, by decide +kernel, rfl, by decide +kernel, by decide +kernel⟩
theorem ok_check_closed {f fI fC fE : Addr} {fd fdI fdC fdE : FuncData} (F : Df K mg "check_closed" sCheckClosed ["walk"] f fd) (X : Txt K mg) (I : Df K mg "is_closed" sIsClosed ["walk"] fI fdI) (C : Df K mg "check_walk" sCheckWalk ["walk"] fC fdC) (En : Df K mg "end" sEnd ["walk"] fE fdE) :
  FnOk P w K mg base CX0 4 f fd ["walk"] spCheckClosed := by
 have GI : FnOk P w K mg base CX0 3 fI fdI ["walk"] spIsClosed := ok_is_closed I X C En
 refine F.fn.ok scCheckClosed (fun vs H Q E h => ?_) (fun cdv A outer s H vs Q E hr h => ?_)
 ·obtain ⟨l, rfl, _⟩ := h
  rfl
 ·obtain ⟨l, rfl, hl, h0, k⟩ := h
  refine lX ?_
  extract_lets
  refine ⟨_, pss_one (ps_if (pt_not (pt_val (pe_call GI hr rfl I.at_ I.fn.kp I.bi .nil pass0 (pa_cons (pv 0) pa_nil)))) pss_never pss_nil), ?_⟩
  refine ⟨_, rfl, l, rfl, hl, fun H1 s1 => ⟨_, rfl, ?_⟩⟩
  rw [h0]
  refine iteF ?_
  exact k _ s1
theorem scCheckLoop : FnScope ["walk"] ["walk"] (defScope sCheckLoop) := ⟨rfl, rfl, rfl, by decide +kernel, rfl, by decide +kernel, by decide +kernel⟩
def spCheckLoop : Sp := fun vs H Q _ => ∃ (l : List Nat), vs = [.str (T l)] ∧ IsW l ∧ l.length ≤ 1000 ∧ posOf l = (0, 0) ∧ 4 ≤ l.length ∧ (cntP l).Nodup ∧ ∀ H', Same H H' → Q .non H'
theorem ok_check_loop {f fZ fM Cs Ct fSI fSS : Addr} {fd fdZ fdM : FuncData} (F : Df K mg "check_loop" sCheckLoop ["walk"] f fd) (X : Txt K mg) (hlen : mg "len" = none) (Z : Df K mg "check_closed" sCheckClosed ["walk"] fZ fdZ) (GZ : FnOk P w K mg base CX0 4 fZ fdZ ["walk"] spCheckClosed)
  (M : Df K mg "meets" sMeets ["walk"] fM fdM) (GM : FnOk P w K mg base CX0 4 fM fdM ["walk"] (spMeets Cs Ct)) (S : ClT K mg "Simple" Cs fSI fSS) (kSS : PySem.W.kitOne K (.ref Cs) (.ref Cs) = some true) : FnOk P w K mg base CX0 5 f fd ["walk"] spCheckLoop := by
 refine F.fn.ok scCheckLoop (fun vs H Q E h => ?_) (fun cdv A outer s H vs Q E hr h => ?_)
 ·obtain ⟨l, rfl, _⟩ := h
  rfl
 ·obtain ⟨l, rfl, hl, hz, h0, h4, nd, k⟩ := h
  have esz : sizeLine = 16777216 := PySem.sizeLine_eq
  refine lX ?_
  extract_lets
  refine ⟨_, pss_cons (ps_expr (pe_call GZ hr rfl Z.at_ Z.fn.kp Z.bi .nil pass0 (pa_cons (pv 0) pa_nil)))
   (pss_one (ps_if (PW.pt (pw_or (pt_cmpR op_lt (pe_callB call_len_str rfl hlen PySem.boot_len (pa_cons (pv 0) pa_nil)) pe_int (nomark _))
    (pw_or1 (pt_not (pt_val (pe_callB call_isC rfl X.isi PyProof.Rows.boot_isinstance (pa_cons (pe_call GM hr rfl M.at_ M.fn.kp M.bi .nil pass0 (pa_cons (pv 0) pa_nil)) (pa_cons (pe_glob rfl S.at_ (v := .ref Cs) rfl) pa_nil)))))))) pss_never pss_nil)), ?_⟩
  refine ⟨_, rfl, l, rfl, hl, h0, fun H1 s1 => ?_⟩
  refine ⟨_, rfl, _, rfl, (by rw [T_len]; omega), _, _, rfl, rfl, _, rfl, ?_⟩
  rw [T_len]
  refine ite2 (fun h => ?_) (fun _ => ?_)
  ·have : (l.length : Int) < 4 := of_decide_eq_true h
   omega
  refine ⟨_, rfl, l, rfl, hl, hz, fun _ p H2 hp s2 hS => ?_, fun i j p H2 hij hj e _ _ _ => ?_⟩
  ·obtain ⟨dx, d, as, h1, _⟩ := hS
   refine ⟨_, _, _, true, rfl, S.ty h1, kSS, _, rfl, ?_⟩
   refine iteF ?_
   exact k H2 (s1.trans s2)
  ·exfalso
   have g1 : (cntP l)[i]? = some (cntP l)[i] := List.getElem?_eq_getElem (by omega)
   have g2 : (cntP l)[j]? = some (cntP l)[j] := List.getElem?_eq_getElem hj
   rw [g1, g2] at e
   exact List.pairwise_iff_getElem.mp (List.nodup_iff_pairwise_ne.mp nd) i j (by omega) hj hij (Option.some.inj e)
theorem scTurns : FnScope ["walk", "left", "right", "ahead", "step"] ["walk"] (defScope sTurns) := ⟨rfl, rfl, rfl, by decide +kernel, rfl, by decide +kernel, by decide +kernel⟩
def spTurns : Sp := fun vs H Q _ => ∃ (l : List Nat), vs = [.str (T l)] ∧ IsW l ∧ l.length ≤ 1000 ∧ posOf l = (0, 0) ∧ 4 ≤ l.length ∧ (cntP l).Nodup ∧ ∀ b H', H b = none → Same H H' → H' b = some (.tup [.int (cycT isL l : Int), .int (cycT isR l : Int)]) → Q (.ref b) H'
theorem cntT_snoc (f : Nat → Nat → Bool) (p : Nat) (l : List Nat) (c : Nat) : cntT f p (l ++ [c]) = cntT f p l + (if f (lastD p l) c = true then 1 else 0) := by
 rw [cntT_append]
 rfl
theorem lastD_take {l : List Nat} (p : Nat) : ∀ {i : Nat} {c : Nat}, (p :: l)[i]? = some c → lastD p (l.take i) = c := by
 induction l generalizing p with
 | nil =>
  intro i c h
  cases i with
  | zero =>
   simp at h
   subst h
   rfl
  | succ i => simp at h
 | cons d r ih =>
  intro i c h
  cases i with
  | zero =>
   simp at h
   subst h
   rfl
  | succ i =>
   show lastD d (r.take i) = c
   exact ih d (by simpa using h)
theorem ok_turns {f fC fT : Addr} {fd fdC fdT : FuncData} (F : Df K mg "turns" sTurns ["walk"] f fd) (hzip : mg "zip" = none) (C : Df K mg "check_loop" sCheckLoop ["walk"] fC fdC) (GC : FnOk P w K mg base CX0 5 fC fdC ["walk"] spCheckLoop)
  (Tn : Df K mg "turned" sTurned ["step", "quarters"] fT fdT) (GT : FnOk P w K mg base CX0 1 fT fdT ["step", "quarters"] spTurned) : FnOk P w K mg base CX0 6 f fd ["walk"] spTurns := by
 refine F.fn.ok scTurns (fun vs H Q E h => ?_) (fun cdv A outer s H vs Q E hr h => ?_)
 ·obtain ⟨l, rfl, _⟩ := h
  rfl
 ·obtain ⟨l, rfl, hl, hz, h0, h4, nd, k⟩ := h
  have esz : sizeLine = 16777216 := PySem.sizeLine_eq
  have hr1 : Room 1 _ := hr.mono (by decide)
  refine lX ?_
  extract_lets
  refine ⟨_, pss_consL (ps_expr (pe_call GC hr rfl C.at_ C.fn.kp C.bi .nil pass0 (pa_cons (pv 0) pa_nil)))
   (pss_consL (ps_set (i := 1) scTurns.nd rfl (Or.inl rfl) pe_int)
   (pss_consL (ps_set (i := 2) scTurns.nd rfl (Or.inl rfl) pe_int)
   (pss_consL (ps_for PassesOwn.never rfl (pi_zipSS rfl hzip (pa_cons (pe_op op_add_str (pe_ix ix_str (pv 0) (pe_un un_neg pe_int) (fun _ _ => rfl)) (pv 0)) (pa_cons (pv 0) pa_nil))) (pg_tup (n := 2) rfl (pgs_cons (pg_name (i := 3) scTurns.nd rfl (Or.inl rfl)) (pgs_cons (pg_name (i := 4) scTurns.nd rfl (Or.inl rfl)) pgs_nil)))
    (pss_consL (ps_mrg (ps_if (pt_cmpR op_eq (pv 4) (pe_call GT hr1 rfl Tn.at_ Tn.fn.kp Tn.bi .nil pass0 (pa_cons (pv 3) (pa_cons pe_int pa_nil))) (nomark _)) (pss_one (ps_set (i := 1) scTurns.nd rfl (Or.inl rfl) (pe_op op_add (pv 1) pe_int))) pss_nil))
    (pss_one (ps_if (pt_cmpR op_eq (pv 4) (pe_call GT hr1 rfl Tn.at_ Tn.fn.kp Tn.bi .nil pass0 (pa_cons (pv 3) (pa_cons pe_int pa_nil))) (nomark _)) (pss_one (ps_set (i := 2) scTurns.nd rfl (Or.inl rfl) (pe_op op_add (pv 2) pe_int))) pss_nil))))
   (pss_one (ps_ret (pe_tup (pa_cons (pv 1) (pa_cons (pv 2) pa_nil)))))))), ?_⟩
  lift_lets
  extract_lets
  refine ⟨_, rfl, l, rfl, hl, hz, h0, h4, nd, fun H1 s1 => ?_⟩
  obtain ⟨pre, z, rfl⟩ : ∃ pre z, l = pre ++ [z] := ⟨l.dropLast, l.getLast (by intro e; rw [e] at h4; simp at h4), (List.dropLast_concat_getLast _).symm⟩
  generalize hll : pre ++ [z] = l at *
  revert l
  refine keepG ?_
  set_option tactic.hygienic false in intros
  have hoz : (T l).length ≤ sizeLine := by rw [T_len]; omega
  have hat : atI l (-1) = some z := by
   rw [← hll]
   exact atI_last _ _
  have hzl : Lt z := hl z (by rw [← hll]; simp)
  refine ⟨_, rfl, _, rfl, _, _, z, rfl, rfl, hoz, (by rw [T_list]; exact hat), _, rfl, _, _, rfl, rfl, (by show (T [z]).length + (T l).length ≤ sizeLine; rw [T_len, T_len]; show 1 + l.length ≤ sizeLine; omega), _, rfl, z :: l, l, ?_, ?_⟩
  ·show [V.str (T [z] ++ T l), V.str (T l)] = _
   rw [T_app]
   rfl
  have hlast : lastD 0 l = z := by
   rw [← hll]
   exact lastD_snoc _ _ _
  refine for_zip (xs := letsV (z :: l)) (ys := letsV l) (fun i σ H' => (∃ (v3 v4 : Option V), σ = [some (.str (T l)), some (.int (cntT isL z (l.take i) : Int)), some (.int (cntT isR z (l.take i) : Int)), v3, v4]) ∧ Same H1 H') ?_ ?_ ?_ ?_
  ·exact ⟨⟨none, none, rfl⟩, Same.refl _⟩
  ·rintro i σ H' _
   exact ⟨rfl, rfl⟩
  ·intro i u v σ H' b hu hv hI hb
   generalize hE1 : Ends.mk _ _ _ _ = E1
   revert E1
   refine keepG ?_
   set_option tactic.hygienic false in intros
   obtain ⟨⟨v3, v4, rfl⟩, sH⟩ := hI
   obtain ⟨a, ha, rfl⟩ : ∃ c, (z :: l)[i]? = some c ∧ u = V.str (T [c]) := by
    unfold letsV at hu
    rw [List.getElem?_map] at hu
    cases e : (z :: l)[i]? with
    | none => rw [e] at hu; cases hu
    | some c => rw [e] at hu; exact ⟨c, rfl, (Option.some.inj hu).symm⟩
   obtain ⟨c, hc, rfl⟩ : ∃ c, l[i]? = some c ∧ v = V.str (T [c]) := by
    unfold letsV at hv
    rw [List.getElem?_map] at hv
    cases e : l[i]? with
    | none => rw [e] at hv; cases hv
    | some c => rw [e] at hv; exact ⟨c, rfl, (Option.some.inj hv).symm⟩
   have hal : Lt a := by
    rcases List.mem_cons.mp (List.mem_of_getElem? ha) with e | e
    ·rw [e]; exact hzl
    ·exact hl a e
   have ela : lastD z (l.take i) = a := lastD_take z ha
   have et : l.take (i + 1) = l.take i ++ [c] := by rw [List.take_add_one, hc]; rfl
   have eL := cntT_snoc isL z (l.take i) c
   have eR := cntT_snoc isR z (l.take i) c
   rw [← et, ela] at eL eR
   have sb : Same H' (upd H' b (.tup [.str (T [a]), .str (T [c])])) := same_new hb
   have tb : upd H' b (.tup [.str (T [a]), .str (T [c])]) b = some (.tup [.str (T [a]), .str (T [c])]) := upd_same
   change gTup _ _ _ _ _ (upd H' b (.tup [.str (T [a]), .str (T [c])])) _
   generalize upd H' b (.tup [.str (T [a]), .str (T [c])]) = H2 at *
   revert H2
   refine keepG ?_
   set_option tactic.hygienic false in intros
   refine ⟨b, _, rfl, SqT.of tb, rfl, _, _, rfl, _, _, rfl, rfl, ?_⟩
   refine ⟨fun σ' H'' => H'' = H2 ∧ σ' = [some (.str (T l)), some (.int (cntT isL z (l.take (i + 1)) : Int)), some (.int (cntT isR z (l.take i) : Int)), some (.str (T [a])), some (.str (T [c]))], ?_, ?_⟩
   ·refine ⟨_, rfl, _, rfl, a, 1, rfl, hal, rfl, _, rfl, ?_⟩
    have e1 : decide (V.str (T [c]) = V.str (T [tn ((1 : Int) % 4).toNat a])) = isL a c := by
     rw [strT]
     unfold isL
     by_cases y : c = tn 1 a
     ·rw [decide_eq_true y, decide_eq_true (by rw [y]; rfl)]
     ·rw [decide_eq_false y, decide_eq_false (by intro q; exact y (by simpa using q))]
    change if decide (V.str (T [c]) = V.str (T [tn ((1 : Int) % 4).toNat a])) = true then _ else _
    rw [e1]
    refine ite2 (fun h => ?_) (fun h => ?_)
    ·refine ⟨_, rfl, _, _, rfl, rfl, rfl, ?_⟩
     rw [eL, if_pos h]
     rfl
    ·refine ⟨rfl, ?_⟩
     rw [eL, if_neg h]
     rfl
   rintro σ' H'' ⟨rfl, rfl⟩
   refine ⟨_, rfl, _, rfl, a, 3, rfl, hal, rfl, _, rfl, ?_⟩
   have e1 : decide (V.str (T [c]) = V.str (T [tn ((3 : Int) % 4).toNat a])) = isR a c := by
    rw [strT]
    unfold isR
    by_cases y : c = tn 3 a
    ·rw [decide_eq_true y, decide_eq_true (by rw [y]; rfl)]
    ·rw [decide_eq_false y, decide_eq_false (by intro q; exact y (by simpa using q))]
   change if decide (V.str (T [c]) = V.str (T [tn ((3 : Int) % 4).toNat a])) = true then _ else _
   rw [e1]
   refine ite2 (fun h => ?_) (fun h => ?_)
   ·subst hE1
    refine ⟨_, rfl, _, _, rfl, rfl, ⟨some (.str (T [a])), some (.str (T [c])), ?_⟩, sH.trans sb⟩
    rw [eR, if_pos h]
    rfl
   ·subst hE1
    refine ⟨⟨some (.str (T [a])), some (.str (T [c])), ?_⟩, sH.trans sb⟩
    rw [eR, if_neg h]
    rfl
  ·rintro σ H' ⟨⟨v3, v4, rfl⟩, sH⟩
   have em : min (letsV (z :: l)).length (letsV l).length = l.length := by
    unfold letsV
    rw [List.length_map, List.length_map, List.length_cons]
    omega
   rw [em, List.take_of_length_le (Nat.le_refl _)]
   refine ⟨_, rfl, _, rfl, two_le, fun b hb => ?_⟩
   have s2 : Same H H' := s1.trans sH
   have hbn : H b = none := by
    cases e : H b with
    | none => rfl
    | some o => rw [s2 _ _ e] at hb; cases hb
   refine k b _ hbn (s2.trans (same_new hb)) ?_
   unfold cycT
   rw [hlast]
   exact upd_same
theorem scBegun : FnScope ["walk", "by", "first"] ["walk", "by"] (defScope sBegun) := ⟨rfl, rfl, rfl, by decide +kernel, rfl, by decide +kernel, by decide +kernel⟩
theorem ok_begun {f fC fN fE fZ fI fM : Addr} {fd fdC fdN fdE fdZ fdI fdM : FuncData} (F : Df K mg "begun" sBegun ["walk", "by"] f fd) (X : Txt K mg) (hlen : mg "len" = none) (C : Df K mg "check_walk" sCheckWalk ["walk"] fC fdC)
  (N : Df K mg "check_number" sCheckNumber ["number"] fN fdN) (En : Df K mg "end" sEnd ["walk"] fE fdE) (Z : Df K mg "check_closed" sCheckClosed ["walk"] fZ fdZ) (I : Df K mg "is_closed" sIsClosed ["walk"] fI fdI) (M : Df K mg "is_number" sIsNumber ["value"] fM fdM) : FnOk P w K mg base CX0 5 f fd ["walk", "by"] spBegun := by
 have GN : FnOk P w K mg base CX0 2 fN fdN ["number"] spCheckNumber := ok_check_number N X M
 have GZ : FnOk P w K mg base CX0 4 fZ fdZ ["walk"] spCheckClosed := ok_check_closed Z X I C En
 refine F.fn.ok scBegun (fun vs H Q E h => ?_) (fun cdv A outer s H vs Q E hr h => ?_)
 ·obtain ⟨l, b, rfl, _⟩ := h
  rfl
 ·obtain ⟨l, b, rfl, hl, hz, h0, k⟩ := h
  have hr1 : Room 2 _ := hr.mono (by decide)
  have esz : sizeLine = 16777216 := PySem.sizeLine_eq
  have hsz : l.length ≤ sizeLine := by omega
  refine lX ?_
  extract_lets
  refine ⟨_, pss_consL (ps_expr (pe_call GZ hr rfl Z.at_ Z.fn.kp Z.bi .nil pass0 (pa_cons (pv 0) pa_nil)))
   (pss_consL (ps_expr (pe_call GN hr1 rfl N.at_ N.fn.kp N.bi .nil pass0 (pa_cons (pv 1) pa_nil)))
   (pss_consL (ps_if (pt_cmpR op_eq (pe_callB call_len_str rfl hlen PySem.boot_len (pa_cons (pv 0) pa_nil)) pe_int (nomark _)) (pss_one (ps_ret pe_str)) pss_nil)
   (pss_consL (ps_set (i := 2) scBegun.nd rfl (Or.inl rfl) (pe_op op_mod (pv 1) (pe_callB call_len_str rfl hlen PySem.boot_len (pa_cons (pv 0) pa_nil))))
   (pss_one (ps_ret (pe_op op_add_str (pe_slice sl_str (pv 0) (po_some (pv 2)) po_none) (pe_slice sl_str (pv 0) po_none (po_some (pv 2))))))))), ?_⟩
  lift_lets
  extract_lets
  refine ⟨_, rfl, l, rfl, hl, h0, fun H1 s1 => ?_⟩
  refine ⟨_, rfl, b, rfl, ?_⟩
  refine ⟨_, rfl, _, rfl, (by rw [T_len]; exact hsz), rfl, _, rfl, ?_⟩
  rw [T_len]
  refine ite2 (fun h => ?_) (fun h => ?_)
  ·have e : l = [] := List.length_eq_zero_iff.mp (by
    have h2 := of_decide_eq_true h
    have h3 : ((l.length : Nat) : Int) = 0 := V.int.inj h2
    omega)
   subst e
   have := k H1 s1
   show Q (.str (Str.ofString "")) H1
   rw [lit_0]
   have er : ∀ k, rotL k ([] : List Nat) = [] := fun k => by
    unfold rotL
    simp
   rw [er] at this
   exact this
  ·have hpos : 0 < l.length := by
    rcases Nat.eq_zero_or_pos l.length with z | z
    ·exact absurd (by rw [z]; rfl) h
    ·exact z
   refine ⟨_, rfl, _, rfl, _, rfl, (by rw [T_len]; exact hsz), _, _, rfl, rfl, (by rw [T_len]; show (0 : Int) < (l.length : Int); omega), ?_⟩
   have m0 : 0 ≤ b % (l.length : Int) := Int.emod_nonneg _ (by omega)
   have m1 : b % (l.length : Int) < (l.length : Int) := Int.emod_lt_of_pos _ (by omega)
   have em : b % ((T l).length : Int) = (((b % (l.length : Int)).toNat : Nat) : Int) := by rw [T_len, Int.toNat_of_nonneg m0]
   refine ⟨_, rfl, _, rfl, _, rfl, l, rfl, hsz, ?_⟩
   refine ⟨_, rfl, _, rfl, _, rfl, l, rfl, hsz, ?_⟩
   rw [em, cut_from (by omega), cut_to (by omega)]
   refine ⟨_, _, rfl, rfl, ?_, ?_⟩
   ·rw [T_len, T_len, List.length_drop, List.length_take]
    omega
   ·rw [T_app]
    exact k H1 s1
theorem scUprightSteps : FnScope ["walk", "told", "place", "step"] ["walk"] (defScope sUprightSteps) := ⟨rfl, rfl, rfl, by decide +kernel, rfl, by decide +kernel, by decide +kernel⟩
theorem ok_upright_steps {f fC fS fP : Addr} {fd fdC fdS fdP : FuncData} (F : Df K mg "upright_steps" sUprightSteps ["walk"] f fd) (X : Txt K mg) (hzip : mg "zip" = none) (C : Df K mg "check_walk" sCheckWalk ["walk"] fC fdC) (S : Df K mg "stepped" sStepped ["place", "step"] fS fdS)
  (Pl : Df K mg "places" sPlaces ["walk"] fP fdP) : FnOk P w K mg base CX0 3 f fd ["walk"] spUpright := by
 have GP : FnOk P w K mg base CX0 2 fP fdP ["walk"] spPlaces := ok_places Pl X C S
 refine F.fn.ok scUprightSteps (fun vs H Q E h => ?_) (fun cdv A outer s H vs Q E hr h => ?_)
 ·obtain ⟨l, rfl, _⟩ := h
  rfl
 ·obtain ⟨l, rfl, hl, hz, k⟩ := h
  have esz : sizeLine = 16777216 := PySem.sizeLine_eq
  refine lX ?_
  extract_lets
  refine ⟨_, pss_consL (ps_set (i := 1) scUprightSteps.nd rfl (Or.inl rfl) (pe_lst pa_nil))
   (pss_consL (ps_for PassesOwn.never rfl (pi_zipLS rfl hzip (pa_cons (pe_call GP hr rfl Pl.at_ Pl.fn.kp Pl.bi .nil pass0 (pa_cons (pv 0) pa_nil)) (pa_cons (pv 0) pa_nil))) (pg_tup (n := 2) rfl (pgs_cons (pg_name (i := 2) scUprightSteps.nd rfl (Or.inl rfl)) (pgs_cons (pg_name (i := 3) scUprightSteps.nd rfl (Or.inl rfl)) pgs_nil)))
    (pss_consL (ps_mrg (ps_if (pt_cmpR op_eq (pv 3) pe_str (nomark _)) (pss_one (ps_expr (pe_bm PySem.F.plainAttrs_list PySem.F.slot_list_append PySem.F.type_list_append mt_append (pv 1) (pa_cons (pe_tup (pa_cons (pe_ix ix_tup (pv 2) pe_int (fun _ _ => rfl)) (pa_cons (pe_ix ix_tup (pv 2) pe_int (fun _ _ => rfl)) (pa_cons pe_int pa_nil)))) pa_nil)))) pss_nil))
    (pss_one (ps_if (pt_cmpR op_eq (pv 3) pe_str (nomark _)) (pss_one (ps_expr (pe_bm PySem.F.plainAttrs_list PySem.F.slot_list_append PySem.F.type_list_append mt_append (pv 1) (pa_cons (pe_tup (pa_cons (pe_op op_sub (pe_ix ix_tup (pv 2) pe_int (fun _ _ => rfl)) pe_int) (pa_cons (pe_ix ix_tup (pv 2) pe_int (fun _ _ => rfl)) (pa_cons (pe_un un_neg pe_int) pa_nil)))) pa_nil)))) pss_nil))))
   (pss_one (ps_ret (pv 1)))), ?_⟩
  lift_lets
  extract_lets
  refine ⟨(by show 0 ≤ sizeLine; omega), fun d hd => ?_⟩
  have hd1 : upd H d (.lst []) d = some (.lst []) := upd_same
  have s0 : Same H (upd H d (.lst [])) := same_new hd
  first | change Ends.nx _ _ (upd H d (.lst [])) | change tSeq _ _ _ _ (upd H d (.lst []))
  generalize upd H d (.lst []) = H0 at *
  revert H0
  refine keepG ?_
  set_option tactic.hygienic false in intros
  refine ⟨_, rfl, l, rfl, hl, hz, fun p H1 hp s1 hP => ?_⟩
  refine ⟨_, rfl, p, l, rfl, ?_, ?_⟩
  ·obtain ⟨as, h1, _⟩ := hP
   exact ⟨_, SqL.of h1⟩
  have hd2 : H1 d = some (.lst []) := s1 _ _ hd1
  obtain ⟨ps, hp1, hp2⟩ := id hP
  have hpl : ps.length = l.length + 1 := by
   have e := Paired.length hp2
   rw [e]
   exact placesP_length _ _
  refine for_zip (xs := ps.map V.ref) (ys := letsV l) (fun i σ H' => ∃ (as : List Addr) (v2 v3 : Option V), σ = [some (.str (T l)), some (.ref d), v2, v3] ∧ Same H H' ∧ (∀ b o, b ≠ d → H1 b = some o → H' b = some o) ∧ H' d = some (.lst (as.map V.ref)) ∧ TrsAt H' as (upr (0, 0) (l.take i))) ?_ ?_ ?_ ?_
  ·exact ⟨[], none, none, rfl, s0.trans s1, fun b o _ e => e, hd2, .nil⟩
  ·rintro i σ H' ⟨as, v2, v3, rfl, sH, kp, hd', htr⟩
   refine ⟨SqL.of (kp _ _ (fun z => ?_) hp1), rfl⟩
   rw [z, hd1] at hp
   cases hp
  ·intro i u v σ H' b hu hv hI hb
   generalize hE1 : Ends.mk _ _ _ _ = E1
   revert E1
   refine keepG ?_
   set_option tactic.hygienic false in intros
   obtain ⟨as, v2, v3, rfl, sH, kp, hd', htr⟩ := hI
   obtain ⟨a, ha, rfl⟩ := map_ref_get hu
   obtain ⟨q, hq, hta⟩ := paired_get hp2 ha
   obtain ⟨c, hc, rfl⟩ : ∃ c, l[i]? = some c ∧ v = V.str (T [c]) := by
    unfold letsV at hv
    rw [List.getElem?_map] at hv
    cases e : l[i]? with
    | none => rw [e] at hv; cases hv
    | some c => rw [e] at hv; exact ⟨c, rfl, (Option.some.inj hv).symm⟩
   have hlt : Lt c := hl c (List.mem_of_getElem? hc)
   have hil : i < l.length := (List.getElem?_eq_some_iff.mp hc).1
   have eq : q = posOf (l.take i) := by
    have := plOf_get (l := l) (i := i) (Nat.le_of_lt hil)
    rw [this] at hq
    exact (Option.some.inj hq).symm
   subst eq
   have et : l.take (i + 1) = l.take i ++ [c] := by rw [List.take_add_one, hc]; rfl
   have eu := upr_snoc (l.take i) (0, 0) c
   rw [← et] at eu
   have had : a ≠ d := fun z => by
    rw [z, hd2] at hta
    cases hta
   have hbd : d ≠ b := ne_of_none hd' hb
   have hta' : H' a = some (.tup [.int (posOf (l.take i)).1, .int (posOf (l.take i)).2]) := kp _ _ had hta
   have hab : a ≠ b := ne_of_none hta' hb
   have tb : upd H' b (.tup [.ref a, .str (T [c])]) b = some (.tup [.ref a, .str (T [c])]) := upd_same
   have sb : Same H' (upd H' b (.tup [.ref a, .str (T [c])])) := same_new hb
   change gTup _ _ _ _ _ (upd H' b (.tup [.ref a, .str (T [c])])) _
   have hal : as.length ≤ 1000 := by
    have e := Paired.length htr
    have := upr_length (l.take i) (0, 0)
    rw [List.length_take] at this
    omega
   generalize upd H' b (.tup [.ref a, .str (T [c])]) = H2 at *
   revert H2
   refine keepG ?_
   set_option tactic.hygienic false in intros
   refine ⟨b, _, rfl, SqT.of tb, rfl, _, _, rfl, _, _, rfl, rfl, ?_⟩
   have hd3 : H2 d = some (.lst (as.map V.ref)) := sb _ _ hd'
   have ht3 : H2 a = some (.tup [.int (posOf (l.take i)).1, .int (posOf (l.take i)).2]) := sb _ _ hta'
   have a0 : atI [V.int (posOf (l.take i)).1, V.int (posOf (l.take i)).2] 0 = some (.int (posOf (l.take i)).1) := atI_nat (j := 0) rfl
   have a1 : atI [V.int (posOf (l.take i)).1, V.int (posOf (l.take i)).2] 1 = some (.int (posOf (l.take i)).2) := atI_nat (j := 1) rfl
   have key : ∀ (Hx : Hp) (e : Addr) (t : Tr), H2 e = none → Hx = upd (upd H2 e (.tup [.int t.1, .int t.2.1, .int t.2.2])) d (.lst (as.map V.ref ++ [.ref e])) → Same H Hx ∧ (∀ x o, x ≠ d → H1 x = some o → Hx x = some o) ∧ Hx d = some (.lst ((as ++ [e]).map V.ref)) ∧ TrsAt Hx (as ++ [e]) (upr (0, 0) (l.take i) ++ [t]) := by
    rintro Hx e t he rfl
    have ed : e ≠ d := fun z => by rw [z, hd3] at he; cases he
    refine ⟨fun x o hx => ?_, fun x o hx h1 => ?_, ?_, ?_⟩
    ·have xd : x ≠ d := ne_of_none hx hd
     have x2 := sb _ _ (sH _ _ hx)
     rw [upd_ne xd, upd_ne (ne_of_none x2 he)]
     exact x2
    ·have x2 := sb _ _ (kp _ _ hx h1)
     rw [upd_ne hx, upd_ne (ne_of_none x2 he)]
     exact x2
    ·rw [upd_same, List.map_append]
     rfl
    ·refine paired_app (htr.mono fun x xs hx => ?_) (.cons ?_ .nil)
     ·have x2 := sb _ _ hx
      have xd : x ≠ d := ne_of hx hd' (by intro z; cases z)
      rw [upd_ne xd, upd_ne (ne_of_none x2 he)]
      exact x2
     ·show upd _ d _ e = _
      rw [upd_ne ed, upd_same]
   refine ⟨fun σ' H'' => (c = 110 ∧ σ' = [some (.str (T l)), some (.ref d), some (.ref a), some (.str (T [c]))] ∧ ∃ as' : List Addr, Same H H'' ∧ (∀ x o, x ≠ d → H1 x = some o → H'' x = some o) ∧ H'' d = some (.lst (as'.map V.ref)) ∧ TrsAt H'' as' (upr (0, 0) (l.take (i + 1)))) ∨ (¬ c = 110 ∧ σ' = [some (.str (T l)), some (.ref d), some (.ref a), some (.str (T [c]))] ∧ H'' = H2), ?_, ?_⟩
   ·refine ⟨_, rfl, rfl, _, rfl, ?_⟩
    rw [lit_n, strT]
    refine ite2 (fun h => ?_) (fun h => ?_)
    ·have hc1 : c = 110 := by simpa using h
     refine ⟨_, rfl, .inl ⟨rfl, _, SqL.of hd3⟩, _, rfl, _, _, _, _, rfl, rfl, SqT.of ht3, a1, _, rfl, _, _, _, _, rfl, rfl, SqT.of ht3, a0, three_le, fun e he => ?_⟩
     have ed : d ≠ e := ne_of_none hd3 he
     refine ⟨d, as.map V.ref, _, rfl, rfl, ?_, ?_, ?_⟩
     ·exact (upd_ne ed).trans hd3
     ·rw [List.length_map]; omega
     refine .inl ⟨hc1, rfl, as ++ [e], ?_⟩
     rw [eu, if_pos hc1]
     exact key _ e ((posOf (l.take i)).2, (posOf (l.take i)).1, 1) he rfl
    ·exact .inr ⟨fun z => h (by simp [z]), rfl, rfl⟩
   rintro σ' H'' (⟨hc1, rfl, as', q1, q2, q3, q4⟩ | ⟨hc1, rfl, rfl⟩)
   ·refine ⟨_, rfl, rfl, _, rfl, ?_⟩
    rw [lit_s, strT]
    refine ite2 (fun h => ?_) (fun h => ?_)
    ·have : c = 115 := by simpa using h
     omega
    subst hE1
    exact ⟨as', _, _, rfl, q1, q2, q3, q4⟩
   ·refine ⟨_, rfl, rfl, _, rfl, ?_⟩
    rw [lit_s, strT]
    refine ite2 (fun h => ?_) (fun h => ?_)
    ·have hc2 : c = 115 := by simpa using h
     refine ⟨_, rfl, .inl ⟨rfl, _, SqL.of hd3⟩, _, rfl, _, _, _, _, rfl, rfl, SqT.of ht3, a1, _, _, rfl, rfl, _, rfl, _, _, _, _, rfl, rfl, SqT.of ht3, a0, _, rfl, three_le, fun e he => ?_⟩
     have ed : d ≠ e := ne_of_none hd3 he
     refine ⟨d, as.map V.ref, _, rfl, rfl, ?_, ?_, ?_⟩
     ·exact (upd_ne ed).trans hd3
     ·rw [List.length_map]; omega
     subst hE1
     refine ⟨as ++ [e], _, _, rfl, ?_⟩
     rw [eu, if_neg hc1, if_pos hc2]
     exact key _ e ((posOf (l.take i)).2 - 1, (posOf (l.take i)).1, -1) he rfl
    ·have hc2 : ¬ c = 115 := fun z => h (by simp [z])
     subst hE1
     refine ⟨as, _, _, rfl, sH.trans sb, fun x o hx h1 => sb _ _ (kp _ _ hx h1), hd3, ?_⟩
     rw [eu, if_neg hc1, if_neg hc2, List.append_nil]
     exact htr.mono sb.tup
  ·rintro σ H' ⟨as, v2, v3, rfl, sH, kp, hd', htr⟩
   have em : min (ps.map V.ref).length (letsV l).length = l.length := by
    unfold letsV
    rw [List.length_map, List.length_map]
    omega
   rw [em, List.take_of_length_le (Nat.le_refl _)] at htr
   exact ⟨_, rfl, k d H' as hd sH hd' htr⟩
theorem scArea : FnScope ["walk"] ["walk"] (defScope sArea) := ⟨rfl, rfl, rfl, by decide +kernel, rfl, by decide +kernel, by decide +kernel⟩
theorem ok_area {f fC fS fP fE fI fZ fU : Addr} {fd fdC fdS fdP fdE fdI fdZ fdU : FuncData} (F : Df K mg "area" sArea ["walk"] f fd) (X : Txt K mg) (hzip : mg "zip" = none) (hsum : mg "sum" = none) (C : Df K mg "check_walk" sCheckWalk ["walk"] fC fdC) (S : Df K mg "stepped" sStepped ["place", "step"] fS fdS)
  (Pl : Df K mg "places" sPlaces ["walk"] fP fdP) (En : Df K mg "end" sEnd ["walk"] fE fdE) (I : Df K mg "is_closed" sIsClosed ["walk"] fI fdI) (Z : Df K mg "check_closed" sCheckClosed ["walk"] fZ fdZ) (U : Df K mg "upright_steps" sUprightSteps ["walk"] fU fdU) : FnOk P w K mg base CX0 5 f fd ["walk"] spArea := by
 have GZ : FnOk P w K mg base CX0 4 fZ fdZ ["walk"] spCheckClosed := ok_check_closed Z X I C En
 have GU : FnOk P w K mg base CX0 3 fU fdU ["walk"] spUpright := ok_upright_steps U X hzip C S Pl
 refine F.fn.ok scArea (fun vs H Q E h => ?_) (fun cdv A outer s H vs Q E hr h => ?_)
 ·obtain ⟨l, rfl, _⟩ := h
  rfl
 ·obtain ⟨l, rfl, hl, hz, h0, k⟩ := h
  have esz : sizeLine = 16777216 := PySem.sizeLine_eq
  have hr3 : Room 3 _ := hr.mono (by decide)
  refine lX ?_
  extract_lets
  refine ⟨_, pss_cons (ps_expr (pe_call GZ hr rfl Z.at_ Z.fn.kp Z.bi .nil pass0 (pa_cons (pv 0) pa_nil)))
   (pss_one (ps_ret (pe_callB (call_sum rfl) rfl hsum PyProof.Rows.boot_sum (pa_cons (pe_comp (M := ["row", "x", "way"]) rfl (compSc_of ["walk"] (defScope sArea) rfl rfl (by decide +kernel)) (pi_list (pe_call GU hr3 rfl U.at_ U.fn.kp U.bi .nil pass0 (pa_cons (pv 0) pa_nil)))
    (fun _ _ _ _ => (pg_tup (n := 3) rfl (pgs_cons (pg_name (i := 1) (nd_of ["walk", "row", "x", "way"] rfl (by decide +kernel)) rfl (Or.inl rfl)) (pgs_cons (pg_name (i := 2) (nd_of ["walk", "row", "x", "way"] rfl (by decide +kernel)) rfl (Or.inl rfl)) (pgs_cons (pg_name (i := 3) (nd_of ["walk", "row", "x", "way"] rfl (by decide +kernel)) rfl (Or.inl rfl)) pgs_nil))))) (fun _ _ _ _ => pts_nil)
    (fun _ _ _ _ => (pe_op op_mul (pv 2) (pv 3)))) pa_nil)))), ?_⟩
  refine ⟨_, rfl, l, rfl, hl, h0, fun H1 s1 => ?_⟩
  refine ⟨_, rfl, l, rfl, hl, hz, fun d H2 as hd s2 h2 htr => ?_⟩
  have hlen := upr_length l (0, 0)
  have hal : as.length = (upr (0, 0) l).length := Paired.length htr
  refine ⟨d, rfl, ⟨_, SqL.of h2⟩, ?_⟩
  refine comp_relL (K := K) (a := d) (xs := as.map V.ref) (sl3 H2) (sl3_len H2) (by rw [List.length_map]; omega) (SqL.of h2) (fun _ _ _ _ j x hx H3 R s3 kk => ?_) (fun j y _ => ∃ t, (upr (0, 0) l)[j]? = some t ∧ y = .int (t.2.1 * t.2.2)) (fun j y _ _ h _ => h) (fun _ _ _ _ j x hx H3 R s3 kk => ?_) (fun D ys H3 hD s3 hDl hyl hy => ?_)
  ·obtain ⟨a, ha, rfl⟩ := map_ref_get hx
   obtain ⟨t, ht, hta⟩ := paired_get htr ha
   rw [sl3_eq hta] at kk
   exact g_three (σ := [some (.str (T l))]) rfl (SqT.of (s3 _ _ hta)) kk
  ·obtain ⟨a, ha, rfl⟩ := map_ref_get hx
   obtain ⟨t, ht, hta⟩ := paired_get htr ha
   rw [sl3_eq hta]
   refine ⟨_, rfl, _, rfl, _, _, rfl, rfl, .inr ?_, kk _ H3 (Same.refl _) ⟨t, ht, rfl⟩⟩
   rcases upr_way (List.mem_of_getElem? ht) with e | e <;> rw [e] <;> exact ⟨by decide, by decide⟩
  ·have eys : ys = ((upr (0, 0) l).map fun t => t.2.1 * t.2.2).map V.int := by
    refine List.ext_getElem? fun j => ?_
    rw [List.map_map, List.getElem?_map]
    cases e : ys[j]? with
    | none =>
     have : ys.length ≤ j := by simpa using e
     rw [List.getElem?_eq_none (by rw [hyl, List.length_map] at this; omega)]
     rfl
    | some y =>
     obtain ⟨t, ht, rfl⟩ := hy j y e
     rw [ht]
     rfl
   rw [eys] at hDl
   refine ⟨D, _, rfl, SqL.of hDl, ?_⟩
   rw [sum_sumL', upr_area h0]
   exact k H3 ((s1.trans s2).trans s3)
abbrev NSquares : List Str := ["walk", "told", "steps", "times", "passed", "following"]
theorem scSquares : FnScope NSquares ["walk"] (defScope sSquares) := ⟨rfl, rfl, rfl, by decide +kernel, rfl, by decide +kernel, by decide +kernel⟩
theorem cutV_tail (xs : List V) : cutV xs (some 1) none = xs.drop 1 := by
 unfold cutV
 rw [show (1 : Int) = ((1 : Nat) : Int) from rfl, HT.sIx_nat, HT.sIx_none]
 cases xs with
 | nil => rfl
 | cons a r =>
  rw [Nat.min_eq_left (by rw [List.length_cons]; omega)]
  exact List.take_of_length_le (by rw [List.length_drop]; exact Nat.le_refl _)
theorem ok_squares {f fZ fU : Addr} {fd fdZ fdU : FuncData} (F : Df K mg "squares" sSquares ["walk"] f fd) (hsrt : mg "sorted" = none) (hzip : mg "zip" = none) (hrng : mg "range" = none) (Z : Df K mg "check_closed" sCheckClosed ["walk"] fZ fdZ) (GZ : FnOk P w K mg base CX0 4 fZ fdZ ["walk"] spCheckClosed)
  (U : Df K mg "upright_steps" sUprightSteps ["walk"] fU fdU) (GU : FnOk P w K mg base CX0 3 fU fdU ["walk"] spUpright) : FnOk P w K mg base CX0 5 f fd ["walk"] spSquares := by
 refine F.fn.ok scSquares (fun vs H Q E h => ?_) (fun cdv A outer s H vs Q E hr h => ?_)
 ·obtain ⟨l, rfl, _⟩ := h
  rfl
 ·obtain ⟨l, rfl, hl, hz, h0, k⟩ := h
  have esz : sizeLine = 16777216 := PySem.sizeLine_eq
  have hr3 : Room 3 _ := hr.mono (by decide)
  have hu4 := hu4_of hr
  refine lX ?_
  extract_lets
  refine ⟨_, pss_consL (ps_expr (pe_call GZ hr rfl Z.at_ Z.fn.kp Z.bi .nil pass0 (pa_cons (pv 0) pa_nil)))
   (pss_consL (ps_set (i := 1) scSquares.nd rfl (Or.inl rfl) (pe_lst pa_nil))
   (pss_consL (ps_set (i := 2) scSquares.nd rfl (Or.inl rfl) (pe_callB call_sortedTr rfl hsrt PyProof.Rows.boot_sorted (pa_cons (pe_call GU hr3 rfl U.at_ U.fn.kp U.bi .nil pass0 (pa_cons (pv 0) pa_nil)) pa_nil)))
   (pss_consL (ps_set (i := 3) scSquares.nd rfl (Or.inr rfl) pe_int)
   (pss_consL (ps_for PassesOwn.never rfl (pi_zipLL rfl hzip (pa_cons (pv 2) (pa_cons (pe_slice sl_list (pv 2) (po_some pe_int) po_none) pa_nil))) (pg_tup (n := 2) rfl (pgs_cons (pg_name (i := 4) scSquares.nd rfl (Or.inr rfl)) (pgs_cons (pg_name (i := 5) scSquares.nd rfl (Or.inl rfl)) pgs_nil)))
    (pss_consL (ps_set (i := 3) scSquares.nd rfl (Or.inr rfl) (pe_op op_sub (pv 3) (pe_ix ix_tup (pv 4) pe_int (fun _ _ => rfl))))
    (pss_one (ps_if (pt_cmpR op_ne (pv 3) pe_int (nomark _)) (pss_one (ps_expr (pe_bm PySem.F.plainAttrs_list PySem.F.slot_list_extend PySem.F.type_list_extend mt_extend (pv 1) (pa_cons (pe_comp (M := ["x"]) rfl (compSc_of NSquares (defScope sSquares) rfl rfl (by decide +kernel)) (pi_range2 rfl hrng (pa_cons (pe_ix ix_tup (pv 4) pe_int (fun _ _ => rfl)) (pa_cons (pe_ix ix_tup (pv 5) pe_int (fun _ _ => rfl)) pa_nil)))
     (fun _ _ _ _ => pg_name (i := 6) (nd_of (NSquares ++ [("x" : Str)]) rfl (by decide +kernel)) rfl (Or.inl rfl)) (fun _ _ _ _ => pts_nil)
     (fun _ _ _ _ => pe_tup (pa_cons (pe_tup (pa_cons (pv 6) (pa_cons (pe_ix ix_tup (pv 4) pe_int (fun _ _ => rfl)) pa_nil))) (pa_cons (pv 3) pa_nil)))) pa_nil)))) pss_nil))))
   (pss_one (ps_ret (pe_callB (call_sortedSq hu4) rfl hsrt PyProof.Rows.boot_sorted (pa_cons (pv 1) pa_nil)))))))), ?_⟩
  lift_lets
  extract_lets
  refine ⟨_, rfl, l, rfl, hl, h0, fun H1 s1 => ?_⟩
  refine ⟨(by show 0 ≤ sizeLine; omega), fun d hd => ?_⟩
  have hd0 : H d = none := by
   cases e : H d with
   | none => rfl
   | some o => rw [s1 _ _ e] at hd; cases hd
  have hd1 : upd H1 d (.lst []) d = some (.lst []) := upd_same
  have s2 : Same H1 (upd H1 d (.lst [])) := same_new hd
  first | change Ends.nx _ _ (upd H1 d (.lst [])) | change tSeq _ _ _ _ (upd H1 d (.lst []))
  generalize upd H1 d (.lst []) = H2 at *
  revert H2
  refine keepG ?_
  set_option tactic.hygienic false in intros
  refine ⟨_, rfl, l, rfl, hl, hz, fun e3 H3 as3 he3 s3 h3 htr3 => ?_⟩
  refine ⟨e3, as3, _, rfl, SqL.of h3, htr3, fun e4 as ts he4 hperm htr hpt hsort => ?_⟩
  have hs := sorted_leT hsort
  have s4 := same_new (o := .lst (as.map V.ref)) he4
  have h4 : upd H3 e4 (.lst (as.map V.ref)) e4 = some (.lst (as.map V.ref)) := upd_same
  have htr4 : TrsAt (upd H3 e4 (.lst (as.map V.ref))) as ts := htr.mono s4.tup
  first | change Ends.nx _ _ (upd H3 e4 (.lst (as.map V.ref))) | change tSeq _ _ _ _ (upd H3 e4 (.lst (as.map V.ref)))
  generalize upd H3 e4 (.lst (as.map V.ref)) = H4 at *
  revert H4
  refine keepG ?_
  set_option tactic.hygienic false in intros
  have hd4 : H4 d = some (.lst []) := s4 _ _ (s3 _ _ hd1)
  have hde4 : e4 ≠ d := fun z => by
   rw [z, s3 _ _ hd1] at he4
   cases he4
  refine ⟨_, rfl, _, rfl, _, rfl, e4, _, rfl, SqL.of h4, fun e5 he5 => ?_⟩
  rw [cutV_tail]
  have s5 := same_new (o := .lst ((as.map V.ref).drop 1)) he5
  have h5 : upd H4 e5 (.lst ((as.map V.ref).drop 1)) e5 = some (.lst ((as.map V.ref).drop 1)) := upd_same
  generalize upd H4 e5 (.lst ((as.map V.ref).drop 1)) = H5 at *
  revert H5
  refine keepG ?_
  set_option tactic.hygienic false in intros
  have hde5 : e5 ≠ d := fun z => by
   rw [z, hd4] at he5
   cases he5
  have hd5 : H5 d = some (.lst []) := s5 _ _ hd4
  have h45 := s5 _ _ h4
  have htr5 : TrsAt H5 as ts := htr4.mono s5.tup
  have hlen : as.length = ts.length := Paired.length htr
  have hlen2 : ts.length ≤ 1000 := by
   rw [hpt.length_eq]
   exact Nat.le_trans (upr_length l (0, 0)) hz
  have hfew := scan_few hl h0 hz hpt hs
  have sH5 : Same H H5 := (((s1.trans s2).trans s3).trans s4).trans s5
  refine ⟨e4, e5, rfl, ⟨_, SqL.of h45⟩, ⟨_, SqL.of h5⟩, ?_⟩
  refine for_zip (xs := as.map V.ref) (ys := (as.map V.ref).drop 1) (fun i σ H' => ∃ (bs : List Addr) (told : List (Pt × Int)) (t : Int) (v4 v5 : Option V), σ = [some (.str (T l)), some (.ref d), some (.ref e4), some (.int t), v4, v5] ∧ (∀ b o, b ≠ d → H5 b = some o → H' b = some o) ∧ H' d = some (.lst (bs.map V.ref)) ∧ SqsAt H' bs told ∧ scan 0 ts = told ++ scan t (ts.drop i)) ?_ ?_ ?_ ?_
  ·exact ⟨[], [], 0, none, none, rfl, fun b o _ e => e, hd5, .nil, rfl⟩
  ·rintro i σ H' ⟨bs, told, t, v4, v5, rfl, kp, hd', hsq, hsc⟩
   exact ⟨SqL.of (kp _ _ hde4 h45), SqL.of (kp _ _ hde5 h5)⟩
  ·intro i u v σ H' b hu hv hI hb
   generalize hE1 : Ends.mk _ _ _ _ = E1
   revert E1
   refine keepG ?_
   set_option tactic.hygienic false in intros
   obtain ⟨bs, told, t, v4, v5, rfl, kp, hd', hsq, hsc⟩ := hI
   obtain ⟨pa, hpa, rfl⟩ := map_ref_get hu
   rw [List.getElem?_drop, Nat.add_comm] at hv
   obtain ⟨fo, hfo, rfl⟩ := map_ref_get hv
   obtain ⟨tp, htp, hTp⟩ := paired_get htr5 hpa
   obtain ⟨tf, htf, hTf⟩ := paired_get htr5 hfo
   have npd : pa ≠ d := fun z => by
    have := hTp
    unfold TrP at this
    rw [z, hd5] at this
    cases this
   have nfd : fo ≠ d := fun z => by
    have := hTf
    unfold TrP at this
    rw [z, hd5] at this
    cases this
   have kp1 : H' pa = some (.tup [.int tp.1, .int tp.2.1, .int tp.2.2]) := kp _ _ npd hTp
   have kf1 : H' fo = some (.tup [.int tf.1, .int tf.2.1, .int tf.2.2]) := kp _ _ nfd hTf
   have ed : ts.drop i = tp :: tf :: ts.drop (i + 2) := by
    obtain ⟨i1, e1⟩ := List.getElem?_eq_some_iff.mp htp
    obtain ⟨i2, e2⟩ := List.getElem?_eq_some_iff.mp htf
    rw [List.drop_eq_getElem_cons i1, List.drop_eq_getElem_cons i2, e1, e2]
   have ed2 : ts.drop (i + 1) = tf :: ts.drop (i + 2) := by
    obtain ⟨i2, e2⟩ := List.getElem?_eq_some_iff.mp htf
    rw [List.drop_eq_getElem_cons i2, e2]
   have hsc2 : scan 0 ts = (told ++ segT (t - tp.2.2) tp tf) ++ scan (t - tp.2.2) (ts.drop (i + 1)) := by
    rw [hsc, ed, ed2, List.append_assoc]
    rfl
   have sb : Same H' (upd H' b (.tup [.ref pa, .ref fo])) := same_new hb
   have tb : upd H' b (.tup [.ref pa, .ref fo]) b = some (.tup [.ref pa, .ref fo]) := upd_same
   change gTup _ _ _ _ _ (upd H' b (.tup [.ref pa, .ref fo])) _
   generalize upd H' b (.tup [.ref pa, .ref fo]) = H6 at *
   revert H6
   refine keepG ?_
   set_option tactic.hygienic false in intros
   have kp2 := sb _ _ kp1
   have kf2 := sb _ _ kf1
   have hd6 := sb _ _ hd'
   have hsq6 : SqsAt H6 bs told := hsq.mono sb.tup
   have p0 : atI [V.int tp.1, V.int tp.2.1, V.int tp.2.2] 0 = some (.int tp.1) := atI_nat (j := 0) rfl
   have p1 : atI [V.int tp.1, V.int tp.2.1, V.int tp.2.2] 1 = some (.int tp.2.1) := atI_nat (j := 1) rfl
   have p2 : atI [V.int tp.1, V.int tp.2.1, V.int tp.2.2] 2 = some (.int tp.2.2) := atI_nat (j := 2) rfl
   have q1 : atI [V.int tf.1, V.int tf.2.1, V.int tf.2.2] 1 = some (.int tf.2.1) := atI_nat (j := 1) rfl
   refine ⟨b, _, rfl, SqT.of tb, rfl, _, _, rfl, _, _, rfl, rfl, ?_⟩
   refine ⟨_, rfl, _, rfl, pa, _, _, _, rfl, rfl, SqT.of kp2, p2, _, _, rfl, rfl, ?_⟩
   refine ⟨_, rfl, rfl, _, rfl, ?_⟩
   have bp := upr_bound (hpt.mem_iff.mp (List.mem_of_getElem? htp))
   have bf := upr_bound (hpt.mem_iff.mp (List.mem_of_getElem? htf))
   dsimp only at bp bf
   have htold : told.length ≤ 4000000 := by
    rw [hsc2, List.length_append, List.length_append] at hfew
    omega
   have hbs : bs.length = told.length := Paired.length hsq6
   refine ite2 (fun h => ?_) (fun h => ?_)
   ·have ht0 : ¬ t - tp.2.2 = 0 := fun z => by
     rw [show decide (V.int (t - tp.2.2) = V.int 0) = true from decide_eq_true (by rw [z])] at h
     cases h
    refine ⟨_, rfl, .inl ⟨rfl, _, SqL.of hd6⟩, _, rfl, pa, _, _, _, rfl, rfl, SqT.of kp2, p1, _, rfl, fo, _, _, _, rfl, rfl, SqT.of kf2, q1, tp.2.1, tf.2.1, rfl, ⟨by omega, by omega, by omega, by omega⟩, ?_⟩
    refine comp_relR (lo := tp.2.1) (m := (tf.2.1 - tp.2.1).toNat) (fun x => [some x]) (fun _ => rfl) (by omega) (fun _ _ _ _ j hj H7 R s7 kk => kk) (fun j y H7 => ∃ a, y = .ref a ∧ SqP H7 a ((tp.2.1 + (j : Int), tp.1), t - tp.2.2)) (fun j y H7 H8 ⟨a, e, hq⟩ ts' => ⟨a, e, hq.mono ts'⟩) (fun _ _ _ _ j hj H7 R s7 kk => ?_) (fun D ys H7 hD s7 hDl hyl hy => ?_)
    ·refine ⟨_, rfl, _, rfl, pa, _, _, _, rfl, rfl, SqT.of (s7 _ _ kp2), p0, two_le, fun c1 hc1 => ?_⟩
     have sc := same_new (o := .tup [.int (tp.2.1 + (j : Int)), .int tp.1]) hc1
     have tc : upd H7 c1 (.tup [.int (tp.2.1 + (j : Int)), .int tp.1]) c1 = some (.tup [.int (tp.2.1 + (j : Int)), .int tp.1]) := upd_same
     refine ⟨_, rfl, two_le, fun c2 hc2 => ?_⟩
     change upd H7 c1 (.tup [.int (tp.2.1 + (j : Int)), .int tp.1]) c2 = none at hc2
     change R _ (upd (upd H7 c1 (.tup [.int (tp.2.1 + (j : Int)), .int tp.1])) c2 (.tup [.ref c1, .int (t - tp.2.2)]))
     generalize upd H7 c1 (.tup [.int (tp.2.1 + (j : Int)), .int tp.1]) = H8 at *
     revert H8
     refine keepG ?_
     set_option tactic.hygienic false in intros
     have sc2 := same_new (o := .tup [.ref c1, .int (t - tp.2.2)]) hc2
     exact kk _ _ (sc.trans sc2) ⟨c2, rfl, c1, upd_same, sc2 _ _ tc⟩
    ·obtain ⟨cs, rfl, hcs⟩ := paired_of ys (fun i => ((tp.2.1 + (i : Int), tp.1), t - tp.2.2)) hy
     rw [hyl, ← segT_eq ht0] at hcs
     have hd7 := s7 _ _ hd6
     have hcl : cs.length ≤ 2000 := by
      rw [List.length_map] at hyl
      omega
     refine ⟨d, D, bs.map V.ref, cs.map V.ref, rfl, rfl, hd7, hDl, ?_, ?_⟩
     ·rw [List.length_map, List.length_map]
      omega
     have tl : TSame H7 (upd H7 d (.lst (bs.map V.ref ++ cs.map V.ref))) := tsame_lst hd7
     subst hE1
     refine ⟨bs ++ cs, _, _, _, _, rfl, fun x o hx h1 => ?_, ?_, ?_, hsc2⟩
     ·rw [upd_ne hx]
      exact s7 _ _ (sb _ _ (kp _ _ hx h1))
     ·rw [upd_same, List.map_append]
     ·exact paired_app ((hsq6.mono s7.tup).mono tl) (SqsAt.mono hcs tl)
   ·have ht0 : t - tp.2.2 = 0 := by
     by_cases z : t - tp.2.2 = 0
     ·exact z
     ·exact absurd (by rw [show decide (V.int (t - tp.2.2) = V.int 0) = false from decide_eq_false fun y => z (V.int.inj y)]; rfl) h
    have es : segT (t - tp.2.2) tp tf = [] := by
     unfold segT
     rw [if_pos ht0]
    rw [es, List.append_nil] at hsc2
    subst hE1
    exact ⟨bs, told, _, _, _, rfl, fun x o hx h1 => sb _ _ (kp _ _ hx h1), hd6, hsq6, hsc2⟩
  ·rintro σ H' ⟨bs, told, t, v4, v5, rfl, kp, hd', hsq, hsc⟩
   have em : min (as.map V.ref).length ((as.map V.ref).drop 1).length = ts.length - 1 := by
    rw [List.length_drop, List.length_map]
    omega
   rw [em] at hsc
   have elast : scan t (ts.drop (ts.length - 1)) = [] := by
    have hle : (ts.drop (ts.length - 1)).length ≤ 1 := by
     rw [List.length_drop]
     omega
    match hm : ts.drop (ts.length - 1) with
    | [] => rfl
    | [_] => rfl
    | _ :: _ :: _ => rw [hm] at hle; simp at hle
   rw [elast, List.append_nil] at hsc
   refine ⟨_, rfl, d, bs, told, rfl, SqL.of hd', hsq, fun e7 as' qs he7 hpe hsq' hqp hqs => ?_⟩
   have s7 := same_new (o := .lst (as'.map V.ref)) he7
   have h7 : upd H' e7 (.lst (as'.map V.ref)) e7 = some (.lst (as'.map V.ref)) := upd_same
   have sHH' : Same H H' := fun b o e => by
    refine kp b o (ne_of_none e hd0) (sH5 _ _ e)
   have e7n : H e7 = none := by
    cases e : H e7 with
    | none => rfl
    | some o => rw [sHH' _ _ e] at he7; cases he7
   refine k e7 _ as' qs e7n (sHH'.trans s7) h7 (hsq'.mono s7.tup) (isSq_of hl h0 hz hpt hs ?_ hqs)
   rw [hsc]
   exact hqp
theorem scWithin : FnScope ["walk", "own"] ["walk"] (defScope sWithin) := ⟨rfl, rfl, rfl, by decide +kernel, rfl, by decide +kernel, by decide +kernel⟩
def inL (l : List Nat) (qs : List (Pt × Int)) : List Pt := (qs.map (·.1)).filter fun q => decide (q ∉ plOf l)
def spWithin : Sp := fun vs H Q _ => ∃ (l : List Nat), vs = [.str (T l)] ∧ IsW l ∧ l.length ≤ 1000 ∧ posOf l = (0, 0) ∧ 4 ≤ l.length ∧ (cntP l).Nodup ∧ ∀ d H' qs, H d = none → Same H H' → IsSq l qs → PlAt H' d (inL l qs) → Q (.ref d) H'
theorem putAllK_val (q : Pt) : ∀ (qs : List (Pt × V)) (kvs : List (List Key × V)), ((valV (putAllK kvs qs) (ptK q)).isSome = true ↔ (valV kvs (ptK q)).isSome = true ∨ q ∈ qs.map (·.1))
 | [], kvs => by simp [putAllK]
 | p :: r, kvs => by
  show (valV (putAllK (putK kvs (ptK p.1) p.2) r) (ptK q)).isSome = true ↔ _
  rw [putAllK_val q r, valV_put]
  by_cases e : ptK q = ptK p.1
  ·rw [if_pos e]
   simp [ptK_inj e]
  ·rw [if_neg e]
   have : ¬ q = p.1 := fun z => e (by rw [z])
   simp [this]
theorem sqs_keys {H : Hp} {as : List Addr} {qs : List (Pt × Int)} (h : SqsAt H as qs) : ∃ bs : List Addr, bs.length = as.length ∧ Tups H bs (qs.map (·.1)) ∧ ∀ (i : Nat) a, as[i]? = some a → ∃ b n, bs[i]? = some b ∧ H a = some (.tup [.ref b, .int n]) := by
 induction h with
 | nil => exact ⟨[], rfl, .nil, fun i a h => by simp at h⟩
 | cons e t ih =>
  obtain ⟨b, h1, h2⟩ := e
  obtain ⟨bs, g1, g2, g3⟩ := ih
  refine ⟨b :: bs, by rw [List.length_cons, List.length_cons, g1], .cons h2 g2, fun i a h => ?_⟩
  cases i with
  | zero =>
   simp at h
   subst h
   exact ⟨b, _, rfl, h1⟩
  | succ i =>
   obtain ⟨b', n, e1, e2⟩ := g3 i a (by simpa using h)
   exact ⟨b', n, by simpa using e1, e2⟩
theorem tups_filt {H : Hp} (pr : Pt → Bool) {bs : List Addr} {ps : List Pt} (ht : Tups H bs ps) : Tups H (((List.range bs.length).filter fun i => pr (ps.getD i (0, 0))).map fun i => bs.getD i 0) (ps.filter pr) := by
 induction ht with
 | nil => exact .nil
 | @cons b p bs ps h t ih =>
  rw [List.length_cons, List.range_succ_eq_map, List.filter_cons, List.filter_cons]
  have e : (((List.range bs.length).map Nat.succ).filter fun i => pr ((p :: ps).getD i (0, 0))).map (fun i => (b :: bs).getD i 0) = ((List.range bs.length).filter fun i => pr (ps.getD i (0, 0))).map fun i => bs.getD i 0 := by
   rw [List.filter_map, List.map_map]
   rfl
  by_cases hp : pr p = true
  ·rw [if_pos hp, if_pos (show pr ((p :: ps).getD 0 (0, 0)) = true from hp), List.map_cons, e]
   exact .cons h ih
  ·rw [if_neg hp, if_neg (show ¬ pr ((p :: ps).getD 0 (0, 0)) = true from hp), e]
   exact ih
theorem ok_within {f fC fP fS : Addr} {fd fdC fdP fdS : FuncData} (F : Df K mg "within" sWithin ["walk"] f fd) (hdict : mg "dict" = none) (C : Df K mg "check_loop" sCheckLoop ["walk"] fC fdC) (GC : FnOk P w K mg base CX0 5 fC fdC ["walk"] spCheckLoop)
  (Pl : Df K mg "places" sPlaces ["walk"] fP fdP) (GP : FnOk P w K mg base CX0 2 fP fdP ["walk"] spPlaces) (Sq : Df K mg "squares" sSquares ["walk"] fS fdS) (GS : FnOk P w K mg base CX0 5 fS fdS ["walk"] spSquares) : FnOk P w K mg base CX0 6 f fd ["walk"] spWithin := by
 refine F.fn.ok scWithin (fun vs H Q E h => ?_) (fun cdv A outer s H vs Q E hr h => ?_)
 ·obtain ⟨l, rfl, _⟩ := h
  rfl
 ·obtain ⟨l, rfl, hl, hz, h0, h4, nd, k⟩ := h
  have esz : sizeLine = 16777216 := PySem.sizeLine_eq
  have hr2 : Room 2 _ := hr.mono (by decide)
  have hu := hu_of hr
  have hu4 := hu4_of hr
  refine lX ?_
  extract_lets
  refine ⟨_, pss_consL (ps_expr (pe_call GC hr rfl C.at_ C.fn.kp C.bi .nil pass0 (pa_cons (pv 0) pa_nil)))
   (pss_consL (ps_set (i := 1) scWithin.nd rfl (Or.inr rfl) (pe_callTy (call_dictP rfl hu4) rfl hdict PyProof.Rows.boot_dict (pa_cons (pe_comp (M := ["place"]) rfl (compSc_of ["walk", "own"] (defScope sWithin) rfl rfl (by decide +kernel)) (pi_list (pe_call GP hr2 rfl Pl.at_ Pl.fn.kp Pl.bi .nil pass0 (pa_cons (pv 0) pa_nil))) (fun _ _ _ _ => pg_name (i := 2) (nd_of ["walk", "own", "place"] rfl (by decide +kernel)) rfl (Or.inl rfl)) (fun _ _ _ _ => pts_nil)
    (fun _ _ _ _ => pe_tup (pa_cons (pv 2) (pa_cons pe_bl pa_nil)))) pa_nil)))
   (pss_one (ps_ret (pe_comp (M := ["square", "times"]) rfl (compSc_of ["walk", "own"] (defScope sWithin) rfl rfl (by decide +kernel)) (pi_list (pe_call GS hr rfl Sq.at_ Sq.fn.kp Sq.bi .nil pass0 (pa_cons (pv 0) pa_nil)))
    (fun _ _ _ _ => pg_tup (n := 2) rfl (pgs_cons (pg_name (i := 2) (nd_of ["walk", "own", "square", "times"] rfl (by decide +kernel)) rfl (Or.inl rfl)) (pgs_cons (pg_name (i := 3) (nd_of ["walk", "own", "square", "times"] rfl (by decide +kernel)) rfl (Or.inl rfl)) pgs_nil)))
    (fun _ _ _ _ => pts_one (pt_cmp (pc_dnotin hu (pv 2) (pv 1)))) (fun _ _ _ _ => pv 2))))), ?_⟩
  lift_lets
  extract_lets
  refine ⟨_, rfl, l, rfl, hl, hz, h0, h4, nd, fun H1 s1 => ?_⟩
  refine ⟨_, rfl, l, rfl, hl, hz, fun c H2 hc s2 hP => ?_⟩
  obtain ⟨as, hc1, hT⟩ := id hP
  have hpl : (plOf l).length = l.length + 1 := placesP_length _ _
  have hal : as.length = (plOf l).length := Paired.length hT
  refine ⟨c, rfl, ⟨_, SqL.of hc1⟩, ?_⟩
  refine comp_relL (K := K) (a := c) (xs := as.map V.ref) (fun x => [some x]) (fun _ => rfl) (by rw [List.length_map]; omega) (SqL.of hc1) (fun _ _ _ _ j x hx H3 R s3 kk => kk) (fun j y H3 => ∃ a q, y = .ref a ∧ (plOf l)[j]? = some q ∧ KvP H3 a (q, .bl true)) (fun j y H3 H4 ⟨a, q, e, e2, b, hb1, hb2⟩ ts => ⟨a, q, e, e2, b, ts _ _ hb1, ts _ _ hb2⟩) (fun _ _ _ _ j x hx H3 R s3 kk => ?_) (fun D ys H3 hD s3 hDl hyl hy => ?_)
  ·obtain ⟨a, ha, rfl⟩ := map_ref_get hx
   obtain ⟨q, hq, hta⟩ := paired_get hT ha
   refine ⟨_, rfl, two_le, fun e he => ?_⟩
   have se := same_new (o := .tup [.ref a, .bl true]) he
   exact kk _ _ se ⟨e, q, rfl, hq, a, upd_same, se _ _ (s3 _ _ hta)⟩
  have hyl' : ys.length = (plOf l).length := by rw [hyl, List.length_map, hal]
  obtain ⟨es, rfl, hes⟩ := paired_of (S := KvP H3) ys (fun i => ((plOf l).getD i (0, 0), V.bl true)) fun i y hi => by
   obtain ⟨a, q, e1, e2, e3⟩ := hy i y hi
   refine ⟨a, e1, ?_⟩
   rw [List.getD_eq_getElem?_getD, e2]
   exact e3
  rw [hyl'] at hes
  have hkeys : ((List.range (plOf l).length).map fun i => ((plOf l).getD i (0, 0), V.bl true)).map (·.1) = plOf l := by
   rw [List.map_map]
   refine List.ext_getElem? fun i => ?_
   rw [List.getElem?_map]
   by_cases hi : i < (plOf l).length
   ·rw [List.getElem?_range hi, List.getElem?_eq_getElem hi]
    show some ((plOf l).getD i (0, 0)) = _
    rw [List.getD_eq_getElem?_getD, List.getElem?_eq_getElem hi]
    rfl
   ·rw [List.getElem?_eq_none (by rw [List.length_range]; omega), List.getElem?_eq_none (by omega)]
    rfl
  refine ⟨D, es, _, rfl, hDl, hes, by rw [List.length_map, List.length_range]; omega, fun o ho => ?_⟩
  have s4 := same_new (o := .dT (putAllK [] ((List.range (plOf l).length).map fun i => ((plOf l).getD i (0, 0), V.bl true)))) ho
  have h4' : upd H3 o (.dT (putAllK [] ((List.range (plOf l).length).map fun i => ((plOf l).getD i (0, 0), V.bl true)))) o = some (.dT (putAllK [] ((List.range (plOf l).length).map fun i => ((plOf l).getD i (0, 0), V.bl true)))) := upd_same
  change gName _ _ _ (upd H3 o (.dT (putAllK [] ((List.range (plOf l).length).map fun i => ((plOf l).getD i (0, 0), V.bl true))))) _
  generalize upd H3 o (.dT (putAllK [] ((List.range (plOf l).length).map fun i => ((plOf l).getD i (0, 0), V.bl true)))) = H4 at *
  have hval : ∀ q, (valV (putAllK [] ((List.range (plOf l).length).map fun i => ((plOf l).getD i (0, 0), V.bl true))) (ptK q)).isSome = decide (q ∈ plOf l) := fun q => by
   have := putAllK_val q ((List.range (plOf l).length).map fun i => ((plOf l).getD i (0, 0), V.bl true)) []
   rw [hkeys] at this
   by_cases z : q ∈ plOf l
   ·rw [decide_eq_true z]
    exact this.mpr (.inr z)
   ·rw [decide_eq_false z]
    cases e : (valV (putAllK [] ((List.range (plOf l).length).map fun i => ((plOf l).getD i (0, 0), V.bl true))) (ptK q)).isSome with
    | false => rfl
    | true =>
     rcases this.mp e with y | y
     ·cases y
     ·exact absurd y z
  generalize putAllK [] ((List.range (plOf l).length).map fun i => ((plOf l).getD i (0, 0), V.bl true)) = kvs at *
  revert H4
  refine keepG ?_
  set_option tactic.hygienic false in intros
  refine ⟨_, rfl, l, rfl, hl, hz, h0, fun d5 H5 as5 qs hd5 s5 h5 hsq hQ => ?_⟩
  have hfew := hQ.few
  have hl5 : as5.length = qs.length := Paired.length hsq
  obtain ⟨bs, hb1, hb2, hb3⟩ := sqs_keys hsq
  have ho5 := s5 _ _ h4'
  refine ⟨d5, rfl, ⟨_, SqL.of h5⟩, ?_⟩
  refine comp_filtL (K := K) (a := d5) (xs := as5.map V.ref) (sl2 H5) (sl2_len H5) (fun i => decide ((qs.map (·.1)).getD i (0, 0) ∉ plOf l)) (fun i => .ref (bs.getD i 0)) (by rw [List.length_map]; omega) (SqL.of h5) (fun _ _ _ _ j x hx H6 R s6 kk => ?_) (fun _ _ _ _ j x hx H6 R s6 kk => ?_) (fun _ _ _ _ j x hx hpj H6 R s6 kk => ?_) (fun D6 H6 hD6 s6 hDl6 => ?_)
  ·obtain ⟨a, ha, rfl⟩ := map_ref_get hx
   obtain ⟨b, n, hb, hta⟩ := hb3 j a ha
   rw [sl2_eq hta] at kk
   exact g_two rfl (SqT.of (s6 _ _ hta)) kk
  ·obtain ⟨a, ha, rfl⟩ := map_ref_get hx
   obtain ⟨b, n, hb, hta⟩ := hb3 j a ha
   obtain ⟨q, hq, htb⟩ := paired_get hb2 hb
   rw [sl2_eq hta]
   have eq : (qs.map (·.1)).getD j (0, 0) = q := by rw [List.getD_eq_getElem?_getD, hq]; rfl
   rw [eq] at kk
   have hk6 : H6 b = some (.tup ((ptK q).map kV)) := s6 _ _ htb
   refine ⟨_, rfl, _, rfl, o, _, rfl, DGet.t (s6 _ _ ho5) hk6, _, rfl, ?_⟩
   have := kk H6 (Same.refl _)
   rw [hval q]
   have e2 : decide (q ∉ plOf l) = !decide (q ∈ plOf l) := by
    by_cases z : q ∈ plOf l
    ·rw [decide_eq_true z, decide_eq_false (not_not_intro z)]
     rfl
    ·rw [decide_eq_false z, decide_eq_true z]
     rfl
   rw [e2] at this
   exact this
  ·obtain ⟨a, ha, rfl⟩ := map_ref_get hx
   obtain ⟨b, n, hb, hta⟩ := hb3 j a ha
   rw [sl2_eq hta]
   have eb : bs.getD j 0 = b := by rw [List.getD_eq_getElem?_getD, hb]; rfl
   rw [eb] at kk
   exact ⟨_, rfl, kk H6 (Same.refl _)⟩
  ·have em : (as5.map V.ref).length = bs.length := by rw [List.length_map]; exact hb1.symm
   rw [em] at hDl6
   have hDl6' : H6 D6 = some (.lst ((((List.range bs.length).filter fun i => decide ((qs.map (·.1)).getD i (0, 0) ∉ plOf l)).map fun i => bs.getD i 0).map V.ref)) := by
    rw [hDl6, List.map_map]
    rfl
   have sAll : Same H H6 := (((((s1.trans s2).trans s3).trans s4).trans s5).trans s6)
   have hDn : H D6 = none := by
    cases e : H D6 with
    | none => rfl
    | some o' => rw [((((s1.trans s2).trans s3).trans s4).trans s5) _ _ e] at hD6; cases hD6
   refine k D6 H6 qs hDn sAll hQ ⟨_, hDl6', ?_⟩
   exact tups_mono (tups_filt (fun q => decide (q ∉ plOf l)) hb2) s6.tup
abbrev NRim : List Str := ["_law_bars", "_law_steps", "_law_at", "_law_beside"]
theorem scLawRim : FnScope NRim ["_law_bars"] (defScope sLawRim) := ⟨rfl, rfl, rfl, by decide +kernel, rfl, by decide +kernel, by decide +kernel⟩
def spLawRim (K : PySem.W.Frag) : Sp := fun vs H Q _ => ∃ (a : Addr) (rb : List Nat), vs = [.ref a] ∧ SqL K H a (rb.reverse.map fun (b : Nat) => V.int (b : Int)) ∧ rb ≠ [] ∧ rb.length ≤ 63 ∧ (∀ b ∈ rb, 1 ≤ b ∧ b ≤ 5) ∧ ∀ H', Same H H' → Q (.str (T (rimB rb))) H'
def segsB : List Nat → List (List Nat)
 | [] => []
 | b :: r => [119] :: vert b (r.headD 0) :: segsB r
theorem segsB_flat : ∀ rb : List Nat, (segsB rb).flatten = tops rb
 | [] => rfl
 | b :: r => by
  show [119] ++ (vert b (r.headD 0) ++ (segsB r).flatten) = 119 :: (vert b (r.headD 0) ++ tops r)
  rw [segsB_flat r]
  rfl
theorem segsB_length : ∀ rb : List Nat, (segsB rb).length = 2 * rb.length
 | [] => rfl
 | b :: r => by
  show (segsB r).length + 1 + 1 = 2 * (r.length + 1)
  rw [segsB_length r]
  omega
theorem segsB_take : ∀ (rb : List Nat) (i : Nat), i < rb.length → (segsB rb).take (2 * (i + 1)) = (segsB rb).take (2 * i) ++ [[119], vert (rb.getD i 0) (rb.getD (i + 1) 0)]
 | [], i, h => by simp at h
 | b :: r, 0, _ => by
  show [[119], vert b (r.headD 0)] = [[119], vert b ((b :: r).getD 1 0)]
  cases r <;> rfl
 | b :: r, i + 1, h => by
  have ih := segsB_take r i (by simpa using h)
  have e1 : 2 * (i + 1 + 1) = 2 * (i + 1) + 1 + 1 := by omega
  have e2 : 2 * (i + 1) = 2 * i + 1 + 1 := by omega
  rw [e1]
  conv => rhs; rw [e2]
  show [119] :: vert b (r.headD 0) :: (segsB r).take (2 * (i + 1)) = [119] :: vert b (r.headD 0) :: ((segsB r).take (2 * i) ++ _)
  rw [ih]
  rfl
theorem bar_get {rb : List Nat} {j : Nat} (h : j < rb.length) : (rb.reverse.map fun (b : Nat) => V.int (b : Int))[j]? = some (.int ((rb.getD (rb.length - 1 - j) 0 : Nat) : Int)) := by
 rw [List.getElem?_map, List.getElem?_reverse h, List.getD_eq_getElem?_getD, List.getElem?_eq_getElem (by omega)]
 rfl
theorem sum_le5 : ∀ {rb : List Nat}, (∀ b ∈ rb, 1 ≤ b ∧ b ≤ 5) → rb.sum ≤ 5 * rb.length
 | [], _ => Nat.le_refl _
 | b :: r, h => by
  have ih := sum_le5 (rb := r) fun x hx => h x (List.mem_cons_of_mem _ hx)
  have := (h b List.mem_cons_self).2
  rw [List.sum_cons, List.length_cons]
  omega
theorem rim_le {rb : List Nat} (hne : rb ≠ []) (h : ∀ b ∈ rb, 1 ≤ b ∧ b ≤ 5) : (rimB rb).length ≤ 10 * rb.length + 2 := by
 have h1 := rim_length (rb := rb) (fun b hb => (h b hb).1) hne
 have h2 := sum_le5 h
 omega
theorem ok_law_rim {f : Addr} {fd : FuncData} (F : Df K mg "_law_rim" sLawRim ["_law_bars"] f fd) (hlen : mg "len" = none) (hrev : mg "reversed" = none) (hrng : mg "range" = none) : FnOk P w K mg base CX0 1 f fd ["_law_bars"] (spLawRim K) := by
 refine F.fn.ok scLawRim (fun vs H Q E h => ?_) (fun cdv A outer s H vs Q E hr h => ?_)
 ·obtain ⟨a, rb, rfl, _⟩ := h
  rfl
 ·obtain ⟨a, rb, rfl, hS, hne, hz, h5, k⟩ := h
  have esz : sizeLine = 16777216 := PySem.sizeLine_eq
  have hpos : 0 < rb.length := List.length_pos_iff.mpr hne
  have hlm : (rb.reverse.map fun (b : Nat) => V.int (b : Int)).length = rb.length := by rw [List.length_map, List.length_reverse]
  have hg5 : ∀ i, rb.getD i 0 ≤ 5 := fun i => by
   rw [List.getD_eq_getElem?_getD]
   cases e : rb[i]? with
   | none => exact Nat.zero_le _
   | some b => exact (h5 b (List.mem_of_getElem? e)).2
  refine lX ?_
  extract_lets
  refine ⟨_, pss_consL (ps_set (i := 1) scLawRim.nd rfl (Or.inl rfl) (pe_lst (pa_cons (pe_op op_rep_sign pe_str (pe_callB call_len_seq rfl hlen PySem.boot_len (pa_cons (pv 0) pa_nil))) (pa_cons (pe_op op_rep_sign pe_str (pe_ix ix_list (pv 0) (pe_un un_neg pe_int) (fun _ _ => rfl))) pa_nil))))
   (pss_consL (ps_for PassesOwn.never rfl (pi_revR rfl hrev (pa_cons (pe_callTy call_rng1 rfl hrng PyProof.Rows.boot_range (pa_cons (pe_callB call_len_seq rfl hlen PySem.boot_len (pa_cons (pv 0) pa_nil)) pa_nil)) pa_nil)) (pg_name (i := 2) scLawRim.nd rfl (Or.inl rfl))
    (pss_consL (ps_expr (pe_bm PySem.F.plainAttrs_list PySem.F.slot_list_append PySem.F.type_list_append mt_append (pv 1) (pa_cons pe_str pa_nil)))
    (pss_consL (ps_mrg (ps_set (i := 3) scLawRim.nd rfl (Or.inl rfl) (pe_ifExp (pt_cmpR op_gt (pv 2) pe_int (nomark _)) (pe_ix ix_list (pv 0) (pe_op op_sub (pv 2) pe_int) (fun _ _ => rfl)) pe_int)))
    (pss_one (ps_expr (pe_bm PySem.F.plainAttrs_list PySem.F.slot_list_append PySem.F.type_list_append mt_append (pv 1) (pa_cons (pe_ifExp (pt_cmpR op_gt (pv 3) (pe_ix ix_list (pv 0) (pv 2) (fun _ _ => rfl)) (nomark _)) (pe_op op_rep_sign pe_str (pe_op op_sub (pv 3) (pe_ix ix_list (pv 0) (pv 2) (fun _ _ => rfl)))) (pe_op op_rep_sign pe_str (pe_op op_sub (pe_ix ix_list (pv 0) (pv 2) (fun _ _ => rfl)) (pv 3)))) pa_nil)))))))
   (pss_one (ps_ret (pe_bm PySem.F.plainAttrs_str PySem.F.slot_str_join PySem.F.type_str_join mt_join pe_str (pa_cons (pv 1) pa_nil))))), ?_⟩
  lift_lets
  extract_lets
  have hat : atI (rb.reverse.map fun (b : Nat) => V.int (b : Int)) (-1) = some (.int ((rb.headD 0 : Nat) : Int)) := by
   cases rb with
   | nil => exact absurd rfl hne
   | cons b r =>
    rw [List.reverse_cons, List.map_append]
    exact atI_last _ _
  have hh5 : rb.headD 0 ≤ 5 := by
   cases rb with
   | nil => exact Nat.zero_le _
   | cons b r => exact (h5 b List.mem_cons_self).2
  refine ⟨_, rfl, a, _, rfl, .inl hS, 101, _, by rw [lit_e], rfl, by rw [hlm]; omega, by rw [hlm]; omega, _, rfl, _, rfl, a, _, _, _, rfl, rfl, hS, hat, 110, _, by rw [lit_n], rfl, by omega, by omega, (by show 2 ≤ sizeLine; decide), fun d hd => ?_⟩
  rw [hlm, Int.toNat_natCast, Int.toNat_natCast]
  have hd1 : upd H d (.lst [.str (T (List.replicate rb.length 101)), .str (T (List.replicate (rb.headD 0) 110))]) d = some (.lst [.str (T (List.replicate rb.length 101)), .str (T (List.replicate (rb.headD 0) 110))]) := upd_same
  have s1 : Same H (upd H d (.lst [.str (T (List.replicate rb.length 101)), .str (T (List.replicate (rb.headD 0) 110))])) := same_new hd
  first | change Ends.nx _ _ (upd H d (.lst [.str (T (List.replicate rb.length 101)), .str (T (List.replicate (rb.headD 0) 110))])) | change tSeq _ _ _ _ (upd H d (.lst [.str (T (List.replicate rb.length 101)), .str (T (List.replicate (rb.headD 0) 110))]))
  generalize upd H d (.lst [.str (T (List.replicate rb.length 101)), .str (T (List.replicate (rb.headD 0) 110))]) = H1 at *
  revert H1
  refine keepG ?_
  set_option tactic.hygienic false in intros
  refine ⟨_, rfl, a, _, rfl, .inl (s1.seq hS), _, rfl, fun e he => ?_⟩
  rw [hlm]
  have s2 := same_new (o := .rng 0 (rb.length : Int)) he
  have h2 : upd H1 e (.rng 0 (rb.length : Int)) e = some (.rng 0 (rb.length : Int)) := upd_same
  generalize upd H1 e (.rng 0 (rb.length : Int)) = H2 at *
  revert H2
  refine keepG ?_
  set_option tactic.hygienic false in intros
  refine ⟨e, rb.length, rfl, h2, by omega, ?_⟩
  have txt : List (List Nat) := []
  refine for_range3 (lo := (rb.length : Int) - 1) (c := -1) (n := rb.length) (fun i σ H' => ∃ v2 v3 : Option V, σ = [some (.ref a), some (.ref d), v2, v3] ∧ Same H H' ∧ H' d = some (.lst ((List.replicate rb.length 101 :: List.replicate (rb.headD 0) 110 :: (segsB rb).take (2 * i)).map fun l => V.str (T l)))) ?_ ?_ ?_
  ·exact ⟨none, none, rfl, s1.trans s2, s2 _ _ hd1⟩
  ·intro i σ H' hi hI
   generalize hE1 : Ends.mk _ _ _ _ = E1
   revert E1
   refine keepG ?_
   set_option tactic.hygienic false in intros
   obtain ⟨v2, v3, rfl, sH, hd'⟩ := hI
   have hSi := sH.seq hS
   have eat : (rb.length : Int) - 1 + (i : Int) * (-1) = ((rb.length - 1 - i : Nat) : Int) := by omega
   have hsl := segsB_length rb
   have hlt : ∀ n, ((segsB rb).take n).length ≤ 126 := fun n => by
    rw [List.length_take]
    omega
   have hi2 := hlt (2 * i)
   rw [eat]
   have g1 : (rb.reverse.map fun (b : Nat) => V.int (b : Int))[rb.length - 1 - i]? = some (.int ((rb.getD i 0 : Nat) : Int)) := by
    have := bar_get (rb := rb) (j := rb.length - 1 - i) (by omega)
    rw [this, show rb.length - 1 - (rb.length - 1 - i) = i by omega]
   refine ⟨_, rfl, .inl ⟨rfl, _, SqL.of hd'⟩, d, _, _, rfl, rfl, hd', (by rw [List.length_map, List.length_cons, List.length_cons]; omega), ?_⟩
   have s3 : Same H (upd H' d (.lst (((List.replicate rb.length 101 :: List.replicate (rb.headD 0) 110 :: (segsB rb).take (2 * i)).map fun l => V.str (T l)) ++ [.str (Str.ofString "w")]))) := same_upd hd sH
   have h3 : upd H' d (.lst (((List.replicate rb.length 101 :: List.replicate (rb.headD 0) 110 :: (segsB rb).take (2 * i)).map fun l => V.str (T l)) ++ [.str (Str.ofString "w")])) d = some (.lst (((List.replicate rb.length 101 :: List.replicate (rb.headD 0) 110 :: (segsB rb).take (2 * i)).map fun l => V.str (T l)) ++ [.str (Str.ofString "w")])) := upd_same
   first | change Ends.nx _ _ (upd H' d (.lst (((List.replicate rb.length 101 :: List.replicate (rb.headD 0) 110 :: (segsB rb).take (2 * i)).map fun l => V.str (T l)) ++ [.str (Str.ofString "w")]))) | change tSeq _ _ _ _ (upd H' d (.lst (((List.replicate rb.length 101 :: List.replicate (rb.headD 0) 110 :: (segsB rb).take (2 * i)).map fun l => V.str (T l)) ++ [.str (Str.ofString "w")])))
   generalize upd H' d (.lst (((List.replicate rb.length 101 :: List.replicate (rb.headD 0) 110 :: (segsB rb).take (2 * i)).map fun l => V.str (T l)) ++ [.str (Str.ofString "w")])) = H3 at *
   revert H3
   refine keepG ?_
   set_option tactic.hygienic false in intros
   have hS3 := s3.seq hS
   refine ⟨fun σ' H'' => H'' = H3 ∧ σ' = [some (.ref a), some (.ref d), some (.int ((rb.length - 1 - i : Nat) : Int)), some (.int ((rb.getD (i + 1) 0 : Nat) : Int))], ?_, ?_⟩
   ·refine ⟨_, rfl, _, _, rfl, rfl, _, rfl, ?_⟩
    refine ite2 (fun h => ?_) (fun h => ?_)
    ·have hlt0 : (0 : Int) < ((rb.length - 1 - i : Nat) : Int) := of_decide_eq_true h
     have g2 : (rb.reverse.map fun (b : Nat) => V.int (b : Int))[rb.length - 1 - i - 1]? = some (.int ((rb.getD (i + 1) 0 : Nat) : Int)) := by
      have := bar_get (rb := rb) (j := rb.length - 1 - i - 1) (by omega)
      rw [this, show rb.length - 1 - (rb.length - 1 - i - 1) = i + 1 by omega]
     have e2 : ((rb.length - 1 - i : Nat) : Int) - 1 = ((rb.length - 1 - i - 1 : Nat) : Int) := by omega
     refine ⟨_, rfl, _, rfl, _, _, rfl, rfl, a, _, _, _, rfl, rfl, hS3, ?_, rfl, rfl⟩
     show atI _ (((rb.length - 1 - i : Nat) : Int) - 1) = _
     rw [e2]
     exact atI_nat g2
    ·have hge : ¬ (0 : Int) < ((rb.length - 1 - i : Nat) : Int) := fun z => h (decide_eq_true z)
     have e0 : rb.getD (i + 1) 0 = 0 := by
      rw [List.getD_eq_getElem?_getD, List.getElem?_eq_none (by omega)]
      rfl
     refine ⟨rfl, ?_⟩
     rw [e0]
     rfl
   rintro σ' H'' ⟨eH, eσ⟩
   rw [eH, eσ]
   clear eH eσ
   have hb1 := hg5 i
   have hb2 := hg5 (i + 1)
   have fin : ∀ (m : List Nat), m = vert (rb.getD i 0) (rb.getD (i + 1) 0) → rAppend (.ref d) [.str (T m)] H3 (fun _ H4 => ∃ v2 v3 : Option V, [some (.ref a), some (.ref d), some (.int ((rb.length - 1 - i : Nat) : Int)), some (.int ((rb.getD (i + 1) 0 : Nat) : Int))] = [some (.ref a), some (.ref d), v2, v3] ∧ Same H H4 ∧ H4 d = some (.lst ((List.replicate rb.length 101 :: List.replicate (rb.headD 0) 110 :: (segsB rb).take (2 * (i + 1))).map fun l => V.str (T l)))) := by
    rintro m rfl
    refine ⟨d, _, _, rfl, rfl, h3, (by rw [List.length_append, List.length_map, List.length_cons, List.length_cons, List.length_singleton]; omega), _, _, rfl, same_upd hd s3, ?_⟩
    rw [upd_same, segsB_take rb i hi, lit_w]
    simp
   refine ⟨_, rfl, .inl ⟨rfl, _, SqL.of h3⟩, _, rfl, _, rfl, _, rfl, a, _, _, _, rfl, rfl, hS3, atI_nat g1, _, _, rfl, rfl, _, rfl, ?_⟩
   refine ite2 (fun h => ?_) (fun h => ?_)
   ·have hgt : ((rb.getD i 0 : Nat) : Int) < ((rb.getD (i + 1) 0 : Nat) : Int) := of_decide_eq_true h
    refine ⟨_, rfl, _, rfl, _, rfl, a, _, _, _, rfl, rfl, hS3, atI_nat g1, _, _, rfl, rfl, 110, _, by rw [lit_n], rfl, by omega, by omega, ?_⟩
    subst hE1
    refine fin _ ?_
    unfold vert
    rw [if_pos (by omega)]
    congr 1
    omega
   ·have hle : ¬ ((rb.getD i 0 : Nat) : Int) < ((rb.getD (i + 1) 0 : Nat) : Int) := fun z => h (decide_eq_true z)
    refine ⟨_, rfl, _, rfl, a, _, _, _, rfl, rfl, hS3, atI_nat g1, _, rfl, _, _, rfl, rfl, 115, _, by rw [lit_s], rfl, by omega, by omega, ?_⟩
    subst hE1
    refine fin _ ?_
    unfold vert
    rw [if_neg (by omega)]
    congr 1
    omega
  ·rintro σ H' ⟨v2, v3, rfl, sH, hd'⟩
   rw [List.take_of_length_le (by rw [segsB_length]; exact Nat.le_refl _)] at hd'
   have ef : (List.replicate rb.length 101 :: List.replicate (rb.headD 0) 110 :: segsB rb).flatten = rimB rb := by
    rw [List.flatten_cons, List.flatten_cons, segsB_flat]
    rfl
   refine ⟨rfl, _, rfl, d, _, by rw [lit_0], rfl, SqL.of hd', ?_, ?_⟩
   ·rw [ef]
    have := rim_le hne h5
    omega
   ·rw [ef]
    exact k H' sH
theorem scLawBends : FnScope ["_law_loop"] ["_law_loop"] (defScope sLawBends) := ⟨rfl, rfl, rfl, by decide +kernel, rfl, by decide +kernel, by decide +kernel⟩
def spLawBends : Sp := fun vs H Q _ => ∃ (l : List Nat), vs = [.str (T l)] ∧ l ≠ [] ∧ l.length ≤ 1000 ∧ ∀ H', Same H H' → Q (.int ((cycT WM.ne l : Nat) : Int)) H'
theorem cnt_filt (f : Nat → Nat → Bool) : ∀ (l : List Nat) (p : Nat), ((List.range l.length).filter fun i => f ((p :: l).getD i 0) (l.getD i 0)).length = cntT f p l
 | [], _ => rfl
 | c :: l, p => by
  have ih := cnt_filt f l c
  rw [List.length_cons, List.range_succ_eq_map, List.filter_cons, List.filter_map]
  have e : ((fun i => f ((p :: c :: l).getD i 0) ((c :: l).getD i 0)) ∘ Nat.succ) = fun i => f ((c :: l).getD i 0) (l.getD i 0) := rfl
  rw [e]
  show _ = (if f p c = true then 1 else 0) + cntT f c l
  rw [← ih]
  by_cases h : f p c = true
  ·rw [if_pos (show f ((p :: c :: l).getD 0 0) ((c :: l).getD 0 0) = true from h), if_pos h, List.length_cons, List.length_map]
   omega
  ·rw [if_neg (show ¬ f ((p :: c :: l).getD 0 0) ((c :: l).getD 0 0) = true from h), if_neg h, List.length_map]
   omega
theorem ok_law_bends {f : Addr} {fd : FuncData} (F : Df K mg "_law_bends" sLawBends ["_law_loop"] f fd) (hlen : mg "len" = none) (hrng : mg "range" = none) : FnOk P w K mg base CX0 1 f fd ["_law_loop"] spLawBends := by
 refine F.fn.ok scLawBends (fun vs H Q E h => ?_) (fun cdv A outer s H vs Q E hr h => ?_)
 ·obtain ⟨l, rfl, _⟩ := h
  rfl
 ·obtain ⟨l, rfl, hne, hz, k⟩ := h
  have esz : sizeLine = 16777216 := PySem.sizeLine_eq
  have hoz : (T l).length ≤ sizeLine := by rw [T_len]; omega
  refine lX ?_
  extract_lets
  refine ⟨_, pss_one (ps_ret (pe_callB call_len_seq rfl hlen PySem.boot_len (pa_cons (pe_comp (M := ["_law_at"]) rfl (compSc_of ["_law_loop"] (defScope sLawBends) rfl rfl (by decide +kernel)) (pi_range1 rfl hrng (pa_cons (pe_callB call_len_str rfl hlen PySem.boot_len (pa_cons (pv 0) pa_nil)) pa_nil)) (fun _ _ _ _ => pg_name (i := 1) (nd_of ["_law_loop", "_law_at"] rfl (by decide +kernel)) rfl (Or.inl rfl))
   (fun _ _ _ _ => pts_one (pt_cmpR op_ne (pe_ix ix_str (pv 0) (pv 1) (fun _ _ => rfl)) (pe_ix ix_str (pv 0) (pe_op op_sub (pv 1) pe_int) (fun _ _ => rfl)) (nomark _))) (fun _ _ _ _ => pv 1)) pa_nil))), ?_⟩
  refine ⟨_, rfl, _, rfl, hoz, _, rfl, (by rw [T_len]; omega), (by rw [T_len]; omega), ?_⟩
  rw [T_len, Int.toNat_natCast]
  obtain ⟨pre, z, rfl⟩ : ∃ pre z, l = pre ++ [z] := ⟨l.dropLast, l.getLast hne, (List.dropLast_concat_getLast hne).symm⟩
  generalize hll : pre ++ [z] = l at *
  revert l
  refine keepG ?_
  set_option tactic.hygienic false in intros
  have hat : atI l (-1) = some z := by
   rw [← hll]
   exact atI_last _ _
  have hlast : lastD 0 l = z := by
   rw [← hll]
   exact lastD_snoc _ _ _
  refine comp_filtR (m := l.length) (fun i => WM.ne ((z :: l).getD i 0) (l.getD i 0)) (fun i => .int (i : Int)) rfl (by assumption) (fun _ _ _ _ i hi H3 R s3 kk => ?_) (fun _ _ _ _ i hi hp H3 R s3 kk => ⟨_, rfl, kk H3 (Same.refl _)⟩) (fun D H3 hD s3 hDl => ?_)
  ·have g0 : l[i]? = some l[i] := List.getElem?_eq_getElem hi
   have gp : atI l ((i : Int) - 1) = some ((z :: l).getD i 0) := by
    cases i with
    | zero => exact hat
    | succ j =>
     have gj : l[j]? = some l[j] := List.getElem?_eq_getElem (by omega)
     have e : (((j + 1 : Nat) : Int) - 1) = (j : Int) := by omega
     rw [e, atI_nat gj]
     show _ = some (l.getD j 0)
     rw [List.getD_eq_getElem?_getD, gj]
     rfl
   have ed : l.getD i 0 = l[i] := by rw [List.getD_eq_getElem?_getD, g0]; rfl
   refine ⟨_, rfl, _, rfl, _, _, l[i], rfl, rfl, hoz, (by rw [T_list]; exact atI_nat g0), _, rfl, _, rfl, _, _, rfl, rfl, _, _, (z :: l).getD i 0, rfl, rfl, hoz, (by rw [T_list]; exact gp), rfl, ?_⟩
   have := kk H3 (Same.refl _)
   rw [ed] at this
   have e2 : WM.ne ((z :: l).getD i 0) l[i] = !decide (V.str (T [l[i]]) = V.str (T [(z :: l).getD i 0])) := by
    rw [strT]
    unfold WM.ne
    by_cases y : l[i] = (z :: l).getD i 0
    ·rw [decide_eq_false (not_not_intro y), decide_eq_true (by rw [y])]
     rfl
    ·rw [decide_eq_true y, decide_eq_false (by intro q; exact y (by simpa using q))]
     rfl
   rw [e2] at this
   exact ⟨_, rfl, this⟩
  ·refine ⟨D, _, rfl, .inl (SqL.of hDl), ?_⟩
   rw [List.length_map, cnt_filt]
   have := k H3 s3
   unfold cycT at this
   rw [hlast] at this
   exact this
end
end SW
set_option Elab.async false
set_option linter.all false
set_option maxRecDepth 100000
set_option maxHeartbeats 400000
namespace L2
open PySem PySem.Spec PyProof.Rows
section
variable {X : Cx}
theorem ps_setC {elt tg iter : Expr} {ifs : List Expr} {scope : Scope} {pos spos py : Pos} {M : List Str} {wi : TI} {g : BK TG} {tt : BK TT} {te : BK TE} {i : Nat} {y : Str} (hN : X.N.Nodup) (hi' : X.N[i]? = some y) (hx : Loc X.env.scope y) (hc : X.calm = true) (S : CompSc X scope) (hi : PI X tg iter wi)
  (hg : ∀ C fp s₃ H₃, PG (blk X M scope C fp s₃ H₃) tg (g C fp s₃ H₃)) (ht : ∀ C fp s₃ H₃, PTs (blk X M scope C fp s₃ H₃) ifs (tt C fp s₃ H₃)) (he : ∀ C fp s₃ H₃, PE (blk X M scope C fp s₃ H₃) elt (te C fp s₃ H₃))
  (hs : ∀ x, foldedSetIterable iter X.env x = pure x := by intro _; rfl) (hsw : swapsWithSole [.Name y py] (.ListComp elt [⟨tg, iter, ifs, 0⟩] scope pos) spos.line X.env = pure true := by rfl) (hf : X.fn y = true ∨ X.env.scope.names.lookup y = some .local := by first | exact .inl rfl | exact .inr rfl | assumption) (h1 : (assignEach [.Name y py] X.env).map (·.2) = [assign (.Name y py) X.env] := by rfl) :
  PS X (.Assign [.Name y py] (.ListComp elt [⟨tg, iter, ifs, 0⟩] scope pos) spos) (tAsg (tComp M.length wi g tt te) (gName i)) := by
 intro pins s σ H D I h
 rw [arm_exec_Assign]
 refine wpAny_bind (wpAny_standAt ?_)
 refine wpAny_bind (wpAny_of_eq hsw ?_)
 rw [if_pos rfl, h1]
 refine wpAny_bind ?_
 show wpAny _ _ (comprehension (.ListComp elt [⟨tg, iter, ifs, 0⟩] scope pos) scope X.env _ (newList []) false _ (some _) >>= _) _ _ _
 refine wpAny_bind ?_
 refine wpAny_mono (Q := fun _ s' => ∃ σ' H', Inv X pins σ' H' s' ∧ D.nx σ' H') (E := X.xe) ?_ (fun _ s' q => wpAny_pure (wpAny_pure q)) fun _ _ e => e
 refine comp_core hc S hi hg ht he hs I h fun {a C fp s₃ s6 H₃ H5} eC I3 f3 I6 q => ?_
 subst eC
 obtain ⟨m6, hn6, _⟩ := I6.loc
 have hC0 : H5 s₃.heap.objs.size = none := I6.free
 have I7 : Inv X pins σ H5 s6 := blk_out (h' := s6.heap) I3 f3 I6 ⟨rfl, fun _ _ => rfl⟩
 have fC : FpOk X pins H5 s₃.heap.objs.size := I3.fpOk (Nat.le_refl _) hC0
 obtain ⟨oC, esC, epC, hoC, hdC, hkC, hmC⟩ := id hn6
 have I8 := I7.pinned (fp := [s₃.heap.objs.size]) (fun b hb => by
  have : b = s₃.heap.objs.size := by simpa using hb
  rw [this]
  exact fC) (fun b hb => by
  have : b = s₃.heap.objs.size := by simpa using hb
  rw [this]
  exact ⟨oC, hoC, fun v z => by rw [hdC] at z; cases z⟩)
 change wpAny (model X.prog X.w) X.A (assignAll (.ref a) [assign (Expr.Name y py) X.env]) _ X.xe s6
 rw [assignAll.eq_2]
 refine wpAny_assign_Name (store_ok I8 hN hi' hx (v := .ref a) rfl (fun s7 I9 => ?_) hf)
 have hC9 : s7.heap.get? s₃.heap.objs.size = some oC := (I9.pin (s₃.heap.objs.size, oC) (List.mem_append_right _ (List.mem_append_right _ (mem_pinsAt (by simp) hoC)))).1
 refine ⟨m6, ⟨oC, esC, epC, hC9, hdC, hkC, hmC⟩, fun h' hsb => ⟨_, H5, ?_, q⟩⟩
 exact I9.unpinned.turned (t' := s7.toks) (fun b o hb e => (hsb.2 b hb).trans e) fC.1 fC.2.1 fC.2.2.2.1 fC.2.2.2.2.1 fC.2.2.2.2.2
end
end L2
set_option Elab.async false
set_option linter.all false
set_option maxRecDepth 100000
set_option maxHeartbeats 4000000
namespace SW
open PySem L2 WM TS
structure Fns (K : PySem.W.Frag) (mg : Str → Option Value) : Prop where
 Wall : ∃ f fd, Df K mg "_wall" sWall ["k"] f fd
 CheckWalk : ∃ f fd, Df K mg "check_walk" sCheckWalk ["walk"] f fd
 IsNumber : ∃ f fd, Df K mg "is_number" sIsNumber ["value"] f fd
 CheckNumber : ∃ f fd, Df K mg "check_number" sCheckNumber ["number"] f fd
 IsClosed : ∃ f fd, Df K mg "is_closed" sIsClosed ["walk"] f fd
 CheckClosed : ∃ f fd, Df K mg "check_closed" sCheckClosed ["walk"] f fd
 Stepped : ∃ f fd, Df K mg "stepped" sStepped ["place", "step"] f fd
 Places : ∃ f fd, Df K mg "places" sPlaces ["walk"] f fd
 CountedPlaces : ∃ f fd, Df K mg "counted_places" sCountedPlaces ["walk"] f fd
 End : ∃ f fd, Df K mg "end" sEnd ["walk"] f fd
 Turned : ∃ f fd, Df K mg "turned" sTurned ["step", "quarters"] f fd
 TakenBack : ∃ f fd, Df K mg "taken_back" sTakenBack ["step"] f fd
 Quartered : ∃ f fd, Df K mg "quartered" sQuartered ["walk", "by"] f fd
 Mirrored : ∃ f fd, Df K mg "mirrored" sMirrored ["walk"] f fd
 Backwards : ∃ f fd, Df K mg "backwards" sBackwards ["walk"] f fd
 Begun : ∃ f fd, Df K mg "begun" sBegun ["walk", "by"] f fd
 UprightSteps : ∃ f fd, Df K mg "upright_steps" sUprightSteps ["walk"] f fd
 Area : ∃ f fd, Df K mg "area" sArea ["walk"] f fd
 Squares : ∃ f fd, Df K mg "squares" sSquares ["walk"] f fd
 Meets : ∃ f fd, Df K mg "meets" sMeets ["walk"] f fd
 CheckLoop : ∃ f fd, Df K mg "check_loop" sCheckLoop ["walk"] f fd
 Turns : ∃ f fd, Df K mg "turns" sTurns ["walk"] f fd
 Within : ∃ f fd, Df K mg "within" sWithin ["walk"] f fd
 LawRim : ∃ f fd, Df K mg "_law_rim" sLawRim ["_law_bars"] f fd
 LawBends : ∃ f fd, Df K mg "_law_bends" sLawBends ["_law_loop"] f fd
structure Bltn (mg : Str → Option Value) : Prop where
 sum : mg "sum" = none
 range : mg "range" = none
 len : mg "len" = none
 zip : mg "zip" = none
 reversed : mg "reversed" = none
 sorted : mg "sorted" = none
 list : mg "list" = none
 tuple : mg "tuple" = none
 enumerate : mg "enumerate" = none
 dict : mg "dict" = none
 min : mg "min" = none
section
variable {P : Program} {w : World} {K : PySem.W.Frag} {mg : Str → Option Value} {base : Heap}
abbrev NLaw : List Str := ["_law_script", "_law_bars", "_law_loop", "_law_whole", "_law_due", "_law_at", "_law_bar", "_law_inner", "_law_again", "_law_found", "_law_left", "_law_right", "_law_mixed", "_law_others", "_law_some", "_law_sign", "_law_one", "_law_other"]
theorem scLaw : FnScope NLaw ["_law_script"] (defScope sLaw) := ⟨rfl, rfl, rfl, by decide +kernel, rfl, by decide +kernel, by decide +kernel⟩
def spLaw (K : PySem.W.Frag) : Sp := fun vs H Q _ => ∃ (a : Addr) (ns : List Int), vs = [.ref a] ∧ SqL K H a (ns.map V.int) ∧ ns.length ≤ 63 ∧ ∀ H', Q (.bl true) H'
def barN (k : Int) : Nat := (1 + k % 5).toNat
def barV : V → V
 | .int k => .int (1 + k % 5)
 | _ => .non
theorem barN_int (k : Int) : (barN k : Int) = 1 + k % 5 := by
 unfold barN
 omega
theorem barN_le (k : Int) : 1 ≤ barN k ∧ barN k ≤ 5 := by
 have := barN_int k
 omega
theorem bars_map (ns : List Int) : (ns.map V.int).map barV = (ns.map barN).map fun (b : Nat) => V.int (b : Int) := by
 rw [List.map_map, List.map_map]
 refine List.map_congr_left fun k _ => ?_
 show V.int (1 + k % 5) = V.int (barN k : Int)
 rw [barN_int]
theorem cast_sum : ∀ bs : List Nat, (bs.map fun (b : Nat) => (b : Int)).sum = (bs.sum : Int)
 | [] => rfl
 | b :: r => by
  rw [List.map_cons, List.sum_cons, List.sum_cons, cast_sum r]
  omega
structure Own (K : PySem.W.Frag) (mg : Str → Option Value) : Prop where
 simple : ∃ Cs fI fS fd, ClT K mg "Simple" Cs fI fS ∧ PySem.W.kitOne K (.ref Cs) (.ref Cs) = some true ∧ NoAttr K Cs "places" ∧ Mf K "__init__" "Simple.__init__" sSimpleInit ["self", "places"] fI fd
 twice : ∃ Ct fI fS fd, ClT K mg "Twice" Ct fI fS ∧ NoAttr K Ct "first" ∧ NoAttr K Ct "second" ∧ Mf K "__init__" "Twice.__init__" sTwiceInit ["self", "first", "second"] fI fd
theorem cls_mk {h : Heap} {x : Str} {C fI fS : Addr} (X : K.In h) (G : h.Ns mainGlobals mg) (aC : PySem.W.nsIn K mainGlobals x = some (some (.ref C)))
  (pg : PySem.W.plainGet K C Str.empty = true) (hd : PySem.W.hasDictIn K C = true) (po : PySem.W.plainOver K C = true) (sa : PySem.W.findIn K (.ref C) "__setattr__" = some (some (.builtin "object.__setattr__"))) (mk : PySem.W.makesIn K C = true) (kc : PySem.W.keepIn K (.ref C) = true)
  (a1 : PySem.W.findIn K (.ref C) "__init__" = some (some (.ref fI))) (i1 : PySem.W.isFn K (.ref fI) = true)
  (a2 : PySem.W.findIn K (.ref C) "shows" = some (some (.ref fS))) (i2 : PySem.W.isFn K (.ref fS) = true) (k2 : PySem.W.keepIn K (.ref fS) = true)
  (ha : PySem.W.findIn K (.ref C) "__class__" = some (some (.builtin "object.__class__"))) (hn : PySem.W.specialIn K (.builtin "object.__class__") "__get__" = some (some (.builtin "getset_descriptor.__get__"))) (htk : PySem.W.takesIn K (.builtin "object.__class__") = some true) (hm : PySem.W.mroIn K C (.type "object") = some true) :
  ClT K mg x C fI fS := ⟨⟨pg, hd, po, sa⟩, PySem.W.mg_of X G aC, ⟨mk, a1, i1, kc⟩, ⟨a2, i2, k2⟩, ha, hn, htk, hm⟩
theorem kit_self (K : PySem.W.Frag) (a : Addr) : PySem.W.kitOne K (.ref a) (.ref a) = some true := by
 unfold PySem.W.kitOne
 rw [if_pos (show ((Value.ref a == Value.ref a) = true) from beq_self_eq_true _)]
theorem simple_mk {Cs fI fS : Addr} {od an : Option Addr} {sl : Array (Option Value)} {oc kV dc pm cd ct : Value} (c : ClT K mg "Simple" Cs fI fS)
  (n : PySem.W.findIn K (.ref Cs) "places" = some none)
  (l1 : K.lookup fI = some ⟨oc, od, .func (PySem.W.fnOf "__init__" "Simple.__init__" (defArgs sSimpleInit) (defBody sSimpleInit) (defScope sSimpleInit) .none kV dc pm an cd ct), sl⟩) (c1 : PySem.W.codeIn K cd "Simple.__init__" = true) (k1 : PySem.W.keepIn K (.ref fI) = true) :
  ∃ Cs fI fS fd, ClT K mg "Simple" Cs fI fS ∧ PySem.W.kitOne K (.ref Cs) (.ref Cs) = some true ∧ NoAttr K Cs "places" ∧ Mf K "__init__" "Simple.__init__" sSimpleInit ["self", "places"] fI fd := by
 have F := fun_mk (st := sSimpleInit) l1 c1 k1
 exact ⟨Cs, fI, fS, _, c, kit_self K Cs, n, F, F.binds (ps := ["self", "places"]) fun _ _ _ _ _ _ => L2.len2 (by intro _ _; exact rfl)⟩
theorem twice_mk {Ct fI fS : Addr} {od an : Option Addr} {sl : Array (Option Value)} {oc kV dc pm cd ct : Value} (c : ClT K mg "Twice" Ct fI fS)
  (n1 : PySem.W.findIn K (.ref Ct) "first" = some none) (n2 : PySem.W.findIn K (.ref Ct) "second" = some none)
  (l1 : K.lookup fI = some ⟨oc, od, .func (PySem.W.fnOf "__init__" "Twice.__init__" (defArgs sTwiceInit) (defBody sTwiceInit) (defScope sTwiceInit) .none kV dc pm an cd ct), sl⟩) (c1 : PySem.W.codeIn K cd "Twice.__init__" = true) (k1 : PySem.W.keepIn K (.ref fI) = true) :
  ∃ Ct fI fS fd, ClT K mg "Twice" Ct fI fS ∧ NoAttr K Ct "first" ∧ NoAttr K Ct "second" ∧ Mf K "__init__" "Twice.__init__" sTwiceInit ["self", "first", "second"] fI fd := by
 have F := fun_mk (st := sTwiceInit) l1 c1 k1
 exact ⟨Ct, fI, fS, _, c, n1, n2, F, F.binds (ps := ["self", "first", "second"]) fun _ _ _ _ _ _ => L2.len3 (by intro _ _ _; exact rfl)⟩
theorem nd_ne {α : Type} {l : List α} (h : l.Nodup) {i j : Nat} (h1 : i < j) (h2 : j < l.length) : ¬ l[i]? = l[j]? := fun e => by
 have := (List.getElem?_inj (by omega) h).mp e
 omega
theorem seqO {a b : TS} {D : Ends} {σ : L2.St} {H : Hp} (h : ∀ R : L2.St → Hp → Prop, (∀ σ' H', b D σ' H' → R σ' H') → a { D with nx := R } σ H) : tSeq a b D σ H := h (b D) fun _ _ q => q
theorem seqN {u : TS} {D : Ends} {σ : L2.St} {H : Hp} (h : u D σ H) : tSeq Ends.nx u D σ H := h
def S6a (a D : Addr) (l : List Nat) (z : Int) (d4 : Addr) (v5 v6 : Option V) : L2.St := [some (.ref a), some (.ref D), some (.str (T l)), some (.int z), some (.ref d4), v5, v6, none, none, none, none, none, none, none, none, none, none, none]
def S6b (a D : Addr) (l : List Nat) (z : Int) (d4 : Addr) (v5 v6 : Option V) (d6 : Addr) : L2.St := [some (.ref a), some (.ref D), some (.str (T l)), some (.int z), some (.ref d4), v5, v6, some (.ref d6), none, none, none, none, none, none, none, none, none, none]
def S6c (a D : Addr) (l : List Nat) (z : Int) (d4 : Addr) (v5 v6 : Option V) (d6 : Addr) (v8 v9 : Option V) : L2.St := [some (.ref a), some (.ref D), some (.str (T l)), some (.int z), some (.ref d4), v5, v6, some (.ref d6), v8, v9, none, none, none, none, none, none, none, none]
def S6d (a D : Addr) (l : List Nat) (z : Int) (d4 : Addr) (v5 v6 : Option V) (d6 : Addr) (v8 v9 : Option V) (x y mx : Int) (u : Addr) (v14 v15 v16 v17 : Option V) : L2.St := [some (.ref a), some (.ref D), some (.str (T l)), some (.int z), some (.ref d4), v5, v6, some (.ref d6), v8, v9, some (.int x), some (.int y), some (.int mx), some (.ref u), v14, v15, v16, v17]
theorem ok_law {f : Addr} {fd : FuncData} (F : Df K mg "law" sLaw ["_law_script"] f fd) (X : Txt K mg) (B : Bltn mg) {Cs Ct fSI fSS : Addr} (S : ClT K mg "Simple" Cs fSI fSS) (kSS : PySem.W.kitOne K (.ref Cs) (.ref Cs) = some true)
  {f1 f2 f3 f4 f5 f6 f7 f8 f9 f10 f11 : Addr} {d1 d2 d3 d4 d5 d6 d7 d8 d9 d10 d11 : FuncData}
  (LR : Df K mg "_law_rim" sLawRim ["_law_bars"] f1 d1) (GR : FnOk P w K mg base CX0 1 f1 d1 ["_law_bars"] (spLawRim K))
  (LB : Df K mg "_law_bends" sLawBends ["_law_loop"] f2 d2) (GBn : FnOk P w K mg base CX0 1 f2 d2 ["_law_loop"] spLawBends)
  (Sq : Df K mg "squares" sSquares ["walk"] f3 d3) (GSq : FnOk P w K mg base CX0 5 f3 d3 ["walk"] spSquares)
  (Ar : Df K mg "area" sArea ["walk"] f4 d4) (GA : FnOk P w K mg base CX0 5 f4 d4 ["walk"] spArea)
  (Mt : Df K mg "meets" sMeets ["walk"] f5 d5) (GMt : FnOk P w K mg base CX0 4 f5 d5 ["walk"] (spMeets Cs Ct))
  (Wi : Df K mg "within" sWithin ["walk"] f6 d6) (GWi : FnOk P w K mg base CX0 6 f6 d6 ["walk"] spWithin)
  (Tu : Df K mg "turns" sTurns ["walk"] f7 d7) (GTu : FnOk P w K mg base CX0 6 f7 d7 ["walk"] spTurns)
  (Qu : Df K mg "quartered" sQuartered ["walk", "by"] f8 d8) (GQ : FnOk P w K mg base CX0 3 f8 d8 ["walk", "by"] spQuartered)
  (Mi : Df K mg "mirrored" sMirrored ["walk"] f9 d9) (GM : FnOk P w K mg base CX0 2 f9 d9 ["walk"] spMirrored)
  (Ba : Df K mg "backwards" sBackwards ["walk"] f10 d10) (GB : FnOk P w K mg base CX0 3 f10 d10 ["walk"] spBackwards)
  (Be : Df K mg "begun" sBegun ["walk", "by"] f11 d11) (GBg : FnOk P w K mg base CX0 5 f11 d11 ["walk", "by"] spBegun) : FnOk P w K mg base CX0 10 f fd ["_law_script"] (spLaw K) := by
 refine F.fn.ok scLaw (fun vs H Q E h => ?_) (fun cdv A outer s H vs Q E hr h => ?_)
 ·obtain ⟨a, ns, rfl, _⟩ := h
  rfl
 ·obtain ⟨a, ns, rfl, hS, hz, k⟩ := h
  have esz : sizeLine = 16777216 := PySem.sizeLine_eq
  have hr1 : Room 1 _ := hr.mono (by decide)
  have hrS : Room 5 _ := hr.mono (by decide)
  have hrA : Room 5 _ := hr.mono (by decide)
  have hrT : Room 4 _ := hr.mono (by decide)
  have hrW : Room 6 _ := hr.mono (by decide)
  have hrU : Room 6 _ := hr.mono (by decide)
  have hrQ : Room 3 _ := hr.mono (by decide)
  have hrM : Room 2 _ := hr.mono (by decide)
  have hrB : Room 3 _ := hr.mono (by decide)
  have hrG : Room 5 _ := hr.mono (by decide)
  refine lX ?_
  extract_lets
  refine ⟨_, (pss_consL (ps_setC (i := 1) scLaw.nd rfl (Or.inl rfl) (M := [("_law_cell" : Str)]) rfl (compSc_of NLaw (defScope sLaw) rfl rfl (by decide +kernel)) (pi_list (pv 0)) (fun _ _ _ _ => (pg_name (i := 18) (nd_of (NLaw ++ [("_law_cell" : Str)]) rfl (by decide +kernel)) rfl (Or.inl rfl))) (fun _ _ _ _ => pts_nil)
     (fun _ _ _ _ => (pe_op op_add pe_int (pe_op op_mod (pv 18) pe_int))))
   (pss_consL (ps_if (pt_cmpR (op_eqD hr.units) (pv 1) (pe_lst pa_nil) (nomark _)) (pss_one (ps_ret pe_bl)) pss_nil)
   (pss_consL (ps_set (i := 2) scLaw.nd rfl (Or.inl rfl) (pe_call GR hr1 rfl LR.at_ LR.fn.kp LR.bi .nil pass0 (pa_cons (pv 1) pa_nil)))
   (pss_consL (ps_set (i := 3) scLaw.nd rfl (Or.inl rfl) (pe_callB (call_sum rfl) rfl B.sum PyProof.Rows.boot_sum (pa_cons (pv 1) pa_nil)))
   (pss_consL (ps_set (i := 4) scLaw.nd rfl (Or.inl rfl) (pe_lst pa_nil))
   (pss_consL (ps_for PassesOwn.never rfl (pi_enumL rfl B.enumerate (pa_cons (pv 1) pa_nil)) (pg_tup (n := 2) rfl (pgs_cons (pg_name (i := 5) scLaw.nd rfl (Or.inr rfl)) (pgs_cons (pg_name (i := 6) scLaw.nd rfl (Or.inl rfl)) pgs_nil)))
    (pss_one (ps_expr (pe_bm PySem.F.plainAttrs_list PySem.F.slot_list_extend PySem.F.type_list_extend mt_extend (pv 4) (pa_cons (pe_comp (M := [("_law_up" : Str)]) rfl (compSc_of NLaw (defScope sLaw) rfl rfl (by decide +kernel)) (pi_range1 rfl B.range (pa_cons (pv 6) pa_nil)) (fun _ _ _ _ => (pg_name (i := 18) (nd_of (NLaw ++ [("_law_up" : Str)]) rfl (by decide +kernel)) rfl (Or.inl rfl))) (fun _ _ _ _ => pts_nil)
     (fun _ _ _ _ => (pe_tup (pa_cons (pe_tup (pa_cons (pv 5) (pa_cons (pv 18) pa_nil))) (pa_cons pe_int pa_nil))))) pa_nil)))))
   (pss_consL (ps_set (i := 7) scLaw.nd rfl (Or.inl rfl) (pe_lst pa_nil))
   (pss_consL (ps_for PassesOwn.never rfl (pi_range2 rfl B.range (pa_cons pe_int (pa_cons (pe_callB call_len_seq rfl B.len PySem.boot_len (pa_cons (pv 1) pa_nil)) pa_nil))) (pg_name (i := 5) scLaw.nd rfl (Or.inr rfl))
    (pss_one (ps_expr (pe_bm PySem.F.plainAttrs_list PySem.F.slot_list_extend PySem.F.type_list_extend mt_extend (pv 7) (pa_cons (pe_comp (M := [("_law_up" : Str)]) rfl (compSc_of NLaw (defScope sLaw) rfl rfl (by decide +kernel)) (pi_range2 rfl B.range (pa_cons pe_int (pa_cons (pe_callB (call_min2 rfl) rfl B.min PyProof.Rows.boot_min (pa_cons (pe_ix ix_list (pv 1) (pe_op op_sub (pv 5) pe_int) (fun _ _ => rfl)) (pa_cons (pe_ix ix_list (pv 1) (pv 5) (fun _ _ => rfl)) pa_nil))) pa_nil))) (fun _ _ _ _ => (pg_name (i := 18) (nd_of (NLaw ++ [("_law_up" : Str)]) rfl (by decide +kernel)) rfl (Or.inl rfl))) (fun _ _ _ _ => pts_nil)
     (fun _ _ _ _ => (pe_tup (pa_cons (pv 5) (pa_cons (pv 18) pa_nil))))) pa_nil)))))
   (pss_consL (ps_for PassesOwn.never rfl (pi_range1 rfl B.range (pa_cons pe_int pa_nil)) (pg_name (i := 8) scLaw.nd rfl (Or.inl rfl))
    (pss_consL (ps_if (PW.pt (pw_or (pt_cmpR (op_neD hr.units) (pe_call GSq hrS rfl Sq.at_ Sq.fn.kp Sq.bi .nil pass0 (pa_cons (pv 2) pa_nil)) (pv 4) (nomark _))
     (pw_or (pt_cmpR op_ne (pe_call GA hrA rfl Ar.at_ Ar.fn.kp Ar.bi .nil pass0 (pa_cons (pv 2) pa_nil)) (pv 3) (nomark _))
     (pw_or1 (pt_not (pt_val (pe_callB call_isC rfl X.isi PyProof.Rows.boot_isinstance (pa_cons (pe_call GMt hrT rfl Mt.at_ Mt.fn.kp Mt.bi .nil pass0 (pa_cons (pv 2) pa_nil)) (pa_cons (pe_glob rfl S.at_ (v := .ref Cs) rfl) pa_nil))))))))) pss_never pss_nil)
    (pss_consL (ps_set (i := 9) scLaw.nd rfl (Or.inl rfl) (pe_call GWi hrW rfl Wi.at_ Wi.fn.kp Wi.bi .nil pass0 (pa_cons (pv 2) pa_nil)))
    (pss_consL (ps_if (PW.pt (pw_or (pt_not (pt_val (pe_callB call_isT rfl X.isi PyProof.Rows.boot_isinstance (pa_cons (pv 9) (pa_cons (pe_bltn rfl B.list PyProof.Rows.boot_list (v := .ty "list") rfl) pa_nil)))))
     (pw_or (pt_cmpR (op_neD hr.units) (pv 9) (pv 7) (nomark _))
     (pw_or1 (pt_cmpR op_ne (pe_op op_mul pe_int (pe_op op_add (pe_op op_sub (pv 3) (pe_callB call_len_seq rfl B.len PySem.boot_len (pa_cons (pv 7) pa_nil))) pe_int)) (pe_callB call_len_str rfl B.len PySem.boot_len (pa_cons (pv 2) pa_nil)) (nomark _)))))) pss_never pss_nil)
    (pss_one (ps_expr (pe_bm PySem.F.plainAttrs_list PySem.F.slot_list_append PySem.F.type_list_append mt_append (pv 9) (pa_cons (pe_tup (pa_cons pe_int (pa_cons pe_int pa_nil))) pa_nil))))))))
   (pss_consL (ps_asg (pe_call GTu hrU rfl Tu.at_ Tu.fn.kp Tu.bi .nil pass0 (pa_cons (pv 2) pa_nil)) (pg_tup (n := 2) rfl (pgs_cons (pg_name (i := 10) scLaw.nd rfl (Or.inl rfl)) (pgs_cons (pg_name (i := 11) scLaw.nd rfl (Or.inl rfl)) pgs_nil))))
   (pss_consL (ps_if (PW.pt (pw_or (pt_cmpR op_ne (pe_op op_sub (pv 10) (pv 11)) pe_int (nomark _))
     (pw_or (pt_not (pt_val (pe_callB call_isT rfl X.isi PyProof.Rows.boot_isinstance (pa_cons (pe_call GTu hrU rfl Tu.at_ Tu.fn.kp Tu.bi .nil pass0 (pa_cons (pv 2) pa_nil)) (pa_cons (pe_bltn rfl B.tuple PyProof.Rows.boot_tuple (v := .ty "tuple") rfl) pa_nil)))))
     (pw_or1 (pt_cmpR op_ne (pe_op op_add (pv 10) (pv 11)) (pe_call GBn hr1 rfl LB.at_ LB.fn.kp LB.bi .nil pass0 (pa_cons (pv 2) pa_nil)) (nomark _)))))) pss_never pss_nil)
   (pss_consL (ps_set (i := 12) scLaw.nd rfl (Or.inl rfl) (pe_callB (call_sum rfl) rfl B.sum PyProof.Rows.boot_sum (pa_cons (pv 0) pa_nil)))
   (pss_consL (ps_set (i := 13) scLaw.nd rfl (Or.inl rfl) (pe_lst (pa_cons (pe_tup (pa_cons (pe_call GBg hrG rfl Be.at_ Be.fn.kp Be.bi .nil pass0 (pa_cons (pv 2) (pa_cons (pv 12) pa_nil))) (pa_cons pe_int pa_nil))) (pa_cons (pe_tup (pa_cons (pe_call GM hrM rfl Mi.at_ Mi.fn.kp Mi.bi .nil pass0 (pa_cons (pv 2) pa_nil)) (pa_cons (pe_un un_neg pe_int) pa_nil))) (pa_cons (pe_tup (pa_cons (pe_call GB hrB rfl Ba.at_ Ba.fn.kp Ba.bi .nil pass0 (pa_cons (pv 2) pa_nil)) (pa_cons (pe_un un_neg pe_int) pa_nil))) (pa_cons (pe_tup (pa_cons (pe_call GQ hrQ rfl Qu.at_ Qu.fn.kp Qu.bi .nil pass0 (pa_cons (pv 2) (pa_cons (pe_op op_fdiv (pv 12) pe_int) pa_nil))) (pa_cons pe_int pa_nil))) pa_nil))))))
   (pss_consL (ps_for PassesOwn.never rfl (pi_list (pe_lst (pa_cons (pe_ix ix_list (pv 13) (pe_op op_mod (pv 12) pe_int) (fun _ _ => rfl)) pa_nil))) (pg_tup (n := 2) rfl (pgs_cons (pg_name (i := 14) scLaw.nd rfl (Or.inl rfl)) (pgs_cons (pg_name (i := 15) scLaw.nd rfl (Or.inl rfl)) pgs_nil)))
    (pss_consL (ps_asg (pe_call GTu hrU rfl Tu.at_ Tu.fn.kp Tu.bi .nil pass0 (pa_cons (pv 14) pa_nil)) (pg_tup (n := 2) rfl (pgs_cons (pg_name (i := 16) scLaw.nd rfl (Or.inl rfl)) (pgs_cons (pg_name (i := 17) scLaw.nd rfl (Or.inl rfl)) pgs_nil))))
    (pss_consL (ps_if (PW.pt (pw_or (pt_cmpR op_ne (pe_op op_sub (pv 16) (pv 17)) (pe_op op_mul pe_int (pv 15)) (nomark _))
     (pw_or (pt_cmpR op_ne (pe_op op_add (pv 16) (pv 17)) (pe_op op_add (pv 10) (pv 11)) (nomark _))
     (pw_or1 (pt_cmpR op_ne (pe_callB call_len_seq rfl B.len PySem.boot_len (pa_cons (pe_call GWi hrW rfl Wi.at_ Wi.fn.kp Wi.bi .nil pass0 (pa_cons (pv 14) pa_nil)) pa_nil)) (pe_callB call_len_seq rfl B.len PySem.boot_len (pa_cons (pv 7) pa_nil)) (nomark _)))))) pss_never pss_nil)
    (pss_one (ps_if (PW.pt (pw_or (pt_cmpR op_ne (pe_call GA hrA rfl Ar.at_ Ar.fn.kp Ar.bi .nil pass0 (pa_cons (pv 14) pa_nil)) (pe_op op_mul (pv 15) (pv 3)) (nomark _))
     (pw_or1 (pt_not (pt_val (pe_callB call_isC rfl X.isi PyProof.Rows.boot_isinstance (pa_cons (pe_call GMt hrT rfl Mt.at_ Mt.fn.kp Mt.bi .nil pass0 (pa_cons (pv 14) pa_nil)) (pa_cons (pe_glob rfl S.at_ (v := .ref Cs) rfl) pa_nil)))))))) pss_never pss_nil)))))
   (pss_one (ps_ret (pe_cmpR (op_eqD hr.units) (pe_call GWi hrW rfl Wi.at_ Wi.fn.kp Wi.bi .nil pass0 (pa_cons (pe_call GM hrM rfl Mi.at_ Mi.fn.kp Mi.bi .nil pass0 (pa_cons (pv 2) pa_nil)) pa_nil)) (pe_callB call_sortedPt rfl B.sorted PyProof.Rows.boot_sorted (pa_cons (pe_comp (M := ["_law_x", "_law_y"]) rfl (compSc_of NLaw (defScope sLaw) rfl rfl (by decide +kernel)) (pi_list (pv 7)) (fun _ _ _ _ => (pg_tup (n := 2) rfl (pgs_cons (pg_name (i := 18) (nd_of (NLaw ++ [("_law_x" : Str), "_law_y"]) rfl (by decide +kernel)) rfl (Or.inl rfl)) (pgs_cons (pg_name (i := 19) (nd_of (NLaw ++ [("_law_x" : Str), "_law_y"]) rfl (by decide +kernel)) rfl (Or.inl rfl)) pgs_nil)))) (fun _ _ _ _ => pts_nil)
     (fun _ _ _ _ => (pe_tup (pa_cons (pe_un un_neg (pv 18)) (pa_cons (pv 19) pa_nil))))) pa_nil)) (nomark _)))))))))))))))))), ?_⟩
  lift_lets
  extract_lets
  refine ⟨_, rfl, a, rfl, ⟨_, hS⟩, ?_⟩
  refine comp_list (K := K) (a := a) (xs := ns.map V.int) barV ?_ (by rw [List.length_map]; omega) hS (fun _ _ _ _ i x hx H3 R s3 kk => ?_) (fun D H1 hD s1 hDl => ?_)
  ·rfl
  ·obtain ⟨z, rfl⟩ : ∃ z, x = V.int z := by
    rw [List.getElem?_map] at hx
    cases e : ns[i]? with
    | none => rw [e] at hx; cases hx
    | some z => rw [e] at hx; exact ⟨z, (Option.some.inj hx).symm⟩
   exact ⟨_, rfl, _, _, rfl, rfl, (by show (0 : Int) < 5; decide), _, _, rfl, rfl, kk H3 (Same.refl _)⟩
  rw [bars_map] at hDl
  have hnl : (ns.map barN).length = ns.length := List.length_map ..
  have hn5 : ∀ b ∈ ns.map barN, 1 ≤ b ∧ b ≤ 5 := fun b hb => by
   obtain ⟨z, _, rfl⟩ := List.mem_map.mp hb
   exact barN_le z
  have hnil : ns.map barN = [] ↔ ns = [] := List.map_eq_nil_iff
  generalize ns.map barN = nb at *
  revert nb
  refine keepG ?_
  set_option tactic.hygienic false in intros
  have hbi : (nb.map fun (b : Nat) => V.int (b : Int)) = (nb.map fun (b : Nat) => (b : Int)).map V.int := by rw [List.map_map]; rfl
  refine ⟨_, rfl, (by show 0 ≤ sizeLine; omega), fun e2 he2 => ?_⟩
  have s2 := same_new (o := .lst []) he2
  have h2 : upd H1 e2 (.lst []) e2 = some (.lst []) := upd_same
  generalize upd H1 e2 (.lst []) = H2 at *
  revert H2
  refine keepG ?_
  set_option tactic.hygienic false in intros
  have hD2 := s2 _ _ hDl
  refine ⟨.list ((nb.map fun (b : Nat) => (b : Int)).map intD), .list [], .lst (SqL.of (by rw [hD2, hbi])) (dats_int _), .lst (SqL.of h2) .nil, shaped_int _, rfl, _, rfl, ?_⟩
  rw [eqv_int0]
  refine ite2 (fun h => ?_) (fun h => ?_)
  ·exact k H2
  have hne : nb ≠ [] := fun z => h (decide_eq_true (by rw [z]; rfl))
  have hrev : nb.reverse.reverse = nb := List.reverse_reverse nb
  have hrne : nb.reverse ≠ [] := fun z => hne (List.reverse_eq_nil_iff.mp z)
  have h5' : ∀ b ∈ nb.reverse, 1 ≤ b ∧ b ≤ 5 := fun b hb => hn5 b (List.mem_reverse.mp hb)
  have hrl := rim_le hrne h5'
  rw [List.length_reverse] at hrl
  refine ⟨_, rfl, D, nb.reverse, rfl, SqL.of (by rw [hrev]; exact hD2), hrne, (by rw [List.length_reverse]; omega), h5', fun H3 s3 => ?_⟩
  have G := good_rim hne (fun b hb => (hn5 b hb).1) (by omega)
  have h4l : 4 ≤ (rimB nb.reverse).length := by
   unfold rimB
   rw [List.length_append, List.length_append, List.length_replicate, List.length_replicate]
   cases hr : nb.reverse with
   | nil => exact absurd hr hrne
   | cons b r =>
    have hb1 : 1 ≤ b := (h5' b (by rw [hr]; exact List.mem_cons_self)).1
    have : 2 ≤ (tops (b :: r)).length := by
     show 2 ≤ (119 :: (vert b (r.headD 0) ++ tops r)).length
     rw [List.length_cons, List.length_append]
     cases r with
     | nil =>
      show 2 ≤ (vert b 0).length + 0 + 1
      rw [vert_length, if_neg (by omega)]
      omega
     | cons c r =>
      show 2 ≤ (vert b c).length + (119 :: (vert c (r.headD 0) ++ tops r)).length + 1
      rw [List.length_cons]
      omega
    show 4 ≤ (b :: r).length + (b + (tops (b :: r)).length)
    rw [List.length_cons]
    omega
  have hin := rim_length (rb := nb.reverse) (fun b hb => (h5' b hb).1) hrne
  rw [innC_reverse, ← innL_length, List.sum_reverse] at hin
  generalize hl : rimB nb.reverse = l at *
  revert l
  refine keepG ?_
  set_option tactic.hygienic false in intros
  have hD3 := s3 _ _ hD2
  refine ⟨_, rfl, D, _, rfl, SqL.of (by rw [hD3, hbi]), ?_⟩
  rw [cast_sum]
  refine ⟨(by show 0 ≤ sizeLine; omega), fun d4 hd4 => ?_⟩
  have s4 := same_new (o := .lst []) hd4
  have h4 : upd H3 d4 (.lst []) d4 = some (.lst []) := upd_same
  first | change Ends.nx _ _ (upd H3 d4 (.lst [])) | change tSeq _ _ _ _ (upd H3 d4 (.lst []))
  generalize upd H3 d4 (.lst []) = H4 at *
  revert H4
  refine keepG ?_
  set_option tactic.hygienic false in intros
  have hD4 := s4 _ _ hD3
  have hDd4 : D ≠ d4 := ne_of_none hD3 hd4
  have hbar : ∀ {i : Nat}, i < nb.length → (nb.map fun (b : Nat) => V.int (b : Int))[i]? = some (.int ((nb.getD i 0 : Nat) : Int)) := fun {i} hi => by
   rw [List.getElem?_map, List.getElem?_eq_getElem hi, List.getD_eq_getElem?_getD, List.getElem?_eq_getElem hi]
   rfl
  have hg5 : ∀ i, nb.getD i 0 ≤ 5 := fun i => by
   rw [List.getD_eq_getElem?_getD]
   cases e : nb[i]? with
   | none => exact Nat.zero_le _
   | some b => exact (hn5 b (List.mem_of_getElem? e)).2
  have hnl63 : nb.length ≤ 63 := by omega
  try refine seqN ?_
  refine seqO fun R1 hR1 => ?_
  refine ⟨_, rfl, D, rfl, ⟨_, SqL.of hD4⟩, ?_⟩
  refine for_enumL (K := K) (a := D) (xs := nb.map fun (b : Nat) => V.int (b : Int)) (fun i σ H' => ∃ (as : List Addr) (v5 v6 : Option V), σ = S6a a D l (nb.sum : Int) d4 v5 v6 ∧ (∀ b o, b ≠ d4 → H4 b = some o → H' b = some o) ∧ H' d4 = some (.lst (as.map V.ref)) ∧ SqsAt H' as ((List.range i).flatMap fun i => (List.range (nb.getD i 0)).map fun (u : Nat) => (((i : Int), (u : Int)), (1 : Int)))) ?_ ?_ ?_ ?_
  ·exact ⟨[], none, none, rfl, fun b o _ e => e, h4, .nil⟩
  ·intro i σ H' hi hI_
   refine gate' fun gG hgG => ?_
   obtain ⟨as, v5, v6, rfl, kp, hd', hsq⟩ := hI_
   refine hgG.go ?_
   clear hgG
   exact SqL.of (kp _ _ hDd4 hD4)
  ·intro i v σ H' b hv hI_ hb
   refine gate' fun gG hgG => ?_
   obtain ⟨as, v5, v6, rfl, kp, hd', hsq⟩ := hI_
   refine hgG.go ?_
   clear hgG
   generalize hE1 : Ends.mk _ _ _ _ = E1
   revert E1
   refine keepG ?_
   set_option tactic.hygienic false in intros
   have hil : i < nb.length := by
    have := (List.getElem?_eq_some_iff.mp hv).1
    rw [List.length_map] at this
    exact this
   rw [hbar hil] at hv
   cases hv
   have sb : Same H' (upd H' b (.tup [.int (i : Int), .int ((nb.getD i 0 : Nat) : Int)])) := same_new hb
   have tb : upd H' b (.tup [.int (i : Int), .int ((nb.getD i 0 : Nat) : Int)]) b = some (.tup [.int (i : Int), .int ((nb.getD i 0 : Nat) : Int)]) := upd_same
   change gTup _ _ _ _ _ (upd H' b (.tup [.int (i : Int), .int ((nb.getD i 0 : Nat) : Int)])) _
   generalize upd H' b (.tup [.int (i : Int), .int ((nb.getD i 0 : Nat) : Int)]) = H5 at *
   revert H5
   refine keepG ?_
   set_option tactic.hygienic false in intros
   refine ⟨b, _, rfl, SqT.of tb, rfl, _, _, rfl, _, _, rfl, rfl, ?_⟩
   have hd5 := sb _ _ hd'
   have hsq5 := SqsAt.mono hsq sb.tup
   have hal : as.length ≤ 315 := by
    have e := Paired.length hsq
    rw [e, List.length_flatMap]
    have : ∀ n, ((List.range n).map fun i => ((List.range (nb.getD i 0)).map fun (u : Nat) => (((i : Int), (u : Int)), (1 : Int))).length).sum ≤ 5 * n := by
     intro n
     induction n with
     | zero => simp
     | succ n ih =>
      rw [List.range_succ, List.map_append, List.sum_append, List.map_cons, List.map_nil, List.sum_cons, List.sum_nil, List.length_map, List.length_range]
      have := hg5 n
      omega
    have := this i
    omega
   have hgi := hg5 i
   refine ⟨_, rfl, .inl ⟨rfl, _, SqL.of hd5⟩, _, rfl, _, rfl, by omega, by omega, ?_⟩
   rw [Int.toNat_natCast]
   refine comp_relR (lo := 0) (m := nb.getD i 0) (fun x => [some x]) (fun _ => rfl) (by omega) (fun _ _ _ _ j hj H7 R s7 kk => kk) (fun j y H7 => ∃ a, y = .ref a ∧ SqP H7 a (((i : Int), (j : Int)), 1)) (fun j y H7 H8 ⟨a, e, hq⟩ ts' => ⟨a, e, hq.mono ts'⟩) (fun _ _ _ _ j hj H7 R s7 kk => ?_) (fun D7 ys H7 hD7 s7 hDl7 hyl hy => ?_)
   ·have ez : (0 : Int) + (j : Int) = (j : Int) := Int.zero_add _
    rw [ez]
    refine ⟨_, rfl, _, rfl, two_le, fun c1 hc1 => ?_⟩
    have sc := same_new (o := .tup [.int (i : Int), .int (j : Int)]) hc1
    have tc : upd H7 c1 (.tup [.int (i : Int), .int (j : Int)]) c1 = some (.tup [.int (i : Int), .int (j : Int)]) := upd_same
    refine ⟨two_le, fun c2 hc2 => ?_⟩
    change upd H7 c1 (.tup [.int (i : Int), .int (j : Int)]) c2 = none at hc2
    change R _ (upd (upd H7 c1 (.tup [.int (i : Int), .int (j : Int)])) c2 (.tup [.ref c1, .int 1]))
    generalize upd H7 c1 (.tup [.int (i : Int), .int (j : Int)]) = H8 at *
    revert H8
    refine keepG ?_
    set_option tactic.hygienic false in intros
    have sc2 := same_new (o := .tup [.ref c1, .int 1]) hc2
    exact kk _ _ (sc.trans sc2) ⟨c2, rfl, c1, upd_same, sc2 _ _ tc⟩
   ·obtain ⟨cs, rfl, hcs⟩ := paired_of ys (fun (u : Nat) => (((i : Int), (u : Int)), (1 : Int))) hy
    rw [hyl] at hcs
    have hd7 := s7 _ _ hd5
    have hcl : cs.length ≤ 5 := by
     rw [List.length_map] at hyl
     omega
    refine ⟨d4, D7, as.map V.ref, cs.map V.ref, rfl, rfl, hd7, hDl7, ?_, ?_⟩
    ·rw [List.length_map, List.length_map]
     omega
    have tl : TSame H7 (upd H7 d4 (.lst (as.map V.ref ++ cs.map V.ref))) := tsame_lst hd7
    subst hE1
    refine ⟨as ++ cs, _, _, rfl, fun x o hx h1 => ?_, ?_, ?_⟩
    ·rw [upd_ne hx]
     exact s7 _ _ (sb _ _ (kp _ _ hx h1))
    ·rw [upd_same, List.map_append]
    ·rw [List.range_succ, List.flatMap_append, List.flatMap_cons, List.flatMap_nil, List.append_nil]
     exact paired_app ((hsq5.mono s7.tup).mono tl) (SqsAt.mono hcs tl)
  ·intro σ H5 hI_
   refine gate' fun gG hgG => ?_
   obtain ⟨as, v5, v6, rfl, kp, hd5, hsq5⟩ := hI_
   refine hgG.go ?_
   clear hgG
   refine hR1 _ _ ?_
   clear hR1
   rw [List.length_map] at hsq5
   change SqsAt H5 as (dueL nb) at hsq5
   have hD5 := kp _ _ hDd4 hD4
   have s35 : Same H3 H5 := fun b o e => kp b o (ne_of_none e hd4) (s4 _ _ e)
   refine ⟨(by show 0 ≤ sizeLine; omega), fun d6 hd6 => ?_⟩
   have s6 := same_new (o := .lst []) hd6
   have h6 : upd H5 d6 (.lst []) d6 = some (.lst []) := upd_same
   first | change Ends.nx _ _ (upd H5 d6 (.lst [])) | change tSeq _ _ _ _ (upd H5 d6 (.lst []))
   generalize upd H5 d6 (.lst []) = H6 at *
   revert H6
   refine keepG ?_
   set_option tactic.hygienic false in intros
   have hD6 := s6 _ _ hD5
   have hDd6 : D ≠ d6 := ne_of_none hD5 hd6
   try refine seqN ?_
   refine seqO fun R2 hR2 => ?_
   refine ⟨_, rfl, D, _, rfl, .inl (SqL.of hD6), 1, _, rfl, ?_, ?_⟩
   ·rw [List.length_map]
    exact ⟨by omega, by omega, by omega, by omega⟩
   rw [List.length_map]
   have erng : ((nb.length : Int) - 1).toNat = nb.length - 1 := by omega
   rw [erng]
   have hmin : ∀ i j : Nat, (if (j : Int) < (i : Int) then (j : Int) else (i : Int)) = ((min i j : Nat) : Int) := fun i j => by
    by_cases h : (j : Int) < (i : Int)
    ·rw [if_pos h]; omega
    ·rw [if_neg h]; omega
   refine for_range (lo := 1) (n := nb.length - 1) (fun i σ H' => ∃ (bs : List Addr) (v5 : Option V), σ = S6b a D l (nb.sum : Int) d4 v5 v6 d6 ∧ (∀ b o, b ≠ d6 → H6 b = some o → H' b = some o) ∧ H' d6 = some (.lst (bs.map V.ref)) ∧ Tups H' bs ((List.range i).flatMap fun i => (List.range (min (nb.getD i 0) (nb.getD (i + 1) 0) - 1)).map fun (u : Nat) => (1 + (i : Int), 1 + (u : Int)))) ?_ ?_ ?_
   ·exact ⟨[], v5, rfl, fun b o _ e => e, h6, .nil⟩
   ·rintro i σ H' hi ⟨bs, v5, rfl, kp6, hd', htu⟩
    generalize hE1 : Ends.mk _ _ _ _ = E1
    revert E1
    refine keepG ?_
    set_option tactic.hygienic false in intros
    have hD' := kp6 _ _ hDd6 hD6
    have hbl : bs.length ≤ 315 := by
     have e := Paired.length htu
     rw [e, List.length_flatMap]
     have : ∀ n, ((List.range n).map fun i => ((List.range (min (nb.getD i 0) (nb.getD (i + 1) 0) - 1)).map fun (u : Nat) => (1 + (i : Int), 1 + (u : Int))).length).sum ≤ 5 * n := by
      intro n
      induction n with
      | zero => simp
      | succ n ih =>
       rw [List.range_succ, List.map_append, List.sum_append, List.map_cons, List.map_nil, List.sum_cons, List.sum_nil, List.length_map, List.length_range]
       have := hg5 n
       omega
     have := this i
     omega
    have hg1 := hg5 i
    have hg2 := hg5 (i + 1)
    have a1 : atI (nb.map fun (b : Nat) => V.int (b : Int)) (1 + (i : Int) - 1) = some (.int ((nb.getD i 0 : Nat) : Int)) := by
     rw [show 1 + (i : Int) - 1 = (i : Int) by omega]
     exact atI_nat (hbar (by omega))
    have a2 : atI (nb.map fun (b : Nat) => V.int (b : Int)) (1 + (i : Int)) = some (.int ((nb.getD (i + 1) 0 : Nat) : Int)) := by
     rw [show 1 + (i : Int) = ((i + 1 : Nat) : Int) by omega]
     exact atI_nat (hbar (by omega))
    refine ⟨_, rfl, .inl ⟨rfl, _, SqL.of hd'⟩, _, rfl, _, rfl, _, _, rfl, rfl, D, _, _, _, rfl, rfl, SqL.of hD', a1, _, rfl, _, rfl, D, _, _, _, rfl, rfl, SqL.of hD', a2, ?_⟩
    refine ⟨_, _, rfl, ?_⟩
    rw [hmin]
    have hmn : min (nb.getD i 0) (nb.getD (i + 1) 0) ≤ 5 := Nat.le_trans (Nat.min_le_left _ _) hg1
    refine ⟨1, _, rfl, ⟨by omega, by omega, by omega, by omega⟩, ?_⟩
    have erg : ((((min (nb.getD i 0) (nb.getD (i + 1) 0) : Nat) : Int)) - 1).toNat = min (nb.getD i 0) (nb.getD (i + 1) 0) - 1 := by omega
    rw [erg]
    refine comp_relR (lo := 1) (m := min (nb.getD i 0) (nb.getD (i + 1) 0) - 1) (fun x => [some x]) (fun _ => rfl) (by omega) (fun _ _ _ _ j hj H7 R s7 kk => kk) (fun j y H7 => ∃ a, y = .ref a ∧ H7 a = some (.tup [.int (1 + (i : Int)), .int (1 + (j : Int))])) (fun j y H7 H8 ⟨a, e, hq⟩ ts' => ⟨a, e, ts' _ _ hq⟩) (fun _ _ _ _ j hj H7 R s7 kk => ?_) (fun D7 ys H7 hD7 s7 hDl7 hyl hy => ?_)
    ·refine ⟨_, rfl, _, rfl, two_le, fun c1 hc1 => ?_⟩
     exact kk _ _ (same_new hc1) ⟨c1, rfl, upd_same⟩
    ·obtain ⟨cs, rfl, hcs⟩ := paired_of (S := fun a (q : Pt) => H7 a = some (.tup [.int q.1, .int q.2])) ys (fun (u : Nat) => (1 + (i : Int), 1 + (u : Int))) hy
     rw [hyl] at hcs
     have hd7 := s7 _ _ hd'
     have hcl : cs.length ≤ 5 := by
      rw [List.length_map] at hyl
      omega
     refine ⟨d6, D7, bs.map V.ref, cs.map V.ref, rfl, rfl, hd7, hDl7, ?_, ?_⟩
     ·rw [List.length_map, List.length_map]
      omega
     have tl : TSame H7 (upd H7 d6 (.lst (bs.map V.ref ++ cs.map V.ref))) := tsame_lst hd7
     subst hE1
     refine ⟨bs ++ cs, _, rfl, fun x o hx h1 => ?_, ?_, ?_⟩
     ·rw [upd_ne hx]
      exact s7 _ _ (kp6 _ _ hx h1)
     ·rw [upd_same, List.map_append]
     ·rw [List.range_succ, List.flatMap_append, List.flatMap_cons, List.flatMap_nil, List.append_nil]
      exact paired_app (tups_mono (tups_mono htu s7.tup) tl) (tups_mono hcs tl)
   ·rintro σ H7 ⟨bs, v5, rfl, kp6, hd7, htu⟩
    refine hR2 _ _ ?_
    clear hR2
    change Tups H7 bs (innL nb) at htu
    have hD7 := kp6 _ _ hDd6 hD6
    have s57 : Same H5 H7 := fun b o e => kp6 b o (ne_of_none e hd6) (s6 _ _ e)
    have hd47 := s57 _ _ hd5
    have hsq7 := SqsAt.mono hsq5 s57.tup
    have hpl7 : PlAt H7 d6 (innL nb) := ⟨bs, hd7, htu⟩
    have hS7 : SqL K H7 a (ns.map V.int) := (((s1.trans s2).trans s3).trans (s35.trans s57)).seq hS
    have hz1 : l.length ≤ 1000 := by omega
    have hp1 : Pos1 nb.reverse := fun b hb => (h5' b hb).1
    clear kp kp6 hsq5 hd5 hD5 hD6 h6
    have hbsl : bs.length = (innL nb).length := Paired.length htu
    have hlne : l ≠ [] := fun z => by rw [z] at h4l; exact absurd h4l (by decide)
    have hbend : cycT isL l + cycT isR l = cycT WM.ne l := by
     have := (turns_rimB hp1 hrne).2
     rw [hl] at this
     exact this
    have ear : areaL l = (nb.sum : Int) := by rw [G.area]; omega
    have hinn : ∀ rs, IsSq l rs → inL' l rs = innL nb := fun rs hR => by
     have := in_bars_list hp1 (qs := rs) (by rw [hl]; exact hR)
     rw [hrev, hl] at this
     exact this
    have hil5 : (innL nb).length ≤ 315 := by
     unfold innL
     rw [List.length_flatMap]
     have : ∀ n, ((List.range n).map fun i => ((List.range (min (nb.getD i 0) (nb.getD (i + 1) 0) - 1)).map fun (u : Nat) => (1 + (i : Int), 1 + (u : Int))).length).sum ≤ 5 * n := by
      intro n
      induction n with
      | zero => simp
      | succ n ih =>
       rw [List.range_succ, List.map_append, List.sum_append, List.map_cons, List.map_nil, List.sum_cons, List.sum_nil, List.length_map, List.length_range]
       have := hg5 n
       omega
     have := this (nb.length - 1)
     omega
    try refine seqN ?_
    refine seqO fun R3 hR3 => ?_
    refine ⟨2, rfl, by decide, by decide, for_range (n := 2) (fun i σ H' => ∃ v8 v9 : Option V, σ = S6c a D l (nb.sum : Int) d4 v5 v6 d6 v8 v9 ∧ Same H7 H') ⟨none, none, rfl, Same.refl _⟩ ?_ ?_⟩
    ·rintro i σ H' hi ⟨v8, v9, rfl, sH⟩
     generalize hE1 : Ends.mk _ _ _ _ = E1
     revert E1
     refine keepG ?_
     set_option tactic.hygienic false in intros
     refine ⟨_, rfl, l, rfl, G.isW, hz1, G.pos, fun q8 H8 as8 qs hq8 s8 h8 hsq8 hQ => ?_⟩
     have eqs : qs = dueL nb := by
      have := sq_bars (rb := nb.reverse) (qs := qs) (by rw [hl]; exact hQ)
      rw [hrev] at this
      exact this
     rw [eqs] at hsq8
     have s78 := sH.trans s8
     refine ⟨_, rfl, _, _, dat_sq h8 hsq8, dat_sq (s78 _ _ hd47) (SqsAt.mono hsq7 s78.tup), shaped_sq _, shaped_sq _, _, rfl, ?_⟩
     rw [eqv_sqs]
     refine iteF ?_
     refine ⟨_, rfl, l, rfl, G.isW, hz1, G.pos, fun H9 s9 => ?_⟩
     rw [ear]
     refine ⟨_, rfl, rfl, _, rfl, ?_⟩
     refine iteNS rfl ?_
     refine ⟨_, rfl, l, rfl, G.isW, hz1, fun _ p10 H10 hp10 s10 hsa => ?_, fun i' j' p' H'' h1 h2 h3 => absurd h3 (nd_ne G.nod h1 h2)⟩
     refine gate' fun gG hgG => ?_
     obtain ⟨dx, dd, as10, hins, _, _⟩ := hsa
     refine hgG.go ?_
     clear hgG
     refine ⟨_, _, _, true, rfl, S.ty hins, kSS, _, rfl, ?_⟩
     refine iteF ?_
     have s7A := (s78.trans s9).trans s10
     refine ⟨_, rfl, l, rfl, G.isW, hz1, G.pos, h4l, G.nod, fun d9 HB rs hd9 s11 hR hP9 => ?_⟩
     rw [show inL l rs = innL nb from hinn rs hR] at hP9
     have s7B := s7A.trans s11
     have hd97 : H7 d9 = none := by
      cases e : H7 d9 with
      | none => rfl
      | some o => rw [s7A _ _ e] at hd9; cases hd9
     have hplB := hpl7.same s7B
     obtain ⟨as9, h9, ht9⟩ := hP9
     have h9l : as9.length = (innL nb).length := Paired.length ht9
     refine ⟨_, rfl, _, _, _, true, rfl, .lst h9, kit_list K, _, rfl, ?_⟩
     refine iteF ?_
     refine ⟨_, rfl, _, rfl, _, _, dat_pl ⟨as9, h9, ht9⟩, dat_pl hplB, shaped_pl _, shaped_pl _, _, rfl, ?_⟩
     rw [eqv_pls]
     refine iteF ?_
     refine ⟨_, rfl, _, rfl, d6, _, rfl, .inl (SqL.of (s7B _ _ hd7)), _, _, rfl, rfl, _, _, rfl, rfl, _, _, rfl, rfl, .inl ⟨by decide, by decide⟩, _, rfl, _, rfl, (by rw [T_len]; omega), rfl, _, rfl, ?_⟩
     refine iteNS (by rw [T_len, List.length_map, hbsl]; exact congrArg V.int (by omega)) ?_
     refine ⟨_, rfl, .inl ⟨rfl, _, SqL.of h9⟩, two_le, fun c12 hc12 => ?_⟩
     have s12 := same_new (o := .tup [.int 0, .int 0]) hc12
     refine ⟨d9, _, _, rfl, rfl, s12 _ _ h9, (by rw [List.length_map]; omega), ?_⟩
     subst hE1
     refine ⟨_, _, rfl, fun b o e => ?_⟩
     rw [upd_ne (ne_of_none e hd97)]
     exact s12 _ _ (s7B _ _ e)
    ·rintro σ H8 ⟨v8, v9, rfl, sH⟩
     refine hR3 _ _ ?_
     clear hR3
     refine ⟨_, rfl, l, rfl, G.isW, hz1, G.pos, h4l, G.nod, fun t9 H9 ht9 s9 e9 => ?_⟩
     refine ⟨t9, _, rfl, SqT.of e9, rfl, _, _, rfl, _, _, rfl, rfl, ?_⟩
     refine ⟨_, rfl, _, rfl, _, _, rfl, rfl, rfl, _, rfl, ?_⟩
     refine iteNS (congrArg V.int (by have := G.diff; assumption)) ?_
     refine ⟨_, rfl, l, rfl, G.isW, hz1, G.pos, h4l, G.nod, fun t10 H10 ht10 s10 e10 => ?_⟩
     refine ⟨_, _, _, true, rfl, .tup e10, kit_tuple K, _, rfl, ?_⟩
     refine iteF ?_
     refine ⟨_, rfl, _, rfl, _, _, rfl, rfl, _, rfl, l, rfl, hlne, hz1, fun H11 s11 => ?_⟩
     refine ⟨rfl, _, rfl, ?_⟩
     refine iteNS (congrArg V.int (by have := hbend; omega)) ?_
     have s7b := ((sH.trans s9).trans s10).trans s11
     refine ⟨_, rfl, a, ns, rfl, s7b.seq hS7, ?_⟩
     generalize ns.sum = mx
     revert mx
     refine keepG ?_
     set_option tactic.hygienic false in intros
     refine ⟨_, rfl, _, rfl, l, mx, rfl, G.isW, hz1, G.pos, fun H12 s12 => ?_⟩
     refine ⟨two_le, fun t1 ht1 => ?_⟩
     have c1 := same_new (o := .tup [.str (T (rotL (mx % (l.length : Int)).toNat l)), .int 1]) ht1
     have g1 : upd H12 t1 (.tup [.str (T (rotL (mx % (l.length : Int)).toNat l)), .int 1]) t1 = _ := upd_same
     refine ⟨_, rfl, l, rfl, G.isW, hz1, fun H13 s13 => ?_⟩
     change Same (upd H12 t1 (.tup [.str (T (rotL (mx % (l.length : Int)).toNat l)), .int 1])) H13 at s13
     generalize upd H12 t1 (.tup [.str (T (rotL (mx % (l.length : Int)).toNat l)), .int 1]) = H12' at *
     revert H12'
     refine keepG ?_
     set_option tactic.hygienic false in intros
     refine ⟨_, rfl, two_le, fun t2 ht2 => ?_⟩
     have c2 := same_new (o := .tup [.str (T (mirL l)), .int (-1)]) ht2
     have g2 : upd H13 t2 (.tup [.str (T (mirL l)), .int (-1)]) t2 = _ := upd_same
     refine ⟨_, rfl, l, rfl, G.isW, hz1, fun H14 s14 => ?_⟩
     change Same (upd H13 t2 (.tup [.str (T (mirL l)), .int (-1)])) H14 at s14
     generalize upd H13 t2 (.tup [.str (T (mirL l)), .int (-1)]) = H13' at *
     revert H13'
     refine keepG ?_
     set_option tactic.hygienic false in intros
     refine ⟨_, rfl, two_le, fun t3 ht3 => ?_⟩
     have c3 := same_new (o := .tup [.str (T (backL l)), .int (-1)]) ht3
     have g3 : upd H14 t3 (.tup [.str (T (backL l)), .int (-1)]) t3 = _ := upd_same
     refine ⟨_, rfl, _, rfl, _, _, rfl, rfl, ⟨by decide, by decide⟩, l, _, rfl, G.isW, hz1, fun H15 s15 => ?_⟩
     change Same (upd H14 t3 (.tup [.str (T (backL l)), .int (-1)])) H15 at s15
     generalize upd H14 t3 (.tup [.str (T (backL l)), .int (-1)]) = H14' at *
     revert H14'
     refine keepG ?_
     set_option tactic.hygienic false in intros
     refine ⟨two_le, fun t4 ht4 => ?_⟩
     have c4 := same_new (o := .tup [.str (T (turnL (mx / 4 % 4).toNat l)), .int 1]) ht4
     have g4 : upd H15 t4 (.tup [.str (T (turnL (mx / 4 % 4).toNat l)), .int 1]) t4 = _ := upd_same
     refine ⟨(by show 4 ≤ sizeLine; omega), fun u hu => ?_⟩
     change upd H15 t4 (.tup [.str (T (turnL (mx / 4 % 4).toNat l)), .int 1]) u = none at hu
     first | change Ends.nx _ _ (upd (upd H15 t4 (.tup [.str (T (turnL (mx / 4 % 4).toNat l)), .int 1])) u (.lst [.ref t1, .ref t2, .ref t3, .ref t4])) | change tSeq _ _ _ _ (upd (upd H15 t4 (.tup [.str (T (turnL (mx / 4 % 4).toNat l)), .int 1])) u (.lst [.ref t1, .ref t2, .ref t3, .ref t4]))
     generalize upd H15 t4 (.tup [.str (T (turnL (mx / 4 % 4).toNat l)), .int 1]) = H15' at *
     have c5 := same_new (o := .lst [.ref t1, .ref t2, .ref t3, .ref t4]) hu
     have g5 : upd H15' u (.lst [.ref t1, .ref t2, .ref t3, .ref t4]) u = _ := upd_same
     generalize upd H15' u (.lst [.ref t1, .ref t2, .ref t3, .ref t4]) = H16 at *
     revert H15'
     refine keepG ?_
     set_option tactic.hygienic false in intros
     refine gate' fun gG hgG => ?_
     have s7c : Same H7 H16 := ((((((((s7b.trans s12).trans c1).trans s13).trans c2).trans s14).trans c3).trans s15).trans c4).trans c5
     have gM : Good nb (mirL l) (-1) := by
      have := good_mir (nb := nb) (by rw [hl]; exact G) hne (by rw [hl]; exact hz1)
      rw [hl] at this
      exact this
     have gB : Good nb (backL l) (-1) := by
      have := good_back (nb := nb) (by rw [hl]; exact G) hne (by rw [hl]; exact hz1)
      rw [hl] at this
      exact this
     have gR : Good nb (rotL (mx % (l.length : Int)).toNat l) 1 := by
      have h0 : 0 ≤ mx % (l.length : Int) := Int.emod_nonneg _ (by omega)
      have h1 : mx % (l.length : Int) < (l.length : Int) := Int.emod_lt_of_pos _ (by omega)
      have := good_begun (nb := nb) (by rw [hl]; exact G) hne (mx % (l.length : Int)).toNat (by rw [hl]; omega) (by rw [hl]; exact hz1)
      rw [hl] at this
      exact this
     have gT : Good nb (turnL (mx / 4 % 4).toNat l) 1 := by
      have h0 : 0 ≤ mx / 4 % 4 := Int.emod_nonneg _ (by decide)
      have h1 : mx / 4 % 4 < 4 := Int.emod_lt_of_pos _ (by decide)
      have := good_turn (nb := nb) (by rw [hl]; exact G) hne (by rw [hl]; exact hz1) (q := (mx / 4 % 4).toNat) (by omega)
      rw [hl] at this
      exact this
     obtain ⟨tt, m, sg, hat, htt, Gm⟩ : ∃ tt m sg, atI [V.ref t1, .ref t2, .ref t3, .ref t4] (mx % 4) = some (.ref tt) ∧ H16 tt = some (.tup [.str (T m), .int sg]) ∧ Good nb m sg := by
      have h0 : 0 ≤ mx % 4 := Int.emod_nonneg _ (by decide)
      have h1 : mx % 4 < 4 := Int.emod_lt_of_pos _ (by decide)
      have : mx % 4 = 0 ∨ mx % 4 = 1 ∨ mx % 4 = 2 ∨ mx % 4 = 3 := by omega
      rcases this with e | e | e | e <;> rw [e]
      ·exact ⟨t1, _, _, atI_nat (j := 0) rfl, c5 _ _ (c4 _ _ (s15 _ _ (c3 _ _ (s14 _ _ (c2 _ _ (s13 _ _ g1)))))), gR⟩
      ·exact ⟨t2, _, _, atI_nat (j := 1) rfl, c5 _ _ (c4 _ _ (s15 _ _ (c3 _ _ (s14 _ _ g2)))), gM⟩
      ·exact ⟨t3, _, _, atI_nat (j := 2) rfl, c5 _ _ (c4 _ _ (s15 _ _ g3)), gB⟩
      ·exact ⟨t4, _, _, atI_nat (j := 3) rfl, c5 _ _ g4, gT⟩
     refine hgG.go ?_
     clear hgG
     refine ⟨_, rfl, _, rfl, _, _, rfl, rfl, (by show (0 : Int) < 4; decide), u, _, _, _, rfl, rfl, SqL.of g5, hat, (by show 1 ≤ sizeLine; omega), fun u2 hu2 => ?_⟩
     have c6 := same_new (o := .lst [.ref tt]) hu2
     have g6 : upd H16 u2 (.lst [.ref tt]) u2 = _ := upd_same
     generalize upd H16 u2 (.lst [.ref tt]) = H17 at *
     revert H17
     refine keepG ?_
     set_option tactic.hygienic false in intros
     have htt7 := c6 _ _ htt
     have s7d := s7c.trans c6
     have hm1 : m.length ≤ 1000 := by rw [Gm.len, hl]; exact hz1
     have hm4 : 4 ≤ m.length := by rw [Gm.len, hl]; exact h4l
     have gd := Gm.diff
     have gs := Gm.sum
     rw [hl] at gs
     refine ⟨u2, rfl, ⟨_, SqL.of g6⟩, for_list (K := K) (a := u2) (xs := [.ref tt]) (fun i σ H' => ∃ v14 v15 v16 v17 : Option V, σ = S6d a D l (nb.sum : Int) d4 v5 v6 d6 v8 v9 (cycT isL l : Int) (cycT isR l : Int) mx u v14 v15 v16 v17 ∧ Same H17 H')
      ⟨none, none, none, none, rfl, Same.refl _⟩ (fun i σ H' _ ⟨_, _, _, _, _, s⟩ => SqL.of (s _ _ g6)) ?_ ?_⟩
     ·rintro i x σ H' hx ⟨v14, v15, v16, v17, rfl, sK⟩
      generalize hE1 : Ends.mk _ _ _ _ = E1
      revert E1
      refine keepG ?_
      set_option tactic.hygienic false in intros
      obtain rfl : x = V.ref tt := by
       have := List.mem_of_getElem? hx
       rwa [List.mem_singleton] at this
      refine ⟨tt, _, rfl, SqT.of (sK _ _ htt7), rfl, _, _, rfl, _, _, rfl, rfl, ?_⟩
      refine ⟨_, rfl, m, rfl, Gm.isW, hm1, Gm.pos, hm4, Gm.nod, fun t18 H18 ht18 s18 e18 => ?_⟩
      refine ⟨t18, _, rfl, SqT.of e18, rfl, _, _, rfl, _, _, rfl, rfl, ?_⟩
      refine ⟨_, rfl, _, rfl, _, _, rfl, rfl, _, rfl, _, _, rfl, rfl, .inl ⟨by decide, by decide⟩, rfl, _, rfl, ?_⟩
      refine iteNS (congrArg V.int gd) ?_
      refine ⟨_, rfl, _, rfl, _, _, rfl, rfl, _, rfl, _, rfl, _, _, rfl, rfl, rfl, _, rfl, ?_⟩
      refine iteNS (congrArg V.int (by omega)) ?_
      refine ⟨_, rfl, m, rfl, Gm.isW, hm1, Gm.pos, hm4, Gm.nod, fun d19 H19 rs hd19 s19 hR hP => ?_⟩
      have hnl19 : (inL m rs).length = (innL nb).length := Gm.inn rs hR
      obtain ⟨as19, h19, ht19⟩ := hP
      have hl19 : as19.length = (inL m rs).length := Paired.length ht19
      have s7e := ((s7d.trans sK).trans s18).trans s19
      refine ⟨d19, _, rfl, .inl (SqL.of h19), _, rfl, d6, _, rfl, .inl (SqL.of (s7e _ _ hd7)), rfl, _, rfl, ?_⟩
      refine iteNS (by rw [List.length_map, List.length_map, hl19, hnl19, hbsl]) ?_
      refine ⟨_, rfl, m, rfl, Gm.isW, hm1, Gm.pos, fun H20 s20 => ?_⟩
      refine ⟨_, rfl, _, rfl, _, _, rfl, rfl, (by rcases Gm.one with e | e <;> rw [e] <;> exact .inl ⟨by decide, by decide⟩), rfl, _, rfl, ?_⟩
      refine iteNS (congrArg V.int Gm.area) ?_
      refine ⟨_, rfl, m, rfl, Gm.isW, hm1, fun _ p21 H21 hp21 s21 hsa => ?_, fun i' j' p' H'' h1 h2 h3 => absurd h3 (nd_ne Gm.nod h1 h2)⟩
      refine gate' fun gG hgG => ?_
      obtain ⟨dx, dd, as21, hins, _, _⟩ := hsa
      refine hgG.go ?_
      clear hgG
      refine ⟨_, _, _, true, rfl, S.ty hins, kSS, _, rfl, ?_⟩
      refine iteF ?_
      subst hE1
      exact ⟨_, _, _, _, rfl, (((sK.trans s18).trans s19).trans s20).trans s21⟩
     ·rintro σ H18 ⟨v14, v15, v16, v17, rfl, sK⟩
      have s7e := s7d.trans sK
      have hmm1 : (mirL l).length ≤ 1000 := by rw [gM.len, hl]; exact hz1
      have hmm4 : 4 ≤ (mirL l).length := by rw [gM.len, hl]; exact h4l
      refine ⟨_, rfl, l, rfl, G.isW, hz1, fun H19 s19 => ?_⟩
      refine ⟨mirL l, rfl, gM.isW, hmm1, gM.pos, hmm4, gM.nod, fun d20 H20 rs hd20 s20 hR hP => ?_⟩
      have emw : inL (mirL l) rs = srtP ((innL nb).map WM.flip) := by
       have := mir_within (nb := nb) (fun b hb => (hn5 b hb).1) (qs := rs) (by rw [hl]; exact hR)
       rw [hl] at this
       exact this
      rw [emw] at hP
      have s7f := (s7e.trans s19).trans s20
      have hd20' := s7f _ _ hd7
      have htu20 := tups_mono htu s7f.tup
      refine ⟨_, rfl, d6, rfl, ⟨_, SqL.of hd20'⟩, ?_⟩
      refine comp_relL (K := K) (a := d6) (xs := bs.map V.ref) (sl2 H20) (sl2_len H20) (by rw [List.length_map]; omega) (SqL.of hd20') (fun _ _ _ _ j x hx H21 R s21 kk => ?_) (fun j y Hz => ∃ a, y = .ref a ∧ Hz a = some (.tup [.int (WM.flip ((innL nb).getD j (0, 0))).1, .int (WM.flip ((innL nb).getD j (0, 0))).2])) (fun j y _ _ ⟨a, e, hq⟩ ts => ⟨a, e, ts _ _ hq⟩) (fun _ _ _ _ j x hx H21 R s21 kk => ?_) (fun DD ys H21 hDD s21 hDDl hyl hy => ?_)
      ·obtain ⟨ax, hax, rfl⟩ := map_ref_get hx
       obtain ⟨q, hq, hax2⟩ := paired_get htu20 hax
       rw [sl2_eq hax2] at kk
       exact g_two rfl (SqT.of (s21 _ _ hax2)) kk
      ·obtain ⟨ax, hax, rfl⟩ := map_ref_get hx
       obtain ⟨q, hq, hax2⟩ := paired_get htu20 hax
       have eg : (innL nb).getD j (0, 0) = q := by rw [List.getD_eq_getElem?_getD, hq]; rfl
       rw [sl2_eq hax2]
       rw [eg] at kk
       refine ⟨_, rfl, _, rfl, _, rfl, two_le, fun c hc => ?_⟩
       exact kk _ _ (same_new hc) ⟨c, rfl, upd_same⟩
      obtain ⟨cs, rfl, hcs⟩ := paired_of (S := fun a (q : Pt) => H21 a = some (.tup [.int q.1, .int q.2])) ys (fun (u : Nat) => WM.flip ((innL nb).getD u (0, 0))) hy
      rw [hyl, List.length_map, hbsl] at hcs
      have eall : ((List.range (innL nb).length).map fun (u : Nat) => WM.flip ((innL nb).getD u (0, 0))) = (innL nb).map WM.flip := by
       refine List.ext_getElem? fun j => ?_
       rw [List.getElem?_map, List.getElem?_map]
       by_cases hj : j < (innL nb).length
       ·rw [List.getElem?_range hj, List.getElem?_eq_getElem hj]
        show some (WM.flip ((innL nb).getD j (0, 0))) = some (WM.flip (innL nb)[j])
        rw [List.getD_eq_getElem?_getD, List.getElem?_eq_getElem hj]
        rfl
       ·rw [List.getElem?_eq_none (by rw [List.length_range]; omega), List.getElem?_eq_none (by omega)]
        rfl
      rw [eall] at hcs
      refine ⟨DD, cs, _, rfl, SqL.of hDDl, hcs, fun e22 as' ps' he22 hperm htu' hpp hsrt => ?_⟩
      have s22 := same_new (o := .lst (as'.map V.ref)) he22
      have h22 : upd H21 e22 (.lst (as'.map V.ref)) e22 = some (.lst (as'.map V.ref)) := upd_same
      rw [srtP_eq hpp hsrt] at htu'
      refine ⟨_, _, dat_pl ((hP.same s21).same s22), dat_pl ⟨as', h22, tups_mono htu' s22.tup⟩, shaped_pl _, shaped_pl _, ?_⟩
      rw [eqv_pls]
      exact k _
theorem law_all {f : Addr} {fd : FuncData} (F : Df K mg "law" sLaw ["_law_script"] f fd) (X : Txt K mg) (Y : TxtM K mg w) (G : Own K mg) (B : Bltn mg) (D : Fns K mg) : FnOk P w K mg base CX0 10 f fd ["_law_script"] (spLaw K) := by
 obtain ⟨_, _, d__wall⟩ := D.Wall
 obtain ⟨_, _, d_check_walk⟩ := D.CheckWalk
 obtain ⟨_, _, d_is_number⟩ := D.IsNumber
 obtain ⟨_, _, d_check_number⟩ := D.CheckNumber
 obtain ⟨_, _, d_is_closed⟩ := D.IsClosed
 obtain ⟨_, _, d_check_closed⟩ := D.CheckClosed
 obtain ⟨_, _, d_stepped⟩ := D.Stepped
 obtain ⟨_, _, d_places⟩ := D.Places
 obtain ⟨_, _, d_counted_places⟩ := D.CountedPlaces
 obtain ⟨_, _, d_end⟩ := D.End
 obtain ⟨_, _, d_turned⟩ := D.Turned
 obtain ⟨_, _, d_taken_back⟩ := D.TakenBack
 obtain ⟨_, _, d_quartered⟩ := D.Quartered
 obtain ⟨_, _, d_mirrored⟩ := D.Mirrored
 obtain ⟨_, _, d_backwards⟩ := D.Backwards
 obtain ⟨_, _, d_begun⟩ := D.Begun
 obtain ⟨_, _, d_upright_steps⟩ := D.UprightSteps
 obtain ⟨_, _, d_area⟩ := D.Area
 obtain ⟨_, _, d_squares⟩ := D.Squares
 obtain ⟨_, _, d_meets⟩ := D.Meets
 obtain ⟨_, _, d_check_loop⟩ := D.CheckLoop
 obtain ⟨_, _, d_turns⟩ := D.Turns
 obtain ⟨_, _, d_within⟩ := D.Within
 obtain ⟨_, _, d__law_rim⟩ := D.LawRim
 obtain ⟨_, _, d__law_bends⟩ := D.LawBends
 obtain ⟨Cs, fSI, fSS, _, S, kSS, nP, MS⟩ := G.simple
 obtain ⟨Ct, fTI, fTS, _, Tw, nF, nS, MT⟩ := G.twice
 have GZ := ok_check_closed (P := P) (w := w) (base := base) d_check_closed X d_is_closed d_check_walk d_end
 have GU := ok_upright_steps (P := P) (w := w) (base := base) d_upright_steps X B.zip d_check_walk d_stepped d_places
 have GP : FnOk P w K mg base CX0 2 _ _ ["walk"] spPlaces := ok_places d_places X d_check_walk d_stepped
 have GC := ok_counted_places (P := P) (w := w) (base := base) d_counted_places B.len d_places GP
 have GMt := ok_meets (P := P) (w := w) (base := base) d_meets B.enumerate B.sorted d_counted_places GC S MS (ok_simple_init MS B.list S.cl nP) Tw MT (ok_twice_init MT Tw.cl nF nS)
 have GL := ok_check_loop (P := P) (w := w) (base := base) d_check_loop X B.len d_check_closed GZ d_meets GMt S kSS
 have GSq := ok_squares (P := P) (w := w) (base := base) d_squares B.sorted B.zip B.range d_check_closed GZ d_upright_steps GU
 have GA : FnOk P w K mg base CX0 5 _ _ ["walk"] spArea := ok_area d_area X B.zip B.sum d_check_walk d_stepped d_places d_end d_is_closed d_check_closed d_upright_steps
 exact ok_law F X B S kSS d__law_rim (ok_law_rim d__law_rim B.len B.reversed B.range) d__law_bends (ok_law_bends d__law_bends B.len B.range) d_squares GSq d_area GA d_meets GMt d_within (ok_within d_within B.dict d_check_loop GL d_places GP d_squares GSq) d_turns (ok_turns d_turns B.zip d_check_loop GL d_turned (ok_turned d_turned X))
  d_quartered (ok_quartered d_quartered X d_check_walk d_check_number d_turned d_is_number) d_mirrored (ok_mirrored d_mirrored X Y d_check_walk) d_backwards (ok_backwards d_backwards X B.reversed d_check_walk d_taken_back d_turned) d_begun (ok_begun d_begun X B.len d_check_walk d_check_number d_end d_check_closed d_is_closed d_is_number)
end
theorem df_mk {K : PySem.W.Frag} {mg : Str → Option Value} {h : Heap} {x : Str} {st : Stmt} {ps : List Str} {f : Addr} {oc : Value} {od an : Option Addr} {osl : Array (Option Value)} {kV doc pm cdv ct : Value} (X : K.In h) (G : h.Ns mainGlobals mg)
  (hb : ∀ (kV doc pm : Value) (an : Option Addr) (cdv ct : Value) (us : List Value), us.length = ps.length → bindArgs (PySem.W.fnOf x x (defArgs st) (defBody st) (defScope st) .none kV doc pm an cdv ct) ⟨us, []⟩ = pure (ps.zip us))
  (a : PySem.W.nsIn K mainGlobals x = some (some (.ref f))) (l : K.lookup f = some ⟨oc, od, .func (PySem.W.fnOf x x (defArgs st) (defBody st) (defScope st) .none kV doc pm an cdv ct), osl⟩) (c : PySem.W.codeIn K cdv x = true) (k : PySem.W.keepIn K (.ref f) = true) :
  ∃ f fd, Df K mg x st ps f fd := ⟨f, _, fun_mk l c k, (fun_mk l c k).binds hb, PySem.W.mg_of X G a⟩
theorem lw_mk {K : PySem.W.Frag} {mg : Str → Option Value} {h : Heap} {t : Tok} (X : K.In h) (G : h.Ns mainGlobals mg) (a : PySem.W.nsIn K mainGlobals "LEFTWARD" = some (some (.str "nwse" t))) : ∃ t, mg "LEFTWARD" = some (.str "nwse" t) := ⟨t, PySem.W.mg_of X G a⟩
theorem mirror_mk {w : World} {K : PySem.W.Frag} {mg : Str → Option Value} {h : Heap} {am n : Nat} {t1 t2 t3 t4 u1 u2 u3 u4 : Tok} (X : K.In h) (G : h.Ns mainGlobals mg) (a : PySem.W.nsIn K mainGlobals "MIRROR" = some (some (.ref am)))
  (l : K.lookup am = some ⟨.type "dict", none, .dict (mirEs w t1 t2 t3 t4 u1 u2 u3 u4) n, #[]⟩) : TxtM K mg w := ⟨⟨am, n, t1, t2, t3, t4, u1, u2, u3, u4, PySem.W.mg_of X G a, l⟩⟩
theorem law_mk {l : PySem.W.OpenLaw} {w : World} {K : PySem.W.Frag} {h : Heap} {mg : Str → Option Value} {fa : Addr} (X : K.In h) (G : h.Ns mainGlobals mg) (hfa : mg "law" = some (.ref fa)) (T : Txt K mg) (Y : TxtM K mg w) (Gw : Own K mg) (B : Bltn mg) (D : Fns K mg)
  {f4 : Addr} {od4 an4 : Option Addr} {sl4 : Array (Option Value)} {oc4 kV4 dc4 pm4 cd4 ct4 : Value}
  (a4 : PySem.W.nsIn K mainGlobals "law" = some (some (.ref f4))) (l4 : K.lookup f4 = some ⟨oc4, od4, .func (PySem.W.fnOf "law" "law" (defArgs sLaw) (defBody sLaw) (defScope sLaw) .none kV4 dc4 pm4 an4 cd4 ct4), sl4⟩) (c4 : PySem.W.codeIn K cd4 "law" = true) (k4 : PySem.W.keepIn K (.ref f4) = true) :
  ∃ fd : FuncData, (∀ (s : Shared) (v : Value), BindsTo s fd ⟨[v], []⟩ [("_law_script", v)]) ∧ ∀ base : Heap, K.In base → base.Ns mainGlobals mg → FnOk l.prog w K mg base CX0 10 fa fd ["_law_script"] (spLaw K) := by
 have e := hfa.symm.trans (PySem.W.mg_of X G a4)
 cases e
 have F4 := fun_mk (st := sLaw) l4 c4 k4
 have b4 := F4.binds (ps := ["_law_script"]) fun _ _ _ _ _ _ => L2.len1 (by intro _; exact rfl)
 exact ⟨PySem.W.fnOf "law" "law" (defArgs sLaw) (defBody sLaw) (defScope sLaw) .none kV4 dc4 pm4 an4 cd4 ct4, fun s v => .of_eq rfl, fun base _ _ => law_all ⟨F4, b4, PySem.W.mg_of X G a4⟩ T Y Gw B D⟩
theorem walk {l : PySem.W.OpenLaw} {q : Program} {loose : List Str} {XP : (Str → Option Value) → Heap → Prop} {YP : World → Heap → Prop} {d : DefRec} {K : Params → PySem.W.Frag} (hn : l.most = some 63) (hdf : d.params.defaults = [])
  (hY : ∀ (w : World) (h : Heap), YP w h → (K w.params).In h)
  (F : ∀ (w : World) (mg : Str → Option Value) (fa : Addr) (h : Heap), (K w.params).In h → h.Ns mainGlobals mg → mg d.name = some (.ref fa) →
   ∃ fd : FuncData, (∀ (s : Shared) (u : Value), BindsTo s fd ⟨[u], []⟩ [("_law_script", u)]) ∧ ∀ base : Heap, (K w.params).In base → base.Ns mainGlobals mg → FnOk l.prog w (K w.params) mg base CX0 10 fa fd ["_law_script"] (spLaw (K w.params))) :
  PySem.W.WalkO q loose XP YP l.row.toRowW d [] (fun f vs => PySem.call f vs) :=
 L2.walk_of (n := 63) (k := 10) (x := "_law_script") (CX := fun _ => CX0) (sp := fun w => spLaw (K w.params)) hn (by decide) hdf ⟨rfl, by decide, by decide⟩ hY F (fun _ _ a ns hl _ hS => ⟨a, ns, rfl, hS, hl, fun _ => rfl⟩) fun _ _ _ _ _ z => z
end SW
def PySem.W.Fast.tw16381960891948996416 : Unit := ()
def PySem.W.Fast.tw8236004607137702939 : Unit := ()
def PySem.W.Fast.tw7419653487558527146 : Unit := ()
open PySem PySem.W PyProof.Rows
set_option maxRecDepth 100000 in
set_option maxHeartbeats 0 in
theorem PySem.Challenge.cw_squarewalk_k06_whole_loops_holds : PySem.Challenge.rw_squarewalk_k06_whole_loops.Holds := by
 w_on; o_law; k_head; (case hw => w_witness2)
 k_fill
 refine SW.walk (l := PySem.Challenge.rw_squarewalk_k06_whole_loops) rfl rfl (fun w h Y => PySem.W.kIn_of Y) ?F
 case F =>
  intro w mg fa h KX G hmg
  refine' SW.law_mk KX G hmg ?T ?Y ?Gw ?B ?D ?a4 ?l4 ?c4 ?k4
  (case a4 => k_is); (case l4 => k_is); (case c4 => k_is); (case k4 => k_is)
  case T =>
   refine ⟨PySem.W.mg_none_of KX G ?_, PySem.W.mg_none_of KX G ?_, PySem.W.mg_none_of KX G ?_, PySem.W.mg_none_of KX G ?_, ?_⟩
   ·k_is
   ·k_is
   ·k_is
   ·k_is
   ·refine' SW.lw_mk KX G ?a
    (case a => k_is)
  case Y =>
   refine' SW.mirror_mk KX G ?a ?l
   (case a => k_is); (case l => k_is)
  case Gw =>
   refine' ⟨?s, ?t⟩
   case s =>
    refine' SW.simple_mk (SW.cls_mk KX G ?aC ?pg ?hd ?po ?sa ?mk ?kc ?a1 ?i1 ?a2 ?i2 ?k2 ?ha ?hn ?htk ?hm) ?n ?l1 ?c1 ?k1
    (case aC => k_is); (case pg => k_is); (case hd => k_is); (case po => k_is); (case sa => k_is); (case mk => k_is); (case kc => k_is); (case a1 => k_is); (case i1 => k_is); (case a2 => k_is); (case i2 => k_is); (case k2 => k_is)
    (case ha => k_is); (case hn => k_is); (case htk => k_is); (case hm => k_is); (case n => k_is); (case l1 => k_is); (case c1 => k_is); (case k1 => k_is)
   case t =>
    refine' SW.twice_mk (SW.cls_mk KX G ?aC ?pg ?hd ?po ?sa ?mk ?kc ?a1 ?i1 ?a2 ?i2 ?k2 ?ha ?hn ?htk ?hm) ?n1 ?n2 ?l1 ?c1 ?k1
    (case aC => k_is); (case pg => k_is); (case hd => k_is); (case po => k_is); (case sa => k_is); (case mk => k_is); (case kc => k_is); (case a1 => k_is); (case i1 => k_is); (case a2 => k_is); (case i2 => k_is); (case k2 => k_is)
    (case ha => k_is); (case hn => k_is); (case htk => k_is); (case hm => k_is); (case n1 => k_is); (case n2 => k_is); (case l1 => k_is); (case c1 => k_is); (case k1 => k_is)
  case B =>
   refine ⟨PySem.W.mg_none_of KX G ?_, PySem.W.mg_none_of KX G ?_, PySem.W.mg_none_of KX G ?_, PySem.W.mg_none_of KX G ?_, PySem.W.mg_none_of KX G ?_, PySem.W.mg_none_of KX G ?_, PySem.W.mg_none_of KX G ?_, PySem.W.mg_none_of KX G ?_, PySem.W.mg_none_of KX G ?_, PySem.W.mg_none_of KX G ?_, PySem.W.mg_none_of KX G ?_⟩
   all_goals k_is
  case D =>
   refine ⟨?_, ?_, ?_, ?_, ?_, ?_, ?_, ?_, ?_, ?_, ?_, ?_, ?_, ?_, ?_, ?_, ?_, ?_, ?_, ?_, ?_, ?_, ?_, ?_, ?_⟩
   all_goals
    refine' SW.df_mk KX G ?hb ?a ?l ?c ?k
    (case a => k_is); (case l => k_is); (case c => k_is); (case k => k_is)
    case hb => first | exact (fun _ _ _ _ _ _ => L2.len1 (by intro _; exact rfl)) | exact (fun _ _ _ _ _ _ => L2.len2 (by intro _ _; exact rfl)) | exact (fun _ _ _ _ _ _ => L2.len3 (by intro _ _ _; exact rfl))
