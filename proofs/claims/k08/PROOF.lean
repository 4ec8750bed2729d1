import PyProof.Rows.All
import Wide.All
import OpenK.AllK
import Wide.FinOn
import Lean
import PyProof.EqAt
import PyProof.EqKinds
import PyProof.TupleCall
import PyProof.Rows.SortRuns
import PyProof.Rows.SortShell
import KE.KSortTup
import PySem.Challenge.RW_squarewalk_k08_refused
local macro_rules | `(tactic| omega) => `(tactic| first | lia | omega (config := {}))
set_option Elab.async false
set_option linter.all false
set_option maxRecDepth 100000
namespace L2
open PySem PySem.Spec PyProof.Rows
noncomputable abbrev Key := Sum Int Str
noncomputable def keyIs : Key → Value → Bool
  | .inl k, v => Value.isInt k v
  | .inr x, v => Value.isStrOf x v
noncomputable def keyH (w : World) : Key → Int
  | .inl k => hashInt k
  | .inr x => hashStr w x
theorem keyIs_shape : ∀ {k : Key} {v : Value}, keyIs k v = true → (∃ i t, k = Sum.inl i ∧ v = Value.int i t) ∨ (∃ x t, k = Sum.inr x ∧ v = Value.str x t)
  | .inl i, v, h => by
    obtain ⟨t, e⟩ := Value.isInt_shape (k := i) (v := v) h
    exact .inl ⟨i, t, rfl, e⟩
  | .inr x, v, h => by
    obtain ⟨t, e⟩ := Value.isStrOf_shape (x := x) (v := v) h
    exact .inr ⟨x, t, rfl, e⟩
theorem keyIs_int (i : Int) (t : Tok) : keyIs (.inl i) (.int i t) = true := by simp [keyIs, Value.isInt]
theorem keyIs_str (x : Str) (t : Tok) : keyIs (.inr x) (.str x t) = true := by simp [keyIs, Value.isStrOf]
theorem key_ll (a b : Int) : decide ((Sum.inl a : Key) = Sum.inl b) = (a == b) := by
  by_cases e : a = b
  · subst e; simp
  · have h : ¬ (Sum.inl a : Key) = Sum.inl b := fun q => e (Sum.inl.inj q)
    rw [decide_eq_false h]
    exact (beq_eq_false_iff_ne.mpr e).symm
theorem key_rr (a b : Str) : decide ((Sum.inr a : Key) = Sum.inr b) = decide (a = b) := by
  by_cases e : a = b
  · subst e; simp
  · have h : ¬ (Sum.inr a : Key) = Sum.inr b := fun q => e (Sum.inr.inj q)
    rw [decide_eq_false h, decide_eq_false e]
theorem key_lr (a : Int) (b : Str) : decide ((Sum.inl a : Key) = Sum.inr b) = false := decide_eq_false (fun q => nomatch q)
theorem key_rl (a : Str) (b : Int) : decide ((Sum.inr a : Key) = Sum.inl b) = false := decide_eq_false (fun q => nomatch q)
noncomputable def mixKind (prog : Program) (w : World) : PySem.KeyKind prog w Key where
  is := keyIs
  hash := keyH w
  inj := fun v a b ha hb => by
    rcases keyIs_shape ha with ⟨i, t, rfl, rfl⟩ | ⟨x, t, rfl, rfl⟩
    · rcases keyIs_shape hb with ⟨j, u, rfl, e⟩ | ⟨y, u, rfl, e⟩
      · injection e with e1 _; rw [e1]
      · exact nomatch e
    · rcases keyIs_shape hb with ⟨j, u, rfl, e⟩ | ⟨y, u, rfl, e⟩
      · exact nomatch e
      · injection e with e1 _; rw [e1]
  byValue := fun k v h => by
    rcases keyIs_shape h with ⟨i, t, rfl, rfl⟩ | ⟨x, t, rfl, rfl⟩ <;> rfl
  pyHash := fun hv h => by
    rcases keyIs_shape hv with ⟨i, t, rfl, rfl⟩ | ⟨x, t, rfl, rfl⟩
    · exact wpAny_pyHash_int h
    · exact wpAny_pyHash_str h
  eqBool := fun hu hv h => by
    rcases keyIs_shape hu with ⟨i, t, rfl, rfl⟩ | ⟨x, t, rfl, rfl⟩
    · rcases keyIs_shape hv with ⟨j, u, rfl, rfl⟩ | ⟨y, u, rfl, rfl⟩
      · rw [key_ll] at h; exact wpAny_eqBool_int h
      · rw [key_lr] at h; exact SeqAt.EqAt.int_str i t y u _ _ _ _ h
    · rcases keyIs_shape hv with ⟨j, u, rfl, rfl⟩ | ⟨y, u, rfl, rfl⟩
      · rw [key_rl] at h; exact SeqAt.EqAt.str_int x t j u _ _ _ _ h
      · rw [key_rr] at h; exact wpAny_eqBool_str h
  «strs» := fun k x t v h => by
    rcases keyIs_shape h with ⟨i, u, rfl, e⟩ | ⟨y, u, rfl, e⟩
    · exact nomatch e
    · injection e with e1 _
      subst e1
      cases v <;> rfl
theorem mixKind_int (prog : Program) (w : World) (i : Int) (t : Tok) : (mixKind prog w).is (.inl i) (.int i t) = true := keyIs_int i t
theorem mixKind_str (prog : Program) (w : World) (x : Str) (t : Tok) : (mixKind prog w).is (.inr x) (.str x t) = true := keyIs_str x t
end L2
namespace L2
open PySem PySem.Spec PyProof.Rows
inductive V where
  | non | bl (b : Bool) | int (i : Int) | str (x : Str) | byt (b : Array UInt8) | flt (b : UInt64) | ref (a : Addr) | ty (n : String)
  deriving DecidableEq
noncomputable def RelV : V → Value → Prop
  | .non, u => u = Value.none
  | .bl b, u => u = Value.bool b
  | .int i, u => ∃ t, u = Value.int i t
  | .str x, u => ∃ t, u = Value.str x t
  | .byt b, u => ∃ t, u = Value.bytes b t
  | .flt b, u => ∃ t, u = Value.float b t
  | .ref a, u => u = Value.ref a
  | .ty n, u => u = Value.type n
noncomputable abbrev Vals : List V → List Value → Prop := Paired RelV
theorem Vals.length {xs : List V} {us : List Value} (r : Vals xs us) : xs.length = us.length := Paired.length r
theorem Vals.get : ∀ {xs : List V} {us : List Value} {i : Nat} {x : V}, Vals xs us → xs[i]? = some x → ∃ u, us[i]? = some u ∧ RelV x u
  | _, _, _, _, .nil, e => by simp at e
  | _, _, 0, _, .cons r _, e => by simp at e; subst e; exact ⟨_, rfl, r⟩
  | _, _, i + 1, x, .cons _ t, e => by
    obtain ⟨u, h1, h2⟩ := Vals.get (i := i) (x := x) t (by simpa using e)
    exact ⟨u, by simpa using h1, h2⟩
theorem Vals.append : ∀ {xs ys : List V} {us ws : List Value}, Vals xs us → Vals ys ws → Vals (xs ++ ys) (us ++ ws) := by
  intro xs ys us ws h s
  induction h with
  | nil => exact s
  | cons r t ih => exact .cons r ih
theorem Vals.take : ∀ {xs : List V} {us : List Value} (n : Nat), Vals xs us → Vals (xs.take n) (us.take n)
  | _, _, 0, _ => .nil
  | _, _, _ + 1, .nil => .nil
  | _, _, n + 1, .cons r t => .cons r (Vals.take n t)
theorem Vals.drop : ∀ {xs : List V} {us : List Value} (n : Nat), Vals xs us → Vals (xs.drop n) (us.drop n)
  | _, _, 0, r => r
  | _, _, _ + 1, .nil => .nil
  | _, _, n + 1, .cons _ t => Vals.drop n t
noncomputable def RelO : Option V → Option Value → Prop
  | some v, some u => RelV v u
  | none, none => True
  | _, _ => False
noncomputable def KV {κ : Type} : List (κ × V) → List (κ × Value) → Prop := Paired fun (p : κ × V) (q : κ × Value) => p.1 = q.1 ∧ RelV p.2 q.2
noncomputable def kV : Key → V
  | .inl i => .int i
  | .inr x => .str x
inductive HO where
    | lst (xs : List V)
    | tup (xs : List V)
    | dK (kvs : List (Key × V)) | dT (kvs : List (List Key × V))
    | set (S : Int → Bool) (n : Nat)
    | ins (C dx : Addr) (fs : List (Str × V))
    | own (x : Addr)
    | xd (fs : List (Str × V))
    | met (f x : Addr)
    | rng (lo hi : Int)
    | frz (o : Obj) (u : HO)
    | tbl (ps : Array Value)
    | ext (φ : Heap → Prop)
noncomputable abbrev Hp := Addr → Option HO
noncomputable def upd (H : Hp) (a : Addr) (o : HO) : Hp := fun b => if b = a then some o else H b
theorem upd_same {H : Hp} {a : Addr} {o : HO} : upd H a o a = some o := by unfold upd; rw [if_pos rfl]
theorem upd_ne {H : Hp} {a b : Addr} {o : HO} (h : b ≠ a) : upd H a o b = H b := by unfold upd; rw [if_neg h]
theorem ne_of {H : Hp} {a b : Addr} {o u : HO} (h : H a = some o) (h' : H b = some u) (d : o ≠ u) : a ≠ b := by
  intro e; subst e; rw [h] at h'; exact d (Option.some.inj h')
theorem ne_of_none {H : Hp} {a b : Addr} {o : HO} (h : H a = some o) (h' : H b = none) : a ≠ b := by
  intro e; subst e; rw [h] at h'; cases h'
section
variable (P : Program) (w : World)
noncomputable def ObjOk (H : Hp) (h : Heap) (a : Addr) : HO → Prop
  | .lst xs => xs.length ≤ sizeLine ∧ ∃ (its : List Value) (n : Nat), Vals xs its ∧ h.get? a = some { cls := .type "list", data := .seq its.toArray n }
  | .tup xs => xs.length ≤ sizeLine ∧ ∃ its : List Value, Vals xs its ∧ IsTup h a its.toArray
  | .dK kvs => kvs.length ≤ sizeLine ∧ (a == sysModules) = false ∧ ∃ vs, KV kvs vs ∧ h.DictOf (mixKind P w) a vs
  | .dT kvs => kvs.length ≤ sizeLine ∧ (a == sysModules) = false ∧ ∃ xs : List (List Key × Addr × Value),
      Paired (fun (p : List Key × V) (q : List Key × Addr × Value) => p.1 = q.1 ∧ H q.2.1 = some (.tup (p.1.map kV)) ∧ RelV p.2 q.2.2) kvs xs ∧
      ∃ o es ep, h.get? a = some o ∧ o.ExactDict ∧ o.data = .dict es ep ∧ es.toList = xs.map (entryOfKey (tupleKind (mixKind P w))) ∧ (xs.map (·.1)).Nodup
  | .set S n => h.SetOf (intKind P w) a S n
  | .ins C dx fs => H dx = some (.own a) ∧ fs.length ≤ 1000 ∧ dx ≠ a ∧ h.get? a = some (PySem.W.instObj C dx) ∧
      ∃ mA, h.Ns1 dx mA ∧ (∀ f, RelO (fs.lookup f) (mA f)) ∧ PySem.Within mA (fs.map (·.1))
  | .own _ => ∃ o, h.get? a = some o
  | .xd fs => ∃ mA, h.Ns1 a mA ∧ ∀ f, RelO (fs.lookup f) (mA f)
  | .rng lo hi => ∃ t u v, h.get? a = some { cls := .type "range", data := .fields #[.int lo t, .int hi u, .int 1 v] }
  | .frz o u => h.get? a = some o ∧ ObjOk H h a u
  | .tbl ps => h.get? a = some { cls := .none, data := .fields ps }
  | .met f x => h.get? a = some (PySem.W.methodObj (.ref f) (.ref x))
  | .ext φ => φ h ∧ (∃ o, h.get? a = some o) ∧ ∀ h1 h2 : Heap, φ h1 → (∀ o, h1.get? a = some o → h2.get? a = some o) → φ h2
noncomputable def HOk (H : Hp) (h : Heap) : Prop := ∀ a o, H a = some o → ObjOk P w H h a o
end
section
variable {P : Program} {w : World} {H H' : Hp} {h h' : Heap} {a : Addr} {o : HO}
theorem ObjOk.lt (x : ObjOk P w H h a o) : a < h.objs.size := by
  cases o with
  | lst xs => obtain ⟨_, _, _, _, e⟩ := x; exact Heap.lt_size e
  | tup xs => obtain ⟨_, _, _, p⟩ := x; exact p.lt
  | dK kvs => obtain ⟨_, _, _, _, o, _, _, e, _⟩ := x; exact Heap.lt_size e
  | dT kvs => obtain ⟨_, _, _, _, o, _, _, e, _⟩ := x; exact Heap.lt_size e
  | set S n => obtain ⟨o, _, _, _, e, _⟩ := x; exact Heap.lt_size e
  | ins C dx fs => obtain ⟨_, _, _, e, _⟩ := x; exact Heap.lt_size e
  | own y => obtain ⟨_, e⟩ := x; exact Heap.lt_size e
  | xd fs => obtain ⟨_, ⟨_, _, _, e, _⟩, _⟩ := x; exact Heap.lt_size e
  | rng lo hi => obtain ⟨_, _, _, e⟩ := x; exact Heap.lt_size e
  | frz ob u => obtain ⟨e, _⟩ := x; exact Heap.lt_size e
  | tbl ps => exact Heap.lt_size (show h.get? a = some _ from x)
  | met f y => exact Heap.lt_size (show h.get? a = some _ from x)
  | ext φ => obtain ⟨_, ⟨_, e⟩, _⟩ := x; exact Heap.lt_size e
theorem Paired.mapP {α β : Type} {F G : α → β → Prop} : ∀ {l₁ : List α} {l₂ : List β}, Paired F l₁ l₂ → (∀ a b, F a b → G a b) → Paired G l₁ l₂
  | _, _, .nil, _ => .nil
  | _, _, .cons r t, f => .cons (f _ _ r) (Paired.mapP t f)
theorem ObjOk.stay (x : ObjOk P w H h a o) (k : ∀ b u, (b = a ∨ H b = some (.own a)) → h.get? b = some u → h'.get? b = some u)
    (ho : ∀ b, H b = some (.own a) → H' b = some (.own a)) (ht : ∀ b xs, H b = some (.tup xs) → H' b = some (.tup xs)) : ObjOk P w H' h' a o := by
  induction o with
  | lst xs => obtain ⟨z, its, n, r, e⟩ := x; exact ⟨z, its, n, r, k _ _ (.inl rfl) e⟩
  | tup xs => obtain ⟨z, its, r, ob, e, c⟩ := x; exact ⟨z, its, r, ob, k _ _ (.inl rfl) e, c⟩
  | dK kvs => obtain ⟨z, y, vs, r, ob, es, ep, e, c⟩ := x; exact ⟨z, y, vs, r, ob, es, ep, k _ _ (.inl rfl) e, c⟩
  | dT kvs =>
    obtain ⟨z, y, xs, r, ob, es, ep, e, c⟩ := x
    exact ⟨z, y, xs, Paired.mapP r fun p q z => ⟨z.1, ht _ _ z.2.1, z.2.2⟩, ob, es, ep, k _ _ (.inl rfl) e, c⟩
  | set S n => obtain ⟨ob, es, ep, t, e, c⟩ := x; exact ⟨ob, es, ep, t, k _ _ (.inl rfl) e, c⟩
  | ins C dx fs =>
    obtain ⟨d, z, ne, e, mA, ⟨od, es, ep, e2, c⟩, r⟩ := x
    exact ⟨ho _ d, z, ne, k _ _ (.inl rfl) e, mA, ⟨od, es, ep, k _ _ (.inr d) e2, c⟩, r⟩
  | own y => obtain ⟨ob, e⟩ := x; exact ⟨ob, k _ _ (.inl rfl) e⟩
  | xd fs => obtain ⟨mA, ⟨od, es, ep, e, c⟩, r⟩ := x; exact ⟨mA, ⟨od, es, ep, k _ _ (.inl rfl) e, c⟩, r⟩
  | rng lo hi => obtain ⟨t, u, v, e⟩ := x; exact ⟨t, u, v, k _ _ (.inl rfl) e⟩
  | frz ob u ih => obtain ⟨e, q⟩ := x; exact ⟨k _ _ (.inl rfl) e, ih q⟩
  | tbl ps =>
    have e : h.get? a = some { cls := .none, data := .fields ps } := x
    show h'.get? a = some { cls := .none, data := .fields ps }
    exact k a _ (.inl rfl) e
  | met f y =>
    have e : h.get? a = some (PySem.W.methodObj (.ref f) (.ref y)) := x
    show h'.get? a = some (PySem.W.methodObj (.ref f) (.ref y))
    exact k a _ (.inl rfl) e
  | ext φ => obtain ⟨p, ⟨o, e⟩, st⟩ := x; exact ⟨st _ _ p fun o q => k _ _ (.inl rfl) q, ⟨o, k _ _ (.inl rfl) e⟩, st⟩
theorem HOk.lt (x : HOk P w H h) (e : H a = some o) : a < h.objs.size := (x a o e).lt
theorem HOk.fresh (x : HOk P w H h) (e : h.objs.size ≤ a) : H a = none := by
  cases q : H a with
  | none => rfl
  | some u => exact absurd (Nat.lt_of_lt_of_le (x.lt q) e) (Nat.lt_irrefl _)
theorem HOk.kept (x : HOk P w H h) (k : ∀ b u, h.get? b = some u → h'.get? b = some u) : HOk P w H h' := fun a o e =>
  (x a o e).stay (fun b u _ q => k b u q) (fun _ q => q) fun _ _ q => q
theorem HOk.laid (x : HOk P w H h) (k : ∀ b u, h.get? b = some u → h'.get? b = some u) (hp : h.objs.size ≤ a) (new : ObjOk P w (upd H a o) h' a o) : HOk P w (upd H a o) h' := fun b u e => by
  have hn := x.fresh hp
  by_cases hb : b = a
  · subst hb; rw [upd_same] at e; cases e; exact new
  · rw [upd_ne hb] at e
    exact (x b u e).stay (fun c v _ q => k c v q) (fun c q => by rw [upd_ne (ne_of_none q hn)]; exact q) fun c xs q => by rw [upd_ne (ne_of_none q hn)]; exact q
end
noncomputable def Rd (H : Hp) (a : Addr) (u : HO) : Prop := H a = some u ∨ ∃ o, H a = some (.frz o u)
theorem Rd.ok {P : Program} {w : World} {H : Hp} {h : Heap} {a : Addr} {u : HO} (r : Rd H a u) (x : HOk P w H h) : ObjOk P w H h a u := by
  rcases r with r | ⟨o, r⟩
  · exact x a u r
  · obtain ⟨_, q⟩ := x a _ r
    exact q
noncomputable def Mut : Option HO → Prop
  | some (.lst _) => True
  | some (.dK _) => True
  | some (.dT _) => True
  | some (.set _ _) => True
  | some (.ins _ _ _) => True
  | some (.ext _) => True
  | _ => False
section
variable {P : Program} {w : World} {H : Hp} {h h' : Heap} {x e : Addr} {o' : HO}
theorem HOk.write (ok : HOk P w H h) (mu : Mut (H x)) (he : e = x ∨ H e = some (.own x)) (k : ∀ b u, b ≠ e → h.get? b = some u → h'.get? b = some u) (heo : ∃ u, h'.get? e = some u)
    (new : ObjOk P w (upd H x o') h' x o') : HOk P w (upd H x o') h' := fun b u q => by
  have nown : ∀ c y, H c = some (.own y) → c ≠ x := fun c y r z => by subst z; rw [r] at mu; exact mu
  have ntup : ∀ c xs, H c = some (.tup xs) → c ≠ x := fun c xs r z => by subst z; rw [r] at mu; exact mu
  by_cases hb : b = x
  · subst hb; rw [upd_same] at q; cases q; exact new
  · rw [upd_ne hb] at q
    by_cases hbe : b = e
    · have q' : H b = some (.own x) := by
        rcases he with z | z
        · exact absurd (hbe.trans z) hb
        · rw [hbe]; exact z
      rw [q] at q'; cases q'
      obtain ⟨v, hv⟩ := heo
      exact ⟨v, by rw [hbe]; exact hv⟩
    · refine (ok b u q).stay (fun c v hc r => k c v ?_ r) (fun c r => by rw [upd_ne (nown c b r)]; exact r) fun c xs r => by rw [upd_ne (ntup c xs r)]; exact r
      rcases hc with rfl | hc
      · exact hbe
      · rintro rfl
        rcases he with z | z
        · exact nown c b hc z
        · rw [hc] at z; cases z; exact hb rfl
end
structure Un (fs ex : List Addr) (H H' : Hp) (h h' : Heap) : Prop where
  keep : ∀ b o, h.get? b = some o → H b = none → b ∉ fs → b ∉ ex → h'.get? b = some o
  slot : ∀ b o, h.get? b = some o → H b = none → b ∈ fs → b ∉ ex → ∃ sl, h'.get? b = some { o with slots := sl }
  free : ∀ b o, h.get? b = some o → H b = none → b ∉ ex → H' b = none
  there : ∀ b o, h.get? b = some o → b ∉ ex → ∃ o', h'.get? b = some o'
  tups : ∀ b xs, H b = some (.tup xs) → H' b = some (.tup xs)
  frzs : ∀ b o u, H b = some (.frz o u) → H' b = some (.frz o u)
  tbls : ∀ b ps, H b = some (.tbl ps) → ∃ more, H' b = some (.tbl (ps ++ more))
section
variable {fs fs' ex ex' : List Addr} {H H1 H2 : Hp} {h h1 h2 h' : Heap} {a x e : Addr} {o : HO}
theorem Un.any (u : Un fs ex H H1 h h1) {b : Addr} {ob : Obj} (q : h.get? b = some ob) (n : H b = none) (hx : b ∉ ex) : ∃ sl, h1.get? b = some { ob with slots := sl } := by
  by_cases hb : b ∈ fs
  · exact u.slot b ob q n hb hx
  · exact ⟨ob.slots, u.keep b ob q n hb hx⟩
theorem Un.kept (k : ∀ b u, h.get? b = some u → h'.get? b = some u) : Un fs ex H H h h' :=
  ⟨fun b ob q _ _ _ => k b ob q, fun b ob q _ _ _ => ⟨ob.slots, k b ob q⟩, fun _ _ _ n _ => n, fun b ob q _ => ⟨ob, k b ob q⟩, fun _ _ q => q, fun _ _ _ q => q, fun _ ps q => ⟨#[], by rw [q]; simp⟩⟩
theorem Un.refl : Un fs ex H H h h := Un.kept fun _ _ q => q
theorem Un.laid (k : ∀ b u, h.get? b = some u → h'.get? b = some u) (hp : h.objs.size ≤ a) (hn : H a = none) : Un fs ex H (upd H a o) h h' where
  keep := fun b u q _ _ _ => k b u q
  slot := fun b u q _ _ _ => ⟨u.slots, k b u q⟩
  free := fun b u q n _ => by rw [upd_ne (Nat.ne_of_lt (Nat.lt_of_lt_of_le (Heap.lt_size q) hp))]; exact n
  there := fun b u q _ => ⟨u, k b u q⟩
  tups := fun b xs q => by rw [upd_ne (ne_of_none q hn)]; exact q
  frzs := fun b u xs q => by rw [upd_ne (ne_of_none q hn)]; exact q
  tbls := fun b ps q => ⟨#[], by rw [upd_ne (ne_of_none q hn), q]; simp⟩
theorem Un.write (mu : Mut (H x)) (he : e = x ∨ H e = some (.own x)) (k : ∀ b u, b ≠ e → h.get? b = some u → h'.get? b = some u) (heo : ∃ u, h'.get? e = some u) : Un fs ex H (upd H x o) h h' := by
  have hx : ∀ b, H b = none → b ≠ x := fun b n z => by subst z; rw [n] at mu; exact mu
  have hb : ∀ b, H b = none → b ≠ e := fun b n z => by
    subst z
    rcases he with r | r
    · exact hx b n r
    · rw [n] at r; cases r
  have hm : ∀ b u, H b = some u → ¬ Mut (some u) → b ≠ x := fun b u q nm z => by subst z; rw [q] at mu; exact nm mu
  refine ⟨fun b u q n _ _ => k b u (hb b n) q, fun b u q n _ _ => ⟨u.slots, k b u (hb b n) q⟩, fun b u q n _ => by rw [upd_ne (hx b n)]; exact n, fun b u q _ => ?_,
    fun b xs q => by rw [upd_ne (hm b _ q fun z => z)]; exact q, fun b u xs q => by rw [upd_ne (hm b _ q fun z => z)]; exact q, fun b ps q => ⟨#[], by rw [upd_ne (hm b _ q fun z => z), q]; simp⟩⟩
  by_cases hbe : b = e
  · subst hbe; exact heo
  · exact ⟨u, k b u hbe q⟩
end
noncomputable def trk (h : Heap) (H : Hp) : List Addr := (List.range h.objs.size).filter fun a => (H a).isSome
noncomputable def hidT (h : Heap) (H : Hp) : Heap := PySem.W.hideAll h (trk h H)
theorem hidT_size (h : Heap) (H : Hp) : (hidT h H).objs.size = h.objs.size := PySem.W.hideAll_size _ _
theorem hidT_get {h : Heap} {H : Hp} {b : Addr} {o : Obj} (e : h.get? b = some o) (n : H b = none) : (hidT h H).get? b = some o :=
  PySem.W.hideAll_get _ e fun hm => by
    have q : (H b).isSome = true := (List.mem_filter.mp hm).2
    rw [n] at q; simp at q
theorem of_hidT {h : Heap} {H : Hp} {b : Addr} {o : Obj} (e : (hidT h H).get? b = some o) : h.get? b = some o ∧ H b = none := by
  have e' : h.get? b = some o := PySem.W.of_hideAll (trk h H) e
  refine ⟨e', ?_⟩
  cases q : H b with
  | none => rfl
  | some x =>
    have hm : b ∈ trk h H := List.mem_filter.mpr ⟨List.mem_range.mpr (Heap.lt_size e'), by simp [q]⟩
    have z : (hidT h H).get? b = none := PySem.W.hideAll_none (trk h H) hm
    rw [z] at e; cases e
end L2
namespace L2
open PySem PySem.Spec PyProof.Rows
structure Mod (K : PySem.W.Frag) (mg : Str → Option Value) (base : Heap) : Prop where
  kin : K.In base
  glob : base.Ns mainGlobals mg
  blt : ∃ mb, base.Ns builtinsNs mb ∧ ∀ x : Str, x ≠ "__name__" → mb x = bootBuiltins x
  nolimit : base.NoLimit
structure Cx where
  prog : Program
  w : World
  K : PySem.W.Frag
  mg : Str → Option Value
  base : Heap
  A : Around
  N : List Str
  s₀ : Shared
  H₀ : Hp
  env : Env
  outer : List Env
  stack : List Env
  ex : List Addr
  fn : Str → Bool
  calm : Bool
  pn : List (Addr × Obj)
  xe : Value → Shared → Prop
noncomputable def frs (l : List Env) : List Addr := l.filterMap (·.frame)
noncomputable abbrev Cx.fs (X : Cx) : List Addr := frs X.outer
noncomputable def Vis (sc : Scope) (x : Str) : Prop := sc.names.lookup x = some .local ∨ sc.names.lookup x = some .cell ∨ sc.names.lookup x = some .free
noncomputable def Loc (sc : Scope) (x : Str) : Prop := sc.names.lookup x = some .local ∨ sc.names.lookup x = some .cell
noncomputable def Look (env : Env) (h : Heap) (m : Str → Option Value) (x : Str) (u : Value) : Prop :=
  (env.kindOf x = some .local ∧ m x = some u) ∨ ((env.kindOf x = some .cell ∨ env.kindOf x = some .free) ∧ ∃ c, env.cells.lookup x = some c ∧ h.IsCell c (some u))
structure Cx.Ok (X : Cx) : Prop where
  mod : Mod X.K X.mg X.base
  kind : X.env.scope.kind = .function
  glob : X.env.globals = mainGlobals
  blt : X.env.builtins = builtinsNs
  above : X.s₀.heap.objs.size ≤ X.env.locals
  inj : ∀ x y c, X.env.cells.lookup x = some c → X.env.cells.lookup y = some c → x = y
  has : ∀ x, (X.env.kindOf x = some .cell ∨ X.env.kindOf x = some .free) → ∃ c, X.env.cells.lookup x = some c
  cab : ∀ x c, X.fn x = true → X.env.cells.lookup x = some c → X.s₀.heap.objs.size ≤ c
  hd : X.calm = true → X.A.handled = none
  frames : X.A.frames = some X.stack
  stk : X.stack = X.outer ∨ (X.stack = X.env :: X.outer ∧ X.env.frame = some X.env.locals)
  exf : ∀ b ∈ X.ex, b ≠ X.env.locals ∧ ∀ x c, X.env.cells.lookup x = some c → c ≠ b
  bs : ∀ b o, X.base.get? b = some o → X.s₀.heap.get? b = some o ∧ X.H₀ b = none
  bsz : X.base.objs.size ≤ X.s₀.heap.objs.size
  noex : ∀ b o, X.base.get? b = some o → b ∉ X.ex
  exfs : ∀ b ∈ X.ex, b ∉ X.fs
  funs : X.s₀.heap.FunFrames X.base X.outer
  frf : ∀ b ∈ X.fs, X.H₀ b = none
structure Inv (X : Cx) (pins : List (Addr × Obj)) (σ : List (Option V)) (H : Hp) (s : Shared) : Prop where
  ok : X.Ok
  os : s.os = X.s₀.os
  bare : AllBare s.gens
  base : Un X.fs X.ex X.H₀ H X.s₀.heap s.heap
  loc : ∃ m, s.heap.Ns X.env.locals m ∧ ∀ (i : Nat) (x : Str) (v : V), X.N[i]? = some x → σ[i]? = some (some v) → Vis X.env.scope x → ∃ u, RelV v u ∧ Look X.env s.heap m x u
  cell : ∀ x c, X.env.cells.lookup x = some c → ∃ v, s.heap.IsCell c v
  free : H X.env.locals = none
  freeC : ∀ x c, X.env.cells.lookup x = some c → H c = none
  pin : ∀ p ∈ X.pn ++ pins, s.heap.get? p.1 = some p.2 ∧ H p.1 = none ∧ p.1 ≠ X.env.locals ∧ p.1 ∉ X.fs ∧ ∀ v, p.2.data ≠ .cell v
  hok : HOk X.prog X.w H s.heap
  len : σ.length = X.N.length
section
variable {X : Cx} {pins : List (Addr × Obj)} {σ : List (Option V)} {H H' : Hp} {s : Shared} {h' : Heap}
theorem Cx.Ok.nofr (ok : X.Ok) {b : Addr} {o : Obj} (e : X.base.get? b = some o) : b ∉ X.fs := fun hb => by
  have := (ok.funs.mem hb).1
  rw [e] at this; cases this
theorem Inv.bs (I : Inv X pins σ H s) : ∀ b o, X.base.get? b = some o → s.heap.get? b = some o ∧ H b = none := fun b o e =>
  ⟨I.base.keep b o (I.ok.bs b o e).1 (I.ok.bs b o e).2 (I.ok.nofr e) (I.ok.noex b o e), I.base.free b o (I.ok.bs b o e).1 (I.ok.bs b o e).2 (I.ok.noex b o e)⟩
theorem Inv.bk (I : Inv X pins σ H s) : ∀ b o, X.base.get? b = some o → s.heap.get? b = some o := fun b o e => (I.bs b o e).1
theorem Inv.mod (I : Inv X pins σ H s) : Mod X.K X.mg X.base := I.ok.mod
theorem Inv.kIn (I : Inv X pins σ H s) : X.K.In s.heap := I.ok.mod.kin.keeps I.bk
theorem Inv.lt (I : Inv X pins σ H s) : X.env.locals < s.heap.objs.size := let ⟨_, hn, _⟩ := I.loc; hn.lt
theorem Inv.sz (I : Inv X pins σ H s) : X.s₀.heap.objs.size ≤ s.heap.objs.size := Nat.le_trans I.ok.above (Nat.le_of_lt I.lt)
theorem Inv.nofs (I : Inv X pins σ H s) {a : Addr} (h : s.heap.objs.size ≤ a) : a ∉ X.fs := fun hb => by
  obtain ⟨_, o, ho, _⟩ := I.ok.funs.mem hb
  exact absurd (Nat.lt_of_lt_of_le (Heap.lt_size ho) (Nat.le_trans I.sz h)) (Nat.lt_irrefl _)
theorem Inv.cne (I : Inv X pins σ H s) : ∀ x c, X.env.cells.lookup x = some c → c ≠ X.env.locals := fun x c e z => by
  obtain ⟨v, o, ho, hd⟩ := I.cell x c e
  obtain ⟨m, ⟨o', es, ep, ho', hd', _⟩, _⟩ := I.loc
  rw [z, ho'] at ho; cases ho; rw [hd'] at hd; cases hd
theorem Inv.funs (I : Inv X pins σ H s) : s.heap.FunFrames X.base X.outer := by
  have all : ∀ (l : List Env), (∀ b ∈ frs l, b ∈ X.fs) → X.s₀.heap.FunFrames X.base l → s.heap.FunFrames X.base l := by
    intro l
    induction l with
    | nil => intro _ _; trivial
    | cons env r ih =>
      intro hs hl
      obtain ⟨hk, ⟨L, o, hf, hn, ho, hd⟩, hr⟩ := hl
      have hL : L ∈ X.fs := hs L (by unfold frs; rw [List.filterMap_cons, hf]; exact List.mem_cons_self)
      obtain ⟨sl, e⟩ := I.base.slot L o ho (I.ok.frf L hL) hL fun z => I.ok.exfs L z hL
      exact ⟨hk, ⟨L, _, hf, hn, e, hd⟩, ih (fun b hb => hs b (by unfold frs; rw [List.filterMap_cons, hf]; exact List.mem_cons_of_mem _ hb)) hr⟩
  exact all X.outer (fun _ hb => hb) I.ok.funs
theorem Inv.stack (I : Inv X pins σ H s) : s.heap.FunFrames X.base X.stack := by
  rcases I.ok.stk with e | ⟨e, hf⟩
  · rw [e]; exact I.funs
  · rw [e]
    obtain ⟨m, hn, _⟩ := I.loc
    refine .cons (by rw [I.ok.kind]; decide) hf hn ?_ I.funs
    exact Heap.get?_none_of_le (Nat.le_trans I.ok.bsz I.ok.above)
theorem Inv.stkSub (I : Inv X pins σ H s) : ∀ b ∈ frs X.stack, b ∈ X.env.locals :: X.fs := fun b hb => by
  rcases I.ok.stk with e | ⟨e, hf⟩
  · rw [e] at hb; exact List.mem_cons_of_mem _ hb
  · rw [e] at hb
    unfold frs at hb
    rw [List.filterMap_cons, hf] at hb
    exact hb
theorem Inv.stkFree (I : Inv X pins σ H s) : ∀ b ∈ frs X.stack, H b = none := fun b hb => by
  rcases List.mem_cons.mp (I.stkSub b hb) with e | hb
  · rw [e]; exact I.free
  · obtain ⟨_, o, ho, _⟩ := I.ok.funs.mem hb
    exact I.base.free b o ho (I.ok.frf b hb) fun z => I.ok.exfs b z hb
theorem Inv.step {g' : Array GenState} {t' : Nat} {d' : Drawn} {ch : List Addr} (I : Inv X pins σ H s)
    (hch : ∀ b ∈ ch, (b ∈ X.ex ∨ X.s₀.heap.objs.size ≤ b) ∧ b ≠ X.env.locals ∧ (∀ x c, X.env.cells.lookup x = some c → c ≠ b) ∧ ∀ p ∈ X.pn ++ pins, p.1 ≠ b)
    (keep : ∀ b o, b ≠ X.env.locals → b ∉ X.fs → b ∉ ch → s.heap.get? b = some o → H b = none → h'.get? b = some o)
    (slot : ∀ b o, b ≠ X.env.locals → b ∈ X.fs → b ∉ ch → s.heap.get? b = some o → H b = none → ∃ sl, h'.get? b = some { o with slots := sl }) (free : ∀ b o, b ∉ ch → s.heap.get? b = some o → H b = none → H' b = none)
    (there : ∀ b o, b ∉ ch → s.heap.get? b = some o → ∃ o', h'.get? b = some o')
    (tups : ∀ b xs, H b = some (.tup xs) → H' b = some (.tup xs)) (frzs : ∀ b o u, H b = some (.frz o u) → H' b = some (.frz o u)) (tbls : ∀ b ps, H b = some (.tbl ps) → ∃ more, H' b = some (.tbl (ps ++ more)))
    (ns : ∀ m, s.heap.Ns X.env.locals m → h'.Ns X.env.locals m) (hok : HOk X.prog X.w H' h') (hg : AllBare g') :
    Inv X pins σ H' { s with heap := h', gens := g', drawn := d', toks := t' } := by
  have neL : ∀ b o, X.s₀.heap.get? b = some o → b ≠ X.env.locals := fun b o e => Nat.ne_of_lt (Nat.lt_of_lt_of_le (Heap.lt_size e) I.ok.above)
  have neC : ∀ b o, X.s₀.heap.get? b = some o → b ∉ X.ex → b ∉ ch := fun b o e hx hb => by
    rcases (hch b hb).1 with z | z
    · exact hx z
    · exact absurd (Nat.lt_of_lt_of_le (Heap.lt_size e) z) (Nat.lt_irrefl _)
  have cellK : ∀ x c, X.env.cells.lookup x = some c → ∀ v, s.heap.IsCell c v → h'.IsCell c v := fun x c e v ⟨o, ho, hd⟩ => by
    have nch : c ∉ ch := fun z => (hch c z).2.2.1 x c e rfl
    by_cases hc : c ∈ X.fs
    · obtain ⟨sl, q⟩ := slot c o (I.cne x c e) hc nch ho (I.freeC x c e)
      exact ⟨_, q, hd⟩
    · exact ⟨o, keep c o (I.cne x c e) hc nch ho (I.freeC x c e), hd⟩
  refine ⟨I.ok, I.os, hg, ⟨fun b o e n hb hx => ?_, fun b o e n hb hx => ?_, fun b o e n hx => ?_, fun b o e hx => ?_, fun b xs e => tups b xs (I.base.tups b xs e), fun b o xs e => frzs b o xs (I.base.frzs b o xs e), fun b ps e => ?_⟩, ?_, fun x c e => ?_, ?_, fun x c e => ?_, fun p hp => ?_, hok, I.len⟩
  · exact keep b o (neL b o e) hb (neC b o e hx) (I.base.keep b o e n hb hx) (I.base.free b o e n hx)
  · obtain ⟨sl, e1⟩ := I.base.slot b o e n hb hx
    obtain ⟨sl', e2⟩ := slot b _ (neL b o e) hb (neC b o e hx) e1 (I.base.free b o e n hx)
    exact ⟨sl', e2⟩
  · obtain ⟨o', e1⟩ := I.base.there b o e hx
    exact free b o' (neC b o e hx) e1 (I.base.free b o e n hx)
  · obtain ⟨o', e1⟩ := I.base.there b o e hx
    exact there b o' (neC b o e hx) e1
  · obtain ⟨m1, e1⟩ := I.base.tbls b ps e
    obtain ⟨m2, e2⟩ := tbls b _ e1
    exact ⟨m1 ++ m2, by rw [e2, Array.append_assoc]⟩
  · obtain ⟨m, hn, hl⟩ := I.loc
    refine ⟨m, ns m hn, fun i x v e1 e2 e3 => ?_⟩
    obtain ⟨u, r, l⟩ := hl i x v e1 e2 e3
    refine ⟨u, r, ?_⟩
    rcases l with l | ⟨k, c, e, z⟩
    · exact .inl l
    · exact .inr ⟨k, c, e, cellK x c e _ z⟩
  · obtain ⟨v, z⟩ := I.cell x c e
    exact ⟨v, cellK x c e v z⟩
  · obtain ⟨m, ⟨o, _, _, ho, _⟩, _⟩ := I.loc
    exact free _ o (fun z => (hch _ z).2.1 rfl) ho I.free
  · obtain ⟨v, o, ho, hd⟩ := I.cell x c e
    exact free c o (fun z => (hch c z).2.2.1 x c e rfl) ho (I.freeC x c e)
  · obtain ⟨e, n, ne, nf, d⟩ := I.pin p hp
    have nch : p.1 ∉ ch := fun z => (hch p.1 z).2.2.2 p hp rfl
    exact ⟨keep p.1 p.2 ne nf nch e n, free p.1 p.2 nch e n, ne, nf, d⟩
theorem Inv.un {t' : Nat} (I : Inv X pins σ H s) (u : Un X.fs [] H H' s.heap h') (hok : HOk X.prog X.w H' h') : Inv X pins σ H' { s with heap := h', toks := t' } := by
  obtain ⟨m, ⟨o, es, ep, ho, r⟩, _⟩ := id I.loc
  obtain ⟨sl, hL⟩ := u.any ho I.free (by simp)
  exact I.step (g' := s.gens) (d' := s.drawn) (ch := []) (fun _ z => nomatch z) (fun b o _ hb _ e n => u.keep b o e n hb (by simp)) (fun b o _ hb _ e n => u.slot b o e n hb (by simp)) (fun b o _ e n => u.free b o e n (by simp)) (fun b o _ e => u.there b o e (by simp)) u.tups u.frzs u.tbls (fun m' hm => by
    obtain ⟨o', es', ep', ho', r'⟩ := hm
    rw [ho] at ho'; cases ho'
    exact ⟨_, es', ep', hL, r'⟩) hok I.bare
theorem Inv.call {g' : Array GenState} {t' : Nat} {d' : Drawn} {ch : List Addr} (I : Inv X pins σ H s) (u : Un (frs X.stack) ch H H' s.heap h') (hok : HOk X.prog X.w H' h') (hg : AllBare g')
    (hch : ∀ b ∈ ch, (b ∈ X.ex ∨ X.s₀.heap.objs.size ≤ b) ∧ b ≠ X.env.locals ∧ (∀ x c, X.env.cells.lookup x = some c → c ≠ b) ∧ ∀ p ∈ X.pn ++ pins, p.1 ≠ b) :
    Inv X pins σ H' { s with heap := h', gens := g', drawn := d', toks := t' } := by
  obtain ⟨m, ⟨o, es, ep, ho, r⟩, _⟩ := id I.loc
  obtain ⟨sl, hL⟩ := u.any ho I.free fun z => (hch _ z).2.1 rfl
  exact I.step (ch := ch) hch (fun b o hL hb hc e n => u.keep b o e n (fun z => (List.mem_cons.mp (I.stkSub b z)).elim hL hb) hc) (fun b o _ _ hc e n => u.any e n hc) (fun b o hc e n => u.free b o e n hc) (fun b o hc e => u.there b o e hc) u.tups u.frzs u.tbls (fun m' hm => by
    obtain ⟨o', es', ep', ho', r'⟩ := hm
    rw [ho] at ho'; cases ho'
    exact ⟨_, es', ep', hL, r'⟩) hok hg
theorem Inv.turned {t' : Nat} {it : Addr} (I : Inv X pins σ H s) (k : ∀ b o, b ≠ it → s.heap.get? b = some o → h'.get? b = some o) (hn : H it = none) (hL : it ≠ X.env.locals)
    (h1 : it ∈ X.ex ∨ X.s₀.heap.objs.size ≤ it) (h2 : ∀ x c, X.env.cells.lookup x = some c → c ≠ it) (h3 : ∀ p ∈ X.pn ++ pins, p.1 ≠ it) : Inv X pins σ H { s with heap := h', toks := t' } := by
  have nit : ∀ b u, H b = some u → b ≠ it := fun b u e z => by rw [z, hn] at e; cases e
  refine I.step (g' := s.gens) (d' := s.drawn) (ch := [it]) (fun b hb => ?_) (fun b o _ _ hc e _ => k b o (fun z => hc (by simp [z])) e) (fun b o _ _ hc e _ => ⟨o.slots, k b o (fun z => hc (by simp [z])) e⟩) (fun _ _ _ _ n => n)
    (fun b o hc e => ⟨o, k b o (fun z => hc (by simp [z])) e⟩) (fun _ _ e => e) (fun _ _ _ e => e) (fun b ps e => ⟨#[], by rw [e]; simp⟩) (fun m hm => ?_) (fun b u e => ?_) I.bare
  · have e : b = it := by simpa using hb
    subst e
    exact ⟨h1, hL, h2, h3⟩
  · obtain ⟨o, es, ep, ho, r⟩ := hm
    exact ⟨o, es, ep, k _ o (Ne.symm hL) ho, r⟩
  · refine (I.hok b u e).stay (fun c v hc q => k c v ?_ q) (fun _ q => q) fun _ _ q => q
    rcases hc with z | z
    · rw [z]; exact nit b u e
    · exact nit c _ z
theorem Inv.tok (I : Inv X pins σ H s) (t : Nat) : Inv X pins σ H { s with toks := t } := I.un (h' := s.heap) (t' := t) Un.refl I.hok
theorem Inv.kept {t' : Nat} (I : Inv X pins σ H s) (k : ∀ b u, s.heap.get? b = some u → h'.get? b = some u) : Inv X pins σ H { s with heap := h', toks := t' } := I.un (Un.kept k) (I.hok.kept k)
theorem Inv.laid {a : Addr} {o : HO} {t' : Nat} (I : Inv X pins σ H s) (k : ∀ b u, s.heap.get? b = some u → h'.get? b = some u) (hp : s.heap.objs.size ≤ a) (new : ObjOk X.prog X.w (upd H a o) h' a o) :
    Inv X pins σ (upd H a o) { s with heap := h', toks := t' } := I.un (Un.laid k hp (I.hok.fresh hp)) (I.hok.laid k hp new)
theorem Inv.write {x e : Addr} {o : HO} {t' : Nat} (I : Inv X pins σ H s) (mu : Mut (H x)) (he : e = x ∨ H e = some (.own x)) (k : ∀ b u, b ≠ e → s.heap.get? b = some u → h'.get? b = some u) (heo : ∃ u, h'.get? e = some u)
    (new : ObjOk X.prog X.w (upd H x o) h' x o) : Inv X pins σ (upd H x o) { s with heap := h', toks := t' } := I.un (Un.write mu he k heo) (I.hok.write mu he k heo new)
theorem Inv.weak {σ' : List (Option V)} (I : Inv X pins σ H s) (hl : σ'.length = σ.length) (w : ∀ (i : Nat) v, σ'[i]? = some (some v) → σ[i]? = some (some v)) : Inv X pins σ' H s :=
  ⟨I.ok, I.os, I.bare, I.base, let ⟨m, hn, hl'⟩ := I.loc; ⟨m, hn, fun i x v e1 e2 e3 => hl' i x v e1 (w i v e2) e3⟩, I.cell, I.free, I.freeC, I.pin, I.hok, hl.trans I.len⟩
theorem Inv.pins_of {pins' : List (Addr × Obj)} (I : Inv X pins σ H s) (h : ∀ p ∈ pins', s.heap.get? p.1 = some p.2 ∧ H p.1 = none ∧ p.1 ≠ X.env.locals ∧ p.1 ∉ X.fs ∧ ∀ v, p.2.data ≠ .cell v) : Inv X pins' σ H s :=
  ⟨I.ok, I.os, I.bare, I.base, I.loc, I.cell, I.free, I.freeC, fun p hp => (List.mem_append.mp hp).elim (fun z => I.pin p (List.mem_append_left _ z)) (h p), I.hok, I.len⟩
theorem nodup_ix {N : List Str} (hN : N.Nodup) {i j : Nat} {x : Str} (a : N[i]? = some x) (b : N[j]? = some x) : i = j := by
  obtain ⟨h1, e1⟩ := List.getElem?_eq_some_iff.mp a
  obtain ⟨h2, e2⟩ := List.getElem?_eq_some_iff.mp b
  exact (List.getElem_inj hN).mp (e1.trans e2.symm)
theorem store_ok2 {M : Model} {A : Around} {E : Value → Shared → Prop} {i : Nat} {x : Str} {v : V} {u : Value} {Q : Unit → Shared → Prop} (I : Inv X pins σ H s) (hN : X.N.Nodup) (hi : X.N[i]? = some x) (hx : Loc X.env.scope x) (r : RelV v u)
    (h : ∀ s', Inv X pins (σ.set i (some v)) H s' → (∃ a, Heap.SameBut a s.heap s'.heap ∧ (a = X.env.locals ∨ X.env.cells.lookup x = some a)) → Q () s') (hf : X.fn x = true ∨ X.env.scope.names.lookup x = some .local := by first | exact .inl rfl | exact .inr rfl | assumption) : wpAny M A (storeName X.env x u) Q E s := by
  obtain ⟨m, hn, hl⟩ := id I.loc
  have hcls : (X.env.scope.kind == .class || (X.env.scope.kind == .module && X.env.locals != X.env.globals)) = false := by rw [I.ok.kind]; rfl
  have hiσ : i < σ.length := by rw [I.len]; exact (List.getElem?_eq_some_iff.mp hi).1
  have cne := I.cne
  have tracked : ∀ {a : Addr} {h' : Heap}, (∃ o, s.heap.get? a = some o ∧ H a = none) → Heap.SameBut a s.heap h' → HOk X.prog X.w H h' := fun {a h'} ha hs b ob e => by
    obtain ⟨_, _, hfree⟩ := ha
    refine (I.hok b ob e).stay (fun c w' hc q => (hs.2 c ?_).trans q) (fun _ q => q) fun _ _ q => q
    rintro rfl
    rcases hc with rfl | hc
    · rw [hfree] at e; cases e
    · rw [hfree] at hc; cases hc
  rcases hx with hk | hk
  · refine wpAny_storeName_local hk hn (fun h' hn' hs => ?_) hcls
    obtain ⟨oL, _, _, hoL, _⟩ := id hn
    refine h _ ⟨I.ok, I.os, I.bare, ⟨fun b o e n hb hx => ?_, fun b o e n hb hx => ?_, I.base.free, fun b o e hx => ?_, I.base.tups, I.base.frzs, I.base.tbls⟩, ⟨_, hn', fun j y v' e1 e2 e3 => ?_⟩, fun y c e => ?_, I.free, I.freeC, fun p hp => ?_, tracked ⟨oL, hoL, I.free⟩ hs, by simpa using I.len⟩ ⟨_, hs, .inl rfl⟩
    · exact (hs.2 b (Nat.ne_of_lt (Nat.lt_of_lt_of_le (Heap.lt_size e) I.ok.above))).trans (I.base.keep b o e n hb hx)
    · obtain ⟨sl, e1⟩ := I.base.slot b o e n hb hx
      exact ⟨sl, (hs.2 b (Nat.ne_of_lt (Nat.lt_of_lt_of_le (Heap.lt_size e) I.ok.above))).trans e1⟩
    · obtain ⟨o', e1⟩ := I.base.there b o e hx
      exact ⟨o', (hs.2 b (Nat.ne_of_lt (Nat.lt_of_lt_of_le (Heap.lt_size e) I.ok.above))).trans e1⟩
    · by_cases hj : j = i
      · subst hj
        rw [hi] at e1; cases e1
        rw [List.getElem?_set_self hiσ] at e2
        cases e2
        exact ⟨u, r, .inl ⟨hk, by simp⟩⟩
      · rw [List.getElem?_set_ne (Ne.symm hj)] at e2
        obtain ⟨u', r', q⟩ := hl j y v' e1 e2 e3
        refine ⟨u', r', ?_⟩
        rcases q with ⟨k, e⟩ | ⟨k, c, e, z⟩
        · refine .inl ⟨k, ?_⟩
          have : y ≠ x := fun e => hj (nodup_ix hN e1 (e ▸ hi))
          simp [this, e]
        · exact .inr ⟨k, c, e, z.sameBut hs (cne y c e)⟩
    · obtain ⟨w', z⟩ := I.cell y c e
      exact ⟨w', z.sameBut hs (cne y c e)⟩
    · obtain ⟨e, n, ne, nf, d⟩ := I.pin p hp
      exact ⟨(hs.2 p.1 ne).trans e, n, ne, nf, d⟩
  · have hfn : X.fn x = true := by
      rcases hf with z | z
      · exact z
      · rw [z] at hk; cases hk
    obtain ⟨c, hc⟩ := I.ok.has x (.inl hk)
    obtain ⟨w', z⟩ := I.cell x c hc
    refine wpAny_storeName_cell I.ok.kind hk hc z (fun h' hc' hs => ?_)
    obtain ⟨oc, hoc, hocd⟩ := id z
    refine h { s with heap := h' } ⟨I.ok, I.os, I.bare, ⟨fun b o e n hb hx => ?_, fun b o e n hb hx => ?_, I.base.free, fun b o e hx => ?_, I.base.tups, I.base.frzs, I.base.tbls⟩, ⟨m, hn.sameBut hs (Ne.symm (cne x c hc)), fun j y v' e1 e2 e3 => ?_⟩, fun y c' e => ?_, I.free, I.freeC, fun p hp => ?_, tracked ⟨oc, hoc, I.freeC x c hc⟩ hs, by simpa using I.len⟩ ⟨c, hs, .inr hc⟩
    · exact (hs.2 b (Nat.ne_of_lt (Nat.lt_of_lt_of_le (Heap.lt_size e) (I.ok.cab x c hfn hc)))).trans (I.base.keep b o e n hb hx)
    · obtain ⟨sl, e1⟩ := I.base.slot b o e n hb hx
      exact ⟨sl, (hs.2 b (Nat.ne_of_lt (Nat.lt_of_lt_of_le (Heap.lt_size e) (I.ok.cab x c hfn hc)))).trans e1⟩
    · obtain ⟨o', e1⟩ := I.base.there b o e hx
      exact ⟨o', (hs.2 b (Nat.ne_of_lt (Nat.lt_of_lt_of_le (Heap.lt_size e) (I.ok.cab x c hfn hc)))).trans e1⟩
    · by_cases hj : j = i
      · subst hj
        rw [hi] at e1; cases e1
        rw [List.getElem?_set_self hiσ] at e2
        cases e2
        exact ⟨u, r, .inr ⟨.inl hk, c, hc, hc'⟩⟩
      · rw [List.getElem?_set_ne (Ne.symm hj)] at e2
        obtain ⟨u', r', q⟩ := hl j y v' e1 e2 e3
        refine ⟨u', r', ?_⟩
        rcases q with q | ⟨k, c', e, z'⟩
        · exact .inl q
        · refine .inr ⟨k, c', e, z'.sameBut hs ?_⟩
          rintro rfl
          exact hj (nodup_ix hN e1 (I.ok.inj _ _ _ e hc ▸ hi))
    · by_cases hcc : c' = c
      · subst hcc; exact ⟨_, hc'⟩
      · obtain ⟨w2, z2⟩ := I.cell y c' e
        exact ⟨w2, z2.sameBut hs hcc⟩
    · obtain ⟨e, n, ne, nf, d⟩ := I.pin p hp
      refine ⟨(hs.2 p.1 ?_).trans e, n, ne, nf, d⟩
      intro q
      rw [q, hoc] at e
      have q' : oc = p.2 := Option.some.inj e
      exact d w' (by rw [← q']; exact hocd)
theorem store_ok {M : Model} {A : Around} {E : Value → Shared → Prop} {i : Nat} {x : Str} {v : V} {u : Value} {Q : Unit → Shared → Prop} (I : Inv X pins σ H s) (hN : X.N.Nodup) (hi : X.N[i]? = some x) (hx : Loc X.env.scope x) (r : RelV v u)
    (h : ∀ s', Inv X pins (σ.set i (some v)) H s' → Q () s') (hf : X.fn x = true ∨ X.env.scope.names.lookup x = some .local := by first | exact .inl rfl | exact .inr rfl | assumption) : wpAny M A (storeName X.env x u) Q E s :=
  store_ok2 I hN hi hx r (fun s' I' _ => h s' I') hf
theorem Inv.call' {s' : Shared} {ch : List Addr} (I : Inv X pins σ H s) (ho : s'.os = s.os) (u : Un (frs X.stack) ch H H' s.heap s'.heap) (hok : HOk X.prog X.w H' s'.heap) (hg : AllBare s'.gens)
    (hch : ∀ b ∈ ch, (b ∈ X.ex ∨ X.s₀.heap.objs.size ≤ b) ∧ b ≠ X.env.locals ∧ (∀ x c, X.env.cells.lookup x = some c → c ≠ b) ∧ ∀ p ∈ X.pn ++ pins, p.1 ≠ b) : Inv X pins σ H' s' := by
  obtain ⟨h', g', d', t', o'⟩ := s'
  have e : o' = s.os := ho
  subst e
  exact I.call (g' := g') (t' := t') (d' := d') u hok hg hch
end
noncomputable abbrev XK := Value → Option Addr → Hp → Prop
noncomputable abbrev St := List (Option V)
noncomputable abbrev VK := V → Hp → Prop
noncomputable abbrev TE := St → Hp → VK → Prop
noncomputable abbrev TT := St → Hp → (Bool → Hp → Prop) → Prop
noncomputable abbrev TA := St → Hp → (List V → Hp → Prop) → Prop
structure Ends where
  nx : St → Hp → Prop
  rt : VK
  bk : St → Hp → Prop := fun _ _ => False
  ct : St → Hp → Prop := fun _ _ => False
noncomputable abbrev TS := Ends → St → Hp → Prop
noncomputable def EP (X : Cx) (pins : List (Addr × Obj)) (σ : St) (Q : VK) (u : Value) (s' : Shared) : Prop := ∃ v H', Inv X pins σ H' s' ∧ RelV v u ∧ Q v H'
noncomputable def TP (X : Cx) (pins : List (Addr × Obj)) (σ : St) (Q : Bool → Hp → Prop) (b : Bool) (s' : Shared) : Prop := ∃ H', Inv X pins σ H' s' ∧ Q b H'
noncomputable def AP (X : Cx) (pins : List (Addr × Obj)) (σ : St) (Q : List V → Hp → Prop) (us : List Value) (s' : Shared) : Prop := ∃ vs H', Inv X pins σ H' s' ∧ Vals vs us ∧ Q vs H'
noncomputable def SP (X : Cx) (pins : List (Addr × Obj)) (D : Ends) (f : Flow) (s' : Shared) : Prop :=
  match f with
  | .next => ∃ σ' H', Inv X pins σ' H' s' ∧ D.nx σ' H'
  | .brk => ∃ σ' H', Inv X pins σ' H' s' ∧ D.bk σ' H'
  | .cont => ∃ σ' H', Inv X pins σ' H' s' ∧ D.ct σ' H'
  | .ret u => ∃ v σ' H', Inv X pins σ' H' s' ∧ RelV v u ∧ D.rt v H'
noncomputable def PE (X : Cx) (e : Expr) (t : TE) : Prop :=
  ∀ (pins : List (Addr × Obj)) (s : Shared) (σ : St) (H : Hp) (Q : VK), Inv X pins σ H s → t σ H Q → wpAny (model X.prog X.w) X.A (eval e X.env) (EP X pins σ Q) X.xe s
noncomputable def PT (X : Cx) (e : Expr) (t : TT) : Prop :=
  ∀ (pins : List (Addr × Obj)) (s : Shared) (σ : St) (H : Hp) (Q : Bool → Hp → Prop), Inv X pins σ H s → t σ H Q → wpAny (model X.prog X.w) X.A (isTrue e X.env (eval e X.env)) (TP X pins σ Q) X.xe s
noncomputable def PW (X : Cx) (e : Expr) (t : TT) : Prop :=
  ∀ (whole : Sem Value) (pins : List (Addr × Obj)) (s : Shared) (σ : St) (H : Hp) (Q : Bool → Hp → Prop), Inv X pins σ H s → t σ H Q → wpAny (model X.prog X.w) X.A (isTrue e X.env whole) (TP X pins σ Q) X.xe s
theorem PW.pt {X : Cx} {e : Expr} {t : TT} (h : PW X e t) : PT X e t := h _
noncomputable def PA (X : Cx) (es : List Expr) (t : TA) : Prop :=
  ∀ (pos : Pos) (pins : List (Addr × Obj)) (s : Shared) (σ : St) (H : Hp) (Q : List V → Hp → Prop), Inv X pins σ H s → t σ H Q → wpAny (model X.prog X.w) X.A (spliced (backTo pos (starEach es X.env))) (AP X pins σ Q) X.xe s
noncomputable def PS (X : Cx) (st : Stmt) (t : TS) : Prop :=
  ∀ (pins : List (Addr × Obj)) (s : Shared) (σ : St) (H : Hp) (D : Ends), Inv X pins σ H s → t D σ H → wpAny (model X.prog X.w) X.A (exec st X.env) (SP X pins D) X.xe s
noncomputable def PSs (X : Cx) (st : List Stmt) (t : TS) : Prop :=
  ∀ (pins : List (Addr × Obj)) (s : Shared) (σ : St) (H : Hp) (D : Ends), Inv X pins σ H s → t D σ H → wpAny (model X.prog X.w) X.A (execs st X.env) (SP X pins D) X.xe s
theorem thn {α : Type} {t : Sem α} {Q Q' : α → Shared → Prop} {M : Model} {A : Around} {E : Value → Shared → Prop} {s : Shared} (h : wpAny M A t Q E s) (hQ : ∀ a s, Q a s → Q' a s) : wpAny M A t Q' E s := wpAny_mono h hQ fun _ _ x => x
end L2
namespace L2
open PySem PySem.Spec PyProof.Rows
section
variable {X : Cx}
noncomputable def tVar (i : Nat) : TE := fun σ H Q => ∃ v, σ[i]? = some (some v) ∧ Q v H
noncomputable def tC (v : V) : TE := fun _ H Q => Q v H
theorem pe_var {i : Nat} {x : Str} {pos : Pos} (hN : X.N[i]? = some x) (hv : Vis X.env.scope x) (hd : (x == ("__debug__" : Str)) = false := by decide) (hcd : (x == ("__classdict__" : Str)) = false := by decide) : PE X (.Name x pos) (tVar i) := by
  intro pins s σ H Q I h
  obtain ⟨v, e, h⟩ := h
  obtain ⟨m, hn, hl⟩ := I.loc
  obtain ⟨u, r, l⟩ := hl i x v hN e hv
  have fin : EP X pins σ Q u s := ⟨v, H, I, r, h⟩
  rcases l with ⟨hk, hm⟩ | ⟨hk, c, hc, hcell⟩
  · exact wpAny_Name (wpAny_loadName_local I.ok.kind hk hn hm fin) hd
  · rcases hk with hk | hk
    · exact wpAny_Name (wpAny_loadName_cell I.ok.kind hk hc hcell fin) hd
    · exact wpAny_Name (wpAny_loadName_free I.ok.kind hk hc hcell fin hcd) hd
theorem pe_int {i j pos} : PE X (.Constant (.int i) j pos) (tC (.int i)) := fun _ _ _ H _ I h => wpAny_Constant_int ⟨.int i, H, I.tok _, ⟨_, rfl⟩, h⟩
theorem pe_bl {b j pos} : PE X (.Constant (.bool b) j pos) (tC (.bl b)) := fun _ _ _ H _ I h => Constant_bool ⟨.bl b, H, I, rfl, h⟩
theorem pe_non {j pos} : PE X (.Constant .none j pos) (tC .non) := fun _ _ _ H _ I h => Constant_none ⟨.non, H, I, rfl, h⟩
theorem pe_str {x j pos} : PE X (.Constant (.str x) j pos) (tC (.str x)) := fun _ _ _ H _ I h => Calls.Constant_str ⟨.str x, H, I.tok _, ⟨_, rfl⟩, h⟩
noncomputable def Gl (X : Cx) (x : Str) : Prop := X.env.kindOf x = some .globalImplicit
theorem ld_glob {E : Value → Shared → Prop} {pins : List (Addr × Obj)} {s : Shared} {σ : St} {H : Hp} {x : Str} {u : Value} {pos : Pos} {Q : Value → Shared → Prop} (I : Inv X pins σ H s) (hg : Gl X x) (hm : X.mg x = some u) (h : Q u s)
    (hd : (x == ("__debug__" : Str)) = false := by decide) : wpAny (model X.prog X.w) X.A (eval (.Name x pos) X.env) Q E s :=
  Calls.Name_function_global I.ok.kind hg (Calls.loadGlobal_global (by rw [I.ok.glob]; exact I.mod.glob.keeps I.bk) hm h) hd
theorem ld_blt {E : Value → Shared → Prop} {pins : List (Addr × Obj)} {s : Shared} {σ : St} {H : Hp} {x : Str} {u : Value} {pos : Pos} {Q : Value → Shared → Prop} (I : Inv X pins σ H s) (hg : Gl X x) (hm : X.mg x = none) (hv : bootBuiltins x = some u) (h : Q u s)
    (hn : x ≠ "__name__" := by decide) (hd : (x == ("__debug__" : Str)) = false := by decide) : wpAny (model X.prog X.w) X.A (eval (.Name x pos) X.env) Q E s := by
  obtain ⟨mb, h1, h2⟩ := I.mod.blt
  exact Calls.Name_function_global I.ok.kind hg (Calls.loadGlobal_builtin (by rw [I.ok.glob]; exact I.mod.glob.keeps I.bk) hm (by rw [I.ok.blt]; exact h1.keeps I.bk) ((h2 x hn).trans hv) h) hd
theorem pe_glob {x : Str} {v : V} {u : Value} {pos : Pos} (hg : Gl X x) (hm : X.mg x = some u) (r : RelV v u) (hd : (x == ("__debug__" : Str)) = false := by decide) : PE X (.Name x pos) (tC v) :=
  fun _ _ _ H _ I h => ld_glob I hg hm ⟨v, H, I, r, h⟩ hd
theorem pe_bltn {x : Str} {v : V} {u : Value} {pos : Pos} (hg : Gl X x) (hm : X.mg x = none) (hv : bootBuiltins x = some u) (r : RelV v u) (hn : x ≠ "__name__" := by decide) (hd : (x == ("__debug__" : Str)) = false := by decide) : PE X (.Name x pos) (tC v) :=
  fun _ _ _ H _ I h => ld_blt I hg hm hv ⟨v, H, I, r, h⟩ hn hd
variable {a b : Expr} {ta tb : TE} {pos : Pos}
noncomputable def PC (X : Cx) (op : CmpOp) (a b : Expr) (t : TE) : Prop :=
  ∀ (pins : List (Addr × Obj)) (s : Shared) (σ : St) (H : Hp) (Q : VK), Inv X pins σ H s → t σ H Q →
    wpAny (model X.prog X.w) X.A (eval a X.env) (fun v s₁ => wpAny (model X.prog X.w) X.A (eval b X.env) (fun u s₂ => wpAny (model X.prog X.w) X.A (compareOp op v u) (EP X pins σ Q) X.xe s₂) X.xe s₁) X.xe s
noncomputable def tB (t : TE) : TT := fun σ H Q => t σ H fun x H1 => ∃ c, x = .bl c ∧ Q c H1
theorem pt_cmp {op : CmpOp} {t : TE} (h : PC X op a b t) (h1 : behindInMarks op b = false := by first | exact nobehind _ (by decide) (by decide) | rfl) : PT X (.Compare a [op] [b] pos) (tB t) := by
  intro pins s σ H Q I hw
  refine wpAny_isTrue_Compare1 (thn (h pins s σ H _ I hw) fun v s1 h1 => thn h1 fun u s2 h2 => thn h2 fun c s3 ⟨x, H1, I1, r1, q1⟩ => ?_) h1
  obtain ⟨d, rfl, q⟩ := q1
  cases r1
  exact wpAny_truthy_bool ⟨H1, I1, q⟩
theorem pt_val {e : Expr} {t : TE} (h : PE X e t) (he : ∀ whole, isTrue e X.env whole = (do let v ← whole; standAt e.pos; holding [v] (truthy v)) := by intro _; rfl) : PT X e (tB t) := by
  intro pins s σ H Q I hw
  refine isTrue_plain (thn (h pins s σ H _ I hw) fun v s1 ⟨x, H1, I1, r1, q1⟩ => ?_) (he _)
  obtain ⟨d, rfl, q⟩ := q1
  cases r1
  exact wpAny_truthy_bool ⟨H1, I1, q⟩
variable {tA tB' : TT} {rest : List Expr}
noncomputable def tAnd (t u : TT) : TT := fun σ H Q => t σ H fun c H1 => if c = true then u σ H1 Q else Q false H1
noncomputable def tOr (t u : TT) : TT := fun σ H Q => t σ H fun c H1 => if c = true then Q true H1 else u σ H1 Q
noncomputable def tNot (t : TT) : TT := fun σ H Q => t σ H fun c H1 => Q (!c) H1
theorem pw_and1 (ha : PT X a tA) : PW X (.BoolOp .And [a] pos) tA := by
  intro wh pins s σ H Q I h
  refine isTrue_and (thn (ha pins s σ H Q I h) fun c s1 e => ?_)
  cases c with
  | true => exact isTrue_and_nil e
  | false => exact e
theorem pw_or1 (ha : PT X a tA) : PW X (.BoolOp .Or [a] pos) tA := by
  intro wh pins s σ H Q I h
  refine isTrue_or (thn (ha pins s σ H Q I h) fun c s1 e => ?_)
  cases c with
  | false => exact isTrue_or_nil e
  | true => exact e
theorem pw_and (ha : PT X a tA) (hb : PW X (.BoolOp .And (b :: rest) pos) tB') : PW X (.BoolOp .And (a :: b :: rest) pos) (tAnd tA tB') := by
  intro wh pins s σ H Q I h
  refine isTrue_and (thn (ha pins s σ H _ I h) fun c s1 ⟨H1, I1, q1⟩ => ?_)
  cases c with
  | true => exact hb wh pins s1 σ H1 Q I1 q1
  | false => exact ⟨H1, I1, q1⟩
theorem pw_or (ha : PT X a tA) (hb : PW X (.BoolOp .Or (b :: rest) pos) tB') : PW X (.BoolOp .Or (a :: b :: rest) pos) (tOr tA tB') := by
  intro wh pins s σ H Q I h
  refine isTrue_or (thn (ha pins s σ H _ I h) fun c s1 ⟨H1, I1, q1⟩ => ?_)
  cases c with
  | true => exact ⟨H1, I1, q1⟩
  | false => exact hb wh pins s1 σ H1 Q I1 q1
theorem pt_not (ha : PT X a tA) : PT X (.UnaryOp .Not a pos) (tNot tA) := by
  intro pins s σ H Q I h
  exact isTrue_not (ha pins s σ H (fun c H1 => Q (!c) H1) I h)
noncomputable def tAndV (ta tb : TE) : TE := fun σ H Q => ta σ H fun x H1 => ∃ c, x = .bl c ∧ if c = true then tb σ H1 Q else Q (.bl false) H1
noncomputable def tNotV (ta : TE) : TE := fun σ H Q => ta σ H fun x H1 => ∃ c, x = .bl c ∧ Q (.bl (!c)) H1
theorem pe_one {op} {t : TE} (h : PE X a t) : PE X (.BoolOp op [a] pos) t := fun pins s σ H Q I hw => BoolOp_one (h pins s σ H Q I hw)
theorem pe_and (ha : PE X a ta) (hb : PE X (.BoolOp .And (b :: rest) pos) tb) : PE X (.BoolOp .And (a :: b :: rest) pos) (tAndV ta tb) := by
  intro pins s σ H Q I h
  refine BoolOp_and (thn (ha pins s σ H _ I h) fun v s1 ⟨x, H1, I1, r1, q1⟩ => ?_)
  obtain ⟨c, rfl, q1⟩ := q1
  cases r1
  refine wpAny_truthy_bool ?_
  cases c with
  | true => exact hb pins s1 σ H1 Q I1 q1
  | false => exact ⟨.bl false, H1, I1, rfl, q1⟩
theorem pe_not (ha : PE X a ta) : PE X (.UnaryOp .Not a pos) (tNotV ta) := by
  intro pins s σ H Q I h
  refine UnaryOp_ (thn (ha pins s σ H _ I h) fun v s1 ⟨x, H1, I1, r1, q1⟩ => ?_)
  obtain ⟨c, rfl, q1⟩ := q1
  cases r1
  exact not_of (wpAny_truthy_bool ⟨.bl (!c), H1, I1, rfl, q1⟩)
noncomputable def tIf (t : TT) (ta tb : TE) : TE := fun σ H Q => t σ H fun c H1 => if c = true then ta σ H1 Q else tb σ H1 Q
theorem pe_ifExp {c : Expr} (hc : PT X c tA) (ha : PE X a ta) (hb : PE X b tb) : PE X (.IfExp c a b pos) (tIf tA ta tb) := by
  intro pins s σ H Q I h
  refine wpAny_IfExp (thn (hc pins s σ H _ I h) fun d s1 ⟨H1, I1, q1⟩ => ?_)
  cases d with
  | true => exact ha pins s1 σ H1 Q I1 q1
  | false => exact hb pins s1 σ H1 Q I1 q1
end
end L2
namespace L2
open PySem PySem.Spec PyProof.Rows
noncomputable def SqL (K : PySem.W.Frag) (H : Hp) (a : Addr) (xs : List V) : Prop :=
  Rd H a (.lst xs) ∨
    ∃ (o : Obj) (its : Array Value) (n : Nat), K.lookup a = some o ∧ o.cls = .type "list" ∧ o.dict = none ∧ o.data = .seq its n ∧ its.size ≤ sizeLine ∧ Vals xs its.toList
noncomputable def SqT (K : PySem.W.Frag) (H : Hp) (a : Addr) (xs : List V) : Prop :=
  Rd H a (.tup xs) ∨
    ∃ (o : Obj) (its : Array Value) (n : Nat), K.lookup a = some o ∧ o.cls = .type "tuple" ∧ o.data = .seq its n ∧ its.size ≤ sizeLine ∧ Vals xs its.toList
noncomputable def absV : Value → Option V
  | .none => some .non
  | .bool b => some (.bl b)
  | .int i _ => some (.int i)
  | .str x _ => some (.str x)
  | .bytes b _ => some (.byt b)
  | .float b _ => some (.flt b)
  | .ref a => some (.ref a)
  | .type n => some (.ty n)
  | _ => none
theorem RelV.abs {x : V} {u : Value} (r : RelV x u) : absV u = some x := by
  cases x with
  | non => cases r; rfl
  | bl _ => cases r; rfl
  | int _ => obtain ⟨t, rfl⟩ := r; rfl
  | str _ => obtain ⟨t, rfl⟩ := r; rfl
  | byt _ => obtain ⟨t, rfl⟩ := r; rfl
  | flt _ => obtain ⟨t, rfl⟩ := r; rfl
  | ref _ => cases r; rfl
  | ty _ => cases r; rfl
theorem RelV.inj {x y : V} {u : Value} (r : RelV x u) (q : RelV y u) : x = y := Option.some.inj (r.abs.symm.trans q.abs)
theorem Vals.inj : ∀ {xs ys : List V} {us : List Value}, Vals xs us → Vals ys us → xs = ys := by
  intro xs ys us h h'
  induction h generalizing ys with
  | nil => cases h'; rfl
  | cons r t ih => cases h' with
    | cons r' t' => rw [r.inj r', ih t']
section
variable {X : Cx} {pins : List (Addr × Obj)} {σ : St} {H : Hp} {s : Shared} {a : Addr} {xs ys : List V}
theorem SqL.of {K : PySem.W.Frag} (h : H a = some (.lst xs)) : SqL K H a xs := .inl (.inl h)
theorem SqT.of {K : PySem.W.Frag} (h : H a = some (.tup xs)) : SqT K H a xs := .inl (.inl h)
theorem Inv.list (I : Inv X pins σ H s) (h : SqL X.K H a xs) : ∃ its : List Value, Vals xs its ∧ PlainL s.heap a its.toArray ∧ xs.length ≤ sizeLine := by
  rcases h with h | ⟨o, its, n, hk, hc, hd, hs, hz, r⟩
  · obtain ⟨z, its, n, r, e⟩ := h.ok I.hok
    exact ⟨its, r, ⟨_, n, e, rfl, rfl, rfl⟩, z⟩
  · refine ⟨its.toList, r, ⟨o, n, I.kIn a o hk, hc, hd, by simpa using hs⟩, ?_⟩
    have e := r.length
    simp only [Array.length_toList] at e
    omega
theorem Inv.tuple (I : Inv X pins σ H s) (h : SqT X.K H a xs) : ∃ its : List Value, Vals xs its ∧ IsTup s.heap a its.toArray ∧ xs.length ≤ sizeLine := by
  rcases h with h | ⟨o, its, n, hk, hc, hs, hz, r⟩
  · obtain ⟨z, its, r, p⟩ := h.ok I.hok
    exact ⟨its, r, p, z⟩
  · refine ⟨its.toList, r, ⟨o, I.kIn a o hk, hc, n, by simpa using hs⟩, ?_⟩
    have e := r.length
    simp only [Array.length_toList] at e
    omega
theorem Inv.list_inj (I : Inv X pins σ H s) (h : SqL X.K H a xs) (h' : SqL X.K H a ys) : xs = ys := by
  obtain ⟨its, r, ⟨o, n, e, _, _, d⟩, _⟩ := I.list h
  obtain ⟨its', r', ⟨o', n', e', _, _, d'⟩, _⟩ := I.list h'
  rw [e] at e'; cases e'
  rw [d] at d'
  injection d' with d1 _
  have : its = its' := by simpa using congrArg Array.toList d1
  subst this
  exact r.inj r'
end
noncomputable abbrev Cx.wish (X : Cx) (E : Value → Shared → Prop) : Cx := { X with xe := E }
noncomputable abbrev Cx.nox (X : Cx) : Cx := X.wish fun _ _ => False
theorem Cx.Ok.wish {X : Cx} (ok : X.Ok) (E : Value → Shared → Prop) : (X.wish E).Ok :=
  ⟨ok.mod, ok.kind, ok.glob, ok.blt, ok.above, ok.inj, ok.has, ok.cab, ok.hd, ok.frames, ok.stk, ok.exf, ok.bs, ok.bsz, ok.noex, ok.exfs, ok.funs, ok.frf⟩
theorem Cx.Ok.unwish {X : Cx} {E : Value → Shared → Prop} (ok : (X.wish E).Ok) : X.Ok :=
  ⟨ok.mod, ok.kind, ok.glob, ok.blt, ok.above, ok.inj, ok.has, ok.cab, ok.hd, ok.frames, ok.stk, ok.exf, ok.bs, ok.bsz, ok.noex, ok.exfs, ok.funs, ok.frf⟩
section
variable {X : Cx} {pins : List (Addr × Obj)} {σ : St} {H : Hp} {s : Shared} {E : Value → Shared → Prop}
theorem Inv.wish (I : Inv X pins σ H s) (E : Value → Shared → Prop) : Inv (X.wish E) pins σ H s := ⟨I.ok.wish E, I.os, I.bare, I.base, I.loc, I.cell, I.free, I.freeC, I.pin, I.hok, I.len⟩
theorem Inv.unwish (I : Inv (X.wish E) pins σ H s) : Inv X pins σ H s := ⟨I.ok.unwish, I.os, I.bare, I.base, I.loc, I.cell, I.free, I.freeC, I.pin, I.hok, I.len⟩
theorem SP.unwish {D : Ends} {f : Flow} {s' : Shared} (h : SP (X.wish E) pins D f s') : SP X pins D f s' := by
  cases f with
  | next => obtain ⟨σ', H', I, q⟩ := h; exact ⟨σ', H', I.unwish, q⟩
  | brk => obtain ⟨σ', H', I, q⟩ := h; exact ⟨σ', H', I.unwish, q⟩
  | cont => obtain ⟨σ', H', I, q⟩ := h; exact ⟨σ', H', I.unwish, q⟩
  | ret u => obtain ⟨v, σ', H', I, r, q⟩ := h; exact ⟨v, σ', H', I.unwish, r, q⟩
theorem PSs.nox {st : List Stmt} {t : TS} (h : PSs X.nox st t) : PSs X st t := fun pins s σ H D I hw =>
  wpAny_mono (h pins s σ H D (I.wish _) hw) (fun _ _ q => q.unwish) fun _ _ z => False.elim z
end
section
variable {X : Cx} {st : Stmt} {rest : List Stmt} {t u : TS} {e : Expr} {te : TE} {pos : Pos}
noncomputable def tNext : TS := fun D σ H => D.nx σ H
noncomputable def tSeq (t u : TS) : TS := fun D σ H => t { D with nx := u D } σ H
theorem pss_nil : PSs X [] tNext := fun _ _ σ H _ I h => wpAny_execs_nil ⟨σ, H, I, h⟩
theorem pss_cons (h1 : PS X st t) (h2 : PSs X rest u) : PSs X (st :: rest) (tSeq t u) := by
  intro pins s σ H D I h
  refine wpAny_execs_cons (thn (h1 pins s σ H { D with nx := u D } I h) fun f s1 q => ?_)
  cases f with
  | next =>
    obtain ⟨σ', H', I', q⟩ := q
    exact h2 pins s1 σ' H' D I' q
  | ret v => exact q
  | brk => exact q
  | cont => exact q
theorem pss_one (h1 : PS X st t) : PSs X [st] t := by
  intro pins s σ H D I h
  refine wpAny_execs_cons (thn (h1 pins s σ H D I h) fun f s1 q => ?_)
  cases f with
  | next => exact wpAny_execs_nil q
  | ret v => exact q
  | brk => exact q
  | cont => exact q
theorem Inv.quiet {pins : List (Addr × Obj)} {σ : St} {H : Hp} {s : Shared} (I : Inv X pins σ H s) : interactive X.env = false := by simp [interactive, I.ok.kind]
noncomputable def tDrop (te : TE) : TS := fun D σ H => te σ H fun _ H1 => D.nx σ H1
theorem ps_expr (he : PE X e te) (hs : swapsWith e none pos.line X.env = pure false := by rfl) : PS X (.Expr e pos) (tDrop te) := by
  intro pins s σ H D I h
  exact wpAny_Expr_any (thn (he pins s σ H _ I h) fun v s1 ⟨x, H1, I1, r1, q1⟩ => ⟨σ, H1, I1, q1⟩) I.quiet hs
noncomputable def tRet (te : TE) : TS := fun D σ H => te σ H D.rt
theorem ps_ret (he : PE X e te) : PS X (.Return (some e) pos) (tRet te) := by
  intro pins s σ H D I h
  exact wpAny_Return_some (thn (he pins s σ H _ I h) fun v s1 ⟨x, H1, I1, r1, q1⟩ => ⟨x, σ, H1, I1, r1, q1⟩)
noncomputable def tIfS (c : TT) (t u : TS) : TS := fun D σ H => c σ H fun b H1 => if b = true then t D σ H1 else u D σ H1
theorem ps_if {c : Expr} {a b : List Stmt} {tc : TT} (hc : PT X c tc) (ha : PSs X a t) (hb : PSs X b u) : PS X (.If c a b pos) (tIfS tc t u) := by
  intro pins s σ H D I h
  refine wpAny_If (thn (hc pins s σ H _ I h) fun d s1 ⟨H1, I1, q1⟩ => ?_)
  cases d with
  | true => exact ha pins s1 σ H1 D I1 q1
  | false => exact hb pins s1 σ H1 D I1 q1
noncomputable def tNever : TS := fun _ _ _ => False
theorem pss_never {sts : List Stmt} : PSs X sts tNever := fun _ _ _ _ _ _ h => h.elim
end
noncomputable abbrev TG := V → St → Hp → (St → Hp → Prop) → Prop
noncomputable abbrev TGs := List V → St → Hp → (St → Hp → Prop) → Prop
noncomputable def PG (X : Cx) (target : Expr) (t : TG) : Prop :=
  ∀ (pins : List (Addr × Obj)) (s : Shared) (σ : St) (H : Hp) (v : V) (u : Value) (Q : St → Hp → Prop), Inv X pins σ H s → RelV v u → t v σ H Q →
    wpAny (model X.prog X.w) X.A (assign target X.env u) (fun _ s' => ∃ σ' H', Inv X pins σ' H' s' ∧ Q σ' H') X.xe s
noncomputable def PGs (X : Cx) (ts : List Expr) (t : TGs) : Prop :=
  ∀ (pins : List (Addr × Obj)) (s : Shared) (σ : St) (H : Hp) (vs : List V) (us : List Value) (Q : St → Hp → Prop), Inv X pins σ H s → Vals vs us → t vs σ H Q →
    wpAny (model X.prog X.w) X.A (assignInOrder ((assignEach ts X.env).map (·.2)) us) (fun _ s' => ∃ σ' H', Inv X pins σ' H' s' ∧ Q σ' H') X.xe s
section
variable {X : Cx} {pos : Pos}
noncomputable def gName (i : Nat) : TG := fun v σ H Q => Q (σ.set i (some v)) H
theorem pg_name {i : Nat} {x : Str} (hN : X.N.Nodup) (hi : X.N[i]? = some x) (hx : Loc X.env.scope x) (hf : X.fn x = true ∨ X.env.scope.names.lookup x = some .local := by first | exact .inl rfl | exact .inr rfl | assumption) : PG X (.Name x pos) (gName i) := by
  intro pins s σ H v u Q I r h
  exact wpAny_assign_Name (store_ok I hN hi hx r (fun s' I' => ⟨_, H, I', h⟩) hf)
noncomputable def gNil : TGs := fun vs σ H Q => vs = [] ∧ Q σ H
noncomputable def gCons (t : TG) (u : TGs) : TGs := fun vs σ H Q => ∃ v r, vs = v :: r ∧ t v σ H fun σ' H' => u r σ' H' Q
theorem pgs_nil : PGs X [] gNil := by
  intro pins s σ H vs us Q I r h
  obtain ⟨e, h⟩ := h
  subst e
  cases r
  exact assignInOrder_nil ⟨σ, H, I, h⟩
theorem pgs_cons {e : Expr} {es : List Expr} {t : TG} {u : TGs} (h1 : PG X e t) (h2 : PGs X es u)
    (hs : (assignEach (e :: es) X.env).map (·.2) = assign e X.env :: (assignEach es X.env).map (·.2) := by rfl) : PGs X (e :: es) (gCons t u) := by
  intro pins s σ H vs us Q I r h
  obtain ⟨v, vr, e1, h⟩ := h
  subst e1
  cases r with
  | cons r rr =>
    rw [hs]
    refine assignInOrder_cons (thn (h1 pins s σ H _ _ _ I r h) fun _ s1 ⟨σ1, H1, I1, q1⟩ => ?_)
    exact h2 pins s1 σ1 H1 _ _ Q I1 rr q1
noncomputable def gTup (K : PySem.W.Frag) (n : Nat) (t : TGs) : TG := fun v σ H Q => ∃ a xs, v = .ref a ∧ SqT K H a xs ∧ xs.length = n ∧ t xs σ H Q
theorem pg_tup {es : List Expr} {k : Nat} {t : TGs} {n : Nat} (hc : X.calm = true) (h : PGs X es t)
    (hn : (assignEach es X.env).length = n := by rfl) (hst : (assignEach es X.env).findIdx? (·.1) = none := by rfl) : PG X (.Tuple es k pos) (gTup X.K n t) := by
  intro pins s σ H v u Q I r hw
  obtain ⟨a, xs, e1, hq, hl, hw⟩ := hw
  subst e1
  cases r
  obtain ⟨its, rv, ht, hz⟩ := I.tuple hq
  refine assign_Tuple_tuple (I.ok.hd hc) ht (by simp [hn, ← hl, rv.length]) hst fun h' hx => ?_
  have I1 : Inv X pins σ H { s with heap := h' } := I.kept (t' := s.toks) fun b o e => hx b o (Nat.ne_of_lt (Heap.lt_size e)) e
  exact h pins _ σ H xs _ Q I1 (by simpa using rv) hw
noncomputable def tAsg (te : TE) (g : TG) : TS := fun D σ H => te σ H fun x H1 => g x σ H1 D.nx
theorem ps_set {i : Nat} {x : Str} {e : Expr} {te : TE} {pos' : Pos} (hN : X.N.Nodup) (hi : X.N[i]? = some x) (hx : Loc X.env.scope x) (he : PE X e te) (hs : swapsWith e (some (.Name x pos')) pos.line X.env = pure false := by rfl) (hf : X.fn x = true ∨ X.env.scope.names.lookup x = some .local := by first | exact .inl rfl | exact .inr rfl | assumption) :
    PS X (.Assign [.Name x pos'] e pos) (tAsg te (gName i)) := by
  intro pins s σ H D I h
  refine wpAny_Assign_Name (thn (he pins s σ H _ I h) fun v s1 ⟨y, H1, I1, r1, q1⟩ => ?_) hs
  exact store_ok I1 hN hi hx r1 (fun s2 I2 => ⟨_, H1, I2, q1⟩) hf
end
section
variable {X : Cx} {pos : Pos}
end
structure It where
  go : Nat → Hp → Prop
  yld : Nat → Hp → V → Hp → Prop
  stop : Nat → Hp → Prop
noncomputable def FpOk (X : Cx) (pins : List (Addr × Obj)) (H : Hp) (b : Addr) : Prop :=
  H b = none ∧ b ≠ X.env.locals ∧ b ∉ X.fs ∧ (b ∈ X.ex ∨ X.s₀.heap.objs.size ≤ b) ∧ (∀ x c, X.env.cells.lookup x = some c → c ≠ b) ∧ ∀ p ∈ X.pn ++ pins, p.1 ≠ b
theorem Inv.fpOk {X : Cx} {pins : List (Addr × Obj)} {σ : St} {H H' : Hp} {s : Shared} {b : Addr} (I : Inv X pins σ H s) (hb : s.heap.objs.size ≤ b) (hn : H' b = none) : FpOk X pins H' b := by
  refine ⟨hn, Nat.ne_of_gt (Nat.lt_of_lt_of_le I.lt hb), I.nofs hb, .inr (Nat.le_trans I.sz hb), fun x c e z => ?_, fun p hp z => ?_⟩
  · obtain ⟨v, q⟩ := I.cell x c e
    exact absurd (Nat.lt_of_lt_of_le q.lt (by rw [z]; exact hb)) (Nat.lt_irrefl _)
  · exact absurd (Nat.lt_of_lt_of_le (Heap.lt_size (I.pin p hp).1) (by rw [z]; exact hb)) (Nat.lt_irrefl _)
structure Turn (P : Program) (w : World) (K : PySem.W.Frag) (tg : Expr) (J : It) (fp : List Addr) (it : Addr) (tn : Nat → Heap → Prop) : Prop where
  mem : it ∈ fp
  obj : ∀ i h, tn i h → ∀ b ∈ fp, ∃ o, h.get? b = some o ∧ ∀ v, o.data ≠ .cell v
  keep : ∀ i h h', tn i h → (∀ b ∈ fp, ∀ o, h.get? b = some o → h'.get? b = some o) → tn i h'
  item : ∀ (X : Cx), X.prog = P → X.w = w → X.K = K → X.calm = true → ∀ (i : Nat) (pins : List (Addr × Obj)) (s : Shared) (σ : St) (H : Hp) (E : Value → Shared → Prop), Inv X pins σ H s → (∀ b ∈ fp, FpOk X pins H b) → tn i s.heap → J.go i H →
    wpAny (model P w) X.A (pyNext (.ref it)) (fun r s1 => ∃ u, r = some u ∧
      wpAny (model P w) X.A (letOwnedTupleGo tg (.ref it) u) (fun _ s2 => ∃ x H', Inv X pins σ H' s2 ∧ RelV x u ∧ J.yld i H x H' ∧ tn (i + 1) s2.heap ∧ ∀ b ∈ fp, H' b = none) E s1) E s
  done : ∀ (X : Cx), X.prog = P → X.w = w → X.K = K → X.calm = true → ∀ (i : Nat) (pins : List (Addr × Obj)) (s : Shared) (σ : St) (H : Hp) (E : Value → Shared → Prop), Inv X pins σ H s → (∀ b ∈ fp, FpOk X pins H b) → tn i s.heap → J.stop i H →
    wpAny (model P w) X.A (pyNext (.ref it)) (fun r s1 => r = none ∧ Inv X pins σ H s1) E s
  self : ∀ (A : Around) (i : Nat) (s : Shared) (Q : Value → Shared → Prop) (E : Value → Shared → Prop), tn i s.heap → Q (.ref it) s → wpAny (model P w) A (pyIter (.ref it)) Q E s
noncomputable abbrev TI := St → Hp → (It → Hp → Prop) → Prop
noncomputable def PIE (X : Cx) (pins : List (Addr × Obj)) (σ : St) (tg : Expr) (R : It → Hp → Prop) (itv : Value) (s2 : Shared) : Prop :=
  ∃ (it : Addr) (fp : List Addr) (tn : Nat → Heap → Prop) (J : It) (H' : Hp), itv = .ref it ∧ Inv X pins σ H' s2 ∧ Turn X.prog X.w X.K tg J fp it tn ∧ tn 0 s2.heap ∧ (∀ b ∈ fp, FpOk X pins H' b) ∧ R J H'
noncomputable def PI (X : Cx) (tg iter : Expr) (wi : TI) : Prop :=
  ∀ (pins : List (Addr × Obj)) (s : Shared) (σ : St) (H : Hp) (R : It → Hp → Prop), Inv X pins σ H s → wi σ H R →
    wpAny (model X.prog X.w) X.A (eval iter X.env) (fun v s1 => wpAny (model X.prog X.w) X.A (pyIter v) (PIE X pins σ tg R) X.xe s1) X.xe s
theorem go_of {M : Model} {A : Around} {E : Value → Shared → Prop} {s : Shared} {tg : Expr} {it : Addr} {u : Value} {o : Obj} {n : String} {vs : Array Value} {Q : Unit → Shared → Prop} (ho : s.heap.get? it = some o) (hc : o.cls = .type n) (hd : o.data = .fields vs)
    (hn : ["enumerate", "zip", "dict_itemiterator", "dict_reverseitemiterator", "odict_iterator", "itertools.zip_longest", "itertools.pairwise"].contains n = false) (hQ : Q () s) : wpAny M A (letOwnedTupleGo tg (.ref it) u) Q E s := by
  unfold letOwnedTupleGo
  cases tg <;> first
    | exact wpAny_pure hQ
    | (cases u <;> first
        | exact wpAny_pure hQ
        | (refine wpAny_bind (wpAny_load ho ?_)
           rw [hc, hd]
           show wpAny M A (if (["enumerate", "zip", "dict_itemiterator", "dict_reverseitemiterator", "odict_iterator", "itertools.zip_longest", "itertools.pairwise"].contains n && vs[0]? == some (rawInt _)) = true then _ else _) Q E s
           rw [if_neg (by intro h; rw [hn, Bool.false_and] at h; cases h)]
           exact wpAny_pure hQ))
noncomputable def Itl (K : PySem.W.Frag) (a : Addr) : It :=
  ⟨fun i H => ∃ xs x, SqL K H a xs ∧ xs[i]? = some x, fun i H x H' => H' = H ∧ ∀ xs, SqL K H a xs → xs[i]? = some x, fun i H => ∃ xs, SqL K H a xs ∧ xs.length ≤ i⟩
noncomputable def Itr (lo : Int) (n : Nat) : It := ⟨fun i _ => i < n, fun i H x H' => H' = H ∧ x = .int (lo + i), fun i _ => n ≤ i⟩
theorem turn_list {P : Program} {w : World} {K : PySem.W.Frag} {tg : Expr} (a it : Addr) : Turn P w K tg (Itl K a) [it] it (fun i h => h.IsListIter it a i) where
  mem := by simp
  obj := fun i h st b hb => by
    have e : b = it := by simpa using hb
    subst e
    obtain ⟨o, e, c, d⟩ := st
    exact ⟨o, e, fun v z => by rw [d] at z; cases z⟩
  keep := fun i h h' st k => st.at fun o e => k it (by simp) o e
  item := by
    intro X hP hw hK hc i pins s σ H E I hf st hg
    subst hP hw hK
    obtain ⟨xs, x, hq, hx⟩ := hg
    obtain ⟨its, rv, p, hz⟩ := I.list hq
    obtain ⟨u, hu, ru⟩ := rv.get hx
    obtain ⟨f0, f1, f2, f3, f4, f5⟩ := hf it (by simp)
    refine wpAny_pyNext_list_item st p.isList (x := u) (by simpa using hu) fun h' st' sb => ?_
    have I1 : Inv X pins σ H { s with heap := h' } := I.turned (t' := s.toks) (fun b o hb e => (sb.2 b hb).trans e) f0 f1 f3 f4 f5
    obtain ⟨o, e, c, d⟩ := id st'
    exact ⟨u, rfl, go_of (s := { s with heap := h' }) e c d (by decide) ⟨x, H, I1, ru, ⟨rfl, fun ys hy => by rw [I.list_inj hy hq]; exact hx⟩, st', fun b hb => (hf b hb).1⟩⟩
  done := by
    intro X hP hw hK hc i pins s σ H E I hf st hg
    subst hP hw hK
    obtain ⟨xs, hq, hx⟩ := hg
    obtain ⟨its, rv, p, hz⟩ := I.list hq
    obtain ⟨f0, f1, f2, f3, f4, f5⟩ := hf it (by simp)
    have hl := rv.length
    exact wpAny_pyNext_list_end (I.ok.hd hc) st p.isList (by simp; omega) fun h' eb => ⟨rfl, I.turned (t' := s.toks) (fun b o hb e => eb b o hb e) f0 f1 f3 f4 f5⟩
  self := fun _ _ _ _ _ st h => wpAny_pyIter_listiter st h
theorem turn_range {P : Program} {w : World} {K : PySem.W.Frag} {tg : Expr} (it : Addr) (lo : Int) (n : Nat) : Turn P w K tg (Itr lo n) [it] it (fun i h => IsRangeIter h it (lo + (i : Nat) * 1) ((n : Int) - (i : Nat)) 1) where
  mem := by simp
  obj := fun i h st b hb => by
    have e : b = it := by simpa using hb
    subst e
    exact ⟨_, st, fun v z => by
      have z' : Data.fields _ = Data.cell v := z
      cases z'⟩
  keep := fun i h h' st k => k it (by simp) _ st
  item := by
    intro X hP hw hK hc i pins s σ H E I hf st hg
    subst hP hw hK
    obtain ⟨f0, f1, f2, f3, f4, f5⟩ := hf it (by simp)
    have W := Walks.range (prog := X.prog) (w := X.w) (I.ok.hd hc) it lo 1 n
    refine W.item i s _ _ hg st fun v h' tk hv st' kk => ?_
    obtain ⟨t, rfl⟩ := hv
    have I1 : Inv X pins σ H { s with heap := h', toks := tk } := I.turned (fun b o hb e => kk b o (by simpa using hb) e) f0 f1 f3 f4 f5
    refine ⟨_, rfl, go_of (s := { s with heap := h', toks := tk }) (n := "range_iterator") st' rfl rfl (by decide) ⟨.int (lo + i), H, I1, ⟨t, ?_⟩, ⟨rfl, rfl⟩, st', fun b hb => (hf b hb).1⟩⟩
    rw [Int.mul_one]
  done := by
    intro X hP hw hK hc i pins s σ H E I hf st hg
    subst hP hw hK
    obtain ⟨f0, f1, f2, f3, f4, f5⟩ := hf it (by simp)
    exact wpAny_pyNext_range_end (I.ok.hd hc) st (by have : n ≤ i := hg; omega) fun h' eb => ⟨rfl, I.turned (t' := s.toks) (fun b o hb e => eb b o hb e) f0 f1 f3 f4 f5⟩
  self := fun _ _ _ _ _ st h => wpAny_pyIter_rangeiter st h
end L2
namespace L2
open PySem PySem.Spec PyProof.Rows
section
variable {X : Cx} {tg : Expr}
noncomputable def iList (K : PySem.W.Frag) (tl : TE) : TI := fun σ H R => tl σ H fun x H1 => ∃ a, x = .ref a ∧ (∃ xs, SqL K H1 a xs) ∧ R (Itl K a) H1
theorem pi_list {l : Expr} {tl : TE} (hl : PE X l tl) : PI X tg l (iList X.K tl) := by
  intro pins s σ H R I h
  refine thn (hl pins s σ H _ I h) fun v s1 ⟨x, H1, I1, r1, q1⟩ => ?_
  obtain ⟨a, e, ⟨xs, hq⟩, q⟩ := q1
  subst e
  cases r1
  obtain ⟨its, rv, p, hz⟩ := I1.list hq
  refine wpAny_pyIter_list p.isList ?_
  refine ⟨s1.heap.objs.size, [s1.heap.objs.size], _, _, H1, rfl, I1.kept (t' := s1.toks) fun b o e => Heap.get?_push_of_some _ e, turn_list a _, ⟨_, Heap.get?_push_size _ rfl, rfl, rfl⟩, fun b hb => ?_, q⟩
  have e : b = s1.heap.objs.size := by simpa using hb
  subst e
  exact I1.fpOk (Nat.le_refl _) (I1.hok.fresh (Nat.le_refl _))
theorem range_it {pins : List (Addr × Obj)} {σ : St} {H : Hp} {s : Shared} {R : It → Hp → Prop} {E : Value → Shared → Prop} {lo hi : Int} {t u v : Tok} {tk : Nat} (I : Inv X pins σ H s) (h1 : -(2 ^ 62) ≤ lo) (h2 : lo < 2 ^ 62) (h3 : -(2 ^ 62) ≤ hi) (h4 : hi < 2 ^ 62)
    (q : R (Itr lo (hi - lo).toNat) H) : wpAny (model X.prog X.w) X.A (pyIter (.ref s.heap.objs.size)) (PIE X pins σ tg R) E { s with heap := s.heap.push { cls := .type "range", data := .fields #[.int lo t, .int hi u, .int 1 v] }, toks := tk } := by
  refine wpAny_pyIter_range (IsRange.new ..) (small_one h1 h2 h3 h4) ?_
  have I1 : Inv X pins σ H { s with heap := s.heap.push { cls := .type "range", data := .fields #[.int lo t, .int hi u, .int 1 v] }, toks := tk } := I.kept fun b o e => Heap.get?_push_of_some _ e
  refine ⟨(s.heap.push { cls := .type "range", data := .fields #[.int lo t, .int hi u, .int 1 v] }).objs.size, [(s.heap.push { cls := .type "range", data := .fields #[.int lo t, .int hi u, .int 1 v] }).objs.size], _, _, H, rfl,
    I1.kept (t' := tk) fun b o e => Heap.get?_push_of_some _ e, turn_range _ lo (hi - lo).toNat, ?_, fun b hb => ?_, q⟩
  · have e1 : lo + ((0 : Nat) : Int) * 1 = lo := by simp
    have e2 : (((hi - lo).toNat : Nat) : Int) - ((0 : Nat) : Int) = Builtin.Range.rangeSize lo hi 1 := by rw [rangeSize_one]; split <;> omega
    show IsRangeIter _ _ (lo + ((0 : Nat) : Int) * 1) ((((hi - lo).toNat : Nat) : Int) - ((0 : Nat) : Int)) 1
    rw [e1, e2]
    exact Heap.get?_push_size _ rfl
  · have e : b = (s.heap.push { cls := .type "range", data := .fields #[.int lo t, .int hi u, .int 1 v] }).objs.size := by simpa using hb
    subst e
    exact I1.fpOk (Nat.le_refl _) (I1.hok.fresh (Nat.le_refl _))
noncomputable def iRng2 (ta : TA) : TI := fun σ H R => ta σ H fun vs H1 => ∃ i j : Int, vs = [.int i, .int j] ∧ (-(2 ^ 62) ≤ i ∧ i < 2 ^ 62 ∧ -(2 ^ 62) ≤ j ∧ j < 2 ^ 62) ∧ R (Itr i (j - i).toNat) H1
theorem pi_range2 {a b : Expr} {ta : TA} {p pos : Pos} (hg : Gl X "range") (hm : X.mg "range" = none) (ha : PA X [a, b] ta) (hs : starEach [a, b] X.env = [(false, eval a X.env), (false, eval b X.env)] := by rfl) (hs2 : starEach [b] X.env = [(false, eval b X.env)] := by rfl) :
    PI X tg (.Call (.Name "range" p) [a, b] [] pos) (iRng2 ta) := by
  intro pins s σ H R I h
  refine Call_ (ld_blt I hg hm boot_range (PyProof.Rows.callWith_type1 (thn (ha pos pins s σ H _ I h) fun us s1 ⟨vs, H1, I1, r1, q1⟩ => ?_) (by rw [hs, hs2]) (by rw [hs2]; rfl)))
  obtain ⟨i, j, e, ⟨q1, q2, q3, q4⟩, q⟩ := q1
  subst e
  cases r1 with
  | cons r rr =>
    cases rr with
    | cons r' rr =>
      cases rr
      obtain ⟨t, rfl⟩ := r
      obtain ⟨t', rfl⟩ := r'
      exact call_range_2 (range_it I1 q1 q2 q3 q4 q)
noncomputable def tFor (wi : TI) (g : TG) (tb : TS) : TS := fun D σ H => wi σ H fun J H1 => ∃ W : Nat → Nat → St → Hp → Prop, (∃ m, W 0 m σ H1) ∧ ∀ i m σ H, W i m σ H →
  (J.stop i H ∧ D.nx σ H) ∨ (J.go i H ∧ ∃ N : St → Hp → Prop, (∀ σ' H', N σ' H' → ∃ m', m' < m ∧ W (i + 1) m' σ' H') ∧ ∀ x H', J.yld i H x H' → g x σ H' fun σ2 H2 => tb { D with nx := N, ct := N, bk := D.nx } σ2 H2)
noncomputable def pinsAt (fp : List Addr) (h : Heap) : List (Addr × Obj) := fp.filterMap fun b => (h.get? b).map fun o => (b, o)
theorem mem_pinsAt {fp : List Addr} {h : Heap} {b : Addr} {o : Obj} (hb : b ∈ fp) (e : h.get? b = some o) : (b, o) ∈ pinsAt fp h := List.mem_filterMap.mpr ⟨b, hb, by rw [e]; rfl⟩
theorem of_pinsAt {fp : List Addr} {h : Heap} {p : Addr × Obj} (hp : p ∈ pinsAt fp h) : p.1 ∈ fp ∧ h.get? p.1 = some p.2 := by
  obtain ⟨b, hb, e⟩ := List.mem_filterMap.mp hp
  cases q : h.get? b with
  | none => rw [q] at e; cases e
  | some o =>
    rw [q] at e
    have e' : (b, o) = p := Option.some.inj e
    subst e'
    exact ⟨hb, q⟩
theorem Inv.pinned {pins : List (Addr × Obj)} {σ : St} {H : Hp} {s : Shared} {fp : List Addr} (I : Inv X pins σ H s) (hf : ∀ b ∈ fp, FpOk X pins H b) (ho : ∀ b ∈ fp, ∃ o, s.heap.get? b = some o ∧ ∀ v, o.data ≠ .cell v) : Inv X (pins ++ pinsAt fp s.heap) σ H s :=
  I.pins_of fun p hp => (List.mem_append.mp hp).elim (fun z => I.pin p (List.mem_append_right _ z)) fun z => by
    obtain ⟨hb, e⟩ := of_pinsAt z
    obtain ⟨f0, f1, f2, _⟩ := hf p.1 hb
    obtain ⟨o, e', d⟩ := ho p.1 hb
    rw [e] at e'; cases e'
    exact ⟨e, f0, f1, f2, d⟩
theorem Inv.unpinned {pins pl : List (Addr × Obj)} {σ : St} {H : Hp} {s : Shared} (I : Inv X (pins ++ pl) σ H s) : Inv X pins σ H s := I.pins_of fun p hp => I.pin p (List.mem_append_right _ (List.mem_append_left _ hp))
theorem ps_for {iter : Expr} {body : List Stmt} {wi : TI} {g : TG} {tb : TS} {pos : Pos} (hp : PassesOwn (model X.prog X.w) X.A X.env X.xe) (hc : X.calm = true) (hi : PI X tg iter wi) (hg : PG X tg g) (hb : PSs X body tb)
    (hs : ∀ x, foldedSetIterable iter X.env x = pure x := by intro _; rfl) : PS X (.For tg iter body [] pos) (tFor wi g tb) := by
  intro pins s σ H D I h
  refine wpAny_For (thn (hi pins s σ H _ I h) fun v s1 h1 => thn h1 fun itv s2 h2 => ?_) hs
  obtain ⟨it, fp, tn, J, H2, e, I2, T, st2, f2, W, ⟨m0, w0⟩, turn⟩ := h2
  subst e
  have stat : ∀ {H' : Hp}, (∀ b ∈ fp, H' b = none) → ∀ b ∈ fp, FpOk X pins H' b := fun hn b hb => ⟨hn b hb, (f2 b hb).2⟩
  refine codeAny_forLoop_any (fun n s' => ∃ i σ' H', Inv X pins σ' H' s' ∧ tn i s'.heap ∧ (∀ b ∈ fp, H' b = none) ∧ W i n σ' H') ?_ m0 ⟨0, σ, H2, I2, st2, fun b hb => (f2 b hb).1, w0⟩
  rintro n s3 ⟨i, σ3, H3, I3, st3, fr3, w3⟩
  rcases turn i n σ3 H3 w3 with ⟨stop, qn⟩ | ⟨go, N, hN, step⟩
  · refine wpAny_passesOwn hp (thn (T.done X rfl rfl rfl hc i pins s3 σ3 H3 X.xe I3 (stat fr3) st3 stop) fun r s4 ⟨hr, I4⟩ => ?_)
    subst hr
    exact wpAny_execs_nil ⟨σ3, H3, I4, qn⟩
  · refine wpAny_passesOwn hp (thn (T.item X rfl rfl rfl hc i pins s3 σ3 H3 X.xe I3 (stat fr3) st3 go) fun r s4 ⟨u, hr, h4⟩ => ?_)
    subst hr
    refine wpAny_passesOwn hp (thn h4 fun _ s5 ⟨x, H5, I5, r5, y5, st5, fr5⟩ => ?_)
    have I5' := I5.pinned (stat fr5) (T.obj _ _ st5)
    refine wpAny_passesOwn hp (thn (hg _ s5 σ3 H5 x u _ I5' r5 (step x H5 y5)) fun _ s6 ⟨σ6, H6, I6, q6⟩ => ?_)
    refine wpAny_passesOwn hp (thn (hb _ s6 σ6 H6 _ I6 q6) fun f s7 q7 => ?_)
    have again : ∀ {σ7 : St} {H7 : Hp}, Inv X (pins ++ pinsAt fp s5.heap) σ7 H7 s7 → N σ7 H7 → ∃ m, m < n ∧ ∃ i σ' H', Inv X pins σ' H' s7 ∧ tn i s7.heap ∧ (∀ b ∈ fp, H' b = none) ∧ W i m σ' H' := fun {σ7 H7} I7 n7 => by
      obtain ⟨m', hm, w7⟩ := hN σ7 H7 n7
      refine ⟨m', hm, i + 1, σ7, H7, I7.unpinned, T.keep _ _ _ st5 fun b hb o e => (I7.pin (b, o) (List.mem_append_right _ (List.mem_append_right _ (mem_pinsAt hb e)))).1, fun b hb => ?_, w7⟩
      obtain ⟨o, e, d⟩ := T.obj _ _ st5 b hb
      exact (I7.pin (b, o) (List.mem_append_right _ (List.mem_append_right _ (mem_pinsAt hb e)))).2.1
    cases f with
    | next => obtain ⟨σ7, H7, I7, n7⟩ := q7; exact again I7 n7
    | cont => obtain ⟨σ7, H7, I7, n7⟩ := q7; exact again I7 n7
    | brk => obtain ⟨σ7, H7, I7, q7⟩ := q7; exact ⟨σ7, H7, I7.unpinned, q7⟩
    | ret v => obtain ⟨x7, σ7, H7, I7, r7, q7⟩ := q7; exact ⟨x7, σ7, H7, I7.unpinned, r7, q7⟩
end
theorem for_list {K : PySem.W.Frag} {a : Addr} {xs : List V} {g : TG} {tb : TS} {D : Ends} {σ : St} {H : Hp} (Pv : Nat → St → Hp → Prop) (h0 : Pv 0 σ H) (hl : ∀ i σ H, i ≤ xs.length → Pv i σ H → SqL K H a xs)
    (hs : ∀ i x σ H, xs[i]? = some x → Pv i σ H → g x σ H fun σ2 H2 => tb { D with nx := Pv (i + 1), ct := Pv (i + 1), bk := D.nx } σ2 H2) (hd : ∀ σ H, Pv xs.length σ H → D.nx σ H) :
    ∃ W : Nat → Nat → St → Hp → Prop, (∃ m, W 0 m σ H) ∧ ∀ i m σ H, W i m σ H →
      ((Itl K a).stop i H ∧ D.nx σ H) ∨ ((Itl K a).go i H ∧ ∃ N : St → Hp → Prop, (∀ σ' H', N σ' H' → ∃ m', m' < m ∧ W (i + 1) m' σ' H') ∧ ∀ x H', (Itl K a).yld i H x H' → g x σ H' fun σ2 H2 => tb { D with nx := N, ct := N, bk := D.nx } σ2 H2) := by
  refine ⟨fun i m σ H => m = xs.length - i ∧ i ≤ xs.length ∧ Pv i σ H, ⟨xs.length, by simp, Nat.zero_le _, h0⟩, ?_⟩
  rintro i m σ H ⟨rfl, hi, p⟩
  have q := hl i σ H hi p
  by_cases hlt : i < xs.length
  · refine .inr ⟨⟨xs, xs[i], q, by simp [hlt]⟩, Pv (i + 1), fun σ' H' p' => ⟨xs.length - (i + 1), by omega, rfl, hlt, p'⟩, fun x H' y => ?_⟩
    obtain ⟨e, y⟩ := y
    subst e
    exact hs i x σ _ (y xs q) p
  · have e : i = xs.length := by omega
    subst e
    exact .inl ⟨⟨xs, q, Nat.le_refl _⟩, hd σ H p⟩
end L2
namespace L2
open PySem PySem.Spec PyProof.Rows
noncomputable abbrev R2 := V → V → Hp → VK → Prop
noncomputable def OpR (X : Cx) (f : Value → Value → Sem Value) (r : R2) : Prop :=
  ∀ (pins : List (Addr × Obj)) (s : Shared) (σ : St) (H : Hp) (x y : V) (v u : Value) (Q : VK), Inv X pins σ H s → RelV x v → RelV y u → r x y H Q →
    wpAny (model X.prog X.w) X.A (f v u) (EP X pins σ Q) X.xe s
noncomputable def UnR (X : Cx) (f : Value → Sem Value) (r : V → Hp → VK → Prop) : Prop :=
  ∀ (pins : List (Addr × Obj)) (s : Shared) (σ : St) (H : Hp) (x : V) (v : Value) (Q : VK), Inv X pins σ H s → RelV x v → r x H Q →
    wpAny (model X.prog X.w) X.A (f v) (EP X pins σ Q) X.xe s
noncomputable def CallR (X : Cx) (f : Value) (r : List V → Hp → VK → Prop) : Prop :=
  ∀ (pins : List (Addr × Obj)) (s : Shared) (σ : St) (H : Hp) (xs : List V) (us : List Value) (Q : VK), Inv X pins σ H s → Vals xs us → r xs H Q →
    wpAny (model X.prog X.w) X.A (call f us) (EP X pins σ Q) X.xe s
noncomputable def tOp (r : R2) (ta tb : TE) : TE := fun σ H Q => ta σ H fun x H1 => tb σ H1 fun y H2 => r x y H2 Q
noncomputable def tUn (r : V → Hp → VK → Prop) (ta : TE) : TE := fun σ H Q => ta σ H fun x H1 => r x H1 Q
noncomputable def rI (C : Int → Int → Prop) (g : Int → Int → V) : R2 := fun x y H Q => ∃ i j, x = .int i ∧ y = .int j ∧ C i j ∧ Q (g i j) H
noncomputable def rI0 (g : Int → Int → V) : R2 := fun x y H Q => ∃ i j, x = .int i ∧ y = .int j ∧ Q (g i j) H
noncomputable def rU (g : Int → V) : V → Hp → VK → Prop := fun x H Q => ∃ i, x = .int i ∧ Q (g i) H
section
variable {X : Cx} {a b c : Expr} {ta tb tc : TE} {pos : Pos}
theorem binT (ha : PE X a ta) (hb : PE X b tb) {pins : List (Addr × Obj)} {s : Shared} {σ : St} {H : Hp} {R : V → V → Hp → Prop} (I : Inv X pins σ H s)
    (h : ta σ H fun x H1 => tb σ H1 fun y H2 => R x y H2) {Q : Value → Shared → Prop} {f : Value → Value → Sem Value}
    (hf : ∀ v u s2 x y H2, Inv X pins σ H2 s2 → RelV x v → RelV y u → R x y H2 → wpAny (model X.prog X.w) X.A (f v u) Q X.xe s2) :
    wpAny (model X.prog X.w) X.A (eval a X.env) (fun v s₁ => wpAny (model X.prog X.w) X.A (eval b X.env) (fun u s₂ => wpAny (model X.prog X.w) X.A (f v u) Q X.xe s₂) X.xe s₁) X.xe s := by
  refine thn (ha pins s σ H _ I h) fun v s1 ⟨x, H1, I1, r1, q1⟩ => ?_
  refine thn (hb pins s1 σ H1 _ I1 q1) fun u s2 ⟨y, H2, I2, r2, q2⟩ => ?_
  exact hf v u s2 x y H2 I2 r1 r2 q2
theorem pe_op {op : Operator} {r : R2} (ho : OpR X (binaryOp op) r) (ha : PE X a ta) (hb : PE X b tb) : PE X (.BinOp a op b pos) (tOp r ta tb) := by
  intro pins s σ H Q I h
  exact wpAny_BinOp (binT ha hb I h fun v u s2 x y H2 I2 rx ry q => ho pins s2 σ H2 x y v u Q I2 rx ry q)
theorem pe_un {op : UnaryOp} {r : V → Hp → VK → Prop} (ho : UnR X (unaryOp op) r) (ha : PE X a ta) : PE X (.UnaryOp op a pos) (tUn r ta) := by
  intro pins s σ H Q I h
  exact UnaryOp_ (thn (ha pins s σ H _ I h) fun v s1 ⟨x, H1, I1, r1, q1⟩ => ho pins s1 σ H1 x v Q I1 r1 q1)
theorem opI {f : Value → Value → Sem Value} {C : Int → Int → Prop} {g : Int → Int → Int}
    (rule : ∀ (i j : Int) (t u : Tok) (s : Shared) (Q : Value → Shared → Prop) (E : Value → Shared → Prop), C i j → Q (.int (g i j) s.toks) { s with toks := s.toks + 1 } → wpAny (model X.prog X.w) X.A (f (.int i t) (.int j u)) Q E s) :
    OpR X f (rI C fun i j => .int (g i j)) := by
  intro pins s σ H x y v u Q I rx ry h
  obtain ⟨i, j, rfl, rfl, hc, q⟩ := h
  obtain ⟨t, rfl⟩ := rx
  obtain ⟨t', rfl⟩ := ry
  exact rule i j t t' s _ _ hc ⟨.int (g i j), H, I.tok _, ⟨_, rfl⟩, q⟩
theorem opI0 {f : Value → Value → Sem Value} {g : Int → Int → Int}
    (rule : ∀ (i j : Int) (t u : Tok) (s : Shared) (Q : Value → Shared → Prop) (E : Value → Shared → Prop), Q (.int (g i j) s.toks) { s with toks := s.toks + 1 } → wpAny (model X.prog X.w) X.A (f (.int i t) (.int j u)) Q E s) :
    OpR X f (rI0 fun i j => .int (g i j)) := by
  intro pins s σ H x y v u Q I rx ry h
  obtain ⟨i, j, rfl, rfl, q⟩ := h
  obtain ⟨t, rfl⟩ := rx
  obtain ⟨t', rfl⟩ := ry
  exact rule i j t t' s _ _ ⟨.int (g i j), H, I.tok _, ⟨_, rfl⟩, q⟩
theorem opB0 {f : Value → Value → Sem Value} {g : Int → Int → Bool}
    (rule : ∀ (i j : Int) (t u : Tok) (s : Shared) (Q : Value → Shared → Prop) (E : Value → Shared → Prop), Q (.bool (g i j)) s → wpAny (model X.prog X.w) X.A (f (.int i t) (.int j u)) Q E s) :
    OpR X f (rI0 fun i j => .bl (g i j)) := by
  intro pins s σ H x y v u Q I rx ry h
  obtain ⟨i, j, rfl, rfl, q⟩ := h
  obtain ⟨t, rfl⟩ := rx
  obtain ⟨t', rfl⟩ := ry
  exact rule i j t t' s _ _ ⟨.bl (g i j), H, I, rfl, q⟩
noncomputable def CDiv (i j : Int) : Prop := 0 < j ∧ j < 1073741824
theorem op_add : OpR X (binaryOp .Add) (rI0 fun i j => .int (i + j)) := opI0 fun _ _ _ _ _ _ _ q => add_int q
theorem op_sub : OpR X (binaryOp .Sub) (rI0 fun i j => .int (i - j)) := opI0 fun _ _ _ _ _ _ _ q => sub_int q
theorem op_fdiv : OpR X (binaryOp .FloorDiv) (rI CDiv fun i j => .int (i / j)) := opI fun i j _ _ _ _ _ hc q => by
  have h1 : (0 : Int) < j := hc.1
  have h2 : j < 1073741824 := hc.2
  exact floordiv_int (by omega) (by rw [Int.fdiv_eq_ediv_of_nonneg i (by omega)]; exact q) (.inl (PyProof.noPylong_small (by omega)))
theorem op_mod : OpR X (binaryOp .Mod) (rI (fun _ j => 0 < j) fun i j => .int (i % j)) := opI fun i j _ _ _ _ _ hc q => by
  have h1 : (0 : Int) < j := hc
  exact mod_int' (by omega) (by rw [Int.fmod_eq_emod_of_nonneg i (by omega)]; exact q)
theorem unI {f : Value → Sem Value} {g : Int → Int}
    (rule : ∀ (i : Int) (t : Tok) (s : Shared) (Q : Value → Shared → Prop) (E : Value → Shared → Prop), Q (.int (g i) s.toks) { s with toks := s.toks + 1 } → wpAny (model X.prog X.w) X.A (f (.int i t)) Q E s) :
    UnR X f (rU fun i => .int (g i)) := by
  intro pins s σ H x v Q I rx h
  obtain ⟨i, rfl, q⟩ := h
  obtain ⟨t, rfl⟩ := rx
  exact rule i t s _ _ ⟨.int (g i), H, I.tok _, ⟨_, rfl⟩, q⟩
theorem un_neg : UnR X (unaryOp .USub) (rU fun i => .int (-i)) := unI fun _ _ _ _ _ q => neg_int q
end
noncomputable def scal : V → V → Bool
  | .non, .non => true | .non, .int _ => true | .int _, .non => true | .non, .bl _ => true | .bl _, .non => true | .non, .str _ => true | .str _, .non => true
  | .int _, .int _ => true | .bl _, .bl _ => true | .str _, .str _ => true | .byt _, .byt _ => true
  | .int _, .str _ => true | .str _, .int _ => true | .bl _, .str _ => true | .str _, .bl _ => true
  | _, _ => false
noncomputable def rEq : R2 := fun x y H Q => scal x y = true ∧ Q (.bl (decide (x = y))) H
noncomputable def rNe : R2 := fun x y H Q => scal x y = true ∧ Q (.bl (!decide (x = y))) H
theorem dec_int {i j : Int} : decide (V.int i = V.int j) = (i == j) := by
  rw [Bool.eq_iff_iff]
  simp
theorem dec_bl {i j : Bool} : decide (V.bl i = V.bl j) = (i == j) := by
  rw [Bool.eq_iff_iff]
  simp
theorem dec_str {i j : Str} : decide (V.str i = V.str j) = (i == j) := by
  rw [Bool.eq_iff_iff]
  simp
theorem dec_byt {i j : Array UInt8} : decide (V.byt i = V.byt j) = (i.toList == j.toList) := by
  rw [Bool.eq_iff_iff]
  cases i
  cases j
  simp
section
variable {X : Cx} {a b c : Expr} {ta tb tc : TE} {pos : Pos}
theorem fin_bl {pins : List (Addr × Obj)} {σ : St} {H : Hp} {s : Shared} {Q : VK} {k k' : Bool} (I : Inv X pins σ H s) (q : Q (.bl k) H) (e : k = k') : EP X pins σ Q (.bool k') s := by
  subst e
  exact ⟨.bl k, H, I, rfl, q⟩
theorem op_eq : OpR X (compareOp .Eq) rEq := by
  intro pins s σ H x y v u Q I rx ry h
  obtain ⟨hs, q⟩ := h
  cases x with
  | non =>
    cases rx
    cases y with
    | non => cases ry; exact PySem.EqNone.eq_none_none (fin_bl I q (by simp))
    | bl j => cases ry; exact PySem.EqNone.eq_none_bool (fin_bl I q (by simp))
    | int j => obtain ⟨t', rfl⟩ := ry; exact PySem.EqNone.eq_none_int (fin_bl I q (by simp))
    | str j => obtain ⟨t', rfl⟩ := ry; exact PySem.EqNone.eq_none_str (fin_bl I q (by simp))
    | _ => exact absurd (show false = true from hs) Bool.false_ne_true
  | bl i =>
    cases rx
    cases y with
    | non => cases ry; exact PySem.EqNone.eq_bool_none (fin_bl I q (by simp))
    | bl j => cases ry; exact eq_bool (fin_bl I q dec_bl)
    | str j => obtain ⟨t', rfl⟩ := ry; exact PySem.EqMixed.eq_bool_str (fin_bl I q (by simp))
    | _ => exact absurd (show false = true from hs) Bool.false_ne_true
  | int i =>
    obtain ⟨t, rfl⟩ := rx
    cases y with
    | non => cases ry; exact PySem.EqNone.eq_int_none (fin_bl I q (by simp))
    | int j => obtain ⟨t', rfl⟩ := ry; exact eq_int (fin_bl I q dec_int)
    | str j => obtain ⟨t', rfl⟩ := ry; exact PySem.EqMixed.eq_int_str (fin_bl I q (by simp))
    | _ => exact absurd (show false = true from hs) Bool.false_ne_true
  | str i =>
    obtain ⟨t, rfl⟩ := rx
    cases y with
    | non => cases ry; exact PySem.EqNone.eq_str_none (fin_bl I q (by simp))
    | bl j => cases ry; exact PySem.EqMixed.eq_str_bool (fin_bl I q (by simp))
    | int j => obtain ⟨t', rfl⟩ := ry; exact PySem.EqMixed.eq_str_int (fin_bl I q (by simp))
    | str j => obtain ⟨t', rfl⟩ := ry; exact eq_str (fin_bl I q dec_str)
    | _ => exact absurd (show false = true from hs) Bool.false_ne_true
  | byt i =>
    obtain ⟨t, rfl⟩ := rx
    cases y with
    | byt j => obtain ⟨t', rfl⟩ := ry; exact PySem.W.eq_bytes (fin_bl I q dec_byt)
    | _ => exact absurd (show false = true from hs) Bool.false_ne_true
  | _ => cases y <;> exact absurd (show false = true from hs) Bool.false_ne_true
theorem op_ne : OpR X (compareOp .NotEq) rNe := by
  intro pins s σ H x y v u Q I rx ry h
  obtain ⟨hs, q⟩ := h
  cases x with
  | non =>
    cases rx
    cases y with
    | non => cases ry; exact PySem.EqNone.ne_none_none (fin_bl I q (by simp))
    | bl j => cases ry; exact PySem.EqNone.ne_none_bool (fin_bl I q (by simp))
    | int j => obtain ⟨t', rfl⟩ := ry; exact PySem.EqNone.ne_none_int (fin_bl I q (by simp))
    | str j => obtain ⟨t', rfl⟩ := ry; exact PySem.EqNone.ne_none_str (fin_bl I q (by simp))
    | _ => exact absurd (show false = true from hs) Bool.false_ne_true
  | bl i =>
    cases rx
    cases y with
    | non => cases ry; exact PySem.EqNone.ne_bool_none (fin_bl I q (by simp))
    | bl j => cases ry; exact ne_bool (fin_bl I q (congrArg not dec_bl))
    | str j => obtain ⟨t', rfl⟩ := ry; exact PySem.EqMixed.ne_bool_str (fin_bl I q (by simp))
    | _ => exact absurd (show false = true from hs) Bool.false_ne_true
  | int i =>
    obtain ⟨t, rfl⟩ := rx
    cases y with
    | non => cases ry; exact PySem.EqNone.ne_int_none (fin_bl I q (by simp))
    | int j => obtain ⟨t', rfl⟩ := ry; exact ne_int (fin_bl I q (congrArg not dec_int))
    | str j => obtain ⟨t', rfl⟩ := ry; exact PySem.EqMixed.ne_int_str (fin_bl I q (by simp))
    | _ => exact absurd (show false = true from hs) Bool.false_ne_true
  | str i =>
    obtain ⟨t, rfl⟩ := rx
    cases y with
    | non => cases ry; exact PySem.EqNone.ne_str_none (fin_bl I q (by simp))
    | bl j => cases ry; exact PySem.EqMixed.ne_str_bool (fin_bl I q (by simp))
    | int j => obtain ⟨t', rfl⟩ := ry; exact PySem.EqMixed.ne_str_int (fin_bl I q (by simp))
    | str j => obtain ⟨t', rfl⟩ := ry; exact ne_str (fin_bl I q (congrArg not dec_str))
    | _ => exact absurd (show false = true from hs) Bool.false_ne_true
  | byt i =>
    obtain ⟨t, rfl⟩ := rx
    cases y with
    | byt j => obtain ⟨t', rfl⟩ := ry; exact PySem.W.ne_bytes (fin_bl I q (congrArg not dec_byt))
    | _ => exact absurd (show false = true from hs) Bool.false_ne_true
  | _ => cases y <;> exact absurd (show false = true from hs) Bool.false_ne_true
theorem op_lt : OpR X (compareOp .Lt) (rI0 fun i j => .bl (decide (i < j))) := opB0 fun _ _ _ _ _ _ _ q => lt_int q
theorem op_gt : OpR X (compareOp .Gt) (rI0 fun i j => .bl (decide (j < i))) := opB0 fun _ _ _ _ _ _ _ q => gt_int q
theorem op_notin_str : OpR X (compareOp .NotIn) (fun x y H Q => ∃ i j, x = .str i ∧ y = .str j ∧ Q (.bl (!(!(Builtin.Str.occurrences j i 0 j.length 1).isEmpty))) H) := by
  intro pins s σ H x y v u Q I rx ry h
  obtain ⟨i, j, rfl, rfl, q⟩ := h
  obtain ⟨t, rfl⟩ := rx
  obtain ⟨t', rfl⟩ := ry
  exact notIn_str (fin_bl I q rfl)
theorem nomark (b : Expr) {op : CmpOp} (h : op ≠ .In := by decide) (h2 : op ≠ .NotIn := by decide) : behindInMarks op b = false := by
  have e1 : (op == CmpOp.In) = false := by cases op <;> first | rfl | exact absurd rfl h
  have e2 : (op == CmpOp.NotIn) = false := by cases op <;> first | rfl | exact absurd rfl h2
  cases b <;> simp [behindInMarks, e1, e2]
theorem pe_cmpR {op : CmpOp} {r : R2} (ho : OpR X (compareOp op) r) (ha : PE X a ta) (hb : PE X b tb) (hm : behindInMarks op b = false) : PE X (.Compare a [op] [b] pos) (tOp r ta tb) := by
  intro pins s σ H Q I h
  exact wpAny_Compare1 (binT ha hb I h fun v u s2 x y H2 I2 rx ry q => ho pins s2 σ H2 x y v u Q I2 rx ry q) hm
noncomputable def tTest (t : TE) : TT := fun σ H Q => t σ H fun x H' => ∃ k, x = .bl k ∧ Q k H'
theorem pt_cmpR {op : CmpOp} {r : R2} (ho : OpR X (compareOp op) r) (ha : PE X a ta) (hb : PE X b tb) (hm : behindInMarks op b = false) : PT X (.Compare a [op] [b] pos) (tTest (tOp r ta tb)) := by
  intro pins s σ H Q I h
  refine wpAny_isTrue_Compare1 (thn (ha pins s σ H _ I h) fun v s1 ⟨x, H1, I1, r1, q1⟩ => thn (hb pins s1 σ H1 _ I1 q1) fun u s2 ⟨y, H2, I2, r2, q2⟩ =>
    thn (ho pins s2 σ H2 x y v u _ I2 r1 r2 q2) fun c s3 ⟨z, H3, I3, r3, k, e, q3⟩ => ?_) hm
  subst e
  cases r3
  exact wpAny_truthy_bool ⟨H3, I3, q3⟩
theorem line63 : (sizeLine : Nat) < 2 ^ 63 := by rw [sizeLine_eq]; decide
theorem op_add_str : OpR X (binaryOp .Add) (fun x y H Q => ∃ i j, x = .str i ∧ y = .str j ∧ i.length + j.length ≤ sizeLine ∧ Q (.str (i ++ j)) H) := by
  intro pins s σ H x y v u Q I rx ry h
  obtain ⟨i, j, rfl, rfl, hz, q⟩ := h
  obtain ⟨t, rfl⟩ := rx
  obtain ⟨t', rfl⟩ := ry
  exact add_str (fun t' tk => ⟨.str (i ++ j), H, I.tok _, ⟨_, rfl⟩, q⟩) hz
theorem vals1 {x : V} {us : List Value} (r : Vals [x] us) : ∃ u, us = [u] ∧ RelV x u := by
  cases r with
  | cons r1 r2 => cases r2; exact ⟨_, rfl, r1⟩
theorem vals2 {x y : V} {us : List Value} (r : Vals [x, y] us) : ∃ u w', us = [u, w'] ∧ RelV x u ∧ RelV y w' := by
  cases r with
  | cons r1 r2 =>
    cases r2 with
    | cons r3 r4 => cases r4; exact ⟨_, _, rfl, r1, r3⟩
end
end L2
namespace L2
open PySem PySem.Spec PyProof.Rows
structure ObjM (h : Heap) (x dx C : Addr) (mA : Str → Option Value) : Prop where
  obj : h.get? x = some (PySem.W.instObj C dx)
  ns : h.Ns1 dx mA
  ne : dx ≠ x
theorem lookIn_ns {h : Heap} {dx : Addr} {mA : Str → Option Value} (n : h.Ns1 dx mA) : ∃ od, h.get? dx = some od ∧ ∀ name, PySem.W.lookIn name od = some (mA name) := by
  obtain ⟨o, es, ep, ho, hd, hk, _, hm⟩ := n
  refine ⟨o, ho, fun name => ?_⟩
  have e := hm name
  unfold nsFind findBy at e
  rw [← Array.find?_toList] at e
  unfold PySem.W.lookIn
  rw [hd]
  dsimp only
  split
  · rename_i y q
    rw [q] at e
    exact congrArg some e
  · rename_i q
    rw [q] at e
    have a : es.toList.any (·.refKey) = false := by
      rw [List.any_eq_false]
      intro y hy
      obtain ⟨z, t, hkey⟩ := hk y (Array.mem_toList_iff.mp hy)
      simp [DictEntry.refKey, hkey]
    have a' : ¬ es.toList.any (·.refKey) = true := by rw [a]; exact Bool.false_ne_true
    rw [if_neg a']
    exact congrArg some e
theorem ObjM.look {h : Heap} {x dx C : Addr} {mA : Str → Option Value} (I : ObjM h x dx C mA) : ∃ od, PySem.W.InstAt h x (PySem.W.instObj C dx) C (some od) ∧ ∀ name, PySem.W.lookIn name od = some (mA name) :=
  let ⟨od, ho, hl⟩ := lookIn_ns I.ns
  ⟨od, ⟨I.obj, rfl, rfl, ho⟩, hl⟩
section
variable {prog : Program} {w : World} {A : Around} {E : Value → Shared → Prop} {s : Shared} {K : PySem.W.Frag} {x dx C f : Addr} {mA : Str → Option Value} {name : Str} {v : Value}
theorem set_map {ns : List Str} {Q : Unit → Shared → Prop} (X : K.In s.heap) (I : ObjM s.heap x dx C mA)
    (hs : PySem.W.findIn K (.ref C) "__setattr__" = some (some (.builtin "object.__setattr__"))) (hp : PySem.W.plainOver K C = true) (ht : PySem.W.takerIn K C name = some none) (hh : PySem.W.hasDictIn K C = true)
    (hw : PySem.Within mA ns) (hsz : ns.length ≤ sizeLine)
    (h : ∀ h', ObjM h' x dx C (fun y => if y = name then some v else mA y) → Heap.SameBut dx s.heap h' → Q () { s with heap := h', toks := s.toks + 2 }) :
    wpAny (model prog w) A (setAttr (.ref x) name v) Q E s := by
  obtain ⟨od, J, hl⟩ := I.look
  refine PySem.W.set_plain X J hs (PySem.W.osa_open (s := { s with toks := s.toks + 1 }) (r := none) X J hp ht fun b => ?_)
  obtain ⟨cd, hc, hd'⟩ := PySem.W.any_some hh
  have hx : s.heap.get? x = some ⟨.ref C, some dx, .plain, #[]⟩ := I.obj
  refine wpAny_bind (wpAny_pure (wpAny_bind (wpAny_bind (wpAny_loadPart hx (wpAny_bind (PySem.W.Looks.here (s := { s with toks := s.toks + 1 }) (PySem.W.looks_clsIn X hc) ?_))))))
  rw [hd']
  refine wpAny_pure (a := some dx) (wpAny_bind (wpAny_pure (wpAny_bind ?_)))
  refine wpAny_nsSet1 (s := { s with toks := s.toks + 1 }) I.ns fun h' hn2 hs2 => ?_
  obtain ⟨oD, esD, epD, hoD, hdD, hcD⟩ := hn2.count (PySem.Within.cons name v hw)
  refine wpAny_bind (wpAny_lookBehind hoD (by rw [hdD]; exact pastItsLine_dict (Nat.le_trans hcD (by rw [List.length_cons]; omega))) ?_)
  exact wpAny_pure (h _ ⟨(hs2.2 _ (Ne.symm I.ne)).trans I.obj, hn2, I.ne⟩ hs2)
theorem make_map {R : Result → Shared → Prop} {vs : List Value} {kw : List (Str × Value)} (X : K.In s.heap) (hm : PySem.W.makesIn K C = true)
    (hi : PySem.W.findIn K (.ref C) "__init__" = some (some (.ref f))) (hf : PySem.W.typeIn K (.ref f) = some (.type "function"))
    (h : codeAny (model prog w) (A.under (.builtin "type.__call__" ⟨.ref C :: vs, kw⟩)) (.call (.ref f) ⟨.ref (s.heap.objs.size + 1) :: vs, kw⟩) (PySem.W.InitBack (s.heap.objs.size + 1) R)
      { s with heap := (s.heap.push PySem.W.emptyDict).push (PySem.W.instObj C s.heap.objs.size) }) :
    codeAny (model prog w) A (.call (.ref C) ⟨vs, kw⟩) R s := by
  obtain ⟨hh, g, d, t, os⟩ := s
  exact PySem.W.make_core (PySem.W.makes_of X hm) (PySem.W.looks_findIn X hi) (fun self => PySem.W.bind_fn X self hf) (.inl rfl) h
end
noncomputable def putF (f : Str) (v : V) : List (Str × V) → List (Str × V)
  | [] => [(f, v)]
  | (g, x) :: r => if g = f then (g, v) :: r else (g, x) :: putF f v r
theorem lookup_putF (f g : Str) (v : V) : ∀ fs : List (Str × V), (putF f v fs).lookup g = if g = f then some v else fs.lookup g
  | [] => by
    show List.lookup g [(f, v)] = _
    by_cases h : g = f
    · have hb : (g == f) = true := beq_iff_eq.mpr h
      simp only [List.lookup, hb, if_pos h]
    · have hb : (g == f) = false := beq_eq_false_iff_ne.mpr h
      simp only [List.lookup, hb, if_neg h]
  | (k, x) :: r => by
    have ih := lookup_putF f g v r
    rw [show putF f v ((k, x) :: r) = (if k = f then (k, v) :: r else (k, x) :: putF f v r) from rfl]
    by_cases hk : k = f
    · rw [if_pos hk]
      by_cases h : g = k
      · have hb : (g == k) = true := beq_iff_eq.mpr h
        simp only [List.lookup, hb, if_pos (h.trans hk)]
      · have hb : (g == k) = false := beq_eq_false_iff_ne.mpr h
        simp only [List.lookup, hb, if_neg (fun e : g = f => h (e.trans hk.symm))]
    · rw [if_neg hk]
      by_cases h : g = k
      · have hb : (g == k) = true := beq_iff_eq.mpr h
        simp only [List.lookup, hb, if_neg (fun e : g = f => hk (h.symm.trans e))]
      · have hb : (g == k) = false := beq_eq_false_iff_ne.mpr h
        simp only [List.lookup, hb]
        exact ih
theorem keys_putF (f : Str) (v : V) : ∀ fs : List (Str × V), f ∈ (putF f v fs).map (·.1) ∧ ∀ g, g ∈ fs.map (·.1) → g ∈ (putF f v fs).map (·.1)
  | [] => ⟨by simp [putF], fun g h => by simp at h⟩
  | (k, x) :: r => by
    obtain ⟨i1, i2⟩ := keys_putF f v r
    rw [show putF f v ((k, x) :: r) = (if k = f then (k, v) :: r else (k, x) :: putF f v r) from rfl]
    by_cases hk : k = f
    · rw [if_pos hk]
      subst hk
      exact ⟨by simp, fun g h => by simpa using h⟩
    · rw [if_neg hk]
      refine ⟨?_, fun g h => ?_⟩
      · rw [List.map_cons]
        exact List.mem_cons_of_mem _ i1
      · rw [List.map_cons] at h ⊢
        rcases List.mem_cons.mp h with e | e
        · exact List.mem_cons.mpr (.inl e)
        · exact List.mem_cons_of_mem _ (i2 g e)
theorem length_putF (f : Str) (v : V) : ∀ fs : List (Str × V), (putF f v fs).length ≤ fs.length + 1
  | [] => by simp [putF]
  | (k, x) :: r => by
    have ih := length_putF f v r
    rw [show putF f v ((k, x) :: r) = (if k = f then (k, v) :: r else (k, x) :: putF f v r) from rfl]
    by_cases hk : k = f
    · rw [if_pos hk, List.length_cons, List.length_cons]; omega
    · rw [if_neg hk, List.length_cons, List.length_cons]; omega
theorem RelO.some_of {v : V} {o : Option Value} (r : RelO (some v) o) : ∃ u, o = some u ∧ RelV v u := by
  cases o with
  | none => exact (show False from r).elim
  | some u => exact ⟨u, rfl, r⟩
section
variable {P : Program} {w : World} {H H' : Hp} {h h' : Heap} {a C dx : Addr} {fs fs' : List (Str × V)}
theorem ins_get (hok : HOk P w H h) (e : H a = some (.ins C dx fs)) : ∃ mA, ObjM h a dx C mA ∧ (∀ f, RelO (fs.lookup f) (mA f)) ∧ PySem.Within mA (fs.map (·.1)) ∧ fs.length ≤ 1000 ∧ H dx = some (.own a) := by
  obtain ⟨d, z, ne, ob, mA, n, r, q⟩ := (show ObjOk P w H h a (.ins C dx fs) from hok a _ e)
  exact ⟨mA, ⟨ob, n, ne⟩, r, q, z, d⟩
end
structure Cls (K : PySem.W.Frag) (C : Addr) : Prop where
  pg : PySem.W.plainGet K C Str.empty = true
  hd : PySem.W.hasDictIn K C = true
  po : PySem.W.plainOver K C = true
  sa : PySem.W.findIn K (.ref C) "__setattr__" = some (some (.builtin "object.__setattr__"))
theorem Cls.get {K : PySem.W.Frag} {C : Addr} (c : Cls K C) (f : Str) : PySem.W.plainGet K C f = true := c.pg
noncomputable def NoAttr (K : PySem.W.Frag) (C : Addr) (f : Str) : Prop := PySem.W.findIn K (.ref C) f = some none
theorem NoAttr.taker {K : PySem.W.Frag} {C : Addr} {f : Str} (n : NoAttr K C f) : PySem.W.takerIn K C f = some none := by
  unfold PySem.W.takerIn
  rw [show PySem.W.findIn K (.ref C) f = some none from n]
  rfl
structure Meth (K : PySem.W.Frag) (C : Addr) (m : Str) (f : Addr) : Prop where
  at_ : PySem.W.findIn K (.ref C) m = some (some (.ref f))
  fn : PySem.W.isFn K (.ref f) = true
  kp : PySem.W.keepIn K (.ref f) = true
section
variable {X : Cx} {pins : List (Addr × Obj)} {σ : St} {H : Hp} {s : Shared} {a C dx : Addr} {fs : List (Str × V)} {f : Str} {v : V} {A : Around} {E : Value → Shared → Prop}
theorem setattr_ok {y : V} {u : Value} {Q : Unit → Shared → Prop} (I : Inv X pins σ H s) (e : H a = some (.ins C dx fs)) (c : Cls X.K C) (n : NoAttr X.K C f) (hl : fs.length < 1000) (ry : RelV y u)
    (h : ∀ s', Inv X pins σ (upd H a (.ins C dx (putF f y fs))) s' → Q () s') : wpAny (model X.prog X.w) A (setAttr (.ref a) f u) Q E s := by
  obtain ⟨mA, O, r, wi, _, ho⟩ := ins_get I.hok e
  have hz : (fs.map (·.1)).length ≤ sizeLine := by rw [List.length_map, sizeLine_eq]; omega
  refine set_map I.kIn O c.sa c.po n.taker c.hd wi hz fun h' O' sb => h _ ?_
  have hd : ∃ o, h'.get? dx = some o := let ⟨o, _, _, e', _⟩ := O'.ns; ⟨o, e'⟩
  refine I.write (x := a) (e := dx) (by rw [e]; exact True.intro) (.inr ho) (fun b q hb z => (sb.2 b hb).trans z) hd ?_
  refine ⟨by rw [upd_ne O.ne]; exact ho, ?_, O.ne, O'.obj, _, O'.ns, fun g => ?_, fun g hg => ?_⟩
  · have := length_putF f y fs; omega
  · show RelO ((putF f y fs).lookup g) (if g = f then some u else mA g)
    rw [lookup_putF]
    by_cases q : g = f
    · rw [if_pos q, if_pos q]; exact ry
    · rw [if_neg q, if_neg q]; exact r g
  · by_cases q : g = f
    · rw [q]; exact (keys_putF f y fs).1
    · refine (keys_putF f y fs).2 g (wi g fun z => hg ?_)
      show (if g = f then some u else mA g) = none
      rw [if_neg q]; exact z
theorem Inv.made (I : Inv X pins σ H s) : Inv X pins σ (upd (upd H s.heap.objs.size (.own (s.heap.objs.size + 1))) (s.heap.objs.size + 1) (.ins C s.heap.objs.size []))
    { s with heap := (s.heap.push PySem.W.emptyDict).push (PySem.W.instObj C s.heap.objs.size) } := by
  have e1 : (s.heap.push PySem.W.emptyDict).get? s.heap.objs.size = some PySem.W.emptyDict := Heap.get?_push_size s.heap rfl
  have e2 : ((s.heap.push PySem.W.emptyDict).push (PySem.W.instObj C s.heap.objs.size)).get? (s.heap.objs.size + 1) = some (PySem.W.instObj C s.heap.objs.size) := by
    have := Heap.get?_push_size (s.heap.push PySem.W.emptyDict) (o := PySem.W.instObj C s.heap.objs.size) rfl
    rwa [Heap.size_push] at this
  have e3 : (s.heap.push PySem.W.emptyDict).Ns s.heap.objs.size (fun _ => none) := ⟨PySem.W.emptyDict, #[], _, e1, rfl, (fun e he => absurd he (by simp)), fun _ => rfl⟩
  have I1 := I.laid (a := s.heap.objs.size) (o := .own (s.heap.objs.size + 1)) (h' := s.heap.push PySem.W.emptyDict) (t' := s.toks) (fun b u q => Heap.get?_push_of_some _ q) (Nat.le_refl _) ⟨_, e1⟩
  refine I1.laid (a := s.heap.objs.size + 1) (o := .ins C s.heap.objs.size []) (t' := s.toks) (fun b u q => Heap.get?_push_of_some _ q) (Nat.le_of_eq (Heap.size_push _ _)) ?_
  have ne : s.heap.objs.size ≠ s.heap.objs.size + 1 := Nat.ne_of_lt (Nat.lt_succ_self _)
  refine ⟨by rw [upd_ne ne, upd_same], Nat.zero_le _, ne, e2, fun _ => none, (Heap.Ns1.of_empty e3).at fun o q => Heap.get?_push_of_some _ q, fun _ => True.intro, fun y hy => absurd rfl hy⟩
end
noncomputable def sFld (K : PySem.W.Frag) (ta tv : TE) (f : Str) : TS := fun D σ H => tv σ H fun y H1 => ta σ H1 fun x H2 => ∃ a C dx fs, x = .ref a ∧ H2 a = some (.ins C dx fs) ∧ Cls K C ∧ NoAttr K C f ∧ fs.length < 1000 ∧
  D.nx σ (upd H2 a (.ins C dx (putF f y fs)))
section
variable {X : Cx} {o e value : Expr} {f : Str} {pos pos' tpos : Pos} {ta tv : TE}
theorem ps_fld (ha : PE X o ta) (hv : PE X value tv) (hs : swapsWith value (some (.Attribute o f pos')) pos.line X.env = pure false) : PS X (.Assign [.Attribute o f pos'] value pos) (sFld X.K ta tv f) := by
  intro pins s σ H D I h
  refine plainObj_wpAny_Assign_Attribute (thn (hv pins s σ H _ I h) fun u s1 ⟨y, H1, I1, ry, q⟩ => thn (ha pins s1 σ H1 _ I1 q) fun ov s2 hz => ?_) hs
  obtain ⟨x, H2, I2, rx, a, C, dx, fs, ex, ea, c, n, l, q2⟩ := hz
  subst ex
  obtain rfl : ov = Value.ref a := rx
  exact setattr_ok I2 ea c n l ry fun s3 I3 => ⟨σ, _, I3, q2⟩
end
section
variable {X : Cx} {pins : List (Addr × Obj)} {σ : St} {H : Hp} {s : Shared} {A : Around} {E : Value → Shared → Prop} {Q : Value → Shared → Prop} {c : Value} {b : Bool}
inductive TyOf (K : PySem.W.Frag) (H : Hp) : V → Value → Prop where
  | non : TyOf K H .non (.type "NoneType")
  | bl (x : Bool) : TyOf K H (.bl x) (.type "bool")
  | int (i : Int) : TyOf K H (.int i) (.type "int")
  | str (x : Str) : TyOf K H (.str x) (.type "str")
  | flt (x : UInt64) : TyOf K H (.flt x) (.type "float")
  | lst {a : Addr} {xs : List V} (e : H a = some (.lst xs)) : TyOf K H (.ref a) (.type "list")
  | frz {a : Addr} {o : Obj} {xs : List V} (e : H a = some (.frz o (.lst xs))) : TyOf K H (.ref a) (.type "list")
  | tup {a : Addr} {xs : List V} (e : H a = some (.tup xs)) : TyOf K H (.ref a) (.type "tuple")
  | dK {a : Addr} {kvs : List (Key × V)} (e : H a = some (.dK kvs)) : TyOf K H (.ref a) (.type "dict")
  | dT {a : Addr} {kvs : List (List Key × V)} (e : H a = some (.dT kvs)) : TyOf K H (.ref a) (.type "dict")
  | ins {a C dx : Addr} {fs : List (Str × V)} (e : H a = some (.ins C dx fs)) (cl : Cls K C) (ha : PySem.W.findIn K (.ref C) "__class__" = some (some (.builtin "object.__class__")))
      (hn : PySem.W.specialIn K (.builtin "object.__class__") "__get__" = some (some (.builtin "getset_descriptor.__get__"))) (htk : PySem.W.takesIn K (.builtin "object.__class__") = some true)
      (hm : PySem.W.mroIn K C (.type "object") = some true) : TyOf K H (.ref a) (.ref C)
theorem isinst_ok {x : V} {u t : Value} (I : Inv X pins σ H s) (rx : RelV x u) (ty : TyOf X.K H x t) (e : PySem.W.kitOne X.K t c = some b) (h : ∀ tk, Q (.bool b) { s with toks := tk }) :
    wpAny (model X.prog X.w) A (call (.builtin "isinstance") [u, c]) Q E s := by
  cases ty with
  | non => cases (show u = Value.none from rx); exact PySem.W.kia_one PySem.W.kitx_none I.kIn True.intro e (fun z => nomatch z) h
  | bl y => cases (show u = Value.bool y from rx); exact PySem.W.kia_one PySem.W.kitx_bool I.kIn True.intro e (fun z => nomatch z) h
  | int i => obtain ⟨t, q⟩ := (show ∃ t, u = Value.int i t from rx); cases q; exact PySem.W.kia_one PySem.W.kitx_int I.kIn True.intro e (fun z => nomatch z) h
  | str y => obtain ⟨t, q⟩ := (show ∃ t, u = Value.str y t from rx); cases q; exact PySem.W.kia_one PySem.W.kitx_str I.kIn True.intro e (fun z => nomatch z) h
  | flt y => obtain ⟨t, q⟩ := (show ∃ t, u = Value.float y t from rx); cases q; exact PySem.W.kia_one PySem.W.kitx_float I.kIn True.intro e (fun z => nomatch z) h
  | @lst a xs ea =>
    cases (show u = Value.ref a from rx)
    obtain ⟨_, _, n, _, h1⟩ := (show ObjOk X.prog X.w H s.heap a (.lst xs) from I.hok a _ ea)
    exact PySem.W.kia_one PySem.W.kitx_list I.kIn ⟨_, h1, rfl⟩ e (fun z => nomatch z) h
  | @frz a ob xs ea =>
    cases (show u = Value.ref a from rx)
    obtain ⟨_, _, _, n, _, h1⟩ := (show ObjOk X.prog X.w H s.heap a (.frz ob (.lst xs)) from I.hok a _ ea)
    exact PySem.W.kia_one PySem.W.kitx_list I.kIn ⟨_, h1, rfl⟩ e (fun z => nomatch z) h
  | @tup a xs ea =>
    cases (show u = Value.ref a from rx)
    obtain ⟨_, _, _, p⟩ := (show ObjOk X.prog X.w H s.heap a (.tup xs) from I.hok a _ ea)
    obtain ⟨o, h1, h2, _⟩ := p
    exact PySem.W.kia_one PySem.W.kitx_tuple I.kIn ⟨o, h1, h2⟩ e (fun z => nomatch z) h
  | @dK a kvs ea =>
    cases (show u = Value.ref a from rx)
    obtain ⟨_, _, vs, _, p⟩ := (show ObjOk X.prog X.w H s.heap a (.dK kvs) from I.hok a _ ea)
    obtain ⟨o, es, ep, h1, h2, _⟩ := p
    exact PySem.W.kia_one PySem.W.kitx_dict I.kIn ⟨o, h1, h2.1⟩ e (fun z => nomatch z) h
  | @dT a kvs ea =>
    cases (show u = Value.ref a from rx)
    obtain ⟨_, _, xs, _, o, es, ep, h1, h2, _⟩ := (show ObjOk X.prog X.w H s.heap a (.dT kvs) from I.hok a _ ea)
    exact PySem.W.kia_one PySem.W.kitx_dict I.kIn ⟨o, h1, h2.1⟩ e (fun z => nomatch z) h
  | @ins a C dx fs ea cl ha hn htk hm =>
    cases (show u = Value.ref a from rx)
    obtain ⟨mA, O, _⟩ := ins_get I.hok ea
    obtain ⟨od, J, _⟩ := O.look
    exact PySem.W.kia_one (PySem.W.kitx_own (cl.get _) cl.hd ha hn htk hm) I.kIn J e (fun z => nomatch z) h
end
end L2
namespace L2
open PySem PySem.Spec PyProof.Rows
structure Room (k : Nat) (A : Around) : Prop where
  hd : A.handled = none
  dp : A.depth + 3 * k + 5 < recursionLimit
  un : A.units + 16 * k + 200 < cLine
theorem Room.mono {j k : Nat} {A : Around} (r : Room k A) (h : j ≤ k) : Room j A := ⟨r.hd, by have := r.dp; omega, by have := r.un; omega⟩
theorem Room.deeper {k : Nat} {A : Around} (r : Room (k + 1) A) (env : Env) : Room k (A.deeper env) :=
  ⟨r.hd, by have := r.dp; show A.depth + 1 + 3 * k + 5 < _; omega, by have := r.un; show A.units + 3 + 16 * k + 200 < _; omega⟩
theorem make_depth {A : Around} {C : Addr} {us : List Value} {kw : List (Str × Value)} : (A.under (.builtin "type.__call__" ⟨.ref C :: us, kw⟩)).depth = A.depth + 1 := by
  first | rfl | simp [Around.under, Code.weight, Code.isCreation, Code.isGuard, Code.isCaller, Code.frames, Code.isFrame, guardIds]
theorem make_units {A : Around} {C : Addr} {us : List Value} {kw : List (Str × Value)} : (A.under (.builtin "type.__call__" ⟨.ref C :: us, kw⟩)).units = A.units + 1 := by
  first | rfl | simp [Around.under, Code.cUnits, Code.frames, Code.isFrame]
theorem Room.make {k : Nat} {A : Around} (r : Room (k + 1) A) (C : Addr) (us : List Value) (kw : List (Str × Value)) : Room k (A.under (.builtin "type.__call__" ⟨.ref C :: us, kw⟩)) :=
  ⟨r.hd, by have := r.dp; rw [make_depth]; omega, by have := r.un; rw [make_units]; omega⟩
theorem Room.depth {k : Nat} {A : Around} (r : Room k A) : A.depth < recursionLimit := by have := r.dp; omega
theorem Room.units {k : Nat} {A : Around} (r : Room k A) : A.units + 64 < cLine := by have := r.un; omega
noncomputable def tNil : TA := fun _ H Q => Q [] H
noncomputable def tCons (ta : TE) (tr : TA) : TA := fun σ H Q => ta σ H fun x H1 => tr σ H1 fun xs H2 => Q (x :: xs) H2
section
variable {X : Cx} {e : Expr} {es : List Expr} {te : TE} {t : TA} {pos : Pos}
theorem pa_nil : PA X [] tNil := fun _ _ _ _ H Q I h => Calls.spliced_nil ⟨[], H, I, .nil, h⟩
theorem pa_cons (ha : PE X e te) (hr : PA X es t) (hs : starEach (e :: es) X.env = (false, eval e X.env) :: starEach es X.env := by rfl) : PA X (e :: es) (tCons te t) := by
  intro pos pins s σ H Q I h
  rw [hs]
  show wpAny _ _ (spliced ((false, eval e X.env) :: backTo pos (starEach es X.env))) _ _ s
  refine Calls.spliced_cons (thn (ha pins s σ H _ I h) fun u s1 ⟨x, H1, I1, r1, q1⟩ => ?_)
  exact thn (hr pos pins s1 σ H1 _ I1 q1) fun us s2 ⟨xs, H2, I2, r2, q2⟩ => ⟨x :: xs, H2, I2, .cons r1 r2, q2⟩
noncomputable def tTup (t : TA) : TE := fun σ H Q => t σ H fun xs H1 => xs.length ≤ sizeLine ∧ ∀ p, H1 p = none → Q (.ref p) (upd H1 p (.tup xs))
noncomputable def tLst (t : TA) : TE := fun σ H Q => t σ H fun xs H1 => xs.length ≤ sizeLine ∧ ∀ p, H1 p = none → Q (.ref p) (upd H1 p (.lst xs))
theorem pe_tup {x1} (h : PA X es t) : PE X (.Tuple es x1 pos) (tTup t) := by
  intro pins s σ H Q I hq
  refine wpAny_Tuple_spliced (thn (h pos pins s σ H _ I hq) fun us s1 ⟨xs, H1, I1, r, z, q⟩ => ⟨by rw [← r.length]; exact z, ?_⟩)
  have hf : H1 s1.heap.objs.size = none := I1.hok.fresh (Nat.le_refl _)
  refine ⟨.ref s1.heap.objs.size, upd H1 s1.heap.objs.size (.tup xs), I1.laid (t' := s1.toks) (fun b u e => Heap.get?_push_of_some _ e) (Nat.le_refl _) ?_, rfl, q _ hf⟩
  exact ⟨z, us, r, ⟨_, Heap.get?_push_size _ rfl, rfl, _, rfl⟩⟩
theorem pe_lst (h : PA X es t) : PE X (.List es pos) (tLst t) := by
  intro pins s σ H Q I hq
  refine wpAny_List_spliced (thn (h pos pins s σ H _ I hq) fun us s1 ⟨xs, H1, I1, r, z, q⟩ => ⟨by rw [← r.length]; exact z, ?_⟩)
  have hf : H1 s1.heap.objs.size = none := I1.hok.fresh (Nat.le_refl _)
  refine ⟨.ref s1.heap.objs.size, upd H1 s1.heap.objs.size (.lst xs), I1.laid (t' := s1.toks) (fun b u e => Heap.get?_push_of_some _ e) (Nat.le_refl _) ?_, rfl, q _ hf⟩
  exact ⟨z, us, 0, r, Heap.get?_push_size _ rfl⟩
end
noncomputable abbrev Sp := List V → Hp → VK → XK → Prop
noncomputable abbrev CXT := List Env → Hp → Shared → XK → Value → Shared → Prop
structure Env0 (P : Program) (w : World) (K : PySem.W.Frag) (mg : Str → Option Value) (base : Heap) (A : Around) (outer : List Env) (s : Shared) (H : Hp) : Prop where
  frames : A.frames = some outer
  mod : Mod K mg base
  bs : ∀ b o, base.get? b = some o → s.heap.get? b = some o ∧ H b = none
  bsz : base.objs.size ≤ s.heap.objs.size
  funs : s.heap.FunFrames base outer
  frf : ∀ b ∈ frs outer, H b = none
  hok : HOk P w H s.heap
  bare : AllBare s.gens
noncomputable def CE (outer : List Env) (P : Program) (w : World) (H : Hp) (s : Shared) (Q : VK) (u : Value) (s' : Shared) : Prop :=
  ∃ v H', s'.os = s.os ∧ AllBare s'.gens ∧ Un (frs outer) [] H H' s.heap s'.heap ∧ HOk P w H' s'.heap ∧ RelV v u ∧ Q v H'
noncomputable def CR (CX : CXT) (outer : List Env) (P : Program) (w : World) (H : Hp) (s : Shared) (Q : VK) (E : XK) (r : Result) (s' : Shared) : Prop :=
  match r with
  | .ok (.ret u) => CE outer P w H s Q u s'
  | .ok _ => False
  | .error e => CX outer H s E e s'
structure FnOk (P : Program) (w : World) (K : PySem.W.Frag) (mg : Str → Option Value) (base : Heap) (CX : CXT) (k : Nat) (f : Addr) (fd : FuncData) (ps : List Str) (sp : Sp) : Prop where
  len : ∀ vs H Q E, sp vs H Q E → vs.length = ps.length
  run : ∀ (A : Around) (outer : List Env) (s : Shared) (H : Hp) (args : Args) (us : List Value) (vs : List V) (Q : VK) (E : XK), Room k A → Env0 P w K mg base A outer s H → BindsTo s fd args (ps.zip us) → Vals vs us → sp vs H Q E →
    codeAny (model P w) A (.call (.ref f) args) (CR CX outer P w H s Q E) s
theorem FnOk.mono {P : Program} {w : World} {K : PySem.W.Frag} {mg : Str → Option Value} {base : Heap} {CX : CXT} {j k : Nat} {f : Addr} {fd : FuncData} {ps : List Str} {sp : Sp} (F : FnOk P w K mg base CX j f fd ps sp) (h : j ≤ k) :
    FnOk P w K mg base CX k f fd ps sp := ⟨F.len, fun A outer s H args us vs Q E hr => F.run A outer s H args us vs Q E (hr.mono h)⟩
theorem FnOk.imp {P : Program} {w : World} {K : PySem.W.Frag} {mg : Str → Option Value} {base : Heap} {CX : CXT} {k : Nat} {f : Addr} {fd : FuncData} {ps : List Str} {sp sp' : Sp} (F : FnOk P w K mg base CX k f fd ps sp)
    (h : ∀ vs H Q E, sp' vs H Q E → sp vs H Q E) : FnOk P w K mg base CX k f fd ps sp' :=
  ⟨fun vs H Q E q => F.len vs H Q E (h _ _ _ _ q), fun A outer s H args us vs Q E hr he hb hv hs => F.run A outer s H args us vs Q E hr he hb hv (h _ _ _ _ hs)⟩
theorem Env0.make {P : Program} {w : World} {K : PySem.W.Frag} {mg : Str → Option Value} {base : Heap} {A : Around} {outer : List Env} {s : Shared} {H : Hp} (e : Env0 P w K mg base A outer s H) (C : Addr) (us : List Value) (kw : List (Str × Value)) :
    Env0 P w K mg base (A.under (.builtin "type.__call__" ⟨.ref C :: us, kw⟩)) outer s H := ⟨by first | exact e.frames | (simpa [Around.under, Code.envs, Code.isFrame, pushEnvs] using e.frames), e.mod, e.bs, e.bsz, e.funs, e.frf, e.hok, e.bare⟩
section
variable {X : Cx} {pins : List (Addr × Obj)} {σ : St} {H : Hp} {s s' : Shared}
theorem Inv.env0 (I : Inv X pins σ H s) : Env0 X.prog X.w X.K X.mg X.base X.A X.stack s H :=
  ⟨I.ok.frames, I.ok.mod, I.bs, Nat.le_trans I.ok.bsz I.sz, I.stack, I.stkFree, I.hok, I.bare⟩
theorem Inv.after {Q : VK} {u : Value} (I : Inv X pins σ H s) (h : CE X.stack X.prog X.w H s Q u s') : EP X pins σ Q u s' := by
  obtain ⟨v, H', os, bare, un, hok, r, q⟩ := h
  obtain ⟨hh, g, d, t, os'⟩ := s'
  obtain rfl : os' = s.os := os
  exact ⟨v, H', I.call (h' := hh) (g' := g) (d' := d) (t' := t) (ch := []) un hok bare (fun b z => absurd z (by simp)), r, q⟩
end
noncomputable def tCall (sp : Sp) (dvs : List V) (E : XK) (t : TA) : TE := fun σ H Q => t σ H fun vs H1 => sp (vs ++ dvs) H1 Q E
noncomputable def tMake (C : Addr) (sp : Sp) (dvs : List V) (E : XK) (t : TA) : TE := fun σ H Q => t σ H fun vs H1 => ∀ x dx, H1 x = none → H1 dx = none → dx ≠ x →
  sp (.ref x :: (vs ++ dvs)) (upd (upd H1 dx (.own x)) x (.ins C dx [])) (fun v H2 => v = .non ∧ Q (.ref x) H2) E
noncomputable def Binds (K : PySem.W.Frag) (fd : FuncData) (ps : List Str) (ds : List Value) : Prop :=
  ∀ (s : Shared) (us : List Value), K.In s.heap → (us ++ ds).length = ps.length → BindsTo s fd ⟨us, []⟩ (ps.zip (us ++ ds))
theorem Binds.all {K : PySem.W.Frag} {fd : FuncData} {ps : List Str} (h : ∀ us : List Value, us.length = ps.length → bindArgs fd ⟨us, []⟩ = pure (ps.zip us)) : Binds K fd ps [] := fun s us _ hl => by
  rw [List.append_nil] at hl ⊢
  exact .of_eq (h us hl)
noncomputable def Passes (CX : CXT) (X : Cx) (E : XK) : Prop := ∀ (pins : List (Addr × Obj)) (σ : St) (H : Hp) (s : Shared) (e : Value) (s' : Shared), Inv X pins σ H s → CX X.stack H s E e s' → X.xe e s'
section
variable {X : Cx} {CX : CXT} {k : Nat} {f C : Addr} {fd : FuncData} {ps : List Str} {sp : Sp} {dvs : List V} {ds : List Value} {E : XK} {x m : Str} {p pos apos : Pos} {e o : Expr} {es : List Expr} {ta : TE} {t : TA}
theorem run_fn {pins : List (Addr × Obj)} {σ : St} {H : Hp} {s : Shared} {Q : VK} {us : List Value} {vs : List V} (F : FnOk X.prog X.w X.K X.mg X.base CX k f fd ps sp) (hr : Room k X.A) (hb : Binds X.K fd ps ds) (hd : Vals dvs ds) (hx : Passes CX X E)
    (I : Inv X pins σ H s) (r : Vals vs us) (h : sp (vs ++ dvs) H Q E) : wpAny (model X.prog X.w) X.A (call (.ref f) us) (EP X pins σ Q) X.xe s := by
  have r2 : Vals (vs ++ dvs) (us ++ ds) := r.append hd
  have hl : (us ++ ds).length = ps.length := by rw [← r2.length]; exact F.len _ _ _ _ h
  refine wpAny_call (codeAny_mono (F.run X.A X.stack s H ⟨us, []⟩ (us ++ ds) (vs ++ dvs) Q E hr I.env0 (hb s us I.kIn hl) r2 h) fun r s' hq => ?_)
  cases r with
  | error e => exact hx pins σ H s e s' I hq
  | ok fl =>
    cases fl with
    | ret u => exact I.after hq
    | next => exact False.elim hq
    | brk => exact False.elim hq
    | cont => exact False.elim hq
theorem pe_call (F : FnOk X.prog X.w X.K X.mg X.base CX k f fd ps sp) (hr : Room k X.A) (hg : Gl X x) (hm : X.mg x = some (.ref f)) (hk : PySem.W.keepIn X.K (.ref f) = true) (hb : Binds X.K fd ps ds) (hd : Vals dvs ds) (hx : Passes CX X E)
    (ha : PA X (e :: es) t) (hdb : (x == ("__debug__" : Str)) = false := by decide) (he : starEach (e :: es) X.env = (false, eval e X.env) :: starEach es X.env := by rfl) (hpl : (backTo pos (starEach es X.env)).any (·.1) = false := by rfl) :
    PE X (.Call (.Name x p) (e :: es) [] pos) (tCall sp dvs E t) := by
  intro pins s σ H Q I h
  refine wpAny_Call_Name_kw (ld_glob I hg hm ?_ hdb)
  refine PySem.W.callWith_K (h₀ := X.base) I.ok.mod.kin hk (thn (ha pos pins s σ H _ I h) fun us s1 ⟨vs, H1, I1, r, q⟩ => ⟨I1.kIn, ?_⟩) he hpl
  exact run_fn F hr hb hd hx I1 r q
structure Mk (K : PySem.W.Frag) (C f : Addr) : Prop where
  makes : PySem.W.makesIn K C = true
  init : PySem.W.findIn K (.ref C) "__init__" = some (some (.ref f))
  fn : PySem.W.isFn K (.ref f) = true
  kp : PySem.W.keepIn K (.ref C) = true
theorem run_make {pins : List (Addr × Obj)} {σ : St} {H : Hp} {s : Shared} {Q : VK} {us : List Value} {vs : List V} (M : Mk X.K C f) (F : FnOk X.prog X.w X.K X.mg X.base CX k f fd ps sp) (hr : Room (k + 1) X.A) (hb : Binds X.K fd ps ds) (hd : Vals dvs ds)
    (hx : Passes CX X E) (I : Inv X pins σ H s) (r : Vals vs us)
    (h : ∀ x dx, H x = none → H dx = none → dx ≠ x → sp (.ref x :: (vs ++ dvs)) (upd (upd H dx (.own x)) x (.ins C dx [])) (fun v H2 => v = .non ∧ Q (.ref x) H2) E) :
    wpAny (model X.prog X.w) X.A (call (.ref C) us) (EP X pins σ Q) X.xe s := by
  have hq := h (s.heap.objs.size + 1) s.heap.objs.size (I.hok.fresh (Nat.le_succ _)) (I.hok.fresh (Nat.le_refl _)) (Nat.ne_of_lt (Nat.lt_succ_self _))
  have I2 := Inv.made (C := C) I
  have r2 : Vals (V.ref (s.heap.objs.size + 1) :: (vs ++ dvs)) (Value.ref (s.heap.objs.size + 1) :: (us ++ ds)) := .cons rfl (r.append hd)
  have hl : (Value.ref (s.heap.objs.size + 1) :: us ++ ds).length = ps.length := by
    have e := r2.length
    rw [F.len _ _ _ _ hq] at e
    exact e.symm
  refine wpAny_call (make_map (f := f) I.kIn M.makes M.init (beq_iff_eq.mp M.fn) (codeAny_mono (F.run _ X.stack _ _ ⟨Value.ref (s.heap.objs.size + 1) :: us, []⟩ (Value.ref (s.heap.objs.size + 1) :: (us ++ ds)) _ _ E (hr.make C us [])
    (I2.env0.make C us []) (hb _ (Value.ref (s.heap.objs.size + 1) :: us) I2.kIn hl) r2 hq) fun r s' hq' => ?_))
  cases r with
  | error e => exact hx pins σ _ _ e s' I2 hq'
  | ok fl =>
    cases fl with
    | ret u =>
      obtain ⟨v, H', I3, rv, ev, q3⟩ := I2.after hq'
      subst ev
      exact ⟨rv, ⟨V.ref (s.heap.objs.size + 1), H', I3, rfl, q3⟩⟩
    | next => exact False.elim hq'
    | brk => exact False.elim hq'
    | cont => exact False.elim hq'
theorem pe_make (M : Mk X.K C f) (F : FnOk X.prog X.w X.K X.mg X.base CX k f fd ps sp) (hr : Room (k + 1) X.A) (hg : Gl X x) (hm : X.mg x = some (.ref C)) (hb : Binds X.K fd ps ds) (hd : Vals dvs ds) (hx : Passes CX X E)
    (ha : PA X (e :: es) t) (hdb : (x == ("__debug__" : Str)) = false := by decide) (he : starEach (e :: es) X.env = (false, eval e X.env) :: starEach es X.env := by rfl) (hpl : (backTo pos (starEach es X.env)).any (·.1) = false := by rfl) :
    PE X (.Call (.Name x p) (e :: es) [] pos) (tMake C sp dvs E t) := by
  intro pins s σ H Q I h
  refine wpAny_Call_Name_kw (ld_glob I hg hm ?_ hdb)
  refine PySem.W.callWith_K (h₀ := X.base) I.ok.mod.kin M.kp (thn (ha pos pins s σ H _ I h) fun us s1 ⟨vs, H1, I1, r, q⟩ => ⟨I1.kIn, ?_⟩) he hpl
  exact run_make M F hr hb hd hx I1 r q
end
section
variable {X : Cx} {CX : CXT} {k : Nat} {f C : Addr} {fd : FuncData} {ps ks : List Str} {sp : Sp} {E : XK} {x m : Str} {p pos apos kpos : Pos} {e o : Expr} {es : List Expr} {kws : List Keyword} {te ta : TE} {t tk : TA} {nm : Option Str}
variable {g : List Value → List Value → List Value} {gV : List V → List V → List V}
end
structure FnScope (N P : List Str) (sc : Scope) : Prop where
  kind : sc.kind = .function
  co : sc.isCoroutine = false
  gen : sc.isGenerator = false
  nd : N.Nodup
  pre : N.take P.length = P
  par : ∀ x ∈ P, sc.names.lookup x = some .local ∨ sc.names.lookup x = some .cell
  nofree : ∀ y ∈ sc.names, y.2 ≠ .free
theorem bindL_out {kindOf : Str → Option NameKind} {x : Str} : ∀ {binds : List (Str × Value)} {m : Str → Option Value}, (∀ v, (x, v) ∉ binds) → bindL kindOf binds m x = m x
  | [], _, _ => rfl
  | (n, v) :: r, m, h => by
    unfold bindL
    rw [bindL_out fun w hw => h w (List.mem_cons_of_mem _ hw)]
    split
    · have : x ≠ n := by rintro rfl; exact h v List.mem_cons_self
      simp [this]
    · rfl
theorem bindC_out {kindOf : Str → Option NameKind} {x : Str} : ∀ {binds : List (Str × Value)} {m : Str → Option Value}, (∀ v, (x, v) ∉ binds) → bindC kindOf binds m x = m x
  | [], _, _ => rfl
  | (n, v) :: r, m, h => by
    unfold bindC
    rw [bindC_out fun w hw => h w (List.mem_cons_of_mem _ hw)]
    split
    · rfl
    · have : x ≠ n := by rintro rfl; exact h v List.mem_cons_self
      simp [this]
theorem bindL_get {kindOf : Str → Option NameKind} {x : Str} {v : Value} : ∀ {P : List Str} {vs : List Value} {i : Nat} {m : Str → Option Value}, P.Nodup → P[i]? = some x → vs[i]? = some v → kindOf x = some .local →
    bindL kindOf (P.zip vs) m x = some v
  | [], _, _, _, _, h, _, _ => by simp at h
  | _ :: _, [], _, _, _, _, h, _ => by simp at h
  | p :: P, w :: vs, 0, m, nd, h1, h2, hk => by
    simp at h1 h2; subst h1; subst h2
    show bindL kindOf ((p, w) :: P.zip vs) m p = _
    unfold bindL
    rw [bindL_out fun v hv => (List.nodup_cons.mp nd).1 (List.of_mem_zip hv).1, if_pos hk]
    simp
  | p :: P, w :: vs, i + 1, m, nd, h1, h2, hk => by
    show bindL kindOf ((p, w) :: P.zip vs) m x = _
    unfold bindL
    exact bindL_get (i := i) (List.nodup_cons.mp nd).2 (by simpa using h1) (by simpa using h2) hk
theorem bindC_get {kindOf : Str → Option NameKind} {x : Str} {v : Value} : ∀ {P : List Str} {vs : List Value} {i : Nat} {m : Str → Option Value}, P.Nodup → P[i]? = some x → vs[i]? = some v → kindOf x ≠ some .local →
    bindC kindOf (P.zip vs) m x = some v
  | [], _, _, _, _, h, _, _ => by simp at h
  | _ :: _, [], _, _, _, _, h, _ => by simp at h
  | p :: P, w :: vs, 0, m, nd, h1, h2, hk => by
    simp at h1 h2; subst h1; subst h2
    show bindC kindOf ((p, w) :: P.zip vs) m p = _
    unfold bindC
    rw [bindC_out fun v hv => (List.nodup_cons.mp nd).1 (List.of_mem_zip hv).1, if_neg hk]
    simp
  | p :: P, w :: vs, i + 1, m, nd, h1, h2, hk => by
    show bindC kindOf ((p, w) :: P.zip vs) m x = _
    unfold bindC
    exact bindC_get (i := i) (List.nodup_cons.mp nd).2 (by simpa using h1) (by simpa using h2) hk
noncomputable def start (N : List Str) (vs : List V) : St := vs.map some ++ List.replicate (N.length - vs.length) none
noncomputable def cxOf (CX : CXT) (P : Program) (w : World) (K : PySem.W.Frag) (mg : Str → Option Value) (base : Heap) (N : List Str) (qual : Str) (scope : Scope) (f : Addr) (cd : Value) (A : Around) (outer : List Env) (s : Shared) (H : Hp) (E : XK) : Cx where
  prog := P
  w := w
  K := K
  mg := mg
  base := base
  A := A.deeper (envOfC qual scope s.heap.objs.size f cd)
  N := N
  s₀ := s
  H₀ := H
  env := envOfC qual scope s.heap.objs.size f cd
  outer := outer
  stack := envOfC qual scope s.heap.objs.size f cd :: outer
  ex := []
  calm := true
  fn := fun _ => true
  pn := []
  xe := fun e s' => wpAny (model P w) (A.deeper (envOfC qual scope s.heap.objs.size f cd)) (leaving (envOfC qual scope s.heap.objs.size f cd) e) (fun _ s'' => CX outer H s E e s'') (fun e' s'' => CX outer H s E e' s'') s'
theorem cell_has {sc : Scope} {n : Nat} {x : Str} (h : sc.names.lookup x = some .cell) : ∃ c, (cellsFrom n sc.names []).lookup x = some c := by
  have q := PySem.W.cellsFrom_some sc.names n [] (.inl h)
  exact Option.isSome_iff_exists.mp q
theorem inv_start {CX : CXT} {P : Program} {w : World} {K : PySem.W.Frag} {mg : Str → Option Value} {base : Heap} {N ps : List Str} {qual : Str} {scope : Scope} {f : Addr} {cd : Value} {A : Around} {outer : List Env} {s s1 : Shared} {H : Hp} {E : XK} {us : List Value} {vs : List V}
    (S : FnScope N ps scope) (hd : A.handled = none) (e0 : Env0 P w K mg base A outer s H) (hl : vs.length = ps.length) (r : Vals vs us)
    (x : InCallC s s.heap.objs.size (bindL (envOfC qual scope s.heap.objs.size f cd).kindOf (ps.zip us) fun _ => none) (cellsFrom (s.heap.objs.size + 1) scope.names []) (bindC (envOfC qual scope s.heap.objs.size f cd).kindOf (ps.zip us) fun _ => none) s1) :
    Inv (cxOf CX P w K mg base N qual scope f cd A outer s H E) [] (start N vs) H s1 := by
  have hpl : ps.length ≤ N.length := by have := congrArg List.length S.pre; rw [List.length_take] at this; omega
  obtain ⟨h1, tk, rfl, hk⟩ := x.done
  have noA : ∀ b : Addr, b ∉ (cxOf CX P w K mg base N qual scope f cd A outer s H E).ex := fun b z => absurd (show b ∈ ([] : List Addr) from z) (by simp)
  refine ⟨⟨e0.mod, S.kind, rfl, rfl, Nat.le_refl _, fun y z c h1 h2 => ?_, fun y hy => ?_, fun y c _ h => ?_, fun _ => hd, Around.frames_deeper e0.frames, .inr ⟨rfl, rfl⟩, fun b z => absurd z (noA b), e0.bs, e0.bsz, fun b _ _ => noA b, fun b z => absurd z (noA b), e0.funs, e0.frf⟩,
    rfl, e0.bare, Un.kept hk, ⟨_, x.toInCall.ns, fun i y v h1 h2 h3 => ?_⟩, fun y c h => ⟨_, x.cell y c h⟩, e0.hok.fresh (Nat.le_refl _), fun y c h => ?_, fun p hp => absurd (show p ∈ ([] : List (Addr × Obj)) from hp) (by simp), e0.hok.kept hk, ?_⟩
  · exact name_of_addr x.apart (PySem.mem_of_lookup h1) (PySem.mem_of_lookup h2)
  · have hy : scope.names.lookup y = some .cell ∨ scope.names.lookup y = some .free := hy
    rcases hy with hy | hy
    · exact cell_has hy
    · exact absurd rfl (S.nofree _ (PySem.mem_of_lookup hy))
  · exact Nat.le_of_lt (x.above y c (PySem.mem_of_lookup h))
  · have hi : i < vs.length := by
      unfold start at h2
      by_cases hi : i < vs.length
      · exact hi
      · rw [List.getElem?_append_right (by simpa using hi)] at h2
        rw [List.getElem?_replicate] at h2
        split at h2 <;> cases h2
    have ha : vs[i]? = some v := by
      unfold start at h2
      rw [List.getElem?_append_left (by simpa using hi), List.getElem?_map] at h2
      cases e : vs[i]? with
      | none => rw [e] at h2; cases h2
      | some a => rw [e] at h2; cases h2; rfl
    obtain ⟨u, hu, rv⟩ := r.get ha
    have hp : ps[i]? = some y := by
      rw [← S.pre, List.getElem?_take_of_lt (by omega)]; exact h1
    have ndP : ps.Nodup := by rw [← S.pre]; exact S.nd.sublist (List.take_sublist _ _)
    refine ⟨u, rv, ?_⟩
    rcases S.par y (List.mem_of_getElem? hp) with k | k
    · exact .inl ⟨k, bindL_get ndP hp hu k⟩
    · obtain ⟨c, e⟩ := cell_has (n := s.heap.objs.size + 1) k
      refine .inr ⟨.inl k, c, e, ?_⟩
      have q := x.cell y c e
      rw [bindC_get ndP hp hu (by show scope.names.lookup y ≠ _; rw [k]; decide)] at q
      exact q
  · exact e0.hok.fresh (Nat.le_of_lt (x.above y c (PySem.mem_of_lookup h)))
  · unfold start
    show _ = N.length
    rw [List.length_append, List.length_map, List.length_replicate]
    omega
theorem fn_of {CX : CXT} {P : Program} {w : World} {K : PySem.W.Frag} {mg : Str → Option Value} {base : Heap} {k : Nat} {f : Addr} {name qual : Str} {params : Arguments} {body : List Stmt} {scope : Scope} {dV kV doc pm cdv ct oc : Value} {an od : Option Addr}
    {osl : Array (Option Value)} {N ps : List Str} {sp : Sp} (lk : K.lookup f = some ⟨oc, od, .func (PySem.W.fnOf name qual params body scope dV kV doc pm an cdv ct), osl⟩) (hcd : PySem.W.codeIn K cdv qual = true) (S : FnScope N ps scope)
    (len : ∀ vs H Q E, sp vs H Q E → vs.length = ps.length)
    (hbody : ∀ (A : Around) (outer : List Env) (s : Shared) (H : Hp) (vs : List V) (Q : VK) (E : XK), Room k (A.deeper (envOfC qual scope s.heap.objs.size f cdv)) → sp vs H Q E →
      ∃ t, PSs (cxOf CX P w K mg base N qual scope f cdv A outer s H E) body t ∧ t { nx := fun _ H' => Q .non H', rt := Q } (start N vs) H) :
    FnOk P w K mg base CX (k + 1) f (PySem.W.fnOf name qual params body scope dV kV doc pm an cdv ct) ps sp := by
  refine ⟨len, fun A outer s H args us vs Q E hr e0 hb r hsp => ?_⟩
  have hl := len _ _ _ _ hsp
  have KX : K.In s.heap := e0.mod.kin.keeps fun b o e => (e0.bs b o e).1
  have lim : s.heap.NoLimit := e0.mod.nolimit.keeps fun b o e => (e0.bs b o e).1
  have hkind : ∀ y ∈ ps.zip us, scope.names.lookup y.1 = some .local ∨ (scope.names.lookup y.1 = some .cell ∧ ((cellsFrom (s.heap.objs.size + 1) scope.names []).lookup y.1).isSome = true) := fun ⟨n, v⟩ hy => by
    rcases S.par n (List.of_mem_zip hy).1 with q | q
    · exact .inl q
    · exact .inr ⟨q, PySem.W.cellsFrom_some _ _ _ (.inl q)⟩
  refine codeAny_call_function hr.depth (KX _ _ lk) rfl S.co S.gen rfl (PySem.W.codeRec_of KX hcd) (hb _ _ _ _ ?_)
  refine wpAny_newFunctionEnv_cells S.kind hkind fun env he s1 x => ?_
  subst he
  refine ⟨lim.keeps x.toInCall.keep, codeAny_func ?_⟩
  obtain ⟨t, ht, hq⟩ := hbody A outer s H vs Q E (hr.deeper _) hsp
  have I : Inv (cxOf CX P w K mg base N qual scope f cdv A outer s H E) [] (start N vs) H s1 := inv_start S hr.hd e0 hl r x
  refine wpAny_mono (ht [] s1 (start N vs) H _ I hq) (fun fl s' hs => ?_) fun e s' hs => hs
  have fin : ∀ {σ' : St} {H' : Hp} {v : V} {u : Value}, Inv (cxOf CX P w K mg base N qual scope f cdv A outer s H E) [] σ' H' s' → RelV v u → Q v H' → CE outer P w H s Q u s' :=
    fun {σ' H' v u} J rv q => ⟨v, H', J.os, J.bare, J.base, J.hok, rv, q⟩
  cases fl with
  | ret u =>
    obtain ⟨v, σ', H', J, rv, q⟩ := hs
    exact fin J rv q
  | next =>
    obtain ⟨σ', H', J, q⟩ := hs
    exact fin (v := V.non) (u := Value.none) J rfl q
  | brk =>
    obtain ⟨_, _, _, q⟩ := hs
    exact False.elim q
  | cont =>
    obtain ⟨_, _, _, q⟩ := hs
    exact False.elim q
end L2
namespace L2
open PySem PySem.Spec PyProof.Rows
section
variable {X : Cx} {x : Str} {p pos : Pos} {e : Expr} {es : List Expr} {t : TA} {id T : String} {r : List V → Hp → VK → Prop}
noncomputable def tCB (r : List V → Hp → VK → Prop) (t : TA) : TE := fun σ H Q => t σ H fun vs H1 => r vs H1 Q
theorem pe_callB (hc : CallR X (.builtin id) r) (hg : Gl X x) (hm : X.mg x = none) (hv : bootBuiltins x = some (.builtin id)) (ha : PA X (e :: es) t) (hn : x ≠ "__name__" := by decide) (hdb : (x == ("__debug__" : Str)) = false := by decide)
    (he : starEach (e :: es) X.env = (false, eval e X.env) :: starEach es X.env := by rfl) (hpl : (backTo pos (starEach es X.env)).any (·.1) = false := by rfl) : PE X (.Call (.Name x p) (e :: es) [] pos) (tCB r t) := by
  intro pins s σ H Q I h
  refine wpAny_Call_Name_kw (ld_blt I hg hm hv ?_ hn hdb)
  exact PyProof.Rows.callWith_builtin1 (thn (ha pos pins s σ H _ I h) fun us s1 ⟨vs, H1, I1, r1, q1⟩ => hc pins s1 σ H1 vs us Q I1 r1 q1) he hpl
theorem pe_callTy (hc : CallR X (.type T) r) (hg : Gl X x) (hm : X.mg x = none) (hv : bootBuiltins x = some (.type T)) (ha : PA X (e :: es) t) (hn : x ≠ "__name__" := by decide) (hdb : (x == ("__debug__" : Str)) = false := by decide)
    (he : starEach (e :: es) X.env = (false, eval e X.env) :: starEach es X.env := by rfl) (hpl : (backTo pos (starEach es X.env)).any (·.1) = false := by rfl) : PE X (.Call (.Name x p) (e :: es) [] pos) (tCB r t) := by
  intro pins s σ H Q I h
  refine wpAny_Call_Name_kw (ld_blt I hg hm hv ?_ hn hdb)
  exact PyProof.Rows.callWith_type1 (thn (ha pos pins s σ H _ I h) fun us s1 ⟨vs, H1, I1, r1, q1⟩ => hc pins s1 σ H1 vs us Q I1 r1 q1) he hpl
end
end L2
namespace L2
open PySem PySem.Spec PyProof.Rows
section
variable {κ : Type} [DecidableEq κ]
noncomputable def valV (kvs : List (κ × V)) (k : κ) : Option V := (kvs.find? fun kv => decide (kv.1 = k)).map (·.2)
noncomputable def putK (kvs : List (κ × V)) (k : κ) (v : V) : List (κ × V) :=
  if (kvs.any fun kv => decide (kv.1 = k)) = true then kvs.map (fun kv => if kv.1 = k then (kv.1, v) else kv) else kvs ++ [(k, v)]
theorem valV_pos {p : κ × V} {r : List (κ × V)} {k : κ} (e : p.1 = k) : valV (p :: r) k = some p.2 := by simp [valV, List.find?_cons, e]
theorem valV_neg {p : κ × V} {r : List (κ × V)} {k : κ} (e : ¬ p.1 = k) : valV (p :: r) k = valV r k := by simp [valV, List.find?_cons, e]
theorem valV_any (k : κ) : ∀ kvs : List (κ × V), (kvs.any fun kv => decide (kv.1 = k)) = (valV kvs k).isSome
  | [] => rfl
  | p :: r => by
    rw [List.any_cons]
    by_cases e : p.1 = k
    · simp only [valV_pos e, decide_eq_true e, Bool.true_or, Option.isSome_some]
    · rw [valV_neg e, decide_eq_false e, Bool.false_or]; exact valV_any k r
theorem valV_map (k j : κ) (y : V) : ∀ kvs : List (κ × V), valV (kvs.map fun kv => if kv.1 = k then (kv.1, y) else kv) j = (valV kvs j).map fun x => if j = k then y else x
  | [] => rfl
  | p :: r => by
    have ih := valV_map k j y r
    rw [List.map_cons]
    by_cases h : p.1 = k
    · rw [if_pos h]
      by_cases e : p.1 = j
      · rw [valV_pos (p := (p.1, y)) e, valV_pos e, Option.map_some, if_pos (e.symm.trans h)]
      · rw [valV_neg (p := (p.1, y)) e, valV_neg e, ih]
    · rw [if_neg h]
      by_cases e : p.1 = j
      · rw [valV_pos (p := p) e, valV_pos e, Option.map_some, if_neg (fun z => h (e.trans z))]
      · rw [valV_neg (p := p) e, valV_neg e, ih]
theorem valV_snoc (k j : κ) (y : V) : ∀ kvs : List (κ × V), valV kvs k = none → valV (kvs ++ [(k, y)]) j = if j = k then some y else valV kvs j
  | [], _ => by
    by_cases e : k = j
    · rw [if_pos e.symm]; exact valV_pos (p := (k, y)) e
    · rw [if_neg (fun z => e z.symm)]; exact valV_neg (p := (k, y)) e
  | p :: r, hn => by
    rw [List.cons_append]
    have hk : ¬ p.1 = k := fun z => by rw [valV_pos z] at hn; cases hn
    rw [valV_neg hk] at hn
    have ih := valV_snoc k j y r hn
    by_cases e : p.1 = j
    · rw [valV_pos e, valV_pos e, if_neg (fun z => hk (e.trans z))]
    · rw [valV_neg e, valV_neg e, ih]
theorem valV_put (kvs : List (κ × V)) (k j : κ) (y : V) : valV (putK kvs k y) j = if j = k then some y else valV kvs j := by
  unfold putK
  by_cases a : (kvs.any fun kv => decide (kv.1 = k)) = true
  · rw [if_pos a, valV_map]
    rw [valV_any] at a
    by_cases e : j = k
    · obtain ⟨x, hx⟩ := Option.isSome_iff_exists.mp a
      rw [if_pos e, e, hx, Option.map_some, if_pos rfl]
    · rw [if_neg e]
      cases valV kvs j with
      | none => rfl
      | some x => rw [Option.map_some, if_neg e]
  · rw [if_neg a]
    refine valV_snoc k j y kvs ?_
    rw [valV_any] at a
    cases q : valV kvs k with
    | none => rfl
    | some x => rw [q] at a; exact (a rfl).elim
theorem length_putK (kvs : List (κ × V)) (k : κ) (v : V) : (putK kvs k v).length ≤ kvs.length + 1 := by
  unfold putK
  split
  · rw [List.length_map]; omega
  · rw [List.length_append, List.length_cons, List.length_nil]; omega
theorem putK_new {kvs : List (κ × V)} {k : κ} (v : V) (h : valV kvs k = none) : putK kvs k v = kvs ++ [(k, v)] := by
  unfold putK
  rw [valV_any, h]
  exact if_neg (by decide)
theorem RelO.isSome_eq {o : Option V} {u : Option Value} (r : RelO o u) : o.isSome = u.isSome := by
  cases o with
  | none => cases u with
    | none => rfl
    | some _ => exact (show False from r).elim
  | some _ => cases u with
    | none => exact (show False from r).elim
    | some _ => rfl
theorem KV.val {kvs : List (κ × V)} {vs : List (κ × Value)} (r : KV kvs vs) (k : κ) : RelO (valV kvs k) (valueAt vs k) := by
  unfold KV at r
  induction r with
  | nil => exact True.intro
  | @cons p q ps qs h t ih =>
    obtain ⟨h1, h2⟩ := h
    by_cases e : p.1 = k
    · have e' : q.1 = k := h1.symm.trans e
      have b : valueAt (q :: qs) k = some q.2 := by simp [valueAt, List.find?_cons, e']
      rw [valV_pos e, b]; exact h2
    · have e' : ¬ q.1 = k := fun z => e (h1.trans z)
      have b : valueAt (q :: qs) k = valueAt qs k := by simp [valueAt, List.find?_cons, e']
      rw [valV_neg e, b]; exact ih
theorem KV.any {kvs : List (κ × V)} {vs : List (κ × Value)} (r : KV kvs vs) (k : κ) : (kvs.any fun kv => decide (kv.1 = k)) = vs.any fun kv => decide (kv.1 = k) := by
  unfold KV at r
  induction r with
  | nil => rfl
  | cons h t ih => rw [List.any_cons, List.any_cons, ih, h.1]
theorem KV.repl {kvs : List (κ × V)} {vs : List (κ × Value)} (r : KV kvs vs) (k : κ) {y : V} {u : Value} (ry : RelV y u) :
    KV (kvs.map fun kv => if kv.1 = k then (kv.1, y) else kv) (vs.map fun kv => if kv.1 = k then (kv.1, u) else kv) := by
  unfold KV at r ⊢
  induction r with
  | nil => exact .nil
  | @cons p q ps qs h t ih =>
    rw [List.map_cons, List.map_cons]
    refine .cons ?_ ih
    obtain ⟨h1, h2⟩ := h
    by_cases e : p.1 = k
    · rw [if_pos e, if_pos (h1.symm.trans e)]; exact ⟨h1, ry⟩
    · rw [if_neg e, if_neg (fun z => e (h1.trans z))]; exact ⟨h1, h2⟩
theorem KV.put {kvs : List (κ × V)} {vs : List (κ × Value)} (r : KV kvs vs) (k : κ) {y : V} {u : Value} (ry : RelV y u) : KV (putK kvs k y) (stored vs k u) := by
  unfold putK stored
  rw [r.any k]
  by_cases e : (vs.any fun kv => decide (kv.1 = k)) = true
  · rw [if_pos e, if_pos e]; exact r.repl k ry
  · rw [if_neg e, if_neg e]; exact Paired.snoc r ⟨rfl, ry⟩
theorem KV.length {kvs : List (κ × V)} {vs : List (κ × Value)} (r : KV kvs vs) : kvs.length = vs.length := Paired.length r
end
theorem kV_is {P : Program} {w : World} {k : Key} {u : Value} (r : RelV (kV k) u) : (mixKind P w).is k u = true := by
  cases k with
  | inl i => obtain ⟨t, e⟩ := (show ∃ t, u = Value.int i t from r); subst e; exact mixKind_int P w i t
  | inr x => obtain ⟨t, e⟩ := (show ∃ t, u = Value.str x t from r); subst e; exact mixKind_str P w x t
theorem items_are {P : Program} {w : World} : ∀ {ks : List Key} {us : List Value}, Vals (ks.map kV) us → ItemsAre (mixKind P w) ks us
  | [], _, r => by rw [List.map_nil] at r; cases r; exact .nil
  | k :: ks, _, r => by
    rw [List.map_cons] at r
    cases r with
    | cons h t => exact .cons (kV_is h) (items_are t)
noncomputable abbrev KT (H : Hp) : List (List Key × V) → List (List Key × Addr × Value) → Prop := Paired fun p q => p.1 = q.1 ∧ H q.2.1 = some (.tup (p.1.map kV)) ∧ RelV p.2 q.2.2
theorem KT.val {H : Hp} {kvs : List (List Key × V)} {xs : List (List Key × Addr × Value)} (r : KT H kvs xs) (k : List Key) : RelO (valV kvs k) ((atKey xs k).map (·.2)) := by
  induction r with
  | nil => exact True.intro
  | @cons p q ps qs h t ih =>
    obtain ⟨h1, _, h2⟩ := h
    by_cases e : p.1 = k
    · have e' : q.1 = k := h1.symm.trans e
      have b : atKey (q :: qs) k = some q.2 := by simp [atKey, List.find?_cons, e']
      rw [valV_pos e, b]; exact h2
    · have e' : ¬ q.1 = k := fun z => e (h1.trans z)
      have b : atKey (q :: qs) k = atKey qs k := by simp [atKey, List.find?_cons, e']
      rw [valV_neg e, b]; exact ih
theorem KT.repl {H : Hp} {kvs : List (List Key × V)} {xs : List (List Key × Addr × Value)} (r : KT H kvs xs) (k : List Key) {y : V} {u : Value} (ry : RelV y u) :
    KT H (kvs.map fun kv => if kv.1 = k then (kv.1, y) else kv) (xs.map (putAt k u)) := by
  induction r with
  | nil => exact .nil
  | @cons p q ps qs h t ih =>
    rw [List.map_cons, List.map_cons]
    refine .cons ?_ ih
    obtain ⟨h1, h2, h3⟩ := h
    unfold putAt
    by_cases e : p.1 = k
    · rw [if_pos e, if_pos (h1.symm.trans e)]; exact ⟨h1, h2, ry⟩
    · rw [if_neg e, if_neg (fun z => e (h1.trans z))]; exact ⟨h1, h2, h3⟩
theorem KT.put {H : Hp} {kvs : List (List Key × V)} {xs : List (List Key × Addr × Value)} (r : KT H kvs xs) (k : List Key) {b : Addr} {y : V} {u : Value} (hb : H b = some (.tup (k.map kV))) (ry : RelV y u) :
    KT H (putK kvs k y) (storedH xs k b u) := by
  have e : (kvs.any fun kv => decide (kv.1 = k)) = (atKey xs k).isSome := by
    rw [valV_any, (r.val k).isSome_eq, Option.isSome_map]
  unfold putK storedH
  rw [e]
  by_cases q : (atKey xs k).isSome = true
  · rw [if_pos q, if_pos q]; exact r.repl k ry
  · rw [if_neg q, if_neg q]; exact Paired.snoc r ⟨rfl, hb, ry⟩
theorem KT.keeps {H H' : Hp} {kvs : List (List Key × V)} {xs : List (List Key × Addr × Value)} (r : KT H kvs xs) (ht : ∀ b ys, H b = some (.tup ys) → H' b = some (.tup ys)) : KT H' kvs xs :=
  Paired.mapP r fun _ _ z => ⟨z.1, ht _ _ z.2.1, z.2.2⟩
section
variable {P : Program} {w : World} {H : Hp} {h : Heap} {a : Addr}
theorem rd_of {u : HO} (ok : HOk P w H h) (e : Rd H a u) : ObjOk P w H h a u := e.ok ok
theorem dk_rd {kvs : List (Key × V)} (ok : HOk P w H h) (e : Rd H a (.dK kvs)) : kvs.length ≤ sizeLine ∧ (a == sysModules) = false ∧ ∃ vs, KV kvs vs ∧ h.DictOf (mixKind P w) a vs :=
  show ObjOk P w H h a (.dK kvs) from rd_of ok e
theorem dk_of {kvs : List (Key × V)} (ok : HOk P w H h) (e : H a = some (.dK kvs)) : kvs.length ≤ sizeLine ∧ (a == sysModules) = false ∧ ∃ vs, KV kvs vs ∧ h.DictOf (mixKind P w) a vs := dk_rd ok (.inl e)
theorem key_of {ks : List Key} (ok : HOk P w H h) (e : H a = some (.tup (ks.map kV))) : (tupleKind (mixKind P w)).is h ks a := by
  obtain ⟨_, its, r, o, h1, h2, n, h3⟩ := (show ObjOk P w H h a (.tup (ks.map kV)) from ok a _ e)
  exact ⟨o, its.toArray, n, h1, h2, h3, by simpa using items_are r⟩
theorem dt_rd {kvs : List (List Key × V)} (ok : HOk P w H h) (e : Rd H a (.dT kvs)) : kvs.length ≤ sizeLine ∧ (a == sysModules) = false ∧
    ∃ xs, KT H kvs xs ∧ h.DictOfH (tupleKind (mixKind P w)) a xs := by
  obtain ⟨z, y, xs, r, o, es, ep, h1, h2, h3, h4, h5⟩ := (show ObjOk P w H h a (.dT kvs) from rd_of ok e)
  refine ⟨z, y, xs, r, o, es, ep, h1, h2, h3, h4, fun x hx => ?_, h5⟩
  have all : ∀ {l : List (List Key × V)} {m : List (List Key × Addr × Value)}, KT H l m → ∀ x ∈ m, (tupleKind (mixKind P w)).is h x.1 x.2.1 := by
    intro l m q
    induction q with
    | nil => intro x hx; exact nomatch hx
    | @cons p q ps qs hq t ih =>
      intro x hx
      rcases List.mem_cons.mp hx with e | hx
      · subst e
        exact key_of ok (by rw [← hq.1]; exact hq.2.1)
      · exact ih x hx
  exact all r x hx
theorem dt_of {kvs : List (List Key × V)} (ok : HOk P w H h) (e : H a = some (.dT kvs)) : kvs.length ≤ sizeLine ∧ (a == sysModules) = false ∧
    ∃ xs, KT H kvs xs ∧ h.DictOfH (tupleKind (mixKind P w)) a xs := dt_rd ok (.inl e)
end
noncomputable def DGet (H : Hp) (a : Addr) (y : V) (r : Option V) : Prop :=
  (∃ kvs k, Rd H a (.dK kvs) ∧ y = kV k ∧ r = valV kvs k) ∨ ∃ kvs k b, Rd H a (.dT kvs) ∧ y = .ref b ∧ H b = some (.tup (k.map kV)) ∧ r = valV kvs k
noncomputable def DPut (H : Hp) (a : Addr) (y v : V) (H' : Hp) : Prop :=
  (∃ kvs k, H a = some (.dK kvs) ∧ y = kV k ∧ kvs.length < sizeLine ∧ H' = upd H a (.dK (putK kvs k v))) ∨
  ∃ kvs k b, H a = some (.dT kvs) ∧ y = .ref b ∧ H b = some (.tup (k.map kV)) ∧ kvs.length < sizeLine ∧ H' = upd H a (.dT (putK kvs k v))
theorem DGet.t {H : Hp} {a b : Addr} {kvs : List (List Key × V)} {k : List Key} (e : H a = some (.dT kvs)) (eb : H b = some (.tup (k.map kV))) : DGet H a (.ref b) (valV kvs k) := .inr ⟨kvs, k, b, .inl e, rfl, eb, rfl⟩
theorem DPut.t {H : Hp} {a b : Addr} {kvs : List (List Key × V)} {k : List Key} {v : V} (e : H a = some (.dT kvs)) (eb : H b = some (.tup (k.map kV))) (hl : kvs.length < sizeLine) :
    DPut H a (.ref b) v (upd H a (.dT (putK kvs k v))) := .inr ⟨kvs, k, b, e, rfl, eb, hl, rfl⟩
section
variable {X : Cx} {pins : List (Addr × Obj)} {σ : St} {H : Hp} {s : Shared} {a : Addr} {y v : V} {u r : Value} {o : Option V} {A : Around} {E : Value → Shared → Prop}
theorem Inv.big (I : Inv X pins σ H s) : sysModules < s.heap.objs.size := by
  have h : mainGlobals < s.heap.objs.size := (I.mod.glob.keeps I.bk).lt
  exact Nat.lt_trans (by decide) h
theorem d_getItem {Q : Value → Shared → Prop} (hu : A.units + 1 < cLine) (I : Inv X pins σ H s) (g : DGet H a y (some v)) (ry : RelV y u) (h : ∀ w' s', Inv X pins σ H s' → RelV v w' → Q w' s') :
    wpAny (model X.prog X.w) A (getItem (.ref a) u) Q E s := by
  rcases g with ⟨kvs, k, e, ey, l⟩ | ⟨kvs, k, b, e, ey, eb, l⟩
  · subst ey
    obtain ⟨z, hd, vs, rel, dd⟩ := dk_rd I.hok e
    obtain ⟨w', hw, rw'⟩ := RelO.some_of (v := v) (o := valueAt vs k) (by rw [l]; exact rel.val k)
    exact wpAny_getItem_of (kV_is ry) dd.mapOf hw (h w' _ (I.tok _) rw')
  · subst ey
    cases (show u = Value.ref b from ry)
    obtain ⟨z, hd, xs, rel, dd⟩ := dt_rd I.hok e
    obtain ⟨w', hw, rw'⟩ := RelO.some_of (v := v) (o := (atKey xs k).map (·.2)) (by rw [l]; exact rel.val k)
    obtain ⟨p, hp, hp2⟩ := Option.map_eq_some_iff.mp hw
    refine wpAny_getItem_heap (tupleKind_room_in1 hu) (key_of I.hok eb) dd hp ?_
    rw [hp2]
    exact h w' _ (I.tok _) rw'
theorem d_in {Q : Value → Shared → Prop} (hu : A.units + 1 < cLine) (I : Inv X pins σ H s) (g : DGet H a y o) (ry : RelV y u) (h : ∀ s', Inv X pins σ H s' → Q (.bool o.isSome) s') :
    wpAny (model X.prog X.w) A (compareOp .In u (.ref a)) Q E s := by
  rcases g with ⟨kvs, k, e, ey, l⟩ | ⟨kvs, k, b, e, ey, eb, l⟩
  · subst ey
    obtain ⟨z, hd, vs, rel, dd⟩ := dk_rd I.hok e
    refine wpAny_in_of (kV_is ry) hd dd.mapOf ?_
    rw [← (rel.val k).isSome_eq, ← l]
    exact h _ (I.tok _)
  · subst ey
    cases (show u = Value.ref b from ry)
    obtain ⟨z, hd, xs, rel, dd⟩ := dt_rd I.hok e
    refine wpAny_in_heap (tupleKind_room_in1 hu) (key_of I.hok eb) hd dd ?_
    have q := (rel.val k).isSome_eq
    rw [Option.isSome_map] at q
    rw [← q, ← l]
    exact h _ (I.tok _)
theorem d_notIn {Q : Value → Shared → Prop} (hu : A.units + 1 < cLine) (I : Inv X pins σ H s) (g : DGet H a y o) (ry : RelV y u) (h : ∀ s', Inv X pins σ H s' → Q (.bool (!o.isSome)) s') :
    wpAny (model X.prog X.w) A (compareOp .NotIn u (.ref a)) Q E s := by
  rcases g with ⟨kvs, k, e, ey, l⟩ | ⟨kvs, k, b, e, ey, eb, l⟩
  · subst ey
    obtain ⟨z, hd, vs, rel, dd⟩ := dk_rd I.hok e
    refine wpAny_notIn_of (kV_is ry) hd dd.mapOf ?_
    rw [← (rel.val k).isSome_eq, ← l]
    exact h _ (I.tok _)
  · subst ey
    cases (show u = Value.ref b from ry)
    obtain ⟨z, hd, xs, rel, dd⟩ := dt_rd I.hok e
    refine wpAny_notIn_heap (tupleKind_room_in1 hu) (key_of I.hok eb) hd dd ?_
    have q := (rel.val k).isSome_eq
    rw [Option.isSome_map] at q
    rw [← q, ← l]
    exact h _ (I.tok _)
theorem d_write {h' : Heap} {t' : Nat} {ob : HO} (I : Inv X pins σ H s) (mu : Mut (H a)) (hs : Heap.SameBut a s.heap h') (he : ∃ q, h'.get? a = some q) (new : ObjOk X.prog X.w (upd H a ob) h' a ob) :
    Inv X pins σ (upd H a ob) { s with heap := h', toks := t' } :=
  I.write (x := a) (e := a) mu (.inl rfl) (fun b q hb z => (hs.2 b hb).trans z) he new
theorem dk_new {P : Program} {w : World} {H' : Hp} {h' : Heap} {kvs : List (Key × V)} {vs : List (Key × Value)} (z : kvs.length ≤ sizeLine) (hd : (a == sysModules) = false) (rel : KV kvs vs) (dd : h'.DictOf (mixKind P w) a vs) :
    ObjOk P w H' h' a (.dK kvs) := ⟨z, hd, vs, rel, dd⟩
theorem d_setItem {H' : Hp} {Q : Unit → Shared → Prop} (hu : A.units + 1 < cLine) (I : Inv X pins σ H s) (g : DPut H a y v H') (ry : RelV y u) (rv : RelV v r) (h : ∀ s', Inv X pins σ H' s' → Q () s') :
    wpAny (model X.prog X.w) A (setItem (.ref a) u r) Q E s := by
  rcases g with ⟨kvs, k, e, ey, l, eH⟩ | ⟨kvs, k, b, e, ey, eb, l, eH⟩
  · subst ey eH
    obtain ⟨z, hd, vs, rel, dd⟩ := dk_of I.hok e
    have hz : vs.length ≤ sizeLine := by rw [← rel.length]; exact z
    have hl : (putK kvs k v).length ≤ sizeLine := by have := length_putK kvs k v; omega
    refine wpAny_setItem_pairs (hsz := hz) (kV_is ry) dd fun h' dd' hs => h _ ?_
    have he : ∃ q, h'.get? a = some q := let ⟨q, _, _, hq, _⟩ := dd'; ⟨q, hq⟩
    exact d_write I (by rw [e]; exact True.intro) hs he (dk_new hl hd (rel.put k rv) dd')
  · subst ey eH
    cases (show u = Value.ref b from ry)
    obtain ⟨z, hd, xs, rel, dd⟩ := dt_of I.hok e
    have hz : xs.length ≤ sizeLine := by rw [← Paired.length rel]; exact z
    have hl : (putK kvs k v).length ≤ sizeLine := by have := length_putK kvs k v; omega
    refine wpAny_setItem_heap (hsz := hz) (tupleKind_room_in1 hu) (key_of I.hok eb) dd fun h' dd' hs => h _ ?_
    obtain ⟨q, es, ep, hq, h2, h3, h4, _, h5⟩ := dd'
    refine d_write I (by rw [e]; exact True.intro) hs ⟨q, hq⟩ ⟨hl, hd, _, (rel.put k eb rv).keeps fun c ys ec => ?_, q, es, ep, hq, h2, h3, h4, h5⟩
    rw [upd_ne (ne_of ec e (fun z => nomatch z))]
    exact ec
end
section
variable {X : Cx} {pins : List (Addr × Obj)} {σ : St} {H : Hp} {s : Shared} {a : Addr} {kvs : List (Key × V)} {k : Key} {u : Value} {A : Around} {E : Value → Shared → Prop}
end
noncomputable def NoSl (i : Expr) : Prop := ∀ ov iv, subscripted i false ov iv = operate [ov, iv] (getItem ov iv)
theorem subD_of {prog : Program} {w : World} {A : Around} {E : Value → Shared → Prop} {s : Shared} {env : Env} {value slice : Expr} {pos : Pos} {T id : String} {Q : Value → Shared → Prop}
    (hl : typeLookup (.type T) "__getitem__" = pure (some (.builtin id))) (hs : NoSl slice)
    (h : wpAny (model prog w) A (eval value env) (fun o s₁ => wpAny (model prog w) A (eval slice env) (fun i s₂ => s₂.TypeIs o T ∧ wpAny (model prog w) A (getItem o i) Q E s₂) E s₁) E s) :
    wpAny (model prog w) A (eval (.Subscript value slice pos) env) Q E s := by
  refine Subscript_ (wpAny_mono h (fun o s₁ h₁ => wpAny_mono h₁ (fun i s₂ h₂ => ?_) fun _ _ x => x) fun _ _ x => x)
  obtain ⟨hT, h₂⟩ := h₂
  unfold subscriptTail
  refine wpAny_bind ?_
  rw [getitemInPython_of_ne hT.not_modules]
  refine wpAny_bind (wpAny_specialOf hT hl ?_)
  have fin : wpAny (model prog w) A (subscripted slice false o i) (fun r s₃ => wpAny (model prog w) A (letTemporaryGo value o r >>= fun _ => pure r) Q E s₃) E s₂ := by
    rw [hs o i]
    exact wpAny_operating (wpAny_mono h₂ (fun r s₃ h₃ => wpAny_bind (wpAny_letTemporaryGo (wpAny_pure h₃))) fun _ _ x => x)
  first
    | exact wpAny_pure (wpAny_bind fin)
    | exact wpAny_bind (wpAny_pure (wpAny_bind fin))
    | exact wpAny_bind fin
theorem dict_typeIs {X : Cx} {pins : List (Addr × Obj)} {σ : St} {H : Hp} {s : Shared} {a : Addr} {y : V} {o : Option V} (I : Inv X pins σ H s) (g : DGet H a y o) : s.TypeIs (.ref a) "dict" := by
  rcases g with ⟨kvs, k, e, _, _⟩ | ⟨kvs, k, b, e, _, _, _⟩
  · obtain ⟨_, _, vs, _, dd⟩ := dk_rd I.hok e
    exact dd.typeIs
  · obtain ⟨_, _, xs, _, dd⟩ := dt_rd I.hok e
    exact dd.typeIs
noncomputable def tDGet (td ty : TE) : TE := fun σ H Q => td σ H fun x H1 => ty σ H1 fun y H2 => ∃ a v, x = .ref a ∧ DGet H2 a y (some v) ∧ Q v H2
noncomputable def tDIn (ty td : TE) : TE := fun σ H Q => ty σ H fun y H1 => td σ H1 fun x H2 => ∃ a o, x = .ref a ∧ DGet H2 a y o ∧ Q (.bl o.isSome) H2
noncomputable def tDNotIn (ty td : TE) : TE := fun σ H Q => ty σ H fun y H1 => td σ H1 fun x H2 => ∃ a o, x = .ref a ∧ DGet H2 a y o ∧ Q (.bl (!o.isSome)) H2
noncomputable def sDPut (td ty tv : TE) : TS := fun D σ H => tv σ H fun v H1 => td σ H1 fun x H2 => ty σ H2 fun y H3 => ∃ a H4, x = .ref a ∧ DPut H3 a y v H4 ∧ D.nx σ H4
section
variable {X : Cx} {o i e value : Expr} {pos pos' tpos : Pos} {td ty tv : TE}
theorem pe_dget (hu : X.A.units + 1 < cLine) (ho : PE X o td) (hi : PE X i ty) (hs : NoSl i) : PE X (.Subscript o i pos) (tDGet td ty) := by
  intro pins s σ H Q I h
  refine subD_of PySem.F.slot_dict_getitem.lookup hs (thn (ho pins s σ H _ I h) fun u s1 ⟨x, H1, I1, rx, q1⟩ => thn (hi pins s1 σ H1 _ I1 q1) fun iv s2 ⟨y, H2, I2, ry, a, v, ex, g, q2⟩ => ?_)
  subst ex
  obtain rfl : u = Value.ref a := rx
  exact ⟨dict_typeIs I2 g, d_getItem hu I2 g ry fun w' s3 I3 rw' => ⟨v, H2, I3, rw', q2⟩⟩
theorem pc_din (hu : X.A.units + 1 < cLine) (hi : PE X i ty) (ho : PE X o td) : PC X .In i o (tDIn ty td) := by
  intro pins s σ H Q I h
  refine thn (hi pins s σ H _ I h) fun iv s1 ⟨y, H1, I1, ry, q1⟩ => thn (ho pins s1 σ H1 _ I1 q1) fun u s2 ⟨x, H2, I2, rx, a, ov, ex, g, q2⟩ => ?_
  subst ex
  obtain rfl : u = Value.ref a := rx
  exact d_in hu I2 g ry fun s3 I3 => ⟨.bl ov.isSome, H2, I3, rfl, q2⟩
theorem pc_dnotin (hu : X.A.units + 1 < cLine) (hi : PE X i ty) (ho : PE X o td) : PC X .NotIn i o (tDNotIn ty td) := by
  intro pins s σ H Q I h
  refine thn (hi pins s σ H _ I h) fun iv s1 ⟨y, H1, I1, ry, q1⟩ => thn (ho pins s1 σ H1 _ I1 q1) fun u s2 ⟨x, H2, I2, rx, a, ov, ex, g, q2⟩ => ?_
  subst ex
  obtain rfl : u = Value.ref a := rx
  exact d_notIn hu I2 g ry fun s3 I3 => ⟨.bl (!ov.isSome), H2, I3, rfl, q2⟩
theorem ps_dput (hu : X.A.units + 1 < cLine) (ho : PE X o td) (hi : PE X i ty) (hv : PE X value tv) (hs : swapsWith value (some (.Subscript o i pos')) pos.line X.env = pure false) :
    PS X (.Assign [.Subscript o i pos'] value pos) (sDPut td ty tv) := by
  intro pins s σ H D I h
  refine wpAny_Assign_Subscript (thn (hv pins s σ H _ I h) fun r s1 ⟨v, H1, I1, rv, q1⟩ => thn (ho pins s1 σ H1 _ I1 q1) fun u s2 ⟨x, H2, I2, rx, q2⟩ => thn (hi pins s2 σ H2 _ I2 q2) fun iv s3 ⟨y, H3, I3, ry, a, H4, ex, g, q3⟩ => ?_) hs
  subst ex
  obtain rfl : u = Value.ref a := rx
  exact d_setItem hu I3 g ry rv fun s4 I4 => ⟨σ, H4, I4, q3⟩
end
theorem dk_empty {P : Program} {w : World} {H : Hp} (h : Heap) (hb : sysModules < h.objs.size) : ObjOk P w H (h.push { cls := .type "dict", data := .dict #[] }) h.objs.size (.dK []) :=
  ⟨Nat.zero_le _, beq_eq_false_iff_ne.mpr (Ne.symm (Nat.ne_of_lt hb)), [], .nil, Heap.DictOf.new h⟩
theorem dt_empty {P : Program} {w : World} {H : Hp} (h : Heap) (hb : sysModules < h.objs.size) : ObjOk P w H (h.push { cls := .type "dict", data := .dict #[] }) h.objs.size (.dT []) :=
  ⟨Nat.zero_le _, beq_eq_false_iff_ne.mpr (Ne.symm (Nat.ne_of_lt hb)), [], .nil, _, #[], 0, Heap.get?_push_size _ rfl, ⟨rfl, rfl, rfl⟩, rfl, rfl, List.nodup_nil⟩
noncomputable def tDNewK : TE := fun _ H Q => ∀ p, H p = none → Q (.ref p) (upd H p (.dK []))
noncomputable def tDNewT : TE := fun _ H Q => ∀ p, H p = none → Q (.ref p) (upd H p (.dT []))
section
variable {X : Cx} {pos : Pos}
theorem pe_dnewK : PE X (.Dict [] [] pos) tDNewK := fun pins s σ H Q I h =>
  wpAny_Dict_empty ⟨.ref s.heap.objs.size, _, I.laid (a := s.heap.objs.size) (o := .dK []) (t' := s.toks) (fun _ _ q => Heap.get?_push_of_some _ q) (Nat.le_refl _) (dk_empty s.heap I.big), rfl, h _ (I.hok.fresh (Nat.le_refl _))⟩
theorem pe_dnewT : PE X (.Dict [] [] pos) tDNewT := fun pins s σ H Q I h =>
  wpAny_Dict_empty ⟨.ref s.heap.objs.size, _, I.laid (a := s.heap.objs.size) (o := .dT []) (t' := s.toks) (fun _ _ q => Heap.get?_push_of_some _ q) (Nat.le_refl _) (dt_empty s.heap I.big), rfl, h _ (I.hok.fresh (Nat.le_refl _))⟩
end
section
variable {X : Cx} {pins : List (Addr × Obj)} {σ : St} {H : Hp} {s : Shared} {a : Addr} {y d : V} {u r : Value} {o : Option V} {A : Around} {E : Value → Shared → Prop}
end
section
variable {X : Cx} {o e f : Expr} {apos cpos : Pos} {td ty tx : TE}
end
section
variable {X : Cx} {pins : List (Addr × Obj)} {σ : St} {H : Hp} {s : Shared} {a : Addr} {kvs : List (Key × V)} {A : Around} {E : Value → Shared → Prop}
end
section
variable {X : Cx} {pins : List (Addr × Obj)} {σ : St} {H : Hp} {s : Shared} {a : Addr} {y : V} {u : Value} {A : Around} {E : Value → Shared → Prop}
end
end L2
namespace HT
open PySem PyProof.Rows
noncomputable def lexLt : List Int → List Int → Bool
  | [], [] => false
  | [], _ :: _ => true
  | _ :: _, [] => false
  | x :: xs, y :: ys => if x = y then lexLt xs ys else decide (x < y)
theorem lexLt_cons (x y : Int) (xs ys : List Int) : lexLt (x :: xs) (y :: ys) = if x = y then lexLt xs ys else decide (x < y) := rfl
theorem lexLt_nil_nil : lexLt [] [] = false := rfl
theorem lexLt_nil_cons (y : Int) (ys : List Int) : lexLt [] (y :: ys) = true := rfl
theorem lexLt_cons_nil (x : Int) (xs : List Int) : lexLt (x :: xs) [] = false := rfl
theorem eqAt_int (A : Around) (s : Shared) (a : Int) (t : Tok) (c : Int) (u : Tok) : ∃ e, SeqAt.EqAt A s (.int a t) (.int c u) e ∧ (e = true ↔ a = c) :=
  ⟨(a == c), SeqAt.EqAt.int_int a t c u, by simp⟩
theorem rcLt_int (A : Around) (s : Shared) (a : Int) (t : Tok) (c : Int) (u : Tok) (prog : Program) (w : World) (E : Value → Shared → Prop) (Q : Value → Shared → Prop) (h : Q (.bool (decide (a < c))) s) :
    wpAny (model prog w) A (richCompare .Lt (.int a t) (.int c u)) Q E s :=
  (PyProof.Rows.lt_int h : wpAny (model prog w) A (compareOp .Lt (.int a t) (.int c u)) Q E s)
section
open PySem.SeqAt
open PySem.AutoSeq1 (wpAny_loadPart')
open PySem.MeetsSeq PySem.MeetsSeq2 PySem.MeetsSeq3
theorem tuple_lt_ints (l b : Addr) (items items2 : Array Value) (n n2 : Nat) (dd dd2 : Option Addr) (sl sl2 : Array (Option Value)) (ns ms : List Int) (hi : IntsAre items.toList ns) (hj : IntsAre items2.toList ms) :
    Meets (Builtin.«tuple.__lt__» ⟨[.ref l, .ref b], []⟩)
      (fun _ R s => s.heap.get? l = some { cls := .type "tuple", dict := dd, data := .seq items n, slots := sl } ∧ s.heap.get? b = some { cls := .type "tuple", dict := dd2, data := .seq items2 n2, slots := sl2 } ∧
        R (.ok (.ret (.bool (lexLt ns ms)))) s) :=
  .of_wp fun prog w A R s h => by
    obtain ⟨hp, g, d, tk, os⟩ := s; obtain ⟨hl, hb, h⟩ := h
    have f2 := AutoSeq1.sub_tuple_tuple
    have z1 : items.size = ns.length := by rw [← hi.length]; simp
    have z2 : items2.size = ms.length := by rw [← hj.length]; simp
    wp_walk using wpAny_loadPart' hl, wpAny_loadPart' hb, wpAny_forIn_list _ (fun rest b s' => b.1 = none ∧ s' = ⟨hp, g, d, tk, os⟩ ∧ ∃ (vs ws : List Value) (ns' ms' : List Int), rest = vs.zip ws ∧
      IntsAre vs ns' ∧ IntsAre ws ms' ∧ ns'.length + items2.size = ms'.length + items.size ∧ R (.ok (.ret (.bool (lexLt ns' ms')))) ⟨hp, g, d, tk, os⟩) _
    case turn =>
      rintro ⟨y, x⟩ rest b s' ⟨hb', rfl, vs, ws, ns', ms', hz, hvi, hwi, hlen, hR⟩
      cases hvi with
      | nil => rw [List.zip_nil_left] at hz; cases hz
      | cons a t hvi' =>
        cases hwi with
        | nil => rw [List.zip_nil_right] at hz; cases hz
        | cons c u hwi' =>
          rw [List.zip_cons_cons] at hz
          injection hz with hyx hrest
          injection hyx with hy hx
          subst hy hx
          rw [lexLt_cons] at hR
          simp only [List.length_cons] at hlen
          obtain ⟨e, he, hiff⟩ := eqAt_int A.in1 ⟨hp, g, d, tk, os⟩ a t c u
          refine wpAny_bind (he prog w _ _ ?_)
          cases e with
          | true =>
            rw [if_pos (hiff.mp rfl)] at hR
            wp_walk
            exact ⟨rfl, rfl, _, _, _, _, hrest, hvi', hwi', by omega, hR⟩
          | false =>
            rw [if_neg (fun q => absurd (hiff.mpr q) Bool.false_ne_true)] at hR
            have hri := rcLt_int A.in1 ⟨hp, g, d, tk, os⟩ a t c u prog w
            wp_walk using hri
            exact ⟨_, rfl, by simpa using hR⟩
    case fin =>
      rintro ⟨b1, b2⟩ s' ⟨hb', rfl, vs, ws, ns', ms', hz, hvi, hwi, hlen, hR⟩
      simp only at hb'
      subst hb'
      have hv : lexLt ns' ms' = decide (items.size < items2.size) := by
        cases hvi with
        | nil =>
          cases hwi with
          | nil =>
            simp only [List.length_nil] at hlen
            rw [lexLt_nil_nil]
            exact (decide_eq_false (by omega)).symm
          | cons c u hw =>
            simp only [List.length_nil, List.length_cons] at hlen
            rw [lexLt_nil_cons]
            exact (decide_eq_true (by omega)).symm
        | cons a t hv =>
          cases hwi with
          | nil =>
            simp only [List.length_nil, List.length_cons] at hlen
            rw [lexLt_cons_nil]
            exact (decide_eq_false (by omega)).symm
          | cons c u hw =>
            rw [List.zip_cons_cons] at hz
            cases hz
      rw [hv] at hR
      wp_walk
      exact ⟨_, rfl, by simpa [Builtin.Tuple.tupleCompareSizes] using hR⟩
    case h =>
      exact ⟨rfl, rfl, items.toList, items2.toList, ns, ms, rfl, hi, hj, by omega, h⟩
end
section
variable {prog : Program} {w : World} {A : Around} {E : Value → Shared → Prop} {s : Shared}
theorem lt_tupInts {l b : Addr} {items items2 : Array Value} {ns ms : List Int} {Q : Value → Shared → Prop} (hl : IsTup s.heap l items) (hb : IsTup s.heap b items2) (hi : IntsAre items.toList ns) (hj : IntsAre items2.toList ms)
    (hu : A.units < cLine) (h : Q (.bool (lexLt ns ms)) s) : wpAny (model prog w) A (compareOp .Lt (.ref l) (.ref b)) Q E s := by
  obtain ⟨⟨cls, dd, data, sl⟩, ho, hc, n, hd⟩ := id hl
  obtain ⟨⟨cls2, dd2, data2, sl2⟩, ho2, hc2, n2, hd2⟩ := id hb
  simp only at hc hd hc2 hd2
  subst hc hd hc2 hd2
  exact richCompare_meets_room (op := .Lt) ⟨_, ho, rfl⟩ ⟨_, ho2, rfl⟩ PySem.F.slot_tuple_lt PySem.F.entry_tuple_lt (PySem.F.args_tuple_lt_2 _ _) (tuple_lt_ints l b items items2 n n2 dd dd2 sl sl2 ns ms hi hj)
    ⟨ho, ho2, show Value.bool (lexLt ns ms) ≠ Value.notImplemented ∧ Q (.bool (lexLt ns ms)) s from ⟨(fun x => nomatch x), h⟩⟩ hu
noncomputable def sIx (n d : Nat) : Option Int → Nat
  | none => d
  | some v => if v < 0 then (v + (n : Int)).toNat else min v.toNat n
theorem sIx_none (n d : Nat) : sIx n d none = d := rfl
theorem sIx_nat (n d k : Nat) : sIx n d (some (k : Int)) = min k n := by
  show (if (k : Int) < 0 then ((k : Int) + (n : Int)).toNat else min (k : Int).toNat n) = min k n
  rw [if_neg (by omega), Int.toNat_natCast]
end
end HT
namespace L2
open PySem PySem.Spec PyProof.Rows
noncomputable abbrev TO := St → Hp → (Option Int → Hp → Prop) → Prop
noncomputable def PO (X : Cx) (e : Option Expr) (t : TO) : Prop :=
  ∀ (pins : List (Addr × Obj)) (s : Shared) (σ : St) (H : Hp) (Q : Option Int → Hp → Prop), Inv X pins σ H s → t σ H Q →
    wpAny (model X.prog X.w) X.A (evalPart e X.env) (fun u s' => ∃ o H', Inv X pins σ H' s' ∧ IsPart u o ∧ Q o H') X.xe s
noncomputable def tNoPart : TO := fun _ H Q => Q none H
noncomputable def tPart (t : TE) : TO := fun σ H Q => t σ H fun x H1 => ∃ i, x = .int i ∧ Q (some i) H1
theorem intsAre_of {ns : List Int} : ∀ {us : List Value}, Vals (ns.map V.int) us → IntsAre us ns := by
  induction ns with
  | nil => intro us r; rw [List.map_nil] at r; cases r; exact .nil
  | cons n ns ih =>
    intro us r
    rw [List.map_cons] at r
    cases r with
    | cons r1 r2 =>
      obtain ⟨t, e⟩ := r1
      subst e
      exact .cons n t (ih r2)
section
variable {X : Cx} {e : Expr} {te : TE} {lo hi : Option Expr} {tl th : TO} {pos p2 : Pos}
theorem po_none : PO X none tNoPart := by
  intro pins s σ H Q I h
  rw [evalPart_none]
  exact wpAny_pure ⟨none, H, I, .none, h⟩
theorem po_some (h : PE X e te) : PO X (some e) (tPart te) := by
  intro pins s σ H Q I hw
  rw [evalPart_some]
  refine thn (h pins s σ H _ I hw) fun u s1 ⟨x, H1, I1, r1, q1⟩ => ?_
  obtain ⟨i, rfl, q⟩ := q1
  obtain ⟨t, rfl⟩ := r1
  exact ⟨some i, H1, I1, .int i t, q⟩
noncomputable def SlR (X : Cx) (r : V → Option Int → Option Int → Hp → VK → Prop) : Prop :=
  ∀ (pins : List (Addr × Obj)) (s : Shared) (σ : St) (H : Hp) (x : V) (v vl vu : Value) (lo hi : Option Int) (sl : Addr) (Q : VK), Inv X pins σ H s → RelV x v → s.heap.IsSliceOf sl vl vu .none → IsPart vl lo → IsPart vu hi → r x lo hi H Q →
    ∃ T id, typeLookup (.type T) "__getitem__" = pure (some (.builtin id)) ∧ s.TypeIs v T ∧ wpAny (model X.prog X.w) X.A (getItem v (.ref sl)) (EP X pins σ Q) X.xe s
noncomputable def tSl (r : V → Option Int → Option Int → Hp → VK → Prop) (te : TE) (tl th : TO) : TE := fun σ H Q => te σ H fun x H1 => tl σ H1 fun l H2 => th σ H2 fun u H3 => r x l u H3 Q
theorem pe_slice {r : V → Option Int → Option Int → Hp → VK → Prop} (hr : SlR X r) (he : PE X e te) (hl : PO X lo tl) (hu : PO X hi th) : PE X (.Subscript e (.Slice lo hi none p2) pos) (tSl r te tl th) := by
  intro pins s σ H Q I h
  refine Subscript_ (thn (he pins s σ H _ I h) fun v s1 ⟨x, H1, I1, r1, q1⟩ => ?_)
  refine wpAny_Slice (thn (hl pins s1 σ H1 _ I1 q1) fun vl s2 ⟨l, H2, I2, pl, q2⟩ => thn (hu pins s2 σ H2 _ I2 q2) fun vu s3 ⟨u, H3, I3, pu, q3⟩ => ?_)
  rw [evalPart_none]
  refine wpAny_pure ?_
  have I4 : Inv X pins σ H3 { s3 with heap := s3.heap.push { cls := .type "slice", data := .fields #[vl, vu, .none] } } := I3.kept (t' := s3.toks) fun b ob q => Heap.get?_push_of_some _ q
  obtain ⟨T, id, hT, ht, hg⟩ := hr pins { s3 with heap := s3.heap.push { cls := .type "slice", data := .fields #[vl, vu, .none] } } σ H3 x v vl vu l u s3.heap.objs.size Q I4 r1 (Heap.IsSliceOf.new ..) pl pu q3
  show wpAny (model X.prog X.w) X.A (subscriptTail e (.Slice lo hi none p2) v (.ref s3.heap.objs.size)) (EP X pins σ Q) X.xe { s3 with heap := s3.heap.push { cls := .type "slice", data := .fields #[vl, vu, .none] } }
  exact tail_any (ops := [.ref s3.heap.objs.size, v]) ht hT hg (by with_unfolding_all rfl)
noncomputable def cutV (xs : List V) (lo hi : Option Int) : List V := (xs.drop (HT.sIx xs.length 0 lo)).take (HT.sIx xs.length xs.length hi - HT.sIx xs.length 0 lo)
theorem cutV_length (xs : List V) (lo hi : Option Int) : (cutV xs lo hi).length ≤ xs.length := by
  unfold cutV
  rw [List.length_take, List.length_drop]
  omega
end
end L2
namespace L2
open PySem PySem.Spec PyProof.Rows
noncomputable def ixN (n : Nat) (i : Int) : Option Nat := if 0 ≤ i then (if i < n then some i.toNat else none) else if -(n : Int) ≤ i then some (i + n).toNat else none
noncomputable def atI {α : Type} (xs : List α) (i : Int) : Option α := (ixN xs.length i).bind fun j => xs[j]?
theorem ixN_seq {n : Nat} {i : Int} {j : Nat} (h : ixN n i = some j) : seqIndex? i n = some j ∧ j < n ∧ -(n : Int) ≤ i ∧ i < n := by
  unfold ixN at h
  by_cases h0 : 0 ≤ i
  · rw [if_pos h0] at h
    by_cases h1 : i < n
    · rw [if_pos h1] at h
      have e : i.toNat = j := Option.some.inj h
      exact ⟨by rw [seqIndex_of h0 h1, e], by omega, by omega, h1⟩
    · rw [if_neg h1] at h; cases h
  · rw [if_neg h0] at h
    by_cases h1 : -(n : Int) ≤ i
    · rw [if_pos h1] at h
      have e : (i + n).toNat = j := Option.some.inj h
      exact ⟨by rw [seqIndex_neg (by omega) h1, e], by omega, h1, by omega⟩
    · rw [if_neg h1] at h; cases h
theorem atI_get {α : Type} {xs : List α} {i : Int} {v : α} (h : atI xs i = some v) : ∃ j, seqIndex? i xs.length = some j ∧ xs[j]? = some v ∧ j < xs.length ∧ -(xs.length : Int) ≤ i ∧ i < xs.length := by
  unfold atI at h
  cases e : ixN xs.length i with
  | none => rw [e] at h; cases h
  | some j =>
    rw [e] at h
    obtain ⟨h1, h2, h3, h4⟩ := ixN_seq e
    exact ⟨j, h1, h, h2, h3, h4⟩
theorem atI_nat {α : Type} {xs : List α} {j : Nat} {v : α} (h : xs[j]? = some v) : atI xs (j : Int) = some v := by
  have hj : j < xs.length := (List.getElem?_eq_some_iff.mp h).1
  have e : ixN xs.length (j : Int) = some j := by
    unfold ixN
    rw [if_pos (by omega), if_pos (by omega)]; simp
  unfold atI; rw [e]; exact h
theorem atI_last {α : Type} (xs : List α) (v : α) : atI (xs ++ [v]) (-1) = some v := by
  have hl : (xs ++ [v]).length = xs.length + 1 := by simp
  have e : ixN (xs ++ [v]).length (-1) = some xs.length := by
    unfold ixN
    rw [hl, if_neg (by decide), if_pos (by omega)]
    congr 1
    omega
  unfold atI
  rw [e]
  show (xs ++ [v])[xs.length]? = some v
  simp
noncomputable def PlainIx (b : Expr) : Prop := ∀ o i, subscripted b false o i = operate [o, i] (getItem o i)
noncomputable def IxR (X : Cx) (r : R2) : Prop :=
  ∀ (value slice : Expr) (pins : List (Addr × Obj)) (s : Shared) (σ : St) (H : Hp) (x y : V) (v u : Value) (Q : VK), Inv X pins σ H s → RelV x v → RelV y u → r x y H Q →
    subscripted slice false v u = operate [v, u] (getItem v u) → wpAny (model X.prog X.w) X.A (subscriptTail value slice v u) (EP X pins σ Q) X.xe s
noncomputable def MtR (X : Cx) (id : String) (r : V → List V → Hp → VK → Prop) : Prop :=
  ∀ (pins : List (Addr × Obj)) (s : Shared) (σ : St) (H : Hp) (x : V) (xs : List V) (v : Value) (us : List Value) (Q : VK), Inv X pins σ H s → RelV x v → Vals xs us → r x xs H Q →
    wpAny (model X.prog X.w) X.A (call (.builtin id) (v :: us)) (EP X pins σ Q) X.xe s
section
variable {X : Cx} {a b : Expr} {ta tb : TE} {pos : Pos}
theorem pe_ix {r : R2} (hr : IxR X r) (ha : PE X a ta) (hb : PE X b tb) (hs : PlainIx b) : PE X (.Subscript a b pos) (tOp r ta tb) := by
  intro pins s σ H Q I h
  exact Subscript_ (binT ha hb I h fun v u s2 x y H2 I2 rx ry q => hr a b pins s2 σ H2 x y v u Q I2 rx ry q (hs _ _))
noncomputable def rIxL (K : PySem.W.Frag) : R2 := fun x y H Q => ∃ p xs i v, x = .ref p ∧ y = .int i ∧ SqL K H p xs ∧ atI xs i = some v ∧ Q v H
noncomputable def rIxT (K : PySem.W.Frag) : R2 := fun x y H Q => ∃ p xs i v, x = .ref p ∧ y = .int i ∧ SqT K H p xs ∧ atI xs i = some v ∧ Q v H
noncomputable def rIxS : R2 := fun x y H Q => ∃ z i c, x = .str z ∧ y = .int i ∧ z.length ≤ sizeLine ∧ atI z.cps.toList i = some c ∧ Q (.str ⟨#[c]⟩) H
theorem ix_list : IxR X (rIxL X.K) := by
  intro value slice pins s σ H x y v u Q I rx ry h hs
  obtain ⟨p, xs, i, z, rfl, rfl, hq, he, q⟩ := h
  cases rx
  obtain ⟨t, rfl⟩ := ry
  obtain ⟨its, r, pl, hz⟩ := I.list hq
  obtain ⟨j, h1, h2, h3, h4, h5⟩ := atI_get he
  obtain ⟨w, ew, rw'⟩ := r.get h2
  have hl := r.length
  have hn := line63
  have fin : EP X pins σ Q w s := ⟨z, H, I, rw', q⟩
  by_cases h0 : 0 ≤ i
  · have hj : i.toNat = j := by
      rw [seqIndex_of h0 h5] at h1
      exact Option.some.inj h1
    exact item_listR pl.isList h0 (by omega) (by rw [hj]; simpa using ew) fin hs
  · have hj : (i + (its.toArray.size : Int)).toNat = j := by
      rw [seqIndex_neg (by omega) h4] at h1
      rw [List.size_toArray, ← hl]
      exact Option.some.inj h1
    exact subscriptTail_builtinR (x := w) pl.isList.typeIs slot_list_getitem.lookup
      (wpAny_getItem_list_neg (Q := fun r s' => r = w ∧ EP X pins σ Q r s') pl.isList (by omega) (by rw [List.size_toArray] <;> omega) (by omega) (by rw [hj]; simpa using ew) ⟨rfl, fin⟩) hs
theorem ix_tup : IxR X (rIxT X.K) := by
  intro value slice pins s σ H x y v u Q I rx ry h hs
  obtain ⟨p, xs, i, z, rfl, rfl, hq, he, q⟩ := h
  cases rx
  obtain ⟨t, rfl⟩ := ry
  obtain ⟨its, r, pl, hz⟩ := I.tuple hq
  obtain ⟨j, h1, h2, h3, h4, h5⟩ := atI_get he
  obtain ⟨w, ew, rw'⟩ := r.get h2
  have hl := r.length
  have hn := line63
  have fin : EP X pins σ Q w s := ⟨z, H, I, rw', q⟩
  exact subscriptTail_builtinR (x := w) pl.typeIs slot_tuple_getitem.lookup
    (getItem_tuple (j := j) (Q := fun r s' => r = w ∧ EP X pins σ Q r s') pl (by omega) (by omega) (by rw [List.size_toArray, ← hl]; exact h1) (by simpa using ew) ⟨rfl, fin⟩) hs
theorem ix_str : IxR X rIxS := by
  intro value slice pins s σ H x y v u Q I rx ry h hs
  obtain ⟨z, i, c, rfl, rfl, hz, he, q⟩ := h
  obtain ⟨t, rfl⟩ := rx
  obtain ⟨t', rfl⟩ := ry
  obtain ⟨j, h1, h2, h3, h4, h5⟩ := atI_get he
  have hl : z.cps.toList.length = z.length := by simp [Str.length]
  rw [hl] at h1 h4 h5
  have hn := line63
  exact tail_any (typeIs_str s z t) slot_str_getitem.lookup (getItem_str (c := c) (by
    have e1 : decide (i < -(2 ^ 63 : Int)) = false := decide_eq_false (by omega)
    have e2 : decide (i ≥ 2 ^ 63) = false := decide_eq_false (by omega)
    rw [e1, e2, Bool.or_false]) (by rw [h1]; simpa using h2) ⟨.str ⟨#[c]⟩, H, I.tok _, ⟨_, rfl⟩, q⟩) hs
theorem slice_bounds (lo hi : Option Int) (n : Nat) : (sliceBounds lo hi none n).1 = ((HT.sIx n 0 lo : Nat) : Int) ∧ (sliceBounds lo hi none n).2.1 = ((HT.sIx n n hi : Nat) : Int) ∧ (sliceBounds lo hi none n).2.2 = 1 := by
  refine ⟨?_, ?_, rfl⟩
  · cases lo with
    | none => simp [sliceBounds, HT.sIx]
    | some i =>
      simp only [sliceBounds, HT.sIx, Option.getD_none, show (1 : Int) > 0 by decide, if_true]
      by_cases h : i < 0
      · simp only [h, if_true] <;> omega
      · simp only [h, if_false] <;> omega
  · cases hi with
    | none => simp [sliceBounds, HT.sIx]
    | some i =>
      simp only [sliceBounds, HT.sIx, Option.getD_none, show (1 : Int) > 0 by decide, if_true]
      by_cases h : i < 0
      · simp only [h, if_true] <;> omega
      · simp only [h, if_false] <;> omega
theorem slicePick_cut (its : List Value) (lo hi : Option Int) : slicePick its.toArray lo hi none = ((its.drop (HT.sIx its.length 0 lo)).take (HT.sIx its.length its.length hi - HT.sIx its.length 0 lo)).toArray := by
  obtain ⟨h1, h2, h3⟩ := slice_bounds lo hi its.toArray.size
  unfold slicePick
  rw [h1, h2, h3]
  simp only [sliceRange_one, pick_run, List.size_toArray] <;> rfl
noncomputable def rSlL (K : PySem.W.Frag) : V → Option Int → Option Int → Hp → VK → Prop := fun x lo hi H Q => ∃ a xs, x = .ref a ∧ SqL K H a xs ∧ ∀ p, H p = none → Q (.ref p) (upd H p (.lst (cutV xs lo hi)))
theorem sl_list : SlR X (rSlL X.K) := by
  intro pins s σ H x v vl vu lo hi sl Q I rx hs pl pu h
  obtain ⟨a, xs, rfl, hx, q⟩ := h
  cases rx
  obtain ⟨its, r, ht, hz⟩ := I.list hx
  have hlen := r.length
  refine ⟨"list", _, slot_list_getitem.lookup, ht.isList.typeIs, ?_⟩
  refine wpAny_getItem_list_slice ht.isList hs pl pu .none (by simp) ?_ (by rw [List.size_toArray] <;> omega)
  rw [slicePick_cut, ← hlen]
  refine ⟨.ref s.heap.objs.size, _, I.laid (t' := s.toks) (o := .lst (cutV xs lo hi)) (fun b ob q => Heap.get?_push_of_some _ q) (Nat.le_refl _) ?_, rfl, q _ (I.hok.fresh (Nat.le_refl _))⟩
  exact ⟨Nat.le_trans (cutV_length xs lo hi) hz, _, 0, (r.drop (HT.sIx xs.length 0 lo)).take (HT.sIx xs.length xs.length hi - HT.sIx xs.length 0 lo), Heap.get?_push_size _ rfl⟩
theorem call_len_seq : CallR X (.builtin "len") (fun xs H Q => ∃ p ys, xs = [.ref p] ∧ (SqL X.K H p ys ∨ SqT X.K H p ys) ∧ Q (.int ys.length) H) := by
  intro pins s σ H xs us Q I r h
  obtain ⟨p, ys, rfl, hq, q⟩ := h
  obtain ⟨u, rfl, rx⟩ := vals1 r
  cases rx
  have hn := line63
  rcases hq with hq | hq
  · obtain ⟨its, r', pl, hz⟩ := I.list hq
    have hlen := r'.length
    exact Calls.call_len_list pl.isList (by simp only [List.size_toArray] <;> omega) ⟨.int ys.length, H, I.tok _, ⟨s.toks + 1, by rw [List.size_toArray, hlen]⟩, q⟩
  · obtain ⟨its, r', pl, hz⟩ := I.tuple hq
    have hlen := r'.length
    exact len_tuple pl (by simp only [List.size_toArray] <;> omega) ⟨.int ys.length, H, I.tok _, ⟨s.toks + 1, by rw [List.size_toArray, hlen]⟩, q⟩
theorem call_len_str : CallR X (.builtin "len") (fun xs H Q => ∃ z, xs = [.str z] ∧ z.length ≤ sizeLine ∧ Q (.int z.length) H) := by
  intro pins s σ H xs us Q I r h
  obtain ⟨z, rfl, hz, q⟩ := h
  obtain ⟨u, rfl, t, rfl⟩ := vals1 r
  have hn := line63
  exact len_str (by omega) ⟨.int z.length, H, I.tok _, ⟨_, rfl⟩, q⟩
theorem call_list_of : CallR X (.type "list") (fun xs H Q => ∃ p ys, xs = [.ref p] ∧ (SqL X.K H p ys ∨ SqT X.K H p ys) ∧ ∀ l, H l = none → Q (.ref l) (upd H l (.lst ys))) := by
  intro pins s σ H xs us Q I r h
  obtain ⟨p, ys, rfl, hq, q⟩ := h
  obtain ⟨u, rfl, rx⟩ := vals1 r
  cases rx
  have fin : ∀ (its : List Value), Vals ys its → ys.length ≤ sizeLine → ∀ (h' : Heap) (c' : Nat), (∀ b o', s.heap.get? b = some o' → h'.get? b = some o') →
      h'.get? s.heap.objs.size = some { cls := .type "list", dict := none, data := .seq its.toArray c', slots := #[] } → EP X pins σ Q (.ref s.heap.objs.size) { s with heap := h' } := fun its r' hz h' c' kp e =>
    ⟨.ref s.heap.objs.size, _, I.laid (t' := s.toks) kp (Nat.le_refl _) (show ObjOk X.prog X.w _ h' _ (.lst ys) from ⟨hz, its, c', r', e⟩), rfl, q _ (I.hok.fresh (Nat.le_refl _))⟩
  rcases hq with hq | hq
  · obtain ⟨its, r', pl, hz⟩ := I.list hq
    have hlen := r'.length
    obtain ⟨o, ho, hc, n, hd⟩ := pl.isList
    exact call_list_seq p (.inl rfl) ho hc hd (fun h' c' kp e => fin its r' hz h' c' kp e) (by simp only [List.size_toArray] <;> omega)
  · obtain ⟨its, r', pl, hz⟩ := I.tuple hq
    have hlen := r'.length
    obtain ⟨o, ho, hc, n, hd⟩ := pl
    exact call_list_seq p (.inr rfl) ho hc hd (fun h' c' kp e => fin its r' hz h' c' kp e) (by simp only [List.size_toArray] <;> omega)
noncomputable def tyV (K : PySem.W.Frag) (T : String) (x : V) (H : Hp) : Prop := match x with
  | .str _ => T = "str"
  | .int _ => T = "int"
  | .ref p => (T = "list" ∧ ∃ xs, SqL K H p xs) ∨ (T = "tuple" ∧ ∃ o, K.lookup p = some o ∧ o.cls = .type "tuple" ∧ o.dict = none) ∨
      (T = "dict" ∧ ((∃ kvs, H p = some (.dK kvs)) ∨ ∃ kvs, H p = some (.dT kvs))) ∨ (T = "set" ∧ ∃ S n, H p = some (.set S n))
  | _ => False
theorem tyV_is {pins : List (Addr × Obj)} {σ : St} {H : Hp} {s : Shared} {T : String} {x : V} {v : Value} (I : Inv X pins σ H s) (r : RelV x v) (ty : tyV X.K T x H) :
    s.TypeIs v T ∧ ∀ a, v = .ref a → ∃ ob, s.heap.get? a = some ob ∧ ob.dict = none := by
  cases x with
  | str z =>
    obtain ⟨t, rfl⟩ := r
    cases (show T = "str" from ty)
    exact ⟨typeIs_str s z t, fun _ e => nomatch e⟩
  | int i =>
    obtain ⟨t, rfl⟩ := r
    cases (show T = "int" from ty)
    exact ⟨typeIs_int s i t, fun _ e => nomatch e⟩
  | ref p =>
    cases r
    rcases ty with ⟨rfl, xs, hq⟩ | ⟨rfl, o, hk, hc, hd⟩ | ⟨rfl, hk⟩ | ⟨rfl, S, n, hk⟩
    · obtain ⟨its, _, pl, _⟩ := I.list hq
      refine ⟨pl.isList.typeIs, fun a e => ?_⟩
      cases e
      obtain ⟨o, n, e, c, hd, _⟩ := pl
      exact ⟨o, e, hd⟩
    · refine ⟨⟨o, I.kIn p o hk, hc⟩, fun a e => ?_⟩
      cases e
      exact ⟨o, I.kIn _ o hk, hd⟩
    · have z : ∃ o, s.heap.get? p = some o ∧ o.ExactDict := by
        rcases hk with ⟨kvs, hk⟩ | ⟨kvs, hk⟩
        · obtain ⟨_, _, _, _, o, _, _, e, ex, _⟩ := I.hok p _ hk
          exact ⟨o, e, ex⟩
        · obtain ⟨_, _, _, _, o, _, _, e, ex, _⟩ := I.hok p _ hk
          exact ⟨o, e, ex⟩
      obtain ⟨o, e, ex⟩ := z
      refine ⟨⟨o, e, ex.1⟩, fun a e2 => ?_⟩
      cases e2
      exact ⟨o, e, ex.2.1⟩
    · obtain ⟨o, _, _, _, e, ex, _⟩ := I.hok p _ hk
      refine ⟨⟨o, e, ex.1⟩, fun a e2 => ?_⟩
      cases e2
      exact ⟨o, e, ex.2.1⟩
  | _ => exact False.elim ty
noncomputable def tBM0 (K : PySem.W.Frag) (T : String) (r : V → List V → Hp → VK → Prop) (to : TE) : TE := fun σ H Q => to σ H fun x H1 => tyV K T x H1 ∧ r x [] H1 Q
noncomputable def tBM (K : PySem.W.Frag) (T : String) (r : V → List V → Hp → VK → Prop) (to : TE) (t : TA) : TE := fun σ H Q => to σ H fun x H1 => tyV K T x H1 ∧ t σ H1 fun xs H2 => r x xs H2 Q
variable {o e : Expr} {es : List Expr} {to : TE} {t : TA} {name : Str} {apos cpos : Pos} {T id : String} {r : V → List V → Hp → VK → Prop}
theorem pe_bm0 (pa : PlainAttrs T) (slot : Slot T name id) (hty : typeOf (.builtin id) = pure (.type "method_descriptor")) (hm : MtR X id r) (ho : PE X o to)
    (hbase : attributeBase o name X.env (eval o X.env) = eval o X.env := by rfl) (hline : (apos.endLine == cpos.line) = true := by rfl) : PE X (.Call (.Attribute o name apos) [] [] cpos) (tBM0 X.K T r to) := by
  intro pins s σ H Q I h
  refine wpAny_Call_method0_late hbase hline (thn (ho pins s σ H _ I h) fun v s1 ⟨x, H1, I1, r1, ty, q1⟩ => ?_)
  obtain ⟨h1, h2⟩ := tyV_is I1 r1 ty
  exact ⟨T, id, pa, slot, hty, h1, h2, Calls.callWith_builtin rfl (PySem.evalArgs_none (hm pins s1 σ H1 x [] v [] Q I1 r1 .nil q1))⟩
theorem pe_bm (pa : PlainAttrs T) (slot : Slot T name id) (hty : typeOf (.builtin id) = pure (.type "method_descriptor")) (hm : MtR X id r) (ho : PE X o to) (ha : PA X (e :: es) t)
    (hbase : attributeBase o name X.env (eval o X.env) = eval o X.env := by rfl)
    (hfew : ((backTo cpos (starEach (e :: es) X.env)).all (fun x => !x.1) && (backToKw cpos (keywordEach [] X.env)).all (fun x => x.1.isSome)
      && decide ((e :: es).length + ([] : List Keyword).length + (if ([] : List Keyword).isEmpty then 0 else 1) < 30)) = true := by rfl)
    (hline : (apos.endLine == cpos.line) = true := by rfl) (hs : starEach (e :: es) X.env = (false, eval e X.env) :: starEach es X.env := by rfl) (hplain : (backTo cpos (starEach es X.env)).any (·.1) = false := by rfl) :
    PE X (.Call (.Attribute o name apos) (e :: es) [] cpos) (tBM X.K T r to t) := by
  intro pins s σ H Q I h
  refine wpAny_Call_method_late hbase hfew hline rfl (thn (ho pins s σ H _ I h) fun v s1 ⟨x, H1, I1, r1, ty, q1⟩ => ?_)
  obtain ⟨h1, h2⟩ := tyV_is I1 r1 ty
  refine ⟨T, id, pa, slot, hty, h1, h2, ?_⟩
  have hA := ha cpos pins s1 σ H1 _ I1 q1
  rw [hs] at hA ⊢
  refine Calls.callWith_builtin (by show (false || (backTo cpos (starEach es X.env)).any (·.1)) = false; rw [hplain] <;> rfl) (Calls.evalArgs_plain ?_)
  exact thn hA fun us s2 ⟨vs, H2, I2, r2, q2⟩ => hm pins s2 σ H2 x vs v us Q I2 r1 r2 q2
/- xs.append(e), list.index on a module's tuple .. are MtR facts of 06m -/
end
end L2
namespace L2
open PySem PySem.Spec PyProof.Rows
noncomputable def MtM (X : Cx) (id : String) (r : V → List V → Hp → VK → Prop) : Prop :=
  ∀ (pins : List (Addr × Obj)) (s : Shared) (σ : St) (H : Hp) (x : V) (xs : List V) (v : Value) (us : List Value) (Q : VK), Inv X pins σ H s → RelV x v → Vals xs us → r x xs H Q →
    wpAny (model X.prog X.w) X.A (call (.builtin id) (v :: us)) (EP X pins σ Q) X.xe s
theorem Vals.one : ∀ {x : V} {us : List Value}, Vals [x] us → ∃ u, us = [u] ∧ RelV x u := by
  intro x us h
  cases h with | cons r t =>
  cases t
  exact ⟨_, rfl, r⟩
theorem Vals.zero : ∀ {us : List Value}, Vals [] us → us = []
  | _, .nil => rfl
theorem Vals.dropLast {xs : List V} {us : List Value} (h : Vals xs us) : Vals xs.dropLast us.dropLast := by
  induction h with
  | nil => exact .nil
  | cons r t ih =>
    cases t with
    | nil => exact .nil
    | cons q t' => exact .cons r ih
theorem erase_last {α : Type} (l : List α) : l.eraseIdx (l.length - 1) = l.dropLast := by
  induction l with
  | nil => rfl
  | cons a r ih =>
    cases r with
    | nil => rfl
    | cons b r =>
      have e : (a :: b :: r).length - 1 = ((b :: r).length - 1) + 1 := by
        have h1 : (a :: b :: r).length = r.length + 2 := rfl
        have h2 : (b :: r).length = r.length + 1 := rfl
        omega
      rw [e, List.eraseIdx_cons_succ, ih]
      all_goals rfl
section
variable {X : Cx} {pins : List (Addr × Obj)} {σ : St} {H : Hp} {s : Shared} {l b : Addr} {xs ys zs : List V}
theorem Inv.lset {its its' : List Value} {n : Nat} {f : Array Value → Array Value} {t' : Nat} (I : Inv X pins σ H s) (hH : H l = some (.lst xs))
    (e : s.heap.get? l = some { cls := .type "list", data := .seq its.toArray n }) (hf : f its.toArray = its'.toArray) (hv : Vals ys its') (hz : ys.length ≤ sizeLine) :
    Inv X pins σ (upd H l (.lst ys)) { s with heap := s.heap.update l (Obj.mapSeq f), toks := t' } := by
  have q := PySem.IsL.update e f
  rw [hf] at q
  refine I.write (x := l) (e := l) (by rw [hH]; exact trivial) (.inl rfl) (fun b' u hb hu => (Heap.get?_update_other s.heap (Obj.mapSeq f) (Ne.symm hb)).trans hu) ⟨_, q⟩ ?_
  exact ⟨hz, its', _, hv, q⟩
theorem Inv.lnew {its : List Value} {t' : Nat} (I : Inv X pins σ H s) (hv : Vals ys its) (hz : ys.length ≤ sizeLine) :
    Inv X pins σ (upd H s.heap.objs.size (.lst ys)) { s with heap := s.heap.push { cls := .type "list", data := .seq its.toArray }, toks := t' } :=
  I.laid (fun _ _ q => Heap.get?_push_of_some _ q) (Nat.le_refl _) ⟨hz, its, 0, hv, Heap.get?_push_size _ rfl⟩
theorem Inv.fresh (I : Inv X pins σ H s) : H s.heap.objs.size = none := I.hok.fresh (Nat.le_refl _)
theorem Inv.lstM (I : Inv X pins σ H s) (hH : H l = some (.lst xs)) : xs.length ≤ sizeLine ∧ ∃ (its : List Value) (n : Nat), Vals xs its ∧ xs.length = its.length ∧ s.heap.get? l = some { cls := .type "list", data := .seq its.toArray n } := by
  obtain ⟨z, its, n, r, e⟩ := I.hok l _ hH
  exact ⟨z, its, n, r, r.length, e⟩
theorem notLongL {n : Nat} (h : n ≤ sizeLine) : Builtin.List.listTooLong n = false := by
  unfold Builtin.List.listTooLong
  exact decide_eq_false (by omega)
end
section
variable {X : Cx}
noncomputable def rAppend : V → List V → Hp → VK → Prop := fun x vs H Q => ∃ l xs y, x = .ref l ∧ vs = [y] ∧ H l = some (.lst xs) ∧ xs.length < sizeLine ∧ Q .non (upd H l (.lst (xs ++ [y])))
theorem mt_append : MtM X "list.append" rAppend := by
  intro pins s σ H x vs v us Q I rx rv h
  obtain ⟨l, xs, y, rfl, rfl, hH, hz, q⟩ := h
  cases rx
  obtain ⟨u, rfl, ru⟩ := rv.one
  obtain ⟨z, its, n, r, hl, e⟩ := I.lstM hH
  refine call_meets F.slot_list_append ⟨_, e, rfl⟩ F.entry_list_append (F.args_list_append_2 _ _) (PySem.list_append l its.toArray n u (by rw [List.size_toArray]; omega)) ⟨e, ?_⟩
  refine ⟨.non, _, I.lset (its' := its ++ [u]) hH e (by simp) (r.append (.cons ru .nil)) ?_, rfl, q⟩
  rw [List.length_append, List.length_singleton]
  omega
noncomputable def rExtend : V → List V → Hp → VK → Prop := fun x vs H Q => ∃ l b xs zs, x = .ref l ∧ vs = [.ref b] ∧ H l = some (.lst xs) ∧ H b = some (.lst zs) ∧ xs.length + zs.length ≤ sizeLine ∧ Q .non (upd H l (.lst (xs ++ zs)))
theorem mt_extend : MtM X "list.extend" rExtend := by
  intro pins s σ H x vs v us Q I rx rv h
  obtain ⟨l, b, xs, zs, rfl, rfl, hH, hB, hz, q⟩ := h
  cases rx
  obtain ⟨u, rfl, ru⟩ := rv.one
  cases ru
  obtain ⟨z, its, n, r, hl, e⟩ := I.lstM hH
  obtain ⟨z2, its2, n2, r2, hl2, e2⟩ := I.lstM hB
  have hsz : its.toArray.size + its2.toArray.size ≤ sizeLine := by rw [List.size_toArray, List.size_toArray]; omega
  have hlong : ¬ (!its.toArray.isEmpty && Builtin.List.listTooLong (its.toArray.size + its2.toArray.size)) = true := by
    rw [notLongL hsz, Bool.and_false]
    exact Bool.false_ne_true
  refine call_meets F.slot_list_extend ⟨_, e, rfl⟩ F.entry_list_extend (F.args_list_extend_2 _ _)
    (AutoSeq1.list_extend_list_list_0 l its.toArray n b its2.toArray n2 hlong (by rw [List.size_toArray]; omega) (by omega)) ⟨e, e2, ?_⟩
  refine ⟨.non, _, I.lset (its' := its ++ its2) hH e (by simp) (r.append r2) ?_, rfl, q⟩
  rw [List.length_append]
  omega
noncomputable def rPop : V → List V → Hp → VK → Prop := fun x vs H Q => ∃ l xs y, x = .ref l ∧ vs = [] ∧ H l = some (.lst xs) ∧ xs[xs.length - 1]? = some y ∧ Q y (upd H l (.lst xs.dropLast))
theorem mt_pop : MtM X "list.pop" rPop := by
  intro pins s σ H x vs v us Q I rx rv h
  obtain ⟨l, xs, y, rfl, rfl, hH, hy, q⟩ := h
  cases rx
  have hus := rv.zero
  subst hus
  obtain ⟨z, its, n, r, hl, e⟩ := I.lstM hH
  obtain ⟨u, hu, ru⟩ := r.get hy
  have hy' : its.toArray[its.toArray.size - 1]? = some u := by
    show its.toArray[its.length - 1]? = some u
    rw [← Array.getElem?_toList, ← hl]
    exact hu
  refine call_meets F.slot_list_pop ⟨_, e, rfl⟩ F.entry_list_pop (F.args_list_pop_1 _) (MeetsSeq.list_pop_last l its.toArray n u hy' (by rw [List.size_toArray]; omega)) ⟨e, ?_⟩
  refine ⟨y, _, I.lset (its' := its.dropLast) hH e ?_ r.dropLast ?_, ru, q⟩
  · show its.toArray.eraseIdxIfInBounds (its.toArray.size - 1) = its.dropLast.toArray
    rw [List.size_toArray, List.eraseIdxIfInBounds_toArray, erase_last]
  · rw [List.length_dropLast]
    omega
noncomputable def rCat : R2 := fun x y H Q => ∃ l b xs zs, x = .ref l ∧ y = .ref b ∧ H l = some (.lst xs) ∧ H b = some (.lst zs) ∧ xs.length + zs.length ≤ sizeLine ∧ ∀ p, H p = none → Q (.ref p) (upd H p (.lst (xs ++ zs)))
theorem op_cat : OpR X (binaryOp .Add) rCat := by
  intro pins s σ H x y v u Q I rx ry h
  obtain ⟨l, b, xs, zs, rfl, rfl, hH, hB, hz, q⟩ := h
  cases rx
  cases ry
  obtain ⟨z, its, n, r, hl, e⟩ := I.lstM hH
  obtain ⟨z2, its2, n2, r2, hl2, e2⟩ := I.lstM hB
  refine PySem.P.add_list e e2 ?_ (by rw [List.size_toArray, List.size_toArray]; omega)
  have ea : its.toArray ++ its2.toArray = (its ++ its2).toArray := by simp
  rw [ea]
  exact ⟨.ref _, _, I.lnew (t' := s.toks) (r.append r2) (by rw [List.length_append]; omega), rfl, q _ I.fresh⟩
end
section
variable {prog : Program} {w : World} {A : Around} {E : Value → Shared → Prop} {s : Shared}
theorem bounds_run {a c n : Nat} (hac : a ≤ c) (hc : c ≤ n) : sliceBounds (some (a : Int)) (some (c : Int)) none n = ((a : Int), (c : Int), 1) := by
  simp only [sliceBounds, Option.getD_none]
  have h1 : ¬ ((a : Int) < 0) := by omega
  have h2 : ¬ ((c : Int) < 0) := by omega
  simp only [h1, h2, if_false, show (1 : Int) > 0 by decide, if_true]
  congr 1
  · omega
  · congr 1; omega
set_option maxRecDepth 100000 in
theorem setItem_slice {l b sl : Addr} {items new : Array Value} {n n2 : Nat} {vl vu : Value} {a c : Nat} {Q : Unit → Shared → Prop}
    (e : s.heap.get? l = some { cls := .type "list", data := .seq items n }) (e2 : s.heap.get? b = some { cls := .type "list", data := .seq new n2 }) (hne : l ≠ b)
    (hs : s.heap.IsSliceOf sl vl vu .none) (pl : IsPart vl (some (a : Int))) (pu : IsPart vu (some (c : Int))) (hac : a ≤ c) (hc : c ≤ items.size)
    (hsz : items.size + new.size ≤ sizeLine) (h : Q () { s with heap := s.heap.update l (Obj.mapSeq fun xs => xs.extract 0 a ++ new ++ xs.extract c xs.size) }) :
    wpAny (model prog w) A (setItem (.ref l) (.ref sl) (.ref b)) Q E s := by
  have hl : s.heap.IsList l items := PySem.IsL.isList e
  have hb : s.heap.IsList b new := PySem.IsL.isList e2
  obtain ⟨os, hos, hcs, hds⟩ := id hs
  have hTs : s.TypeIs (.ref sl) "slice" := ⟨os, hos, hcs⟩
  have hstep : ¬ ((rawPart none == rawInt 0) = true) := Bool.false_ne_true
  have hsame : Builtin.List.listSameRef (.ref l) (.ref b) = false := by
    unfold Builtin.List.listSameRef
    exact beq_eq_false_iff_ne.mpr hne
  have hmax : (max (a : Int) (c : Int)).toNat = c := by omega
  have hz' : ((fun xs : Array Value => xs.extract 0 a ++ new ++ xs.extract c xs.size) items).size ≤ sizeLine + 1 := by
    simp only [Array.size_append, Array.size_extract]
    omega
  unfold setItem
  try with_reducible refine wpAny_holding ?_
  first | refine wpAny_bind (wpAny_pure ?_) | skip
  refine wpAny_bind (wpAny_sequenceKey hl.typeIs (by decide) ?_)
  refine wpAny_bind (wpAny_callSpecial?_slot (name := Str.ofString "__setitem__") hl.typeIs slot_list_setitem
    (wpAny_call_entry slot_list_setitem hl.typeIs entry_list_setitem ?_ (args_list_setitem _ _ _)))
  show wpAny _ _ (Builtin.List.listSubscript? (.ref sl) >>= _) _ _ s
  refine wpAny_bind ?_
  unfold Builtin.List.listSubscript?
  refine wpAny_bind (wpAny_specialOf hTs slice_no_index ?_)
  simp only [Option.isNone_none, if_true]
  refine wpAny_pure ?_
  show wpAny _ _ (typeOf (.ref sl) >>= _) _ _ s
  refine wpAny_bind (wpAny_typeOf hTs ?_)
  first
    | rw [if_neg (by decide)]
    | refine PySem.W.KFB.if_not (by decide) ?_
  rw [listSliceParts_eq]
  refine wpAny_bind (wpAny_bind (wpAny_field hos hds (x := .none) rfl (wpAny_bind (wpAny_listPart .none ?_))))
  rw [if_neg hstep]
  refine wpAny_bind (wpAny_field hos hds (x := vl) rfl (wpAny_bind (wpAny_listPart pl ?_)))
  refine wpAny_bind (wpAny_field hos hds (x := vu) rfl (wpAny_bind (wpAny_listPart pu (wpAny_pure ?_))))
  first
    | simp only [hsame, Bool.false_eq_true, if_false]
    | refine PySem.W.KFB.if_not hsame ?_
    | (dsimp only
       rw [if_neg (by rw [hsame]; exact Bool.false_ne_true)])
  refine wpAny_bind (m := Builtin.List.listAllItems (.ref b) "must assign iterable to extended slice") ?_
  unfold Builtin.List.listAllItems
  refine wpAny_bind (wpAny_typeOf hb.typeIs ?_)
  first
    | refine PySem.W.KFB.if_so (by decide) ?_
    | rw [if_pos (by decide)]
    | simp only [beq_self_eq_true, Bool.true_or, if_true]
  unfold Builtin.List.listItems
  refine wpAny_bind (wpAny_seqItems e2 rfl (wpAny_pure ?_))
  refine wpAny_bind (wpAny_bind (wpAny_seqItems e rfl (wpAny_pure ?_)))
  refine wpAny_bind (wpAny_of_eq ((sliceIndices_raw (some (a : Int)) (some (c : Int)) none items.size (by simp)).trans (congrArg (pure : Int × Int × Int → Sem (Int × Int × Int)) (bounds_run hac hc))) ?_)
  show wpAny _ _ (if ((1 : Int) == 1) = true then _ else _) _ _ s
  rw [if_pos (by decide)]
  refine wpAny_bind (wpAny_rule ?_)
  first
    | simp only [notLongL hsz, Bool.false_eq_true, if_false]
    | refine PySem.W.KFB.if_not (notLongL hsz) ?_
  first | refine wpAny_bind (wpAny_pure ?_) | skip
  show wpAny _ _ (updateSeq l (fun xs => xs.extract 0 ((a : Int)).toNat ++ new ++ xs.extract (max (a : Int) (c : Int)).toNat xs.size) >>= _) _ _ s
  rw [hmax, Int.toNat_natCast]
  refine wpAny_bind (wpAny_updateSeq (hz := Nat.le_trans (Nat.le_add_right _ _) hsz) (_hz' := hz') e rfl ?_)
  refine wpAny_bind (wpAny_letGo ?_)
  first
    | exact wpAny_bind (wpAny_pure (wpAny_pure ⟨.none, rfl, wpAny_pure h⟩))
    | exact wpAny_pure ⟨.none, rfl, wpAny_pure h⟩
end
section
variable {X : Cx}
end
end L2
namespace Att
open PySem PySem.W PySem.Calls PyProof.Rows
theorem ints_of_wellAll {P : Params} {h : Heap} : ∀ (ns : List Int) (vs : List Value), WellAll P h vs (ns.map WData.int) → IntsAre vs ns := by
  intro ns
  induction ns with
  | nil =>
    intro vs w
    rw [List.map_nil] at w
    cases w
    exact .nil
  | cons n ns ih =>
    intro vs w
    rw [List.map_cons] at w
    cases w with
    | cons a b =>
      cases a
      exact .cons _ _ (ih _ b)
theorem script_of {l : OpenLaw} {n : Nat} (hn : l.most = some n) {P : Params} {h : Heap} {args : List WData} {vals : List Value}
    (hpre : l.row.toRowW.claim.pre args = true) (hwl : WellAll P h vals args) :
    ∃ a vs ns, vals = [Value.ref a] ∧ args = [WData.list (ns.map WData.int)] ∧ h.get? a = some { cls := .type "list", data := .seq vs.toArray } ∧ IntsAre vs ns ∧ ns.length ≤ n := by
  have hsh : WShape.hasAll [] args [.list .int] = true := (pre_splitW hpre).1
  have hc : l.pre.holds [] { args := args } = true := (pre_splitW hpre).2
  obtain ⟨d, r, rfl, h1, h2⟩ := hasAllW_cons hsh
  obtain rfl := hasAllW_nil h2
  obtain ⟨xs, rfl, h3⟩ := hasW_list h1
  obtain ⟨ns, rfl⟩ := items_int h3
  have hlen : ns.length ≤ n := by
    unfold OpenLaw.pre at hc
    have h4 : (WTm.not (.lt (.lit (.int (n : Int))) (.len (.arg 0)))).holds [] { args := [.list (ns.map .int)] } = true := by
      have h4 := (holds_andW hc).1
      rw [hn] at h4
      exact h4
    have h5 := condW_of h4 (w_not (w_lt w_lit (w_len_list (w_arg rfl))))
    rw [List.length_map] at h5
    refine Nat.le_of_not_lt fun q => ?_
    have q' : (n : Int) < ((ns.length : Nat) : Int) := by omega
    first
      | (rw [decide_eq_true q'] at h5; exact absurd h5 (by decide))
      | (simp at h5; omega)
  cases hwl with
  | cons w1 w2 =>
    cases w2
    cases w1 with
    | list ho hall => exact ⟨_, _, ns, rfl, rfl, ho, ints_of_wellAll ns _ hall, hlen⟩
theorem post_true (l : OpenLaw) (args : List WData) : l.row.toRowW.claim.post args (.bool true) args = true :=
  postW_of (r := l.row.toRowW) (X := (true == true))
    (show WShape.has [] (.bool true) .bool = true by first | rfl | decide | simp [WShape.has, WShape.arms, WShape.armsAll])
    (show (WTm.eq .res (.lit (.bool true))).value [] { args := args, res := some (.bool true), after := args } = some (.bool (true == true)) from w_eq_bool (w_res rfl) w_lit) rfl
theorem attach_call {l : OpenLaw} {n : Nat} {q : Program} {loose : List Str} {XP : (Str → Option Value) → Heap → Prop} {YP : World → Heap → Prop} {d : DefRec}
    (hn : l.most = some n) (hdf : d.params.defaults = [])
    (call : ∀ (w : World) (s₀ s₁ : Shared) (mg mb : Str → Option Value) (fa : Addr) (o : Obj) (pm cd doc : Value) (a : Addr) (vs : List Value) (ns : List Int),
      Ground q loose [] XP w s₀ mg mb s₁.heap → YP w s₁.heap →
      s₁.heap.get? fa = some o → o.data = .func (docDef d.name d.params d.body d.scope pm cd doc) → s₁.heap.CodeRec cd d.name → mg d.name = some (.ref fa) →
      s₁.heap.get? a = some { cls := .type "list", data := .seq vs.toArray } → IntsAre vs ns → ns.length ≤ n → s₁.gens = #[] →
      codeAny (model l.prog w) callerA (.call (.ref fa) ⟨[.ref a], []⟩) (fun r s' => r = .ok (.ret (.bool true)) ∧ OldK s₁.heap s'.heap ∧ s'.os = s₁.os ∧ AllBare s'.gens) s₁) :
    WalkO q loose XP YP l.row.toRowW d [] (fun f vs => PySem.call f vs) := by
  intro w s₀ s₁ mg mb G Y fa o pm cd doc dV kV ho hd hcd hD hmg hg args vals as hpre hlay hrd hwl hlo
  obtain rfl : dV = .none := Dflts.none hD hdf
  obtain rfl : kV = .none := Dflts.noKw hD
  obtain ⟨a, vs, ns, rfl, rfl, hobj, hints, hlen⟩ := script_of hn hpre hwl
  refine enter_call (codeAny_mono (call w s₀ s₁ mg mb fa o pm cd doc a vs ns G Y ho (fd_plain hd) hcd hmg hobj hints hlen hg) fun r s' hq => ?_)
  obtain ⟨rfl, h2, h3, h4⟩ := hq
  exact ⟨.inl ⟨.bool true, .bool true, [], rfl, fun _ => rfl, .bool true, post_true l _, fun _ => ⟨List.Pairwise.nil, fun _ hm => (nomatch hm)⟩⟩, h2, h3, h4⟩
section
variable {prog : Program} {w : World} {A : Around} {E : Value → Shared → Prop} {s : Shared} {K : Frag}
end
end Att
namespace L2
open PySem PySem.Spec PyProof.Rows
theorem vals_ints : ∀ {vs : List Value} {ns : List Int}, IntsAre vs ns → Vals (ns.map V.int) vs := by
  intro vs ns h
  induction h with
  | nil => exact .nil
  | cons n t h ih => exact .cons ⟨t, rfl⟩ ih
noncomputable def Only (H : Hp) : Prop := ∀ b, H b = none ∨ ∃ o xs, H b = some (.frz o (.lst xs))
theorem law_call {P : Program} {w : World} {K : PySem.W.Frag} {mg mb : Str → Option Value} {CX : CXT} {k : Nat} {fa a : Addr} {fd : FuncData} {x : Str} {sp : Sp} {s₁ : Shared} {vs : List Value} {ns : List Int}
    (KX : K.In s₁.heap) (hns : s₁.heap.Ns mainGlobals mg) (hb : s₁.heap.Ns builtinsNs mb) (hbb : ∀ x : Str, x ≠ "__name__" → mb x = bootBuiltins x) (hlim : s₁.heap.NoLimit) (hg : s₁.gens = #[])
    (ha : s₁.heap.get? a = some { cls := .type "list", data := .seq vs.toArray }) (hi : IntsAre vs ns) (hl : ns.length ≤ sizeLine) (hr : Room k callerA)
    (F : ∀ base : Heap, K.In base → base.Ns mainGlobals mg → FnOk P w K mg base CX k fa fd [x] sp) (hbind : ∀ (s : Shared) (u : Value), BindsTo s fd ⟨[u], []⟩ [(x, u)])
    (hsp : ∀ H : Hp, Only H → SqL K H a (ns.map V.int) → sp [.ref a] H (fun v _ => v = .bl true) fun _ _ _ => False)
    (hCX : ∀ H e s', CX [] H s₁ (fun _ _ _ => False) e s' → False) :
    codeAny (model P w) callerA (.call (.ref fa) ⟨[.ref a], []⟩) (fun r s' => r = .ok (.ret (.bool true)) ∧ OldK s₁.heap s'.heap ∧ s'.os = s₁.os ∧ AllBare s'.gens) s₁ := by
  have rv := vals_ints hi
  have lenV := hi.length
  have core : ∀ H : Hp, Only H → SqL K H a (ns.map V.int) → HOk P w H s₁.heap → (∀ b, H b ≠ none → b = a) → (H a ≠ none → K.lookup a = none) →
      codeAny (model P w) callerA (.call (.ref fa) ⟨[.ref a], []⟩) (fun r s' => r = .ok (.ret (.bool true)) ∧ OldK s₁.heap s'.heap ∧ s'.os = s₁.os ∧ AllBare s'.gens) s₁ := by
    intro H hO hS hok hA hK
    have base_of : ∀ {b : Addr} {o : Obj}, s₁.heap.get? b = some o → H b = none → (hidT s₁.heap H).get? b = some o := fun e n => hidT_get e n
    have noA : ∀ {b : Addr} {o : Obj} {es : Array DictEntry} {ep : Nat}, s₁.heap.get? b = some o → o.data = .dict es ep → H b = none := fun {b o es ep} e d => by
      cases q : H b with
      | none => rfl
      | some u =>
        have e' : b = a := hA b (by rw [q]; simp)
        subst e'
        rw [ha] at e; cases e
        have d' : Data.seq vs.toArray _ = Data.dict es ep := d
        cases d'
    have nsK : ∀ {b : Addr} {m : Str → Option Value}, s₁.heap.Ns b m → (hidT s₁.heap H).Ns b m := fun {b m} ⟨o, es, ep, e, d, r⟩ => ⟨o, es, ep, base_of e (noA e d), d, r⟩
    have hKb : K.In (hidT s₁.heap H) := fun b o e => base_of (KX b o e) (by
      cases q : H b with
      | none => rfl
      | some u =>
        have e' : b = a := hA b (by rw [q]; simp)
        subst e'
        rw [hK (by rw [q]; simp)] at e; cases e)
    have hM : Mod K mg (hidT s₁.heap H) := ⟨hKb, nsK hns, ⟨mb, nsK hb, hbb⟩, let ⟨mc, h1, h2⟩ := hlim; ⟨mc, nsK h1, h2⟩⟩
    have e0 : Env0 P w K mg (hidT s₁.heap H) callerA [] s₁ H := ⟨rfl, hM, fun b o e => of_hidT e, Nat.le_of_eq (hidT_size _ _), trivial, fun b hb => absurd (show b ∈ ([] : List Addr) from hb) (by simp), hok, .of_eq hg⟩
    refine codeAny_mono ((F _ hKb (nsK hns)).run callerA [] s₁ H ⟨[.ref a], []⟩ [.ref a] [.ref a] _ _ hr e0 (hbind s₁ (.ref a)) (.cons rfl .nil) (hsp H hO hS)) fun r s' h => ?_
    cases r with
    | error e => exact (hCX H e s' h).elim
    | ok fl =>
      cases fl with
      | next => exact False.elim h
      | brk => exact False.elim h
      | cont => exact False.elim h
      | ret u =>
        obtain ⟨v, H', os, bare, un, hok', r', q⟩ := h
        have q' : v = .bl true := q
        subst q'
        obtain rfl : u = Value.bool true := r'
        refine ⟨rfl, OldK.of_keep fun b o e => ?_, os, bare⟩
        cases q : H b with
        | none => exact un.keep b o e q (by intro z; exact absurd (show b ∈ ([] : List Addr) from z) (by simp)) (by simp)
        | some u =>
          rcases hO b with z | ⟨ob, xs, z⟩
          · rw [q] at z; cases z
          · have z2 := un.frzs b ob _ z
            obtain ⟨e1, _⟩ := hok b _ z
            obtain ⟨e2, _⟩ := hok' b _ z2
            rw [e] at e1; cases e1
            exact e2
  cases hk : K.lookup a with
  | some o =>
    have e := KX a o hk
    rw [ha] at e
    cases e
    refine core (fun _ => none) (fun _ => .inl rfl) (.inr ⟨_, vs.toArray, _, hk, rfl, rfl, rfl, by rw [List.size_toArray, lenV]; exact hl, by simpa using rv⟩) (fun b u z => by have z' : (none : Option HO) = some u := z; cases z') (fun b z => absurd rfl z) fun z => absurd rfl z
  | none =>
    refine core (fun b => if b = a then some (.frz { cls := .type "list", data := .seq vs.toArray } (.lst (ns.map V.int))) else none) (fun b => ?_) (.inl (.inr ⟨{ cls := .type "list", data := .seq vs.toArray }, if_pos rfl⟩)) (fun b u z => ?_) (fun b z => ?_) fun _ => hk
    · by_cases hb : b = a
      · exact .inr ⟨_, _, if_pos hb⟩
      · exact .inl (if_neg hb)
    · by_cases hb : b = a
      · have z' := (if_pos hb).symm.trans z
        cases z'
        subst hb
        exact ⟨ha, by rw [List.length_map]; exact hl, vs, _, rv, ha⟩
      · have z' := (if_neg hb).symm.trans z
        cases z'
    · by_cases hb : b = a
      · exact hb
      · exact absurd (if_neg hb) z
end L2
namespace L2
open PySem PySem.Spec PyProof.Rows
theorem walk_of {l : PySem.W.OpenLaw} {n k : Nat} {q : Program} {loose : List Str} {XP : (Str → Option Value) → Heap → Prop} {YP : World → Heap → Prop} {d : DefRec} {K : Params → PySem.W.Frag} {CX : World → CXT} {sp : World → Sp} {x : Str}
    (hn : l.most = some n) (hn2 : n ≤ sizeLine) (hdf : d.params.defaults = []) (hr : Room k callerA)
    (hY : ∀ (w : World) (h : Heap), YP w h → (K w.params).In h)
    (F : ∀ (w : World) (mg : Str → Option Value) (fa : Addr) (h : Heap), (K w.params).In h → h.Ns mainGlobals mg → mg d.name = some (.ref fa) →
      ∃ fd : FuncData, (∀ (s : Shared) (u : Value), BindsTo s fd ⟨[u], []⟩ [(x, u)]) ∧
        ∀ base : Heap, (K w.params).In base → base.Ns mainGlobals mg → FnOk l.prog w (K w.params) mg base (CX w) k fa fd [x] (sp w))
    (hsp : ∀ (w : World) (H : Hp) (a : Addr) (ns : List Int), ns.length ≤ n → Only H → SqL (K w.params) H a (ns.map V.int) → sp w [.ref a] H (fun v _ => v = .bl true) fun _ _ _ => False)
    (hCX : ∀ (w : World) (H : Hp) (s : Shared) (e : Value) (s' : Shared), CX w [] H s (fun _ _ _ => False) e s' → False) :
    PySem.W.WalkO q loose XP YP l.row.toRowW d [] (fun f vs => PySem.call f vs) := by
  refine Att.attach_call hn hdf fun w s₀ s₁ mg mb fa o pm cd doc a vs ns G Y ho hd hcd hmg hobj hints hlen hg => ?_
  have KX := hY w _ Y
  obtain ⟨fd, hb, hF⟩ := F w mg fa _ KX G.T.g hmg
  exact law_call KX G.T.g G.T.b G.T.builtins G.T.nolimit hg hobj hints (Nat.le_trans hlen hn2) hr hF hb (fun H hO hS => hsp w H a ns hlen hO hS) fun H e s' => hCX w H s₁ e s'
end L2
/- THE LAST THEOREM (shape; LID, My.* are yours):
   My.Adr: a structure of the addresses that your layer names (classes, functions); My.Txt K t: a structure (Prop) of the equations over K;
   My.txt_mk : {K} {implicit addresses ..} (e1 : nsIn K mainGlobals "law" = some (some (.ref f))) (e2 : K.lookup f = some ⟨oc, od, .func (fnOf "law" "law" params body scope dV kV doc pm an cdv ct), sl⟩) (e3 : codeIn K cdv "law" = true) .. : ∃ t, My.Txt K t
set_option maxRecDepth 100000 in
set_option maxHeartbeats 0 in
theorem PySem.Challenge.cw_LID_holds : PySem.Challenge.rw_LID.Holds := by
  w_on; o_law; k_head; (case hw => w_witness2)
  k_fill
  refine L2.walk_of (l := PySem.Challenge.rw_LID) (n := 63) (k := 40) (x := "script") (CX := fun w => ..) (sp := fun _ => My.sp_law) rfl (by decide) rfl ⟨rfl, by decide, by decide⟩ (fun w h Y => PySem.W.kIn_of Y) ?F ?S ?C
  case F =>
    intro w mg fa h KX G hmg
    have T : ∃ t, My.Txt (L2.KOf KX) t := by
      dsimp only [L2.KOf]                          -- K must stand as «<heap const> w.params» for k_is
      refine' My.txt_mk ?e1 ?e2 ?e3 ..
      (case e1 => PySem.W.k_is)                    -- in the order: a name -> its address -> its object -> its parts
      (case e2 => PySem.W.k_is)
      ..
    obtain ⟨t, T⟩ := T
    have e0 := hmg.symm.trans (PySem.W.mg_of KX G T.law)
    cases e0                                       -- fa is the law's own address
    exact ⟨_, fun s u => .of_eq rfl, fun base kb nb => My.law_fn T kb nb⟩     -- if «.of_eq rfl» comes too early: refine' ⟨_, ?b, fun base kb nb => My.law_fn T kb nb⟩; exact fun s u => .of_eq rfl
  case S => exact fun w H a ns hl hO hS => ..
  case C => exact ..
(the tactic k_is has no namespace: write k_is) -/
namespace L2
open PySem PySem.Spec PyProof.Rows
noncomputable def inClass (s : Stmt) (j : Nat) : Stmt := match s with
  | .ClassDef _ _ _ body _ _ _ _ _ _ _ => body.getD j (.Pass ⟨0, 0, 0, 0⟩)
  | _ => .Pass ⟨0, 0, 0, 0⟩
noncomputable def defArgs (s : Stmt) : Arguments := match s with
  | .FunctionDef _ a _ _ _ _ _ _ _ _ => a
  | _ => { posonlyargs := [], args := [], vararg := none, kwonlyargs := [], kw_defaults := [], kwarg := none, defaults := [] }
noncomputable def defBody (s : Stmt) : List Stmt := match s with
  | .FunctionDef _ _ b _ _ _ _ _ _ _ => b
  | _ => []
noncomputable def defScope (s : Stmt) : Scope := match s with
  | .FunctionDef _ _ _ _ _ _ sc _ _ _ => sc
  | _ => { kind := .function, names := [], isGenerator := false, isCoroutine := false }
noncomputable abbrev CX0 : CXT := fun _ _ _ _ _ _ => False
noncomputable abbrev E0 : XK := fun _ _ _ => False
theorem pass0 {X : Cx} : Passes CX0 X E0 := fun _ _ _ _ _ _ _ h => h.elim
structure Fun (K : PySem.W.Frag) (x qual : Str) (st : Stmt) (f : Addr) (fd : FuncData) : Prop where
  ex : ∃ (oc : Value) (od : Option Addr) (kV doc pm : Value) (an : Option Addr) (cdv ct : Value) (osl : Array (Option Value)),
    fd = PySem.W.fnOf x qual (defArgs st) (defBody st) (defScope st) .none kV doc pm an cdv ct ∧ K.lookup f = some ⟨oc, od, .func fd, osl⟩ ∧ PySem.W.codeIn K cdv qual = true
  kp : PySem.W.keepIn K (.ref f) = true
section
variable {P : Program} {w : World} {K : PySem.W.Frag} {mg : Str → Option Value} {base : Heap}
theorem Fun.ok {x qual : Str} {st : Stmt} {f : Addr} {fd : FuncData} {N ps : List Str} {k : Nat} {sp : Sp} (F : Fun K x qual st f fd) (S : FnScope N ps (defScope st)) (len : ∀ vs H Q E, sp vs H Q E → vs.length = ps.length)
    (hbody : ∀ (cdv : Value) (A : Around) (outer : List Env) (s : Shared) (H : Hp) (vs : List V) (Q : VK) (E : XK), Room k (A.deeper (envOfC qual (defScope st) s.heap.objs.size f cdv)) → sp vs H Q E →
      ∃ t, PSs (cxOf CX0 P w K mg base N qual (defScope st) f cdv A outer s H E).nox (defBody st) t ∧ t { nx := fun _ H' => Q .non H', rt := Q } (start N vs) H) : FnOk P w K mg base CX0 (k + 1) f fd ps sp := by
  obtain ⟨oc, od, kV, doc, pm, an, cdv, ct, osl, rfl, lk, hcd⟩ := F.ex
  refine fn_of lk hcd S len fun A outer s H vs Q E hr hsp => ?_
  obtain ⟨t, h, q⟩ := hbody cdv A outer s H vs Q E hr hsp
  exact ⟨t, h.nox, q⟩
theorem Fun.binds {x qual : Str} {st : Stmt} {f : Addr} {fd : FuncData} {ps : List Str} (F : Fun K x qual st f fd)
    (h : ∀ (kV doc pm : Value) (an : Option Addr) (cdv ct : Value) (us : List Value), us.length = ps.length → bindArgs (PySem.W.fnOf x qual (defArgs st) (defBody st) (defScope st) .none kV doc pm an cdv ct) ⟨us, []⟩ = pure (ps.zip us)) : Binds K fd ps [] := by
  obtain ⟨oc, od, kV, doc, pm, an, cdv, ct, osl, rfl, lk, hcd⟩ := F.ex
  exact .all (h kV doc pm an cdv ct)
theorem fun_mk {x qual : Str} {st : Stmt} {f : Addr} {oc : Value} {od an : Option Addr} {osl : Array (Option Value)} {kV doc pm cdv ct : Value} (l : K.lookup f = some ⟨oc, od, .func (PySem.W.fnOf x qual (defArgs st) (defBody st) (defScope st) .none kV doc pm an cdv ct), osl⟩)
    (c : PySem.W.codeIn K cdv qual = true) (k : PySem.W.keepIn K (.ref f) = true) : Fun K x qual st f (PySem.W.fnOf x qual (defArgs st) (defBody st) (defScope st) .none kV doc pm an cdv ct) := ⟨⟨oc, od, kV, doc, pm, an, cdv, ct, osl, rfl, l, c⟩, k⟩
end
theorem hu_of {A : Around} {k : Nat} (hr : Room k A) : A.units + 1 < cLine := Nat.lt_of_le_of_lt (Nat.add_le_add_left (by decide : 1 ≤ 64) _) hr.units
section
variable {X : Cx}
theorem pv (i : Nat) {x : Str} {pos : Pos} (hN : X.N[i]? = some x := by rfl) (hv : Vis X.env.scope x := by first | exact Or.inl rfl | exact Or.inr (Or.inl rfl) | exact Or.inr (Or.inr rfl)) (hd : (x == ("__debug__" : Str)) = false := by decide)
    (hcd : (x == ("__classdict__" : Str)) = false := by decide) : PE X (.Name x pos) (tVar i) := pe_var hN hv hd hcd
end
theorem iteF {A B : Prop} (h : B) : if false = true then A else B := by
  rw [if_neg Bool.false_ne_true]
  exact h
theorem iteT {A B : Prop} (h : A) : if true = true then A else B := by
  rw [if_pos rfl]
  exact h
theorem ite2 {c A B : Prop} [Decidable c] (h1 : c → A) (h2 : ¬ c → B) : if c then A else B := by
  by_cases h : c
  · rw [if_pos h]
    exact h1 h
  · rw [if_neg h]
    exact h2 h
noncomputable def Same (H H' : Hp) : Prop := ∀ b o, H b = some o → H' b = some o
theorem Same.refl (H : Hp) : Same H H := fun _ _ h => h
theorem Same.trans {H H1 H2 : Hp} (a : Same H H1) (b : Same H1 H2) : Same H H2 := fun c o h => b c o (a c o h)
theorem Same.free {H H' : Hp} (e : Same H H') {l : Addr} (h : H' l = Option.none) : H l = Option.none := by
  cases q : H l with
  | none => rfl
  | some o =>
    rw [e l o q] at h
    cases h
theorem Same.seq {K : PySem.W.Frag} {H H' : Hp} {a : Addr} {xs : List V} (e : Same H H') (h : SqL K H a xs) : SqL K H' a xs := by
  rcases h with (h | ⟨o, h⟩) | h
  · exact .inl (.inl (e _ _ h))
  · exact .inl (.inr ⟨o, e _ _ h⟩)
  · exact .inr h
section
variable {κ : Type} [DecidableEq κ]
end
end L2
structure GateP (g G : Prop) : Prop where
  go : g → G
theorem gate' {g : Prop} (h : ∀ G : Prop, GateP g G → G) : g := h g ⟨id⟩
theorem keepG {p : Prop} (h : p) : p := h
set_option Elab.async false
set_option linter.all false
set_option maxRecDepth 100000
namespace L2
open PySem PySem.Spec PyProof.Rows
noncomputable def T (l : List Nat) : Str := ⟨l.toArray⟩
theorem T_len (l : List Nat) : (T l).length = l.length := by
  show l.toArray.size = l.length
  simp
theorem T_list (l : List Nat) : (T l).cps.toList = l := rfl
theorem T_inj {a b : List Nat} (h : T a = T b) : a = b := congrArg (fun x : Str => x.cps.toList) h
theorem T_app (a b : List Nat) : T a ++ T b = T (a ++ b) := by
  refine ext_toList ?_
  rw [PySem.W.KT.app_list]
  rfl
noncomputable def Its (l : List Nat) : It := ⟨fun i _ => i < l.length, fun i H x H' => H' = H ∧ ∃ c, l[i]? = some c ∧ x = .str (T [c]), fun i _ => l.length ≤ i⟩
theorem T_at {l : List Nat} {i c : Nat} (h : l[i]? = some c) : (T l).cps[i]? = some c := by
  show l.toArray[i]? = some c
  simpa using h
theorem T_past {l : List Nat} {i : Nat} (h : l.length ≤ i) : (T l).cps[i]? = none := by
  show l.toArray[i]? = none
  simpa using h
theorem turn_strA {P : Program} {w : World} {K : PySem.W.Frag} {tg : Expr} (l : List Nat) (t : Tok) (it : Addr) : Turn P w K tg (Its l) [it] it (fun i h => h.IsStrIter it "str_ascii_iterator" (T l) t i) where
  mem := by simp
  obj := fun i h st b hb => by
    have e : b = it := by simpa using hb
    subst e
    obtain ⟨o, e, c, d⟩ := st
    exact ⟨o, e, fun v z => by rw [d] at z; cases z⟩
  keep := fun i h h' st k => by
    obtain ⟨o, e, r⟩ := st
    exact ⟨o, k it (by simp) o e, r⟩
  item := by
    intro X hP hw hK hc i pins s σ H E I hf st hg
    subst hP hw hK
    have hi : i < l.length := hg
    have hx : l[i]? = some l[i] := by simp [hi]
    obtain ⟨f0, f1, f2, f3, f4, f5⟩ := hf it (by simp)
    refine wpAny_pyNext_ascii_item st (T_at hx) fun h' st' sb => ?_
    have I1 : Inv X pins σ H { s with heap := h', toks := s.toks + 1 } := I.turned (t' := s.toks + 1) (fun b o hb e => (sb.2 b hb).trans e) f0 f1 f3 f4 f5
    obtain ⟨o, e, c, d⟩ := id st'
    exact ⟨_, rfl, go_of (s := { s with heap := h', toks := s.toks + 1 }) e c d (by decide) ⟨.str (T [l[i]]), H, I1, ⟨_, rfl⟩, ⟨rfl, l[i], hx, rfl⟩, st', fun b hb => (hf b hb).1⟩⟩
  done := by
    intro X hP hw hK hc i pins s σ H E I hf st hg
    subst hP hw hK
    obtain ⟨f0, f1, f2, f3, f4, f5⟩ := hf it (by simp)
    exact wpAny_pyNext_ascii_end (I.ok.hd hc) st (T_past hg) fun h' eb => ⟨rfl, I.turned (t' := s.toks) (fun b o hb e => eb b o hb e) f0 f1 f3 f4 f5⟩
  self := fun _ _ _ _ _ st h => wpAny_pyIter_striter_ascii st h
theorem turn_strW {P : Program} {w : World} {K : PySem.W.Frag} {tg : Expr} (l : List Nat) (t : Tok) (it : Addr) : Turn P w K tg (Its l) [it] it (fun i h => h.IsStrIter it "str_iterator" (T l) t i) where
  mem := by simp
  obj := fun i h st b hb => by
    have e : b = it := by simpa using hb
    subst e
    obtain ⟨o, e, c, d⟩ := st
    exact ⟨o, e, fun v z => by rw [d] at z; cases z⟩
  keep := fun i h h' st k => by
    obtain ⟨o, e, r⟩ := st
    exact ⟨o, k it (by simp) o e, r⟩
  item := by
    intro X hP hw hK hc i pins s σ H E I hf st hg
    subst hP hw hK
    have hi : i < l.length := hg
    have hx : l[i]? = some l[i] := by simp [hi]
    obtain ⟨f0, f1, f2, f3, f4, f5⟩ := hf it (by simp)
    refine wpAny_pyNext_wide_item st (T_at hx) fun h' st' sb => ?_
    have I1 : Inv X pins σ H { s with heap := h', toks := s.toks + 1 } := I.turned (t' := s.toks + 1) (fun b o hb e => (sb.2 b hb).trans e) f0 f1 f3 f4 f5
    obtain ⟨o, e, c, d⟩ := id st'
    exact ⟨_, rfl, go_of (s := { s with heap := h', toks := s.toks + 1 }) e c d (by decide) ⟨.str (T [l[i]]), H, I1, ⟨_, rfl⟩, ⟨rfl, l[i], hx, rfl⟩, st', fun b hb => (hf b hb).1⟩⟩
  done := by
    intro X hP hw hK hc i pins s σ H E I hf st hg
    subst hP hw hK
    obtain ⟨f0, f1, f2, f3, f4, f5⟩ := hf it (by simp)
    exact wpAny_pyNext_wide_end (I.ok.hd hc) st (T_past hg) fun h' eb => ⟨rfl, I.turned (t' := s.toks) (fun b o hb e => eb b o hb e) f0 f1 f3 f4 f5⟩
  self := fun _ _ _ _ _ st h => wpAny_pyIter_striter_wide st h
noncomputable def iStr (tl : TE) : TI := fun σ H R => tl σ H fun x H1 => ∃ l, x = .str (T l) ∧ R (Its l) H1
theorem pi_str {X : Cx} {tg e : Expr} {tl : TE} (hl : PE X e tl) : PI X tg e (iStr tl) := by
  intro pins s σ H R I h
  refine thn (hl pins s σ H _ I h) fun v s1 ⟨x, H1, I1, r1, q1⟩ => ?_
  obtain ⟨l, rfl, q⟩ := q1
  obtain ⟨t, rfl⟩ := (show ∃ t, v = Value.str (T l) t from r1)
  cases ha : (T l).cps.all (· < 128) with
  | true =>
    refine wpAny_pyIter_ascii ha ?_
    refine ⟨s1.heap.objs.size, [s1.heap.objs.size], _, _, H1, rfl, I1.kept (t' := s1.toks) fun b o e => Heap.get?_push_of_some _ e, turn_strA l t _, ⟨_, Heap.get?_push_size _ rfl, rfl, rfl⟩, fun b hb => ?_, q⟩
    have e : b = s1.heap.objs.size := by simpa using hb
    subst e
    exact I1.fpOk (Nat.le_refl _) (I1.hok.fresh (Nat.le_refl _))
  | false =>
    refine wpAny_pyIter_wide ha ?_
    refine ⟨s1.heap.objs.size, [s1.heap.objs.size], _, _, H1, rfl, I1.kept (t' := s1.toks) fun b o e => Heap.get?_push_of_some _ e, turn_strW l t _, ⟨_, Heap.get?_push_size _ rfl, rfl, rfl⟩, fun b hb => ?_, q⟩
    have e : b = s1.heap.objs.size := by simpa using hb
    subst e
    exact I1.fpOk (Nat.le_refl _) (I1.hok.fresh (Nat.le_refl _))
theorem for_str {l : List Nat} {g : TG} {tb : TS} {D : Ends} {σ : St} {H : Hp} (Pv : Nat → St → Hp → Prop) (h0 : Pv 0 σ H)
    (hs : ∀ i c σ H, l[i]? = some c → Pv i σ H → g (.str (T [c])) σ H fun σ2 H2 => tb { D with nx := Pv (i + 1), ct := Pv (i + 1), bk := D.nx } σ2 H2) (hd : ∀ σ H, Pv l.length σ H → D.nx σ H) :
    ∃ W : Nat → Nat → St → Hp → Prop, (∃ m, W 0 m σ H) ∧ ∀ i m σ H, W i m σ H →
      ((Its l).stop i H ∧ D.nx σ H) ∨ ((Its l).go i H ∧ ∃ N : St → Hp → Prop, (∀ σ' H', N σ' H' → ∃ m', m' < m ∧ W (i + 1) m' σ' H') ∧ ∀ x H', (Its l).yld i H x H' → g x σ H' fun σ2 H2 => tb { D with nx := N, ct := N, bk := D.nx } σ2 H2) := by
  refine ⟨fun i m σ H => m = l.length - i ∧ i ≤ l.length ∧ Pv i σ H, ⟨l.length, by simp, Nat.zero_le _, h0⟩, ?_⟩
  rintro i m σ H ⟨rfl, hi, p⟩
  by_cases hlt : i < l.length
  · refine .inr ⟨hlt, Pv (i + 1), fun σ' H' p' => ⟨l.length - (i + 1), by omega, rfl, hlt, p'⟩, fun x H' y => ?_⟩
    obtain ⟨e, c, hc, rfl⟩ := y
    subst e
    exact hs i c σ _ hc p
  · have e : i = l.length := by omega
    subst e
    exact .inl ⟨Nat.le_refl _, hd σ H p⟩
noncomputable def clGo (cells : List (Str × Addr)) : List (Str × NameKind) → List (Str × Addr) → List (Str × Addr)
  | [], acc => acc
  | (n, k) :: r, acc => clGo cells r (if k == NameKind.free then (n, (cells.lookup n).getD 0) :: acc else acc)
noncomputable def clOf (scope : Scope) (env : Env) : List (Str × Addr) := clGo env.cells scope.names []
theorem clGo_sub {cells : List (Str × Addr)} : ∀ {names : List (Str × NameKind)} {acc : List (Str × Addr)}, (∀ y ∈ names, y.2 = .free → ∃ c, cells.lookup y.1 = some c) → (∀ x c, acc.lookup x = some c → cells.lookup x = some c) →
    ∀ x c, (clGo cells names acc).lookup x = some c → cells.lookup x = some c
  | [], _, _, h, x, c, e => h x c e
  | (n, k) :: r, acc, hf, h, x, c, e => by
    refine clGo_sub (names := r) (fun y hy => hf y (List.mem_cons_of_mem _ hy)) ?_ x c e
    intro z d hz
    by_cases hk : k = .free
    · have hkb : (k == NameKind.free) = true := by rw [hk]; rfl
      rw [if_pos hkb] at hz
      obtain ⟨c0, h0⟩ := hf (n, k) List.mem_cons_self hk
      cases hzn : z == n with
      | true =>
        rw [List.lookup_cons, hzn] at hz
        have : z = n := eq_of_beq hzn
        subst this
        have h0' : cells.lookup z = some c0 := h0
        rw [h0'] at hz ⊢
        exact hz
      | false =>
        rw [List.lookup_cons, hzn] at hz
        exact h z d hz
    · have hkb : ¬ ((k == NameKind.free) = true) := fun q => hk (eq_of_beq q)
      rw [if_neg hkb] at hz
      exact h z d hz
theorem clGo_acc {cells : List (Str × Addr)} : ∀ {names : List (Str × NameKind)} {acc : List (Str × Addr)} {x : Str}, (∃ c, acc.lookup x = some c) → ∃ c, (clGo cells names acc).lookup x = some c
  | [], _, _, h => h
  | (n, k) :: r, acc, x, h => by
    refine clGo_acc (names := r) ?_
    by_cases hkb : (k == NameKind.free) = true
    · rw [if_pos hkb]
      cases hzn : x == n with
      | true => rw [List.lookup_cons, hzn]; exact ⟨_, rfl⟩
      | false => rw [List.lookup_cons, hzn]; exact h
    · rw [if_neg hkb]; exact h
theorem clGo_has {cells : List (Str × Addr)} : ∀ {names : List (Str × NameKind)} {acc : List (Str × Addr)} {x : Str}, (x, NameKind.free) ∈ names → ∃ c, (clGo cells names acc).lookup x = some c
  | (n, k) :: r, acc, x, h => by
    rcases List.mem_cons.mp h with e | h
    · cases e
      refine clGo_acc (names := r) ?_
      rw [if_pos (show (NameKind.free == NameKind.free) = true from rfl)]
      exact ⟨_, by rw [List.lookup_cons, beq_self_eq_true]⟩
    · exact clGo_has (names := r) h
theorem closure_eq {scope : Scope} {env : Env} (hf : ∀ y ∈ scope.names, y.2 = .free → ∃ c, env.cells.lookup y.1 = some c) : closureFor scope env = pure (clOf scope env) := by
  have key : ∀ (names : List (Str × NameKind)) (acc : List (Str × Addr)), (∀ y ∈ names, y.2 = .free → ∃ c, env.cells.lookup y.1 = some c) →
      (forIn names acc (fun x (r : List (Str × Addr)) => if (x.2 == NameKind.free) = true then do let a ← cellOf env x.1; pure (ForInStep.yield ((x.1, a) :: r)) else pure (ForInStep.yield r)) : Sem (List (Str × Addr))) = pure (clGo env.cells names acc) := by
    intro names
    induction names with
    | nil => intro acc _; rfl
    | cons y r ih =>
      obtain ⟨n, k⟩ := y
      intro acc h
      rw [List.forIn_cons]
      have ih' := fun acc => ih acc fun y hy => h y (List.mem_cons_of_mem _ hy)
      by_cases hkb : (k == NameKind.free) = true
      · obtain ⟨c, hc⟩ := h (n, k) List.mem_cons_self (eq_of_beq hkb)
        have hc' : env.cells.lookup n = some c := hc
        have e1 : cellOf env n = pure c := by unfold cellOf; rw [hc']
        have e2 : clGo env.cells ((n, k) :: r) acc = clGo env.cells r ((n, c) :: acc) := by
          show clGo env.cells r (if (k == NameKind.free) = true then (n, (env.cells.lookup n).getD 0) :: acc else acc) = _
          rw [if_pos hkb, hc']
          rfl
        rw [e2, ← ih']
        simp only [hkb, if_true, e1, pure_bind]
      · have e2 : clGo env.cells ((n, k) :: r) acc = clGo env.cells r acc := by
          show clGo env.cells r (if (k == NameKind.free) = true then (n, (env.cells.lookup n).getD 0) :: acc else acc) = _
          rw [if_neg hkb]
        rw [e2, ← ih']
        have hkf : (k == NameKind.free) = false := by
          cases q : k == NameKind.free with
          | false => rfl
          | true => exact absurd q hkb
        simp only [hkf, Bool.false_eq_true, if_false, pure_bind]
  unfold closureFor clOf
  simp only [bind_pure_comp]
  have := key scope.names [] hf
  simp only [bind_pure_comp] at this
  rw [this]
  rfl
theorem lookup_relabel {env : Env} : ∀ {names : List (Str × NameKind)} {x : Str},
    (names.map fun (n, k) => if (k == NameKind.free && env.scope.kind == .function && env.kindOf n == some .cell) then (n, NameKind.cell) else (n, k)).lookup x =
      (names.lookup x).map fun k => if (k == NameKind.free && env.scope.kind == .function && env.kindOf x == some .cell) = true then NameKind.cell else k
  | [], _ => rfl
  | (n, k) :: r, x => by
    have ih := @lookup_relabel env r x
    show List.lookup x ((if (k == NameKind.free && env.scope.kind == .function && env.kindOf n == some .cell) = true then (n, NameKind.cell) else (n, k)) :: _) = _
    cases hx : x == n with
    | true =>
      have e : x = n := eq_of_beq hx
      subst e
      by_cases hc : (k == NameKind.free && env.scope.kind == .function && env.kindOf x == some .cell) = true
      · rw [if_pos hc]; simp only [List.lookup_cons, hx, Option.map_some, if_pos hc]
      · rw [if_neg hc]; simp only [List.lookup_cons, hx, Option.map_some, if_neg hc]
    | false =>
      by_cases hc : (k == NameKind.free && env.scope.kind == .function && env.kindOf n == some .cell) = true
      · rw [if_pos hc]; simp only [List.lookup_cons, hx]; exact ih
      · rw [if_neg hc]; simp only [List.lookup_cons, hx]; exact ih
theorem mem_of_look {α : Type} : ∀ {l : List (Str × α)} {x : Str} {a : α}, l.lookup x = some a → (x, a) ∈ l
  | (n, k) :: r, x, a, h => by
    cases hx : x == n with
    | true =>
      rw [List.lookup_cons, hx] at h
      cases h
      rw [eq_of_beq hx]
      exact List.mem_cons_self
    | false =>
      rw [List.lookup_cons, hx] at h
      exact List.mem_cons_of_mem _ (mem_of_look h)
noncomputable def blk (X : Cx) (M : List Str) (scope : Scope) (C : Addr) (fp : List Addr) (s₃ : Shared) (H₃ : Hp) : Cx where
  prog := X.prog
  w := X.w
  K := X.K
  mg := X.mg
  base := X.base
  A := X.A
  N := X.N ++ M
  s₀ := s₃
  H₀ := H₃
  env := compEnvC scope (clOf scope X.env) C X.env
  outer := X.stack
  stack := X.stack
  ex := fp
  fn := fun _ => false
  calm := X.calm
  pn := []
  xe := fun _ _ => False
structure CompSc (X : Cx) (scope : Scope) : Prop where
  kind : scope.kind = .function
  cell : ∀ y ∈ scope.names, y.2 ≠ .cell
  loc : ∀ y ∈ scope.names, y.2 = .local → scope.names.lookup y.1 = some .local
  free : ∀ y ∈ scope.names, y.2 = .free → X.env.kindOf y.1 = some .cell ∨ X.env.kindOf y.1 = some .free
  apart : ∀ x ∈ X.N, scope.names.lookup x ≠ some .local
section
variable {X : Cx}
theorem CompSc.vis {scope : Scope} (S : CompSc X scope) {C : Addr} {x : Str} (h : (compEnvC scope (clOf scope X.env) C X.env).kindOf x = some .cell ∨ (compEnvC scope (clOf scope X.env) C X.env).kindOf x = some .free) :
    (x, NameKind.free) ∈ scope.names := by
  have e : (compEnvC scope (clOf scope X.env) C X.env).kindOf x = (scope.names.lookup x).map fun k => if (k == NameKind.free && X.env.scope.kind == .function && X.env.kindOf x == some .cell) = true then NameKind.cell else k := lookup_relabel
  rw [e] at h
  cases hl : scope.names.lookup x with
  | none => rw [hl] at h; rcases h with h | h <;> cases h
  | some k =>
    have hm := mem_of_look hl
    have nc := S.cell _ hm
    rw [hl] at h
    by_cases hk : k = .free
    · rw [hk] at hm; exact hm
    · have hkb : (k == NameKind.free) = false := by
        cases q : k == NameKind.free with
        | false => rfl
        | true => exact absurd (eq_of_beq q) hk
      simp only [Option.map_some, hkb, Bool.false_and, Bool.false_eq_true, if_false, Option.some.injEq] at h
      rcases h with h | h
      · exact absurd h nc
      · exact absurd h hk
theorem CompSc.cells {scope : Scope} (S : CompSc X scope) (ok : X.Ok) : ∀ y ∈ scope.names, y.2 = .free → ∃ c, X.env.cells.lookup y.1 = some c := fun y hy e => ok.has y.1 (S.free y hy e)
theorem CompSc.sub {scope : Scope} (S : CompSc X scope) (ok : X.Ok) : ∀ x c, (clOf scope X.env).lookup x = some c → X.env.cells.lookup x = some c :=
  clGo_sub (S.cells ok) (fun _ _ h => nomatch h)
theorem blk_ok {pins : List (Addr × Obj)} {σ : St} {H₃ : Hp} {s₃ : Shared} {M : List Str} {scope : Scope} {fp : List Addr} (S : CompSc X scope) (I : Inv X pins σ H₃ s₃) (hf : ∀ b ∈ fp, FpOk X pins H₃ b) (hl : ∀ b ∈ fp, b < s₃.heap.objs.size) :
    (blk X M scope s₃.heap.objs.size fp s₃ H₃).Ok where
  mod := I.mod
  kind := S.kind
  glob := I.ok.glob
  blt := I.ok.blt
  above := Nat.le_refl _
  inj := fun x y c h1 h2 => I.ok.inj x y c (S.sub I.ok x c h1) (S.sub I.ok y c h2)
  has := fun x h => clGo_has (S.vis h)
  cab := fun x c h => nomatch h
  hd := I.ok.hd
  frames := I.ok.frames
  stk := .inl rfl
  exf := fun b hb => ⟨Nat.ne_of_lt (hl b hb), fun x c h => (hf b hb).2.2.2.2.1 x c (S.sub I.ok x c h)⟩
  bs := I.bs
  bsz := Nat.le_trans I.ok.bsz I.sz
  noex := fun b o e hb => by
    rcases (hf b hb).2.2.2.1 with z | z
    · exact I.ok.noex b o e z
    · exact absurd (Nat.lt_of_lt_of_le (Heap.lt_size (I.ok.bs b o e).1) z) (Nat.lt_irrefl _)
  exfs := fun b hb hfs => by
    rcases List.mem_cons.mp (I.stkSub b hfs) with e | e
    · exact (hf b hb).2.1 e
    · exact (hf b hb).2.2.1 e
  funs := I.stack
  frf := I.stkFree
theorem blk_inv {pins : List (Addr × Obj)} {σ : St} {H₃ : Hp} {s₃ : Shared} {M : List Str} {scope : Scope} {fp : List Addr} {h' : Heap} {m : Str → Option Value} {tk : Nat} (S : CompSc X scope) (I : Inv X pins σ H₃ s₃) (hf : ∀ b ∈ fp, FpOk X pins H₃ b)
    (hl : ∀ b ∈ fp, b < s₃.heap.objs.size) (hk : ∀ b o, s₃.heap.get? b = some o → h'.get? b = some o) (hn : h'.Ns s₃.heap.objs.size m) :
    Inv (blk X M scope s₃.heap.objs.size fp s₃ H₃) [] (σ ++ List.replicate M.length none) H₃ { s₃ with heap := h', toks := tk } where
  ok := blk_ok S I hf hl
  os := rfl
  bare := I.bare
  base := Un.kept hk
  loc := by
    refine ⟨m, hn, fun i x v e1 e2 e3 => ?_⟩
    have hi : i < σ.length := by
      by_cases q : i < σ.length
      · exact q
      · rw [List.getElem?_append_right (by omega)] at e2
        have := List.mem_of_getElem? e2
        rw [(List.mem_replicate.mp this).2] at this
        obtain ⟨_, h2⟩ := List.mem_replicate.mp this
        rw [List.getElem?_replicate] at e2
        split at e2 <;> cases e2
    rw [List.getElem?_append_left hi] at e2
    have e1' : X.N[i]? = some x := by
      have e1'' : (X.N ++ M)[i]? = some x := e1
      rw [List.getElem?_append_left (by rw [← I.len]; exact hi)] at e1''
      exact e1''
    have hxN : x ∈ X.N := List.mem_of_getElem? e1'
    have kl : ¬ (relabel scope X.env).names.lookup x = some .local := by
      intro q
      have q' : (scope.names.lookup x).map (fun k => if (k == NameKind.free && X.env.scope.kind == .function && X.env.kindOf x == some .cell) = true then NameKind.cell else k) = some .local := (lookup_relabel (env := X.env)).symm.trans q
      cases hlk : scope.names.lookup x with
      | none => rw [hlk] at q'; cases q'
      | some k =>
        rw [hlk] at q'
        have nl : k ≠ .local := fun z => S.apart x hxN (by rw [hlk, z])
        simp only [Option.map_some, Option.some.injEq] at q'
        split at q'
        · cases q'
        · exact nl q'
    have e3' : (compEnvC scope (clOf scope X.env) s₃.heap.objs.size X.env).kindOf x = some .cell ∨ (compEnvC scope (clOf scope X.env) s₃.heap.objs.size X.env).kindOf x = some .free := by
      rcases e3 with z | z | z
      · exact absurd z kl
      · exact .inl z
      · exact .inr z
    have hm := S.vis e3'
    have hX := S.free _ hm rfl
    obtain ⟨m0, hn0, hl0⟩ := I.loc
    obtain ⟨u, ru, lk⟩ := hl0 i x v e1' e2 (by rcases hX with z | z; exact .inr (.inl z); exact .inr (.inr z))
    refine ⟨u, ru, .inr ⟨e3', ?_⟩⟩
    rcases lk with ⟨z, _⟩ | ⟨_, c, hc, o, ho, hd⟩
    · rcases hX with q | q
      · have : X.env.kindOf x = some .cell := q
        rw [this] at z; cases z
      · have : X.env.kindOf x = some .free := q
        rw [this] at z; cases z
    · obtain ⟨c', hc'⟩ := clGo_has (cells := X.env.cells) (acc := []) hm
      have := S.sub I.ok x c' hc'
      rw [hc] at this; cases this
      exact ⟨c, hc', o, hk c o ho, hd⟩
  cell := fun x c h => by
    obtain ⟨v, o, ho, hd⟩ := I.cell x c (S.sub I.ok x c h)
    exact ⟨v, o, hk c o ho, hd⟩
  free := I.hok.fresh (Nat.le_refl _)
  freeC := fun x c h => I.freeC x c (S.sub I.ok x c h)
  pin := fun p hp => nomatch hp
  hok := I.hok.kept hk
  len := by
    show (σ ++ List.replicate M.length none).length = (X.N ++ M).length
    rw [List.length_append, List.length_append, List.length_replicate, I.len]
theorem blk_out {pins pins' : List (Addr × Obj)} {σ σ' : St} {H₃ H' : Hp} {s₃ s' : Shared} {M : List Str} {scope : Scope} {fp : List Addr} {h' : Heap} (I : Inv X pins σ H₃ s₃) (hf : ∀ b ∈ fp, FpOk X pins H₃ b)
    (J : Inv (blk X M scope s₃.heap.objs.size fp s₃ H₃) pins' σ' H' s') (hs : Heap.SameBut s₃.heap.objs.size s'.heap h') : Inv X pins σ H' { s' with heap := h' } := by
  have ne : ∀ b o, s₃.heap.get? b = some o → b ≠ s₃.heap.objs.size := fun b o e => Nat.ne_of_lt (Heap.lt_size e)
  have B := J.base
  refine I.call' (s' := { s' with heap := h' }) (ch := fp) J.os ⟨fun b o e n hb hx => ?_, fun b o e n hb hx => ?_, B.free, fun b o e hx => ?_, B.tups, B.frzs, B.tbls⟩ ?_ J.bare fun b hb => (hf b hb).2.2.2.elim fun z r => ?_
  · exact (hs.2 b (ne b o e)).trans (B.keep b o e n hb hx)
  · obtain ⟨sl, q⟩ := B.slot b o e n hb hx
    exact ⟨sl, (hs.2 b (ne b o e)).trans q⟩
  · obtain ⟨o', q⟩ := B.there b o e hx
    exact ⟨o', (hs.2 b (ne b o e)).trans q⟩
  · intro b u e
    have hb : b ≠ s₃.heap.objs.size := fun z => by
      have := J.free
      have q : H' s₃.heap.objs.size = none := this
      rw [z, q] at e; cases e
    refine (J.hok b u e).stay (fun c v hc q => (hs.2 c ?_).trans q) (fun _ q => q) fun _ _ q => q
    rcases hc with z | z
    · rw [z]; exact hb
    · intro z2
      have q : H' s₃.heap.objs.size = none := J.free
      rw [z2, q] at z; cases z
  · exact ⟨z, (hf b hb).2.1, r.1, r.2⟩
noncomputable def PTs (X : Cx) (ifs : List Expr) (t : TT) : Prop :=
  ∀ (pins : List (Addr × Obj)) (s : Shared) (σ : St) (H : Hp) (Q : Bool → Hp → Prop), Inv X pins σ H s → t σ H Q →
    wpAny (model X.prog X.w) X.A (forIn ifs true fun c r => if r = true then do let ok ← isTrue c X.env (eval c X.env); pure (ForInStep.yield ok) else pure (ForInStep.yield r)) (TP X pins σ Q) X.xe s
noncomputable def tTrue : TT := fun _ H Q => Q true H
theorem pts_nil : PTs X [] tTrue := fun pins s σ H Q I h => wpAny_tests_nil ⟨H, I, h⟩
theorem pts_one {c : Expr} {t : TT} (hc : PT X c t) : PTs X [c] t := fun pins s σ H Q I h => wpAny_tests_one (hc pins s σ H Q I h)
theorem comp_loop {prog : Program} {w : World} {A : Around} {R : Result → Shared → Prop} {s : Shared} {elt target iter : Expr} {ifs : List Expr} {scope : Scope} {pos : Pos} {it acc : Value} {env : Env} (I : Nat → Shared → Prop)
    (turn : ∀ n s, I n s → wpAny (model prog w) A (pyNext it) (fun r s₁ => match r with
      | none => R (.ok .next) s₁
      | some v => wpAny (model prog w) A (letOwnedTupleGo target it v) (fun _ s₁ => wpAny (model prog w) A (assign target env v) (fun _ s₂ =>
          wpAny (model prog w) A (forIn ifs true fun c r => if r = true then do let ok ← isTrue c env (eval c env); pure (ForInStep.yield ok) else pure (ForInStep.yield r)) (fun ok s₃ =>
            if ok = true then wpAny (model prog w) A (eval elt env) (fun x s₄ =>
              wpAny (model prog w) A (call (.builtin "list.append") [acc, x]) (fun _ s₅ => ∃ m, m < n ∧ I m s₅) (fun _ _ => False) s₄) (fun _ _ => False) s₃
            else ∃ m, m < n ∧ I m s₃) (fun _ _ => False) s₂) (fun _ _ => False) s₁) (fun _ _ => False) s₁) (fun _ _ => False) s)
    (n : Nat) (h : I n s) :
    codeAny (model prog w) A (.compLoop (.ListComp elt [⟨target, iter, ifs, 0⟩] scope pos) 0 it acc env) R s := by
  refine codeAny_loop rfl I (fun n s hI => ?_) n h
  show wpAny _ A ((compTurn (.ListComp elt [⟨target, iter, ifs, 0⟩] scope pos) 0 it acc env).onRaise (fun x => do noteFrame x env; theTreesLotGoes x)) _ _ s
  refine wpAny_noted ?_
  rw [compTurn_list]
  refine wpAny_bind (wpAny_standAt (wpAny_bind (wpAny_mono (turn n s hI) (fun r s₁ h₁ => ?_) fun _ _ h' => h'.elim)))
  cases r with
  | none => exact wpAny_pure h₁
  | some v =>
    refine wpAny_bind (wpAny_mono h₁ (fun _ s₁' h₁' => ?_) fun _ _ h' => h'.elim)
    refine wpAny_bind (wpAny_mono h₁' (fun _ s₂ h₂ => wpAny_bind (wpAny_mono h₂ (fun ok s₃ h₃ => ?_) fun _ _ h' => h'.elim)) fun _ _ h' => h'.elim)
    cases ok with
    | false => exact wpAny_pure ⟨rfl, h₃⟩
    | true =>
      exact wpAny_bind (wpAny_bind (wpAny_mono h₃ (fun x s₄ h₄ => wpAny_bind (wpAny_mono h₄ (fun _ s₅ h₅ => wpAny_pure (wpAny_pure ⟨rfl, h₅⟩)) fun _ _ h' => h'.elim)) fun _ _ h' => h'.elim))
noncomputable abbrev BK (α : Type) := Addr → List Addr → Shared → Hp → α
noncomputable def CompIn (k : Nat) (J : It) (g : BK TG) (tt : BK TT) (te : BK TE) (σ : St) (H1 : Hp) (Q : VK) : Prop := ∀ D, H1 D = none → ∃ W : Nat → Nat → List V → Hp → Prop, (∃ m, W 0 m [] (upd H1 D (.lst []))) ∧
  ∀ i m ys H2, W i m ys H2 → H2 D = some (.lst ys) ∧ ((J.stop i H2 ∧ Q (.ref D) H2) ∨ (J.go i H2 ∧ ∀ x H3, J.yld i H2 x H3 → ∀ C fp s₀ H₀, g C fp s₀ H₀ x (σ ++ List.replicate k none) H3 fun σ3 H4 => (∃ τ : St, σ3 = σ ++ τ ∧ τ.length = k) ∧
    tt C fp s₀ H₀ σ3 H4 fun b H5 => if b = true then te C fp s₀ H₀ σ3 H5 fun v H6 => H6 D = some (.lst ys) ∧ ys.length < sizeLine ∧ ∃ m', m' < m ∧ W (i + 1) m' (ys ++ [v]) (upd H6 D (.lst (ys ++ [v])))
      else ∃ m', m' < m ∧ W (i + 1) m' ys H5))
noncomputable def tComp (k : Nat) (wi : TI) (g : BK TG) (tt : BK TT) (te : BK TE) : TE := fun σ H Q => wi σ H fun J H1 => CompIn k J g tt te σ H1 Q
theorem comp_core {elt tg iter : Expr} {ifs : List Expr} {scope : Scope} {pos : Pos} {M : List Str} {wi : TI} {g : BK TG} {tt : BK TT} {te : BK TE} (hc : X.calm = true) (S : CompSc X scope) (hi : PI X tg iter wi)
    (hg : ∀ C fp s₃ H₃, PG (blk X M scope C fp s₃ H₃) tg (g C fp s₃ H₃)) (ht : ∀ C fp s₃ H₃, PTs (blk X M scope C fp s₃ H₃) ifs (tt C fp s₃ H₃)) (he : ∀ C fp s₃ H₃, PE (blk X M scope C fp s₃ H₃) elt (te C fp s₃ H₃))
    (hs : ∀ x, foldedSetIterable iter X.env x = pure x) {use : Option (Value → Sem Unit)} {QQ : Value → Shared → Prop} {pins : List (Addr × Obj)} {s : Shared} {σ : St} {H : Hp} {Q : VK} {ps : Pos} (I : Inv X pins σ H s) (h : tComp M.length wi g tt te σ H Q)
    (fin : ∀ {a C : Addr} {fp : List Addr} {s₃ s6 : Shared} {H₃ H5 : Hp}, C = s₃.heap.objs.size → Inv X pins σ H₃ s₃ → (∀ b ∈ fp, FpOk X pins H₃ b) → Inv (blk X M scope C fp s₃ H₃) [] (σ ++ List.replicate M.length none) H5 s6 → Q (.ref a) H5 → compPost (model X.prog X.w) X.A X.xe use QQ (.ref a) C (.ok .next) s6) :
    wpAny (model X.prog X.w) X.A (comprehension (.ListComp elt [⟨tg, iter, ifs, 0⟩] scope pos) scope X.env ps (newList []) false (firstIter [⟨tg, iter, ifs, 0⟩] X.env) use) QQ X.xe s := by
  refine wpAny_comprehension_free rfl hs (closure_eq (S.cells I.ok)) S.kind S.loc (thn (hi pins s σ H _ I h) fun xv s₁ h₁ => thn h₁ fun itv s₂ h₂ => ?_)
  refine gate' fun gG hgG => ?_
  obtain ⟨it, fp, tn, J, H2, e, I2, Tr, st2, f2, W0⟩ := h₂
  refine hgG.go ?_
  clear hgG
  subst e
  have hD : H2 s₂.heap.objs.size = none := I2.hok.fresh (Nat.le_refl _)
  obtain ⟨W, ⟨m0, w0⟩, turn⟩ := W0 _ hD
  suffices core : ∀ s₃ : Shared, s₃ = { s₂ with heap := s₂.heap.push { cls := .type "list", data := .seq ([] : List Value).toArray } } →
      wpAny (model X.prog X.w) X.A (newFunctionEnv scope X.env.globals (clOf scope X.env) [] X.env.qual none .none (some X.env)) (fun cenv s₄ =>
        codeAny (model X.prog X.w) X.A (.compStart (.ListComp elt [⟨tg, iter, ifs, 0⟩] scope pos) 0 (.ref it) (.ref s₂.heap.objs.size) { cenv with scope := relabel scope X.env })
          (compPost (model X.prog X.w) X.A X.xe use QQ (.ref s₂.heap.objs.size) cenv.locals) s₄) X.xe s₃ from wpAny_newObj_type (core _ rfl)
  intro s₃ hs₃
  have I3 : Inv X pins σ (upd H2 s₂.heap.objs.size (.lst [])) s₃ := by
    rw [hs₃]
    exact I2.lnew (t' := s₂.toks) (its := []) .nil (Nat.zero_le _)
  have hlt : ∀ b ∈ fp, b < s₂.heap.objs.size := fun b hb => by
    obtain ⟨o, e, _⟩ := Tr.obj _ _ st2 b hb
    exact Heap.lt_size e
  have f3 : ∀ b ∈ fp, FpOk X pins (upd H2 s₂.heap.objs.size (.lst [])) b := fun b hb => ⟨by rw [upd_ne (Nat.ne_of_lt (hlt b hb))]; exact (f2 b hb).1, (f2 b hb).2⟩
  have hlt3 : ∀ b ∈ fp, b < s₃.heap.objs.size := fun b hb => by
    rw [hs₃]
    show b < (s₂.heap.push _).objs.size
    rw [Heap.size_push]
    exact Nat.lt_succ_of_lt (hlt b hb)
  have st3 : tn 0 s₃.heap := Tr.keep _ _ _ st2 fun b hb o e => by rw [hs₃]; exact Heap.get?_push_of_some _ e
  generalize hH₃ : upd H2 s₂.heap.objs.size (.lst []) = H₃ at I3 f3 w0
  revert H₃
  refine keepG ?_
  set_option tactic.hygienic false in intros
  refine wpAny_newFunctionEnv S.cell (by intro y hy; simp at hy) (fun h₁ hns₁ hsb₁ => ?_) S.kind
  have old : ∀ b o, s₃.heap.get? b = some o → h₁.get? b = some o := fun b o e => hsb₁.extBut b o (Nat.ne_of_lt (Heap.lt_size e)) (Heap.get?_push_of_some _ e)
  have I4 := blk_inv (M := M) (tk := s₃.toks + ([] : List (Str × Value)).length) S I3 f3 hlt3 old hns₁
  have st4 : tn 0 h₁ := Tr.keep _ _ _ st3 fun b _ o e => old b o e
  have stat : ∀ {pn' : List (Addr × Obj)} {H' : Hp}, (∀ b ∈ fp, H' b = none) → (∀ b ∈ fp, ∀ p ∈ pn', p.1 ≠ b) → ∀ b ∈ fp, FpOk (blk X M scope s₃.heap.objs.size fp s₃ H₃) pn' H' b := fun {pn' H'} hn hp b hb =>
    ⟨hn b hb, Nat.ne_of_lt (hlt3 b hb), (blk_ok (M := M) S I3 f3 hlt3).exfs b hb, .inl hb, fun x c hx => (f3 b hb).2.2.2.2.1 x c (S.sub I.ok x c hx), fun p hp' => hp b hb p hp'⟩
  have loop : ∀ s₄ : Shared, s₄ = { s₃ with heap := h₁, toks := s₃.toks + ([] : List (Str × Value)).length } →
      codeAny (model X.prog X.w) X.A (.compLoop (.ListComp elt [⟨tg, iter, ifs, 0⟩] scope pos) 0 (.ref it) (.ref s₂.heap.objs.size) (compEnvC scope (clOf scope X.env) s₃.heap.objs.size X.env))
        (compPost (model X.prog X.w) X.A X.xe use QQ (.ref s₂.heap.objs.size) s₃.heap.objs.size) s₄ := by
    rintro s₄ rfl
    refine comp_loop (fun n s' => ∃ i ys σ' H', Inv (blk X M scope s₃.heap.objs.size fp s₃ H₃) [] σ' H' s' ∧ (∃ τ : St, σ' = σ ++ τ ∧ τ.length = M.length) ∧ tn i s'.heap ∧ (∀ b ∈ fp, H' b = none) ∧ W i n ys H') ?_ m0
      ⟨0, [], _, H₃, I4, ⟨_, rfl, List.length_replicate ..⟩, st4, fun b hb => (f3 b hb).1, w0⟩
    intro n s5 hI_
    refine gate' fun gG hgG => ?_
    obtain ⟨i, ys, σ5, H5, I5, ⟨τ, rfl, hτ⟩, st5, fr5, w5⟩ := hI_
    refine hgG.go ?_
    clear hgG
    have I5' : Inv (blk X M scope s₃.heap.objs.size fp s₃ H₃) [] (σ ++ List.replicate M.length none) H5 s5 := by
      refine I5.weak (by rw [List.length_append, List.length_append, List.length_replicate, hτ]) fun j v e => ?_
      by_cases q : j < σ.length
      · rw [List.getElem?_append_left q] at e ⊢; exact e
      · rw [List.getElem?_append_right (by omega), List.getElem?_replicate] at e
        split at e <;> cases e
    obtain ⟨hDl, hcase⟩ := turn i n ys H5 w5
    rcases hcase with ⟨stop, q⟩ | ⟨go, step⟩
    · refine thn (Tr.done (blk X M scope s₃.heap.objs.size fp s₃ H₃) rfl rfl rfl hc i [] s5 _ H5 _ I5' (stat fr5 (fun _ _ _ z => (nomatch z))) st5 stop) fun r s6 ⟨hr, I6⟩ => ?_
      subst hr
      exact fin rfl I3 f3 I6 q
    · refine thn (Tr.item (blk X M scope s₃.heap.objs.size fp s₃ H₃) rfl rfl rfl hc i [] s5 _ H5 _ I5' (stat fr5 (fun _ _ _ z => (nomatch z))) st5 go) fun r s6 ⟨u, hr, h6⟩ => ?_
      subst hr
      refine thn h6 fun _ s7 ⟨x, H7, I7, r7, y7, st7, fr7⟩ => ?_
      have I7' := I7.pinned (stat fr7 (fun _ _ _ z => (nomatch z))) (Tr.obj _ _ st7)
      refine thn (hg _ _ _ _ _ s7 _ H7 x u _ I7' r7 (step x H7 y7 _ _ _ _)) fun _ s8 ⟨σ8, H8, I8, ⟨τ8, e8, l8⟩, q8⟩ => ?_
      subst e8
      have again : ∀ {ys' : List V} {H9 : Hp} {s9 : Shared}, Inv (blk X M scope s₃.heap.objs.size fp s₃ H₃) ([] ++ pinsAt fp s7.heap) (σ ++ τ8) H9 s9 → (∃ m', m' < n ∧ W (i + 1) m' ys' H9) →
          ∃ m, m < n ∧ ∃ i ys σ' H', Inv (blk X M scope s₃.heap.objs.size fp s₃ H₃) [] σ' H' s9 ∧ (∃ τ : St, σ' = σ ++ τ ∧ τ.length = M.length) ∧ tn i s9.heap ∧ (∀ b ∈ fp, H' b = none) ∧ W i m ys H' := fun {ys' H9 s9} I9 ⟨m', hm, w9⟩ => by
        refine ⟨m', hm, i + 1, ys', _, H9, I9.unpinned, ⟨τ8, rfl, l8⟩, Tr.keep _ _ _ st7 fun b hb o e => (I9.pin (b, o) (List.mem_append_right _ (List.mem_append_right _ (mem_pinsAt hb e)))).1, fun b hb => ?_, w9⟩
        obtain ⟨o, e, d⟩ := Tr.obj _ _ st7 b hb
        exact (I9.pin (b, o) (List.mem_append_right _ (List.mem_append_right _ (mem_pinsAt hb e)))).2.1
      refine thn (ht _ _ _ _ _ s8 _ H8 _ I8 q8) fun ok s9 ⟨H9, I9, q9⟩ => ?_
      cases ok with
      | false =>
        rw [if_neg Bool.false_ne_true] at q9 ⊢
        exact again I9 q9
      | true =>
        rw [if_pos rfl] at q9 ⊢
        refine thn (he _ _ _ _ _ s9 _ H9 _ I9 q9) fun v s10 ⟨y, H10, I10, r10, hD10, hsz, q10⟩ => ?_
        refine thn (mt_append _ s10 _ H10 (.ref s₂.heap.objs.size) [y] _ [v] (fun v' H' => v' = .non ∧ H' = upd H10 s₂.heap.objs.size (.lst (ys ++ [y]))) I10 rfl (.cons r10 .nil) ⟨_, ys, y, rfl, rfl, hD10, hsz, rfl, rfl⟩) fun _ s11 ⟨_, H11, I11, _, _, e11⟩ => ?_
        subst e11
        exact again I11 q10
  exact codeAny_compStart_list (loop _ rfl) (Tr.self _ 0 _ _ _ st4 (loop _ rfl))
theorem pe_comp {elt tg iter : Expr} {ifs : List Expr} {scope : Scope} {pos : Pos} {M : List Str} {wi : TI} {g : BK TG} {tt : BK TT} {te : BK TE} (hc : X.calm = true) (S : CompSc X scope) (hi : PI X tg iter wi)
    (hg : ∀ C fp s₃ H₃, PG (blk X M scope C fp s₃ H₃) tg (g C fp s₃ H₃)) (ht : ∀ C fp s₃ H₃, PTs (blk X M scope C fp s₃ H₃) ifs (tt C fp s₃ H₃)) (he : ∀ C fp s₃ H₃, PE (blk X M scope C fp s₃ H₃) elt (te C fp s₃ H₃))
    (hs : ∀ x, foldedSetIterable iter X.env x = pure x := by intro _; rfl) : PE X (.ListComp elt [⟨tg, iter, ifs, 0⟩] scope pos) (tComp M.length wi g tt te) := by
  intro pins s σ H Q I h
  rw [eval_ListComp]
  refine comp_core hc S hi hg ht he hs I h fun e I3 f3 I6 q => ?_
  subst e
  obtain ⟨m6, hn6, _⟩ := I6.loc
  exact ⟨m6, hn6, fun h' hsb => ⟨.ref _, _, blk_out I3 f3 I6 hsb, rfl, q⟩⟩
end
end L2
set_option Elab.async false
set_option linter.all false
set_option maxRecDepth 100000
namespace L2
open PySem PySem.Spec PyProof.Rows
theorem same_upd {H1 H4 : Hp} {D : Addr} {o : HO} (hD : H1 D = none) (s : Same H1 H4) : Same H1 (upd H4 D o) := fun b u e => by
  rw [upd_ne (ne_of_none e hD)]
  exact s b u e
section
variable {X : Cx}
noncomputable def cntL (c : Nat) : List Nat → Nat
  | [] => 0
  | d :: r => (if d = c then 1 else 0) + cntL c r
theorem cnt_cntL (c : Nat) : ∀ l : List Nat, PyProof.Rows.cnt c l = (cntL c l : Int)
  | [] => rfl
  | d :: r => by
    rw [PyProof.Rows.cnt_cons, cnt_cntL c r]
    show _ = (((if d = c then 1 else 0) + cntL c r : Nat) : Int)
    by_cases h : d = c
    · rw [if_pos h, if_pos h]
      omega
    · rw [if_neg h, if_neg h]
      omega
theorem mt_count : MtR X "str.count" (fun x xs H Q => ∃ l c, x = .str (T l) ∧ xs = [.str (T [c])] ∧ Q (.int (cntL c l)) H) := by
  intro pins s σ H x xs v us Q I rx r h
  refine gate' fun gG hgG => ?_
  obtain ⟨l, c, rfl, rfl, q⟩ := h
  obtain ⟨t, rfl⟩ := (show ∃ t, v = Value.str (T l) t from rx)
  obtain ⟨u, rfl, ru⟩ := vals1 r
  obtain ⟨t', rfl⟩ := (show ∃ t, u = Value.str (T [c]) t from ru)
  refine hgG.go ?_
  clear hgG
  refine SC.count ?_
  have e : Txt.count (T l) (T [c]) = (cntL c l : Int) := (PyProof.Rows.count_cnt (T l) c).trans (cnt_cntL c l)
  rw [e]
  exact ⟨.int (cntL c l), H, I.tok _, ⟨_, rfl⟩, q⟩
theorem mt_index : MtR X "str.index" (fun x xs H Q => ∃ y z i rest, x = .str y ∧ xs = [.str z] ∧ Builtin.Str.occurrences y z 0 y.length 1 = i :: rest ∧ Q (.int (i : Nat)) H) := by
  intro pins s σ H x xs v us Q I rx r h
  refine gate' fun gG hgG => ?_
  obtain ⟨y, z, i, rest, rfl, rfl, ho, q⟩ := h
  obtain ⟨t, rfl⟩ := (show ∃ t, v = Value.str y t from rx)
  obtain ⟨u, rfl, ru⟩ := vals1 r
  obtain ⟨t', rfl⟩ := (show ∃ t, u = Value.str z t from ru)
  refine hgG.go ?_
  clear hgG
  exact SC.index ho ⟨.int i, H, I.tok _, ⟨_, rfl⟩, q⟩
theorem call_isT : CallR X (.builtin "isinstance") (fun xs H Q => ∃ x C t b, xs = [x, .ty C] ∧ TyOf X.K H x t ∧ PySem.W.kitOne X.K t (.type C) = some b ∧ Q (.bl b) H) := by
  intro pins s σ H xs us Q I r h
  refine gate' fun gG hgG => ?_
  obtain ⟨x, C, t, b, rfl, ty, e, q⟩ := h
  obtain ⟨u, w', rfl, ru, rw'⟩ := vals2 r
  refine hgG.go ?_
  clear hgG
  cases (show w' = Value.type C from rw')
  exact isinst_ok I ru ty e fun tk => ⟨.bl b, H, I.tok tk, rfl, q⟩
theorem rep_one (c : Nat) : ∀ k : Nat, (List.replicate k (#[c] : Array Nat)).foldl (· ++ ·) #[] = (List.replicate k c).toArray := by
  have key : ∀ (k : Nat) (acc : Array Nat), (List.replicate k (#[c] : Array Nat)).foldl (· ++ ·) acc = acc ++ (List.replicate k c).toArray := by
    intro k
    induction k with
    | zero => intro acc; simp
    | succ k ih =>
      intro acc
      rw [List.replicate_succ, List.foldl_cons, ih]
      refine Array.ext' ?_
      simp [List.replicate_succ]
  intro k
  rw [key]
  simp
theorem op_rep_sign : OpR X (binaryOp .Mult) (fun x y H Q => ∃ c k, x = .str (T [c]) ∧ y = .int k ∧ 0 ≤ k ∧ k ≤ 100000 ∧ Q (.str (T (List.replicate k.toNat c))) H) := by
  intro pins s σ H x y v u Q I rx ry h
  refine gate' fun gG hgG => ?_
  obtain ⟨c, k, rfl, rfl, h0, h1, q⟩ := h
  obtain ⟨t, rfl⟩ := (show ∃ t, v = Value.str (T [c]) t from rx)
  obtain ⟨tk, rfl⟩ := (show ∃ t, u = Value.int k t from ry)
  refine hgG.go ?_
  clear hgG
  have hl : (T [c]).length = 1 := T_len [c]
  refine PySem.P.mul_str ?_ (fun hk _ => ?_) (fun hk _ => ?_) ?_
  · rw [decide_eq_false (by omega), decide_eq_false (by omega)]
    rfl
  · rw [hl]
    have : (1 : Int) ≤ (2 ^ 63 - 1) / k := by
      rw [Int.le_ediv_iff_mul_le (by omega)]
      omega
    omega
  · rw [hl]
    unfold Builtin.Str.tooLong sizeLine
    refine decide_eq_false ?_
    have e : (2 : Nat) ^ 24 = 16777216 := by decide
    omega
  · by_cases hk : k < 1
    · rw [if_pos hk]
      have e : k = 0 := by omega
      subst e
      exact ⟨by decide, .str (T []), H, I.tok _, ⟨_, rfl⟩, q⟩
    · rw [if_neg hk]
      by_cases h2 : (k == 1 || (T [c]).length == 0) = true
      · rw [if_pos h2]
        have e : k = 1 := by
          rw [hl, Bool.or_eq_true] at h2
          rcases h2 with h2 | h2
          · exact eq_of_beq h2
          · exact absurd (eq_of_beq h2) (by decide)
        subst e
        exact ⟨.str (T [c]), H, I, ⟨_, rfl⟩, q⟩
      · rw [if_neg h2]
        have e : (⟨(List.replicate k.toNat (T [c]).cps).foldl (· ++ ·) #[]⟩ : Str) = T (List.replicate k.toNat c) := congrArg Str.mk (rep_one c k.toNat)
        rw [e]
        refine ⟨?_, .str (T (List.replicate k.toNat c)), H, I.tok _, ⟨_, rfl⟩, q⟩
        rw [T_len, List.length_replicate]
        have e : sizeLine = 16777216 := PySem.sizeLine_eq
        omega
theorem call_sum (hc : X.calm = true) : CallR X (.builtin "sum") (fun xs H Q => ∃ (p : Addr) (ns : List Int), xs = [.ref p] ∧ SqL X.K H p (ns.map V.int) ∧ Q (.int ns.sum) H) := by
  intro pins s σ H xs us Q I r h
  refine gate' fun gG hgG => ?_
  obtain ⟨p, ns, rfl, hS, q⟩ := h
  obtain ⟨u, rfl, ru⟩ := vals1 r
  refine hgG.go ?_
  clear hgG
  cases (show u = Value.ref p from ru)
  obtain ⟨its, rv, pl, _⟩ := I.list hS
  have hi := intsAre_of rv
  have hall := hi.allInts
  obtain ⟨xs, e⟩ := hall.items
  have hl := pl.isList
  rw [e] at hl
  have es : preSum (numAt xs) xs.size = ns.sum := by
    have e1 := nums_intItems (xs := xs)
    have e2 : numsOf its = ns := hi.numsOf
    have e3 : its.toArray.toList = its := rfl
    rw [← e2, ← e3, e, e1, preSum_eq, List.take_of_length_le (by simp)]
  refine sum_intListG (I.ok.hd hc) hl fun h' tk t' hk => ?_
  rw [es]
  exact ⟨.int ns.sum, H, I.kept hk, ⟨_, rfl⟩, q⟩
mutual
inductive DatV (K : PySem.W.Frag) (H : Hp) : V → PyData → Prop
  | int (i : Int) : DatV K H (.int i) (.int i)
  | str (x : Str) : DatV K H (.str x) (.str x)
  | non : DatV K H .non .none
  | tup {a : Addr} {xs : List V} {ds : List PyData} (h : SqT K H a xs) (hd : DatVs K H xs ds) : DatV K H (.ref a) (.tuple ds)
  | lst {a : Addr} {xs : List V} {ds : List PyData} (h : SqL K H a xs) (hd : DatVs K H xs ds) : DatV K H (.ref a) (.list ds)
inductive DatVs (K : PySem.W.Frag) (H : Hp) : List V → List PyData → Prop
  | nil : DatVs K H [] []
  | cons {x : V} {xs : List V} {d : PyData} {ds : List PyData} (h : DatV K H x d) (t : DatVs K H xs ds) : DatVs K H (x :: xs) (d :: ds)
end
mutual
theorem dat_reads {pins : List (Addr × Obj)} {σ : St} {H : Hp} {s : Shared} (I : Inv X pins σ H s) : ∀ {x : V} {d : PyData} {u : Value}, DatV X.K H x d → RelV x u → ∃ as, Reads s.heap u d as
  | _, _, u, .int i, r => by
    obtain ⟨t, rfl⟩ := (show ∃ t, u = Value.int i t from r)
    exact ⟨_, .int i t⟩
  | _, _, u, .str x, r => by
    obtain ⟨t, rfl⟩ := (show ∃ t, u = Value.str x t from r)
    exact ⟨_, .str x t⟩
  | _, _, u, .non, r => by
    cases (show u = Value.none from r)
    exact ⟨_, .none⟩
  | _, _, u, @DatV.tup _ _ a xs ds h hd, r => by
    cases (show u = Value.ref a from r)
    refine gate' fun gG hgG => ?_
    obtain ⟨its, rv, ⟨o, ho, hc, n, hdd⟩, _⟩ := I.tuple h
    obtain ⟨as, q⟩ := dat_readsAll I hd rv
    refine hgG.go ?_
    clear hgG
    exact ⟨as, reads_tuple_at ho hc hdd (by simpa using q)⟩
  | _, _, u, @DatV.lst _ _ a xs ds h hd, r => by
    cases (show u = Value.ref a from r)
    refine gate' fun gG hgG => ?_
    obtain ⟨its, rv, pl, _⟩ := I.list h
    obtain ⟨o, ho, hc, n, hdd⟩ := pl.isList
    obtain ⟨as, q⟩ := dat_readsAll I hd rv
    refine hgG.go ?_
    clear hgG
    exact ⟨_, reads_list_at ho hc hdd (by simpa using q)⟩
theorem dat_readsAll {pins : List (Addr × Obj)} {σ : St} {H : Hp} {s : Shared} (I : Inv X pins σ H s) : ∀ {xs : List V} {ds : List PyData} {us : List Value}, DatVs X.K H xs ds → Vals xs us → ∃ as, ReadsAll s.heap us ds as
  | _, _, _, .nil, r => by
    cases r
    exact ⟨_, .nil⟩
  | _, _, _, .cons h t, r => by
    cases r with
    | cons r1 r2 =>
      obtain ⟨as, q1⟩ := dat_reads I h r1
      obtain ⟨bs, q2⟩ := dat_readsAll I t r2
      exact ⟨_, .cons q1 q2⟩
end
theorem op_eqD (hu : X.A.units + 64 < cLine) : OpR X (compareOp .Eq) (fun x y H Q => ∃ d e, DatV X.K H x d ∧ DatV X.K H y e ∧ SeqAt.shaped d = true ∧ SeqAt.shaped e = true ∧ Q (.bl (PyData.eqv d e)) H) := by
  intro pins s σ H x y v u Q I rx ry h
  refine gate' fun gG hgG => ?_
  obtain ⟨d, e, hx, hy, sd, se, q⟩ := h
  obtain ⟨as, r1⟩ := dat_reads I hx rx
  obtain ⟨bs, r2⟩ := dat_reads I hy ry
  refine hgG.go ?_
  clear hgG
  exact eq_dataH r1 r2 sd se hu ⟨.bl _, H, I, rfl, q⟩
theorem op_neD (hu : X.A.units + 64 < cLine) : OpR X (compareOp .NotEq) (fun x y H Q => ∃ d e, DatV X.K H x d ∧ DatV X.K H y e ∧ SeqAt.shaped d = true ∧ SeqAt.shaped e = true ∧ Q (.bl (!PyData.eqv d e)) H) := by
  intro pins s σ H x y v u Q I rx ry h
  refine gate' fun gG hgG => ?_
  obtain ⟨d, e, hx, hy, sd, se, q⟩ := h
  obtain ⟨as, r1⟩ := dat_reads I hx rx
  obtain ⟨bs, r2⟩ := dat_reads I hy ry
  refine hgG.go ?_
  clear hgG
  exact ne_dataH r1 r2 sd se hu ⟨.bl _, H, I, rfl, q⟩
end
end L2
set_option Elab.async false
set_option linter.all false
set_option maxRecDepth 100000
namespace PySem
namespace F
end F
section
variable {prog : Program} {w : World} {A : Around} {E : Value → Shared → Prop} {s : Shared}
end
end PySem
set_option Elab.async false
set_option linter.all false
set_option maxRecDepth 100000
namespace L2
open PySem PySem.Spec PyProof.Rows
end L2
set_option Elab.async false
set_option linter.all false
set_option maxRecDepth 100000
namespace L2
open PySem PySem.Spec PyProof.Rows
section
variable {X : Cx} {o i : Expr} {pos : Pos} {td ty : TE}
end
end L2
namespace WM
noncomputable def Lt (c : Nat) : Prop := c = 110 ∨ c = 119 ∨ c = 115 ∨ c = 101
noncomputable def IsW (l : List Nat) : Prop := ∀ c ∈ l, Lt c
theorem isW_nil : IsW [] := fun _ h => nomatch h
theorem isW_cons {c : Nat} {l : List Nat} : IsW (c :: l) ↔ Lt c ∧ IsW l := by
  constructor
  · intro h
    exact ⟨h c List.mem_cons_self, fun d hd => h d (List.mem_cons_of_mem _ hd)⟩
  · rintro ⟨h1, h2⟩ d hd
    rcases List.mem_cons.mp hd with rfl | hd
    · exact h1
    · exact h2 d hd
noncomputable abbrev Pt := Int × Int
noncomputable def stepP (p : Pt) (c : Nat) : Pt :=
  if c = 110 then (p.1, p.2 + 1) else if c = 101 then (p.1 + 1, p.2) else if c = 115 then (p.1, p.2 - 1) else (p.1 - 1, p.2)
noncomputable def goP (p : Pt) (l : List Nat) : Pt := l.foldl stepP p
noncomputable def posOf (l : List Nat) : Pt := goP (0, 0) l
noncomputable def placesP : Pt → List Nat → List Pt
  | p, [] => [p]
  | p, c :: r => p :: placesP (stepP p c) r
noncomputable def plOf (l : List Nat) : List Pt := placesP (0, 0) l
theorem goP_append (p : Pt) (a b : List Nat) : goP p (a ++ b) = goP (goP p a) b := List.foldl_append
theorem goP_snoc (p : Pt) (l : List Nat) (c : Nat) : goP p (l ++ [c]) = stepP (goP p l) c := by
  rw [goP_append]
  rfl
theorem placesP_snoc : ∀ (l : List Nat) (p : Pt) (c : Nat), placesP p (l ++ [c]) = placesP p l ++ [stepP (goP p l) c]
  | [], p, c => rfl
  | d :: r, p, c => by
    show p :: placesP (stepP p d) (r ++ [c]) = p :: placesP (stepP p d) r ++ [stepP (goP (stepP p d) r) c]
    rw [placesP_snoc r]
    rfl
theorem placesP_length : ∀ (l : List Nat) (p : Pt), (placesP p l).length = l.length + 1
  | [], _ => rfl
  | c :: r, p => by
    show (placesP (stepP p c) r).length + 1 = r.length + 1 + 1
    rw [placesP_length r]
theorem placesP_last : ∀ (l : List Nat) (p : Pt), ∃ pre, placesP p l = pre ++ [goP p l]
  | [], p => ⟨[], rfl⟩
  | c :: r, p => by
    obtain ⟨pre, e⟩ := placesP_last r (stepP p c)
    exact ⟨p :: pre, by show p :: placesP (stepP p c) r = _; rw [e]; rfl⟩
noncomputable def vec (c : Nat) : Pt := if c = 110 then (0, 1) else if c = 101 then (1, 0) else if c = 115 then (0, -1) else (-1, 0)
theorem stepP_vec (p : Pt) (c : Nat) : stepP p c = (p.1 + (vec c).1, p.2 + (vec c).2) := by
  unfold stepP vec
  split
  · simp
  · split
    · simp
    · split
      · refine Prod.ext ?_ ?_
        · simp
        · show p.2 - 1 = p.2 + -1
          omega
      · refine Prod.ext ?_ ?_
        · show p.1 - 1 = p.1 + -1
          omega
        · simp
theorem goP_add : ∀ (l : List Nat) (p : Pt), goP p l = (p.1 + (posOf l).1, p.2 + (posOf l).2)
  | [], p => by
    show p = (p.1 + 0, p.2 + 0)
    simp
  | c :: r, p => by
    have h1 := goP_add r (stepP p c)
    have h2 := goP_add r (stepP (0, 0) c)
    have e1 : goP p (c :: r) = goP (stepP p c) r := rfl
    have e2 : posOf (c :: r) = goP (stepP (0, 0) c) r := rfl
    rw [e1, e2, h1, h2, stepP_vec, stepP_vec (0, 0)]
    refine Prod.ext ?_ ?_
    · show p.1 + (vec c).1 + (posOf r).1 = p.1 + (0 + (vec c).1 + (posOf r).1)
      omega
    · show p.2 + (vec c).2 + (posOf r).2 = p.2 + (0 + (vec c).2 + (posOf r).2)
      omega
theorem posOf_cons (c : Nat) (r : List Nat) : posOf (c :: r) = ((vec c).1 + (posOf r).1, (vec c).2 + (posOf r).2) := by
  have h := goP_add r (stepP (0, 0) c)
  have e2 : posOf (c :: r) = goP (stepP (0, 0) c) r := rfl
  rw [e2, h, stepP_vec]
  refine Prod.ext ?_ ?_
  · show 0 + (vec c).1 + (posOf r).1 = (vec c).1 + (posOf r).1
    omega
  · show 0 + (vec c).2 + (posOf r).2 = (vec c).2 + (posOf r).2
    omega
noncomputable def cntC (c : Nat) : List Nat → Nat
  | [] => 0
  | d :: r => (if d = c then 1 else 0) + cntC c r
theorem cntC_cons (c d : Nat) (r : List Nat) : cntC c (d :: r) = (if d = c then 1 else 0) + cntC c r := rfl
theorem posOf_cnt : ∀ {l : List Nat}, IsW l → posOf l = ((cntC 101 l : Int) - (cntC 119 l : Int), (cntC 110 l : Int) - (cntC 115 l : Int))
  | [], _ => rfl
  | c :: r, h => by
    obtain ⟨h1, h2⟩ := isW_cons.mp h
    rw [posOf_cons, posOf_cnt h2, cntC_cons, cntC_cons, cntC_cons, cntC_cons]
    rcases h1 with rfl | rfl | rfl | rfl
    all_goals
      refine Prod.ext ?_ ?_
      · simp [vec]
        try omega
      · simp [vec]
        try omega
noncomputable def ix (c : Nat) : Nat := if c = 110 then 0 else if c = 119 then 1 else if c = 115 then 2 else 3
noncomputable def lw (i : Nat) : Nat := if i = 0 then 110 else if i = 1 then 119 else if i = 2 then 115 else 101
noncomputable def tn (q : Nat) (c : Nat) : Nat := lw ((ix c + q) % 4)
theorem mod_shift (i : Nat) (b : Int) (n : Nat) (hn : 0 < n) : ((i : Int) + b) % (n : Int) = (((i + (b % (n : Int)).toNat) % n : Nat) : Int) := by
  have h0 : 0 ≤ b % (n : Int) := Int.emod_nonneg _ (by omega)
  have e : (((i + (b % (n : Int)).toNat) % n : Nat) : Int) = ((i : Int) + (b % (n : Int))) % (n : Int) := by
    rw [Int.natCast_emod, Int.natCast_add, Int.toNat_of_nonneg h0]
  rw [e, Int.add_emod, Int.add_emod (i : Int) (b % (n : Int)), Int.emod_emod_of_dvd b (Int.dvd_refl _)]
end WM
set_option Elab.async false
set_option linter.all false
set_option maxRecDepth 100000
set_option maxHeartbeats 4000000
namespace SW
open PySem L2 WM
theorem lit_n : (Str.ofString "n") = T [110] := by decide +kernel
theorem lit_e : (Str.ofString "e") = T [101] := by decide +kernel
theorem lit_s : (Str.ofString "s") = T [115] := by decide +kernel
theorem lit_w : (Str.ofString "w") = T [119] := by decide +kernel
theorem lit_0 : (Str.ofString "") = T [] := by decide +kernel
theorem lit_nwse : (Str.ofString "nwse") = T [110, 119, 115, 101] := by decide +kernel
theorem lit_nesw : (Str.ofString "nesw") = T [110, 101, 115, 119] := by decide +kernel
theorem strT {l m : List Nat} : decide (V.str (T l) = V.str (T m)) = decide (l = m) := by
  by_cases h : l = m
  · subst h
    rw [decide_eq_true rfl, decide_eq_true rfl]
  · rw [decide_eq_false h, decide_eq_false fun z => h (T_inj (V.str.inj z))]
theorem occ_ix {c : Nat} (h : Lt c) : ∃ rest, Builtin.Str.occurrences (T [110, 119, 115, 101]) (T [c]) 0 (T [110, 119, 115, 101]).length 1 = ix c :: rest := by
  rcases h with rfl | rfl | rfl | rfl
  · exact ⟨[], by decide +kernel⟩
  · exact ⟨[], by decide +kernel⟩
  · exact ⟨[], by decide +kernel⟩
  · exact ⟨[], by decide +kernel⟩
theorem occ_in {c : Nat} (h : Lt c) : (Builtin.Str.occurrences (T [110, 119, 115, 101]) (T [c]) 0 (T [110, 119, 115, 101]).length 1).isEmpty = false := by
  obtain ⟨rest, e⟩ := occ_ix h
  rw [e]
  rfl
theorem lw_at {i : Nat} (h : i < 4) : ([110, 119, 115, 101] : List Nat)[i]? = some (lw i) := by
  rcases (by omega : i = 0 ∨ i = 1 ∨ i = 2 ∨ i = 3) with rfl | rfl | rfl | rfl <;> rfl
noncomputable def compB (N : List Str) (fsc sc : Scope) : Bool :=
  decide (sc.kind = .function) && sc.names.all (fun y => decide (y.2 ≠ .cell)) && sc.names.all (fun y => decide (y.2 = .local → sc.names.lookup y.1 = some .local)) &&
    sc.names.all (fun y => decide (y.2 = .free → fsc.names.lookup y.1 = some .cell ∨ fsc.names.lookup y.1 = some .free)) && N.all fun x => decide (sc.names.lookup x ≠ some .local)
theorem compSc_of {X : Cx} {sc : Scope} (N : List Str) (fsc : Scope) (hN : X.N = N) (hs : X.env.scope = fsc) (hb : compB N fsc sc = true) : CompSc X sc := by
  unfold compB at hb
  simp only [Bool.and_eq_true, List.all_eq_true, decide_eq_true_eq] at hb
  obtain ⟨⟨⟨⟨h1, h2⟩, h3⟩, h4⟩, h5⟩ := hb
  refine ⟨h1, h2, h3, fun y hy e => ?_, fun x hx => ?_⟩
  · have := h4 y hy e
    rw [← hs] at this
    exact this
  · rw [hN] at hx
    exact h5 x hx
theorem nd_of {X : Cx} (N : List Str) (hN : X.N = N) (hb : N.Nodup) : X.N.Nodup := by
  rw [hN]
  exact hb
structure Df (K : PySem.W.Frag) (mg : Str → Option Value) (x : Str) (st : Stmt) (ps : List Str) (f : Addr) (fd : FuncData) : Prop where
  fn : Fun K x x st f fd
  bi : Binds K fd ps []
  at_ : mg x = some (.ref f)
structure Txt (K : PySem.W.Frag) (mg : Str → Option Value) : Prop where
  isi : mg "isinstance" = none
  str : mg "str" = none
  int : mg "int" = none
  bool : mg "bool" = none
  lw : ∃ t, mg "LEFTWARD" = some (.str "nwse" t)
theorem kit_str (K : PySem.W.Frag) : PySem.W.kitOne K (.type "str") (.type "str") = some true := by
  unfold PySem.W.kitOne
  rw [if_pos (by decide +kernel)]
theorem kit_int_bool (K : PySem.W.Frag) : PySem.W.kitOne K (.type "int") (.type "bool") = some false := by
  unfold PySem.W.kitOne
  rw [if_neg (by decide +kernel)]
  first | rfl | decide +kernel
theorem kit_int (K : PySem.W.Frag) : PySem.W.kitOne K (.type "int") (.type "int") = some true := by
  unfold PySem.W.kitOne
  rw [if_pos (by decide +kernel)]
section
variable {P : Program} {w : World} {K : PySem.W.Frag} {mg : Str → Option Value} {base : Heap}
noncomputable def spCheckWalk : Sp := fun vs H Q _ => ∃ l, vs = [.str (T l)] ∧ IsW l ∧ Q .non H
noncomputable def spStepped (K : PySem.W.Frag) : Sp := fun vs H Q _ => ∃ (a : Addr) (p : Pt) (c : Nat), vs = [.ref a, .str (T [c])] ∧ Lt c ∧ SqT K H a [.int p.1, .int p.2] ∧ ∀ b, H b = none → Q (.ref b) (upd H b (.tup [.int (stepP p c).1, .int (stepP p c).2]))
theorem two_le : 2 ≤ sizeLine := by decide
noncomputable abbrev Tups (H : Hp) : List Addr → List Pt → Prop := Paired fun a (q : Pt) => H a = some (.tup [.int q.1, .int q.2])
theorem Tups.mono {H H' : Hp} {as : List Addr} {ps : List Pt} (h : Tups H as ps) (s : ∀ b xs, H b = some (.tup xs) → H' b = some (.tup xs)) : Tups H' as ps := Paired.mapP h fun a q e => s a _ e
noncomputable def PlAt (H : Hp) (d : Addr) (ps : List Pt) : Prop := ∃ as : List Addr, H d = some (.lst (as.map V.ref)) ∧ Tups H as ps
noncomputable def spPlaces : Sp := fun vs H Q _ => ∃ l, vs = [.str (T l)] ∧ IsW l ∧ l.length ≤ 1000 ∧ ∀ d H', H d = none → Same H H' → PlAt H' d (plOf l) → Q (.ref d) H'
noncomputable def spEnd : Sp := fun vs H Q _ => ∃ l, vs = [.str (T l)] ∧ IsW l ∧ ∀ b, H b = none → Q (.ref b) (upd H b (.tup [.int (posOf l).1, .int (posOf l).2]))
theorem cntL_eq (c : Nat) : ∀ l : List Nat, cntL c l = cntC c l
  | [] => rfl
  | d :: r => by
    show (if d = c then 1 else 0) + cntL c r = (if d = c then 1 else 0) + cntC c r
    rw [cntL_eq c r]
end
section
variable {P : Program} {w : World} {K : PySem.W.Frag} {mg : Str → Option Value} {base : Heap}
noncomputable def spTurned : Sp := fun vs H Q _ => ∃ (c : Nat) (q : Int), vs = [.str (T [c]), .int q] ∧ Lt c ∧ Q (.str (T [tn (q % 4).toNat c])) H
theorem turn_ix (c : Nat) (q : Int) : (((ix c : Nat) : Int) + q) % 4 = (((ix c + (q % 4).toNat) % 4 : Nat) : Int) := mod_shift (ix c) q 4 (by decide)
end
noncomputable def mirEs (w : World) (t1 t2 t3 t4 u1 u2 u3 u4 : Tok) : Array DictEntry := #[⟨PyData.keyHash w.params "n", .str "n" t1, .str "n" u1⟩, ⟨PyData.keyHash w.params "e", .str "e" t2, .str "w" u2⟩, ⟨PyData.keyHash w.params "s", .str "s" t3, .str "s" u3⟩, ⟨PyData.keyHash w.params "w", .str "w" t4, .str "e" u4⟩]
structure TxtM (K : PySem.W.Frag) (mg : Str → Option Value) (w : World) : Prop where
  at_ : ∃ a n t1 t2 t3 t4 u1 u2 u3 u4, mg "MIRROR" = some (.ref a) ∧ K.lookup a = some ⟨.type "dict", none, .dict (mirEs w t1 t2 t3 t4 u1 u2 u3 u4) n, #[]⟩
section
variable {P : Program} {w : World} {K : PySem.W.Frag} {mg : Str → Option Value} {base : Heap}
theorem eqv_pt (p q : Pt) : PyData.eqv (.tuple [.int p.1, .int p.2]) (.tuple [.int q.1, .int q.2]) = decide (p = q) := by
  by_cases h : p = q
  · subst h
    simp [PyData.eqv, PyData.eqvAll]
  · rw [decide_eq_false h]
    have : ¬ (p.1 = q.1 ∧ p.2 = q.2) := fun z => h (Prod.ext z.1 z.2)
    simp [PyData.eqv, PyData.eqvAll]
    intro e1 e2
    exact this ⟨e1, e2⟩
theorem shaped_pt (p : Pt) : SeqAt.shaped (.tuple [.int p.1, .int p.2]) = true := rfl
theorem dat_pt {H : Hp} {a : Addr} {p : Pt} (h : H a = some (.tup [.int p.1, .int p.2])) : DatV K H (.ref a) (.tuple [.int p.1, .int p.2]) := .tup (SqT.of h) (.cons (.int _) (.cons (.int _) .nil))
noncomputable def spCheckClosed : Sp := fun vs H Q _ => ∃ (l : List Nat), vs = [.str (T l)] ∧ IsW l ∧ posOf l = (0, 0) ∧ ∀ H', Same H H' → Q .non H'
end
structure PEw (X : Cx) (e : Expr) (t : TE) : Prop where
  out : PE X e t
structure PSw (X : Cx) (st : Stmt) (t : TS) : Prop where
  out : PS X st t
structure PSsw (X : Cx) (sts : List Stmt) (t : TS) : Prop where
  out : PSs X sts t
section
variable {X : Cx} {o i e tg : Expr} {pos pos' : Pos} {td ty te : TE} {g : TG} {st : Stmt} {rest : List Stmt} {t u : TS}
theorem pssw_cons (h1 : PSw X st t) (h2 : PSs X rest u) : PSsw X (st :: rest) (tSeq t u) := ⟨pss_cons h1.out h2⟩
theorem pss_consW (h1 : PS X st t) (h2 : PSsw X rest u) : PSs X (st :: rest) (tSeq t u) := pss_cons h1 h2.out
theorem psw_set {i : Nat} {x : Str} (hN : X.N.Nodup) (hi : X.N[i]? = some x) (hx : Loc X.env.scope x) (he : PEw X e te) (hs : swapsWith e (some (.Name x pos')) pos.line X.env = pure false := by rfl) (hf : X.fn x = true ∨ X.env.scope.names.lookup x = some .local := by first | exact .inl rfl | exact .inr rfl | assumption) :
    PSw X (.Assign [.Name x pos'] e pos) (tAsg te (gName i)) := ⟨ps_set hN hi hx he.out hs hf⟩
end
section
variable {P : Program} {w : World} {K : PySem.W.Frag} {mg : Str → Option Value} {base : Heap}
theorem same_new {H : Hp} {b : Addr} {o : HO} (h : H b = none) : Same H (upd H b o) := same_upd h (Same.refl _)
theorem tups_last {H : Hp} {as : List Addr} {pre : List Pt} {p : Pt} (h : Tups H as (pre ++ [p])) : ∃ as' q, as = as' ++ [q] ∧ H q = some (.tup [.int p.1, .int p.2]) := by
  induction pre generalizing as with
  | nil =>
    change Tups H as [p] at h
    cases h with | cons h t =>
    cases t
    exact ⟨[], _, rfl, h⟩
  | cons x pre ih =>
    change Tups H as (x :: (pre ++ [p])) at h
    cases h with | cons h t =>
    obtain ⟨as', q, rfl, hq⟩ := ih t
    exact ⟨_ :: as', q, rfl, hq⟩
end
section
variable {P : Program} {w : World} {K : PySem.W.Frag} {mg : Str → Option Value} {base : Heap}
end
theorem kit_tuple (K : PySem.W.Frag) : PySem.W.kitOne K (.type "tuple") (.type "tuple") = some true := by
  unfold PySem.W.kitOne
  rw [if_pos (by decide +kernel)]
end SW
namespace L2
open PySem
noncomputable def partsV (H : Hp) : V → List V
  | .ref a => match H a with
    | some (.tup xs) => xs
    | _ => []
  | _ => []
theorem partsV_eq {H : Hp} {a : Addr} {xs : List V} (h : H a = some (.tup xs)) : partsV H (.ref a) = xs := by
  unfold partsV
  dsimp only
  rw [h]
theorem pss_consL {X : Cx} {st : Stmt} {rest : List Stmt} {t u : TS} (h1 : PS X st t) (h2 : PSs X rest u) : PSs X (st :: rest) (let r := u; tSeq t r) := pss_cons h1 h2
theorem lX {x : Cx} {b : List Stmt} {D : Ends} {σ : L2.St} {H : Hp} (h : let X := x; let E := D; ∃ t, PSs X b t ∧ t E σ H) : ∃ t, PSs x b t ∧ t D σ H := h
theorem len1 {α : Type} {p : List α → Prop} (h : ∀ a, p [a]) : ∀ us : List α, us.length = 1 → p us
  | [], e => nomatch e
  | a :: r, e => by
    cases List.eq_nil_of_length_eq_zero (Nat.succ.inj e)
    exact h a
theorem len2 {α : Type} {p : List α → Prop} (h : ∀ a b, p [a, b]) : ∀ us : List α, us.length = 2 → p us
  | [], e => nomatch e
  | a :: r, e => len1 (p := fun r => p (a :: r)) (h a) r (Nat.succ.inj e)
theorem len3 {α : Type} {p : List α → Prop} (h : ∀ a b c, p [a, b, c]) : ∀ us : List α, us.length = 3 → p us
  | [], e => nomatch e
  | a :: r, e => len2 (p := fun r => p (a :: r)) (h a) r (Nat.succ.inj e)
end L2
set_option Elab.async false
set_option linter.all false
set_option maxRecDepth 100000
set_option maxHeartbeats 1000000
namespace L2
open PySem PySem.Spec PyProof PyProof.Rows
section
variable {X : Cx} {e st : Expr} {te ts : TE} {lo hi : Option Expr} {tl th : TO} {pos p2 : Pos}
end
noncomputable def tMrg (t : TS) : TS := fun D σ H => ∃ P : St → Hp → Prop, t { D with nx := P } σ H ∧ ∀ σ' H', P σ' H' → D.nx σ' H'
theorem ps_mrg {X : Cx} {st : Stmt} {t : TS} (h : PS X st t) : PS X st (tMrg t) := by
  intro pins s σ H D I q
  obtain ⟨P, q1, q2⟩ := q
  refine thn (h pins s σ H _ I q1) fun f s' r => ?_
  cases f with
  | next =>
    obtain ⟨σ', H', I', r'⟩ := r
    exact ⟨σ', H', I', q2 _ _ r'⟩
  | brk => exact r
  | cont => exact r
  | ret u => exact r
end L2
namespace WM
end WM
namespace WM
noncomputable def b01 (b : Bool) : Int := if b then 1 else 0
noncomputable def eastC (q p : Pt) (c : Nat) : Int :=
  if c = 110 then b01 (decide (q.1 < p.1 ∧ p.2 = q.2)) else if c = 115 then -b01 (decide (q.1 < p.1 ∧ p.2 - 1 = q.2)) else 0
noncomputable def northC (q p : Pt) (c : Nat) : Int :=
  if c = 119 then b01 (decide (q.2 < p.2 ∧ p.1 - 1 = q.1)) else if c = 101 then -b01 (decide (q.2 < p.2 ∧ p.1 = q.1)) else 0
noncomputable def sumC (f : Pt → Nat → Int) : Pt → List Nat → Int
  | _, [] => 0
  | p, c :: l => f p c + sumC f (stepP p c) l
noncomputable def aroundE (q : Pt) (l : List Nat) : Int := sumC (eastC q) (0, 0) l
noncomputable def aroundN (q : Pt) (l : List Nat) : Int := sumC (northC q) (0, 0) l
theorem sumC_pot {f g : Pt → Nat → Int} {φ : Pt → Int} (h : ∀ p c, Lt c → f p c - g p c = φ (stepP p c) - φ p) : ∀ {l : List Nat} (p : Pt), IsW l → sumC f p l - sumC g p l = φ (goP p l) - φ p
  | [], p, _ => by show (0 : Int) - 0 = φ p - φ p; omega
  | c :: l, p, hl => by
    obtain ⟨h1, h2⟩ := isW_cons.mp hl
    have ih := sumC_pot h (stepP p c) h2
    have h3 := h p c h1
    show f p c + sumC f (stepP p c) l - (g p c + sumC g (stepP p c) l) = φ (goP (stepP p c) l) - φ p
    omega
noncomputable def quad (q p : Pt) : Int := b01 (decide (q.1 < p.1 ∧ q.2 < p.2))
theorem quad_step (q p : Pt) (c : Nat) (h : Lt c) : eastC q p c - northC q p c = quad q (stepP p c) - quad q p := by
  obtain ⟨x, y⟩ := q
  obtain ⟨X, Y⟩ := p
  rcases h with rfl | rfl | rfl | rfl
  · simp only [eastC, northC, quad, b01, stepP, decide_eq_true_eq]
    simp (decide := true) only [if_true, if_false]
    repeat' split
    all_goals omega
  · simp only [eastC, northC, quad, b01, stepP, decide_eq_true_eq]
    simp (decide := true) only [if_true, if_false]
    repeat' split
    all_goals omega
  · simp only [eastC, northC, quad, b01, stepP, decide_eq_true_eq]
    simp (decide := true) only [if_true, if_false]
    repeat' split
    all_goals omega
  · simp only [eastC, northC, quad, b01, stepP, decide_eq_true_eq]
    simp (decide := true) only [if_true, if_false]
    repeat' split
    all_goals omega
theorem around_both {q : Pt} {l : List Nat} (h : IsW l) (h0 : posOf l = (0, 0)) : aroundE q l = aroundN q l := by
  have := sumC_pot (quad_step q) (0, 0) h
  have e : goP (0, 0) l = (0, 0) := h0
  rw [e] at this
  unfold aroundE aroundN
  omega
end WM
set_option Elab.async false
set_option linter.all false
set_option maxRecDepth 100000
set_option maxHeartbeats 4000000
namespace SW
open PySem L2 WM
theorem placesP_get : ∀ {l : List Nat} {p : Pt} {i : Nat}, i ≤ l.length → (placesP p l)[i]? = some (goP p (l.take i))
  | [], _, 0, _ => rfl
  | _ :: _, _, 0, _ => rfl
  | c :: l, p, i + 1, h => by
    show (placesP (stepP p c) l)[i]? = _
    rw [placesP_get (l := l) (by simpa using h)]
    rfl
theorem plOf_get {l : List Nat} {i : Nat} (h : i ≤ l.length) : (plOf l)[i]? = some (posOf (l.take i)) := placesP_get h
theorem tups_at {H : Hp} : ∀ {as : List Addr} {ps : List Pt} {i : Nat} {p : Pt}, Tups H as ps → ps[i]? = some p → ∃ a, (as.map V.ref)[i]? = some (.ref a) ∧ H a = some (.tup [.int p.1, .int p.2])
  | _, _, _, _, .nil, e => by simp at e
  | _, _, 0, _, .cons h _, e => by
    simp at e
    subst e
    exact ⟨_, rfl, h⟩
  | _, _, i + 1, p, .cons _ t, e => by
    obtain ⟨a, h1, h2⟩ := tups_at (i := i) t (by simpa using e)
    exact ⟨a, by simpa using h1, h2⟩
theorem PlAt.at {K : PySem.W.Frag} {H : Hp} {d : Addr} {l : List Nat} {i : Nat} (h : PlAt H d (plOf l)) (hi : i ≤ l.length) : ∃ xs a, SqL K H d xs ∧ xs[i]? = some (.ref a) ∧ H a = some (.tup [.int (posOf (l.take i)).1, .int (posOf (l.take i)).2]) := by
  obtain ⟨as, h1, h2⟩ := h
  obtain ⟨a, h3, h4⟩ := tups_at h2 (plOf_get hi)
  exact ⟨_, a, SqL.of h1, h3, h4⟩
end SW
set_option Elab.async false
set_option linter.all false
set_option maxRecDepth 100000
set_option maxHeartbeats 1000000
namespace L2
open PySem PySem.Spec PyProof.Rows
noncomputable def TSame (H H' : Hp) : Prop := ∀ b xs, H b = some (.tup xs) → H' b = some (.tup xs)
theorem Same.tup {H H' : Hp} (s : Same H H') : TSame H H' := fun b xs e => s b _ e
theorem TSame.trans {H H' H'' : Hp} (s : TSame H H') (t : TSame H' H'') : TSame H H'' := fun b xs e => t b xs (s b xs e)
theorem tsame_lst {H : Hp} {d : Addr} {ys : List V} {o : HO} (h : H d = some (.lst ys)) : TSame H (upd H d o) := fun b xs e => by
  rw [upd_ne (ne_of e h (by intro z; cases z))]
  exact e
theorem comp_rel {J : It} {xs : List V} {k : Nat} {g : BK TG} {te : BK TE} {σ : St} {H1 : Hp} {Q : VK} (sl : V → St) (hsl : ∀ x, (sl x).length = k) (hsz : xs.length ≤ sizeLine)
    (hgo : ∀ i H2, Same H1 H2 → i < xs.length → J.go i H2 ∧ ∀ x H3, J.yld i H2 x H3 → H3 = H2 ∧ xs[i]? = some x) (hst : ∀ H2, Same H1 H2 → J.stop xs.length H2)
    (hg : ∀ C fp s₀ H₀ (i : Nat) x, xs[i]? = some x → ∀ H3 (R : St → Hp → Prop), Same H1 H3 → R (σ ++ sl x) H3 → g C fp s₀ H₀ x (σ ++ List.replicate k none) H3 R)
    (Rl : Nat → V → Hp → Prop) (hR : ∀ i y H H', Rl i y H → TSame H H' → Rl i y H')
    (hel : ∀ C fp s₀ H₀ (i : Nat) x, xs[i]? = some x → ∀ H3 (R : VK), Same H1 H3 → (∀ y H4, Same H3 H4 → Rl i y H4 → R y H4) → te C fp s₀ H₀ (σ ++ sl x) H3 R)
    (hq : ∀ D ys H', H1 D = none → Same H1 H' → H' D = some (.lst ys) → ys.length = xs.length → (∀ (i : Nat) y, ys[i]? = some y → Rl i y H') → Q (.ref D) H') :
    CompIn k J g (fun _ _ _ _ => tTrue) te σ H1 Q := by
  unfold CompIn
  intro D hD
  refine ⟨fun i m ys H2 => m = xs.length - i ∧ i ≤ xs.length ∧ ys.length = i ∧ Same H1 H2 ∧ H2 D = some (.lst ys) ∧ ∀ (j : Nat) y, ys[j]? = some y → Rl j y H2, ⟨xs.length, by simp, Nat.zero_le _, rfl, same_upd hD (Same.refl _), upd_same, fun j y h => by simp at h⟩, ?_⟩
  rintro i m ys H2 ⟨rfl, hi, hlen, s2, hDl, hrel⟩
  refine ⟨hDl, ?_⟩
  by_cases hlt : i < xs.length
  · refine .inr ⟨(hgo i H2 s2 hlt).1, fun x H3 y C fp s₀ H₀ => ?_⟩
    obtain ⟨rfl, hx⟩ := (hgo i H2 s2 hlt).2 x H3 y
    refine hg C fp s₀ H₀ i x hx H3 _ s2 ⟨⟨sl x, rfl, hsl x⟩, ?_⟩
    unfold tTrue
    dsimp only
    rw [if_pos rfl]
    refine hel C fp s₀ H₀ i x hx H3 _ s2 fun y H4 s4 hy => ⟨s4 D _ hDl, by omega, xs.length - (i + 1), by omega, rfl, hlt, by rw [List.length_append, hlen]; rfl, same_upd hD (s2.trans s4), upd_same, fun j z hz => ?_⟩
    have tS : TSame H4 (upd H4 D (.lst (ys ++ [y]))) := tsame_lst (s4 D _ hDl)
    rcases Nat.lt_or_ge j ys.length with z1 | z1
    · rw [List.getElem?_append_left z1] at hz
      exact hR j z _ _ (hrel j z hz) (s4.tup.trans tS)
    · rw [List.getElem?_append_right z1] at hz
      have ej : j - ys.length = 0 := by
        cases hjj : j - ys.length with
        | zero => rfl
        | succ q => rw [hjj] at hz; simp at hz
      rw [ej] at hz
      have ez : y = z := by simpa using hz
      have ej2 : j = i := by omega
      rw [← ez, ej2]
      exact hR _ _ _ _ hy tS
  · have e : i = xs.length := by omega
    subst e
    exact .inl ⟨hst H2 s2, hq D ys H2 hD s2 hDl hlen hrel⟩
theorem comp_relL {K : PySem.W.Frag} {a : Addr} {xs : List V} {k : Nat} {g : BK TG} {te : BK TE} {σ : St} {H1 : Hp} {Q : VK} (sl : V → St) (hsl : ∀ x, (sl x).length = k) (hsz : xs.length ≤ sizeLine) (hl : SqL K H1 a xs)
    (hg : ∀ C fp s₀ H₀ (i : Nat) x, xs[i]? = some x → ∀ H3 (R : St → Hp → Prop), Same H1 H3 → R (σ ++ sl x) H3 → g C fp s₀ H₀ x (σ ++ List.replicate k none) H3 R)
    (Rl : Nat → V → Hp → Prop) (hR : ∀ i y H H', Rl i y H → TSame H H' → Rl i y H')
    (hel : ∀ C fp s₀ H₀ (i : Nat) x, xs[i]? = some x → ∀ H3 (R : VK), Same H1 H3 → (∀ y H4, Same H3 H4 → Rl i y H4 → R y H4) → te C fp s₀ H₀ (σ ++ sl x) H3 R)
    (hq : ∀ D ys H', H1 D = none → Same H1 H' → H' D = some (.lst ys) → ys.length = xs.length → (∀ (i : Nat) y, ys[i]? = some y → Rl i y H') → Q (.ref D) H') :
    CompIn k (Itl K a) g (fun _ _ _ _ => tTrue) te σ H1 Q :=
  comp_rel sl hsl hsz (fun i H2 s2 hi => ⟨⟨xs, xs[i], s2.seq hl, by simp [hi]⟩, fun x H3 y => ⟨y.1, y.2 xs (s2.seq hl)⟩⟩) (fun H2 s2 => ⟨xs, s2.seq hl, Nat.le_refl _⟩) hg Rl hR hel hq
theorem comp_relR {m k : Nat} {lo : Int} {g : BK TG} {te : BK TE} {σ : St} {H1 : Hp} {Q : VK} (sl : V → St) (hsl : ∀ x, (sl x).length = k) (hsz : m ≤ sizeLine)
    (hg : ∀ C fp s₀ H₀ (i : Nat), i < m → ∀ H3 (R : St → Hp → Prop), Same H1 H3 → R (σ ++ sl (.int (lo + i))) H3 → g C fp s₀ H₀ (.int (lo + i)) (σ ++ List.replicate k none) H3 R)
    (Rl : Nat → V → Hp → Prop) (hR : ∀ i y H H', Rl i y H → TSame H H' → Rl i y H')
    (hel : ∀ C fp s₀ H₀ (i : Nat), i < m → ∀ H3 (R : VK), Same H1 H3 → (∀ y H4, Same H3 H4 → Rl i y H4 → R y H4) → te C fp s₀ H₀ (σ ++ sl (.int (lo + i))) H3 R)
    (hq : ∀ D ys H', H1 D = none → Same H1 H' → H' D = some (.lst ys) → ys.length = m → (∀ (i : Nat) y, ys[i]? = some y → Rl i y H') → Q (.ref D) H') :
    CompIn k (Itr lo m) g (fun _ _ _ _ => tTrue) te σ H1 Q := by
  have key : ∀ i, i < m → ((List.range m).map fun k : Nat => V.int (lo + k))[i]? = some (.int (lo + i)) := fun i hi => by
    rw [List.getElem?_map, List.getElem?_range hi]
    rfl
  have hin : ∀ i x, ((List.range m).map fun k : Nat => V.int (lo + k))[i]? = some x → i < m ∧ x = .int (lo + i) := fun i x hx => by
    by_cases hi : i < m
    · rw [key i hi] at hx
      cases hx
      exact ⟨hi, rfl⟩
    · rw [List.getElem?_eq_none (by rw [List.length_map, List.length_range]; omega)] at hx
      cases hx
  have hlen : ((List.range m).map fun k : Nat => V.int (lo + k)).length = m := by rw [List.length_map, List.length_range]
  refine comp_rel (xs := (List.range m).map fun k : Nat => V.int (lo + k)) sl hsl (by rw [hlen]; exact hsz) (fun i H2 _ hi => ?_) (fun H2 _ => ?_) (fun C fp s₀ H₀ i x hx => ?_) Rl hR (fun C fp s₀ H₀ i x hx => ?_) (fun D ys H' h1 h2 h3 h4 h5 => hq D ys H' h1 h2 h3 (by rw [h4, hlen]) h5)
  · rw [hlen] at hi
    refine ⟨hi, fun x H3 y => ?_⟩
    obtain ⟨e, rfl⟩ := y
    exact ⟨e, key i hi⟩
  · show m ≤ _
    rw [hlen]
    exact Nat.le_refl _
  · obtain ⟨hi, rfl⟩ := hin i x hx
    exact hg C fp s₀ H₀ i hi
  · obtain ⟨hi, rfl⟩ := hin i x hx
    exact hel C fp s₀ H₀ i hi
theorem g_two {K : PySem.W.Frag} {σ : St} {n : Nat} {H : Hp} {a : Addr} {u v : V} {R : St → Hp → Prop} (hn : n = σ.length) (h : SqT K H a [u, v]) (k : R (σ ++ [some u, some v]) H) : gTup K 2 (gCons (gName n) (gCons (gName (n + 1)) gNil)) (.ref a) (σ ++ List.replicate 2 none) H R := by
  subst hn
  refine ⟨a, _, rfl, h, rfl, u, _, rfl, v, _, rfl, rfl, ?_⟩
  have e1 : (σ ++ List.replicate 2 none).set σ.length (some u) = σ ++ [some u, none] := by
    rw [List.set_append_right _ _ (Nat.le_refl _), Nat.sub_self]
    rfl
  have e2 : (σ ++ [some u, none]).set (σ.length + 1) (some v) = σ ++ [some u, some v] := by
    rw [List.set_append_right _ _ (by omega), Nat.add_sub_cancel_left]
    rfl
  rw [e1, e2]
  exact k
end L2
set_option Elab.async false
set_option linter.all false
set_option maxRecDepth 100000
set_option maxHeartbeats 1000000
namespace L2
open PySem PySem.Spec PyProof.Rows
section
variable {X : Cx} {pins : List (Addr × Obj)} {σ : St} {H : Hp} {s : Shared} {h' : Heap}
theorem Inv.turnLay {a : Addr} {o : HO} {t' : Nat} {ch : List Addr} (I : Inv X pins σ H s) (hf : ∀ b ∈ ch, FpOk X pins H b) (k : ∀ b u, b ∉ ch → s.heap.get? b = some u → h'.get? b = some u) (hp : s.heap.objs.size ≤ a) (new : ObjOk X.prog X.w (upd H a o) h' a o) :
    Inv X pins σ (upd H a o) { s with heap := h', toks := t' } := by
  have hn : H a = none := I.hok.fresh hp
  have nit : ∀ b u, H b = some u → b ∉ ch := fun b u e z => by
    rw [(hf b z).1] at e
    cases e
  have old : ∀ b u, s.heap.get? b = some u → b ≠ a := fun b u e z => absurd (Heap.lt_size e) (by rw [z]; exact Nat.not_lt.mpr hp)
  refine I.step (g' := s.gens) (d' := s.drawn) (ch := ch) (fun b hb => ⟨(hf b hb).2.2.2.1, (hf b hb).2.1, (hf b hb).2.2.2.2.1, (hf b hb).2.2.2.2.2⟩) (fun b o _ _ hc e _ => k b o hc e) (fun b o _ _ hc e _ => ⟨o.slots, k b o hc e⟩)
    (fun b o _ e n => by rw [upd_ne (old b o e)]; exact n) (fun b o hc e => ⟨o, k b o hc e⟩) (fun b xs e => by rw [upd_ne (ne_of_none e hn)]; exact e) (fun b o u e => by rw [upd_ne (ne_of_none e hn)]; exact e) (fun b ps e => ⟨#[], by rw [upd_ne (ne_of_none e hn), e]; simp⟩) (fun m hm => ?_) (fun b u e => ?_) I.bare
  · obtain ⟨o, es, ep, ho, r⟩ := hm
    refine ⟨o, es, ep, k _ o (fun z => (hf _ z).2.1 rfl) ho, r⟩
  · by_cases hb : b = a
    · subst hb
      rw [upd_same] at e
      cases e
      exact new
    · rw [upd_ne hb] at e
      refine (I.hok b u e).stay (fun c v hc q => k c v ?_ q) (fun c q => by rw [upd_ne (ne_of_none q hn)]; exact q) fun c xs q => by rw [upd_ne (ne_of_none q hn)]; exact q
      rcases hc with z | z
      · rw [z]
        exact nit b u e
      · exact nit c _ z
end
noncomputable def Ite (K : PySem.W.Frag) (a : Addr) : It :=
  ⟨fun i H => ∃ xs x, SqL K H a xs ∧ xs[i]? = some x, fun i H x H' => ∃ b v, x = .ref b ∧ H b = none ∧ H' = upd H b (.tup [.int (i : Int), v]) ∧ ∀ xs, SqL K H a xs → xs[i]? = some v, fun i H => ∃ xs, SqL K H a xs ∧ xs.length ≤ i⟩
theorem turn_enumL {P : Program} {w : World} {K : PySem.W.Frag} {es : List Expr} {x1 : _} {tp : Pos} (a it e : Addr) : Turn P w K (.Tuple es x1 tp) (Ite K a) [e, it] e (fun i h => (∃ old, IsEnum h e it (i : Int) old) ∧ h.IsListIter it a i) where
  mem := by simp
  obj := fun i h st b hb => by
    obtain ⟨⟨old, he⟩, o, ho, c, d⟩ := st
    rcases List.mem_cons.mp hb with rfl | hb
    · exact ⟨_, he, fun v z => by cases z⟩
    · have : b = it := by simpa using hb
      subst this
      exact ⟨o, ho, fun v z => by rw [d] at z; cases z⟩
  keep := fun i h h' st k => ⟨let ⟨old, he⟩ := st.1; ⟨old, k e (by simp) _ he⟩, st.2.at fun o q => k it (by simp) o q⟩
  item := by
    intro X hP hw hK hc i pins s σ H E I hf st hg
    subst hP hw hK
    refine gate' fun gG hgG => ?_
    obtain ⟨xs, x, hq, hx⟩ := hg
    obtain ⟨its, rv, p, hz⟩ := I.list hq
    obtain ⟨u, hu, ru⟩ := rv.get hx
    obtain ⟨⟨old, he⟩, hit⟩ := st
    refine hgG.go ?_
    clear hgG
    have hl := p.isList
    have hne : e ≠ it := fun z => by
      obtain ⟨o, ho, c, _⟩ := hit
      rw [← z] at ho
      rw [he] at ho
      cases ho
      exact absurd (Value.type.inj c) (by decide)
    have hla : a ≠ it := fun z => by
      refine gate' fun gG hgG => ?_
      obtain ⟨o, ho, c, _⟩ := hit
      obtain ⟨o', ho', c', _⟩ := hl
      refine hgG.go ?_
      clear hgG
      rw [z, ho] at ho'
      cases ho'
      rw [c] at c'
      exact absurd (Value.type.inj c') (by decide)
    have hea : e ≠ a := fun z => by
      obtain ⟨o', ho', c', _⟩ := hl
      rw [← z] at ho'
      rw [he] at ho'
      cases ho'
      exact absurd (Value.type.inj c') (by decide)
    have D : Draws X.prog X.w X.A.in1 it [it, a] its.toArray.size (fun i v => its.toArray[i]? = some v) (fun i h => h.IsListIter it a i ∧ h.IsList a its.toArray) := Draws.list (A := X.A.in1) (I.ok.hd hc) it a hla its.toArray
    have hlt : i < its.toArray.size := by
      have := (List.getElem?_eq_some_iff.mp hu).1
      simpa using this
    refine wpAny_pyNext_enum_itemD D he ⟨hit, hl⟩ hlt hne (by simp only [List.mem_cons, List.not_mem_nil, or_false, not_or]; exact ⟨hne, hea⟩) fun v h1 tk hPv heo hst ht hsz hk => ?_
    have ev : v = u := by
      have : its.toArray[i]? = some u := by simpa using hu
      rw [this] at hPv
      exact (Option.some.inj hPv).symm
    subst ev
    refine ⟨_, rfl, wpAny_letOwnedTupleGo_enum (s := { s with heap := h1, toks := tk + 1 }) heo fun h2 he2 hs2 => ?_⟩
    have he1 : e < s.heap.objs.size := Heap.lt_size he
    have ht2 : h2.get? s.heap.objs.size = some { cls := .type "tuple", data := .seq #[.int (i : Int) tk, v] } := (hs2.2 _ (Nat.ne_of_gt he1)).trans ht
    have kk : ∀ b o, b ∉ [e, it] → s.heap.get? b = some o → h2.get? b = some o := fun b o hb q => by
      simp only [List.mem_cons, List.not_mem_nil, or_false, not_or] at hb
      exact (hs2.2 b hb.1).trans (hk b o hb.1 hb.2 q)
    have I1 : Inv X pins σ (upd H s.heap.objs.size (.tup [.int (i : Int), x])) { s with heap := h2, toks := tk + 1 } := by
      refine I.turnLay hf kk (Nat.le_refl _) ⟨by show 2 ≤ sizeLine; decide, [.int (i : Int) tk, v], .cons ⟨tk, rfl⟩ (.cons ru .nil), ?_⟩
      exact ⟨_, ht2, rfl, _, rfl⟩
    refine ⟨.ref s.heap.objs.size, _, I1, rfl, ⟨_, x, rfl, I.hok.fresh (Nat.le_refl _), rfl, fun ys hy => by rw [I.list_inj hy hq]; exact hx⟩, ⟨⟨_, he2⟩, ?_⟩, fun b hb => ?_⟩
    · refine hst.1.at fun o q => ?_
      rw [hs2.2 it (Ne.symm hne)]
      exact q
    · have hb0 := (hf b hb).1
      rw [upd_ne]
      · exact hb0
      · intro z
        rcases List.mem_cons.mp hb with rfl | hb'
        · exact absurd he1 (by rw [z]; exact Nat.lt_irrefl _)
        · have : b = it := by simpa using hb'
          subst this
          obtain ⟨o, ho, _⟩ := hit
          exact absurd (Heap.lt_size ho) (by rw [z]; exact Nat.lt_irrefl _)
  done := by
    intro X hP hw hK hc i pins s σ H E I hf st hg
    subst hP hw hK
    refine gate' fun gG hgG => ?_
    obtain ⟨xs, hq, hx⟩ := hg
    obtain ⟨its, rv, p, hz⟩ := I.list hq
    obtain ⟨⟨old, he⟩, hit⟩ := st
    have hl := p.isList
    have hla : a ≠ it := fun z => by
      obtain ⟨o, ho, c, _⟩ := hit
      obtain ⟨o', ho', c', _⟩ := hl
      rw [z, ho] at ho'
      cases ho'
      rw [c] at c'
      exact absurd (Value.type.inj c') (by decide)
    obtain ⟨f0, f1, f2, f3, f4, f5⟩ := hf it (by simp)
    refine hgG.go ?_
    clear hgG
    have hlen := rv.length
    refine wpAny_pyNext_enum_end (i := i) (I.ok.hd hc) he hit hl (by simp; omega) fun h1 eb => ⟨rfl, I.turned (t' := s.toks) (fun b o hb q => eb b o hb q) f0 f1 f3 f4 f5⟩
  self := fun _ _ _ _ _ st h => let ⟨old, he⟩ := st.1; wpAny_pyIter_enum he h
noncomputable def iEnumL (K : PySem.W.Frag) (ta : TA) : TI := fun σ H R => ta σ H fun vs H1 => ∃ a, vs = [.ref a] ∧ (∃ xs, SqL K H1 a xs) ∧ R (Ite K a) H1
theorem pi_enumL {X : Cx} {a : Expr} {es : List Expr} {x1 : _} {tp p pos : Pos} {ta : TA} (hg : Gl X "enumerate") (hm : X.mg "enumerate" = none) (ha : PA X [a] ta) (hs : starEach [a] X.env = [(false, eval a X.env)] := by rfl) :
    PI X (.Tuple es x1 tp) (.Call (.Name "enumerate" p) [a] [] pos) (iEnumL X.K ta) := by
  intro pins s σ H R I h
  refine Call_ (ld_blt I hg hm boot_enumerate (PyProof.Rows.callWith_type1 (thn (ha pos pins s σ H _ I h) fun us s1 ⟨vs, H1, I1, r1, q1⟩ => ?_) hs rfl))
  refine gate' fun gG hgG => ?_
  obtain ⟨l, rfl, ⟨xs, hq⟩, q⟩ := q1
  obtain ⟨u, rfl, ru⟩ := vals1 r1
  refine hgG.go ?_
  clear hgG
  cases (show u = Value.ref l from ru)
  obtain ⟨its, rv, pl, hz⟩ := I1.list hq
  refine call_enumerate_list pl.isList fun h' he hit hsz hk => ?_
  have I2 : Inv X pins σ H1 { s1 with heap := h' } := I1.kept (t' := s1.toks) hk
  refine wpAny_pyIter_enum (s := { s1 with heap := h' }) he ?_
  refine ⟨s1.heap.objs.size + 1, [s1.heap.objs.size + 1, s1.heap.objs.size], _, _, H1, rfl, I2, turn_enumL l _ _, ⟨⟨_, he⟩, hit⟩, fun b hb => ?_, q⟩
  rcases List.mem_cons.mp hb with rfl | hb
  · exact I1.fpOk (Nat.le_succ _) (I1.hok.fresh (Nat.le_succ _))
  · have e : b = s1.heap.objs.size := by simpa using hb
    subst e
    exact I1.fpOk (Nat.le_refl _) (I1.hok.fresh (Nat.le_refl _))
theorem for_enumL {K : PySem.W.Frag} {a : Addr} {xs : List V} {g : TG} {tb : TS} {D : Ends} {σ : St} {H : Hp} (Pv : Nat → St → Hp → Prop) (h0 : Pv 0 σ H) (hl : ∀ i σ H, i ≤ xs.length → Pv i σ H → SqL K H a xs)
    (hs : ∀ i v σ H b, xs[i]? = some v → Pv i σ H → H b = none → g (.ref b) σ (upd H b (.tup [.int (i : Int), v])) fun σ2 H2 => tb { D with nx := Pv (i + 1), ct := Pv (i + 1), bk := D.nx } σ2 H2) (hd : ∀ σ H, Pv xs.length σ H → D.nx σ H) :
    ∃ W : Nat → Nat → St → Hp → Prop, (∃ m, W 0 m σ H) ∧ ∀ i m σ H, W i m σ H →
      ((Ite K a).stop i H ∧ D.nx σ H) ∨ ((Ite K a).go i H ∧ ∃ N : St → Hp → Prop, (∀ σ' H', N σ' H' → ∃ m', m' < m ∧ W (i + 1) m' σ' H') ∧ ∀ x H', (Ite K a).yld i H x H' → g x σ H' fun σ2 H2 => tb { D with nx := N, ct := N, bk := D.nx } σ2 H2) := by
  refine ⟨fun i m σ H => m = xs.length - i ∧ i ≤ xs.length ∧ Pv i σ H, ⟨xs.length, by simp, Nat.zero_le _, h0⟩, ?_⟩
  rintro i m σ H ⟨rfl, hi, p⟩
  have q := hl i σ H hi p
  by_cases hlt : i < xs.length
  · refine .inr ⟨⟨xs, xs[i], q, by simp [hlt]⟩, Pv (i + 1), fun σ' H' p' => ⟨xs.length - (i + 1), by omega, rfl, hlt, p'⟩, fun x H' y => ?_⟩
    obtain ⟨b, v, rfl, hb, rfl, hv⟩ := y
    exact hs i v σ H b (hv xs q) p hb
  · have e : i = xs.length := by omega
    subst e
    exact .inl ⟨⟨xs, q, Nat.le_refl _⟩, hd σ H p⟩
theorem draws_str {prog : Program} {w : World} {A : Around} (hh : A.handled = none) (it : Addr) (x : Str) (t : Tok) :
    Draws prog w A it [it] x.cps.size (fun i v => ∃ c u, x.cps[i]? = some c ∧ v = .str ⟨#[c]⟩ u) (fun i h => h.IsStrIter it (strIterType x) x t i) := by
  unfold strIterType
  cases x.cps.all (· < 128) with
  | true => exact Draws.strAscii hh it x t
  | false => exact Draws.strWide hh it x t
end L2
set_option Elab.async false
set_option linter.all false
set_option maxRecDepth 100000
set_option maxHeartbeats 1000000
namespace PySem
section
variable {prog : Program} {w : World} {A : Around} {E : Value → Shared → Prop} {s : Shared}
structure ZApart (z TI TO i1 i2 : Addr) (fp1 fp2 : List Addr) : Prop where
  zTI : z ≠ TI
  zTO : z ≠ TO
  TITO : TI ≠ TO
  z1 : z ≠ i1
  z2 : z ≠ i2
  TI1 : TI ≠ i1
  TI2 : TI ≠ i2
  TO1 : TO ≠ i1
  TO2 : TO ≠ i2
  i12 : i1 ≠ i2
  f1 : ∀ c ∈ fp1, c ≠ z ∧ c ≠ TO ∧ c ≠ i2
  f2 : ∀ c ∈ fp2, c ≠ z ∧ c ≠ TO ∧ c ≠ i1
noncomputable def zipObj (f0 f1 : Value) (TI TO : Addr) : Obj := { cls := .type "zip", data := .fields #[f0, f1, .bool false, .ref TI, .ref TO] }
theorem setField_zip {z TI TO : Addr} {f0 f1 x : Value} {Q : Unit → Shared → Prop} (hz : s.heap.get? z = some (zipObj f0 f1 TI TO)) (h : ∀ h', h'.get? z = some (zipObj x f1 TI TO) → Heap.SameBut z s.heap h' → Q () { s with heap := h' }) : wpAny (model prog w) A (setField (.ref z) 0 x) Q E s := by
  refine wpAny_setField hz rfl (by simp) (h _ ?_ (Heap.SameBut.update ..))
  exact Heap.get?_update_self _ hz rfl
theorem setField_zip1 {z TI TO : Addr} {f0 f1 x : Value} {Q : Unit → Shared → Prop} (hz : s.heap.get? z = some (zipObj f0 f1 TI TO)) (h : ∀ h', h'.get? z = some (zipObj f0 x TI TO) → Heap.SameBut z s.heap h' → Q () { s with heap := h' }) : wpAny (model prog w) A (setField (.ref z) 1 x) Q E s := by
  refine wpAny_setField hz rfl (by simp) (h _ ?_ (Heap.SameBut.update ..))
  exact Heap.get?_update_self _ hz rfl
theorem wpAny_pyNext_zipD_item {z TI TO i1 i2 : Addr} {fp1 fp2 : List Addr} {n1 n2 k1 k2 : Nat} {P1 P2 : Nat → Value → Prop} {St1 St2 : Nat → Heap → Prop} {a b : Value} {Q : Option Value → Shared → Prop}
    (D1 : Draws prog w A.in1 i1 fp1 n1 P1 St1) (D2 : Draws prog w A.in1 i2 fp2 n2 P2 St2) (ap : ZApart z TI TO i1 i2 fp1 fp2) (hz : IsZip s.heap z TI TO .none) (hTI : IsPair s.heap TI (.ref i1) (.ref i2)) (hTO : IsPair s.heap TO a b)
    (h1 : St1 k1 s.heap) (h2 : St2 k2 s.heap) (l1 : k1 < n1) (l2 : k2 < n2)
    (hQ : ∀ (x y : Value) (h' : Heap) (tk : Nat), P1 k1 x → P2 k2 y → IsZip h' z TI TO (rawInt (s.heap.objs.size : Int)) → IsPair h' TO x y → IsPair h' TI (.ref i1) (.ref i2) → St1 (k1 + 1) h' → St2 (k2 + 1) h' → IsPair h' s.heap.objs.size x y →
      (∀ c o, c ≠ z → c ≠ TO → c ≠ i1 → c ≠ i2 → s.heap.get? c = some o → h'.get? c = some o) → Q (some (.ref s.heap.objs.size)) { s with heap := h', toks := tk }) : wpAny (model prog w) A (pyNext (.ref z)) Q E s := by
  have hT : s.TypeIs (.ref z) "zip" := ⟨_, hz, rfl⟩
  unfold pyNext
  refine wpAny_bind (wpAny_attempt (wpAny_callSpecial?_slot (name := Str.ofString "__next__") hT F.slot_zip_next
    (wpAny_call_entry F.slot_zip_next hT F.entry_zip_next ?_ (F.args_zip_next_1 _))))
  unfold Builtin.«zip.__next__»
  refine wpAny_bind (wpAny_of_eq (a := (Value.ref z, [])) rfl ?_)
  try dsimp only
  refine wpAny_bind (wpAny_field hz rfl (x := .bool false) rfl ?_)
  refine wpAny_bind (wpAny_field hz rfl (x := .ref TI) rfl ?_)
  refine wpAny_bind (wpAny_seqItems hTI rfl ?_)
  try dsimp only
  rw [if_neg (by simp)]
  refine wpAny_bind ?_
  unfold Builtin.SmallTypes.ownedTupleIsFree
  refine wpAny_bind (wpAny_field hz rfl (x := .none) rfl (wpAny_pure ?_))
  try dsimp only
  rw [if_pos rfl]
  refine wpAny_bind (wpAny_rule ?_)
  refine wpAny_bind (wpAny_field hz rfl (x := .ref TO) rfl ?_)
  try dsimp only
  refine wpAny_bind (setField_zip (f0 := .none) (f1 := .bool false) hz fun ha hza hsa => ?_)
  refine wpAny_bind ?_
  show wpAny _ _ (forIn [(Value.ref i1, 0), (Value.ref i2, 1)] _ _) _ _ _
  rw [List.forIn_cons]
  refine wpAny_bind (wpAny_bind (wpAny_onRaise ?_))
  show wpAny _ _ (Builtin.SmallTypes.nextOf (.ref i1) >>= fun x => pure (some x)) _ _ _
  have h1a : St1 k1 ha := D1.frame _ _ _ h1 fun c hc o q => (hsa.2 c (ap.f1 c hc).1).trans q
  have h2a : St2 k2 ha := D2.frame _ _ _ h2 fun c hc o q => (hsa.2 c (ap.f2 c hc).1).trans q
  refine wpAny_bind (D1.item k1 { s with heap := ha } _ _ l1 h1a fun x hb tk px h1b hsb => wpAny_pure ?_)
  dsimp only
  have hTOb : IsPair hb TO a b := (hsb.2 TO ap.TO1).trans ((hsa.2 TO (Ne.symm ap.zTO)).trans hTO)
  refine wpAny_bind (wpAny_seqItems hTOb rfl ?_)
  dsimp only
  refine wpAny_bind (wpAny_updateSeq_pair (s := { s with heap := hb, toks := tk }) hTOb fun hc hTOc hsc => ?_)
  refine wpAny_bind (wpAny_letGo (wpAny_pure ?_))
  dsimp only
  rw [List.forIn_cons]
  refine wpAny_bind (wpAny_bind (wpAny_onRaise ?_))
  show wpAny _ _ (Builtin.SmallTypes.nextOf (.ref i2) >>= fun x => pure (some x)) _ _ _
  have h1c : St1 (k1 + 1) hc := D1.frame _ _ _ h1b fun c hc' o q => (hsc.2 c (ap.f1 c hc').2.1).trans q
  have h2c : St2 k2 hc := D2.frame _ _ _ h2a fun c hc' o q => (hsc.2 c (ap.f2 c hc').2.1).trans ((hsb.2 c (ap.f2 c hc').2.2).trans q)
  refine wpAny_bind (D2.item k2 { s with heap := hc, toks := tk } _ _ l2 h2c fun y hd tk2 py h2d hsd => wpAny_pure ?_)
  dsimp only
  have hTOd : IsPair hd TO x b := (hsd.2 TO ap.TO2).trans hTOc
  refine wpAny_bind (wpAny_seqItems hTOd rfl ?_)
  dsimp only
  refine wpAny_bind (wpAny_updateSeq_pair (s := { s with heap := hd, toks := tk2 }) hTOd fun he hTOe hse => ?_)
  refine wpAny_bind (wpAny_letGo (wpAny_pure ?_))
  dsimp only
  rw [List.forIn_nil]
  refine wpAny_pure ?_
  dsimp only
  have hTOe' : IsPair he TO x y := hTOe
  refine wpAny_bind (wpAny_seqItems hTOe' rfl ?_)
  dsimp only
  refine wpAny_bind (wpAny_newTuple ?_)
  have keep : ∀ c o, c ≠ z → c ≠ TO → c ≠ i1 → c ≠ i2 → s.heap.get? c = some o → he.get? c = some o := fun c o n1 n2 n3 n4 q =>
    (hse.2 c n2).trans ((hsd.2 c n4).trans ((hsc.2 c n2).trans ((hsb.2 c n3).trans ((hsa.2 c n1).trans q))))
  have esz : he.objs.size = s.heap.objs.size := hse.1.trans (hsd.1.trans (hsc.1.trans (hsb.1.trans hsa.1)))
  have hze : he.get? z = some (zipObj .ellipsis (.bool false) TI TO) := (hse.2 z ap.zTO).trans ((hsd.2 z ap.z2).trans ((hsc.2 z ap.zTO).trans ((hsb.2 z ap.z1).trans hza)))
  unfold Builtin.SmallTypes.ownedTupleHandOut
  dsimp only
  have pk : ∀ c o, he.get? c = some o → (he.push { cls := Value.type "tuple", data := Data.seq #[x, y] }).get? c = some o := fun c o q => Heap.get?_push_of_some _ q
  have pn : (he.push { cls := Value.type "tuple", data := Data.seq #[x, y] }).get? he.objs.size = some { cls := Value.type "tuple", data := Data.seq #[x, y] } := Heap.get?_push_size _ rfl
  have zlt : z < he.objs.size := Heap.lt_size hze
  have h1e : St1 (k1 + 1) he := D1.frame _ _ _ h1c fun c hc' o q => (hse.2 c (ap.f1 c hc').2.1).trans ((hsd.2 c (ap.f1 c hc').2.2).trans q)
  have h2e : St2 (k2 + 1) he := D2.frame _ _ _ h2d fun c hc' o q => (hse.2 c (ap.f2 c hc').2.1).trans q
  refine wpAny_bind (wpAny_bind (setField_zip (s := { s with heap := he.push { cls := Value.type "tuple", data := Data.seq #[x, y] }, toks := tk2 }) (pk _ _ hze) fun hf hzf hsf => ?_))
  refine setField_zip1 (s := { s with heap := hf, toks := tk2 }) hzf fun hg hzg hsg => ?_
  have on : ∀ c o, c ≠ z → he.get? c = some o → hg.get? c = some o := fun c o n q => (hsg.2 c n).trans ((hsf.2 c n).trans (pk c o q))
  refine wpAny_pure ⟨_, rfl, wpAny_pure ?_⟩
  rw [esz]
  refine hQ x y hg tk2 px py ?_ (on TO _ (Ne.symm ap.zTO) hTOe') (on TI _ (Ne.symm ap.zTI) (keep TI _ (Ne.symm ap.zTI) ap.TITO ap.TI1 ap.TI2 hTI)) (D1.frame _ _ _ h1e fun c hc' o q => on c o (ap.f1 c hc').1 q) (D2.frame _ _ _ h2e fun c hc' o q => on c o (ap.f2 c hc').1 q) ?_ fun c o n1 n2 n3 n4 q => on c o n1 (keep c o n1 n2 n3 n4 q)
  · rw [← esz]
    exact hzg
  · rw [← esz]
    exact (hsg.2 _ (Nat.ne_of_gt zlt)).trans ((hsf.2 _ (Nat.ne_of_gt zlt)).trans pn)
theorem wpAny_pyNext_zipD_end {z TI TO i1 i2 : Addr} {fp1 fp2 : List Addr} {n1 n2 k1 k2 : Nat} {P1 P2 : Nat → Value → Prop} {St1 St2 : Nat → Heap → Prop} {a b : Value} {Q : Option Value → Shared → Prop}
    (D1 : Draws prog w A.in1 i1 fp1 n1 P1 St1) (D2 : Draws prog w A.in1 i2 fp2 n2 P2 St2) (ap : ZApart z TI TO i1 i2 fp1 fp2) (hz : IsZip s.heap z TI TO .none) (hTI : IsPair s.heap TI (.ref i1) (.ref i2)) (hTO : IsPair s.heap TO a b)
    (h1 : St1 k1 s.heap) (h2 : St2 k2 s.heap) (hl : k1 = n1 ∨ (k1 < n1 ∧ k2 = n2))
    (hQ : ∀ (h' : Heap) (tk : Nat), (∀ c o, c ≠ z → c ≠ TO → c ≠ i1 → c ≠ i2 → s.heap.get? c = some o → h'.get? c = some o) → Q none { s with heap := h', toks := tk }) : wpAny (model prog w) A (pyNext (.ref z)) Q E s := by
  have hT : s.TypeIs (.ref z) "zip" := ⟨_, hz, rfl⟩
  unfold pyNext
  refine wpAny_bind (wpAny_attempt (wpAny_callSpecial?_slot (name := Str.ofString "__next__") hT F.slot_zip_next
    (wpAny_call_entry F.slot_zip_next hT F.entry_zip_next ?_ (F.args_zip_next_1 _))))
  unfold Builtin.«zip.__next__»
  refine wpAny_bind (wpAny_of_eq (a := (Value.ref z, [])) rfl ?_)
  try dsimp only
  refine wpAny_bind (wpAny_field hz rfl (x := .bool false) rfl ?_)
  refine wpAny_bind (wpAny_field hz rfl (x := .ref TI) rfl ?_)
  refine wpAny_bind (wpAny_seqItems hTI rfl ?_)
  try dsimp only
  rw [if_neg (by simp)]
  refine wpAny_bind ?_
  unfold Builtin.SmallTypes.ownedTupleIsFree
  refine wpAny_bind (wpAny_field hz rfl (x := .none) rfl (wpAny_pure ?_))
  try dsimp only
  rw [if_pos rfl]
  refine wpAny_bind (wpAny_rule ?_)
  refine wpAny_bind (wpAny_field hz rfl (x := .ref TO) rfl ?_)
  try dsimp only
  refine wpAny_bind (setField_zip (f0 := .none) (f1 := .bool false) hz fun ha hza hsa => ?_)
  refine wpAny_bind ?_
  show wpAny _ _ (forIn [(Value.ref i1, 0), (Value.ref i2, 1)] _ _) _ _ _
  rw [List.forIn_cons]
  refine wpAny_bind (wpAny_bind (wpAny_onRaise ?_))
  show wpAny _ _ (Builtin.SmallTypes.nextOf (.ref i1) >>= fun x => pure (some x)) _ _ _
  have h1a : St1 k1 ha := D1.frame _ _ _ h1 fun c hc o q => (hsa.2 c (ap.f1 c hc).1).trans q
  have h2a : St2 k2 ha := D2.frame _ _ _ h2 fun c hc o q => (hsa.2 c (ap.f2 c hc).1).trans q
  rcases hl with rfl | ⟨l1, rfl⟩
  · refine wpAny_bind (D1.done { s with heap := ha } _ _ h1a fun hb e hsb hx => ?_)
    have hzb : hb.get? z = some (zipObj .ellipsis (.bool false) TI TO) := hsb z _ ap.z1 hza
    refine setField_zip (s := { s with heap := hb }) hzb fun hc hzc hsc => ?_
    obtain ⟨o, ho, hcls⟩ := hx
    have hez : e ≠ z := fun q => by
      rw [q, hzb] at ho
      cases ho
      exact absurd (Value.type.inj hcls) (by decide)
    refine wpAny_bind (wpAny_isInstance (s := { s with heap := hc }) (T := "StopIteration") (b := true) ⟨o, (hsc.2 e hez).trans ho, hcls⟩ isSubtype_stop ?_)
    refine wpAny_pure (hQ _ _ fun c o n1 n2 n3 n4 q => (hsc.2 c n1).trans (hsb c o n3 ((hsa.2 c n1).trans q)))
  · refine wpAny_bind (D1.item k1 { s with heap := ha } _ _ l1 h1a fun x hb tk px h1b hsb => wpAny_pure ?_)
    dsimp only
    have hTOb : IsPair hb TO a b := (hsb.2 TO ap.TO1).trans ((hsa.2 TO (Ne.symm ap.zTO)).trans hTO)
    refine wpAny_bind (wpAny_seqItems hTOb rfl ?_)
    dsimp only
    refine wpAny_bind (wpAny_updateSeq_pair (s := { s with heap := hb, toks := tk }) hTOb fun hc hTOc hsc => ?_)
    refine wpAny_bind (wpAny_letGo (wpAny_pure ?_))
    dsimp only
    rw [List.forIn_cons]
    refine wpAny_bind (wpAny_bind (wpAny_onRaise ?_))
    show wpAny _ _ (Builtin.SmallTypes.nextOf (.ref i2) >>= fun x => pure (some x)) _ _ _
    have h2c : St2 k2 hc := D2.frame _ _ _ h2a fun c hc' o q => (hsc.2 c (ap.f2 c hc').2.1).trans ((hsb.2 c (ap.f2 c hc').2.2).trans q)
    refine wpAny_bind (D2.done { s with heap := hc, toks := tk } _ _ h2c fun hd e hsd hx => ?_)
    have hzd : hd.get? z = some (zipObj .ellipsis (.bool false) TI TO) := hsd z _ ap.z2 ((hsc.2 z ap.zTO).trans ((hsb.2 z ap.z1).trans hza))
    refine setField_zip (s := { s with heap := hd, toks := tk }) hzd fun he hze hse => ?_
    obtain ⟨o, ho, hcls⟩ := hx
    have hez : e ≠ z := fun q => by
      rw [q, hzd] at ho
      cases ho
      exact absurd (Value.type.inj hcls) (by decide)
    refine wpAny_bind (wpAny_isInstance (s := { s with heap := he, toks := tk }) (T := "StopIteration") (b := true) ⟨o, (hse.2 e hez).trans ho, hcls⟩ isSubtype_stop ?_)
    refine wpAny_pure (hQ _ _ fun c o n1 n2 n3 n4 q => (hse.2 c n1).trans (hsd c o n4 ((hsc.2 c n2).trans ((hsb.2 c n3).trans ((hsa.2 c n1).trans q)))))
theorem call_zipD {v1 v2 : Value} {o1 o2 : Obj} {Q : Value → Shared → Prop} (f1 : o1.isFreed = false) (f2 : o2.isFreed = false)
    (g1 : ∀ (A : Around) (E : Value → Shared → Prop) (Q : Value → Shared → Prop), Q (.ref s.heap.objs.size) { s with heap := s.heap.push o1 } → wpAny (model prog w) A (pyIter v1) Q E s)
    (g2 : ∀ (A : Around) (E : Value → Shared → Prop) (Q : Value → Shared → Prop), Q (.ref (s.heap.push o1).objs.size) { s with heap := (s.heap.push o1).push o2 } → wpAny (model prog w) A (pyIter v2) Q E { s with heap := s.heap.push o1 })
    (hQ : ∀ h' : Heap, IsZip h' (s.heap.objs.size + 4) (s.heap.objs.size + 2) (s.heap.objs.size + 3) .none → IsPair h' (s.heap.objs.size + 2) (.ref s.heap.objs.size) (.ref (s.heap.objs.size + 1)) → IsPair h' (s.heap.objs.size + 3) .none .none →
      h'.get? s.heap.objs.size = some o1 → h'.get? (s.heap.objs.size + 1) = some o2 → (∀ c o, s.heap.get? c = some o → h'.get? c = some o) → Q (.ref (s.heap.objs.size + 4)) { s with heap := h' }) :
    wpAny (model prog w) A (call (.type "zip") [v1, v2]) Q E s := by
  let H2 := (s.heap.push o1).push o2
  let H3 := H2.push { cls := Value.type "tuple", data := Data.seq #[Value.ref s.heap.objs.size, Value.ref (s.heap.push o1).objs.size] }
  let H4 := H3.push { cls := Value.type "tuple", data := Data.seq #[Value.none, Value.none] }
  let H5 := H4.push (zipObj .none (.bool false) H2.objs.size H3.objs.size)
  have p1 : (s.heap.push o1).objs.size = s.heap.objs.size + 1 := Heap.size_push ..
  have p2 : H2.objs.size = s.heap.objs.size + 2 := (Heap.size_push ..).trans (by rw [p1])
  have p3 : H3.objs.size = s.heap.objs.size + 3 := (Heap.size_push ..).trans (by rw [p2])
  have p4 : H4.objs.size = s.heap.objs.size + 4 := (Heap.size_push ..).trans (by rw [p3])
  refine callType_codes (Q₁ := fun obj s₁ => obj = .ref H4.objs.size ∧ s₁ = { s with heap := H5 }) F.called_zip (F.typeCall_zip_2 _ _) F.entry_object_init ?_ ?_
  · refine codeAny_of_tree ?_
    show wpAny _ A.in1.in1 (do checkBuiltinCall "zip.__new__" ⟨[.type "zip", v1, v2], []⟩; again (.builtin "zip.__new__" ⟨[.type "zip", v1, v2], []⟩)) _ _ s
    refine wpAny_bind (wpAny_of_eq (F.newCall_zip_2 _ _) (wpAny_pure ⟨plainId_quiet F.called_zip.plain _, codeAny_builtin F.entry_zip_new ?_⟩))
    rw [Around.under_plainId F.called_zip.plain _]
    unfold Builtin.«zip.__new__»
    refine wpAny_bind (wpAny_of_eq (a := (Value.type "zip", [v1, v2])) (by
      unfold Builtin.SmallTypes.newClass
      try dsimp only
      rw [show isType (Value.type "zip") = pure true from rfl, pure_bind]
      try dsimp only
      rw [F.called_zip.sub, pure_bind]
      rfl) ?_)
    try dsimp only
    rw [if_neg (by simp)]
    try dsimp only
    refine wpAny_bind ?_
    unfold Builtin.SmallTypes.iterAll
    try dsimp only
    refine wpAny_bind ?_
    rw [List.forIn_cons]
    refine wpAny_bind (wpAny_bind (wpAny_holding (g1 _ _ _ ?_)))
    refine wpAny_pure ?_
    try dsimp only
    rw [List.forIn_cons]
    refine wpAny_bind (wpAny_bind (wpAny_holding (g2 _ _ _ ?_)))
    refine wpAny_pure ?_
    try dsimp only
    rw [List.forIn_nil]
    refine wpAny_pure (wpAny_pure ?_)
    refine wpAny_bind (wpAny_newTuple (hsz := by simp; decide) ?_)
    refine wpAny_bind (wpAny_newTuple (hsz := by simp; decide) ?_)
    unfold Builtin.SmallTypes.newRecord
    try dsimp only
    refine wpAny_bind (wpAny_newObj_type (hd := by show _ ≤ sizeLine + 2; simp [Builtin.SmallTypes.ownedTupleFields]; decide) ?_)
    exact wpAny_pure ⟨rfl, rfl⟩
  · rintro obj s₁ ⟨rfl, rfl⟩
    have e5 : H5.get? H4.objs.size = some (zipObj .none (.bool false) H2.objs.size H3.objs.size) := Heap.get?_push_size _ rfl
    have k4 : ∀ c o, H4.get? c = some o → H5.get? c = some o := fun c o q => Heap.get?_push_of_some _ q
    have k3 : ∀ c o, H3.get? c = some o → H5.get? c = some o := fun c o q => k4 c o (Heap.get?_push_of_some _ q)
    have k2 : ∀ c o, H2.get? c = some o → H5.get? c = some o := fun c o q => k3 c o (Heap.get?_push_of_some _ q)
    have k1 : ∀ c o, (s.heap.push o1).get? c = some o → H5.get? c = some o := fun c o q => k2 c o (Heap.get?_push_of_some _ q)
    have hT : ({ s with heap := H5 } : Shared).TypeIs (.ref H4.objs.size) "zip" := ⟨_, e5, rfl⟩
    refine ⟨hT, F.args_object_init_3 _ _ _, object_init_meets (T := "zip") F.called_zip.init.lookup F.called_zip.made (by decide) prog w A.in1 _ _ ⟨hT, rfl, ?_⟩⟩
    have q := hQ H5 ?_ ?_ ?_ ?_ ?_ ?_
    · rw [p4]
      exact q
    · rw [← p4, ← p2, ← p3]
      exact e5
    · have : H3.get? H2.objs.size = some { cls := Value.type "tuple", data := Data.seq #[Value.ref s.heap.objs.size, Value.ref (s.heap.push o1).objs.size] } := Heap.get?_push_size _ rfl
      rw [← p1, ← p2]
      exact k3 _ _ this
    · have : H4.get? H3.objs.size = some { cls := Value.type "tuple", data := Data.seq #[Value.none, Value.none] } := Heap.get?_push_size _ rfl
      rw [← p3]
      exact k4 _ _ this
    · exact k1 _ _ (Heap.get?_push_size _ f1)
    · rw [← p1]
      exact k2 _ _ (Heap.get?_push_size _ f2)
    · exact fun c o q => k1 c o (Heap.get?_push_of_some _ q)
end
end PySem
namespace L2
open PySem PySem.Spec PyProof.Rows
section
variable {X : Cx} {pins : List (Addr × Obj)} {σ : St} {H : Hp} {s : Shared} {h' : Heap}
theorem Inv.turnedL {t' : Nat} {ch : List Addr} (I : Inv X pins σ H s) (hf : ∀ b ∈ ch, FpOk X pins H b) (k : ∀ b u, b ∉ ch → s.heap.get? b = some u → h'.get? b = some u) : Inv X pins σ H { s with heap := h', toks := t' } := by
  have nit : ∀ b u, H b = some u → b ∉ ch := fun b u e z => by
    rw [(hf b z).1] at e
    cases e
  refine I.step (g' := s.gens) (d' := s.drawn) (ch := ch) (fun b hb => ⟨(hf b hb).2.2.2.1, (hf b hb).2.1, (hf b hb).2.2.2.2.1, (hf b hb).2.2.2.2.2⟩) (fun b o _ _ hc e _ => k b o hc e) (fun b o _ _ hc e _ => ⟨o.slots, k b o hc e⟩)
    (fun _ _ _ _ n => n) (fun b o hc e => ⟨o, k b o hc e⟩) (fun _ _ e => e) (fun _ _ _ e => e) (fun b ps e => ⟨#[], by rw [e]; simp⟩) (fun m hm => ?_) (fun b u e => ?_) I.bare
  · obtain ⟨o, es, ep, ho, r⟩ := hm
    exact ⟨o, es, ep, k _ o (fun z => (hf _ z).2.1 rfl) ho, r⟩
  · refine (I.hok b u e).stay (fun c v hc q => k c v ?_ q) (fun _ q => q) fun _ _ q => q
    rcases hc with z | z
    · rw [z]
      exact nit b u e
    · exact nit c _ z
end
structure Src (P : Program) (w : World) (K : PySem.W.Frag) (S : Hp → List V → Prop) (it : Addr) (Sn : Nat → Heap → Prop) : Prop where
  obj : ∀ i h, Sn i h → ∃ o n vs, h.get? it = some o ∧ o.cls = .type n ∧ o.data = .fields vs ∧ n ≠ "zip" ∧ n ≠ "tuple" ∧ n ≠ "list"
  keep : ∀ i h h', Sn i h → (∀ o, h.get? it = some o → h'.get? it = some o) → Sn i h'
  inj : ∀ {X : Cx} {pins σ H s xs ys}, X.K = K → Inv X pins σ H s → S H xs → S H ys → xs = ys
  drw : ∀ (X : Cx), X.prog = P → X.w = w → X.K = K → X.calm = true → ∀ (i : Nat) (pins : List (Addr × Obj)) (s : Shared) (σ : St) (H : Hp) (xs : List V), Inv X pins σ H s → S H xs → Sn i s.heap →
    ∃ (fp : List Addr) (Pv : Nat → Value → Prop) (St' : Nat → Heap → Prop), Draws X.prog X.w X.A.in1 it fp xs.length Pv St' ∧ St' i s.heap ∧ (∀ j h, St' j h → Sn j h) ∧ (∀ j x v, xs[j]? = some x → Pv j v → RelV x v) ∧
      ∀ b ∈ fp, b = it ∨ ∃ o, s.heap.get? b = some o ∧ o.cls = .type "list"
theorem src_list {P : Program} {w : World} {K : PySem.W.Frag} (a it : Addr) : Src P w K (fun H xs => SqL K H a xs) it (fun i h => h.IsListIter it a i) where
  obj := fun i h ⟨o, ho, c, d⟩ => ⟨o, _, _, ho, c, d, by decide, by decide, by decide⟩
  keep := fun i h h' st k => st.at fun o q => k o q
  inj := fun hK I h1 h2 => by
    subst hK
    exact I.list_inj h1 h2
  drw := by
    intro X hP hw hK hc i pins s σ H xs I hq st
    subst hP hw hK
    obtain ⟨its, rv, p, hz⟩ := I.list hq
    have hl := p.isList
    have hla : a ≠ it := fun z => by
      refine gate' fun gG hgG => ?_
      obtain ⟨o, ho, c, _⟩ := st
      obtain ⟨o', ho', c', _⟩ := hl
      refine hgG.go ?_
      clear hgG
      rw [z, ho] at ho'
      cases ho'
      rw [c] at c'
      exact absurd (Value.type.inj c') (by decide)
    have hsz : its.toArray.size = xs.length := by
      have := rv.length
      simp
      omega
    refine ⟨[it, a], fun i v => its.toArray[i]? = some v, fun i h => h.IsListIter it a i ∧ h.IsList a its.toArray, ?_, ⟨st, hl⟩, fun j h q => q.1, fun j x v hx hv => ?_, fun b hb => ?_⟩
    · rw [← hsz]
      exact Draws.list (A := X.A.in1) (I.ok.hd hc) it a hla its.toArray
    · obtain ⟨u, hu, ru⟩ := rv.get hx
      have : its.toArray[j]? = some u := by simpa using hu
      have hv' : its.toArray[j]? = some v := hv
      rw [this] at hv'
      cases hv'
      exact ru
    · rcases List.mem_cons.mp hb with rfl | hb
      · exact .inl rfl
      · have e : b = a := by simpa using hb
        subst e
        obtain ⟨o, ho, c, _⟩ := hl
        exact .inr ⟨o, ho, c⟩
theorem strIter_cases (x : Str) : strIterType x = "str_ascii_iterator" ∨ strIterType x = "str_iterator" := by
  unfold strIterType
  split
  · exact .inl rfl
  · exact .inr rfl
noncomputable def letsV (l : List Nat) : List V := l.map fun c => V.str (T [c])
theorem src_str {P : Program} {w : World} {K : PySem.W.Frag} (l : List Nat) (t : Tok) (it : Addr) : Src P w K (fun _ xs => xs = letsV l) it (fun i h => h.IsStrIter it (strIterType (T l)) (T l) t i) where
  obj := fun i h ⟨o, ho, c, d⟩ => by
    refine ⟨o, _, _, ho, c, d, ?_, ?_, ?_⟩ <;> rcases strIter_cases (T l) with e | e <;> rw [e] <;> decide
  keep := fun i h h' ⟨o, ho, r⟩ k => ⟨o, k o ho, r⟩
  inj := fun _ _ h1 h2 => h1.trans h2.symm
  drw := by
    intro X hP hw hK hc i pins s σ H xs I hq st
    subst hP hw hK hq
    have D := draws_str (prog := X.prog) (w := X.w) (A := X.A.in1) (I.ok.hd hc) it (T l) t
    have hsz : (T l).cps.size = (letsV l).length := by
      show l.toArray.size = _
      simp [letsV]
    rw [hsz] at D
    refine ⟨_, _, _, D, st, fun j h q => q, fun j x v hx hv => ?_, fun b hb => .inl (by simpa using hb)⟩
    obtain ⟨c, u, hcu, rfl⟩ := hv
    have hcl : l[j]? = some c := by
      have : l.toArray[j]? = some c := hcu
      simpa using this
    unfold letsV at hx
    rw [List.getElem?_map, hcl] at hx
    cases hx
    exact ⟨u, rfl⟩
noncomputable def Itz (S1 S2 : Hp → List V → Prop) : It :=
  ⟨fun i H => ∃ xs ys, S1 H xs ∧ S2 H ys ∧ i < xs.length ∧ i < ys.length, fun i H x H' => ∃ b u v, x = .ref b ∧ H b = none ∧ H' = upd H b (.tup [u, v]) ∧ ∀ xs ys, S1 H xs → S2 H ys → xs[i]? = some u ∧ ys[i]? = some v,
    fun i H => ∃ xs ys, S1 H xs ∧ S2 H ys ∧ i = min xs.length ys.length⟩
theorem turn_zip {P : Program} {w : World} {K : PySem.W.Frag} {es : List Expr} {x1 : _} {tp : Pos} {S1 S2 : Hp → List V → Prop} {St1 St2 : Nat → Heap → Prop} {z TI TO i1 i2 : Addr} (R1 : Src P w K S1 i1 St1) (R2 : Src P w K S2 i2 St2) (h12 : i1 ≠ i2) (hTT : TI ≠ TO) :
    Turn P w K (.Tuple es x1 tp) (Itz S1 S2) [z, TI, TO, i1, i2] z (fun i h => IsZip h z TI TO .none ∧ IsPair h TI (.ref i1) (.ref i2) ∧ (∃ a b, IsPair h TO a b) ∧ St1 i h ∧ St2 i h) := by
  have ap : ∀ {i : Nat} {h : Heap} {fp1 fp2 : List Addr}, IsZip h z TI TO .none → IsPair h TI (.ref i1) (.ref i2) → (∃ a b, IsPair h TO a b) → St1 i h → St2 i h → (∀ b ∈ fp1, b = i1 ∨ ∃ o, h.get? b = some o ∧ o.cls = .type "list") → (∀ b ∈ fp2, b = i2 ∨ ∃ o, h.get? b = some o ∧ o.cls = .type "list") →
      ZApart z TI TO i1 i2 fp1 fp2 := by
    intro i h fp1 fp2 hz hTI ⟨a, b, hTO⟩ h1 h2 f1 f2
    refine gate' fun gG hgG => ?_
    obtain ⟨o1, n1, v1, e1, c1, d1, n1z, n1t, n1l⟩ := R1.obj i h h1
    obtain ⟨o2, n2, v2, e2, c2, d2, n2z, n2t, n2l⟩ := R2.obj i h h2
    refine hgG.go ?_
    clear hgG
    have dif : ∀ {x y : Addr} {ox oy : Obj} {nx ny : String}, h.get? x = some ox → h.get? y = some oy → ox.cls = .type nx → oy.cls = .type ny → nx ≠ ny → x ≠ y := fun ex ey cx cy ne q => by
      subst q
      rw [ex] at ey
      cases ey
      rw [cx] at cy
      exact ne (Value.type.inj cy)
    refine ⟨dif hz hTI rfl rfl (by decide), dif hz hTO rfl rfl (by decide), hTT, dif hz e1 rfl c1 (Ne.symm n1z), dif hz e2 rfl c2 (Ne.symm n2z), dif hTI e1 rfl c1 (Ne.symm n1t), dif hTI e2 rfl c2 (Ne.symm n2t), dif hTO e1 rfl c1 (Ne.symm n1t), dif hTO e2 rfl c2 (Ne.symm n2t), h12, fun c hc => ?_, fun c hc => ?_⟩
    · rcases f1 c hc with rfl | ⟨o, ho, co⟩
      · exact ⟨dif e1 hz c1 rfl n1z, dif e1 hTO c1 rfl n1t, h12⟩
      · exact ⟨dif ho hz co rfl (by decide), dif ho hTO co rfl (by decide), dif ho e2 co c2 (Ne.symm n2l)⟩
    · rcases f2 c hc with rfl | ⟨o, ho, co⟩
      · exact ⟨dif e2 hz c2 rfl n2z, dif e2 hTO c2 rfl n2t, Ne.symm h12⟩
      · exact ⟨dif ho hz co rfl (by decide), dif ho hTO co rfl (by decide), dif ho e1 co c1 (Ne.symm n1l)⟩
  refine ⟨by simp, fun i h ⟨hz, hTI, ⟨a, b, hTO⟩, h1, h2⟩ c hc => ?_, fun i h h' ⟨hz, hTI, ⟨a, b, hTO⟩, h1, h2⟩ k => ?_, ?_, ?_, ?_⟩
  · simp only [List.mem_cons, List.not_mem_nil, or_false] at hc
    refine gate' fun gG hgG => ?_
    obtain ⟨o1, n1, v1, e1, c1, d1, _⟩ := R1.obj i h h1
    obtain ⟨o2, n2, v2, e2, c2, d2, _⟩ := R2.obj i h h2
    refine hgG.go ?_
    clear hgG
    rcases hc with rfl | rfl | rfl | rfl | rfl
    · exact ⟨_, hz, fun v q => by cases q⟩
    · exact ⟨_, hTI, fun v q => by cases q⟩
    · exact ⟨_, hTO, fun v q => by cases q⟩
    · exact ⟨o1, e1, fun v q => by rw [d1] at q; cases q⟩
    · exact ⟨o2, e2, fun v q => by rw [d2] at q; cases q⟩
  · exact ⟨k z (by simp) _ hz, k TI (by simp) _ hTI, ⟨a, b, k TO (by simp) _ hTO⟩, R1.keep _ _ _ h1 fun o q => k i1 (by simp) o q, R2.keep _ _ _ h2 fun o q => k i2 (by simp) o q⟩
  · intro X hP hw hK hc i pins s σ H E I hf ⟨hz, hTI, hTO, h1, h2⟩ ⟨xs, ys, q1, q2, l1, l2⟩
    refine gate' fun gG hgG => ?_
    obtain ⟨fp1, P1, St1', D1, t1, b1, r1, f1⟩ := R1.drw X hP hw hK hc i pins s σ H xs I q1 h1
    obtain ⟨fp2, P2, St2', D2, t2, b2, r2, f2⟩ := R2.drw X hP hw hK hc i pins s σ H ys I q2 h2
    have hap := ap hz hTI hTO h1 h2 f1 f2
    obtain ⟨a, b, hTO⟩ := hTO
    refine hgG.go ?_
    clear hgG
    subst hP hw
    refine wpAny_pyNext_zipD_item D1 D2 hap hz hTI hTO t1 t2 l1 l2 fun x y h' tk px py hz' hTO' hTI' g1 g2 hn hk => ?_
    refine ⟨_, rfl, wpAny_letOwnedTupleGo_zip (s := { s with heap := h', toks := tk }) hz' fun hh hzh hsh => ?_⟩
    have zlt : z < s.heap.objs.size := Heap.lt_size hz
    have ht2 : hh.get? s.heap.objs.size = some { cls := .type "tuple", data := .seq #[x, y] } := (hsh.2 _ (Nat.ne_of_gt zlt)).trans hn
    have kk : ∀ c o, c ∉ [z, TI, TO, i1, i2] → s.heap.get? c = some o → hh.get? c = some o := fun c o hc q => by
      simp only [List.mem_cons, List.not_mem_nil, or_false, not_or] at hc
      exact (hsh.2 c hc.1).trans (hk c o hc.1 hc.2.2.1 hc.2.2.2.1 hc.2.2.2.2 q)
    obtain ⟨u, hu⟩ : ∃ u, xs[i]? = some u := ⟨xs[i], List.getElem?_eq_getElem l1⟩
    obtain ⟨v, hv⟩ : ∃ v, ys[i]? = some v := ⟨ys[i], List.getElem?_eq_getElem l2⟩
    have I1 : Inv X pins σ (upd H s.heap.objs.size (.tup [u, v])) { s with heap := hh, toks := tk } := by
      refine I.turnLay hf kk (Nat.le_refl _) ⟨by show 2 ≤ sizeLine; decide, [x, y], .cons (r1 i u x hu px) (.cons (r2 i v y hv py) .nil), ?_⟩
      exact ⟨_, ht2, rfl, _, rfl⟩
    have zz : ∀ c o, c ≠ z → h'.get? c = some o → hh.get? c = some o := fun c o n q => (hsh.2 c n).trans q
    refine ⟨.ref s.heap.objs.size, _, I1, rfl, ⟨_, u, v, rfl, I.hok.fresh (Nat.le_refl _), rfl, fun xs' ys' p1 p2 => ?_⟩, ⟨hzh, zz _ _ (Ne.symm hap.zTI) hTI', ⟨_, _, zz _ _ (Ne.symm hap.zTO) hTO'⟩, R1.keep _ _ _ (b1 _ _ g1) fun o q => zz _ _ (Ne.symm hap.z1) q, R2.keep _ _ _ (b2 _ _ g2) fun o q => zz _ _ (Ne.symm hap.z2) q⟩, fun c hc => ?_⟩
    · rw [R1.inj hK I p1 q1, R2.inj hK I p2 q2]
      exact ⟨hu, hv⟩
    · have hc0 := (hf c hc).1
      rw [upd_ne]
      · exact hc0
      · intro q
        refine gate' fun gG hgG => ?_
        obtain ⟨o1, n1, v1, e1, _⟩ := R1.obj i _ h1
        obtain ⟨o2, n2, v2, e2, _⟩ := R2.obj i _ h2
        refine hgG.go ?_
        clear hgG
        have lt : c < s.heap.objs.size := by
          simp only [List.mem_cons, List.not_mem_nil, or_false] at hc
          rcases hc with rfl | rfl | rfl | rfl | rfl
          · exact zlt
          · exact Heap.lt_size hTI
          · exact Heap.lt_size hTO
          · exact Heap.lt_size e1
          · exact Heap.lt_size e2
        exact absurd lt (by rw [q]; exact Nat.lt_irrefl _)
  · intro X hP hw hK hc i pins s σ H E I hf ⟨hz, hTI, hTO, h1, h2⟩ ⟨xs, ys, q1, q2, le⟩
    refine gate' fun gG hgG => ?_
    obtain ⟨fp1, P1, St1', D1, t1, b1, r1, f1⟩ := R1.drw X hP hw hK hc i pins s σ H xs I q1 h1
    obtain ⟨fp2, P2, St2', D2, t2, b2, r2, f2⟩ := R2.drw X hP hw hK hc i pins s σ H ys I q2 h2
    have hap := ap hz hTI hTO h1 h2 f1 f2
    obtain ⟨a, b, hTO⟩ := hTO
    refine hgG.go ?_
    clear hgG
    subst hP hw
    refine wpAny_pyNext_zipD_end D1 D2 hap hz hTI hTO t1 t2 (by omega) fun h' tk hk => ⟨rfl, ?_⟩
    refine I.turnedL (t' := tk) hf fun c o hc q => ?_
    simp only [List.mem_cons, List.not_mem_nil, or_false, not_or] at hc
    exact hk c o hc.1 hc.2.2.1 hc.2.2.2.1 hc.2.2.2.2 q
  · intro A i s Q E ⟨hz, _⟩ q
    exact wpAny_pyIter_zip hz q
noncomputable def iZipLL (K : PySem.W.Frag) (ta : TA) : TI := fun σ H R => ta σ H fun vs H1 => ∃ a b, vs = [.ref a, .ref b] ∧ (∃ xs, SqL K H1 a xs) ∧ (∃ ys, SqL K H1 b ys) ∧ R (Itz (fun H xs => SqL K H a xs) (fun H xs => SqL K H b xs)) H1
noncomputable def iZipLS (K : PySem.W.Frag) (ta : TA) : TI := fun σ H R => ta σ H fun vs H1 => ∃ a l, vs = [.ref a, .str (T l)] ∧ (∃ xs, SqL K H1 a xs) ∧ R (Itz (fun H xs => SqL K H a xs) (fun _ xs => xs = letsV l)) H1
noncomputable def iZipSS (ta : TA) : TI := fun σ H R => ta σ H fun vs H1 => ∃ m l, vs = [.str (T m), .str (T l)] ∧ R (Itz (fun _ xs => xs = letsV m) (fun _ xs => xs = letsV l)) H1
theorem pi_zip {X : Cx} {es : List Expr} {x1 : _} {tp : Pos} {σ : St} {H1 : Hp} {pins : List (Addr × Obj)} {s1 : Shared} {v1 v2 : Value} {o1 o2 : Obj} {S1 S2 : Hp → List V → Prop} {St1 St2 : Nat → Heap → Prop} {R : It → Hp → Prop} (I1 : Inv X pins σ H1 s1)
    (f1 : o1.isFreed = false) (f2 : o2.isFreed = false)
    (g1 : ∀ (A : Around) (E : Value → Shared → Prop) (Q : Value → Shared → Prop), Q (.ref s1.heap.objs.size) { s1 with heap := s1.heap.push o1 } → wpAny (model X.prog X.w) A (pyIter v1) Q E s1)
    (g2 : ∀ (A : Around) (E : Value → Shared → Prop) (Q : Value → Shared → Prop), Q (.ref (s1.heap.push o1).objs.size) { s1 with heap := (s1.heap.push o1).push o2 } → wpAny (model X.prog X.w) A (pyIter v2) Q E { s1 with heap := s1.heap.push o1 })
    (R1 : Src X.prog X.w X.K S1 s1.heap.objs.size St1) (R2 : Src X.prog X.w X.K S2 (s1.heap.objs.size + 1) St2) (t1 : ∀ h : Heap, h.get? s1.heap.objs.size = some o1 → St1 0 h) (t2 : ∀ h : Heap, h.get? (s1.heap.objs.size + 1) = some o2 → St2 0 h) (q : R (Itz S1 S2) H1) :
    wpAny (model X.prog X.w) X.A (call (.type "zip") [v1, v2]) (fun v s2 => wpAny (model X.prog X.w) X.A (pyIter v) (PIE X pins σ (.Tuple es x1 tp) R) X.xe s2) X.xe s1 := by
  refine call_zipD f1 f2 g1 g2 fun h' hz hTI hTO e1 e2 hk => ?_
  have I2 : Inv X pins σ H1 { s1 with heap := h' } := I1.kept (t' := s1.toks) hk
  refine wpAny_pyIter_zip (s := { s1 with heap := h' }) hz ?_
  refine ⟨_, [s1.heap.objs.size + 4, s1.heap.objs.size + 2, s1.heap.objs.size + 3, s1.heap.objs.size, s1.heap.objs.size + 1], _, _, H1, rfl, I2, turn_zip (z := s1.heap.objs.size + 4) (TI := s1.heap.objs.size + 2) (TO := s1.heap.objs.size + 3) R1 R2 (Nat.ne_of_lt (Nat.lt_succ_self _)) (Nat.ne_of_lt (Nat.lt_succ_self _)), ⟨hz, hTI, ⟨_, _, hTO⟩, t1 _ e1, t2 _ e2⟩, fun c hc => ?_, q⟩
  have le : s1.heap.objs.size ≤ c := by
    simp only [List.mem_cons, List.not_mem_nil, or_false] at hc
    rcases hc with rfl | rfl | rfl | rfl | rfl
    · exact Nat.le_add_right _ _
    · exact Nat.le_add_right _ _
    · exact Nat.le_add_right _ _
    · exact Nat.le_refl _
    · exact Nat.le_add_right _ _
  exact I1.fpOk le (I1.hok.fresh le)
section
variable {X : Cx} {a b : Expr} {es : List Expr} {x1 : _} {tp p pos : Pos} {ta : TA}
theorem pi_zipLL (hg : Gl X "zip") (hm : X.mg "zip" = none) (ha : PA X [a, b] ta) (hs : starEach [a, b] X.env = (false, eval a X.env) :: starEach [b] X.env := by rfl) (hs2 : starEach [b] X.env = [(false, eval b X.env)] := by rfl) : PI X (.Tuple es x1 tp) (.Call (.Name "zip" p) [a, b] [] pos) (iZipLL X.K ta) := by
  intro pins s σ H R I h
  refine Call_ (ld_blt I hg hm boot_zip (PyProof.Rows.callWith_type1 (thn (ha pos pins s σ H _ I h) fun us s1 ⟨vs, H1, I1, r1, q1⟩ => ?_) (by rw [hs, hs2]) (by rw [hs2]; rfl)))
  refine gate' fun gG hgG => ?_
  obtain ⟨l1, l2, rfl, ⟨xs, hx⟩, ⟨ys, hy⟩, q⟩ := q1
  obtain ⟨u1, u2, rfl, ru1, ru2⟩ := vals2 r1
  refine hgG.go ?_
  clear hgG
  cases (show u1 = Value.ref l1 from ru1)
  cases (show u2 = Value.ref l2 from ru2)
  refine gate' fun gG hgG => ?_
  obtain ⟨its1, _, p1, _⟩ := I1.list hx
  obtain ⟨its2, _, p2, _⟩ := I1.list hy
  refine hgG.go ?_
  clear hgG
  exact pi_zip (o1 := { cls := Value.type "list_iterator", data := Data.fields #[Value.ref l1, Value.int 0 0] }) (o2 := { cls := Value.type "list_iterator", data := Data.fields #[Value.ref l2, Value.int 0 0] }) I1 rfl rfl (fun A E Q h => wpAny_pyIter_list p1.isList h)
    (fun A E Q h => wpAny_pyIter_list (s := { s1 with heap := s1.heap.push _ }) (p2.isList.at fun o e => Heap.get?_push_of_some _ e) h) (src_list l1 _) (src_list l2 _) (fun h e => ⟨_, e, rfl, rfl⟩) (fun h e => ⟨_, e, rfl, rfl⟩) q
theorem pi_zipLS (hg : Gl X "zip") (hm : X.mg "zip" = none) (ha : PA X [a, b] ta) (hs : starEach [a, b] X.env = (false, eval a X.env) :: starEach [b] X.env := by rfl) (hs2 : starEach [b] X.env = [(false, eval b X.env)] := by rfl) : PI X (.Tuple es x1 tp) (.Call (.Name "zip" p) [a, b] [] pos) (iZipLS X.K ta) := by
  intro pins s σ H R I h
  refine Call_ (ld_blt I hg hm boot_zip (PyProof.Rows.callWith_type1 (thn (ha pos pins s σ H _ I h) fun us s1 ⟨vs, H1, I1, r1, q1⟩ => ?_) (by rw [hs, hs2]) (by rw [hs2]; rfl)))
  refine gate' fun gG hgG => ?_
  obtain ⟨l1, l, rfl, ⟨xs, hx⟩, q⟩ := q1
  obtain ⟨u1, u2, rfl, ru1, ru2⟩ := vals2 r1
  refine hgG.go ?_
  clear hgG
  cases (show u1 = Value.ref l1 from ru1)
  obtain ⟨t, rfl⟩ := (show ∃ t, u2 = Value.str (T l) t from ru2)
  obtain ⟨its1, _, p1, _⟩ := I1.list hx
  exact pi_zip (o1 := { cls := Value.type "list_iterator", data := Data.fields #[Value.ref l1, Value.int 0 0] }) (o2 := { cls := Value.type (strIterType (T l)), data := Data.fields #[Value.str (T l) t, Value.int 0 0] }) I1 rfl rfl (fun A E Q h => wpAny_pyIter_list p1.isList h)
    (fun A E Q h => wpAny_pyIter_strU (s := { s1 with heap := s1.heap.push _ }) h) (src_list l1 _) (src_str l t _) (fun h e => ⟨_, e, rfl, rfl⟩) (fun h e => ⟨_, e, rfl, rfl⟩) q
theorem pi_zipSS (hg : Gl X "zip") (hm : X.mg "zip" = none) (ha : PA X [a, b] ta) (hs : starEach [a, b] X.env = (false, eval a X.env) :: starEach [b] X.env := by rfl) (hs2 : starEach [b] X.env = [(false, eval b X.env)] := by rfl) : PI X (.Tuple es x1 tp) (.Call (.Name "zip" p) [a, b] [] pos) (iZipSS ta) := by
  intro pins s σ H R I h
  refine Call_ (ld_blt I hg hm boot_zip (PyProof.Rows.callWith_type1 (thn (ha pos pins s σ H _ I h) fun us s1 ⟨vs, H1, I1, r1, q1⟩ => ?_) (by rw [hs, hs2]) (by rw [hs2]; rfl)))
  refine gate' fun gG hgG => ?_
  obtain ⟨m, l, rfl, q⟩ := q1
  obtain ⟨u1, u2, rfl, ru1, ru2⟩ := vals2 r1
  obtain ⟨t0, rfl⟩ := (show ∃ t, u1 = Value.str (T m) t from ru1)
  obtain ⟨t, rfl⟩ := (show ∃ t, u2 = Value.str (T l) t from ru2)
  refine hgG.go ?_
  clear hgG
  exact pi_zip (o1 := { cls := Value.type (strIterType (T m)), data := Data.fields #[Value.str (T m) t0, Value.int 0 0] }) (o2 := { cls := Value.type (strIterType (T l)), data := Data.fields #[Value.str (T l) t, Value.int 0 0] }) I1 rfl rfl (fun A E Q h => wpAny_pyIter_strU h)
    (fun A E Q h => wpAny_pyIter_strU (s := { s1 with heap := s1.heap.push _ }) h) (src_str m t0 _) (src_str l t _) (fun h e => ⟨_, e, rfl, rfl⟩) (fun h e => ⟨_, e, rfl, rfl⟩) q
end
theorem for_zip {S1 S2 : Hp → List V → Prop} {xs ys : List V} {g : TG} {tb : TS} {D : Ends} {σ : St} {H : Hp} (Pv : Nat → St → Hp → Prop) (h0 : Pv 0 σ H) (hl : ∀ i σ H, Pv i σ H → S1 H xs ∧ S2 H ys)
    (hs : ∀ i u v σ H b, xs[i]? = some u → ys[i]? = some v → Pv i σ H → H b = none → g (.ref b) σ (upd H b (.tup [u, v])) fun σ2 H2 => tb { D with nx := Pv (i + 1), ct := Pv (i + 1), bk := D.nx } σ2 H2) (hd : ∀ σ H, Pv (min xs.length ys.length) σ H → D.nx σ H) :
    ∃ W : Nat → Nat → St → Hp → Prop, (∃ m, W 0 m σ H) ∧ ∀ i m σ H, W i m σ H →
      ((Itz S1 S2).stop i H ∧ D.nx σ H) ∨ ((Itz S1 S2).go i H ∧ ∃ N : St → Hp → Prop, (∀ σ' H', N σ' H' → ∃ m', m' < m ∧ W (i + 1) m' σ' H') ∧ ∀ x H', (Itz S1 S2).yld i H x H' → g x σ H' fun σ2 H2 => tb { D with nx := N, ct := N, bk := D.nx } σ2 H2) := by
  refine ⟨fun i m σ H => m = min xs.length ys.length - i ∧ i ≤ min xs.length ys.length ∧ Pv i σ H, ⟨min xs.length ys.length, by simp, Nat.zero_le _, h0⟩, ?_⟩
  rintro i m σ H ⟨rfl, hi, p⟩
  obtain ⟨q1, q2⟩ := hl i σ H p
  by_cases hlt : i < min xs.length ys.length
  · refine .inr ⟨⟨xs, ys, q1, q2, by omega, by omega⟩, Pv (i + 1), fun σ' H' p' => ⟨min xs.length ys.length - (i + 1), by omega, rfl, hlt, p'⟩, fun x H' y => ?_⟩
    refine gate' fun gG hgG => ?_
    obtain ⟨b, u, v, rfl, hb, rfl, hv⟩ := y
    obtain ⟨e1, e2⟩ := hv xs ys q1 q2
    refine hgG.go ?_
    clear hgG
    exact hs i u v σ H b e1 e2 p hb
  · have e : i = min xs.length ys.length := by omega
    subst e
    exact .inl ⟨⟨xs, ys, q1, q2, rfl⟩, hd σ H p⟩
end L2
namespace WM
noncomputable def isL (p c : Nat) : Bool := decide (c = tn 1 p)
noncomputable def isR (p c : Nat) : Bool := decide (c = tn 3 p)
noncomputable def cntT (f : Nat → Nat → Bool) : Nat → List Nat → Nat
  | _, [] => 0
  | p, c :: l => (if f p c = true then 1 else 0) + cntT f c l
noncomputable def lastD (p : Nat) : List Nat → Nat
  | [] => p
  | c :: l => lastD c l
theorem lastD_append : ∀ (a b : List Nat) (p : Nat), lastD p (a ++ b) = lastD (lastD p a) b
  | [], _, _ => rfl
  | c :: a, b, _ => lastD_append a b c
theorem lastD_snoc (a : List Nat) (p c : Nat) : lastD p (a ++ [c]) = c := by
  rw [lastD_append]
  rfl
theorem cntT_append (f : Nat → Nat → Bool) : ∀ (a b : List Nat) (p : Nat), cntT f p (a ++ b) = cntT f p a + cntT f (lastD p a) b
  | [], b, p => by show cntT f p b = 0 + cntT f p b; omega
  | c :: a, b, p => by
    show (if f p c = true then 1 else 0) + cntT f c (a ++ b) = (if f p c = true then 1 else 0) + cntT f c a + cntT f (lastD c a) b
    rw [cntT_append f a b c]
    omega
noncomputable def cycT (f : Nat → Nat → Bool) (l : List Nat) : Nat := cntT f (lastD 0 l) l
end WM
namespace WM
noncomputable def trail : Pt → List Nat → List Pt
  | _, [] => []
  | p, c :: l => stepP p c :: trail (stepP p c) l
end WM
namespace WM
end WM
namespace WM
theorem sumC_congr {f g : Pt → Nat → Int} {S : Pt → Prop} (h : ∀ p c, Lt c → S p → S (stepP p c) → f p c = g p c) : ∀ {l : List Nat} {p : Pt}, IsW l → S p → (∀ q ∈ trail p l, S q) → sumC f p l = sumC g p l
  | [], _, _, _, _ => rfl
  | c :: l, p, hl, hp, ht => by
    obtain ⟨h1, h2⟩ := isW_cons.mp hl
    have hs : S (stepP p c) := ht _ List.mem_cons_self
    show f p c + sumC f (stepP p c) l = g p c + sumC g (stepP p c) l
    rw [h p c h1 hp hs, sumC_congr h h2 hs fun q hq => ht q (List.mem_cons_of_mem _ hq)]
end WM
namespace WM
noncomputable def sumL {α : Type} (f : α → Int) : List α → Int
  | [] => 0
  | a :: r => f a + sumL f r
theorem sumL_append {α : Type} (f : α → Int) : ∀ a b : List α, sumL f (a ++ b) = sumL f a + sumL f b
  | [], b => by show sumL f b = 0 + sumL f b; omega
  | x :: a, b => by
    show f x + sumL f (a ++ b) = f x + sumL f a + sumL f b
    rw [sumL_append f a b]
    omega
theorem sumL_perm {α : Type} (f : α → Int) {a b : List α} (h : a.Perm b) : sumL f a = sumL f b := by
  induction h with
  | nil => rfl
  | cons x _ ih =>
    show f x + _ = f x + _
    rw [ih]
  | swap x y l =>
    show f y + (f x + sumL f l) = f x + (f y + sumL f l)
    omega
  | trans _ _ h1 h2 => exact h1.trans h2
theorem sumL_zero {α : Type} {f : α → Int} : ∀ {l : List α}, (∀ a ∈ l, f a = 0) → sumL f l = 0
  | [], _ => rfl
  | x :: l, h => by
    show f x + sumL f l = 0
    rw [h x List.mem_cons_self, sumL_zero fun a ha => h a (List.mem_cons_of_mem _ ha)]
    rfl
theorem sumL_congr {α : Type} {f g : α → Int} : ∀ {l : List α}, (∀ a ∈ l, f a = g a) → sumL f l = sumL g l
  | [], _ => rfl
  | x :: l, h => by
    show f x + sumL f l = g x + sumL g l
    rw [h x List.mem_cons_self, sumL_congr fun a ha => h a (List.mem_cons_of_mem _ ha)]
noncomputable def rowI (n : Nat) : List Int := (List.range (2 * n)).map fun (i : Nat) => (i : Int) - (n : Int)
noncomputable def box (n : Nat) : List Pt := (rowI n).flatMap fun x => (rowI n).map fun y => (x, y)
theorem mem_rowI {n : Nat} {x : Int} : x ∈ rowI n ↔ -(n : Int) ≤ x ∧ x < (n : Int) := by
  unfold rowI
  constructor
  · intro h
    obtain ⟨i, hi, rfl⟩ := List.mem_map.mp h
    have := List.mem_range.mp hi
    omega
  · intro h
    exact List.mem_map.mpr ⟨(x + (n : Int)).toNat, List.mem_range.mpr (by omega), by omega⟩
theorem mem_box {n : Nat} {q : Pt} : q ∈ box n ↔ (-(n : Int) ≤ q.1 ∧ q.1 < (n : Int)) ∧ (-(n : Int) ≤ q.2 ∧ q.2 < (n : Int)) := by
  unfold box
  rw [List.mem_flatMap]
  constructor
  · rintro ⟨x, hx, h⟩
    obtain ⟨y, hy, rfl⟩ := List.mem_map.mp h
    exact ⟨mem_rowI.mp hx, mem_rowI.mp hy⟩
  · rintro ⟨h1, h2⟩
    exact ⟨q.1, mem_rowI.mpr h1, List.mem_map.mpr ⟨q.2, mem_rowI.mpr h2, rfl⟩⟩
theorem add4 {a b c d n : Nat} (h1 : a + c ≤ n) (h2 : b + d ≤ 1) : (a + b) + (c + d) ≤ n + 1 := by omega
theorem trail_bound : ∀ {l : List Nat} {p q : Pt}, q ∈ trail p l → (q.1 - p.1).natAbs + (q.2 - p.2).natAbs ≤ l.length
  | [], _, _, h => nomatch h
  | c :: l, p, q, h => by
    have hv : (vec c).1.natAbs + (vec c).2.natAbs ≤ 1 := by
      unfold vec
      split
      · decide
      · split
        · decide
        · split <;> decide
    have e1 : (stepP p c).1 = p.1 + (vec c).1 := by rw [stepP_vec]
    have e2 : (stepP p c).2 = p.2 + (vec c).2 := by rw [stepP_vec]
    rw [List.length_cons]
    rcases List.mem_cons.mp h with rfl | h
    · rw [e1, e2, Int.add_comm p.1, Int.add_comm p.2, Int.add_sub_cancel, Int.add_sub_cancel]
      exact Nat.le_trans hv (Nat.succ_le_succ (Nat.zero_le _))
    · have ih := trail_bound h
      have d1 : q.1 - p.1 = (q.1 - (stepP p c).1) + (vec c).1 := by omega (config := {})
      have d2 : q.2 - p.2 = (q.2 - (stepP p c).2) + (vec c).2 := by omega (config := {})
      rw [d1, d2]
      exact Nat.le_trans (Nat.add_le_add (Int.natAbs_add_le _ _) (Int.natAbs_add_le _ _)) (add4 ih hv)
theorem in_box {l : List Nat} {q : Pt} (h : q ∈ trail (0, 0) l) : (-(l.length : Int) ≤ q.1 ∧ q.1 ≤ (l.length : Int)) ∧ -(l.length : Int) ≤ q.2 ∧ q.2 ≤ (l.length : Int) := by
  have := trail_bound h
  rw [Int.sub_zero, Int.sub_zero] at this
  have h1 : q.1.natAbs ≤ l.length := Nat.le_trans (Nat.le_add_right _ _) this
  have h2 : q.2.natAbs ≤ l.length := Nat.le_trans (Nat.le_add_left _ _) this
  have k : ∀ {x : Int} {n : Nat}, x.natAbs ≤ n → -(n : Int) ≤ x ∧ x ≤ (n : Int) := fun h => by omega (config := {})
  exact ⟨k h1, k h2⟩
theorem around_far {l : List Nat} {q : Pt} (h : IsW l) (h0 : posOf l = (0, 0)) (hq : q ∉ box l.length) : aroundE q l = 0 := by
  have zero : ∀ f : Pt → Nat → Int, (∀ p c, Lt c → ((-(l.length : Int) ≤ p.1 ∧ p.1 ≤ (l.length : Int)) ∧ -(l.length : Int) ≤ p.2 ∧ p.2 ≤ (l.length : Int)) → ((-(l.length : Int) ≤ (stepP p c).1 ∧ (stepP p c).1 ≤ (l.length : Int)) ∧ -(l.length : Int) ≤ (stepP p c).2 ∧ (stepP p c).2 ≤ (l.length : Int)) → f p c = 0) → sumC f (0, 0) l = 0 := by
    intro f hf
    have := sumC_congr (f := f) (g := fun _ _ => 0) hf (l := l) (p := (0, 0)) h (by dsimp only; omega (config := {})) fun q hq => in_box hq
    rw [this]
    have z : ∀ (m : List Nat) (p : Pt), sumC (fun _ _ => (0 : Int)) p m = 0 := by
      intro m
      induction m with
      | nil => intro p; rfl
      | cons c m ih =>
        intro p
        show (0 : Int) + _ = 0
        rw [ih]
        rfl
    exact z l _
  have hq' : ¬ ((-(l.length : Int) ≤ q.1 ∧ q.1 < (l.length : Int)) ∧ (-(l.length : Int) ≤ q.2 ∧ q.2 < (l.length : Int))) := fun z => hq (mem_box.mpr z)
  obtain ⟨x, y⟩ := q
  dsimp only at hq'
  by_cases hy : -(l.length : Int) ≤ y ∧ y < (l.length : Int)
  · rw [around_both h h0]
    refine zero _ fun p c hc hp hs => ?_
    obtain ⟨X, Y⟩ := p
    dsimp only at hp
    rcases hc with rfl | rfl | rfl | rfl
    · rfl
    · have hs' : -(l.length : Int) ≤ X - 1 ∧ X - 1 ≤ (l.length : Int) := hs.1
      show b01 (decide (y < Y ∧ X - 1 = x)) = 0
      rw [decide_eq_false (by omega (config := {}))]
      rfl
    · rfl
    · have hs' : -(l.length : Int) ≤ X + 1 ∧ X + 1 ≤ (l.length : Int) := hs.1
      show -b01 (decide (y < Y ∧ X = x)) = 0
      rw [decide_eq_false (by omega (config := {}))]
      rfl
  · refine zero _ fun p c hc hp hs => ?_
    obtain ⟨X, Y⟩ := p
    dsimp only at hp
    rcases hc with rfl | rfl | rfl | rfl
    · have hs' : -(l.length : Int) ≤ Y + 1 ∧ Y + 1 ≤ (l.length : Int) := hs.2
      show b01 (decide (x < X ∧ Y = y)) = 0
      rw [decide_eq_false (by omega (config := {}))]
      rfl
    · rfl
    · have hs' : -(l.length : Int) ≤ Y - 1 ∧ Y - 1 ≤ (l.length : Int) := hs.2
      show -b01 (decide (x < X ∧ Y - 1 = y)) = 0
      rw [decide_eq_false (by omega (config := {}))]
      rfl
    · rfl
end WM
namespace WM
noncomputable abbrev Tr := Int × Int × Int
noncomputable def upr : Pt → List Nat → List Tr
  | _, [] => []
  | p, c :: l => (if c = 110 then [(p.2, p.1, 1)] else if c = 115 then [(p.2 - 1, p.1, -1)] else []) ++ upr (stepP p c) l
theorem upr_snoc : ∀ (l : List Nat) (p : Pt) (c : Nat), upr p (l ++ [c]) = upr p l ++ (if c = 110 then [((goP p l).2, (goP p l).1, 1)] else if c = 115 then [((goP p l).2 - 1, (goP p l).1, -1)] else [])
  | [], p, c => by simp [upr, goP]
  | d :: l, p, c => by
    show _ ++ upr (stepP p d) (l ++ [c]) = (_ ++ upr (stepP p d) l) ++ _
    rw [upr_snoc l, List.append_assoc]
    rfl
theorem upr_length : ∀ (l : List Nat) (p : Pt), (upr p l).length ≤ l.length
  | [], _ => Nat.le_refl _
  | c :: l, p => by
    have := upr_length l (stepP p c)
    unfold upr
    rw [List.length_append, List.length_cons]
    split
    · rw [List.length_singleton]; omega
    · split
      · rw [List.length_singleton]; omega
      · rw [List.length_nil]; omega
theorem upr_sum (f : Tr → Int) (g : Pt → Nat → Int) (hn : ∀ p, g p 110 = f (p.2, p.1, 1)) (hs : ∀ p, g p 115 = f (p.2 - 1, p.1, -1)) (ho : ∀ p c, ¬ c = 110 → ¬ c = 115 → g p c = 0) : ∀ (l : List Nat) (p : Pt), sumL f (upr p l) = sumC g p l
  | [], _ => rfl
  | c :: l, p => by
    show sumL f (_ ++ upr (stepP p c) l) = g p c + sumC g (stepP p c) l
    rw [sumL_append, upr_sum f g hn hs ho l]
    by_cases h1 : c = 110
    · subst h1
      rw [if_pos rfl, hn]
      show f _ + 0 + _ = _
      omega
    · by_cases h2 : c = 115
      · subst h2
        rw [if_neg (by decide), if_pos rfl, hs]
        show f _ + 0 + _ = _
        omega
      · rw [if_neg h1, if_neg h2, ho p c h1 h2]
        show 0 + _ = _
        rfl
noncomputable def eastT (q : Pt) (t : Tr) : Int := if t.1 = q.2 ∧ q.1 < t.2.1 then t.2.2 else 0
theorem upr_around (q : Pt) (l : List Nat) : sumL (eastT q) (upr (0, 0) l) = aroundE q l := by
  unfold aroundE
  have e1 : ∀ (a b : Prop) [Decidable a] [Decidable b], (if a ∧ b then (1 : Int) else 0) = b01 (decide (b ∧ a)) := fun a b _ _ => by
    unfold b01
    by_cases ha : a <;> by_cases hb : b <;> simp [ha, hb]
  have e2 : ∀ (a b : Prop) [Decidable a] [Decidable b], (if a ∧ b then (-1 : Int) else 0) = -b01 (decide (b ∧ a)) := fun a b _ _ => by
    unfold b01
    by_cases ha : a <;> by_cases hb : b <;> simp [ha, hb]
  refine upr_sum _ _ (fun p => ?_) (fun p => ?_) (fun p c h1 h2 => ?_) l (0, 0)
  · exact (e1 _ _).symm
  · exact (e2 _ _).symm
  · unfold eastC
    rw [if_neg h1, if_neg h2]
noncomputable def rowT (r : Int) (t : Tr) : Int := if t.1 = r then t.2.2 else 0
noncomputable def aboveR (r : Int) (y : Int) : Int := if r < y then 1 else 0
theorem upr_row_step (r : Int) : ∀ (l : List Nat) (p : Pt), IsW l → sumL (rowT r) (upr p l) = aboveR r (goP p l).2 - aboveR r p.2
  | [], p, _ => by
    show (0 : Int) = aboveR r p.2 - aboveR r p.2
    omega
  | c :: l, p, h => by
    have ih := upr_row_step r l (stepP p c) fun d hd => h d (List.mem_cons_of_mem _ hd)
    show sumL (rowT r) (_ ++ upr (stepP p c) l) = aboveR r (goP (stepP p c) l).2 - aboveR r p.2
    rw [sumL_append, ih]
    have key : sumL (rowT r) (if c = 110 then [(p.2, p.1, 1)] else if c = 115 then [(p.2 - 1, p.1, -1)] else []) = aboveR r (stepP p c).2 - aboveR r p.2 := by
      rw [stepP_vec]
      rcases h c List.mem_cons_self with rfl | rfl | rfl | rfl
      · simp [sumL, rowT, aboveR, vec]; split <;> split <;> omega
      · simp [sumL, rowT, aboveR, vec]
      · simp [sumL, rowT, aboveR, vec]; split <;> split <;> omega
      · simp [sumL, rowT, aboveR, vec]
    rw [key]
    omega
theorem upr_row {l : List Nat} (h : IsW l) (h0 : posOf l = (0, 0)) (r : Int) : sumL (rowT r) (upr (0, 0) l) = 0 := by
  rw [upr_row_step r l (0, 0) h]
  show aboveR r (posOf l).2 - aboveR r 0 = 0
  rw [h0]
  exact Int.sub_self _
end WM
namespace WM
end WM
set_option Elab.async false
set_option linter.all false
set_option maxRecDepth 100000
set_option maxHeartbeats 4000000
namespace SW
open PySem L2 WM
noncomputable def TrP (H : Hp) (a : Addr) (t : Tr) : Prop := H a = some (.tup [.int t.1, .int t.2.1, .int t.2.2])
noncomputable abbrev TrsAt (H : Hp) : List Addr → List Tr → Prop := Paired (TrP H)
theorem TrsAt.mono {H H' : Hp} {as : List Addr} {ts : List Tr} (h : TrsAt H as ts) (s : TSame H H') : TrsAt H' as ts := by
  induction h with
  | nil => exact .nil
  | cons h t ih => exact .cons (s _ _ h) ih
theorem paired_get {α β : Type} {S : α → β → Prop} : ∀ {as : List α} {bs : List β} {i : Nat} {a : α}, Paired S as bs → as[i]? = some a → ∃ b, bs[i]? = some b ∧ S a b
  | _, _, _, _, .nil, e => by simp at e
  | _, _, 0, _, .cons h _, e => by
    simp at e
    subst e
    exact ⟨_, rfl, h⟩
  | _, _, i + 1, x, .cons _ t, e => by
    obtain ⟨b, h1, h2⟩ := paired_get (i := i) t (by simpa using e)
    exact ⟨b, by simpa using h1, h2⟩
theorem paired_app {α β : Type} {S : α → β → Prop} {as as' : List α} {bs bs' : List β} (h : Paired S as bs) (k : Paired S as' bs') : Paired S (as ++ as') (bs ++ bs') := by
  induction h with
  | nil => exact k
  | cons h t ih => exact .cons h ih
theorem map_ref_get {as : List Addr} {i : Nat} {x : V} (h : (as.map V.ref)[i]? = some x) : ∃ a, as[i]? = some a ∧ x = .ref a := by
  rw [List.getElem?_map] at h
  cases e : as[i]? with
  | none => rw [e] at h; cases h
  | some a => rw [e] at h; exact ⟨a, rfl, (Option.some.inj h).symm⟩
noncomputable def spUpright : Sp := fun vs H Q _ => ∃ (l : List Nat), vs = [.str (T l)] ∧ IsW l ∧ l.length ≤ 1000 ∧ ∀ (d : Addr) (H' : Hp) (as : List Addr), H d = none → Same H H' → H' d = some (.lst (as.map V.ref)) → TrsAt H' as (upr (0, 0) l) → Q (.ref d) H'
noncomputable def sl3 (H : Hp) (x : V) : St := [(partsV H x)[0]?, (partsV H x)[1]?, (partsV H x)[2]?]
theorem sl3_len (H : Hp) (x : V) : (sl3 H x).length = 3 := rfl
theorem sl3_eq {H : Hp} {a : Addr} {u v y : V} (h : H a = some (.tup [u, v, y])) : sl3 H (.ref a) = [some u, some v, some y] := by
  unfold sl3
  rw [partsV_eq h]
  rfl
theorem g_three {K : PySem.W.Frag} {σ : St} {n : Nat} {H : Hp} {a : Addr} {u v y : V} {R : St → Hp → Prop} (hn : n = σ.length) (h : SqT K H a [u, v, y]) (k : R (σ ++ [some u, some v, some y]) H) : gTup K 3 (gCons (gName n) (gCons (gName (n + 1)) (gCons (gName (n + 2)) gNil))) (.ref a) (σ ++ List.replicate 3 none) H R := by
  subst hn
  refine ⟨a, _, rfl, h, rfl, u, _, rfl, v, _, rfl, y, _, rfl, rfl, ?_⟩
  have e1 : (σ ++ List.replicate 3 none).set σ.length (some u) = σ ++ [some u, none, none] := by
    rw [List.set_append_right _ _ (Nat.le_refl _), Nat.sub_self]
    rfl
  have e2 : (σ ++ [some u, none, none]).set (σ.length + 1) (some v) = σ ++ [some u, some v, none] := by
    rw [List.set_append_right _ _ (by omega), Nat.add_sub_cancel_left]
    rfl
  have e3 : (σ ++ [some u, some v, none]).set (σ.length + 2) (some y) = σ ++ [some u, some v, some y] := by
    rw [List.set_append_right _ _ (by omega), Nat.add_sub_cancel_left]
    rfl
  rw [e1, e2, e3]
  exact k
theorem three_le : 3 ≤ sizeLine := by decide
end SW
namespace SW
open WM
end SW
set_option linter.all false
set_option maxRecDepth 100000
set_option maxHeartbeats 4000000
namespace TS
open PySem PyProof.Rows
noncomputable def gallop' : Bool → Keyed → Array Keyed → Nat → Nat → Nat → StateT SortSt Sem (Option Nat) := sortPriv% PySem.Builtin.gallop
noncomputable def mergeLo' : Array Keyed → Array Keyed → StateT SortSt Sem (Array Keyed) := sortPriv% PySem.Builtin.mergeLo
noncomputable def mergeHi' : Array Keyed → Array Keyed → StateT SortSt Sem (Array Keyed) := sortPriv% PySem.Builtin.mergeHi
noncomputable def setG (st : SortSt) (g : Nat) : SortSt := SortSt.mk' (kindOf st) (arrOf st) (pendingOf st) g (failedOf st)
noncomputable def setMin (g : Nat) : StateT SortSt Sem Unit := modify fun s => setG s g
noncomputable def beyond (left : Bool) (key : Keyed) (arr : Array Keyed) (base i : Nat) : StateT SortSt Sem (Option Bool) :=
  elem' arr (base + i) >>= fun x => if left then lt' x key else lt' key x >>= fun r => pure (r.map fun c => !c)
end TS
set_option linter.all false
set_option maxRecDepth 100000
set_option maxHeartbeats 4000000
namespace TS
open PySem PyProof.Rows
structure Cmp (prog : Program) (w : World) (A : Around) (s : Shared) (κ : SortKind) (D : Keyed → Prop) (R : Keyed → Keyed → Bool) : Prop where
  ask : ∀ x y, D x → D y → ∀ (E : Value → Shared → Prop) (st : SortSt) (Q : Option Bool → SortSt → Prop), kindOf st = κ → Q (some (R x y)) st → wpS (model prog w) A E s (lt' x y) Q st
  asym : ∀ x y, D x → D y → R x y = true → R y x = false
  neg : ∀ x y z, D x → D y → D z → R x y = false → R y z = false → R x z = false
section
variable {prog : Program} {w : World} {A : Around} {E : Value → Shared → Prop} {s : Shared} {κ : SortKind} {D : Keyed → Prop} {R : Keyed → Keyed → Bool}
noncomputable def bey (R : Keyed → Keyed → Bool) (left : Bool) (key x : Keyed) : Bool := if left then R x key else !R key x
theorem wpS_elem {arr : Array Keyed} {i : Nat} {x : Keyed} {st : SortSt} {Q : Keyed → SortSt → Prop} (hx : arr[i]? = some x) (h : Q x st) : wpS (model prog w) A E s (elem' arr i) Q st := by
  rw [elem'_eq, hx]
  exact wpS_pure h
theorem wpS_beyond (C : Cmp prog w A s κ D R) {left : Bool} {key x : Keyed} {arr : Array Keyed} {base i : Nat} {st : SortSt} {Q : Option Bool → SortSt → Prop} (hk : kindOf st = κ) (hkey : D key) (hx : arr[base + i]? = some x) (hD : D x)
    (h : Q (some (bey R left key x)) st) : wpS (model prog w) A E s (beyond left key arr base i) Q st := by
  unfold beyond
  refine wpS_bind (wpS_elem hx ?_)
  unfold bey at h
  cases left with
  | true =>
    simp only [if_true] at h ⊢
    exact C.ask _ _ hD hkey E st Q hk h
  | false =>
    simp only [Bool.false_eq_true, if_false] at h ⊢
    exact wpS_bind (C.ask _ _ hkey hD E st _ hk (wpS_pure h))
structure Gal (D : Keyed → Prop) (R : Keyed → Keyed → Bool) (left : Bool) (key : Keyed) (arr : Array Keyed) (base n k : Nat) : Prop where
  le : k ≤ n
  dk : D key
  at_ : ∀ i, i < n → ∃ x, arr[base + i]? = some x ∧ D x ∧ bey R left key x = decide (i < k)
theorem wpS_gallop (C : Cmp prog w A s κ D R) {left : Bool} {key : Keyed} {arr : Array Keyed} {base n hint k : Nat} {st : SortSt} {Q : Option Nat → SortSt → Prop} (G : Gal D R left key arr base n k) (hh : hint < n) (hk : kindOf st = κ)
    (h : Q (some k) st) : wpS (model prog w) A E s (gallop' left key arr base n hint) Q st := by
  have ask : ∀ i, i < n → ∀ (Q' : Option Bool → SortSt → Prop), Q' (some (decide (i < k))) st → wpS (model prog w) A E s (beyond left key arr base i) Q' st := by
    intro i hi Q' hq
    obtain ⟨x, hx, hD, e⟩ := G.at_ i hi
    exact wpS_beyond C hk G.dk hx hD (by rw [e]; exact hq)
  have hkn := G.le
  refine wpS_bind (ask hint hh _ ?_)
  dsimp only
  by_cases hr : hint < k
  · rw [decide_eq_true hr, if_pos rfl]
    refine wpS_bind (wpS_mono (wpS_forRange (I := fun x c st' => st' = st ∧ ∃ last ofs, c = (none, last, ofs) ∧ hint + last < k ∧ last < ofs ∧ x + 1 ≤ ofs) (Q := fun c st' => st' = st ∧ ∃ last ofs, c = (none, last, ofs) ∧ hint + last < k ∧ last < ofs ∧ (n - hint ≤ ofs ∨ k ≤ hint + ofs)) ?step ?fin ⟨rfl, 0, 1, rfl, by assumption, by omega (config := {}), by omega (config := {})⟩) ?post)
    case step =>
      rintro x c st' _ hx ⟨rfl, last, ofs, rfl, g1, g2, g3⟩
      dsimp only
      by_cases hge : ofs ≥ n - hint
      · rw [if_pos hge]
        exact wpS_pure ⟨rfl, last, ofs, rfl, g1, g2, .inl hge⟩
      · rw [if_neg hge]
        refine wpS_bind (ask _ (by omega (config := {})) _ ?_)
        dsimp only
        by_cases hm : hint + ofs < k
        · rw [decide_eq_true hm]
          simp only [Bool.not_true, Bool.false_eq_true, if_false]
          exact wpS_pure ⟨rfl, _, _, rfl, hm, by omega (config := {}), by omega (config := {})⟩
        · rw [decide_eq_false hm]
          simp only [Bool.not_false, if_true]
          exact wpS_pure ⟨rfl, last, ofs, rfl, g1, g2, .inr (by omega (config := {}))⟩
    case fin =>
      rintro c st' ⟨rfl, last, ofs, rfl, g1, g2, g3⟩
      exact ⟨rfl, last, ofs, rfl, g1, g2, .inl (by omega (config := {}))⟩
    case post =>
      rintro c st' ⟨est, last, ofs, rfl, g1, g2, g3⟩
      subst st'
      dsimp only
      refine wpS_bind (wpS_mono (wpS_forRange (I := fun x c st' => st' = st ∧ ∃ lo hi, c = (none, lo, hi) ∧ lo ≤ k ∧ k ≤ hi ∧ hi ≤ n ∧ hi - lo ≤ n - x) (Q := fun c st' => st' = st ∧ c = (none, k, k)) ?stp ?fin2 ⟨rfl, hint + last + 1, hint + min ofs (n - hint), rfl, by assumption, by omega (config := {}), by omega (config := {}), by omega (config := {})⟩) ?post2)
      case stp =>
        rintro x c st' _ hx ⟨rfl, lo, hi, rfl, g1, g2, g3, g4⟩
        dsimp only
        by_cases hge : lo ≥ hi
        · rw [if_pos hge]
          refine wpS_pure ⟨rfl, ?_⟩
          have e1 : lo = k := by omega (config := {})
          have e2 : hi = k := by omega (config := {})
          rw [e1, e2]
        · rw [if_neg hge]
          refine wpS_bind (ask _ (by omega (config := {})) _ ?_)
          dsimp only
          by_cases hm : lo + (hi - lo) / 2 < k
          · rw [decide_eq_true hm, if_pos rfl]
            exact wpS_pure ⟨rfl, _, _, rfl, by assumption, g2, g3, by omega (config := {})⟩
          · rw [decide_eq_false hm, if_neg Bool.false_ne_true]
            exact wpS_pure ⟨rfl, _, _, rfl, g1, by omega (config := {}), by omega (config := {}), by omega (config := {})⟩
      case fin2 =>
        rintro c st' ⟨rfl, lo, hi, rfl, g1, g2, g3, g4⟩
        refine ⟨rfl, ?_⟩
        have e1 : lo = k := by omega (config := {})
        have e2 : hi = k := by omega (config := {})
        rw [e1, e2]
      case post2 =>
        rintro c st' ⟨rfl, rfl⟩
        exact wpS_pure h
  · rw [decide_eq_false hr, if_neg Bool.false_ne_true]
    refine wpS_bind (wpS_mono (wpS_forRange (I := fun x c st' => st' = st ∧ ∃ last ofs, c = (none, last, ofs) ∧ k + last ≤ hint ∧ last < ofs ∧ x + 1 ≤ ofs) (Q := fun c st' => st' = st ∧ ∃ last ofs, c = (none, last, ofs) ∧ k + last ≤ hint ∧ last < ofs ∧ (hint + 1 ≤ ofs ∨ (ofs ≤ hint ∧ hint - ofs < k))) ?step ?fin ⟨rfl, 0, 1, rfl, by omega (config := {}), by omega (config := {}), by omega (config := {})⟩) ?post)
    case step =>
      rintro x c st' _ hx ⟨rfl, last, ofs, rfl, g1, g2, g3⟩
      dsimp only
      by_cases hge : ofs ≥ hint + 1
      · rw [if_pos hge]
        exact wpS_pure ⟨rfl, last, ofs, rfl, g1, g2, .inl hge⟩
      · rw [if_neg hge]
        refine wpS_bind (ask _ (by omega (config := {})) _ ?_)
        dsimp only
        by_cases hm : hint - ofs < k
        · rw [decide_eq_true hm, if_pos rfl]
          exact wpS_pure ⟨rfl, last, ofs, rfl, g1, g2, .inr ⟨by omega (config := {}), hm⟩⟩
        · rw [decide_eq_false hm, if_neg Bool.false_ne_true]
          exact wpS_pure ⟨rfl, _, _, rfl, by omega (config := {}), by omega (config := {}), by omega (config := {})⟩
    case fin =>
      rintro c st' ⟨rfl, last, ofs, rfl, g1, g2, g3⟩
      exact ⟨rfl, last, ofs, rfl, g1, g2, .inl (by omega (config := {}))⟩
    case post =>
      rintro c st' ⟨est, last, ofs, rfl, g1, g2, g3⟩
      subst st'
      dsimp only
      refine wpS_bind (wpS_mono (wpS_forRange (I := fun x c st' => st' = st ∧ ∃ lo hi, c = (none, lo, hi) ∧ lo ≤ k ∧ k ≤ hi ∧ hi ≤ n ∧ hi - lo ≤ n - x) (Q := fun c st' => st' = st ∧ c = (none, k, k)) ?stp ?fin2 ⟨rfl, hint + 1 - min ofs (hint + 1), hint - last, rfl, by omega (config := {}), by omega (config := {}), by omega (config := {}), by omega (config := {})⟩) ?post2)
      case stp =>
        rintro x c st' _ hx ⟨rfl, lo, hi, rfl, g1, g2, g3, g4⟩
        dsimp only
        by_cases hge : lo ≥ hi
        · rw [if_pos hge]
          refine wpS_pure ⟨rfl, ?_⟩
          have e1 : lo = k := by omega (config := {})
          have e2 : hi = k := by omega (config := {})
          rw [e1, e2]
        · rw [if_neg hge]
          refine wpS_bind (ask _ (by omega (config := {})) _ ?_)
          dsimp only
          by_cases hm : lo + (hi - lo) / 2 < k
          · rw [decide_eq_true hm, if_pos rfl]
            exact wpS_pure ⟨rfl, _, _, rfl, by assumption, g2, g3, by omega (config := {})⟩
          · rw [decide_eq_false hm, if_neg Bool.false_ne_true]
            exact wpS_pure ⟨rfl, _, _, rfl, g1, by omega (config := {}), by omega (config := {}), by omega (config := {})⟩
      case fin2 =>
        rintro c st' ⟨rfl, lo, hi, rfl, g1, g2, g3, g4⟩
        refine ⟨rfl, ?_⟩
        have e1 : lo = k := by omega (config := {})
        have e2 : hi = k := by omega (config := {})
        rw [e1, e2]
      case post2 =>
        rintro c st' ⟨rfl, rfl⟩
        exact wpS_pure h
end
end TS
set_option linter.all false
set_option maxRecDepth 100000
set_option maxHeartbeats 4000000
namespace TS
open PySem PyProof.Rows
section
variable {D : Keyed → Prop} {R : Keyed → Keyed → Bool}
noncomputable def le (R : Keyed → Keyed → Bool) (x y : Keyed) : Prop := R y x = false
noncomputable def Srt (R : Keyed → Keyed → Bool) (l : List Keyed) : Prop := l.Pairwise (le R)
structure Wk (D : Keyed → Prop) (R : Keyed → Keyed → Bool) : Prop where
  asym : ∀ x y, D x → D y → R x y = true → R y x = false
  neg : ∀ x y z, D x → D y → D z → R x y = false → R y z = false → R x z = false
theorem Wk.trans (W : Wk D R) {x y z : Keyed} (hx : D x) (hy : D y) (hz : D z) (h1 : le R x y) (h2 : le R y z) : le R x z := W.neg z y x hz hy hx h2 h1
theorem Wk.of_lt (W : Wk D R) {x y : Keyed} (hx : D x) (hy : D y) (h : R x y = true) : le R x y := W.asym x y hx hy h
theorem Wk.refl (W : Wk D R) {x : Keyed} (hx : D x) : le R x x := by
  unfold le
  cases h : R x x with
  | false => rfl
  | true => exact absurd (W.asym x x hx hx h) (by rw [h]; simp)
theorem srt_at {l : List Keyed} (h : Srt R l) {i j : Nat} {x y : Keyed} (hij : i < j) (hx : l[i]? = some x) (hy : l[j]? = some y) : le R x y := by
  obtain ⟨hi, rfl⟩ := List.getElem?_eq_some_iff.mp hx
  obtain ⟨hj, rfl⟩ := List.getElem?_eq_some_iff.mp hy
  exact List.pairwise_iff_getElem.mp h i j hi hj hij
theorem srt_at' (W : Wk D R) {l : List Keyed} (hD : ∀ x ∈ l, D x) (h : Srt R l) {i j : Nat} {x y : Keyed} (hij : i ≤ j) (hx : l[i]? = some x) (hy : l[j]? = some y) : le R x y := by
  rcases Nat.lt_or_eq_of_le hij with z | rfl
  · exact srt_at h z hx hy
  · rw [hx] at hy
    cases hy
    exact W.refl (hD x (List.mem_of_getElem? hx))
theorem srt_drop {l : List Keyed} (h : Srt R l) (n : Nat) : Srt R (l.drop n) := h.sublist (List.drop_sublist n l)
theorem srt_take {l : List Keyed} (h : Srt R l) (n : Nat) : Srt R (l.take n) := h.sublist (List.take_sublist n l)
theorem drop_cons {l : List Keyed} {i : Nat} {x : Keyed} (h : l[i]? = some x) : l.drop i = x :: l.drop (i + 1) := by
  obtain ⟨hi, rfl⟩ := List.getElem?_eq_some_iff.mp h
  exact List.drop_eq_getElem_cons hi
theorem take_snoc {l : List Keyed} {i : Nat} {x : Keyed} (h : l[i]? = some x) : l.take (i + 1) = l.take i ++ [x] := by
  rw [List.take_add_one, h]
  rfl
theorem cut_at : ∀ (n : Nat) {f : Nat → Bool}, (∀ i j, i ≤ j → j < n → f j = true → f i = true) → ∃ k, k ≤ n ∧ ∀ i, i < n → f i = decide (i < k)
  | 0, _, _ => ⟨0, Nat.le_refl _, fun i hi => absurd hi (Nat.not_lt_zero _)⟩
  | n + 1, f, h => by
    obtain ⟨k, hk, hc⟩ := cut_at n (f := f) fun i j hij hj => h i j hij (by omega)
    cases hn : f n with
    | true =>
      refine ⟨n + 1, Nat.le_refl _, fun i hi => ?_⟩
      rw [h i n (by omega) (by omega) hn, decide_eq_true hi]
    | false =>
      refine ⟨k, by omega, fun i hi => ?_⟩
      rcases Nat.lt_or_ge i n with z | z
      · exact hc i z
      · have : i = n := by omega
        subst this
        rw [hn, decide_eq_false (by omega)]
structure Up (D : Keyed → Prop) (R : Keyed → Keyed → Bool) (la lb o : List Keyed) (ia ib : Nat) : Prop where
  perm : o.Perm (la.take ia ++ lb.take ib)
  srt : Srt R o
  low : ∀ x ∈ o, ∀ y ∈ la.drop ia ++ lb.drop ib, le R x y
structure Two (D : Keyed → Prop) (R : Keyed → Keyed → Bool) (la lb : List Keyed) : Prop where
  wk : Wk D R
  da : ∀ x ∈ la, D x
  db : ∀ x ∈ lb, D x
  sa : Srt R la
  sb : Srt R lb
  first : ∀ y, lb[0]? = some y → ∀ x ∈ la, le R y x
  last : ∀ x, la[la.length - 1]? = some x → ∀ y ∈ lb, le R y x
variable {la lb o : List Keyed} {ia ib : Nat}
theorem Up.pushB (T : Two D R la lb) (U : Up D R la lb o ia ib) {x : Keyed} (hx : lb[ib]? = some x) (h : ∀ y, la[ia]? = some y → le R x y) : Up D R la lb (o ++ [x]) ia (ib + 1) := by
  have hxD := T.db x (List.mem_of_getElem? hx)
  refine ⟨?_, ?_, ?_⟩
  · rw [take_snoc hx, ← List.append_assoc]
    exact U.perm.append_right _
  · refine List.pairwise_append.mpr ⟨U.srt, List.pairwise_singleton _ _, fun y hy z hz => ?_⟩
    rw [List.mem_singleton.mp hz]
    refine U.low y hy x (List.mem_append_right _ ?_)
    rw [drop_cons hx]
    exact List.mem_cons_self
  · intro y hy z hz
    rcases List.mem_append.mp hy with hy | hy
    · refine U.low y hy z ?_
      rcases List.mem_append.mp hz with hz | hz
      · exact List.mem_append_left _ hz
      · refine List.mem_append_right _ ?_
        rw [drop_cons hx]
        exact List.mem_cons_of_mem _ hz
    · rw [List.mem_singleton.mp hy]
      rcases List.mem_append.mp hz with hz | hz
      · obtain ⟨j, hj, rfl⟩ := List.mem_iff_getElem.mp hz
        have hlen : ia < la.length := by
          rw [List.length_drop] at hj
          omega
        have h1 := h la[ia] (List.getElem?_eq_getElem hlen)
        have ej : (la.drop ia)[j]? = la[ia + j]? := List.getElem?_drop
        have h2 : le R la[ia] (la.drop ia)[j] := srt_at' T.wk T.da T.sa (Nat.le_add_right ia j) (List.getElem?_eq_getElem hlen) (by rw [← ej]; exact List.getElem?_eq_getElem hj)
        exact T.wk.trans hxD (T.da _ (List.getElem_mem _)) (T.da _ (List.mem_of_mem_drop (List.getElem_mem _))) h1 h2
      · obtain ⟨j, hj, rfl⟩ := List.mem_iff_getElem.mp hz
        have ej : (lb.drop (ib + 1))[j]? = lb[ib + 1 + j]? := List.getElem?_drop
        exact srt_at T.sb (by omega : ib < ib + 1 + j) hx (by rw [← ej]; exact List.getElem?_eq_getElem hj)
theorem Up.pushA (T : Two D R la lb) (U : Up D R la lb o ia ib) {x : Keyed} (hx : la[ia]? = some x) (h : ∀ y, lb[ib]? = some y → le R x y) : Up D R la lb (o ++ [x]) (ia + 1) ib := by
  have hxD := T.da x (List.mem_of_getElem? hx)
  refine ⟨?_, ?_, ?_⟩
  · rw [take_snoc hx]
    refine (U.perm.append_right _).trans ?_
    rw [List.append_assoc, List.append_assoc]
    exact List.Perm.append_left _ List.perm_append_comm
  · refine List.pairwise_append.mpr ⟨U.srt, List.pairwise_singleton _ _, fun y hy z hz => ?_⟩
    rw [List.mem_singleton.mp hz]
    refine U.low y hy x (List.mem_append_left _ ?_)
    rw [drop_cons hx]
    exact List.mem_cons_self
  · intro y hy z hz
    rcases List.mem_append.mp hy with hy | hy
    · refine U.low y hy z ?_
      rcases List.mem_append.mp hz with hz | hz
      · refine List.mem_append_left _ ?_
        rw [drop_cons hx]
        exact List.mem_cons_of_mem _ hz
      · exact List.mem_append_right _ hz
    · rw [List.mem_singleton.mp hy]
      rcases List.mem_append.mp hz with hz | hz
      · obtain ⟨j, hj, rfl⟩ := List.mem_iff_getElem.mp hz
        have ej : (la.drop (ia + 1))[j]? = la[ia + 1 + j]? := List.getElem?_drop
        exact srt_at T.sa (by omega : ia < ia + 1 + j) hx (by rw [← ej]; exact List.getElem?_eq_getElem hj)
      · obtain ⟨j, hj, rfl⟩ := List.mem_iff_getElem.mp hz
        have hlen : ib < lb.length := by
          rw [List.length_drop] at hj
          omega
        have h1 := h lb[ib] (List.getElem?_eq_getElem hlen)
        have ej : (lb.drop ib)[j]? = lb[ib + j]? := List.getElem?_drop
        have h2 : le R lb[ib] (lb.drop ib)[j] := srt_at' T.wk T.db T.sb (Nat.le_add_right ib j) (List.getElem?_eq_getElem hlen) (by rw [← ej]; exact List.getElem?_eq_getElem hj)
        exact T.wk.trans hxD (T.db _ (List.getElem_mem _)) (T.db _ (List.mem_of_mem_drop (List.getElem_mem _))) h1 h2
theorem take_drop_succ {l : List Keyed} {i k : Nat} {x : Keyed} (h : l[i + k]? = some x) : (l.drop i).take (k + 1) = (l.drop i).take k ++ [x] := by
  rw [List.take_add_one, List.getElem?_drop, h]
  rfl
theorem Up.manyA (T : Two D R la lb) (U : Up D R la lb o ia ib) {y : Keyed} (hy : lb[ib]? = some y) : ∀ (k : Nat), ia + k ≤ la.length → (∀ i x, i < k → la[ia + i]? = some x → le R x y) → Up D R la lb (o ++ (la.drop ia).take k) (ia + k) ib
  | 0, _, _ => by simpa using U
  | k + 1, hl, h => by
    have ih := U.manyA T hy k (by omega) fun i x hi => h i x (by omega)
    have hk : ia + k < la.length := by assumption
    have hx := List.getElem?_eq_getElem hk
    rw [take_drop_succ hx, ← List.append_assoc]
    refine ih.pushA T hx fun z hz => ?_
    rw [hy] at hz
    cases hz
    exact h k _ (by omega) hx
theorem Up.manyB (T : Two D R la lb) (U : Up D R la lb o ia ib) {y : Keyed} (hy : la[ia]? = some y) : ∀ (k : Nat), ib + k ≤ lb.length → (∀ i x, i < k → lb[ib + i]? = some x → le R x y) → Up D R la lb (o ++ (lb.drop ib).take k) ia (ib + k)
  | 0, _, _ => by simpa using U
  | k + 1, hl, h => by
    have ih := U.manyB T hy k (by omega) fun i x hi => h i x (by omega)
    have hk : ib + k < lb.length := by assumption
    have hx := List.getElem?_eq_getElem hk
    rw [take_drop_succ hx, ← List.append_assoc]
    refine ih.pushB T hx fun z hz => ?_
    rw [hy] at hz
    cases hz
    exact h k _ (by omega) hx
noncomputable def Mrg (R : Keyed → Keyed → Bool) (la lb m : List Keyed) : Prop := m.Perm (la ++ lb) ∧ Srt R m
theorem Up.start (T : Two D R la lb) {y : Keyed} (hy : lb[0]? = some y) : Up D R la lb [y] 0 1 := by
  have U0 : Up D R la lb [] 0 0 := ⟨by simp, List.Pairwise.nil, fun _ h => nomatch h⟩
  exact U0.pushB T hy fun x hx => T.first y hy x (List.mem_of_getElem? hx)
theorem perm_rest {o : List Keyed} (h : o.Perm (la.take ia ++ lb.take ib)) : (o ++ la.drop ia ++ lb.drop ib).Perm (la ++ lb) := by
  have e : (la ++ lb).Perm (la.take ia ++ lb.take ib ++ (la.drop ia ++ lb.drop ib)) := by
    have h1 : la ++ lb = la.take ia ++ la.drop ia ++ (lb.take ib ++ lb.drop ib) := by rw [List.take_append_drop, List.take_append_drop]
    rw [h1, List.append_assoc, List.append_assoc]
    refine List.Perm.append_left _ ?_
    rw [← List.append_assoc, ← List.append_assoc]
    exact List.Perm.append_right _ List.perm_append_comm
  rw [List.append_assoc]
  exact (h.append_right _).trans e.symm
theorem Up.doneB (T : Two D R la lb) (U : Up D R la lb o ia ib) (hb : ib = lb.length) : Mrg R la lb (o ++ la.drop ia ++ lb.drop ib) := by
  refine ⟨perm_rest U.perm, ?_⟩
  have e : lb.drop ib = [] := by rw [hb]; exact List.drop_length
  rw [e, List.append_nil]
  refine List.pairwise_append.mpr ⟨U.srt, srt_drop T.sa _, fun x hx y hy => U.low x hx y (List.mem_append_left _ hy)⟩
theorem Up.doneA (T : Two D R la lb) (U : Up D R la lb o ia ib) (ha : ia = la.length) : Mrg R la lb (o ++ la.drop ia ++ lb.drop ib) := by
  refine ⟨perm_rest U.perm, ?_⟩
  have e : la.drop ia = [] := by rw [ha]; exact List.drop_length
  rw [e, List.append_nil]
  refine List.pairwise_append.mpr ⟨U.srt, srt_drop T.sb _, fun x hx y hy => U.low x hx y (List.mem_append_right _ hy)⟩
theorem Up.lastA (T : Two D R la lb) (U : Up D R la lb o ia ib) (ha : ia + 1 = la.length) : Mrg R la lb (o ++ lb.drop ib ++ la.drop ia) := by
  have hx : la[ia]? = some la[ia] := List.getElem?_eq_getElem (by omega)
  have e : la.drop ia = [la[ia]] := by
    rw [drop_cons hx, ha, List.drop_length]
  refine ⟨?_, ?_⟩
  · refine List.Perm.trans ?_ (perm_rest U.perm)
    rw [List.append_assoc, List.append_assoc]
    exact List.Perm.append_left _ List.perm_append_comm
  · rw [List.append_assoc]
    refine List.pairwise_append.mpr ⟨U.srt, List.pairwise_append.mpr ⟨srt_drop T.sb _, srt_drop T.sa _, fun x hx' y hy => ?_⟩, fun x hx' y hy => U.low x hx' y ?_⟩
    · rw [e] at hy
      rw [List.mem_singleton.mp hy]
      have el : la.length - 1 = ia := by omega
      exact T.last la[ia] (by rw [el]; exact hx) x (List.mem_of_mem_drop hx')
    · rcases List.mem_append.mp hy with z | z
      · exact List.mem_append_right _ z
      · exact List.mem_append_left _ z
end
end TS
set_option linter.all false
set_option maxRecDepth 100000
set_option maxHeartbeats 4000000
namespace TS
open PySem PyProof.Rows
section
variable {prog : Program} {w : World} {A : Around} {E : Value → Shared → Prop} {s : Shared} {κ : SortKind} {D : Keyed → Prop} {R : Keyed → Keyed → Bool}
theorem Cmp.wk (C : Cmp prog w A s κ D R) : Wk D R := ⟨C.asym, C.neg⟩
theorem wpS_setMin {g : Nat} {st : SortSt} {Q : Unit → SortSt → Prop} (h : Q () (setG st g)) : wpS (model prog w) A E s (setMin g) Q st := wpS_modify h
theorem wpS_rule {x : String} {st : SortSt} {Q : Unit → SortSt → Prop} (h : Q () st) : wpS (model prog w) A E s (liftM (rule x) : StateT SortSt Sem Unit) Q st := wpS_lift (wpAny_rule ⟨rfl, h⟩)
theorem arr_at {a : Array Keyed} {i : Nat} (h : i < a.size) : ∃ x, a[i]? = some x ∧ a.toList[i]? = some x := ⟨a[i], by simp [h], by simp [h]⟩
theorem arr_list {a : Array Keyed} {i : Nat} : a[i]? = a.toList[i]? := by simp
theorem ext_to (a : Array Keyed) (i : Nat) : (a.extract i a.size).toList = a.toList.drop i := by
  rw [Array.toList_extract, List.extract_eq_take_drop, List.take_of_length_le]
  simp
theorem ext_mid (a : Array Keyed) (i k : Nat) : (a.extract i (i + k)).toList = (a.toList.drop i).take k := by
  rw [Array.toList_extract, List.extract_eq_take_drop]
  congr 1
  omega
theorem gal_right (W : Wk D R) {arr : Array Keyed} {key : Keyed} {base n : Nat} (hs : Srt R arr.toList) (hD : ∀ x ∈ arr.toList, D x) (hk : D key) (hn : base + n ≤ arr.size) :
    ∃ k, Gal D R false key arr base n k ∧ (∀ i x, i < k → arr.toList[base + i]? = some x → le R x key) ∧ ∀ i x, k ≤ i → i < n → arr.toList[base + i]? = some x → R key x = true := by
  have mono : ∀ i j, i ≤ j → j < n → (match arr.toList[base + j]? with | some x => bey R false key x | none => false) = true → (match arr.toList[base + i]? with | some x => bey R false key x | none => false) = true := by
    intro i j hij hj h
    obtain ⟨x, _, hx⟩ := arr_at (a := arr) (i := base + i) (by omega)
    obtain ⟨y, _, hy⟩ := arr_at (a := arr) (i := base + j) (by omega)
    rw [hy] at h
    rw [hx]
    dsimp only [bey] at h ⊢
    simp only [Bool.false_eq_true, if_false, Bool.not_eq_true'] at h ⊢
    exact W.neg key y x hk (hD y (List.mem_of_getElem? hy)) (hD x (List.mem_of_getElem? hx)) h (srt_at' W hD hs (by omega) hx hy)
  obtain ⟨k, hk1, hk2⟩ := cut_at n mono
  have at_ : ∀ i x, i < n → arr.toList[base + i]? = some x → bey R false key x = decide (i < k) := by
    intro i x hi hx
    have := hk2 i hi
    rw [hx] at this
    exact this
  refine ⟨k, ⟨hk1, hk, fun i hi => ?_⟩, fun i x hi hx => ?_, fun i x h1 h2 hx => ?_⟩
  · obtain ⟨x, hx, hx'⟩ := arr_at (a := arr) (i := base + i) (by omega)
    exact ⟨x, hx, hD x (List.mem_of_getElem? hx'), at_ i x hi hx'⟩
  · have := at_ i x (by omega) hx
    rw [decide_eq_true hi] at this
    dsimp only [bey] at this
    simpa [le] using this
  · have := at_ i x h2 hx
    rw [decide_eq_false (by omega)] at this
    dsimp only [bey] at this
    simpa using this
theorem gal_left (W : Wk D R) {arr : Array Keyed} {key : Keyed} {base n : Nat} (hs : Srt R arr.toList) (hD : ∀ x ∈ arr.toList, D x) (hk : D key) (hn : base + n ≤ arr.size) :
    ∃ k, Gal D R true key arr base n k ∧ (∀ i x, i < k → arr.toList[base + i]? = some x → R x key = true) ∧ ∀ i x, k ≤ i → i < n → arr.toList[base + i]? = some x → le R key x := by
  have mono : ∀ i j, i ≤ j → j < n → (match arr.toList[base + j]? with | some x => bey R true key x | none => false) = true → (match arr.toList[base + i]? with | some x => bey R true key x | none => false) = true := by
    intro i j hij hj h
    obtain ⟨x, _, hx⟩ := arr_at (a := arr) (i := base + i) (by omega)
    obtain ⟨y, _, hy⟩ := arr_at (a := arr) (i := base + j) (by omega)
    rw [hy] at h
    rw [hx]
    dsimp only [bey] at h ⊢
    simp only [if_true] at h ⊢
    have hxD := hD x (List.mem_of_getElem? hx)
    have hyD := hD y (List.mem_of_getElem? hy)
    cases hc : R x key with
    | true => rfl
    | false =>
      have := W.neg y x key hyD hxD hk (srt_at' W hD hs (by omega) hx hy) hc
      rw [h] at this
      cases this
  obtain ⟨k, hk1, hk2⟩ := cut_at n mono
  have at_ : ∀ i x, i < n → arr.toList[base + i]? = some x → bey R true key x = decide (i < k) := by
    intro i x hi hx
    have := hk2 i hi
    rw [hx] at this
    exact this
  refine ⟨k, ⟨hk1, hk, fun i hi => ?_⟩, fun i x hi hx => ?_, fun i x h1 h2 hx => ?_⟩
  · obtain ⟨x, hx, hx'⟩ := arr_at (a := arr) (i := base + i) (by omega)
    exact ⟨x, hx, hD x (List.mem_of_getElem? hx'), at_ i x hi hx'⟩
  · have := at_ i x (by omega) hx
    rw [decide_eq_true hi] at this
    dsimp only [bey] at this
    simpa using this
  · have := at_ i x h2 hx
    rw [decide_eq_false (by omega)] at this
    dsimp only [bey] at this
    simpa [le] using this
theorem wpS_post {α : Type} {M : Model} {m : StateT SortSt Sem α} {st : SortSt} {Q : α → SortSt → Prop} (h : ∀ P : α → SortSt → Prop, (∀ x st', Q x st' → P x st') → wpS M A E s m P st) : wpS M A E s m Q st := h Q fun _ _ q => q
theorem wpS_T {α : Type} {M : Model} {c : Prop} [Decidable c] {x y : StateT SortSt Sem α} {st : SortSt} {Q : α → SortSt → Prop} (hc : c) (h : wpS M A E s x Q st) : wpS M A E s (if c then x else y) Q st := by
  rw [if_pos hc]
  exact h
theorem wpS_F {α : Type} {M : Model} {c : Prop} [Decidable c] {x y : StateT SortSt Sem α} {st : SortSt} {Q : α → SortSt → Prop} (hc : ¬ c) (h : wpS M A E s y Q st) : wpS M A E s (if c then x else y) Q st := by
  rw [if_neg hc]
  exact h
theorem wpS_C {α : Type} {M : Model} {c : Prop} [Decidable c] {x y : StateT SortSt Sem α} {st : SortSt} {Q : α → SortSt → Prop} (h1 : c → wpS M A E s x Q st) (h2 : ¬ c → wpS M A E s y Q st) : wpS M A E s (if c then x else y) Q st := by
  by_cases h : c
  · exact wpS_T h (h1 h)
  · exact wpS_F h (h2 h)
theorem wpS_bindO {α β : Type} {M : Model} {m : StateT SortSt Sem α} {f : α → StateT SortSt Sem β} {Q : β → SortSt → Prop} {st : SortSt} (h : ∀ k : α → StateT SortSt Sem β, k = f → wpS M A E s m (fun a st' => wpS M A E s (k a) Q st') st) : wpS M A E s (m >>= f) Q st := wpS_bind (h f rfl)
theorem gate {g : Prop} (h : ∀ G : Prop, (g → G) → G) : g := h g id
theorem ne_beq {m n : Nat} (h : ¬ (m == n) = true) : ¬ m = n := fun z => h (by rw [z]; exact beq_self_eq_true _)
theorem wpS_mergeLo (C : Cmp prog w A s κ D R) {a b : Array Keyed} (T : Two D R a.toList b.toList) (ha : 1 ≤ a.size) (hb : 1 ≤ b.size) {st : SortSt} (hk : kindOf st = κ) {Q : Array Keyed → SortSt → Prop}
    (h : ∀ m g, Mrg R a.toList b.toList m.toList → Q m (setG st g)) : wpS (model prog w) A E s (mergeLo' a b) Q st := by
  obtain ⟨b0, hb0, hb0'⟩ := arr_at (a := b) (i := 0) (by assumption)
  have U0 : Up D R a.toList b.toList (#[b0] : Array Keyed).toList 0 1 := Up.start T hb0'
  have la : a.toList.length = a.size := Array.length_toList
  have lb : b.toList.length = b.size := Array.length_toList
  have mDone : ∀ (out : Array Keyed) (ia ib : Nat), Up D R a.toList b.toList out.toList ia ib → ib = b.size ∨ ia = a.size → Mrg R a.toList b.toList (out ++ a.extract ia a.size ++ b.extract ib b.size).toList := by
    intro out ia ib U hz
    rw [Array.toList_append, Array.toList_append, ext_to, ext_to]
    rcases hz with z | z
    · exact U.doneB T (by assumption)
    · exact U.doneA T (by assumption)
  have mLast : ∀ (out : Array Keyed) (ia ib : Nat), Up D R a.toList b.toList out.toList ia ib → ia + 1 = a.size → Mrg R a.toList b.toList (out ++ b.extract ib b.size ++ a.extract ia a.size).toList := by
    intro out ia ib U hz
    rw [Array.toList_append, Array.toList_append, ext_to, ext_to]
    exact U.lastA T (by assumption)
  have hst : st = setG st (gallopOf st) := rfl
  refine wpS_bind (wpS_rule (wpS_bind (wpS_elem hb0 (wpS_C (fun (e1 : (1 == b.size) = true) => wpS_pure (h _ _ (mDone _ _ _ U0 (.inl (eq_of_beq e1))))) (fun (e1 : ¬ (1 == b.size) = true) => wpS_C (fun (e2 : (0 + 1 == a.size) = true) => wpS_pure (h _ _ (mLast _ _ _ U0 (eq_of_beq e2)))) (fun (e2 : ¬ (0 + 1 == a.size) = true) => ?_))))))
  have nb1 : 1 < b.size := by
    have := ne_beq e1
    omega
  have na1 : 0 + 1 < a.size := by
    have := ne_beq e2
    omega
  refine wpS_bind (wpS_get (wpS_bind (wpS_mono (wpS_forRange (I := fun x c st' => (∃ g, st' = setG st g) ∧ ∃ (out : Array Keyed) (ia ib mg : Nat), c = (none, out, ia, ib, mg) ∧ Up D R a.toList b.toList out.toList ia ib ∧ ia + 1 < a.size ∧ ib < b.size ∧ x ≤ ia + ib)
    (Q := fun c st' => (∃ g, st' = setG st g) ∧ ∃ m rest, c = (some m, rest) ∧ Mrg R a.toList b.toList m.toList) ?step ?fin ⟨⟨_, hst⟩, _, _, _, _, rfl, U0, na1, nb1, by omega⟩) ?post)))
  case fin =>
    intro c st' hI_
    refine gate fun gG hgG => ?_
    obtain ⟨_, out, ia, ib, mg, rfl, U, h1, h2, h3⟩ := hI_
    refine hgG ?_
    clear hgG
    omega
  case post =>
    rintro c st' ⟨⟨g, rfl⟩, m, rest, rfl, hm⟩
    exact wpS_pure (h m g hm)
  case step =>
    clear h
    intro x c st' _ hx hI
    refine wpS_post fun P0 hP0 => ?_
    refine gate fun G hG => ?_
    refine gate fun gG hgG => ?_
    obtain ⟨⟨g, rfl⟩, out, ia, ib, mg, rfl, U, h1, h2, h3⟩ := hI
    refine hgG ?_
    clear hgG
    refine hG ?_
    clear hG
    refine wpS_bindO fun kk hkk => (wpS_mono (wpS_forRange (I := fun y c st' => st' = setG st g ∧ ∃ (out : Array Keyed) (ia' ib' ac bc : Nat), c = (none, out, ia', ib', ac, bc) ∧ Up D R a.toList b.toList out.toList ia' ib' ∧ ia' + 1 < a.size ∧ ib' < b.size ∧ ia + ib + y ≤ ia' + ib')
      (Q := fun c st' => st' = setG st g ∧ ((∃ m rest, c = (some m, rest) ∧ Mrg R a.toList b.toList m.toList) ∨ ∃ (out : Array Keyed) (ia' ib' ac bc : Nat), c = (none, out, ia', ib', ac, bc) ∧ Up D R a.toList b.toList out.toList ia' ib' ∧ ia' + 1 < a.size ∧ ib' < b.size ∧ ia + ib + 1 ≤ ia' + ib')) ?step1 ?fin1 ⟨rfl, _, _, _, _, _, rfl, U, h1, h2, Nat.le_refl _⟩) ?post1)
    case fin1 =>
      clear hkk hP0
      intro c st' hI_
      refine gate fun gG hgG => ?_
      obtain ⟨_, out, ia', ib', ac, bc, rfl, U', g1, g2, g3⟩ := hI_
      refine hgG ?_
      clear hgG
      omega
    case step1 =>
      clear hkk hP0
      intro y c st' _ hy hI
      refine wpS_post fun P hP => ?_
      refine gate fun G hG => ?_
      refine gate fun gG hgG => ?_
      obtain ⟨rfl, out, ia', ib', ac, bc, rfl, U', g1, g2, g3⟩ := hI
      have pFin : ∀ m rest, Mrg R a.toList b.toList m.toList → P (.done (some m, rest)) (setG st g) := fun m rest hm => hP _ _ ⟨rfl, .inl ⟨m, rest, rfl, hm⟩⟩
      have pBrk : ∀ out i j ac bc, Up D R a.toList b.toList out.toList i j → i + 1 < a.size → j < b.size → ia + ib + 1 ≤ i + j → P (.done (none, out, i, j, ac, bc)) (setG st g) := fun out i j ac bc U h1 h2 h3 => hP _ _ ⟨rfl, .inr ⟨out, i, j, ac, bc, rfl, U, h1, h2, h3⟩⟩
      have pGo : ∀ out i j ac bc, Up D R a.toList b.toList out.toList i j → i + 1 < a.size → j < b.size → ia + ib + (y + 1) ≤ i + j → P (.yield (none, out, i, j, ac, bc)) (setG st g) := fun out i j ac bc U h1 h2 h3 => hP _ _ ⟨rfl, out, i, j, ac, bc, rfl, U, h1, h2, h3⟩
      clear hP
      obtain ⟨xb, hxb, hxb'⟩ := arr_at (a := b) (i := ib') (by assumption)
      obtain ⟨xa, hxa, hxa'⟩ := arr_at (a := a) (i := ia') (by omega)
      refine hgG ?_
      clear hgG
      have dxa := T.da xa (List.mem_of_getElem? hxa')
      have dxb := T.db xb (List.mem_of_getElem? hxb')
      refine hG ?_
      clear hG
      refine wpS_bind (wpS_elem hxb (wpS_bind (wpS_elem hxa (wpS_bind (C.ask xb xa dxb dxa E _ _ hk ?_)))))
      cases hc : R xb xa with
      | true =>
        have U2 : Up D R a.toList b.toList (out.push xb).toList ia' (ib' + 1) := by
          rw [Array.toList_push]
          exact U'.pushB T hxb' fun z hz => by
            rw [hxa'] at hz
            cases hz
            exact T.wk.of_lt dxb dxa hc
        refine wpS_T rfl (wpS_bind (wpS_elem hxb ?_))
        refine wpS_C (fun (e3 : (ib' + 1 == b.size) = true) => (wpS_pure (pFin _ _ (mDone _ _ _ U2 (.inl (eq_of_beq e3)))))) (fun (e3 : ¬ (ib' + 1 == b.size) = true) => ?_)
        have e3' := ne_beq e3
        exact wpS_C (fun (e4 : bc + 1 ≥ mg) => (wpS_pure (pBrk _ ia' (ib' + 1) _ _ U2 g1 (by omega) (by omega)))) (fun (e4 : ¬ bc + 1 ≥ mg) => (wpS_pure (pGo _ ia' (ib' + 1) _ _ U2 g1 (by omega) (by omega))))
      | false =>
        have U2 : Up D R a.toList b.toList (out.push xa).toList (ia' + 1) ib' := by
          rw [Array.toList_push]
          exact U'.pushA T hxa' fun z hz => by
            rw [hxb'] at hz
            cases hz
            exact hc
        refine wpS_F Bool.false_ne_true (wpS_bind (wpS_elem hxa ?_))
        refine wpS_C (fun (e3 : (ia' + 1 + 1 == a.size) = true) => (wpS_pure (pFin _ _ (mLast _ _ _ U2 (eq_of_beq e3))))) (fun (e3 : ¬ (ia' + 1 + 1 == a.size) = true) => ?_)
        have e3' := ne_beq e3
        exact wpS_C (fun (e4 : ac + 1 ≥ mg) => (wpS_pure (pBrk _ (ia' + 1) ib' _ _ U2 (by omega) g2 (by omega)))) (fun (e4 : ¬ ac + 1 ≥ mg) => (wpS_pure (pGo _ (ia' + 1) ib' _ _ U2 (by omega) g2 (by omega))))
    case post1 =>
      intro c st' hI
      refine gate fun G hG => ?_
      obtain ⟨rfl, ⟨m, rest, rfl, hm⟩ | ⟨out1, ia1, ib1, ac1, bc1, rfl, U1, g1, g2, g3⟩⟩ := hI
      · obtain ⟨r1, r2, r3, r4, r5⟩ := rest
        subst hkk
        exact hG (wpS_pure (hP0 _ _ ⟨⟨g, rfl⟩, m, _, rfl, hm⟩))
      refine hG ?_
      clear U h1 h2 U0 hG
      subst hkk
      refine wpS_bind (wpS_rule (wpS_bind (wpS_mono (wpS_forRange (I := fun y c st' => (∃ g, st' = setG st g) ∧ ∃ (out : Array Keyed) (ia' ib' mg ac bc : Nat), c = (none, out, ia', ib', mg, ac, bc) ∧ Up D R a.toList b.toList out.toList ia' ib' ∧ ia' + 1 < a.size ∧ ib' < b.size ∧ ia1 + ib1 + y ≤ ia' + ib')
        (Q := fun c st' => (∃ g, st' = setG st g) ∧ ((∃ m rest, c = (some m, rest) ∧ Mrg R a.toList b.toList m.toList) ∨ ∃ (out : Array Keyed) (ia' ib' mg ac bc : Nat), c = (none, out, ia', ib', mg, ac, bc) ∧ Up D R a.toList b.toList out.toList ia' ib' ∧ ia' + 1 < a.size ∧ ib' < b.size ∧ ia1 + ib1 ≤ ia' + ib')) ?step2 ?fin2 ⟨⟨g, rfl⟩, _, _, _, _, _, _, rfl, U1, g1, g2, Nat.le_refl _⟩) ?post2)))
      case fin2 =>
        clear hP0
        intro c st' hI_
        refine gate fun gG hgG => ?_
        obtain ⟨_, out, ia', ib', mg, ac, bc, rfl, U', g1, g2, g3⟩ := hI_
        refine hgG ?_
        clear hgG
        omega
      case post2 =>
        rintro c st' ⟨⟨g2, rfl⟩, ⟨m, rest, rfl, hm⟩ | ⟨out2, ia2, ib2, mg2, ac2, bc2, rfl, U2, k1, k2, k3⟩⟩
        · obtain ⟨r1, r2, r3, r4, r5, r6⟩ := rest
          exact wpS_pure (hP0 _ _ ⟨⟨g2, rfl⟩, m, _, rfl, hm⟩)
        · exact wpS_bind (wpS_setMin (wpS_pure (hP0 _ _ ⟨⟨_, rfl⟩, _, _, _, _, rfl, U2, k1, k2, by dsimp only; omega⟩)))
      case step2 =>
        clear hP0
        clear U1 g1 g2 g3 h3
        intro y c st' _ hy hI
        refine wpS_post fun P hP => ?_
        refine gate fun G hG => ?_
        refine gate fun gG hgG => ?_
        obtain ⟨⟨g', rfl⟩, out, ia', ib', mg', ac, bc, rfl, U', f1, f2, f3⟩ := hI
        have pFin : ∀ m rest g, Mrg R a.toList b.toList m.toList → P (.done (some m, rest)) (setG st g) := fun m rest g hm => hP _ _ ⟨⟨g, rfl⟩, .inl ⟨m, rest, rfl, hm⟩⟩
        have pBrk : ∀ out ia ib mg ac bc g, Up D R a.toList b.toList out.toList ia ib → ia + 1 < a.size → ib < b.size → ia1 + ib1 ≤ ia + ib → P (.done (none, out, ia, ib, mg, ac, bc)) (setG st g) := fun out ia ib mg ac bc g U h1 h2 h3 => hP _ _ ⟨⟨g, rfl⟩, .inr ⟨out, ia, ib, mg, ac, bc, rfl, U, h1, h2, h3⟩⟩
        have pGo : ∀ out ia ib mg ac bc g, Up D R a.toList b.toList out.toList ia ib → ia + 1 < a.size → ib < b.size → ia1 + ib1 + (y + 1) ≤ ia + ib → P (.yield (none, out, ia, ib, mg, ac, bc)) (setG st g) := fun out ia ib mg ac bc g U h1 h2 h3 => hP _ _ ⟨⟨g, rfl⟩, out, ia, ib, mg, ac, bc, rfl, U, h1, h2, h3⟩
        clear hP
        obtain ⟨xb, hxb, hxb'⟩ := arr_at (a := b) (i := ib') (by assumption)
        have dxb := T.db xb (List.mem_of_getElem? hxb')
        obtain ⟨k, G, kl, kr⟩ := gal_right C.wk T.sa T.da dxb (base := ia') (n := a.size - ia') (arr := a) (by omega)
        refine hgG ?_
        clear hgG
        have hkn := G.le
        have Uk := Up.manyA T U' hxb' k (by omega) kl
        rw [← ext_mid, ← Array.toList_append] at Uk
        refine hG ?_
        clear hG
        dsimp -zeta only
        extract_lets s0 o s1 i s2 j s3 m s4 c0 d0 jb jp mm
        have hj : ∀ n g, wpS (model prog w) A E s (jp () n) P (setG st g) := by
          intro n g
          refine wpS_bind (wpS_setMin (wpS_bind (wpS_elem hxb (wpS_bind (wpS_gallop C G (by show 0 < a.size - ia'; omega) hk ?_)))))
          dsimp -zeta only
          extract_lets ac2 jp2 oo ii
          have hj2 : ∀ (out2 : Array Keyed) ia2, Up D R a.toList b.toList out2.toList ia2 ib' → ia2 = ia' + k → ia2 + 1 < a.size → wpS (model prog w) A E s (jp2 () out2 ia2) P (setG st n) := by
            intro out2 ia2 U2 e2 l2
            obtain ⟨xa, hxa, hxa'⟩ := arr_at (a := a) (i := ia2) (by omega)
            have dxa := T.da xa (List.mem_of_getElem? hxa')
            have V1 := Up.pushB T U2 hxb' fun z hz => by
              rw [hxa'] at hz
              cases hz
              exact T.wk.of_lt dxb dxa (kr k _ (Nat.le_refl _) (by omega) (by rw [← e2]; exact hxa'))
            rw [← Array.toList_push] at V1
            refine wpS_bind (wpS_elem hxb (wpS_C (fun (e3 : (ib' + 1 == b.size) = true) => wpS_pure (pFin _ _ _ (mDone _ _ _ V1 (.inl (eq_of_beq e3))))) (fun (e3 : ¬ (ib' + 1 == b.size) = true) => ?_)))
            have e3' := ne_beq e3
            obtain ⟨k2, G2, k2l, k2r⟩ := gal_left C.wk T.sb T.db dxa (base := ib' + 1) (n := b.size - (ib' + 1)) (arr := b) (by omega)
            have hk2n := G2.le
            have V2 := Up.manyB T V1 hxa' k2 (by omega) fun i x hi hx => T.wk.of_lt (T.db x (List.mem_of_getElem? hx)) dxa (k2l i x hi hx)
            rw [← ext_mid, ← Array.toList_append] at V2
            refine wpS_bind (wpS_elem hxa (wpS_bind (wpS_gallop C G2 (by show 0 < b.size - (ib' + 1); omega) hk ?_)))
            dsimp -zeta only
            extract_lets bc2 ii2 jp3 oo2 jj2
            have hj3 : ∀ (out3 : Array Keyed) ib3, Up D R a.toList b.toList out3.toList ia2 ib3 → ib3 = ib' + 1 + k2 → ib3 < b.size → wpS (model prog w) A E s (jp3 () out3 ib3) P (setG st n) := by
              intro out3 ib3 U3 e3 l3
              have V4 := Up.pushA T U3 hxa' fun z hz => k2r k2 z (Nat.le_refl _) (by omega) (by rw [← e3]; exact hz)
              rw [← Array.toList_push] at V4
              refine wpS_bind (wpS_elem hxa (wpS_C (fun (e5 : (ia2 + 1 + 1 == a.size) = true) => wpS_pure (pFin _ _ _ (mLast _ _ _ V4 (eq_of_beq e5)))) (fun (e5 : ¬ (ia2 + 1 + 1 == a.size) = true) => ?_)))
              have e5' := ne_beq e5
              exact wpS_C (fun e6 => wpS_pure (pBrk _ (ia2 + 1) ib3 _ _ _ _ V4 (by omega) l3 (by omega))) (fun e6 => wpS_pure (pGo _ (ia2 + 1) ib3 _ _ _ _ V4 (by omega) l3 (by omega)))
            clear_value jp3
            refine wpS_C (fun (e4 : k2 > 0) => ?_) (fun (e4 : ¬ k2 > 0) => hj3 _ _ V1 (by show ib' + 1 = ib' + 1 + k2; omega) (by show ib' + 1 < b.size; omega))
            refine wpS_C (fun (e5 : (ib' + 1 + k2 == b.size) = true) => wpS_pure (pFin _ _ _ (mDone _ _ _ V2 (.inl (eq_of_beq e5))))) (fun (e5 : ¬ (ib' + 1 + k2 == b.size) = true) => ?_)
            have e7' := ne_beq e5
            exact hj3 _ _ V2 rfl (by show ib' + 1 + k2 < b.size; omega)
          clear_value jp2
          refine wpS_C (fun (e2 : k > 0) => ?_) (fun (e2 : ¬ k > 0) => hj2 _ _ U' (by show ia' = ia' + k; omega) f1)
          refine wpS_C (fun (e9 : (ia' + k + 1 == a.size) = true) => wpS_pure (pFin _ _ _ (mLast _ _ _ Uk (eq_of_beq e9)))) (fun (e9 : ¬ (ia' + k + 1 == a.size) = true) => ?_)
          have e9' := ne_beq e9
          refine wpS_C (fun (e10 : (ia' + k == a.size) = true) => wpS_pure (pFin _ _ _ (mDone _ _ _ Uk (.inr (eq_of_beq e10))))) (fun (e10 : ¬ (ia' + k == a.size) = true) => ?_)
          have e10' := ne_beq e10
          exact hj2 _ _ Uk rfl (by show ia' + k + 1 < a.size; omega)
        clear_value jp
        exact wpS_C (fun _ => hj _ _) (fun _ => hj _ _)
end
end TS
set_option linter.all false
set_option maxRecDepth 100000
set_option maxHeartbeats 4000000
namespace TS
open PySem PyProof.Rows
section
variable {D : Keyed → Prop} {R : Keyed → Keyed → Bool} {la lb o : List Keyed} {na nb : Nat}
structure Dn (D : Keyed → Prop) (R : Keyed → Keyed → Bool) (la lb o : List Keyed) (na nb : Nat) : Prop where
  la_ : na ≤ la.length
  lb_ : nb ≤ lb.length
  perm : o.Perm (la.drop na ++ lb.drop nb)
  srt : Srt R o
  high : ∀ x ∈ la.take na ++ lb.take nb, ∀ y ∈ o, le R x y
theorem mem_take_at {l : List Keyed} {n : Nat} {x : Keyed} (h : x ∈ l.take n) : ∃ i, i < n ∧ l[i]? = some x := by
  obtain ⟨i, hi, rfl⟩ := List.mem_iff_getElem.mp h
  rw [List.length_take] at hi
  refine ⟨i, by omega, ?_⟩
  rw [List.getElem_take, List.getElem?_eq_getElem (by omega)]
theorem Dn.pushA (T : Two D R la lb) {n : Nat} (U : Dn D R la lb o (n + 1) nb) {x : Keyed} (hx : la[n]? = some x) (h : ∀ y, 0 < nb → lb[nb - 1]? = some y → le R y x) : Dn D R la lb (x :: o) n nb := by
  have hxD := T.da x (List.mem_of_getElem? hx)
  have h1 := U.la_
  have h2 := U.lb_
  refine ⟨by omega (config := {}), h2, ?_, ?_, ?_⟩
  · rw [drop_cons hx]
    exact U.perm.cons x
  · refine List.pairwise_cons.mpr ⟨fun y hy => U.high x (List.mem_append_left _ ?_) y hy, U.srt⟩
    rw [take_snoc hx]
    exact List.mem_append_right _ List.mem_cons_self
  · intro z hz y hy
    rcases List.mem_cons.mp hy with rfl | hy
    · rcases List.mem_append.mp hz with hz | hz
      · obtain ⟨i, hi, hzi⟩ := mem_take_at hz
        exact srt_at T.sa hi hzi hx
      · obtain ⟨i, hi, hzi⟩ := mem_take_at hz
        have hw : lb[nb - 1]? = some lb[nb - 1] := List.getElem?_eq_getElem (by omega (config := {}))
        exact T.wk.trans (T.db z (List.mem_of_getElem? hzi)) (T.db _ (List.mem_of_getElem? hw)) hxD (srt_at' T.wk T.db T.sb (by omega (config := {})) hzi hw) (h _ (by omega (config := {})) hw)
    · refine U.high z ?_ y hy
      rcases List.mem_append.mp hz with hz | hz
      · refine List.mem_append_left _ ?_
        rw [take_snoc hx]
        exact List.mem_append_left _ hz
      · exact List.mem_append_right _ hz
theorem Dn.pushB (T : Two D R la lb) {n : Nat} (U : Dn D R la lb o na (n + 1)) {x : Keyed} (hx : lb[n]? = some x) (h : ∀ y, 0 < na → la[na - 1]? = some y → le R y x) : Dn D R la lb (x :: o) na n := by
  have hxD := T.db x (List.mem_of_getElem? hx)
  have h1 := U.la_
  have h2 := U.lb_
  refine ⟨h1, by omega, ?_, ?_, ?_⟩
  · rw [drop_cons hx]
    refine (U.perm.cons x).trans ?_
    exact List.perm_middle.symm
  · refine List.pairwise_cons.mpr ⟨fun y hy => U.high x (List.mem_append_right _ ?_) y hy, U.srt⟩
    rw [take_snoc hx]
    exact List.mem_append_right _ List.mem_cons_self
  · intro z hz y hy
    rcases List.mem_cons.mp hy with rfl | hy
    · rcases List.mem_append.mp hz with hz | hz
      · obtain ⟨i, hi, hzi⟩ := mem_take_at hz
        have hw : la[na - 1]? = some la[na - 1] := List.getElem?_eq_getElem (by omega)
        exact T.wk.trans (T.da z (List.mem_of_getElem? hzi)) (T.da _ (List.mem_of_getElem? hw)) hxD (srt_at' T.wk T.da T.sa (by omega) hzi hw) (h _ (by omega) hw)
      · obtain ⟨i, hi, hzi⟩ := mem_take_at hz
        exact srt_at T.sb hi hzi hx
    · refine U.high z ?_ y hy
      rcases List.mem_append.mp hz with hz | hz
      · exact List.mem_append_left _ hz
      · refine List.mem_append_right _ ?_
        rw [take_snoc hx]
        exact List.mem_append_left _ hz
theorem Dn.manyA (T : Two D R la lb) : ∀ (k : Nat) {o : List Keyed} {n : Nat}, Dn D R la lb o (n + k) nb → (∀ i x y, n ≤ i → i < n + k → la[i]? = some x → 0 < nb → lb[nb - 1]? = some y → le R y x) → Dn D R la lb ((la.drop n).take k ++ o) n nb
  | 0, o, n, U, _ => by simpa using U
  | k + 1, o, n, U, h => by
    have hl := U.la_
    have hx : la[n + k]? = some la[n + k] := List.getElem?_eq_getElem (by assumption)
    have U1 := Dn.pushA T (n := n + k) U hx fun y hy0 hy => h (n + k) _ y (by omega) (by omega) hx hy0 hy
    have U2 := Dn.manyA T k U1 fun i x y h1 h2 => h i x y h1 (by omega)
    rw [take_drop_succ hx, List.append_assoc]
    exact U2
theorem Dn.manyB (T : Two D R la lb) : ∀ (k : Nat) {o : List Keyed} {n : Nat}, Dn D R la lb o na (n + k) → (∀ i x y, n ≤ i → i < n + k → lb[i]? = some x → 0 < na → la[na - 1]? = some y → le R y x) → Dn D R la lb ((lb.drop n).take k ++ o) na n
  | 0, o, n, U, _ => by simpa using U
  | k + 1, o, n, U, h => by
    have hl := U.lb_
    have hx : lb[n + k]? = some lb[n + k] := List.getElem?_eq_getElem (by assumption)
    have U1 := Dn.pushB T (n := n + k) U hx fun y hy0 hy => h (n + k) _ y (by omega) (by omega) hx hy0 hy
    have U2 := Dn.manyB T k U1 fun i x y h1 h2 => h i x y h1 (by omega)
    rw [take_drop_succ hx, List.append_assoc]
    exact U2
theorem Dn.popA (T : Two D R la lb) (U : Dn D R la lb o na nb) (h0 : 0 < na) {x : Keyed} (hx : la[na - 1]? = some x) (h : ∀ y, 0 < nb → lb[nb - 1]? = some y → le R y x) : Dn D R la lb (x :: o) (na - 1) nb := by
  obtain ⟨n, rfl⟩ : ∃ n, na = n + 1 := ⟨na - 1, by omega⟩
  exact U.pushA T hx h
theorem Dn.popB (T : Two D R la lb) (U : Dn D R la lb o na nb) (h0 : 0 < nb) {x : Keyed} (hx : lb[nb - 1]? = some x) (h : ∀ y, 0 < na → la[na - 1]? = some y → le R y x) : Dn D R la lb (x :: o) na (nb - 1) := by
  obtain ⟨n, rfl⟩ : ∃ n, nb = n + 1 := ⟨nb - 1, by omega⟩
  exact U.pushB T hx h
theorem Dn.toA (T : Two D R la lb) (U : Dn D R la lb o na nb) {n : Nat} (hn : n ≤ na) (h : ∀ i x y, n ≤ i → i < na → la[i]? = some x → 0 < nb → lb[nb - 1]? = some y → le R y x) : Dn D R la lb ((la.drop n).take (na - n) ++ o) n nb := by
  obtain ⟨k, rfl⟩ : ∃ k, na = n + k := ⟨na - n, by omega⟩
  rw [Nat.add_sub_cancel_left]
  exact Dn.manyA T k U h
theorem Dn.toB (T : Two D R la lb) (U : Dn D R la lb o na nb) {n : Nat} (hn : n ≤ nb) (h : ∀ i x y, n ≤ i → i < nb → lb[i]? = some x → 0 < na → la[na - 1]? = some y → le R y x) : Dn D R la lb ((lb.drop n).take (nb - n) ++ o) na n := by
  obtain ⟨k, rfl⟩ : ∃ k, nb = n + k := ⟨nb - n, by omega⟩
  rw [Nat.add_sub_cancel_left]
  exact Dn.manyB T k U h
theorem Dn.start (T : Two D R la lb) {n : Nat} {x : Keyed} (hn : n + 1 = la.length) (hx : la[n]? = some x) : Dn D R la lb [x] n lb.length := by
  have U0 : Dn D R la lb [] (n + 1) lb.length := ⟨by omega, Nat.le_refl _, by rw [hn, List.drop_length, List.drop_length]; exact List.Perm.refl _, List.Pairwise.nil, fun _ _ _ h => nomatch h⟩
  refine U0.pushA T hx fun y _ hy => T.last x ?_ y (List.mem_of_getElem? hy)
  have e : la.length - 1 = n := by omega
  rw [e]
  exact hx
theorem perm_front {o : List Keyed} (h : o.Perm (la.drop na ++ lb.drop nb)) : (la.take na ++ lb.take nb ++ o).Perm (la ++ lb) := by
  have h1 : la ++ lb = la.take na ++ la.drop na ++ (lb.take nb ++ lb.drop nb) := by rw [List.take_append_drop, List.take_append_drop]
  rw [h1, List.append_assoc, List.append_assoc]
  refine List.Perm.append_left _ ?_
  refine (List.Perm.append_left _ h).trans ?_
  rw [← List.append_assoc, ← List.append_assoc]
  exact List.Perm.append_right _ List.perm_append_comm
theorem Dn.doneA (T : Two D R la lb) (U : Dn D R la lb o na nb) (ha : na = 0) : Mrg R la lb (la.take na ++ lb.take nb ++ o) := by
  refine ⟨perm_front U.perm, ?_⟩
  have e : la.take na = [] := by rw [ha]; rfl
  have U' := U.high
  rw [e, List.nil_append] at U' ⊢
  exact List.pairwise_append.mpr ⟨srt_take T.sb _, U.srt, U'⟩
theorem Dn.doneB (T : Two D R la lb) (U : Dn D R la lb o na nb) (hb : nb = 0) : Mrg R la lb (la.take na ++ lb.take nb ++ o) := by
  refine ⟨perm_front U.perm, ?_⟩
  have e : lb.take nb = [] := by rw [hb]; rfl
  have U' := U.high
  rw [e, List.append_nil] at U' ⊢
  exact List.pairwise_append.mpr ⟨srt_take T.sa _, U.srt, U'⟩
theorem Dn.firstB (T : Two D R la lb) (U : Dn D R la lb o na nb) (hb : nb = 1) : Mrg R la lb (lb.take nb ++ la.take na ++ o) := by
  have hl := U.lb_
  have hx : lb[0]? = some lb[0] := List.getElem?_eq_getElem (by omega (config := {}))
  have e : lb.take nb = [lb[0]] := by
    subst hb
    exact take_snoc (i := 0) hx
  refine ⟨?_, ?_⟩
  · refine List.Perm.trans ?_ (perm_front U.perm)
    exact List.Perm.append_right _ List.perm_append_comm
  · refine List.pairwise_append.mpr ⟨List.pairwise_append.mpr ⟨srt_take T.sb _, srt_take T.sa _, fun x hx' y hy => ?_⟩, U.srt, fun x hx' y hy => U.high x ?_ y hy⟩
    · rw [e] at hx'
      rw [List.mem_singleton.mp hx']
      exact T.first _ hx y (List.mem_of_mem_take hy)
    · rcases List.mem_append.mp hx' with z | z
      · exact List.mem_append_right _ z
      · exact List.mem_append_left _ z
end
section
variable {prog : Program} {w : World} {A : Around} {E : Value → Shared → Prop} {s : Shared} {κ : SortKind} {D : Keyed → Prop} {R : Keyed → Keyed → Bool}
theorem ext_front (a : Array Keyed) (i : Nat) : (a.extract 0 i).toList = a.toList.take i := by
  rw [Array.toList_extract, List.extract_eq_take_drop]
  simp
theorem ext_seg (a : Array Keyed) {i j : Nat} (h : i ≤ j) : (a.extract i j).toList = (a.toList.drop i).take (j - i) := by
  rw [Array.toList_extract, List.extract_eq_take_drop]
theorem rev_push (out : Array Keyed) (x : Keyed) : x :: out.toList.reverse = (out.push x).toList.reverse := by
  rw [Array.toList_push, List.reverse_append]
  rfl
theorem rev_app (out seg : Array Keyed) : seg.toList ++ out.toList.reverse = (out ++ seg.reverse).toList.reverse := by
  rw [Array.toList_append, Array.toList_reverse, List.reverse_append, List.reverse_reverse]
theorem wpS_mergeHi (C : Cmp prog w A s κ D R) {a b : Array Keyed} (T : Two D R a.toList b.toList) (ha : 1 ≤ a.size) (hb : 1 ≤ b.size) {st : SortSt} (hk : kindOf st = κ) {Q : Array Keyed → SortSt → Prop}
    (h : ∀ m g, Mrg R a.toList b.toList m.toList → Q m (setG st g)) : wpS (model prog w) A E s (mergeHi' a b) Q st := by
  have la : a.toList.length = a.size := Array.length_toList
  have lb : b.toList.length = b.size := Array.length_toList
  obtain ⟨a0, ha0, ha0'⟩ := arr_at (a := a) (i := a.size - 1) (by omega)
  have U0 : Dn D R a.toList b.toList (#[a0] : Array Keyed).toList.reverse (a.size - 1) b.size := by
    have := Dn.start T (n := a.size - 1) (by omega) ha0'
    rw [lb] at this
    exact this
  have mDone : ∀ (out : Array Keyed) (na nb : Nat), Dn D R a.toList b.toList out.toList.reverse na nb → na = 0 ∨ nb = 0 → Mrg R a.toList b.toList (a.extract 0 na ++ b.extract 0 nb ++ out.reverse).toList := by
    intro out na nb U hz
    rw [Array.toList_append, Array.toList_append, ext_front, ext_front, Array.toList_reverse]
    rcases hz with z | z
    · exact U.doneA T z
    · exact U.doneB T z
  have mFirst : ∀ (out : Array Keyed) (na nb : Nat), Dn D R a.toList b.toList out.toList.reverse na nb → nb = 1 → Mrg R a.toList b.toList (b.extract 0 nb ++ a.extract 0 na ++ out.reverse).toList := by
    intro out na nb U hz
    rw [Array.toList_append, Array.toList_append, ext_front, ext_front, Array.toList_reverse]
    exact U.firstB T hz
  have hst : st = setG st (gallopOf st) := rfl
  refine wpS_bind (wpS_rule (wpS_bind (wpS_elem ha0 (wpS_C (fun (e1 : (a.size - 1 == 0) = true) => wpS_pure (h _ _ (mDone _ _ _ U0 (.inl (eq_of_beq e1))))) (fun (e1 : ¬ (a.size - 1 == 0) = true) => wpS_C (fun (e2 : (b.size == 1) = true) => wpS_pure (h _ _ (mFirst _ _ _ U0 (eq_of_beq e2)))) (fun (e2 : ¬ (b.size == 1) = true) => ?_))))))
  have na1 : 1 ≤ a.size - 1 := by
    have := ne_beq e1
    omega
  have nb1 : 2 ≤ b.size := by
    have := ne_beq e2
    omega
  refine wpS_bind (wpS_get (wpS_bind (wpS_mono (wpS_forRange (I := fun x c st' => (∃ g, st' = setG st g) ∧ ∃ (out : Array Keyed) (na' nb' mg : Nat), c = (none, na', nb', out, mg) ∧ Dn D R a.toList b.toList out.toList.reverse na' nb' ∧ 1 ≤ na' ∧ 2 ≤ nb' ∧ x + na' + nb' ≤ a.size + b.size)
    (Q := fun c st' => (∃ g, st' = setG st g) ∧ ∃ m rest, c = (some m, rest) ∧ Mrg R a.toList b.toList m.toList) ?step ?fin ⟨⟨_, hst⟩, _, _, _, _, rfl, U0, na1, nb1, by omega⟩) ?post)))
  case fin =>
    intro c st' hI_
    refine gate fun gG hgG => ?_
    obtain ⟨_, out, na', nb', mg, rfl, U, h1, h2, h3⟩ := hI_
    refine hgG ?_
    clear hgG
    omega
  case post =>
    rintro c st' ⟨⟨g, rfl⟩, m, rest, rfl, hm⟩
    exact wpS_pure (h m g hm)
  case step =>
    clear h
    intro x c st' _ hx hI
    refine wpS_post fun P0 hP0 => ?_
    refine gate fun G hG => ?_
    refine gate fun gG hgG => ?_
    obtain ⟨⟨g, rfl⟩, out, na, nb, mg, rfl, U, h1, h2, h3⟩ := hI
    refine hgG ?_
    clear hgG
    have la0 := U.la_
    have lb0 := U.lb_
    refine hG ?_
    clear hG
    refine wpS_bindO fun kk hkk => (wpS_mono (wpS_forRange (I := fun y c st' => st' = setG st g ∧ ∃ (out : Array Keyed) (na' nb' ac bc : Nat), c = (none, na', nb', out, ac, bc) ∧ Dn D R a.toList b.toList out.toList.reverse na' nb' ∧ 1 ≤ na' ∧ 2 ≤ nb' ∧ y + na' + nb' ≤ na + nb)
      (Q := fun c st' => st' = setG st g ∧ ((∃ m rest, c = (some m, rest) ∧ Mrg R a.toList b.toList m.toList) ∨ ∃ (out : Array Keyed) (na' nb' ac bc : Nat), c = (none, na', nb', out, ac, bc) ∧ Dn D R a.toList b.toList out.toList.reverse na' nb' ∧ 1 ≤ na' ∧ 2 ≤ nb' ∧ 1 + na' + nb' ≤ na + nb)) ?step1 ?fin1 ⟨rfl, _, _, _, _, _, rfl, U, h1, h2, by dsimp only; omega⟩) ?post1)
    case fin1 =>
      clear hkk hP0
      intro c st' hI_
      refine gate fun gG hgG => ?_
      obtain ⟨_, out, na', nb', ac, bc, rfl, U', g1, g2, g3⟩ := hI_
      refine hgG ?_
      clear hgG
      first | omega | (dsimp only at *; omega)
    case step1 =>
      clear hkk hP0
      intro y c st' _ hy hI
      refine wpS_post fun P hP => ?_
      refine gate fun G hG => ?_
      refine gate fun gG hgG => ?_
      obtain ⟨rfl, out, na', nb', ac, bc, rfl, U', g1, g2, g3⟩ := hI
      have pFin : ∀ m rest, Mrg R a.toList b.toList m.toList → P (.done (some m, rest)) (setG st g) := fun m rest hm => hP _ _ ⟨rfl, .inl ⟨m, rest, rfl, hm⟩⟩
      have pBrk : ∀ out i j ac bc, Dn D R a.toList b.toList out.toList.reverse i j → 1 ≤ i → 2 ≤ j → 1 + i + j ≤ na + nb → P (.done (none, i, j, out, ac, bc)) (setG st g) := fun out i j ac bc U h1 h2 h3 => hP _ _ ⟨rfl, .inr ⟨out, i, j, ac, bc, rfl, U, h1, h2, h3⟩⟩
      have pGo : ∀ out i j ac bc, Dn D R a.toList b.toList out.toList.reverse i j → 1 ≤ i → 2 ≤ j → y + 1 + i + j ≤ na + nb → P (.yield (none, i, j, out, ac, bc)) (setG st g) := fun out i j ac bc U h1 h2 h3 => hP _ _ ⟨rfl, out, i, j, ac, bc, rfl, U, h1, h2, h3⟩
      clear hP
      have la1 := U'.la_
      have lb1 := U'.lb_
      obtain ⟨xb, hxb, hxb'⟩ := arr_at (a := b) (i := nb' - 1) (by omega)
      obtain ⟨xa, hxa, hxa'⟩ := arr_at (a := a) (i := na' - 1) (by omega)
      refine hgG ?_
      clear hgG
      have dxa := T.da xa (List.mem_of_getElem? hxa')
      have dxb := T.db xb (List.mem_of_getElem? hxb')
      refine hG ?_
      clear hG
      refine wpS_bind (wpS_elem hxb (wpS_bind (wpS_elem hxa (wpS_bind (C.ask xb xa dxb dxa E _ _ hk ?_)))))
      cases hc : R xb xa with
      | true =>
        have U2 := Dn.popA T U' (by assumption) hxa' fun z hz0 hz => by
          rw [hxb'] at hz
          cases hz
          exact T.wk.of_lt dxb dxa hc
        rw [rev_push] at U2
        refine wpS_T rfl (wpS_bind (wpS_elem hxa ?_))
        refine wpS_C (fun (e3 : (na' - 1 == 0) = true) => (wpS_pure (pFin _ _ (mDone _ _ _ U2 (.inl (eq_of_beq e3)))))) (fun (e3 : ¬ (na' - 1 == 0) = true) => ?_)
        have e3' := ne_beq e3
        exact wpS_C (fun (e4 : ac + 1 ≥ mg) => (wpS_pure (pBrk _ (na' - 1) nb' _ _ U2 (by omega) g2 (by omega)))) (fun (e4 : ¬ ac + 1 ≥ mg) => (wpS_pure (pGo _ (na' - 1) nb' _ _ U2 (by omega) g2 (by omega))))
      | false =>
        have U2 := Dn.popB T U' (by omega) hxb' fun z hz0 hz => by
          rw [hxa'] at hz
          cases hz
          exact hc
        rw [rev_push] at U2
        refine wpS_F Bool.false_ne_true (wpS_bind (wpS_elem hxb ?_))
        refine wpS_C (fun (e3 : (nb' - 1 == 1) = true) => (wpS_pure (pFin _ _ (mFirst _ _ _ U2 (eq_of_beq e3))))) (fun (e3 : ¬ (nb' - 1 == 1) = true) => ?_)
        have e3' := ne_beq e3
        exact wpS_C (fun (e4 : bc + 1 ≥ mg) => (wpS_pure (pBrk _ na' (nb' - 1) _ _ U2 g1 (by omega) (by omega)))) (fun (e4 : ¬ bc + 1 ≥ mg) => (wpS_pure (pGo _ na' (nb' - 1) _ _ U2 g1 (by omega) (by omega))))
    case post1 =>
      intro c st' hI
      refine gate fun G hG => ?_
      obtain ⟨rfl, ⟨m, rest, rfl, hm⟩ | ⟨out1, na1', nb1', ac1, bc1, rfl, U1, g1, g2, g3⟩⟩ := hI
      · obtain ⟨r1, r2, r3, r4, r5⟩ := rest
        subst hkk
        exact hG (wpS_pure (hP0 _ _ ⟨⟨g, rfl⟩, m, _, rfl, hm⟩))
      have la1 := U1.la_
      have lb1 := U1.lb_
      refine hG ?_
      clear hG U h1 h2 U0
      subst hkk
      refine wpS_bind (wpS_rule (wpS_bind (wpS_mono (wpS_forRange (I := fun y c st' => (∃ g, st' = setG st g) ∧ ∃ (out : Array Keyed) (na' nb' mg ac bc : Nat), c = (none, na', nb', out, mg, ac, bc) ∧ Dn D R a.toList b.toList out.toList.reverse na' nb' ∧ 1 ≤ na' ∧ 2 ≤ nb' ∧ y + na' + nb' ≤ na1' + nb1')
        (Q := fun c st' => (∃ g, st' = setG st g) ∧ ((∃ m rest, c = (some m, rest) ∧ Mrg R a.toList b.toList m.toList) ∨ ∃ (out : Array Keyed) (na' nb' mg ac bc : Nat), c = (none, na', nb', out, mg, ac, bc) ∧ Dn D R a.toList b.toList out.toList.reverse na' nb' ∧ 1 ≤ na' ∧ 2 ≤ nb' ∧ na' + nb' ≤ na1' + nb1')) ?step2 ?fin2 ⟨⟨g, rfl⟩, _, _, _, _, _, _, rfl, U1, g1, g2, by dsimp only; omega⟩) ?post2)))
      case fin2 =>
        clear hP0
        intro c st' hI_
        refine gate fun gG hgG => ?_
        obtain ⟨_, out, na', nb', mg, ac, bc, rfl, U', g1, g2, g3⟩ := hI_
        refine hgG ?_
        clear hgG
        first | omega | (dsimp only at *; omega)
      case post2 =>
        rintro c st' ⟨⟨g2, rfl⟩, ⟨m, rest, rfl, hm⟩ | ⟨out2, na2, nb2, mg2, ac2, bc2, rfl, U2, k1, k2, k3⟩⟩
        · obtain ⟨r1, r2, r3, r4, r5, r6⟩ := rest
          exact wpS_pure (hP0 _ _ ⟨⟨g2, rfl⟩, m, _, rfl, hm⟩)
        · exact wpS_bind (wpS_setMin (wpS_pure (hP0 _ _ ⟨⟨_, rfl⟩, _, _, _, _, rfl, U2, k1, k2, by dsimp only at *; omega⟩)))
      case step2 =>
        clear hP0
        clear U1 g1 g2 g3 h3
        intro y c st' _ hy hI
        refine wpS_post fun P hP => ?_
        refine gate fun G hG => ?_
        refine gate fun gG hgG => ?_
        obtain ⟨⟨g', rfl⟩, out, na', nb', mg', ac, bc, rfl, U', f1, f2, f3⟩ := hI
        have pFin : ∀ m rest g, Mrg R a.toList b.toList m.toList → P (.done (some m, rest)) (setG st g) := fun m rest g hm => hP _ _ ⟨⟨g, rfl⟩, .inl ⟨m, rest, rfl, hm⟩⟩
        have pBrk : ∀ out i j mg ac bc g, Dn D R a.toList b.toList out.toList.reverse i j → 1 ≤ i → 2 ≤ j → i + j ≤ na1' + nb1' → P (.done (none, i, j, out, mg, ac, bc)) (setG st g) := fun out i j mg ac bc g U h1 h2 h3 => hP _ _ ⟨⟨g, rfl⟩, .inr ⟨out, i, j, mg, ac, bc, rfl, U, h1, h2, h3⟩⟩
        have pGo : ∀ out i j mg ac bc g, Dn D R a.toList b.toList out.toList.reverse i j → 1 ≤ i → 2 ≤ j → y + 1 + i + j ≤ na1' + nb1' → P (.yield (none, i, j, out, mg, ac, bc)) (setG st g) := fun out i j mg ac bc g U h1 h2 h3 => hP _ _ ⟨⟨g, rfl⟩, out, i, j, mg, ac, bc, rfl, U, h1, h2, h3⟩
        clear hP
        have la2 := U'.la_
        have lb2 := U'.lb_
        obtain ⟨xb, hxb, hxb'⟩ := arr_at (a := b) (i := nb' - 1) (by omega)
        have dxb := T.db xb (List.mem_of_getElem? hxb')
        obtain ⟨k, G1, kl, kr⟩ := gal_right C.wk T.sa T.da dxb (base := 0) (n := na') (arr := a) (by omega)
        refine hgG ?_
        clear hgG
        have hkn := G1.le
        have Uk := Dn.toA T U' (n := k) hkn fun i x z g5 g6 hx hz0 hz => by
          rw [hxb'] at hz
          cases hz
          exact T.wk.of_lt dxb (T.da x (List.mem_of_getElem? hx)) (kr i x g5 g6 (by rw [Nat.zero_add]; exact hx))
        rw [← ext_seg a hkn, rev_app] at Uk
        refine hG ?_
        clear hG
        dsimp -zeta only
        extract_lets s0 i s1 j s2 o s3 m s4 c0 d0 jb jp mm
        have hj : ∀ n g, wpS (model prog w) A E s (jp () n) P (setG st g) := by
          intro n g
          refine wpS_bind (wpS_setMin (wpS_bind (wpS_elem hxb (wpS_bind (wpS_gallop C G1 (by show na' - 1 < na'; omega) hk ?_)))))
          dsimp -zeta only
          extract_lets kk ac2 jp2 oo ii
          have hj2 : ∀ (out2 : Array Keyed) i2, Dn D R a.toList b.toList out2.toList.reverse i2 nb' → i2 = k → 1 ≤ i2 → wpS (model prog w) A E s (jp2 () i2 out2) P (setG st n) := by
            intro out2 i2 U2 e2 l2
            obtain ⟨xa, hxa, hxa'⟩ := arr_at (a := a) (i := i2 - 1) (by omega)
            have dxa := T.da xa (List.mem_of_getElem? hxa')
            have V1 := Dn.popB T U2 (by omega) hxb' fun z hz0 hz => kl (i2 - 1) z (by omega) (by rw [Nat.zero_add]; exact hz)
            rw [rev_push] at V1
            refine wpS_bind (wpS_elem hxb (wpS_C (fun (e3 : (nb' - 1 == 1) = true) => wpS_pure (pFin _ _ _ (mFirst _ _ _ V1 (eq_of_beq e3)))) (fun (e3 : ¬ (nb' - 1 == 1) = true) => ?_)))
            have e3' := ne_beq e3
            obtain ⟨k2, G2, k2l, k2r⟩ := gal_left C.wk T.sb T.db dxa (base := 0) (n := nb' - 1) (arr := b) (by omega)
            have hk2n := G2.le
            have V2 := Dn.toB T V1 (n := k2) hk2n fun i x z g5 g6 hx hz0 hz => by
              rw [hxa'] at hz
              cases hz
              exact k2r i x g5 g6 (by rw [Nat.zero_add]; exact hx)
            rw [← ext_seg b hk2n, rev_app] at V2
            refine wpS_bind (wpS_elem hxa (wpS_bind (wpS_gallop C G2 (by show nb' - 1 - 1 < nb' - 1; omega) hk ?_)))
            dsimp -zeta only
            extract_lets kk2 bc2 ii2 jp3 oo2 jj2
            have hj3 : ∀ (out3 : Array Keyed) j3, Dn D R a.toList b.toList out3.toList.reverse i2 j3 → j3 = k2 → 2 ≤ j3 → wpS (model prog w) A E s (jp3 () j3 out3) P (setG st n) := by
              intro out3 j3 U3 e4 l3
              have V4 := Dn.popA T U3 (by assumption) hxa' fun z hz0 hz => T.wk.of_lt (T.db z (List.mem_of_getElem? hz)) dxa (k2l (j3 - 1) z (by omega) (by rw [Nat.zero_add]; exact hz))
              rw [rev_push] at V4
              refine wpS_bind (wpS_elem hxa (wpS_C (fun (e8 : (i2 - 1 == 0) = true) => wpS_pure (pFin _ _ _ (mDone _ _ _ V4 (.inl (eq_of_beq e8))))) (fun (e8 : ¬ (i2 - 1 == 0) = true) => ?_)))
              have e8' := ne_beq e8
              exact wpS_C (fun e6 => wpS_pure (pBrk _ (i2 - 1) j3 _ _ _ _ V4 (by omega) l3 (by omega))) (fun e6 => wpS_pure (pGo _ (i2 - 1) j3 _ _ _ _ V4 (by omega) l3 (by omega)))
            clear_value jp3
            refine wpS_C (fun (e4 : nb' - 1 - k2 > 0) => ?_) (fun (e4 : ¬ nb' - 1 - k2 > 0) => hj3 _ _ V1 (by show nb' - 1 = k2; omega) (by show 2 ≤ nb' - 1; omega))
            refine wpS_C (fun (e5 : (k2 == 1) = true) => wpS_pure (pFin _ _ _ (mFirst _ _ _ V2 (eq_of_beq e5)))) (fun (e5 : ¬ (k2 == 1) = true) => ?_)
            have e5' := ne_beq e5
            refine wpS_C (fun (e7 : (k2 == 0) = true) => wpS_pure (pFin _ _ _ (mDone _ _ _ V2 (.inr (eq_of_beq e7))))) (fun (e7 : ¬ (k2 == 0) = true) => ?_)
            have e7' := ne_beq e7
            exact hj3 _ _ V2 rfl (by show 2 ≤ k2; omega)
          clear_value jp2
          refine wpS_C (fun (e2 : na' - k > 0) => ?_) (fun (e2 : ¬ na' - k > 0) => hj2 _ _ U' (by show na' = k; omega) f1)
          refine wpS_C (fun (e9 : (k == 0) = true) => wpS_pure (pFin _ _ _ (mDone _ _ _ Uk (.inl (eq_of_beq e9))))) (fun (e9 : ¬ (k == 0) = true) => ?_)
          have e9' := ne_beq e9
          exact hj2 _ _ Uk rfl (by show 1 ≤ k; omega)
        clear_value jp
        exact wpS_C (fun _ => hj _ _) (fun _ => hj _ _)
end
end TS
set_option linter.all false
set_option maxRecDepth 100000
set_option maxHeartbeats 4000000
namespace TS
open PySem PyProof.Rows
section
variable {D : Keyed → Prop} {R : Keyed → Keyed → Bool} {a : Array Keyed} {lo n : Nat}
noncomputable def Asc (R : Keyed → Keyed → Bool) (a : Array Keyed) (lo n : Nat) : Prop := ∀ i j x y, lo ≤ i → i ≤ j → j < lo + n → a[i]? = some x → a[j]? = some y → le R x y
noncomputable def Desc (R : Keyed → Keyed → Bool) (a : Array Keyed) (lo n : Nat) : Prop := ∀ i j x y, lo ≤ i → i ≤ j → j < lo + n → a[i]? = some x → a[j]? = some y → le R y x
noncomputable def Eqb (R : Keyed → Keyed → Bool) (a : Array Keyed) (p q : Nat) : Prop := ∀ i j x y, p ≤ i → i < q → p ≤ j → j < q → a[i]? = some x → a[j]? = some y → le R x y
noncomputable def Dom (D : Keyed → Prop) (a : Array Keyed) : Prop := ∀ (i : Nat) (x : Keyed), a[i]? = some x → D x
theorem Asc.one (W : Wk D R) (hD : Dom D a) : Asc R a lo 1 := fun i j x y h1 h2 h3 hx hy => by
  have : i = j := by omega
  subst this
  rw [hx] at hy
  cases hy
  exact W.refl (hD _ _ hx)
theorem Asc.snoc (W : Wk D R) (hD : Dom D a) (h : Asc R a lo n) (h1 : 1 ≤ n) {x y : Keyed} (hx : a[lo + n - 1]? = some x) (hy : a[lo + n]? = some y) (hxy : le R x y) : Asc R a lo (n + 1) := fun i j u v g1 g2 g3 hu hv => by
  rcases Nat.lt_or_ge j (lo + n) with z | z
  · exact h i j u v g1 g2 z hu hv
  · have ej : j = lo + n := by omega
    subst ej
    rw [hy] at hv
    cases hv
    rcases Nat.lt_or_ge i (lo + n) with z2 | z2
    · exact W.trans (hD _ _ hu) (hD _ _ hx) (hD _ _ hy) (h i (lo + n - 1) u x g1 (by omega) (by omega) hu hx) hxy
    · have : i = lo + n := by omega
      subst this
      rw [hy] at hu
      cases hu
      exact W.refl (hD _ _ hy)
theorem Desc.snoc (W : Wk D R) (hD : Dom D a) (h : Desc R a lo n) (h1 : 1 ≤ n) {x y : Keyed} (hx : a[lo + n - 1]? = some x) (hy : a[lo + n]? = some y) (hxy : le R y x) : Desc R a lo (n + 1) := fun i j u v g1 g2 g3 hu hv => by
  rcases Nat.lt_or_ge j (lo + n) with z | z
  · exact h i j u v g1 g2 z hu hv
  · have ej : j = lo + n := by omega
    subst ej
    rw [hy] at hv
    cases hv
    rcases Nat.lt_or_ge i (lo + n) with z2 | z2
    · exact W.trans (hD _ _ hy) (hD _ _ hx) (hD _ _ hu) hxy (h i (lo + n - 1) u x g1 (by omega) (by omega) hu hx)
    · have : i = lo + n := by omega
      subst this
      rw [hy] at hu
      cases hu
      exact W.refl (hD _ _ hy)
theorem Eqb.one (W : Wk D R) (hD : Dom D a) {p : Nat} : Eqb R a p (p + 1) := fun i j x y h1 h2 h3 h4 hx hy => by
  have : i = j := by omega
  subst this
  rw [hx] at hy
  cases hy
  exact W.refl (hD _ _ hx)
theorem Eqb.snoc (W : Wk D R) (hD : Dom D a) {p q : Nat} (h : Eqb R a p q) (hpq : p < q) {x y : Keyed} (hx : a[q - 1]? = some x) (hy : a[q]? = some y) (h1 : le R x y) (h2 : le R y x) : Eqb R a p (q + 1) := fun i j u v g1 g2 g3 g4 hu hv => by
  rcases Nat.lt_or_ge i q with z | z
  · rcases Nat.lt_or_ge j q with z2 | z2
    · exact h i j u v g1 z g3 z2 hu hv
    · have : j = q := by omega
      subst this
      rw [hy] at hv
      cases hv
      exact W.trans (hD _ _ hu) (hD _ _ hx) (hD _ _ hy) (h i (j - 1) u x g1 z (by omega) (by omega) hu hx) h1
  · have : i = q := by omega
    subst this
    rw [hy] at hu
    cases hu
    rcases Nat.lt_or_ge j i with z2 | z2
    · exact W.trans (hD _ _ hy) (hD _ _ hx) (hD _ _ hv) h2 (h (i - 1) j x v (by omega) (by omega) g3 z2 hx hv)
    · have : j = i := by omega
      subst this
      rw [hy] at hv
      cases hv
      exact W.refl (hD _ _ hy)
theorem Dom.perm {b : Array Keyed} (h : Dom D a) (hp : b.Perm a) : Dom D b := fun i x hx => by
  have hm : x ∈ b.toList := by
    have : b.toList[i]? = some x := by simpa using hx
    exact List.mem_of_getElem? this
  have hm2 : x ∈ a.toList := (Array.perm_iff_toList_perm.mp hp).mem_iff.mp hm
  obtain ⟨j, hj⟩ := List.mem_iff_getElem?.mp hm2
  exact h j x (by simpa using hj)
theorem Desc.turnB {p q : Nat} (h : Desc R a lo n) (he : Eqb R a p q) (h1 : lo ≤ p) (h2 : q ≤ lo + n) (hz : lo + n ≤ a.size) : Desc R (mirror a p q ((q - p) / 2)) lo n := fun i j x y g1 g2 g3 hx hy => by
  rw [getElem?_mirror_all (by omega)] at hx hy
  by_cases ci : p ≤ i ∧ i < q
  · rw [if_pos ci] at hx
    by_cases cj : p ≤ j ∧ j < q
    · rw [if_pos cj] at hy
      exact he _ _ y x (by omega) (by omega) (by omega) (by omega) hy hx
    · rw [if_neg cj] at hy
      exact h _ _ x y (by omega) (by omega) g3 hx hy
  · rw [if_neg ci] at hx
    by_cases cj : p ≤ j ∧ j < q
    · rw [if_pos cj] at hy
      exact h _ _ x y g1 (by omega) (by omega) hx hy
    · rw [if_neg cj] at hy
      exact h _ _ x y g1 g2 g3 hx hy
theorem Eqb.turnB {p q : Nat} (he : Eqb R a p q) (hz : q ≤ a.size) : Eqb R (mirror a p q ((q - p) / 2)) p q := fun i j x y g1 g2 g3 g4 hx hy => by
  rw [getElem?_mirror_all hz, if_pos ⟨g1, g2⟩] at hx
  rw [getElem?_mirror_all hz, if_pos ⟨g3, g4⟩] at hy
  exact he _ _ x y (by omega) (by omega) (by omega) (by omega) hx hy
theorem Desc.turned (h : Desc R a lo n) (hz : lo + n ≤ a.size) : Asc R (mirror a lo (lo + n) ((lo + n - lo) / 2)) lo n := fun i j x y g1 g2 g3 hx hy => by
  rw [getElem?_mirror_all hz, if_pos ⟨g1, by omega (config := {})⟩] at hx
  rw [getElem?_mirror_all hz, if_pos ⟨by omega (config := {}), g3⟩] at hy
  exact h _ _ y x (by omega (config := {})) (by omega (config := {})) (by omega (config := {})) hy hx
theorem Eqb.desc (h : Eqb R a lo (lo + n)) : Desc R a lo n := fun i j x y g1 g2 g3 hx hy => h j i y x (by omega) g3 g1 (by omega) hy hx
theorem Asc.eqb (W : Wk D R) (hD : Dom D a) (h : Asc R a lo n) {x y : Keyed} (hx : a[lo]? = some x) (hy : a[lo + n - 1]? = some y) (hxy : le R y x) : Eqb R a lo (lo + n) := fun i j u v g1 g2 g3 g4 hu hv => by
  have h1 := h i (lo + n - 1) u y g1 (by omega (config := {})) (by omega (config := {})) hu hy
  have h2 := h lo j x v (Nat.le_refl _) g3 g4 hx hv
  exact W.trans (hD _ _ hu) (hD _ _ hx) (hD _ _ hv) (W.trans (hD _ _ hu) (hD _ _ hy) (hD _ _ hx) h1 hxy) h2
end
structure Bs (D : Keyed → Prop) (κ : SortKind) (p₀ : Array (Nat × Nat × Nat)) (a₀ : Array Keyed) (lo : Nat) (st : SortSt) : Prop where
  kind : kindOf st = κ
  pend : pendingOf st = p₀
  failed : failedOf st = none
  perm : (arrOf st).Perm a₀
  keep : ∀ k, k < lo → (arrOf st)[k]? = a₀[k]?
  dom : Dom D a₀
section
variable {prog : Program} {w : World} {A : Around} {E : Value → Shared → Prop} {s : Shared} {κ : SortKind} {D : Keyed → Prop} {R : Keyed → Keyed → Bool} {p₀ : Array (Nat × Nat × Nat)} {a₀ : Array Keyed} {lo : Nat}
theorem Bs.size {st : SortSt} (B : Bs D κ p₀ a₀ lo st) : (arrOf st).size = a₀.size := B.perm.size_eq
theorem Bs.domA {st : SortSt} (B : Bs D κ p₀ a₀ lo st) : Dom D (arrOf st) := B.dom.perm B.perm
theorem Bs.at {st : SortSt} (B : Bs D κ p₀ a₀ lo st) {i : Nat} (h : i < a₀.size) : ∃ x, (arrOf st)[i]? = some x ∧ D x := by
  have := B.size
  obtain ⟨x, hx, _⟩ := arr_at (a := arrOf st) (i := i) (by omega)
  exact ⟨x, hx, B.domA i x hx⟩
theorem Bs.turn {st : SortSt} (B : Bs D κ p₀ a₀ lo st) {i j : Nat} (hi : lo ≤ i) (hj : j ≤ a₀.size) : Bs D κ p₀ a₀ lo (setArr st (mirror (arrOf st) i j ((j - i) / 2))) :=
  ⟨B.kind, B.pend, B.failed, (mirror_perm _ _ _ _).trans B.perm, fun k hk => by
    show (mirror (arrOf st) i j ((j - i) / 2))[k]? = _
    rw [getElem?_mirror_all (by rw [B.size]; exact hj), if_neg (by omega)]
    exact B.keep k hk, B.dom⟩
theorem wpS_ltAt (C : Cmp prog w A s κ D R) {st : SortSt} (B : Bs D κ p₀ a₀ lo st) {i j : Nat} {x y : Keyed} {Q : Option Bool → SortSt → Prop} (hx : (arrOf st)[i]? = some x) (hy : (arrOf st)[j]? = some y) (h : Q (some (R x y)) st) :
    wpS (model prog w) A E s (ltAt' i j) Q st := by
  rw [ltAt'_eq]
  refine wpS_bind (wpS_get ?_)
  exact wpS_bind (wpS_elem hx (wpS_bind (wpS_elem hy (C.ask x y (B.domA _ _ hx) (B.domA _ _ hy) E st Q B.kind h))))
theorem wpS_rev {st : SortSt} {i j : Nat} {Q : Unit → SortSt → Prop} (h : Q () (setArr st (mirror (arrOf st) i j ((j - i) / 2)))) : wpS (model prog w) A E s (reverseSlice' i j) Q st := by
  rw [reverseSlice'_eq]
  exact wpS_modify h
theorem wpS_countRun (C : Cmp prog w A s κ D R) {st : SortSt} (B : Bs D κ p₀ a₀ lo st) {nrem : Nat} (h1 : 1 ≤ nrem) (hz : lo + nrem ≤ a₀.size) {Q : Option Nat → SortSt → Prop}
    (h : ∀ n st', Bs D κ p₀ a₀ lo st' → 1 ≤ n → n ≤ nrem → Asc R (arrOf st') lo n → Q (some n) st') : wpS (model prog w) A E s (countRun' lo nrem) Q st := by
  have W := C.wk
  rw [countRun'_eq]
  refine wpS_bind (wpS_mono (wpS_forRange (I := fun x c st' => st' = st ∧ c = (none, x) ∧ 1 ≤ x ∧ x ≤ nrem ∧ Asc R (arrOf st) lo x)
    (Q := fun c st' => st' = st ∧ ∃ n, c = (none, n) ∧ 1 ≤ n ∧ n ≤ nrem ∧ Asc R (arrOf st) lo n ∧ (n < nrem → ∃ x y, (arrOf st)[lo + n]? = some x ∧ (arrOf st)[lo + n - 1]? = some y ∧ R x y = true)) ?step ?fin ⟨rfl, rfl, Nat.le_refl _, h1, Asc.one W B.domA⟩) ?post)
  case step =>
    rintro x c st' h0 hx ⟨rfl, rfl, g1, g2, g3⟩
    dsimp only
    obtain ⟨u, hu, du⟩ := B.at (i := lo + x) (by omega)
    obtain ⟨v, hv, dv⟩ := B.at (i := lo + x - 1) (by omega)
    refine wpS_bind (wpS_ltAt C B hu hv ?_)
    dsimp only
    cases hc : R u v with
    | true =>
      rw [if_pos rfl]
      exact wpS_pure ⟨rfl, x, rfl, g1, g2, g3, fun _ => ⟨u, v, hu, hv, hc⟩⟩
    | false =>
      rw [if_neg Bool.false_ne_true]
      exact wpS_pure ⟨rfl, rfl, by omega, by assumption, g3.snoc W B.domA g1 hv hu hc⟩
  case fin =>
    rintro c st' ⟨rfl, rfl, g1, g2, g3⟩
    have e : max 1 nrem = nrem := by omega
    rw [e] at g1 g2 g3 ⊢
    exact ⟨rfl, nrem, rfl, g1, g2, g3, fun z => absurd z (Nat.lt_irrefl _)⟩
  case post =>
    intro c st' hI
    refine gate fun G hG => ?_
    refine gate fun gG hgG => ?_
    obtain ⟨est, n, rfl, g1, g2, g3, g4⟩ := hI
    refine hgG ?_
    clear hgG
    subst st'
    refine hG ?_
    clear hG
    dsimp -zeta only
    extract_lets rr nn nn1 neq0 jp
    have hj : n < nrem → ∀ st1, Bs D κ p₀ a₀ lo st1 → Desc R (arrOf st1) lo (n + 1) → wpS (model prog w) A E s (jp ()) Q st1 := by
      intro hlt st1 B1 hD1
      refine wpS_bind (wpS_rule ?_)
      refine wpS_bind (wpS_mono (wpS_forRange (I := fun x c st' => Bs D κ p₀ a₀ lo st' ∧ ∃ q, c = (none, x, q) ∧ n + 1 ≤ x ∧ x ≤ nrem ∧ q + 1 ≤ x ∧ Desc R (arrOf st') lo x ∧ Eqb R (arrOf st') (lo + x - (q + 1)) (lo + x))
        (Q := fun c st' => Bs D κ p₀ a₀ lo st' ∧ ∃ n' q, c = (none, n', q) ∧ n + 1 ≤ n' ∧ n' ≤ nrem ∧ q + 1 ≤ n' ∧ Desc R (arrOf st') lo n' ∧ Eqb R (arrOf st') (lo + n' - (q + 1)) (lo + n')) ?step2 ?fin2 ⟨B1, 0, rfl, Nat.le_refl _, by assumption, by omega, hD1, ?one⟩) ?post2)
      case one =>
        have e : lo + (n + 1) = lo + (n + 1) - (0 + 1) + 1 := by omega
        exact e ▸ Eqb.one W (B1).domA
      case step2 =>
        intro x c st' h0 hx hI_
        refine gate fun gG hgG => ?_
        obtain ⟨B', q, rfl, k1, k2, k3, k4, k5⟩ := hI_
        refine hgG ?_
        clear hgG
        have z2 := B'.size
        dsimp only
        obtain ⟨u2, hu2, du2⟩ := B'.at (i := lo + x) (by omega)
        obtain ⟨v2, hv2, dv2⟩ := B'.at (i := lo + x - 1) (by omega)
        refine wpS_bind (wpS_ltAt C B' hu2 hv2 ?_)
        dsimp only
        cases hc : R u2 v2 with
        | true =>
          refine wpS_T rfl ?_
          have D2 : Desc R (arrOf st') lo (x + 1) := k4.snoc W B'.domA (by omega) hv2 hu2 (W.of_lt du2 dv2 hc)
          by_cases hq : q > 0
          · rw [if_pos hq]
            refine wpS_bind (wpS_rev (wpS_pure ⟨B'.turn (by omega) (by omega), 0, rfl, by omega, by assumption, by omega, D2.turnB k5 (by omega) (by omega) (by omega), ?_⟩))
            have e : lo + (x + 1) = lo + (x + 1) - (0 + 1) + 1 := by omega
            exact e ▸ Eqb.one W (B'.turn (by omega) (by omega)).domA
          · rw [if_neg hq]
            refine wpS_pure ⟨B', 0, rfl, by omega, by assumption, by omega, D2, ?_⟩
            have e : lo + (x + 1) = lo + (x + 1) - (0 + 1) + 1 := by omega
            exact e ▸ Eqb.one W B'.domA
        | false =>
          refine wpS_F Bool.false_ne_true ?_
          refine wpS_bind (wpS_ltAt C B' hv2 hu2 ?_)
          dsimp only
          cases hc2 : R v2 u2 with
          | true =>
            refine wpS_T rfl ?_
            exact wpS_pure ⟨B', x, q, rfl, k1, k2, k3, k4, k5⟩
          | false =>
            refine wpS_F Bool.false_ne_true ?_
            refine wpS_pure ⟨B', q + 1, rfl, by omega, by assumption, by omega, k4.snoc W B'.domA (by omega) hv2 hu2 hc2, ?_⟩
            have e1 : lo + (x + 1) - (q + 1 + 1) = lo + x - (q + 1) := by omega
            rw [e1]
            exact k5.snoc W B'.domA (by omega) hv2 hu2 hc hc2
      case fin2 =>
        intro c st' hI_
        refine gate fun gG hgG => ?_
        obtain ⟨B', q, rfl, k1, k2, k3, k4, k5⟩ := hI_
        refine hgG ?_
        clear hgG
        exact ⟨B', _, q, rfl, k1, k2, k3, k4, k5⟩
      case post2 =>
        intro c st' hI
        refine gate fun G hG => ?_
        refine gate fun gG hgG => ?_
        obtain ⟨B', n', q, rfl, k1, k2, k3, k4, k5⟩ := hI
        refine hgG ?_
        clear hgG
        refine hG ?_
        clear hG
        have z2 := B'.size
        dsimp -zeta only
        extract_lets s2 n2 q2 jp2
        have hj2 : ∀ st3, Bs D κ p₀ a₀ lo st3 → Desc R (arrOf st3) lo n' → wpS (model prog w) A E s (jp2 ()) Q st3 := by
            intro st3 B3 hD3
            have z3 := (B3).size
            have B4 := (B3).turn (i := lo) (j := lo + n') (Nat.le_refl _) (by omega)
            have A4 := Desc.turned (hD3) (by omega)
            refine wpS_bind (wpS_rev ?_)
            generalize hst4 : setArr st3 _ = st4 at B4 ⊢
            have hA4 : Asc R (arrOf st4) lo n' := by
              rw [← hst4]
              exact A4
            refine wpS_bind (wpS_mono (wpS_forRange (I := fun x c st' => st' = st4 ∧ c = (none, x) ∧ n' ≤ x ∧ x ≤ nrem ∧ Asc R (arrOf st4) lo x)
              (Q := fun c st' => st' = st4 ∧ ∃ m, c = (none, m) ∧ 1 ≤ m ∧ m ≤ nrem ∧ Asc R (arrOf st4) lo m) ?step5 ?fin5 ⟨rfl, rfl, Nat.le_refl _, by omega, hA4⟩) ?post5)
            case step5 =>
              rintro x c st' h0 hx ⟨rfl, rfl, k1, k2, k3⟩
              dsimp only
              obtain ⟨u5, hu5, du5⟩ := B4.at (i := lo + x) (by omega)
              obtain ⟨v5, hv5, dv5⟩ := B4.at (i := lo + x - 1) (by omega)
              refine wpS_bind (wpS_ltAt C B4 hu5 hv5 ?_)
              dsimp only
              cases hc : R u5 v5 with
              | true =>
                refine wpS_T rfl ?_
                exact wpS_pure ⟨rfl, x, rfl, by omega, k2, k3⟩
              | false =>
                refine wpS_F Bool.false_ne_true ?_
                exact wpS_pure ⟨rfl, rfl, by omega, by assumption, k3.snoc W B4.domA (by omega) hv5 hu5 hc⟩
            case fin5 =>
              rintro c st' ⟨rfl, rfl, k1, k2, k3⟩
              exact ⟨rfl, _, rfl, by omega, k2, k3⟩
            case post5 =>
              rintro c st' ⟨est, m, rfl, k1, k2, k3⟩
              subst st'
              exact wpS_pure (h m st4 B4 k1 k2 k3)
        clear_value jp2
        refine wpS_C (fun hq => ?_) (fun hq => hj2 _ B' k4)
        have B3 := B'.turn (i := lo + n' - (q + 1)) (j := lo + n') (by omega) (by omega)
        have D3 := k4.turnB k5 (by omega) (by omega) (by omega)
        exact wpS_bind (wpS_rev (hj2 _ B3 D3))
    clear_value jp
    refine wpS_C (fun e1 => wpS_pure (h n st B g1 g2 g3)) (fun e1 => ?_)
    have hlt : n < nrem := by
      have : ¬ n = nrem := fun z => e1 (by show (n == nrem) = true; rw [z]; exact beq_self_eq_true _)
      omega
    obtain ⟨u, v, hu, hv, huv⟩ := g4 hlt
    refine wpS_C (fun e2 => ?_) (fun e2 => ?_)
    · obtain ⟨f0, hf0, df0⟩ := B.at (i := lo) (by omega)
      refine wpS_bind (wpS_ltAt C B hf0 hv ?_)
      dsimp only
      cases hc0 : R f0 v with
      | true => exact wpS_T rfl (wpS_pure (h n st B g1 g2 g3))
      | false =>
        refine wpS_F Bool.false_ne_true ?_
        have E0 := g3.eqb W B.domA hf0 hv hc0
        have z0 := B.size
        have B1 := B.turn (i := lo) (j := lo + n) (Nat.le_refl _) (by omega)
        have E1 := E0.turnB (by omega)
        have u1 : (mirror (arrOf st) lo (lo + n) ((lo + n - lo) / 2))[lo + n]? = some u := by
          rw [getElem?_mirror_all (by omega), if_neg (by omega)]
          exact hu
        have v1 : (mirror (arrOf st) lo (lo + n) ((lo + n - lo) / 2))[lo + n - 1]? = some f0 := by
          rw [getElem?_mirror_all (by omega), if_pos (by omega)]
          have e : lo + (lo + n) - 1 - (lo + n - 1) = lo := by omega
          rw [e]
          exact hf0
        have du := B.domA _ _ hu
        have dv := B.domA _ _ hv
        have D1 := E1.desc.snoc W B1.domA g1 v1 u1 (W.trans du dv df0 (W.of_lt du dv huv) hc0)
        exact wpS_bind (wpS_rev (hj hlt _ B1 D1))
    · have e2' : ¬ n > 1 := e2
      have en : n = 1 := by omega
      have D1 : Desc R (arrOf st) lo (n + 1) := by
        have E0 : Eqb R (arrOf st) lo (lo + n) := by
          rw [en]
          exact Eqb.one W B.domA
        exact E0.desc.snoc W B.domA g1 hv hu (W.of_lt (B.domA _ _ hu) (B.domA _ _ hv) huv)
      exact hj hlt _ B D1
end
end TS
set_option linter.all false
set_option maxRecDepth 100000
set_option maxHeartbeats 4000000
namespace TS
open PySem PyProof.Rows
section
variable {prog : Program} {w : World} {A : Around} {E : Value → Shared → Prop} {s : Shared} {κ : SortKind} {D : Keyed → Prop} {R : Keyed → Keyed → Bool} {p₀ : Array (Nat × Nat × Nat)} {a₀ : Array Keyed} {lo : Nat}
theorem Bs.down {st : SortSt} (B : Bs D κ p₀ a₀ lo st) {src dst : Nat} (h1 : lo ≤ dst) (h2 : dst ≤ src) (h3 : src < a₀.size) : Bs D κ p₀ a₀ lo (setArr st (bubble (arrOf st) src (src - dst))) :=
  ⟨B.kind, B.pend, B.failed, (bubble_perm _ _ _).trans B.perm, fun k hk => by
    show (bubble (arrOf st) src (src - dst))[k]? = _
    rw [getElem?_bubble (by rw [B.size]; exact h3) _ (by omega (config := {})), if_neg (by omega (config := {})), if_neg (by omega (config := {}))]
    exact B.keep k hk, B.dom⟩
theorem Asc.insert (W : Wk D R) {a : Array Keyed} (hD : Dom D a) {k l : Nat} {x : Keyed} (h : Asc R a lo k) (hl : l ≤ k) (hz : lo + k < a.size) (hx : a[lo + k]? = some x) (h1 : ∀ i y, i < l → a[lo + i]? = some y → le R y x) (h2 : ∀ i y, l ≤ i → i < k → a[lo + i]? = some y → le R x y) :
    Asc R (bubble a (lo + k) (lo + k - (lo + l))) lo (k + 1) := fun i j u v g1 g2 g3 hu hv => by
  have e : lo + k - (lo + k - (lo + l)) = lo + l := by omega
  rw [getElem?_bubble hz _ (by omega), e] at hu hv
  have old : ∀ i, lo ≤ i → i < lo + k → ∀ y, a[i]? = some y → (i < lo + l → le R y x) ∧ (lo + l ≤ i → le R x y) := fun i hi1 hi2 y hy => by
    have ei : a[lo + (i - lo)]? = some y := by
      have : lo + (i - lo) = i := by omega
      rw [this]
      exact hy
    exact ⟨fun z => h1 (i - lo) y (by omega) ei, fun z => h2 (i - lo) y (by omega) (by omega) ei⟩
  by_cases ci : i = lo + l
  · rw [if_pos ci, hx] at hu
    cases hu
    by_cases cj : j = lo + l
    · rw [if_pos cj, hx] at hv
      cases hv
      exact W.refl (hD _ _ hx)
    · rw [if_neg cj, if_pos (by omega)] at hv
      exact (old (j - 1) (by omega) (by omega) v hv).2 (by omega)
  · rw [if_neg ci] at hu
    by_cases ci2 : lo + l < i ∧ i ≤ lo + k
    · rw [if_pos ci2] at hu
      rw [if_neg (by omega), if_pos (by omega)] at hv
      exact h (i - 1) (j - 1) u v (by omega) (by omega) (by omega) hu hv
    · rw [if_neg ci2] at hu
      by_cases cj : j = lo + l
      · rw [if_pos cj, hx] at hv
        cases hv
        exact (old i g1 (by omega) u hu).1 (by omega)
      · rw [if_neg cj] at hv
        by_cases cj2 : lo + l < j ∧ j ≤ lo + k
        · rw [if_pos cj2] at hv
          exact h i (j - 1) u v g1 (by omega) (by omega) hu hv
        · rw [if_neg cj2] at hv
          exact h i j u v g1 g2 (by omega) hu hv
theorem wpS_binarySort (C : Cmp prog w A s κ D R) {st : SortSt} (B : Bs D κ p₀ a₀ lo st) {n ok : Nat} (hok : 1 ≤ ok) (hn : ok ≤ n) (hz : lo + n ≤ a₀.size) (hA : Asc R (arrOf st) lo ok) {Q : Bool → SortSt → Prop}
    (h : ∀ st', Bs D κ p₀ a₀ lo st' → Asc R (arrOf st') lo n → Q true st') : wpS (model prog w) A E s (binarySort' lo n ok) Q st := by
  have W := C.wk
  have em : max ok 1 = ok := by omega
  rw [binarySort'_eq, em]
  refine wpS_bind (wpS_mono (wpS_forRange (I := fun k c st' => c = (none, ()) ∧ Bs D κ p₀ a₀ lo st' ∧ ok ≤ k ∧ k ≤ n ∧ Asc R (arrOf st') lo k) (Q := fun c st' => c = (none, ()) ∧ Bs D κ p₀ a₀ lo st' ∧ Asc R (arrOf st') lo n) ?step ?fin ⟨rfl, B, Nat.le_refl _, hn, hA⟩) ?post)
  case fin =>
    rintro c st' ⟨rfl, B', k1, k2, k3⟩
    have e : max ok n = n := by omega
    rw [e] at k3
    exact ⟨rfl, B', k3⟩
  case post =>
    rintro c st' ⟨rfl, B', k3⟩
    exact wpS_pure (h st' B' k3)
  case step =>
    rintro k c st' _ hk ⟨rfl, B', k1, k2, k3⟩
    have z1 := B'.size
    dsimp only
    obtain ⟨x, hx, dx⟩ := B'.at (i := lo + k) (by omega)
    refine wpS_bind (wpS_mono (wpS_forRange (I := fun j c st'' => st'' = st' ∧ ∃ l r, c = (none, l, r) ∧ l ≤ r ∧ r ≤ k ∧ r - l ≤ k - j ∧ (∀ i y, i < l → (arrOf st')[lo + i]? = some y → le R y x) ∧ ∀ i y, r ≤ i → i < k → (arrOf st')[lo + i]? = some y → le R x y)
      (Q := fun c st'' => st'' = st' ∧ ∃ l r, c = (none, l, r) ∧ l ≤ k ∧ (∀ i y, i < l → (arrOf st')[lo + i]? = some y → le R y x) ∧ ∀ i y, l ≤ i → i < k → (arrOf st')[lo + i]? = some y → le R x y) ?step1 ?fin1 ⟨rfl, 0, k, rfl, by omega, by omega, by omega, fun i y hi => absurd hi (Nat.not_lt_zero _), fun i y h1 h2 => by omega⟩) ?post1)
    case step1 =>
      intro j c st'' _ hj hI_
      refine gate fun gG hgG => ?_
      obtain ⟨rfl, l, r, rfl, m1, m2, m3, m4, m5⟩ := hI_
      refine hgG ?_
      clear hgG
      dsimp only
      by_cases hge : l ≥ r
      · rw [if_pos hge]
        have e : l = r := by omega
        subst e
        exact wpS_pure ⟨rfl, l, l, rfl, m2, m4, m5⟩
      · rw [if_neg hge]
        obtain ⟨y, hy, dy⟩ := B'.at (i := lo + (l + r) / 2) (by omega)
        refine wpS_bind (wpS_ltAt C B' hx hy ?_)
        dsimp only
        cases hc : R x y with
        | true =>
          rw [if_pos rfl]
          refine wpS_pure ⟨rfl, l, (l + r) / 2, rfl, by omega, by omega, by omega, m4, fun i y' g1 g2 hy' => ?_⟩
          exact W.trans dx dy (B'.domA _ _ hy') (W.of_lt dx dy hc) (k3 _ _ y y' (by omega) (by omega) (by omega) hy hy')
        | false =>
          rw [if_neg Bool.false_ne_true]
          refine wpS_pure ⟨rfl, (l + r) / 2 + 1, r, rfl, by omega, m2, by omega, fun i y' g1 hy' => ?_, m5⟩
          exact W.trans (B'.domA _ _ hy') dy dx (k3 _ _ y' y (by omega) (by omega) (by omega) hy' hy) hc
    case fin1 =>
      intro c st'' hI_
      refine gate fun gG hgG => ?_
      obtain ⟨rfl, l, r, rfl, m1, m2, m3, m4, m5⟩ := hI_
      refine hgG ?_
      clear hgG
      have e : l = r := by omega
      subst e
      exact ⟨rfl, l, l, rfl, m2, m4, m5⟩
    case post1 =>
      rintro c st'' ⟨est, l, r, rfl, m1, m2, m3⟩
      subst st''
      dsimp only
      rw [moveDown'_eq]
      exact wpS_bind (wpS_modify (wpS_pure ⟨rfl, B'.down (by omega) (by omega) (by omega), by omega, by assumption, k3.insert W B'.domA m1 (by omega) hx m2 m3⟩))
end
section
variable {D : Keyed → Prop} {R : Keyed → Keyed → Bool}
noncomputable def seg (l : List Keyed) (i n : Nat) : List Keyed := (l.drop i).take n
theorem asc_srt {a : Array Keyed} {lo n : Nat} (h : Asc R a lo n) : Srt R (seg a.toList lo n) := by
  refine List.pairwise_iff_getElem.mpr fun i j hi hj hij => ?_
  unfold seg at hi hj ⊢
  rw [List.length_take, List.length_drop, Array.length_toList] at hi hj
  rw [List.getElem_take, List.getElem_take, List.getElem_drop, List.getElem_drop]
  refine h (lo + i) (lo + j) _ _ (by omega) (by omega) (by omega) ?_ ?_
  · rw [arr_list, List.getElem?_eq_getElem (by rw [Array.length_toList]; omega)]
  · rw [arr_list, List.getElem?_eq_getElem (by rw [Array.length_toList]; omega)]
noncomputable def Ch (R : Keyed → Keyed → Bool) (a : Array Keyed) : Nat → List (Nat × Nat × Nat) → Nat → Prop
  | s, [], e => s = e
  | s, (t, n, _) :: r, e => t = s ∧ 1 ≤ n ∧ Asc R a s n ∧ Ch R a (s + n) r e
theorem Ch.append {a : Array Keyed} : ∀ {p q : List (Nat × Nat × Nat)} {s e : Nat}, Ch R a s (p ++ q) e ↔ ∃ m, Ch R a s p m ∧ Ch R a m q e
  | [], q, s, e => ⟨fun h => ⟨s, rfl, h⟩, fun ⟨m, h1, h2⟩ => by
    have h1' : s = m := h1
    rw [h1']
    exact h2⟩
  | (t, n, w) :: p, q, s, e => by
    constructor
    · rintro ⟨h1, h2, h3, h4⟩
      obtain ⟨m, h5, h6⟩ := Ch.append.mp h4
      exact ⟨m, ⟨h1, h2, h3, h5⟩, h6⟩
    · rintro ⟨m, ⟨h1, h2, h3, h4⟩, h5⟩
      exact ⟨h1, h2, h3, Ch.append.mpr ⟨m, h4, h5⟩⟩
theorem Ch.le_ {a : Array Keyed} : ∀ {p : List (Nat × Nat × Nat)} {s e : Nat}, Ch R a s p e → s + p.length ≤ e
  | [], s, e, h => by
    have h' : s = e := h
    simp [h']
  | (t, n, w) :: p, s, e, ⟨h1, h2, h3, h4⟩ => by
    have := Ch.le_ h4
    rw [List.length_cons]
    omega
theorem Asc.congr {a b : Array Keyed} {lo n : Nat} (h : Asc R a lo n) (e : ∀ i, lo ≤ i → i < lo + n → b[i]? = a[i]?) : Asc R b lo n := fun i j x y g1 g2 g3 hx hy => by
  rw [e i g1 (by omega)] at hx
  rw [e j (by omega) g3] at hy
  exact h i j x y g1 g2 g3 hx hy
theorem Ch.congr {a b : Array Keyed} : ∀ {p : List (Nat × Nat × Nat)} {s e : Nat}, Ch R a s p e → (∀ i, s ≤ i → i < e → b[i]? = a[i]?) → Ch R b s p e
  | [], _, _, h, _ => h
  | (t, n, w) :: p, s, e, ⟨h1, h2, h3, h4⟩, hc => by
    have := Ch.le_ h4
    exact ⟨h1, h2, h3.congr fun i g1 g2 => hc i g1 (by omega), Ch.congr h4 fun i g1 g2 => hc i (by omega) g2⟩
theorem write_at : ∀ (m : List Keyed) (a : Array Keyed) (s k : Nat), s + k + m.length ≤ a.size → ∀ i, ((m.zipIdx k).foldl (fun a (p : Keyed × Nat) => a.setIfInBounds (s + p.2) p.1) a)[i]? = if s + k ≤ i ∧ i < s + k + m.length then m[i - (s + k)]? else a[i]?
  | [], a, s, k, _, i => by
    rw [if_neg (by simp only [List.length_nil]; omega)]
    rfl
  | x :: m, a, s, k, hz, i => by
    rw [List.length_cons] at hz
    rw [List.zipIdx_cons, List.foldl_cons, write_at m _ s (k + 1) (by rw [Array.size_setIfInBounds]; omega)]
    rw [Array.getElem?_setIfInBounds, List.length_cons]
    dsimp only
    by_cases h1 : s + (k + 1) ≤ i ∧ i < s + (k + 1) + m.length
    · rw [if_pos h1, if_pos (by omega)]
      have e : i - (s + k) = (i - (s + (k + 1))) + 1 := by omega
      rw [e, List.getElem?_cons_succ]
    · rw [if_neg h1]
      by_cases h2 : s + k = i
      · rw [if_pos h2, if_pos (by omega), if_pos (by omega)]
        have e : i - (s + k) = 0 := by omega
        rw [e]
        rfl
      · rw [if_neg h2, if_neg (by omega)]
end
end TS
set_option linter.all false
set_option maxRecDepth 100000
set_option maxHeartbeats 4000000
namespace TS
open PySem PyProof.Rows
section
variable {prog : Program} {w : World} {A : Around} {E : Value → Shared → Prop} {s : Shared} {κ : SortKind} {D : Keyed → Prop} {R : Keyed → Keyed → Bool}
theorem gal_rightS (W : Wk D R) {arr : Array Keyed} {key : Keyed} {base n : Nat} (hs : Asc R arr base n) (hD : Dom D arr) (hk : D key) (hn : base + n ≤ arr.size) :
    ∃ k, Gal D R false key arr base n k ∧ (∀ i x, i < k → arr[base + i]? = some x → le R x key) ∧ ∀ i x, k ≤ i → i < n → arr[base + i]? = some x → R key x = true := by
  have mono : ∀ i j, i ≤ j → j < n → (match arr[base + j]? with | some x => bey R false key x | none => false) = true → (match arr[base + i]? with | some x => bey R false key x | none => false) = true := by
    intro i j hij hj h
    obtain ⟨x, hx, _⟩ := arr_at (a := arr) (i := base + i) (by omega)
    obtain ⟨y, hy, _⟩ := arr_at (a := arr) (i := base + j) (by omega)
    rw [hy] at h
    rw [hx]
    dsimp only [bey] at h ⊢
    simp only [Bool.false_eq_true, if_false, Bool.not_eq_true'] at h ⊢
    exact W.neg key y x hk (hD _ _ hy) (hD _ _ hx) h (hs _ _ x y (by omega) (by omega) (by omega) hx hy)
  obtain ⟨k, hk1, hk2⟩ := cut_at n mono
  have at_ : ∀ i x, i < n → arr[base + i]? = some x → bey R false key x = decide (i < k) := by
    intro i x hi hx
    have := hk2 i hi
    rw [hx] at this
    exact this
  refine ⟨k, ⟨hk1, hk, fun i hi => ?_⟩, fun i x hi hx => ?_, fun i x h1 h2 hx => ?_⟩
  · obtain ⟨x, hx, hx'⟩ := arr_at (a := arr) (i := base + i) (by omega)
    exact ⟨x, hx, hD _ _ hx, at_ i x hi hx⟩
  · have := at_ i x (by omega) hx
    rw [decide_eq_true hi] at this
    dsimp only [bey] at this
    simpa [le] using this
  · have := at_ i x h2 hx
    rw [decide_eq_false (by omega)] at this
    dsimp only [bey] at this
    simpa using this
theorem gal_leftS (W : Wk D R) {arr : Array Keyed} {key : Keyed} {base n : Nat} (hs : Asc R arr base n) (hD : Dom D arr) (hk : D key) (hn : base + n ≤ arr.size) :
    ∃ k, Gal D R true key arr base n k ∧ (∀ i x, i < k → arr[base + i]? = some x → R x key = true) ∧ ∀ i x, k ≤ i → i < n → arr[base + i]? = some x → le R key x := by
  have mono : ∀ i j, i ≤ j → j < n → (match arr[base + j]? with | some x => bey R true key x | none => false) = true → (match arr[base + i]? with | some x => bey R true key x | none => false) = true := by
    intro i j hij hj h
    obtain ⟨x, hx, _⟩ := arr_at (a := arr) (i := base + i) (by omega)
    obtain ⟨y, hy, _⟩ := arr_at (a := arr) (i := base + j) (by omega)
    rw [hy] at h
    rw [hx]
    dsimp only [bey] at h ⊢
    simp only [if_true] at h ⊢
    cases hc : R x key with
    | true => rfl
    | false =>
      have := W.neg y x key (hD _ _ hy) (hD _ _ hx) hk (hs _ _ x y (by omega) (by omega) (by omega) hx hy) hc
      rw [h] at this
      cases this
  obtain ⟨k, hk1, hk2⟩ := cut_at n mono
  have at_ : ∀ i x, i < n → arr[base + i]? = some x → bey R true key x = decide (i < k) := by
    intro i x hi hx
    have := hk2 i hi
    rw [hx] at this
    exact this
  refine ⟨k, ⟨hk1, hk, fun i hi => ?_⟩, fun i x hi hx => ?_, fun i x h1 h2 hx => ?_⟩
  · obtain ⟨x, hx, hx'⟩ := arr_at (a := arr) (i := base + i) (by omega)
    exact ⟨x, hx, hD _ _ hx, at_ i x hi hx⟩
  · have := at_ i x (by omega) hx
    rw [decide_eq_true hi] at this
    dsimp only [bey] at this
    simpa using this
  · have := at_ i x h2 hx
    rw [decide_eq_false (by omega)] at this
    dsimp only [bey] at this
    simpa [le] using this
theorem wr_list {a a' : Array Keyed} {m : List Keyed} {p : Nat} (h : ∀ i : Nat, a'[i]? = if p ≤ i ∧ i < p + m.length then m[i - p]? else a[i]?) (hz : p + m.length ≤ a.size) : a'.toList = a.toList.take p ++ (m ++ a.toList.drop (p + m.length)) := by
  refine List.ext_getElem? fun i => ?_
  have e : a'.toList[i]? = a'[i]? := by simp
  rw [e, h i]
  have lt : (a.toList.take p).length = p := by rw [List.length_take, Array.length_toList]; omega
  by_cases h1 : i < p
  · rw [if_neg (by omega), List.getElem?_append_left (by omega), List.getElem?_take, if_pos h1, arr_list]
  · rw [List.getElem?_append_right (by omega), lt]
    by_cases h2 : i < p + m.length
    · rw [if_pos (by omega), List.getElem?_append_left (by omega)]
    · rw [if_neg (by omega), List.getElem?_append_right (by omega), List.getElem?_drop, arr_list]
      congr 1
      omega
theorem split3 {a : Array Keyed} {p q r : Nat} (h1 : p ≤ q) (h2 : q ≤ r) : a.toList = a.toList.take p ++ ((a.extract p q).toList ++ (a.extract q r).toList ++ a.toList.drop r) := by
  rw [ext_seg a h1, ext_seg a h2]
  have e1 : a.toList.drop p = (a.toList.drop p).take (q - p) ++ (a.toList.drop q) := by
    have := List.take_append_drop (q - p) (a.toList.drop p)
    rw [List.drop_drop] at this
    have e : p + (q - p) = q := by omega
    rw [e] at this
    exact this.symm
  have e2 : a.toList.drop q = (a.toList.drop q).take (r - q) ++ a.toList.drop r := by
    have := List.take_append_drop (r - q) (a.toList.drop q)
    rw [List.drop_drop] at this
    have e : q + (r - q) = r := by omega
    rw [e] at this
    exact this.symm
  rw [List.append_assoc, ← e2, ← e1, List.take_append_drop]
theorem perm_write {a a' : Array Keyed} {m : List Keyed} {p q r : Nat} (h1 : p ≤ q) (h2 : q ≤ r) (h3 : r ≤ a.size) (hm : m.Perm ((a.extract p q).toList ++ (a.extract q r).toList)) (hw : a'.toList = a.toList.take p ++ (m ++ a.toList.drop r)) : a'.Perm a := by
  rw [Array.perm_iff_toList_perm, hw]
  have e := split3 (a := a) h1 h2
  refine List.Perm.trans ?_ (List.Perm.of_eq e.symm)
  exact List.Perm.append_left _ (List.Perm.append_right _ hm)
end
end TS
set_option linter.all false
set_option maxRecDepth 100000
set_option maxHeartbeats 4000000
namespace TS
open PySem PyProof.Rows
section
variable {prog : Program} {w : World} {A : Around} {E : Value → Shared → Prop} {s : Shared} {κ : SortKind} {D : Keyed → Prop} {R : Keyed → Keyed → Bool}
theorem wpS_set {M : Model} {σ : Type} {st st' : σ} {Q : PUnit → σ → Prop} (h : Q ⟨⟩ st') : wpS M A E s (set st' : StateT σ Sem PUnit) Q st := by
  unfold wpS
  rw [StateT.run_set]
  exact wpAny_pure ⟨rfl, h⟩
theorem mem_ext {a : Array Keyed} {p q : Nat} {x : Keyed} (h : x ∈ (a.extract p q).toList) (hq : p ≤ q) : ∃ j, p ≤ j ∧ j < q ∧ a[j]? = some x := by
  rw [ext_seg a hq] at h
  obtain ⟨i, hi, rfl⟩ := List.mem_iff_getElem.mp h
  rw [List.length_take, List.length_drop, Array.length_toList] at hi
  refine ⟨p + i, by omega, by omega, ?_⟩
  rw [List.getElem_take, List.getElem_drop, arr_list, List.getElem?_eq_getElem (by rw [Array.length_toList]; omega)]
theorem Asc.join (W : Wk D R) {a : Array Keyed} {sa na nb : Nat} (hD : Dom D a) (h1 : Asc R a sa na) (h2 : Asc R a (sa + na) nb) (h : ∀ i x j y, sa ≤ i → i < sa + na → sa + na ≤ j → j < sa + na + nb → a[i]? = some x → a[j]? = some y → le R x y) : Asc R a sa (na + nb) := fun i j x y g1 g2 g3 hx hy => by
  rcases Nat.lt_or_ge j (sa + na) with z | z
  · exact h1 i j x y g1 g2 z hx hy
  · rcases Nat.lt_or_ge i (sa + na) with z2 | z2
    · exact h i x j y g1 z2 z (by omega) hx hy
    · exact h2 i j x y z2 g2 (by omega) hx hy
theorem pend_new {p : Array (Nat × Nat × Nat)} {pre post : List (Nat × Nat × Nat)} {u v n : Nat × Nat × Nat} {i : Nat} (hp : p.toList = pre ++ u :: v :: post) (hi : pre.length = i) : ((p.setIfInBounds i n).eraseIdxIfInBounds (i + 1)).toList = pre ++ n :: post := by
  have hs : p.size = pre.length + (post.length + 1 + 1) := by
    rw [← Array.length_toList, hp, List.length_append, List.length_cons, List.length_cons]
  have hb : i + 1 < (p.setIfInBounds i n).size := by
    rw [Array.size_setIfInBounds]
    omega
  unfold Array.eraseIdxIfInBounds
  rw [dif_pos hb, Array.toList_eraseIdx, Array.toList_setIfInBounds, hp, ← hi, List.set_append_right _ _ (Nat.le_refl _), Nat.sub_self, List.set_cons_zero, List.eraseIdx_append_of_length_le (by omega)]
  congr 1
  have e : pre.length + 1 - pre.length = 1 := by omega
  rw [e]
  rfl
theorem pend_at {p : Array (Nat × Nat × Nat)} {pre post : List (Nat × Nat × Nat)} {u v : Nat × Nat × Nat} {i : Nat} (hp : p.toList = pre ++ u :: v :: post) (hi : pre.length = i) : p[i]? = some u ∧ p[i + 1]? = some v := by
  have e : ∀ k : Nat, p[k]? = p.toList[k]? := fun k => by simp
  rw [e, e, hp, ← hi]
  constructor
  · rw [List.getElem?_append_right (Nat.le_refl _), Nat.sub_self]
    rfl
  · rw [List.getElem?_append_right (Nat.le_add_right _ _), Nat.add_sub_cancel_left]
    rfl
theorem wpS_mergeAt (C : Cmp prog w A s κ D R) {st : SortSt} {i : Nat} {pre post : List (Nat × Nat × Nat)} {sa na pw sb nb qw lo : Nat} (hk : kindOf st = κ) (hf : failedOf st = none) (hD : Dom D (arrOf st))
    (hp : (pendingOf st).toList = pre ++ (sa, na, pw) :: (sb, nb, qw) :: post) (hi : pre.length = i) (hc : Ch R (arrOf st) 0 (pendingOf st).toList lo) (hlo : lo ≤ (arrOf st).size) {Q : Bool → SortSt → Prop}
    (h : ∀ st', kindOf st' = κ → failedOf st' = none → (arrOf st').Perm (arrOf st) → (pendingOf st').toList = pre ++ (sa, na + nb, pw) :: post → Ch R (arrOf st') 0 (pendingOf st').toList lo → (∀ k, lo ≤ k → (arrOf st')[k]? = (arrOf st)[k]?) → Q true st') :
    wpS (model prog w) A E s (mergeAt' i) Q st := by
  refine gate fun gG hgG => ?_
  have W := C.wk
  obtain ⟨e1, e2⟩ := pend_at hp hi
  rw [hp, Ch.append] at hc
  obtain ⟨m0, c1, c2, c3, c4, c5, c6, c7, c8⟩ := hc
  refine hgG ?_
  clear hgG
  subst c2
  subst c5
  have cle := c8.le_
  refine wpS_bind (wpS_get ?_)
  rw [e1, e2]
  dsimp only
  refine wpS_bind (wpS_set ?_)
  have hpn := pend_new (n := (sa, na + nb, pw)) hp hi
  change wpS (model prog w) A E s _ Q (SortSt.mk' (kindOf st) (arrOf st) (((pendingOf st).setIfInBounds i (sa, na + nb, pw)).eraseIdxIfInBounds (i + 1)) (gallopOf st) (failedOf st))
  generalize hst1 : SortSt.mk' (kindOf st) (arrOf st) (((pendingOf st).setIfInBounds i (sa, na + nb, pw)).eraseIdxIfInBounds (i + 1)) (gallopOf st) (failedOf st) = st1
  have a1 : arrOf st1 = arrOf st := by rw [← hst1]
  have k1' : kindOf st1 = κ := by rw [← hst1]; exact hk
  have f1' : failedOf st1 = none := by rw [← hst1]; exact hf
  have p1' : (pendingOf st1).toList = pre ++ (sa, na + nb, pw) :: post := by rw [← hst1]; exact hpn
  clear hst1
  generalize ha : arrOf st = a at *
  rw [show (sortPriv% PySem.Builtin.SortState.a) st = a from ha]
  have easy : Asc R a sa (na + nb) → Q true st1 := fun hA => by
    refine h st1 k1' f1' (by rw [a1]) p1' ?_ (fun k _ => by rw [a1])
    rw [a1, p1', Ch.append]
    exact ⟨sa, c1, rfl, by omega, hA, by rw [← Nat.add_assoc]; exact c8⟩
  obtain ⟨y0, hy0, _⟩ := arr_at (a := a) (i := sa + na) (by omega)
  have dy0 := hD _ _ hy0
  refine wpS_bind (wpS_elem hy0 ?_)
  obtain ⟨k, G, kl, kr⟩ := gal_rightS W c4 hD dy0 (by omega)
  have hkn := G.le
  refine wpS_bind (wpS_gallop C G (by assumption) k1' ?_)
  dsimp only
  have y0le : ∀ j y, sa + na ≤ j → j < sa + na + nb → a[j]? = some y → le R y0 y := fun j y g1 g2 hy => c7 _ _ y0 y (Nat.le_refl _) g1 g2 hy0 hy
  have lowP : ∀ i x, sa ≤ i → i < sa + k → a[i]? = some x → le R x y0 := fun i x g1 g2 hx => by
    refine kl (i - sa) x (by omega) ?_
    have : sa + (i - sa) = i := by omega
    rw [this]
    exact hx
  by_cases z1 : (na - k == 0) = true
  · rw [if_pos z1]
    have z1' : na - k = 0 := eq_of_beq z1
    refine wpS_pure (easy (Asc.join W hD c4 c7 fun i x j y g1 g2 g3 g4 hx hy => ?_))
    exact W.trans (hD _ _ hx) dy0 (hD _ _ hy) (lowP i x g1 (by omega) hx) (y0le j y g3 g4 hy)
  rw [if_neg z1]
  have z1' : ¬ na - k = 0 := fun z => z1 (by rw [z]; rfl)
  obtain ⟨xl, hxl, _⟩ := arr_at (a := a) (i := sa + k + (na - k) - 1) (by omega)
  have dxl := hD _ _ hxl
  refine wpS_bind (wpS_elem hxl ?_)
  obtain ⟨k2, G2, k2l, k2r⟩ := gal_leftS W c7 hD dxl (by omega)
  have hk2n := G2.le
  refine wpS_bind (wpS_gallop C G2 (by omega) k1' ?_)
  dsimp only
  have lexl : ∀ i x, sa ≤ i → i < sa + na → a[i]? = some x → le R x xl := fun i x g1 g2 hx => c4 _ _ x xl g1 (by omega) (by omega) hx hxl
  have highZ : ∀ j y, sa + na + k2 ≤ j → j < sa + na + nb → a[j]? = some y → le R xl y := fun j y g1 g2 hy => by
    refine k2r (j - (sa + na)) y (by omega) (by omega) ?_
    have : sa + na + (j - (sa + na)) = j := by omega
    rw [this]
    exact hy
  by_cases z2 : (k2 == 0) = true
  · rw [if_pos z2]
    have z2' : k2 = 0 := eq_of_beq z2
    refine wpS_pure (easy (Asc.join W hD c4 c7 fun i x j y g1 g2 g3 g4 hx hy => ?_))
    exact W.trans (hD _ _ hx) dxl (hD _ _ hy) (lexl i x g1 g2 hx) (highZ j y (by omega) g4 hy)
  rw [if_neg z2]
  have z2' : ¬ k2 = 0 := fun z => z2 (by rw [z]; rfl)
  have q1 : sa + k ≤ sa + na := by omega
  have q2 : sa + na ≤ sa + na + k2 := by omega
  have lx : (a.extract (sa + k) (sa + na)).toList.length = na - k := by
    rw [Array.length_toList, Array.size_extract]
    omega
  have ly : (a.extract (sa + na) (sa + na + k2)).toList.length = k2 := by
    rw [Array.length_toList, Array.size_extract]
    omega
  have T : Two D R (a.extract (sa + k) (sa + na)).toList (a.extract (sa + na) (sa + na + k2)).toList := by
    refine ⟨W, fun x hx => ?_, fun x hx => ?_, ?_, ?_, fun y hy x hx => ?_, fun x hx y hy => ?_⟩
    · obtain ⟨j, _, _, hj⟩ := mem_ext hx q1
      exact hD _ _ hj
    · obtain ⟨j, _, _, hj⟩ := mem_ext hx q2
      exact hD _ _ hj
    · have e : (a.extract (sa + k) (sa + na)).toList = seg a.toList (sa + k) (na - k) := by
        rw [ext_seg a q1]
        unfold seg
        congr 1
        omega
      rw [e]
      exact asc_srt fun i j x y g1 g2 g3 hx hy => c4 i j x y (by omega) g2 (by omega) hx hy
    · have e : (a.extract (sa + na) (sa + na + k2)).toList = seg a.toList (sa + na) k2 := by
        rw [ext_seg a q2]
        unfold seg
        congr 1
        omega
      rw [e]
      exact asc_srt fun i j x y g1 g2 g3 hx hy => c7 i j x y (by assumption) g2 (by omega) hx hy
    · have ey : y = y0 := by
        rw [ext_seg a q2, List.getElem?_take, if_pos (by omega), List.getElem?_drop, Nat.add_zero, ← arr_list, hy0] at hy
        exact (Option.some.inj hy).symm
      subst ey
      obtain ⟨j, g1, g2, hj⟩ := mem_ext hx q1
      refine W.of_lt dy0 (hD _ _ hj) (kr (j - sa) x (by omega) (by omega) ?_)
      have : sa + (j - sa) = j := by omega
      rw [this]
      exact hj
    · have ex : x = xl := by
        rw [lx, ext_seg a q1, List.getElem?_take, if_pos (by omega), List.getElem?_drop, ← arr_list] at hx
        have e : sa + k + (na - k - 1) = sa + k + (na - k) - 1 := by omega
        rw [e, hxl] at hx
        exact (Option.some.inj hx).symm
      subst ex
      obtain ⟨j, g1, g2, hj⟩ := mem_ext hy q2
      refine W.of_lt (hD _ _ hj) dxl (k2l (j - (sa + na)) y (by omega) ?_)
      have : sa + na + (j - (sa + na)) = j := by omega
      rw [this]
      exact hj
  have after : ∀ (m : Array Keyed) (g : Nat), Mrg R (a.extract (sa + k) (sa + na)).toList (a.extract (sa + na) (sa + na + k2)).toList m.toList →
      wpS (model prog w) A E s (do
        modify fun s => setArr s (m.toList.zipIdx.foldl (fun a (p, j) => a.setIfInBounds (sa + k + j) p) (arrOf s))
        let __do_lift ← get
        pure (failedOf __do_lift).isNone) Q (setG st1 g) := by
    intro m g hm
    obtain ⟨mp, ms⟩ := hm
    have lm : m.toList.length = (na - k) + k2 := by
      rw [mp.length_eq, List.length_append, lx, ly]
    refine wpS_bind (wpS_modify (wpS_bind (wpS_get (wpS_pure ?_))))
    have hw : ∀ i, (m.toList.zipIdx.foldl (fun a (p : Keyed × Nat) => a.setIfInBounds (sa + k + p.2) p.1) a)[i]? = if sa + k ≤ i ∧ i < sa + k + m.toList.length then m.toList[i - (sa + k)]? else a[i]? := fun i => write_at m.toList a (sa + k) 0 (by rw [lm]; omega) i
    have ea : arrOf (setG st1 g) = a := a1
    show Q (failedOf (setArr (setG st1 g) (m.toList.zipIdx.foldl (fun a (p : Keyed × Nat) => a.setIfInBounds (sa + k + p.2) p.1) (arrOf (setG st1 g))))).isNone (setArr (setG st1 g) (m.toList.zipIdx.foldl (fun a (p : Keyed × Nat) => a.setIfInBounds (sa + k + p.2) p.1) (arrOf (setG st1 g))))
    rw [ea]
    generalize m.toList.zipIdx.foldl (fun a (p : Keyed × Nat) => a.setIfInBounds (sa + k + p.2) p.1) a = a' at hw ⊢
    have hff : (failedOf (setArr (setG st1 g) a')).isNone = true := by
      show (failedOf st1).isNone = true
      rw [f1']
      rfl
    rw [hff]
    rw [lm] at hw
    have hwl : a'.toList = a.toList.take (sa + k) ++ (m.toList ++ a.toList.drop (sa + na + k2)) := by
      have := wr_list (a := a) (a' := a') (m := m.toList) (p := sa + k) (by rw [lm]; exact hw) (by rw [lm]; omega)
      rw [lm] at this
      have e : sa + k + (na - k + k2) = sa + na + k2 := by omega
      rw [e] at this
      exact this
    have hperm : a'.Perm a := perm_write q1 q2 (by omega) mp hwl
    have hD' : Dom D a' := hD.perm hperm
    have memM : ∀ x, x ∈ m.toList → (∃ j, sa + k ≤ j ∧ j < sa + na ∧ a[j]? = some x) ∨ ∃ j, sa + na ≤ j ∧ j < sa + na + k2 ∧ a[j]? = some x := fun x hx => by
      rcases List.mem_append.mp (mp.mem_iff.mp hx) with z | z
      · exact .inl (mem_ext z q1)
      · exact .inr (mem_ext z q2)
    have hA : Asc R a' sa (na + nb) := by
      intro i j x y g1 g2 g3 hx hy
      rw [hw] at hx hy
      by_cases ci : sa + k ≤ i ∧ i < sa + k + (na - k + k2)
      · rw [if_pos ci] at hx
        by_cases cj : sa + k ≤ j ∧ j < sa + k + (na - k + k2)
        · rw [if_pos cj] at hy
          refine srt_at' W (fun z hz => ?_) ms (by omega) hx hy
          rcases memM z hz with ⟨q, _, _, hq⟩ | ⟨q, _, _, hq⟩ <;> exact hD _ _ hq
        · rw [if_neg cj] at hy
          rcases memM x (List.mem_of_getElem? hx) with ⟨q, w1, w2, hq⟩ | ⟨q, w1, w2, hq⟩
          · exact W.trans (hD _ _ hq) dxl (hD _ _ hy) (lexl q x (by omega) w2 hq) (highZ j y (by omega) (by omega) hy)
          · exact c7 q j x y w1 (by omega) (by omega) hq hy
      · rw [if_neg ci] at hx
        by_cases cj : sa + k ≤ j ∧ j < sa + k + (na - k + k2)
        · rw [if_pos cj] at hy
          have hik : i < sa + k := by omega
          rcases memM y (List.mem_of_getElem? hy) with ⟨q, w1, w2, hq⟩ | ⟨q, w1, w2, hq⟩
          · exact c4 i q x y g1 (by omega) w2 hx hq
          · exact W.trans (hD _ _ hx) dy0 (hD _ _ hq) (lowP i x g1 hik hx) (y0le q y w1 (by omega) hq)
        · rw [if_neg cj] at hy
          rcases Nat.lt_or_ge i (sa + k) with z | z
          · rcases Nat.lt_or_ge j (sa + k) with z2 | z2
            · exact c4 i j x y g1 g2 (by omega) hx hy
            · exact W.trans (hD _ _ hx) dy0 (hD _ _ hy) (lowP i x g1 z hx) (y0le j y (by omega) (by omega) hy)
          · exact c7 i j x y (by omega) g2 (by omega) hx hy
    refine h _ k1' f1' hperm p1' ?_ (fun q hq => ?_)
    · show Ch R a' 0 (pendingOf st1).toList lo
      rw [p1', Ch.append]
      refine ⟨sa, c1.congr fun q g1 g2 => ?_, rfl, by omega, hA, ?_⟩
      · rw [hw, if_neg (by omega)]
      · have e : sa + (na + nb) = sa + na + nb := by omega
        rw [e]
        refine c8.congr fun q g1 g2 => ?_
        rw [hw, if_neg (by omega)]
    · show a'[q]? = a[q]?
      rw [hw, if_neg (by omega)]
  by_cases z3 : na - k ≤ k2
  · rw [if_pos z3]
    exact wpS_bind (wpS_mergeLo C T (by rw [← Array.length_toList, lx]; omega) (by rw [← Array.length_toList, ly]; omega) k1' fun m g hm => after m g hm)
  · rw [if_neg z3]
    exact wpS_bind (wpS_mergeHi C T (by rw [← Array.length_toList, lx]; omega) (by rw [← Array.length_toList, ly]; omega) k1' fun m g hm => after m g hm)
end
end TS
set_option linter.all false
set_option maxRecDepth 100000
set_option maxHeartbeats 4000000
namespace TS
open PySem PyProof.Rows
section
variable {prog : Program} {w : World} {A : Around} {E : Value → Shared → Prop} {s : Shared} {κ : SortKind} {D : Keyed → Prop} {R : Keyed → Keyed → Bool}
theorem split2 {α : Type} : ∀ (j : Nat) (l : List α), j + 1 < l.length → ∃ pre u v post, l = pre ++ u :: v :: post ∧ pre.length = j
  | 0, u :: v :: post, _ => ⟨[], u, v, post, rfl, rfl⟩
  | 0, [_], h => by simp at h
  | 0, [], h => by simp at h
  | _ + 1, [], h => by simp at h
  | j + 1, x :: l, h => by
    obtain ⟨pre, u, v, post, e, hl⟩ := split2 j l (by simpa using h)
    exact ⟨x :: pre, u, v, post, by rw [e]; rfl, by rw [List.length_cons, hl]⟩
theorem Ch.powers {a : Array Keyed} : ∀ {p q : List (Nat × Nat × Nat)} {s e : Nat}, Ch R a s p e → q.map (fun t => (t.1, t.2.1)) = p.map (fun t => (t.1, t.2.1)) → Ch R a s q e
  | [], [], _, _, h, _ => h
  | [], _ :: _, _, _, _, hm => by simp at hm
  | _ :: _, [], _, _, _, hm => by simp at hm
  | (t, n, w) :: p, (t', n', w') :: q, s, e, ⟨h1, h2, h3, h4⟩, hm => by
    simp only [List.map_cons, List.cons.injEq, Prod.mk.injEq] at hm
    obtain ⟨⟨rfl, rfl⟩, hm⟩ := hm
    exact ⟨h1, h2, h3, Ch.powers h4 hm⟩
structure Kd (D : Keyed → Prop) (κ : SortKind) (R : Keyed → Keyed → Bool) (a₀ : Array Keyed) (lo : Nat) (st : SortSt) : Prop where
  kind : kindOf st = κ
  failed : failedOf st = none
  perm : (arrOf st).Perm a₀
  ch : Ch R (arrOf st) 0 (pendingOf st).toList lo
  le_ : lo ≤ a₀.size
structure Jn (D : Keyed → Prop) (κ : SortKind) (R : Keyed → Keyed → Bool) (a₀ : Array Keyed) (lo n : Nat) (st : SortSt) : Prop where
  kind : kindOf st = κ
  failed : failedOf st = none
  perm : (arrOf st).Perm a₀
  ch : Ch R (arrOf st) 0 (pendingOf st).toList lo
  asc : Asc R (arrOf st) lo n
theorem Jn.push {a₀ : Array Keyed} {lo n : Nat} {st : SortSt} (J : Jn D κ R a₀ lo n st) (h1 : 1 ≤ n) (h2 : lo + n ≤ a₀.size) : Kd D κ R a₀ (lo + n) (setPending st ((pendingOf st).push (lo, n, 0))) := by
  refine ⟨J.kind, J.failed, J.perm, ?_, h2⟩
  show Ch R (arrOf st) 0 ((pendingOf st).push (lo, n, 0)).toList (lo + n)
  rw [Array.toList_push, Ch.append]
  exact ⟨lo, J.ch, rfl, h1, J.asc, rfl⟩
theorem Jn.power {a₀ : Array Keyed} {lo n : Nat} {st : SortSt} (J : Jn D κ R a₀ lo n st) (k pw : Nat) : Jn D κ R a₀ lo n (setPending st ((pendingOf st).modify k fun x => (x.1, x.2.1, pw))) := by
  refine ⟨J.kind, J.failed, J.perm, ?_, J.asc⟩
  refine J.ch.powers ?_
  show ((pendingOf st).modify k fun x => (x.1, x.2.1, pw)).toList.map (fun t => (t.1, t.2.1)) = _
  refine List.ext_getElem? fun i => ?_
  rw [List.getElem?_map, List.getElem?_map]
  have e : ∀ (q : Array (Nat × Nat × Nat)) (j : Nat), q.toList[j]? = q[j]? := fun q j => by simp
  rw [e, e, Array.getElem?_modify]
  split
  · cases (pendingOf st)[i]? <;> rfl
  · rfl
theorem wpS_sortAll (C : Cmp prog w A s κ D R) {a₀ : Array Keyed} {st : SortSt} (hD : Dom D a₀) (h0 : 1 ≤ a₀.size) (hk : kindOf st = κ) (hf : failedOf st = none) (hp : pendingOf st = #[]) (ha : arrOf st = a₀) {Q : Unit → SortSt → Prop}
    (h : ∀ st', failedOf st' = none → (arrOf st').Perm a₀ → Asc R (arrOf st') 0 a₀.size → Q () st') : wpS (model prog w) A E s sortRuns' Q st := by
  have W := C.wk
  rw [sortRuns'_eq]
  refine wpS_bind (wpS_get ?_)
  dsimp only
  rw [ha]
  have K0 : Kd D κ R a₀ 0 st := ⟨hk, hf, by rw [ha], by rw [hp]; rfl, Nat.zero_le _⟩
  refine wpS_bind (wpS_mono (wpS_forRange (I := fun x c st' => ∃ lo, c = (none, lo) ∧ Kd D κ R a₀ lo st' ∧ (x ≤ lo ∨ lo = a₀.size)) (Q := fun c st' => c = (none, a₀.size) ∧ Kd D κ R a₀ a₀.size st') ?step ?fin ⟨0, rfl, K0, by omega⟩) ?post)
  case fin =>
    rintro c st' ⟨lo, rfl, K, hx⟩
    have := K.le_
    have e : lo = a₀.size := by omega
    subst e
    exact ⟨rfl, K⟩
  case post =>
    rintro c st' ⟨rfl, K⟩
    dsimp only
    refine wpS_bind (wpS_mono (wpS_forRange (I := fun x c st2 => c = (none, ()) ∧ Kd D κ R a₀ a₀.size st2 ∧ (pendingOf st2).size + x ≤ a₀.size ∨ (c = (none, ()) ∧ Kd D κ R a₀ a₀.size st2 ∧ (pendingOf st2).size ≤ 1)) (Q := fun c st2 => c = (none, ()) ∧ Kd D κ R a₀ a₀.size st2 ∧ (pendingOf st2).size ≤ 1) ?stepF ?finF (.inl ⟨rfl, K, ?ini⟩)) ?postF)
    case ini =>
      have := K.ch.le_
      rw [Array.length_toList] at this
      omega
    case finF =>
      rintro c st2 (⟨rfl, K2, hs⟩ | ⟨rfl, K2, hs⟩)
      · exact ⟨rfl, K2, by omega⟩
      · exact ⟨rfl, K2, hs⟩
    case postF =>
      rintro c st2 ⟨rfl, K2, hs⟩
      refine wpS_pure (h st2 K2.failed K2.perm ?_)
      have hc := K2.ch
      have hl : (pendingOf st2).toList.length ≤ 1 := by rw [Array.length_toList]; exact hs
      cases hpl : (pendingOf st2).toList with
      | nil =>
        rw [hpl] at hc
        have : 0 = a₀.size := hc
        omega
      | cons u r =>
        rw [hpl] at hc hl
        obtain ⟨u1, u2, u3⟩ := u
        cases r with
        | nil =>
          obtain ⟨_, _, c3, c4⟩ := hc
          have c4' : 0 + u2 = a₀.size := c4
          rw [Nat.zero_add] at c4'
          rw [← c4']
          exact c3
        | cons v r => simp at hl
    case stepF =>
      rintro x c st2 _ hx hI
      refine wpS_bind (wpS_get ?_)
      by_cases hsz : (pendingOf st2).size ≤ 1
      · rw [if_pos hsz]
        rcases hI with ⟨rfl, K2, _⟩ | ⟨rfl, K2, _⟩
        · exact wpS_pure ⟨rfl, K2, hsz⟩
        · exact wpS_pure ⟨rfl, K2, hsz⟩
      · rw [if_neg hsz]
        rcases hI with ⟨rfl, K2, hs⟩ | ⟨rfl, K2, hs⟩
        · have main : ∀ i, i + 1 < (pendingOf st2).size → wpS (model prog w) A E s (mergeAt' i) (fun b st3 => b = true ∧ Kd D κ R a₀ a₀.size st3 ∧ (pendingOf st3).size + 1 = (pendingOf st2).size) st2 := by
            intro i hi
            refine gate fun gG hgG => ?_
            obtain ⟨pre, u, v, post, ep, el⟩ := split2 i (pendingOf st2).toList (by rw [Array.length_toList]; exact hi)
            obtain ⟨sa, na, pwa⟩ := u
            obtain ⟨sb, nb, pwb⟩ := v
            refine hgG ?_
            clear hgG
            refine wpS_mergeAt C K2.kind K2.failed (hD.perm K2.perm) ep el K2.ch (by rw [K2.perm.size_eq]; exact Nat.le_refl _) fun st4 q1 q2 q3 q4 q5 q6 => ⟨rfl, ⟨q1, q2, q3.trans K2.perm, q5, Nat.le_refl _⟩, ?_⟩
            rw [← Array.length_toList, ← Array.length_toList, q4, ep, List.length_append, List.length_append, List.length_cons, List.length_cons, List.length_cons]
            omega
          refine wpS_bind (wpS_mono (main _ ?_) fun b st3 hq => ?_)
          · have gen : ∀ (b : Bool) (n : Nat), 2 ≤ n → (if b = true then n - 2 - 1 else n - 2) + 1 < n := by
              intro b n h
              cases b with
              | true => rw [if_pos rfl]; omega
              | false => rw [if_neg Bool.false_ne_true]; omega
            exact gen _ _ (by omega)
          · obtain ⟨rfl, K3, hs3⟩ := hq
            simp only [Bool.not_true, Bool.false_eq_true, if_false]
            exact wpS_pure (.inl ⟨rfl, K3, by omega⟩)
        · omega
  case step =>
    rintro x c st' _ hx ⟨lo, rfl, K, hxl⟩
    have hle := K.le_
    dsimp only
    by_cases e1 : lo ≥ a₀.size
    · rw [if_pos e1]
      have e : lo = a₀.size := by omega
      subst e
      exact wpS_pure ⟨rfl, K⟩
    rw [if_neg e1]
    have B0 : Bs D κ (pendingOf st') (arrOf st') lo st' := ⟨K.kind, rfl, K.failed, Array.Perm.refl _, fun _ _ => rfl, hD.perm K.perm⟩
    have z0 : (arrOf st').size = a₀.size := K.perm.size_eq
    refine wpS_bind (wpS_countRun C B0 (by omega) (by omega) fun n st2 B2 n1 n2 A2 => ?_)
    dsimp only
    generalize hmr : minRun' a₀.size a₀.size 0 = mr
    by_cases hlt : n < mr
    · rw [if_pos hlt]
      refine wpS_bind (wpS_rule ?_)
      refine wpS_bind (wpS_binarySort C B2 n1 (n := min (a₀.size - lo) mr) (by omega) (by omega) A2 fun st3 B3 A3 => ?_)
      simp only [Bool.not_true, Bool.false_eq_true, if_false]
      generalize hN : min (a₀.size - lo) mr = N at A3 ⊢
      have hN1 : 1 ≤ N := by omega
      have hN2 : lo + N ≤ a₀.size := by omega
      have J2 : Jn D κ R a₀ lo N st3 := ⟨(B3).kind, (B3).failed, (B3).perm.trans K.perm, by rw [(B3).pend]; exact K.ch.congr fun i _ g2 => (B3).keep i g2, A3⟩
      refine wpS_bind (wpS_get ?_)
      cases hb : (pendingOf st3).back? with
      | none =>
        dsimp only
        exact wpS_bind (wpS_modify (wpS_pure ⟨_, rfl, J2.push (by assumption) (by assumption), by omega⟩))
      | some tt =>
        obtain ⟨s1, n1, pw0⟩ := tt
        dsimp only
        refine wpS_bind (wpS_mono (wpS_forRange (I := fun _ c st5 => c = (none, ()) ∧ Jn D κ R a₀ lo N st5) (Q := fun c st5 => c = (none, ()) ∧ Jn D κ R a₀ lo N st5) ?stepJ ?finJ ⟨rfl, J2⟩) ?postJ)
        case finJ =>
          exact fun c st5 hh => hh
        case stepJ =>
          rintro y c st5 _ _ ⟨rfl, J⟩
          refine wpS_bind (wpS_get ?_)
          by_cases hsz : (pendingOf st5).size > 1
          · rw [if_pos hsz]
            refine gate fun gG hgG => ?_
            obtain ⟨pre, u, v, post, ep, el⟩ := split2 ((pendingOf st5).size - 2) (pendingOf st5).toList (by rw [Array.length_toList]; omega)
            obtain ⟨sa, na, pwa⟩ := u
            obtain ⟨sb, nb, pwb⟩ := v
            obtain ⟨e3, _⟩ := pend_at ep el
            refine hgG ?_
            clear hgG
            rw [e3]
            dsimp only
            split
            · exact wpS_pure ⟨rfl, J⟩
            · refine wpS_bind (wpS_mergeAt C J.kind J.failed (hD.perm J.perm) ep el J.ch (by rw [J.perm.size_eq]; omega) fun st4 q1 q2 q3 q4 q5 q6 => ?_)
              simp only [Bool.not_true, Bool.false_eq_true, if_false]
              exact wpS_pure ⟨rfl, q1, q2, q3.trans J.perm, q5, J.asc.congr fun i g1 g2 => q6 i g1⟩
          · rw [if_neg hsz]
            exact wpS_pure ⟨rfl, J⟩
        case postJ =>
          rintro c st5 ⟨rfl, J⟩
          dsimp only
          refine wpS_bind (wpS_modify (wpS_bind (wpS_modify (wpS_pure ⟨_, rfl, Jn.push (J.power _ _) (by assumption) (by assumption), by omega⟩))))
    · rw [if_neg hlt]
      have J2 : Jn D κ R a₀ lo n st2 := ⟨(B2).kind, (B2).failed, (B2).perm.trans K.perm, by rw [(B2).pend]; exact K.ch.congr fun i _ g2 => (B2).keep i g2, A2⟩
      refine wpS_bind (wpS_get ?_)
      cases hb : (pendingOf st2).back? with
      | none =>
        dsimp only
        exact wpS_bind (wpS_modify (wpS_pure ⟨_, rfl, J2.push (by omega) (by omega), by omega⟩))
      | some tt =>
        obtain ⟨s1, n1, pw0⟩ := tt
        dsimp only
        refine wpS_bind (wpS_mono (wpS_forRange (I := fun _ c st5 => c = (none, ()) ∧ Jn D κ R a₀ lo n st5) (Q := fun c st5 => c = (none, ()) ∧ Jn D κ R a₀ lo n st5) ?stepJ ?finJ ⟨rfl, J2⟩) ?postJ)
        case finJ =>
          exact fun c st5 hh => hh
        case stepJ =>
          rintro y c st5 _ _ ⟨rfl, J⟩
          refine wpS_bind (wpS_get ?_)
          by_cases hsz : (pendingOf st5).size > 1
          · rw [if_pos hsz]
            refine gate fun gG hgG => ?_
            obtain ⟨pre, u, v, post, ep, el⟩ := split2 ((pendingOf st5).size - 2) (pendingOf st5).toList (by rw [Array.length_toList]; omega)
            obtain ⟨sa, na, pwa⟩ := u
            obtain ⟨sb, nb, pwb⟩ := v
            obtain ⟨e3, _⟩ := pend_at ep el
            refine hgG ?_
            clear hgG
            rw [e3]
            dsimp only
            split
            · exact wpS_pure ⟨rfl, J⟩
            · refine wpS_bind (wpS_mergeAt C J.kind J.failed (hD.perm J.perm) ep el J.ch (by rw [J.perm.size_eq]; assumption) fun st4 q1 q2 q3 q4 q5 q6 => ?_)
              simp only [Bool.not_true, Bool.false_eq_true, if_false]
              exact wpS_pure ⟨rfl, q1, q2, q3.trans J.perm, q5, J.asc.congr fun i g1 g2 => q6 i g1⟩
          · rw [if_neg hsz]
            exact wpS_pure ⟨rfl, J⟩
        case postJ =>
          rintro c st5 ⟨rfl, J⟩
          dsimp only
          refine wpS_bind (wpS_modify (wpS_bind (wpS_modify (wpS_pure ⟨_, rfl, Jn.push (J.power _ _) (by assumption) (by omega), by omega⟩))))
end
end TS
set_option Elab.async false
set_option linter.all false
set_option maxRecDepth 100000
set_option maxHeartbeats 4000000
namespace TS
open PySem PyProof.Rows
section
variable {prog : Program} {w : World} {A : Around} {E : Value → Shared → Prop} {s : Shared} {κ : SortKind} {D : Keyed → Prop} {R : Keyed → Keyed → Bool}
theorem zip_self {α : Type} : ∀ l : List α, l.zip l = l.map fun v => (v, v)
  | [] => rfl
  | x :: l => by
    rw [List.zip_cons_cons, List.map_cons, zip_self l]
noncomputable def leV (R : Keyed → Keyed → Bool) (x y : Value) : Prop := R (y, y) (x, x) = false
theorem pairs_snd {vs : List Value} {xs : Array Keyed} (hp : xs.Perm (pairsOf vs)) : (xs.map (·.2)).toList.Perm vs ∧ ∀ p ∈ xs.toList, p.1 = p.2 := by
  have e : (pairsOf vs).toList = vs.map fun v => (v, v) := by
    unfold pairsOf
    rw [Array.toList_zip]
    exact zip_self vs
  have hl := Array.perm_iff_toList_perm.mp hp
  rw [e] at hl
  constructor
  · rw [Array.toList_map]
    have := hl.map Prod.snd
    rw [List.map_map] at this
    refine this.trans (List.Perm.of_eq ?_)
    exact List.map_id' vs
  · intro p hpp
    obtain ⟨v, _, rfl⟩ := List.mem_map.mp (hl.mem_iff.mp hpp)
    rfl
theorem asc_out {vs : List Value} {xs : Array Keyed} (hp : xs.Perm (pairsOf vs)) (hs : Asc R xs 0 (pairsOf vs).size) : (xs.map (·.2)).toList.Pairwise (leV R) := by
  have h2 := (pairs_snd hp).2
  have hz := hp.size_eq
  refine List.pairwise_iff_getElem.mpr fun i j hi hj hij => ?_
  rw [Array.length_toList, Array.size_map] at hi hj
  have hx : xs[i]? = some xs[i] := by simp [hi]
  have hy : xs[j]? = some xs[j] := by simp [hj]
  have := hs i j _ _ (Nat.zero_le _) (Nat.le_of_lt hij) (by omega) hx hy
  have e1 := h2 xs[i] (by simp)
  have e2 := h2 xs[j] (by simp)
  have m1 : (xs.map (·.2)).toList[i] = xs[i].2 := by simp
  have m2 : (xs.map (·.2)).toList[j] = xs[j].2 := by simp
  rw [m1, m2]
  have p1 : xs[i] = (xs[i].2, xs[i].2) := Prod.ext e1 rfl
  have p2 : xs[j] = (xs[j].2, xs[j].2) := Prod.ext e2 rfl
  unfold leV
  rw [← p1, ← p2]
  exact this
theorem dom_pairs {vs : List Value} (h : ∀ v ∈ vs, D (v, v)) : Dom D (pairsOf vs) := fun i x hx => by
  have e : (pairsOf vs).toList = vs.map fun v => (v, v) := by
    unfold pairsOf
    rw [Array.toList_zip]
    exact zip_self vs
  have : x ∈ (pairsOf vs).toList := List.mem_of_getElem? (by rw [← arr_list]; exact hx)
  rw [e] at this
  obtain ⟨v, hv, rfl⟩ := List.mem_map.mp this
  exact h v hv
theorem list_sort_any {a : Addr} {vs : List Value} {n : Nat} {P : Fin → Shared → Prop} (ho : s.heap.get? a = some (seqObj "list" vs.toArray n)) (hz : vs.length ≤ sizeLine) (hD : ∀ v ∈ vs, D (v, v))
    (C : ∀ h', (∀ b o, b ≠ a → s.heap.get? b = some o → h'.get? b = some o) → Cmp prog w A { s with heap := h' } κ D R)
    (hkk : ∀ h', (∀ b o, b ≠ a → s.heap.get? b = some o → h'.get? b = some o) → 2 ≤ vs.length → ∀ (Q : SortKind → Shared → Prop), Q κ { s with heap := h' } → wpAny (model prog w) A (keyKind' vs.toArray) Q E { s with heap := h' })
    (h : ∀ out : Array Value, out.toList.Perm vs → out.toList.Pairwise (leV R) → P (.done (.ret .none)) { s with heap := sortedHeap s.heap a vs out }) :
    wpAny (model prog w) A (Builtin.«list.sort» ⟨[.ref a], []⟩) P E s := by
  rw [list_sort_plain]
  have ha : a < s.heap.objs.size := Heap.lt_size ho
  refine wpAny_bind (listItems_at ho rfl ?_)
  refine wpAny_bind (listUpdate_at ho rfl ?_ (by rw [List.size_toArray]; exact hz) (Nat.zero_le _))
  obtain ⟨e1, ho1⟩ : ∃ e1, (s.heap.update a (Obj.mapSeq fun _ => #[])).get? a = some (seqObj "list" #[] e1) := ⟨_, get?_update_seq ho (fun _ => #[])⟩
  refine wpAny_bind (seqEpoch_at ho1 rfl ?_)
  refine wpAny_bind (wpAny_newTuple ?_ (by show vs.length ≤ _; exact hz))
  refine wpAny_bind (wpAny_newList ?_ (Nat.zero_le _))
  refine wpAny_holding ?_
  have ho6 : (((s.heap.update a (Obj.mapSeq fun _ => #[])).push (seqObj "tuple" vs.toArray 0)).push (seqObj "list" #[] 0)).get? a = some (seqObj "list" #[] e1) := by
    rw [Heap.get?_push_ne _ _ _ (by rw [size_push', Heap.size_update]; exact Nat.ne_of_lt (Nat.lt_succ_of_lt ha)), Heap.get?_push_ne _ _ _ (by rw [Heap.size_update]; exact Nat.ne_of_lt ha)]
    exact ho1
  have kept : ∀ b o, b ≠ a → s.heap.get? b = some o → (((s.heap.update a (Obj.mapSeq fun _ => #[])).push (seqObj "tuple" vs.toArray 0)).push (seqObj "list" #[] 0)).get? b = some o := fun b o hb e =>
    Heap.get?_push_of_some _ (Heap.get?_push_of_some _ (by rw [Heap.get?_update_ne _ _ _ _ hb]; exact e))
  show wpAny (model prog w) A _ P E { s with heap := ((s.heap.update a (Obj.mapSeq fun _ => #[])).push (seqObj "tuple" vs.toArray 0)).push (seqObj "list" #[] 0) }
  dsimp only
  have hsz : vs.toArray.size = vs.length := by simp
  have fin : ∀ st' : SortSt, (arrOf st').Perm (pairsOf vs) → Asc R (arrOf st') 0 (pairsOf vs).size → P (.done (.ret .none)) { s with heap := sortedHeap s.heap a vs ((arrOf st').map (·.2)) } := fun st' hp hs => h _ (pairs_snd hp).1 (asc_out hp hs)
  by_cases h2 : vs.toArray.size < 2
  · rw [if_pos h2, if_pos h2]
    refine wpAny_bind (wpAny_pure ?_)
    rw [StateT.run_pure]
    refine wpAny_bind (wpAny_pure ?_)
    dsimp only
    refine wpAny_bind (seqEpoch_at ho6 rfl ?_)
    refine wpAny_bind (listUpdate_at ho6 rfl ?_ (Nat.zero_le _) (by rw [Array.size_map]; show (pairsOf vs).size ≤ _; rw [pairsOf_size]; omega))
    simp only [bne_self_eq_false, Bool.false_eq_true, if_false]
    refine wpAny_pure (fin (SortSt.mk' general' (vs.toArray.zip vs.toArray) #[] 7 none) (Array.Perm.refl _) ?_)
    intro i j x y _ hij hj hx hy
    have : i = j := by rw [pairsOf_size] at hj; omega
    subst this
    have hxy : x = y := by
      rw [hx] at hy
      exact Option.some.inj hy
    subst hxy
    have W := (C _ kept).wk
    exact W.refl (dom_pairs hD i x hx)
  · rw [if_neg h2, if_neg h2]
    refine wpAny_bind (hkk _ kept (by omega) _ ?_)
    refine wpAny_bind (wpAny_mono (wpS_sortAll (C _ kept) (a₀ := pairsOf vs) (st := SortSt.mk' κ (vs.toArray.zip vs.toArray) #[] 7 none)
      (Q := fun _ st' => (arrOf st').Perm (pairsOf vs) ∧ failedOf st' = none ∧ Asc R (arrOf st') 0 (pairsOf vs).size)
      (dom_pairs hD) (by rw [pairsOf_size]; omega) rfl rfl rfl rfl fun st' a1 a2 a3 => ⟨a2, a1, a3⟩) ?_ fun _ _ e => e)
    rintro ⟨⟨⟩, st'⟩ s' ⟨rfl, hp, hf, hs⟩
    dsimp only
    refine wpAny_bind (seqEpoch_at ho6 rfl ?_)
    refine wpAny_bind (listUpdate_at ho6 rfl ?_ (Nat.zero_le _) (by refine Nat.le_trans (Nat.le_of_eq ((Array.size_map ..).trans (hp.size_eq.trans (pairsOf_size _)))) ?_; omega))
    rw [hf]
    simp only [bne_self_eq_false, Bool.false_eq_true, if_false]
    exact wpAny_pure (fin st' hp hs)
theorem sorted_any {l : Addr} {vs : List Value} {Q : Value → Shared → Prop} (hl : s.heap.IsList l vs.toArray) (hz : vs.length ≤ sizeLine) (hD : ∀ v ∈ vs, D (v, v))
    (C : ∀ (A : Around) h', (∀ b o, s.heap.get? b = some o → h'.get? b = some o) → Cmp prog w A { s with heap := h' } κ D R)
    (hkk : ∀ (A : Around) (E : Value → Shared → Prop) h', (∀ b o, s.heap.get? b = some o → h'.get? b = some o) → 2 ≤ vs.length → ∀ (Q : SortKind → Shared → Prop), Q κ { s with heap := h' } → wpAny (model prog w) A (keyKind' vs.toArray) Q E { s with heap := h' })
    (h : ∀ out : Array Value, out.toList.Perm vs → out.toList.Pairwise (leV R) → Q (.ref (s.heap.objs.size + 1)) { s with heap := sortedAll s.heap vs out }) :
    wpAny (model prog w) A (call (.builtin "sorted") [.ref l]) Q E s := by
  refine Calls.call_function_entry kind_sorted plain_sorted entry_sorted (args_sorted1 _) ?_
  unfold Builtin.«sorted»
  refine wpAny_bind (m := checkCount "sorted" 1 1 _) (wpAny_pure ?_)
  refine wpAny_bind (collect_list hl ?_ hz)
  refine wpAny_bind (wpAny_newList ?_ (by show vs.length ≤ _; exact hz))
  have hsz : ((s.heap.push (seqObj "list" #[] 0)).update s.heap.objs.size (Obj.mapSeq (· ++ vs.toArray))).objs.size = s.heap.objs.size + 1 := by
    rw [Heap.size_update, size_push']
  have hoL : (((s.heap.push (seqObj "list" #[] 0)).update s.heap.objs.size (Obj.mapSeq (· ++ vs.toArray))).push (seqObj "list" vs.toArray 0)).get? (s.heap.objs.size + 1) = some (seqObj "list" vs.toArray 0) := by
    rw [← hsz]; exact Heap.get?_push_size _ rfl
  have kept : ∀ b o, s.heap.get? b = some o → (((s.heap.push (seqObj "list" #[] 0)).update s.heap.objs.size (Obj.mapSeq (· ++ vs.toArray))).push (seqObj "list" vs.toArray 0)).get? b = some o := fun b o e => by
    have hlt : b < s.heap.objs.size := Heap.lt_size e
    refine Heap.get?_push_of_some _ ?_
    rw [Heap.get?_update_ne _ _ _ _ (Nat.ne_of_lt hlt), Heap.get?_push_ne _ _ _ (Nat.ne_of_lt hlt)]
    exact e
  have ne1 : ∀ b o, s.heap.get? b = some o → b ≠ s.heap.objs.size + 1 := fun b o e => Nat.ne_of_lt (Nat.lt_succ_of_lt (Heap.lt_size e))
  show wpAny _ _ _ _ _ { s with heap := ((s.heap.push (seqObj "list" #[] 0)).update s.heap.objs.size (Obj.mapSeq (· ++ vs.toArray))).push (seqObj "list" vs.toArray 0) }
  rw [hsz]
  refine wpAny_bind (wpAny_holding (wpAny_call_entry slot_list_sort ⟨_, hoL, rfl⟩ entry_list_sort (list_sort_any (κ := κ) (D := D) (R := R) hoL hz hD (fun h' k => C _ h' fun b o e => k b o (ne1 b o e) (kept b o e)) (fun h' k h2 Q' hq => hkk _ _ h' (fun b o e => k b o (ne1 b o e) (kept b o e)) h2 Q' hq) fun out a1 a2 => ⟨_, rfl, ?_⟩) (args_list_sort _)))
  exact wpAny_pure ⟨_, rfl, h out a1 a2⟩
end
end TS
set_option Elab.async false
set_option linter.all false
set_option maxRecDepth 100000
set_option maxHeartbeats 4000000
namespace TS
open PySem PyProof.Rows PySem.W
noncomputable def ltP (p q : Int × Int) : Bool := decide (p.1 < q.1 ∨ (p.1 = q.1 ∧ p.2 < q.2))
noncomputable def IsPt (h : Heap) (v : Value) (p : Int × Int) : Prop := ∃ (a : Addr) (o : Obj) (t u : Tok) (n : Nat), v = .ref a ∧ h.get? a = some o ∧ o.cls = .type "tuple" ∧ o.data = .seq #[.int p.1 t, .int p.2 u] n
theorem IsPt.kept {h h' : Heap} {v : Value} {p : Int × Int} (x : IsPt h v p) (k : ∀ b o, h.get? b = some o → h'.get? b = some o) : IsPt h' v p := by
  refine gate fun gG hgG => ?_
  obtain ⟨a, o, t, u, n, e, ho, r⟩ := x
  refine hgG ?_
  clear hgG
  exact ⟨a, o, t, u, n, e, k a o ho, r⟩
section
variable {prog : Program} {w : World} {A : Around} {E : Value → Shared → Prop} {s : Shared}
theorem keyLt_pts {x y : Value} {p q : Int × Int} {Q : Bool → Shared → Prop} (hx : IsPt s.heap x p) (hy : IsPt s.heap y q) (h : Q (ltP p q) s) : wpAny (model prog w) A (keyLt' (tuples' true) x y) Q E s := by
  refine gate fun gG hgG => ?_
  obtain ⟨a, o, t, u, n, rfl, ho, _, hd⟩ := hx
  obtain ⟨b, o', t', u', n', rfl, ho', _, hd'⟩ := hy
  refine hgG ?_
  clear hgG
  refine kat_lt ho hd ho' hd' ?_
  show KatLex prog w A true _ Q [(.int p.1 t, .int q.1 t'), (.int p.2 u, .int q.2 u')] 0 s
  refine kat_cons (wpAny_eqBool_int ?_)
  unfold ltP at h
  by_cases e1 : p.1 = q.1
  · rw [show (p.1 == q.1) = true from by rw [e1]; exact beq_self_eq_true _]
    refine kat_yes (kat_cons (wpAny_eqBool_int ?_))
    by_cases e2 : p.2 = q.2
    · rw [show (p.2 == q.2) = true from by rw [e2]; exact beq_self_eq_true _]
      refine kat_yes (kat_nil ?_)
      rw [decide_eq_false (by omega)] at h
      exact h
    · rw [show (p.2 == q.2) = false from beq_eq_false_iff_ne.mpr e2]
      refine kat_no (kat_one _ _ (lt_int ?_))
      rw [show decide (p.1 < q.1 ∨ p.1 = q.1 ∧ p.2 < q.2) = decide (p.2 < q.2) from by
        congr 1
        exact propext ⟨fun z => by omega, fun z => .inr ⟨e1, z⟩⟩] at h
      exact h
  · rw [show (p.1 == q.1) = false from beq_eq_false_iff_ne.mpr e1]
    refine kat_no (oneLt_int ?_)
    rw [show decide (p.1 < q.1 ∨ p.1 = q.1 ∧ p.2 < q.2) = decide (p.1 < q.1) from by
      congr 1
      exact propext ⟨fun z => by omega, fun z => .inl z⟩] at h
    exact h
theorem cmp_pts {vs : List Value} {key : Value → Int × Int} (h : ∀ v ∈ vs, IsPt s.heap v (key v)) : Cmp prog w A s (tuples' true) (fun x => x.1 ∈ vs) (fun x y => ltP (key x.1) (key y.1)) where
  ask := fun x y hx hy E st Q hk hq => by
    rw [lt'_eq]
    refine wpS_bind (wpS_get ?_)
    rw [hk]
    refine wpS_bind (wpS_lift (wpAny_attempt (keyLt_pts (h _ hx) (h _ hy) ⟨rfl, ?_⟩)))
    exact wpS_pure hq
  asym := fun x y _ _ e => by
    unfold ltP at e ⊢
    have := of_decide_eq_true e
    exact decide_eq_false (by omega (config := {}))
  neg := fun x y z _ _ _ e1 e2 => by
    unfold ltP at e1 e2 ⊢
    have h1 := of_decide_eq_false e1
    have h2 := of_decide_eq_false e2
    exact decide_eq_false (by omega (config := {}))
theorem tups_of {h : Heap} {key : Value → Int × Int} : ∀ {vs : List Value}, (∀ v ∈ vs, IsPt h v (key v)) → ∃ fs, KatTups h vs fs ∧ fs.length = vs.length ∧ ∀ v ∈ fs, ∃ i t, v = Value.int i t
  | [], _ => ⟨[], trivial, rfl, fun _ hv => nomatch hv⟩
  | v :: vs, hh => by
    refine gate fun gG hgG => ?_
    obtain ⟨fs, h1, h2, h3⟩ := tups_of (vs := vs) fun x hx => hh x (List.mem_cons_of_mem _ hx)
    obtain ⟨a, o, t, u, n, rfl, ho, hc, hd⟩ := hh v List.mem_cons_self
    refine hgG ?_
    clear hgG
    refine ⟨.int (key (.ref a)).1 t :: fs, KatTups.cons ho hc hd rfl h1, by rw [List.length_cons, List.length_cons, h2], fun x hx => ?_⟩
    rcases List.mem_cons.mp hx with rfl | hx
    · exact ⟨_, _, rfl⟩
    · exact h3 x hx
theorem kind_pts {vs : List Value} {key : Value → Int × Int} {Q : SortKind → Shared → Prop} (h : ∀ v ∈ vs, IsPt s.heap v (key v)) (h2 : 2 ≤ vs.length) (hq : Q (tuples' true) s) : wpAny (model prog w) A (keyKind' vs.toArray) Q E s := by
  obtain ⟨fs, h1, hl, h3⟩ := tups_of h
  refine kat_kind (T := .type "int") h1 (by omega) (fun v hv => ?_) rfl ?_
  · obtain ⟨i, t, rfl⟩ := h3 v hv
    exact Looks.of_pure rfl
  · have e : ((Value.type "int") != Value.type "tuple") = true := by decide
    rw [e]
    exact hq
end
end TS
set_option Elab.async false
set_option linter.all false
set_option maxRecDepth 100000
set_option maxHeartbeats 4000000
namespace TS
open PySem PyProof PyProof.Rows PySem.W
section
variable {prog : Program} {w : World} {A : Around} {E : Value → Shared → Prop} {s : Shared}
end
end TS
set_option Elab.async false
set_option linter.all false
set_option maxRecDepth 100000
set_option maxHeartbeats 1000000
namespace L2
open PySem PySem.Spec PyProof PyProof.Rows TS
section
variable {X : Cx} {tg : Expr}
end
end L2
set_option Elab.async false
set_option linter.all false
set_option maxRecDepth 100000
set_option maxHeartbeats 1000000
namespace L2
open PySem PySem.Spec PyProof.Rows TS
theorem IsPt.uniq {h : Heap} {v : Value} {p q : Int × Int} (x : IsPt h v p) (y : IsPt h v q) : p = q := by
  refine gate' fun gG hgG => ?_
  obtain ⟨a, o, t, u, n, rfl, ho, _, hd⟩ := x
  obtain ⟨b, o', t', u', n', e, ho', _, hd'⟩ := y
  refine hgG.go ?_
  clear hgG
  cases e
  rw [ho] at ho'
  cases ho'
  rw [hd] at hd'
  have h1 := congrArg (fun d => match d with | Data.seq xs _ => xs.toList | _ => []) hd'
  dsimp only at h1
  simp only [List.cons.injEq, and_true] at h1
  obtain ⟨e1, e2⟩ := h1
  injection e1 with e1 _
  injection e2 with e2 _
  exact Prod.ext e1 e2
open Classical in
noncomputable def keyP (h : Heap) (v : Value) : Int × Int := if x : ∃ q, IsPt h v q then Classical.choose x else (0, 0)
theorem keyP_of {h : Heap} {v : Value} {q : Int × Int} (x : IsPt h v q) : keyP h v = q := by
  unfold keyP
  rw [dif_pos ⟨q, x⟩]
  exact IsPt.uniq (Classical.choose_spec (⟨q, x⟩ : ∃ q, IsPt h v q)) x
noncomputable def addrV : Value → Addr
  | .ref a => a
  | _ => 0
theorem vals_refs : ∀ {as : List Addr} {us : List Value}, Vals (as.map V.ref) us → us = as.map Value.ref
  | [], _, r => by
    rw [List.map_nil] at r
    cases r
    rfl
  | a :: as, _, r => by
    rw [List.map_cons] at r
    cases r with
    | cons h t =>
      cases (show _ = Value.ref a from h)
      rw [vals_refs t]
      rfl
theorem refs_vals : ∀ (as : List Addr), Vals (as.map V.ref) (as.map Value.ref)
  | [] => .nil
  | a :: as => .cons rfl (refs_vals as)
theorem paired_map {α β : Type} {S : α → β → Prop} {f : α → β} : ∀ {as : List α}, (∀ a ∈ as, S a (f a)) → Paired S as (as.map f)
  | [], _ => .nil
  | a :: as, h => .cons (h a List.mem_cons_self) (paired_map fun b hb => h b (List.mem_cons_of_mem _ hb))
theorem paired_eq {α β : Type} {S : α → β → Prop} {f : α → β} {as : List α} {bs : List β} (h : Paired S as bs) (e : ∀ a ∈ as, ∀ b, S a b → b = f a) : bs = as.map f := by
  induction h with
  | nil => rfl
  | cons h t ih => rw [List.map_cons, ← e _ List.mem_cons_self _ h, ← ih fun a ha => e a (List.mem_cons_of_mem _ ha)]
theorem paired_mem {α β : Type} {S : α → β → Prop} {as : List α} {bs : List β} {a : α} (h : Paired S as bs) (m : a ∈ as) : ∃ b ∈ bs, S a b := by
  induction h with
  | nil => cases m
  | cons h t ih =>
    rcases List.mem_cons.mp m with rfl | m
    · exact ⟨_, List.mem_cons_self, h⟩
    · obtain ⟨b, hb, hs⟩ := ih m
      exact ⟨b, List.mem_cons_of_mem _ hb, hs⟩
section
variable {X : Cx}
theorem isPt_of {pins : List (Addr × Obj)} {σ : St} {H : Hp} {s : Shared} {a : Addr} {q : Int × Int} (I : Inv X pins σ H s) (h : SqT X.K H a [.int q.1, .int q.2]) : IsPt s.heap (.ref a) q := by
  refine gate' fun gG hgG => ?_
  obtain ⟨its, rv, ⟨o, ho, hc, n, hd⟩, _⟩ := I.tuple h
  refine hgG.go ?_
  clear hgG
  cases rv with
  | cons r1 rr =>
    cases rr with
    | cons r2 rr =>
      cases rr
      obtain ⟨t, rfl⟩ := r1
      obtain ⟨u, rfl⟩ := r2
      exact ⟨a, o, t, u, n, rfl, ho, hc, hd⟩
end
end L2
set_option Elab.async false
set_option linter.all false
set_option maxRecDepth 100000
set_option maxHeartbeats 1000000
namespace PySem
open Sem (wp)
open TS (ltP)
end PySem
namespace L2
open PySem PySem.Spec PyProof PyProof.Rows TS
end L2
set_option Elab.async false
set_option linter.all false
set_option maxRecDepth 100000
set_option maxHeartbeats 4000000
namespace SW
open PySem L2 WM TS
noncomputable def SqP (H : Hp) (a : Addr) (q : Pt × Int) : Prop := ∃ b, H a = some (.tup [.ref b, .int q.2]) ∧ H b = some (.tup [.int q.1.1, .int q.1.2])
noncomputable abbrev SqsAt (H : Hp) : List Addr → List (Pt × Int) → Prop := Paired (SqP H)
theorem SqP.mono {H H' : Hp} {a : Addr} {q : Pt × Int} (h : SqP H a q) (s : TSame H H') : SqP H' a q := by
  obtain ⟨b, h1, h2⟩ := h
  exact ⟨b, s _ _ h1, s _ _ h2⟩
theorem SqsAt.mono {H H' : Hp} {as : List Addr} {qs : List (Pt × Int)} (h : SqsAt H as qs) (s : TSame H H') : SqsAt H' as qs := by
  induction h with
  | nil => exact .nil
  | cons h t ih => exact .cons (h.mono s) ih
structure IsSq (l : List Nat) (qs : List (Pt × Int)) : Prop where
  rise : qs.Pairwise fun a b => ltP a.1 b.1 = true
  mem : ∀ q n, (q, n) ∈ qs ↔ n = aroundE q l ∧ n ≠ 0
  few : qs.length ≤ 5000000
noncomputable def spSquares : Sp := fun vs H Q _ => ∃ (l : List Nat), vs = [.str (T l)] ∧ IsW l ∧ l.length ≤ 1000 ∧ posOf l = (0, 0) ∧ ∀ (d : Addr) (H' : Hp) (as : List Addr) (qs : List (Pt × Int)), H d = none → Same H H' → H' d = some (.lst (as.map V.ref)) → SqsAt H' as qs → IsSq l qs → Q (.ref d) H'
noncomputable def spAround (K : PySem.W.Frag) : Sp := fun vs H Q _ => ∃ (l : List Nat) (e : Addr) (q : Pt), vs = [.str (T l), .ref e] ∧ IsW l ∧ l.length ≤ 1000 ∧ posOf l = (0, 0) ∧ H e = some (.tup [.int q.1, .int q.2]) ∧ ∀ H', Same H H' → Q (.int (aroundE q l)) H'
noncomputable def sl2 (H : Hp) (x : V) : St := [(partsV H x)[0]?, (partsV H x)[1]?]
theorem sl2_len (H : Hp) (x : V) : (sl2 H x).length = 2 := rfl
theorem sl2_eq {H : Hp} {a : Addr} {u v : V} (h : H a = some (.tup [u, v])) : sl2 H (.ref a) = [some u, some v] := by
  unfold sl2
  rw [partsV_eq h]
  rfl
end SW
set_option Elab.async false
set_option linter.all false
set_option maxRecDepth 100000
set_option maxHeartbeats 4000000
namespace TS
open PySem PyProof.Rows PySem.W
noncomputable def ltT (p q : Int × Int × Int) : Bool := decide (p.1 < q.1 ∨ (p.1 = q.1 ∧ (p.2.1 < q.2.1 ∨ (p.2.1 = q.2.1 ∧ p.2.2 < q.2.2))))
noncomputable def IsTr (h : Heap) (v : Value) (p : Int × Int × Int) : Prop := ∃ (a : Addr) (o : Obj) (t u u2 : Tok) (n : Nat), v = .ref a ∧ h.get? a = some o ∧ o.cls = .type "tuple" ∧ o.data = .seq #[.int p.1 t, .int p.2.1 u, .int p.2.2 u2] n
theorem IsTr.kept {h h' : Heap} {v : Value} {p : Int × Int × Int} (x : IsTr h v p) (k : ∀ b o, h.get? b = some o → h'.get? b = some o) : IsTr h' v p := by
  refine gate' fun gG hgG => ?_
  obtain ⟨a, o, t, u, u2, n, e, ho, r⟩ := x
  refine hgG.go ?_
  clear hgG
  exact ⟨a, o, t, u, u2, n, e, k a o ho, r⟩
noncomputable def ltQ (p q : (Int × Int) × Int) : Bool := decide (ltP p.1 q.1 = true ∨ (p.1 = q.1 ∧ p.2 < q.2))
noncomputable def IsQ (h : Heap) (v : Value) (q : (Int × Int) × Int) : Prop := ∃ (a b : Addr) (o : Obj) (t : Tok) (n : Nat), v = .ref a ∧ h.get? a = some o ∧ o.cls = .type "tuple" ∧ o.data = .seq #[.ref b, .int q.2 t] n ∧ IsPt h (.ref b) q.1
theorem IsQ.kept {h h' : Heap} {v : Value} {p : (Int × Int) × Int} (x : IsQ h v p) (k : ∀ b o, h.get? b = some o → h'.get? b = some o) : IsQ h' v p := by
  refine gate' fun gG hgG => ?_
  obtain ⟨a, b, o, t, n, e, ho, hc, hd, hp⟩ := x
  refine hgG.go ?_
  clear hgG
  exact ⟨a, b, o, t, n, e, k a o ho, hc, hd, hp.kept k⟩
theorem lexLt_pt (p q : Int × Int) : HT.lexLt [p.1, p.2] [q.1, q.2] = ltP p q := by
  unfold ltP
  simp only [HT.lexLt]
  by_cases e1 : p.1 = q.1
  · rw [if_pos e1]
    by_cases e2 : p.2 = q.2
    · rw [if_pos e2, decide_eq_false (by omega (config := {}))]
    · rw [if_neg e2]
      by_cases e3 : p.2 < q.2
      · rw [decide_eq_true e3, decide_eq_true (by omega (config := {}))]
      · rw [decide_eq_false e3, decide_eq_false (by omega (config := {}))]
  · rw [if_neg e1]
    by_cases e3 : p.1 < q.1
    · rw [decide_eq_true e3, decide_eq_true (.inl e3)]
    · rw [decide_eq_false e3, decide_eq_false (by omega (config := {}))]
section
variable {prog : Program} {w : World} {A : Around} {E : Value → Shared → Prop} {s : Shared} {κ : SortKind} {D : Keyed → Prop} {R : Keyed → Keyed → Bool}
theorem isTup_pt {h : Heap} {b : Addr} {p : Int × Int} (x : IsPt h (.ref b) p) : ∃ items, IsTup h b items ∧ IntsAre items.toList [p.1, p.2] := by
  refine gate' fun gG hgG => ?_
  obtain ⟨a, o, t, u, n, e, ho, hc, hd⟩ := x
  refine hgG.go ?_
  clear hgG
  cases e
  exact ⟨_, ⟨o, ho, hc, n, hd⟩, .cons _ _ (.cons _ _ .nil)⟩
theorem isKey_pt {h : Heap} {b : Addr} {p : Int × Int} (x : IsPt h (.ref b) p) : IsTupleKey (intKind prog w) h [p.1, p.2] b := by
  refine gate' fun gG hgG => ?_
  obtain ⟨a, o, t, u, n, e, ho, hc, hd⟩ := x
  refine hgG.go ?_
  clear hgG
  cases e
  refine ⟨o, _, n, ho, hc, hd, ?_⟩
  exact .cons (by simp [PySem.intKind, Value.isInt]) (.cons (by simp [PySem.intKind, Value.isInt]) .nil)
theorem keyLt_trs {x y : Value} {p q : Int × Int × Int} {Q : Bool → Shared → Prop} (hx : IsTr s.heap x p) (hy : IsTr s.heap y q) (h : Q (ltT p q) s) : wpAny (model prog w) A (keyLt' (tuples' true) x y) Q E s := by
  refine gate' fun gG hgG => ?_
  obtain ⟨a, o, t, u, u2, n, rfl, ho, _, hd⟩ := hx
  obtain ⟨b, o', t', u', u2', n', rfl, ho', _, hd'⟩ := hy
  refine hgG.go ?_
  clear hgG
  refine kat_lt ho hd ho' hd' ?_
  show KatLex prog w A true _ Q [(.int p.1 t, .int q.1 t'), (.int p.2.1 u, .int q.2.1 u'), (.int p.2.2 u2, .int q.2.2 u2')] 0 s
  refine kat_cons (wpAny_eqBool_int ?_)
  by_cases e1 : p.1 = q.1
  · rw [show (p.1 == q.1) = true from by rw [e1]; exact beq_self_eq_true _]
    refine kat_yes (kat_cons (wpAny_eqBool_int ?_))
    by_cases e2 : p.2.1 = q.2.1
    · rw [show (p.2.1 == q.2.1) = true from by rw [e2]; exact beq_self_eq_true _]
      refine kat_yes (kat_cons (wpAny_eqBool_int ?_))
      by_cases e3 : p.2.2 = q.2.2
      · rw [show (p.2.2 == q.2.2) = true from by rw [e3]; exact beq_self_eq_true _]
        refine kat_yes (kat_nil ?_)
        have e : ltT p q = false := decide_eq_false (by omega)
        rw [e] at h
        exact h
      · rw [show (p.2.2 == q.2.2) = false from beq_eq_false_iff_ne.mpr e3]
        refine kat_no (kat_one _ _ (lt_int ?_))
        have e : ltT p q = decide (p.2.2 < q.2.2) := by
          unfold ltT
          congr 1
          exact propext ⟨fun z => by omega, fun z => by omega⟩
        rw [e] at h
        exact h
    · rw [show (p.2.1 == q.2.1) = false from beq_eq_false_iff_ne.mpr e2]
      refine kat_no (kat_one _ _ (lt_int ?_))
      have e : ltT p q = decide (p.2.1 < q.2.1) := by
        unfold ltT
        congr 1
        exact propext ⟨fun z => by omega, fun z => by omega⟩
      rw [e] at h
      exact h
  · rw [show (p.1 == q.1) = false from beq_eq_false_iff_ne.mpr e1]
    refine kat_no (oneLt_int ?_)
    have e : ltT p q = decide (p.1 < q.1) := by
      unfold ltT
      congr 1
      exact propext ⟨fun z => by omega, fun z => by omega⟩
    rw [e] at h
    exact h
theorem keyLt_qs {x y : Value} {p q : (Int × Int) × Int} {Q : Bool → Shared → Prop} (hu : A.units < cLine) (hx : IsQ s.heap x p) (hy : IsQ s.heap y q) (h : Q (ltQ p q) s) : wpAny (model prog w) A (keyLt' (tuples' false) x y) Q E s := by
  refine gate' fun gG hgG => ?_
  obtain ⟨a, b, o, t, n, rfl, ho, _, hd, hp⟩ := hx
  obtain ⟨a', b', o', t', n', rfl, ho', _, hd', hp'⟩ := hy
  refine hgG.go ?_
  clear hgG
  refine kat_lt ho hd ho' hd' ?_
  show KatLex prog w A false _ Q [(.ref b, .ref b'), (.int p.2 t, .int q.2 t')] 0 s
  refine kat_cons (wpAny_eqBool_tuple (knd := intKind prog w) hu (isKey_pt hp) (isKey_pt hp') ?_)
  by_cases e1 : p.1 = q.1
  · rw [show decide ([p.1.1, p.1.2] = [q.1.1, q.1.2]) = true from decide_eq_true (by rw [e1])]
    refine kat_yes (kat_cons (wpAny_eqBool_int ?_))
    have en : ltP p.1 q.1 = false := by
      rw [e1]
      exact decide_eq_false (by omega)
    by_cases e2 : p.2 = q.2
    · rw [show (p.2 == q.2) = true from by rw [e2]; exact beq_self_eq_true _]
      refine kat_yes (kat_nil ?_)
      have e : ltQ p q = false := by
        unfold ltQ
        rw [en]
        exact decide_eq_false (by rintro (z | z); exact absurd z (by decide); omega)
      rw [e] at h
      exact h
    · rw [show (p.2 == q.2) = false from beq_eq_false_iff_ne.mpr e2]
      refine kat_no (kat_one _ _ (lt_int ?_))
      have e : ltQ p q = decide (p.2 < q.2) := by
        unfold ltQ
        rw [en]
        congr 1
        exact propext ⟨fun z => by rcases z with z | z; exact absurd z (by decide); exact z.2, fun z => .inr ⟨e1, z⟩⟩
      rw [e] at h
      exact h
  · rw [show decide ([p.1.1, p.1.2] = [q.1.1, q.1.2]) = false from decide_eq_false (fun z => e1 (by simp only [List.cons.injEq, and_true] at z; exact Prod.ext z.1 z.2))]
    obtain ⟨i1, t1, n1⟩ := isTup_pt hp
    obtain ⟨i2, t2, n2⟩ := isTup_pt hp'
    refine kat_no (kat_one _ _ (HT.lt_tupInts t1 t2 n1 n2 hu ?_))
    rw [lexLt_pt]
    have e : ltQ p q = ltP p.1 q.1 := by
      unfold ltQ
      by_cases z : ltP p.1 q.1 = true
      · rw [z]; exact decide_eq_true (.inl rfl)
      · rw [Bool.not_eq_true] at z
        rw [z]
        exact decide_eq_false (by rintro (y | y); exact absurd y (by decide); exact e1 y.1)
    rw [e] at h
    exact h
theorem lex_asym {a b c d e f : Int} (h : a < d ∨ (a = d ∧ (b < e ∨ (b = e ∧ c < f)))) : ¬ (d < a ∨ (d = a ∧ (e < b ∨ (e = b ∧ f < c)))) := by omega
theorem lex_neg {a b c d e f g i j : Int} (h1 : ¬ (a < d ∨ (a = d ∧ (b < e ∨ (b = e ∧ c < f))))) (h2 : ¬ (d < g ∨ (d = g ∧ (e < i ∨ (e = i ∧ f < j))))) : ¬ (a < g ∨ (a = g ∧ (b < i ∨ (b = i ∧ c < j)))) := by omega
theorem cmp_trs {vs : List Value} {key : Value → Int × Int × Int} (h : ∀ v ∈ vs, IsTr s.heap v (key v)) : Cmp prog w A s (tuples' true) (fun x => x.1 ∈ vs) (fun x y => ltT (key x.1) (key y.1)) where
  ask := fun x y hx hy E st Q hk hq => by
    rw [lt'_eq]
    refine wpS_bind (wpS_get ?_)
    rw [hk]
    refine wpS_bind (wpS_lift (wpAny_attempt (keyLt_trs (h _ hx) (h _ hy) ⟨rfl, ?_⟩)))
    exact wpS_pure hq
  asym := fun x y _ _ e => by
    unfold ltT at e ⊢
    exact decide_eq_false (lex_asym (of_decide_eq_true e))
  neg := fun x y z _ _ _ e1 e2 => by
    unfold ltT at e1 e2 ⊢
    exact decide_eq_false (lex_neg (of_decide_eq_false e1) (of_decide_eq_false e2))
theorem ltQ_iff (p q : (Int × Int) × Int) : ltQ p q = true ↔ (p.1.1 < q.1.1 ∨ (p.1.1 = q.1.1 ∧ (p.1.2 < q.1.2 ∨ (p.1.2 = q.1.2 ∧ p.2 < q.2)))) := by
  unfold ltQ ltP
  rw [decide_eq_true_iff, decide_eq_true_iff, Prod.ext_iff]
  omega
theorem cmp_qs {vs : List Value} {key : Value → (Int × Int) × Int} (hu : A.units < cLine) (h : ∀ v ∈ vs, IsQ s.heap v (key v)) : Cmp prog w A s (tuples' false) (fun x => x.1 ∈ vs) (fun x y => ltQ (key x.1) (key y.1)) where
  ask := fun x y hx hy E st Q hk hq => by
    rw [lt'_eq]
    refine wpS_bind (wpS_get ?_)
    rw [hk]
    refine wpS_bind (wpS_lift (wpAny_attempt (keyLt_qs hu (h _ hx) (h _ hy) ⟨rfl, ?_⟩)))
    exact wpS_pure hq
  asym := fun x y _ _ e => by
    rw [ltQ_iff] at e
    rw [← Bool.not_eq_true, ltQ_iff]
    exact lex_asym e
  neg := fun x y z _ _ _ e1 e2 => by
    rw [← Bool.not_eq_true, ltQ_iff] at e1 e2 ⊢
    exact lex_neg e1 e2
theorem tups_trs {h : Heap} {key : Value → Int × Int × Int} : ∀ {vs : List Value}, (∀ v ∈ vs, IsTr h v (key v)) → ∃ fs, KatTups h vs fs ∧ fs.length = vs.length ∧ ∀ v ∈ fs, ∃ i t, v = Value.int i t
  | [], _ => ⟨[], trivial, rfl, fun _ hv => nomatch hv⟩
  | v :: vs, hh => by
    refine gate' fun gG hgG => ?_
    obtain ⟨fs, h1, h2, h3⟩ := tups_trs (vs := vs) fun x hx => hh x (List.mem_cons_of_mem _ hx)
    obtain ⟨a, o, t, u, u2, n, rfl, ho, hc, hd⟩ := hh v List.mem_cons_self
    refine hgG.go ?_
    clear hgG
    refine ⟨.int (key (.ref a)).1 t :: fs, KatTups.cons ho hc hd rfl h1, by rw [List.length_cons, List.length_cons, h2], fun x hx => ?_⟩
    rcases List.mem_cons.mp hx with rfl | hx
    · exact ⟨_, _, rfl⟩
    · exact h3 x hx
theorem tups_qs {h : Heap} {key : Value → (Int × Int) × Int} : ∀ {vs : List Value}, (∀ v ∈ vs, IsQ h v (key v)) → ∃ fs, KatTups h vs fs ∧ fs.length = vs.length ∧ ∀ v ∈ fs, ∃ b o, v = Value.ref b ∧ h.get? b = some o ∧ o.cls = .type "tuple"
  | [], _ => ⟨[], trivial, rfl, fun _ hv => nomatch hv⟩
  | v :: vs, hh => by
    refine gate' fun gG hgG => ?_
    obtain ⟨fs, h1, h2, h3⟩ := tups_qs (vs := vs) fun x hx => hh x (List.mem_cons_of_mem _ hx)
    obtain ⟨a, b, o, t, n, rfl, ho, hc, hd, hp⟩ := hh v List.mem_cons_self
    refine hgG.go ?_
    clear hgG
    refine ⟨.ref b :: fs, KatTups.cons ho hc hd rfl h1, by rw [List.length_cons, List.length_cons, h2], fun x hx => ?_⟩
    rcases List.mem_cons.mp hx with rfl | hx
    · obtain ⟨b', o', _, _, _, e, ho', hc', _⟩ := hp
      cases e
      exact ⟨_, _, rfl, ho', hc'⟩
    · exact h3 x hx
theorem kind_trs {vs : List Value} {key : Value → Int × Int × Int} {Q : SortKind → Shared → Prop} (h : ∀ v ∈ vs, IsTr s.heap v (key v)) (h2 : 2 ≤ vs.length) (hq : Q (tuples' true) s) : wpAny (model prog w) A (keyKind' vs.toArray) Q E s := by
  obtain ⟨fs, h1, hl, h3⟩ := tups_trs h
  refine kat_kind (T := .type "int") h1 (by omega) (fun v hv => ?_) rfl ?_
  · obtain ⟨i, t, rfl⟩ := h3 v hv
    exact Looks.of_pure rfl
  · have e : ((Value.type "int") != Value.type "tuple") = true := by decide
    rw [e]
    exact hq
theorem kind_qs {vs : List Value} {key : Value → (Int × Int) × Int} {Q : SortKind → Shared → Prop} (h : ∀ v ∈ vs, IsQ s.heap v (key v)) (h2 : 2 ≤ vs.length) (hq : Q (tuples' false) s) : wpAny (model prog w) A (keyKind' vs.toArray) Q E s := by
  obtain ⟨fs, h1, hl, h3⟩ := tups_qs h
  refine kat_kind (T := .type "tuple") h1 (by omega) (fun v hv => ?_) rfl ?_
  · obtain ⟨b, o, rfl, ho, hc⟩ := h3 v hv
    intro A Q E s k hq
    exact wpAny_typeOf ⟨o, k _ _ ho, hc⟩ hq
  · have e : ((Value.type "tuple") != Value.type "tuple") = false := by decide
    rw [e]
    exact hq
theorem sorted_anyU {l : Addr} {vs : List Value} {Q : Value → Shared → Prop} (hl : s.heap.IsList l vs.toArray) (hz : vs.length ≤ sizeLine) (hD : ∀ v ∈ vs, D (v, v))
    (C : ∀ (A' : Around) h', A'.units ≤ A.units + 4 → (∀ b o, s.heap.get? b = some o → h'.get? b = some o) → Cmp prog w A' { s with heap := h' } κ D R)
    (hkk : ∀ (A : Around) (E : Value → Shared → Prop) h', (∀ b o, s.heap.get? b = some o → h'.get? b = some o) → 2 ≤ vs.length → ∀ (Q : SortKind → Shared → Prop), Q κ { s with heap := h' } → wpAny (model prog w) A (keyKind' vs.toArray) Q E { s with heap := h' })
    (h : ∀ out : Array Value, out.toList.Perm vs → out.toList.Pairwise (leV R) → Q (.ref (s.heap.objs.size + 1)) { s with heap := sortedAll s.heap vs out }) :
    wpAny (model prog w) A (call (.builtin "sorted") [.ref l]) Q E s := by
  refine Calls.call_function_entry kind_sorted plain_sorted entry_sorted (args_sorted1 _) ?_
  unfold Builtin.«sorted»
  refine wpAny_bind (m := checkCount "sorted" 1 1 _) (wpAny_pure ?_)
  refine wpAny_bind (collect_list hl ?_ hz)
  refine wpAny_bind (wpAny_newList ?_ (by show vs.length ≤ _; exact hz))
  have hsz : ((s.heap.push (seqObj "list" #[] 0)).update s.heap.objs.size (Obj.mapSeq (· ++ vs.toArray))).objs.size = s.heap.objs.size + 1 := by
    rw [Heap.size_update, size_push']
  have hoL : (((s.heap.push (seqObj "list" #[] 0)).update s.heap.objs.size (Obj.mapSeq (· ++ vs.toArray))).push (seqObj "list" vs.toArray 0)).get? (s.heap.objs.size + 1) = some (seqObj "list" vs.toArray 0) := by
    rw [← hsz]; exact Heap.get?_push_size _ rfl
  have kept : ∀ b o, s.heap.get? b = some o → (((s.heap.push (seqObj "list" #[] 0)).update s.heap.objs.size (Obj.mapSeq (· ++ vs.toArray))).push (seqObj "list" vs.toArray 0)).get? b = some o := fun b o e => by
    have hlt : b < s.heap.objs.size := Heap.lt_size e
    refine Heap.get?_push_of_some _ ?_
    rw [Heap.get?_update_ne _ _ _ _ (Nat.ne_of_lt hlt), Heap.get?_push_ne _ _ _ (Nat.ne_of_lt hlt)]
    exact e
  have ne1 : ∀ b o, s.heap.get? b = some o → b ≠ s.heap.objs.size + 1 := fun b o e => Nat.ne_of_lt (Nat.lt_succ_of_lt (Heap.lt_size e))
  show wpAny _ _ _ _ _ { s with heap := ((s.heap.push (seqObj "list" #[] 0)).update s.heap.objs.size (Obj.mapSeq (· ++ vs.toArray))).push (seqObj "list" vs.toArray 0) }
  rw [hsz]
  refine wpAny_bind (wpAny_holding (wpAny_call_entry slot_list_sort ⟨_, hoL, rfl⟩ entry_list_sort (list_sort_any (κ := κ) (D := D) (R := R) hoL hz hD (fun h' k => C _ h' (by show A.units + 1 + 1 ≤ A.units + 4; omega) fun b o e => k b o (ne1 b o e) (kept b o e)) (fun h' k h2 Q' hq => hkk _ _ h' (fun b o e => k b o (ne1 b o e) (kept b o e)) h2 Q' hq) fun out a1 a2 => ⟨_, rfl, ?_⟩) (args_list_sort _)))
  exact wpAny_pure ⟨_, rfl, h out a1 a2⟩
theorem sorted_trs {l : Addr} {vs : List Value} {key : Value → Int × Int × Int} {Q : Value → Shared → Prop} (hl : s.heap.IsList l vs.toArray) (hz : vs.length ≤ sizeLine) (hk : ∀ v ∈ vs, IsTr s.heap v (key v))
    (h : ∀ out : Array Value, out.toList.Perm vs → out.toList.Pairwise (fun x y => ltT (key y) (key x) = false) → Q (.ref (s.heap.objs.size + 1)) { s with heap := sortedAll s.heap vs out }) :
    wpAny (model prog w) A (call (.builtin "sorted") [.ref l]) Q E s :=
  sorted_any (κ := tuples' true) (D := fun x => x.1 ∈ vs) (R := fun x y => ltT (key x.1) (key y.1)) hl hz (fun v hv => hv) (fun A h' k => cmp_trs fun v hv => (hk v hv).kept k) (fun A E h' k h2 Q hq => kind_trs (fun v hv => (hk v hv).kept k) h2 hq) h
theorem sorted_qs {l : Addr} {vs : List Value} {key : Value → (Int × Int) × Int} {Q : Value → Shared → Prop} (hu : A.units + 4 < cLine) (hl : s.heap.IsList l vs.toArray) (hz : vs.length ≤ sizeLine) (hk : ∀ v ∈ vs, IsQ s.heap v (key v))
    (h : ∀ out : Array Value, out.toList.Perm vs → out.toList.Pairwise (fun x y => ltQ (key y) (key x) = false) → Q (.ref (s.heap.objs.size + 1)) { s with heap := sortedAll s.heap vs out }) :
    wpAny (model prog w) A (call (.builtin "sorted") [.ref l]) Q E s :=
  sorted_anyU (κ := tuples' false) (D := fun x => x.1 ∈ vs) (R := fun x y => ltQ (key x.1) (key y.1)) hl hz (fun v hv => hv) (fun A h' hu' k => cmp_qs (by omega) fun v hv => (hk v hv).kept k) (fun A E h' k h2 Q hq => kind_qs (fun v hv => (hk v hv).kept k) h2 hq) h
end
end TS
namespace L2
open PySem PySem.Spec PyProof.Rows TS
theorem IsTr.uniq {h : Heap} {v : Value} {p q : Int × Int × Int} (x : IsTr h v p) (y : IsTr h v q) : p = q := by
  refine gate' fun gG hgG => ?_
  obtain ⟨a, o, t, u, u2, n, rfl, ho, _, hd⟩ := x
  obtain ⟨b, o', t', u', u2', n', e, ho', _, hd'⟩ := y
  refine hgG.go ?_
  clear hgG
  cases e
  rw [ho] at ho'
  cases ho'
  rw [hd] at hd'
  have h1 := congrArg (fun d => match d with | Data.seq xs _ => xs.toList | _ => []) hd'
  dsimp only at h1
  simp only [List.cons.injEq, and_true] at h1
  obtain ⟨e1, e2, e3⟩ := h1
  injection e1 with e1 _
  injection e2 with e2 _
  injection e3 with e3 _
  exact Prod.ext e1 (Prod.ext e2 e3)
theorem IsQ.uniq {h : Heap} {v : Value} {p q : (Int × Int) × Int} (x : IsQ h v p) (y : IsQ h v q) : p = q := by
  refine gate' fun gG hgG => ?_
  obtain ⟨a, c, o, t, n, rfl, ho, _, hd, hp⟩ := x
  obtain ⟨b, c', o', t', n', e, ho', _, hd', hp'⟩ := y
  refine hgG.go ?_
  clear hgG
  cases e
  rw [ho] at ho'
  cases ho'
  rw [hd] at hd'
  have h1 := congrArg (fun d => match d with | Data.seq xs _ => xs.toList | _ => []) hd'
  dsimp only at h1
  simp only [List.cons.injEq, and_true] at h1
  obtain ⟨e1, e2⟩ := h1
  injection e1 with e1
  injection e2 with e2 _
  subst e1
  exact Prod.ext (IsPt.uniq hp hp') e2
open Classical in
noncomputable def keyBy {α : Type} (z : α) (S : Value → α → Prop) (v : Value) : α := if x : ∃ q, S v q then Classical.choose x else z
theorem keyBy_of {α : Type} {z : α} {S : Value → α → Prop} {v : Value} {q : α} (u : ∀ p, S v p → p = q) (x : S v q) : keyBy z S v = q := by
  unfold keyBy
  rw [dif_pos ⟨q, x⟩]
  exact u _ (Classical.choose_spec (⟨q, x⟩ : ∃ q, S v q))
section
variable {X : Cx}
theorem isTr_of {pins : List (Addr × Obj)} {σ : St} {H : Hp} {s : Shared} {a : Addr} {q : Int × Int × Int} (I : Inv X pins σ H s) (h : SqT X.K H a [.int q.1, .int q.2.1, .int q.2.2]) : IsTr s.heap (.ref a) q := by
  refine gate' fun gG hgG => ?_
  obtain ⟨its, rv, ⟨o, ho, hc, n, hd⟩, _⟩ := I.tuple h
  refine hgG.go ?_
  clear hgG
  cases rv with
  | cons r1 rr =>
    cases rr with
    | cons r2 rr =>
      cases rr with
      | cons r3 rr =>
        cases rr
        obtain ⟨t, rfl⟩ := r1
        obtain ⟨u, rfl⟩ := r2
        obtain ⟨u2, rfl⟩ := r3
        exact ⟨a, o, t, u, u2, n, rfl, ho, hc, hd⟩
theorem isQ_of {pins : List (Addr × Obj)} {σ : St} {H : Hp} {s : Shared} {a b : Addr} {q : (Int × Int) × Int} (I : Inv X pins σ H s) (h : SqT X.K H a [.ref b, .int q.2]) (h2 : SqT X.K H b [.int q.1.1, .int q.1.2]) : IsQ s.heap (.ref a) q := by
  refine gate' fun gG hgG => ?_
  obtain ⟨its, rv, ⟨o, ho, hc, n, hd⟩, _⟩ := I.tuple h
  refine hgG.go ?_
  clear hgG
  cases rv with
  | cons r1 rr =>
    cases rr with
    | cons r2 rr =>
      cases rr
      cases (show _ = Value.ref b from r1)
      obtain ⟨u, rfl⟩ := r2
      exact ⟨a, b, o, u, n, rfl, ho, hc, hd, isPt_of I h2⟩
theorem call_sorted_by {α : Type} (z : α) (S : Shared → Value → α → Prop) (Sq : Hp → Addr → α → Prop) (lt : α → α → Bool) (hun : ∀ s v p q, S s v p → S s v q → p = q) (hS : ∀ {pins σ H s a q}, Inv X pins σ H s → Sq H a q → S s (.ref a) q)
    (hso : ∀ {s : Shared} {l : Addr} {vs : List Value} {key : Value → α} {Q : Value → Shared → Prop}, s.heap.IsList l vs.toArray → vs.length ≤ sizeLine → (∀ v ∈ vs, S s v (key v)) →
      (∀ out : Array Value, out.toList.Perm vs → out.toList.Pairwise (fun x y => lt (key y) (key x) = false) → Q (.ref (s.heap.objs.size + 1)) { s with heap := sortedAll s.heap vs out }) → wpAny (model X.prog X.w) X.A (call (.builtin "sorted") [.ref l]) Q X.xe s) :
    CallR X (.builtin "sorted") (fun xs H Q => ∃ (p : Addr) (as : List Addr) (ps : List α), xs = [.ref p] ∧ SqL X.K H p (as.map V.ref) ∧ Paired (Sq H) as ps ∧
      ∀ l as' ps', H l = none → as'.Perm as → Paired (Sq H) as' ps' → ps'.Perm ps → ps'.Pairwise (fun a b => lt b a = false) → Q (.ref l) (upd H l (.lst (as'.map V.ref)))) := by
  intro pins s σ H xs us Q I r h
  refine gate' fun gG hgG => ?_
  obtain ⟨p, as, ps, rfl, hL, hP, q⟩ := h
  obtain ⟨u, rfl, ru⟩ := vals1 r
  refine hgG.go ?_
  clear hgG
  cases (show u = Value.ref p from ru)
  obtain ⟨its, rv, pl, hz⟩ := I.list hL
  have ei := vals_refs rv
  subst ei
  rw [List.length_map] at hz
  let key : Value → α := keyBy z (S s)
  have hkey : ∀ {a q}, Sq H a q → key (.ref a) = q := fun hb => keyBy_of (fun p hp => hun _ _ _ _ hp (hS I hb)) (hS I hb)
  have hpt : ∀ a ∈ as, S s (.ref a) (key (.ref a)) := fun a ha => by
    obtain ⟨b, _, hb⟩ := paired_mem hP ha
    rw [hkey hb]
    exact hS I hb
  have eps : ps = as.map fun a => key (.ref a) := paired_eq hP fun a _ b hb => (hkey hb).symm
  have hsq : ∀ a ∈ as, Sq H a (key (.ref a)) := fun a ha => by
    obtain ⟨b, _, hb⟩ := paired_mem hP ha
    rw [hkey hb]
    exact hb
  refine hso (key := key) pl.isList (by rw [List.length_map]; exact hz) (fun v hv => ?_) fun out hperm hsort => ?_
  · obtain ⟨a, ha, rfl⟩ := List.mem_map.mp hv
    exact hpt a ha
  have eout : out.toList = (out.toList.map addrV).map Value.ref := by
    rw [List.map_map]
    conv => lhs; rw [← List.map_id' out.toList]
    refine List.map_congr_left fun v hv => ?_
    obtain ⟨a, _, rfl⟩ := List.mem_map.mp (hperm.mem_iff.mp hv)
    rfl
  have hpa : (out.toList.map addrV).Perm as := by
    have := hperm.map addrV
    rw [List.map_map] at this
    exact this.trans (List.Perm.of_eq (List.map_id' as))
  generalize out.toList.map addrV = as' at *
  obtain ⟨e, he⟩ := sortedAll_at s.heap (as.map Value.ref) out
  have hlen : as'.length ≤ sizeLine := by rw [hpa.length_eq]; exact hz
  have hfree : H (s.heap.objs.size + 1) = none := I.hok.fresh (Nat.le_succ _)
  have I1 : Inv X pins σ (upd H (s.heap.objs.size + 1) (.lst (as'.map V.ref))) { s with heap := sortedAll s.heap (as.map Value.ref) out } := by
    refine I.laid (t' := s.toks) (fun b u hb => sortedAll_old hb) (Nat.le_succ _) ?_
    refine ⟨by rw [List.length_map]; exact hlen, as'.map Value.ref, e, refs_vals as', ?_⟩
    rw [← eout]
    exact he
  refine ⟨.ref (s.heap.objs.size + 1), _, I1, rfl, q _ as' (as'.map fun a => key (.ref a)) hfree hpa (paired_map fun a ha => hsq a (hpa.mem_iff.mp ha)) ?_ ?_⟩
  · rw [eps]
    exact hpa.map _
  · rw [eout, List.pairwise_map] at hsort
    rw [List.pairwise_map]
    exact hsort
end
end L2
namespace WM
noncomputable def leT (a b : Tr) : Prop := a.1 < b.1 ∨ (a.1 = b.1 ∧ a.2.1 ≤ b.2.1)
noncomputable def wayT (t : Tr) : Int := t.2.2
noncomputable def rngI (lo hi : Int) : List Int := (List.range (hi - lo).toNat).map fun (i : Nat) => lo + (i : Int)
theorem mem_rngI {lo hi x : Int} : x ∈ rngI lo hi ↔ lo ≤ x ∧ x < hi := by
  unfold rngI
  rw [List.mem_map]
  constructor
  · rintro ⟨i, hi', rfl⟩
    rw [List.mem_range] at hi'
    omega
  · rintro ⟨h1, h2⟩
    exact ⟨(x - lo).toNat, by rw [List.mem_range]; omega, by omega⟩
theorem nodup_rngI (lo hi : Int) : (rngI lo hi).Nodup := by
  unfold rngI
  rw [List.nodup_iff_pairwise_ne, List.pairwise_map]
  refine List.nodup_range.imp fun {a b} hab e => ?_
  omega
noncomputable def segT (t : Int) (a b : Tr) : List (Pt × Int) := if t = 0 then [] else (rngI a.2.1 b.2.1).map fun x => ((x, a.1), t)
noncomputable def scan : Int → List Tr → List (Pt × Int)
  | t, a :: b :: r => segT (t - a.2.2) a b ++ scan (t - a.2.2) (b :: r)
  | _, _ => []
theorem mem_segT {t : Int} {a b : Tr} {q : Pt} {n : Int} : (q, n) ∈ segT t a b ↔ n = t ∧ t ≠ 0 ∧ q.2 = a.1 ∧ a.2.1 ≤ q.1 ∧ q.1 < b.2.1 := by
  unfold segT
  by_cases h : t = 0
  · rw [if_pos h]
    simp [h]
  · rw [if_neg h, List.mem_map]
    constructor
    · rintro ⟨x, hx, e⟩
      cases e
      have := mem_rngI.mp hx
      exact ⟨rfl, h, rfl, this.1, this.2⟩
    · rintro ⟨rfl, _, h1, h2, h3⟩
      exact ⟨q.1, mem_rngI.mpr ⟨h2, h3⟩, by rw [← h1]⟩
noncomputable def Rest (S : List Tr) : Prop := ∀ a r, S = a :: r → ∀ y, a.1 < y → sumL (rowT y) S = 0
theorem rest_tail {a b : Tr} {r : List Tr} (h : Rest (a :: b :: r)) (s : leT a b) : Rest (b :: r) := by
  rintro c r' e y hy
  cases e
  have := h a _ rfl y (by rcases s with s | s <;> omega)
  have e : sumL (rowT y) (a :: b :: r) = rowT y a + sumL (rowT y) (b :: r) := rfl
  rw [e] at this
  have e2 : rowT y a = 0 := by
    unfold rowT
    rw [if_neg (by rcases s with s | s <;> omega)]
  omega
theorem sum_head : ∀ {a : Tr} {r : List Tr}, (a :: r).Pairwise leT → Rest (a :: r) → sumL wayT (a :: r) = sumL (rowT a.1) (a :: r)
  | a, [], _, _ => by
    show a.2.2 + 0 = (if a.1 = a.1 then a.2.2 else 0) + 0
    rw [if_pos rfl]
  | a, b :: r, hp, hr => by
    rw [List.pairwise_cons] at hp
    have s := hp.1 b List.mem_cons_self
    have ih := sum_head (a := b) (r := r) hp.2 (rest_tail hr s)
    show a.2.2 + sumL wayT (b :: r) = (if a.1 = a.1 then a.2.2 else 0) + sumL (rowT a.1) (b :: r)
    rw [if_pos rfl, ih]
    by_cases e : b.1 = a.1
    · rw [e]
    · have lt : a.1 < b.1 := by rcases s with s | s <;> omega
      have z1 : sumL (rowT b.1) (a :: b :: r) = 0 := hr a _ rfl b.1 lt
      have e1 : sumL (rowT b.1) (a :: b :: r) = rowT b.1 a + sumL (rowT b.1) (b :: r) := rfl
      have e2 : rowT b.1 a = 0 := by
        unfold rowT
        rw [if_neg (by omega)]
      have z2 : sumL (rowT a.1) (b :: r) = 0 := by
        refine sumL_zero fun c hc => ?_
        unfold rowT
        rw [if_neg]
        have hbc : b.1 ≤ c.1 := by
          rcases List.mem_cons.mp hc with rfl | hc
          · exact Int.le_refl _
          · have := (List.pairwise_cons.mp hp.2).1 c hc
            rcases this with s | s <;> omega
        omega
      omega
theorem sum_next {a b : Tr} {r : List Tr} (hp : (a :: b :: r).Pairwise leT) (hr : Rest (a :: b :: r)) (h : sumL wayT (b :: r) ≠ 0) : b.1 = a.1 := by
  rw [List.pairwise_cons] at hp
  have s := hp.1 b List.mem_cons_self
  by_cases e : b.1 = a.1
  · exact e
  · exfalso
    have lt : a.1 < b.1 := by rcases s with s | s <;> omega
    have ih := sum_head (a := b) (r := r) hp.2 (rest_tail hr s)
    have z1 : sumL (rowT b.1) (a :: b :: r) = 0 := hr a _ rfl b.1 lt
    have e1 : sumL (rowT b.1) (a :: b :: r) = rowT b.1 a + sumL (rowT b.1) (b :: r) := rfl
    have e2 : rowT b.1 a = 0 := by
      unfold rowT
      rw [if_neg (by omega)]
    omega
theorem east_row {q : Pt} {S : List Tr} (h : ∀ c ∈ S, c.1 = q.2 → q.1 < c.2.1) : sumL (eastT q) S = sumL (rowT q.2) S := by
  refine sumL_congr fun c hc => ?_
  unfold eastT rowT
  by_cases e : c.1 = q.2
  · rw [if_pos e, if_pos ⟨e, h c hc e⟩]
  · rw [if_neg e, if_neg fun z => e z.1]
theorem east_some {q : Pt} {S : List Tr} (h : sumL (eastT q) S ≠ 0) : ∃ c ∈ S, c.1 = q.2 ∧ q.1 < c.2.1 := by
  by_cases z : ∃ c ∈ S, c.1 = q.2 ∧ q.1 < c.2.1
  · exact z
  · exfalso
    refine h (sumL_zero fun c hc => ?_)
    unfold eastT
    rw [if_neg fun y => z ⟨c, hc, y⟩]
theorem scan_mem : ∀ {S : List Tr}, S.Pairwise leT → Rest S → ∀ (q : Pt) (n : Int), (q, n) ∈ scan (sumL wayT S) S ↔ n = sumL (eastT q) S ∧ n ≠ 0 ∧ ∃ a ∈ S, a.1 = q.2 ∧ a.2.1 ≤ q.1
  | [], _, _, q, n => by
    constructor
    · intro h; cases h
    · rintro ⟨rfl, h, _⟩
      exact absurd rfl h
  | [a], _, _, q, n => by
    constructor
    · intro h; cases h
    · rintro ⟨rfl, h, c, hc, h1, h2⟩
      exfalso
      rw [List.mem_singleton.mp hc] at h1 h2
      obtain ⟨d, hd, h3, h4⟩ := east_some h
      rw [List.mem_singleton.mp hd] at h3 h4
      omega
  | a :: b :: r, hp, hr, q, n => by
    have hp' := List.pairwise_cons.mp hp
    have s := hp'.1 b List.mem_cons_self
    have hr' := rest_tail hr s
    have ih := scan_mem (S := b :: r) hp'.2 hr' q n
    have et : sumL wayT (a :: b :: r) - a.2.2 = sumL wayT (b :: r) := by
      show a.2.2 + sumL wayT (b :: r) - a.2.2 = _
      omega
    have es : scan (sumL wayT (a :: b :: r)) (a :: b :: r) = segT (sumL wayT (b :: r)) a b ++ scan (sumL wayT (b :: r)) (b :: r) := by
      show segT (sumL wayT (a :: b :: r) - a.2.2) a b ++ scan (sumL wayT (a :: b :: r) - a.2.2) (b :: r) = _
      rw [et]
    have ea : ∀ c ∈ (a :: b :: r), c.1 = q.2 → c.2.1 ≤ q.1 → sumL (eastT q) (a :: b :: r) = sumL (eastT q) (b :: r) := by
      intro c hc h1 h2
      have z : eastT q a = 0 := by
        unfold eastT
        rw [if_neg]
        rintro ⟨y1, y2⟩
        rcases List.mem_cons.mp hc with rfl | hc
        · omega
        · rcases hp'.1 c hc with s | s <;> omega
      show eastT q a + _ = _
      omega
    have hge : ∀ c ∈ b :: r, c.1 = b.1 → b.2.1 ≤ c.2.1 := fun c hc e => by
      rcases List.mem_cons.mp hc with rfl | hc
      · exact Int.le_refl _
      · rcases (List.pairwise_cons.mp hp'.2).1 c hc with s | s <;> omega
    rw [es, List.mem_append, mem_segT]
    constructor
    · rintro (⟨rfl, h0, h1, h2, h3⟩ | h)
      · have eb := sum_next hp hr h0
        refine ⟨?_, h0, a, List.mem_cons_self, h1.symm, h2⟩
        rw [ea a List.mem_cons_self h1.symm h2, east_row fun c hc e => ?_, sum_head hp'.2 hr', eb, h1]
        have := hge c hc (by omega)
        omega
      · obtain ⟨h1, h2, c, hc, h3, h4⟩ := ih.mp h
        exact ⟨by rw [ea c (List.mem_cons_of_mem _ hc) h3 h4]; exact h1, h2, c, List.mem_cons_of_mem _ hc, h3, h4⟩
    · rintro ⟨h1, h2, c, hc, h3, h4⟩
      rw [ea c hc h3 h4] at h1
      by_cases z : ∃ c ∈ b :: r, c.1 = q.2 ∧ c.2.1 ≤ q.1
      · exact .inr (ih.mpr ⟨h1, h2, z⟩)
      · left
        have hca : c = a := by
          rcases List.mem_cons.mp hc with e | e
          · exact e
          · exact absurd ⟨c, e, h3, h4⟩ z
        subst hca
        obtain ⟨d, hd, h5, h6⟩ := east_some (by rw [← h1]; exact h2)
        have eb : b.1 = c.1 := by
          have hbd : b.1 ≤ d.1 := by
            rcases List.mem_cons.mp hd with rfl | hd
            · exact Int.le_refl _
            · rcases (List.pairwise_cons.mp hp'.2).1 d hd with s | s <;> omega
          rcases s with s | s <;> omega
        have hn : n = sumL wayT (b :: r) := by
          rw [h1, east_row fun e he y => ?_, sum_head hp'.2 hr', eb, h3]
          by_cases y2 : q.1 < e.2.1
          · exact y2
          · exact absurd ⟨e, he, y, by omega⟩ z
        refine ⟨hn, by rw [← hn]; exact h2, h3.symm, h4, ?_⟩
        by_cases y2 : q.1 < b.2.1
        · exact y2
        · exact absurd ⟨b, List.mem_cons_self, by omega, by omega⟩ z
theorem scan_from : ∀ {S : List Tr} {t : Int} {a : Tr} {r : List Tr}, S = a :: r → S.Pairwise leT → ∀ q ∈ scan t S, a.1 < q.1.2 ∨ (a.1 = q.1.2 ∧ a.2.1 ≤ q.1.1)
  | [a], t, _, _, e, _, q, h => by cases h
  | a :: b :: r, t, _, _, e, hp, (q, n), h => by
    cases e
    have hp' := List.pairwise_cons.mp hp
    have s := hp'.1 b List.mem_cons_self
    have h' : (q, n) ∈ segT (t - a.2.2) a b ++ scan (t - a.2.2) (b :: r) := h
    rcases List.mem_append.mp h' with h | h
    · obtain ⟨_, _, h1, h2, _⟩ := mem_segT.mp h
      exact .inr ⟨h1.symm, h2⟩
    · have := scan_from (S := b :: r) rfl hp'.2 (q, n) h
      rcases this with z | z <;> rcases s with s | s
      · exact .inl (by omega)
      · exact .inl (by omega)
      · exact .inl (by omega)
      · exact .inr ⟨by omega, by omega⟩
theorem scan_nodup : ∀ {S : List Tr} {t : Int}, S.Pairwise leT → ((scan t S).map (·.1)).Nodup
  | [], _, _ => List.nodup_nil
  | [_], _, _ => List.nodup_nil
  | a :: b :: r, t, hp => by
    have hp' := List.pairwise_cons.mp hp
    have s := hp'.1 b List.mem_cons_self
    show ((segT (t - a.2.2) a b ++ scan (t - a.2.2) (b :: r)).map (·.1)).Nodup
    rw [List.map_append, List.nodup_append]
    refine ⟨?_, scan_nodup hp'.2, ?_⟩
    · unfold segT
      split
      · exact List.nodup_nil
      · rw [List.map_map, List.nodup_iff_pairwise_ne, List.pairwise_map]
        refine (nodup_rngI a.2.1 b.2.1).imp fun {x y} hxy e => hxy ?_
        have := congrArg Prod.fst e
        exact this
    · intro p hp1 p' hp2 e
      subst e
      obtain ⟨⟨q1, n1⟩, m1, e1⟩ := List.mem_map.mp hp1
      obtain ⟨⟨q2, n2⟩, m2, e2⟩ := List.mem_map.mp hp2
      dsimp only at e1 e2
      subst e1
      subst e2
      obtain ⟨_, _, h1, h2, h3⟩ := mem_segT.mp m1
      have := scan_from (S := b :: r) rfl hp'.2 _ m2
      dsimp only at this
      rcases this with z | z <;> rcases s with s | s <;> omega
theorem scan_all {l : List Nat} {S : List Tr} (h : IsW l) (h0 : posOf l = (0, 0)) (hp : S.Perm (upr (0, 0) l)) (hs : S.Pairwise leT) (q : Pt) (n : Int) : (q, n) ∈ scan 0 S ↔ n = aroundE q l ∧ n ≠ 0 := by
  have hrow : ∀ y, sumL (rowT y) S = 0 := fun y => by
    rw [sumL_perm _ hp]
    exact upr_row h h0 y
  have hR : Rest S := fun a r e y _ => hrow y
  have hE : sumL (eastT q) S = aroundE q l := by
    rw [sumL_perm _ hp]
    exact upr_around q l
  have hW : sumL wayT S = 0 := by
    cases S with
    | nil => rfl
    | cons a r => rw [sum_head hs hR, hrow]
  have key := scan_mem hs hR q n
  rw [hW, hE] at key
  rw [key]
  constructor
  · rintro ⟨h1, h2, _⟩
    exact ⟨h1, h2⟩
  · rintro ⟨h1, h2⟩
    refine ⟨h1, h2, ?_⟩
    by_cases z : ∃ a ∈ S, a.1 = q.2 ∧ a.2.1 ≤ q.1
    · exact z
    · exfalso
      have : sumL (eastT q) S = sumL (rowT q.2) S := east_row fun c hc e => by
        by_cases y : q.1 < c.2.1
        · exact y
        · exact absurd ⟨c, hc, e, by omega⟩ z
      rw [hE, hrow, ← h1] at this
      exact h2 this
theorem box_length (n : Nat) : (box n).length = 2 * n * (2 * n) := by
  unfold box
  rw [List.length_flatMap]
  have e : (fun x => ((rowI n).map fun y => ((x, y) : Pt)).length) = fun _ : Int => 2 * n := funext fun x => by
    rw [List.length_map]
    unfold rowI
    rw [List.length_map, List.length_range]
  rw [e]
  have : ∀ l : List Int, (l.map fun _ => 2 * n).sum = l.length * (2 * n) := fun l => by
    induction l with
    | nil => simp
    | cons x r ih =>
      rw [List.map_cons, List.sum_cons, ih, List.length_cons]
      rw [Nat.add_mul, Nat.one_mul, Nat.add_comm]
  rw [this]
  unfold rowI
  rw [List.length_map, List.length_range]
theorem nodup_len {α : Type} [DecidableEq α] : ∀ {l m : List α}, l.Nodup → (∀ a ∈ l, a ∈ m) → l.length ≤ m.length
  | [], _, _, _ => Nat.zero_le _
  | a :: l, m, h, s => by
    rw [List.nodup_cons] at h
    have := nodup_len (l := l) (m := m.erase a) h.2 fun b hb => by
      have ne : b ≠ a := fun e => h.1 (e ▸ hb)
      exact (List.mem_erase_of_ne ne).mpr (s b (List.mem_cons_of_mem _ hb))
    have ha := s a List.mem_cons_self
    rw [List.length_erase_of_mem ha] at this
    have hpos : 0 < m.length := List.length_pos_of_mem ha
    rw [List.length_cons]
    omega
theorem scan_few {l : List Nat} {S : List Tr} (h : IsW l) (h0 : posOf l = (0, 0)) (hl : l.length ≤ 1000) (hp : S.Perm (upr (0, 0) l)) (hs : S.Pairwise leT) : (scan 0 S).length ≤ 4000000 := by
  have h1 := nodup_len (scan_nodup (t := 0) hs) (m := box l.length) fun q hq => by
    obtain ⟨⟨q', n⟩, hm, e⟩ := List.mem_map.mp hq
    dsimp only at e
    subst e
    have := (scan_all h h0 hp hs q' n).mp hm
    by_cases z : q' ∈ box l.length
    · exact z
    · exact absurd (this.1.trans (around_far h h0 z)) this.2
  rw [List.length_map, box_length] at h1
  have : 2 * l.length * (2 * l.length) ≤ 2000 * 2000 := Nat.mul_le_mul (by omega) (by omega)
  omega
end WM
namespace WM
theorem upr_bound : ∀ {l : List Nat} {p : Pt} {t : Tr}, t ∈ upr p l → (t.2.1 - p.1).natAbs ≤ l.length
  | [], _, _, h => by cases h
  | c :: l, p, t, h => by
    unfold upr at h
    rw [List.length_cons]
    rcases List.mem_append.mp h with h | h
    · split at h
      · rw [List.mem_singleton.mp h]; simp
      · split at h
        · rw [List.mem_singleton.mp h]; simp
        · cases h
    · have := upr_bound h
      have hs : ((stepP p c).1 - p.1).natAbs ≤ 1 := by
        rw [stepP_vec]
        unfold vec
        split
        · simp
        · split
          · simp; omega (config := {})
          · split
            · simp
            · simp; omega (config := {})
      omega (config := {})
end WM
set_option Elab.async false
set_option linter.all false
set_option maxRecDepth 100000
set_option maxHeartbeats 4000000
namespace SW
open PySem L2 WM TS
theorem hu4_of {A : Around} {k : Nat} (hr : Room k A) : A.units + 4 < cLine := Nat.lt_of_le_of_lt (Nat.add_le_add_left (by decide : 4 ≤ 64) _) hr.units
theorem call_sortedTr {X : Cx} : CallR X (.builtin "sorted") (fun xs H Q => ∃ (p : Addr) (as : List Addr) (ps : List Tr), xs = [.ref p] ∧ SqL X.K H p (as.map V.ref) ∧ TrsAt H as ps ∧
      ∀ l as' ps', H l = none → as'.Perm as → TrsAt H as' ps' → ps'.Perm ps → ps'.Pairwise (fun a b => ltT b a = false) → Q (.ref l) (upd H l (.lst (as'.map V.ref)))) :=
  call_sorted_by (0, 0, 0) (fun s v q => IsTr s.heap v q) TrP ltT (fun s v p q h1 h2 => IsTr.uniq h1 h2) (fun I h => isTr_of I (SqT.of h)) (fun hl hz hk h => sorted_trs hl hz hk h)
theorem call_sortedSq {X : Cx} (hu : X.A.units + 4 < cLine) : CallR X (.builtin "sorted") (fun xs H Q => ∃ (p : Addr) (as : List Addr) (ps : List (Pt × Int)), xs = [.ref p] ∧ SqL X.K H p (as.map V.ref) ∧ SqsAt H as ps ∧
      ∀ l as' ps', H l = none → as'.Perm as → SqsAt H as' ps' → ps'.Perm ps → ps'.Pairwise (fun a b => ltQ b a = false) → Q (.ref l) (upd H l (.lst (as'.map V.ref)))) :=
  call_sorted_by ((0, 0), 0) (fun s v q => IsQ s.heap v q) SqP ltQ (fun s v p q h1 h2 => IsQ.uniq h1 h2) (fun I ⟨b, h1, h2⟩ => isQ_of I (SqT.of h1) (SqT.of h2)) (fun hl hz hk h => sorted_qs hu hl hz hk h)
theorem le_of_ltT {a b : Tr} (h : ltT b a = false) : leT a b := by
  unfold ltT at h
  have := of_decide_eq_false h
  unfold leT
  omega (config := {})
theorem sorted_leT {S : List Tr} (h : S.Pairwise fun a b => ltT b a = false) : S.Pairwise leT := h.imp le_of_ltT
theorem rise_of {qs : List (Pt × Int)} (h : qs.Pairwise fun a b => ltQ b a = false) (nd : (qs.map (·.1)).Nodup) : qs.Pairwise fun a b => ltP a.1 b.1 = true := by
  rw [List.nodup_iff_pairwise_ne, List.pairwise_map] at nd
  refine (h.and nd).imp fun {a b} ⟨h1, h2⟩ => ?_
  rw [← Bool.not_eq_true, ltQ_iff] at h1
  unfold ltP
  refine decide_eq_true ?_
  have : ¬ (a.1.1 = b.1.1 ∧ a.1.2 = b.1.2) := fun z => h2 (Prod.ext z.1 z.2)
  omega (config := {})
theorem isSq_of {l : List Nat} {S : List Tr} {qs : List (Pt × Int)} (h : IsW l) (h0 : posOf l = (0, 0)) (hl : l.length ≤ 1000) (hp : S.Perm (upr (0, 0) l)) (hs : S.Pairwise leT) (hq : qs.Perm (scan 0 S)) (ho : qs.Pairwise fun a b => ltQ b a = false) : IsSq l qs := by
  refine ⟨rise_of ho ?_, fun q n => ?_, ?_⟩
  · exact (hq.map (·.1)).nodup_iff.mpr (scan_nodup hs)
  · rw [hq.mem_iff]
    exact scan_all h h0 hp hs q n
  · rw [hq.length_eq]
    have := scan_few h h0 hl hp hs
    omega
theorem comp_filtL {K : PySem.W.Frag} {a : Addr} {xs : List V} {k : Nat} {g : BK TG} {tt : BK TT} {te : BK TE} {σ : St} {H1 : Hp} {Q : VK} (sl : V → St) (hsl : ∀ x, (sl x).length = k) (p : Nat → Bool) (f : Nat → V) (hsz : xs.length ≤ sizeLine) (hl : SqL K H1 a xs)
    (hg : ∀ C fp s₀ H₀ (i : Nat) x, xs[i]? = some x → ∀ H3 (R : St → Hp → Prop), Same H1 H3 → R (σ ++ sl x) H3 → g C fp s₀ H₀ x (σ ++ List.replicate k none) H3 R)
    (ht : ∀ C fp s₀ H₀ (i : Nat) x, xs[i]? = some x → ∀ H3 (R : Bool → Hp → Prop), Same H1 H3 → (∀ H4, Same H3 H4 → R (p i) H4) → tt C fp s₀ H₀ (σ ++ sl x) H3 R)
    (hel : ∀ C fp s₀ H₀ (i : Nat) x, xs[i]? = some x → p i = true → ∀ H3 (R : VK), Same H1 H3 → (∀ H4, Same H3 H4 → R (f i) H4) → te C fp s₀ H₀ (σ ++ sl x) H3 R)
    (hq : ∀ D H', H1 D = none → Same H1 H' → H' D = some (.lst (((List.range xs.length).filter p).map f)) → Q (.ref D) H') :
    CompIn k (Itl K a) g tt te σ H1 Q := by
  unfold CompIn
  intro D hD
  refine ⟨fun i m ys H2 => m = xs.length - i ∧ i ≤ xs.length ∧ ys = ((List.range i).filter p).map f ∧ Same H1 H2 ∧ H2 D = some (.lst ys), ⟨xs.length, by simp, Nat.zero_le _, by simp, same_upd hD (Same.refl _), upd_same⟩, ?_⟩
  rintro i m ys H2 ⟨rfl, hi, rfl, s2, hDl⟩
  refine ⟨hDl, ?_⟩
  by_cases hlt : i < xs.length
  · refine .inr ⟨⟨xs, xs[i], s2.seq hl, by simp [hlt]⟩, fun x H3 y C fp s₀ H₀ => ?_⟩
    obtain ⟨rfl, hy⟩ := y
    have hx := hy xs (s2.seq hl)
    refine hg C fp s₀ H₀ i x hx H3 _ s2 ⟨⟨sl x, rfl, hsl x⟩, ?_⟩
    refine ht C fp s₀ H₀ i x hx _ _ s2 fun H4 s4 => ?_
    cases hp : p i with
    | true =>
      rw [if_pos rfl]
      refine hel C fp s₀ H₀ i x hx hp H4 _ (s2.trans s4) fun H5 s5 => ⟨s5 D _ (s4 D _ hDl), ?_, xs.length - (i + 1), by omega, rfl, hlt, ?_, same_upd hD ((s2.trans s4).trans s5), upd_same⟩
      · rw [List.length_map]
        have := List.length_filter_le p (List.range i)
        rw [List.length_range] at this
        omega
      · rw [List.range_succ, List.filter_append, List.map_append, List.filter_cons_of_pos hp]
        rfl
    | false =>
      rw [if_neg Bool.false_ne_true]
      refine ⟨xs.length - (i + 1), by omega, rfl, hlt, ?_, s2.trans s4, s4 D _ hDl⟩
      rw [List.range_succ, List.filter_append, List.map_append, List.filter_cons_of_neg (by rw [hp]; exact Bool.false_ne_true)]
      simp
  · have e : i = xs.length := by omega
    subst e
    exact .inl ⟨⟨xs, s2.seq hl, Nat.le_refl _⟩, hq D H2 hD s2 hDl⟩
theorem sum_filt {α : Type} (f : α → Int) (pr : α → Bool) (z : α) : ∀ (ts : List α), (((List.range ts.length).filter fun i => pr (ts.getD i z)).map fun i => f (ts.getD i z)).sum = sumL (fun t => if pr t = true then f t else 0) ts := by
  intro ts
  have key : ∀ n, n ≤ ts.length → (((List.range n).filter fun i => pr (ts.getD i z)).map fun i => f (ts.getD i z)).sum = sumL (fun t => if pr t = true then f t else 0) (ts.take n) := by
    intro n
    induction n with
    | zero => intro _; rw [List.take_zero]; rfl
    | succ n ih =>
      intro hn
      have ht : ts.take (n + 1) = ts.take n ++ [ts[n]] := by rw [List.take_add_one, List.getElem?_eq_getElem (by assumption)]; rfl
      have eg : ts.getD n z = ts[n] := by rw [List.getD_eq_getElem?_getD, List.getElem?_eq_getElem (by assumption)]; rfl
      rw [ht, sumL_append, ← ih (by omega), List.range_succ, List.filter_append, List.map_append, List.sum_append]
      congr 1
      by_cases hp : pr ts[n] = true
      · rw [List.filter_cons_of_pos (by rw [eg]; exact hp)]
        show f (ts.getD n z) + 0 = (if pr ts[n] = true then f ts[n] else 0) + 0
        rw [if_pos hp, eg]
      · rw [List.filter_cons_of_neg (by rw [eg]; exact hp)]
        show (0 : Int) = (if pr ts[n] = true then f ts[n] else 0) + 0
        rw [if_neg hp]
        rfl
  have := key ts.length (Nat.le_refl _)
  rw [List.take_of_length_le (Nat.le_refl _)] at this
  exact this
theorem paired_of {β : Type} {S : Addr → β → Prop} : ∀ (ys : List V) (g : Nat → β), (∀ (i : Nat) y, ys[i]? = some y → ∃ a, y = .ref a ∧ S a (g i)) → ∃ cs : List Addr, ys = cs.map V.ref ∧ Paired S cs ((List.range ys.length).map g)
  | [], _, _ => ⟨[], rfl, .nil⟩
  | y :: ys, g, h => by
    obtain ⟨a, rfl, ha⟩ := h 0 y rfl
    obtain ⟨cs, e, hp⟩ := paired_of ys (fun i => g (i + 1)) fun i y hy => h (i + 1) y (by simpa using hy)
    refine ⟨a :: cs, by rw [e]; rfl, ?_⟩
    rw [List.length_cons, List.range_succ_eq_map, List.map_cons, List.map_map]
    exact .cons ha hp
theorem segT_eq {t : Int} {a b : Tr} (h : ¬ t = 0) : segT t a b = (List.range (b.2.1 - a.2.1).toNat).map fun (i : Nat) => ((a.2.1 + (i : Int), a.1), t) := by
  unfold segT rngI
  rw [if_neg h, List.map_map]
  rfl
end SW
set_option Elab.async false
set_option linter.all false
set_option maxRecDepth 100000
set_option maxHeartbeats 1000000
namespace PySem
noncomputable def Heap.DictEs (h : Heap) (d : Addr) (es : Array DictEntry) (ep : Nat) : Prop := ∃ o, h.get? d = some o ∧ o.ExactDict ∧ o.data = .dict es ep
section
variable {prog : Program} {w : World} {A : Around} {E : Value → Shared → Prop} {s : Shared}
theorem Heap.DictEs.at {h h' : Heap} {d : Addr} {es : Array DictEntry} {ep : Nat} (x : h.DictEs d es ep) (k : ∀ o, h.get? d = some o → h'.get? d = some o) : h'.DictEs d es ep := let ⟨o, ho, r⟩ := x; ⟨o, k o ho, r⟩
theorem pyNext_keyE_item {it d : Addr} {es : Array DictEntry} {ep i : Nat} {e : DictEntry} {Q : Option Value → Shared → Prop} (hit : s.heap.IsKeyIter it d i es.size ep) (hd : s.heap.DictEs d es ep) (he : es[i]? = some e)
    (hQ : ∀ h', h'.IsKeyIter it d (i + 1) es.size ep → Heap.SameBut it s.heap h' → Q (some e.key) { s with heap := h' }) : wpAny (model prog w) A (pyNext (.ref it)) Q E s := by
  refine gate' fun gG hgG => ?_
  obtain ⟨o, ho, hc, hf⟩ := id hit
  obtain ⟨od, hod, hex, hdd⟩ := id hd
  refine hgG.go ?_
  clear hgG
  have hT : s.TypeIs (.ref it) "dict_keyiterator" := ⟨o, ho, hc⟩
  unfold pyNext
  refine wpAny_bind (wpAny_attempt (wpAny_callSpecial?_slot (name := Str.ofString "__next__") hT F.slot_dict_keyiterator_next
    (wpAny_call_entry F.slot_dict_keyiterator_next hT F.entry_dict_keyiterator_next ?_ (F.args_dict_keyiterator_next_1 _))))
  unfold Builtin.«dict_keyiterator.__next__»
  refine wpAny_bind (m := Builtin.Dict_items.slot0 "__next__" _) (wpAny_of_eq (a := Value.ref it) rfl ?_)
  refine wpAny_bind ?_
  refine wpAny_bind (wpAny_bind (wpAny_typeNameOfWhole_keyiter hT (wpAny_pure ?_)))
  refine wpAny_bind (wpAny_fieldsOf ho hf ?_)
  show wpAny _ _ (if (Value.ref d == Value.none) = true then _ else _) _ _ _
  rw [if_neg (show ¬ ((Value.ref d == Value.none) = true) from Bool.false_ne_true)]
  refine wpAny_bind (m := Builtin.Dict_items.addrOf (Value.ref d)) (wpAny_of_eq (a := d) rfl ?_)
  refine wpAny_bind (wpAny_dictEntries hod hdd ?_)
  dsimp only
  rw [if_neg (by simp)]
  refine wpAny_bind (m := Builtin.Dict_items.addrOf (Value.ref d)) (wpAny_of_eq (a := d) rfl ?_)
  refine wpAny_bind (wpAny_dictEpoch hod hdd ?_)
  rw [if_neg (by simp)]
  refine wpAny_pure ?_
  dsimp only
  rw [if_neg (by omega), Int.toNat_natCast, he]
  dsimp only
  refine wpAny_bind (wpAny_bind (wpAny_typeNameOfWhole_keyiter hT (wpAny_pure ?_)))
  refine wpAny_bind (wpAny_isOneOf_keyiter hT ?_)
  show wpAny _ _ (setField (.ref it) 1 (rawInt ((i : Int) + 1)) >>= _) _ _ _
  refine wpAny_bind (wpAny_setField ho hf (by simp) ?_)
  have hit2 : (s.heap.update it (Obj.mapFields fun x_1 => x_1.setIfInBounds 1 (rawInt ((i : Int) + 1)))).IsKeyIter it d (i + 1) es.size ep := by
    refine ⟨_, Heap.get?_update_self _ ho (Obj.isFreed_of_fields (Obj.data_mapFields hf _)), (Obj.cls_mapFields ..).trans hc, ?_⟩
    rw [Obj.data_mapFields hf]
    simp [rawInt]
  refine wpAny_bind (wpAny_holding ?_)
  have hT2 : ({ s with heap := s.heap.update it (Obj.mapFields fun x_1 => x_1.setIfInBounds 1 (rawInt ((i : Int) + 1))) } : Shared).TypeIs (.ref it) "dict_keyiterator" := let ⟨o, ho, hc, _⟩ := hit2; ⟨o, ho, hc⟩
  refine wpAny_bind (wpAny_isOneOf_keyiter hT2 ?_)
  show wpAny _ _ (pure e.key) _ _ _
  refine wpAny_pure ?_
  refine wpAny_pure ⟨_, rfl, wpAny_pure ?_⟩
  exact hQ _ hit2 (Heap.SameBut.update ..)
theorem pyNext_keyE_end {it d : Addr} {es : Array DictEntry} {ep : Nat} {Q : Option Value → Shared → Prop} (hh : A.handled = none) (hit : s.heap.IsKeyIter it d es.size es.size ep) (hd : s.heap.DictEs d es ep)
    (hQ : ∀ h', Heap.ExtBut it s.heap h' → Q none { s with heap := h' }) : wpAny (model prog w) A (pyNext (.ref it)) Q E s := by
  refine gate' fun gG hgG => ?_
  obtain ⟨o, ho, hc, hf⟩ := id hit
  obtain ⟨od, hod, hex, hdd⟩ := id hd
  refine hgG.go ?_
  clear hgG
  have hT : s.TypeIs (.ref it) "dict_keyiterator" := ⟨o, ho, hc⟩
  unfold pyNext
  refine wpAny_bind (wpAny_attempt (wpAny_callSpecial?_slot (name := Str.ofString "__next__") hT F.slot_dict_keyiterator_next
    (wpAny_call_entry F.slot_dict_keyiterator_next hT F.entry_dict_keyiterator_next ?_ (F.args_dict_keyiterator_next_1 _))))
  unfold Builtin.«dict_keyiterator.__next__»
  refine wpAny_bind (m := Builtin.Dict_items.slot0 "__next__" _) (wpAny_of_eq (a := Value.ref it) rfl ?_)
  refine wpAny_bind ?_
  refine wpAny_bind (wpAny_bind (wpAny_typeNameOfWhole_keyiter hT (wpAny_pure ?_)))
  refine wpAny_bind (wpAny_fieldsOf ho hf ?_)
  show wpAny _ _ (if (Value.ref d == Value.none) = true then _ else _) _ _ _
  rw [if_neg (show ¬ ((Value.ref d == Value.none) = true) from Bool.false_ne_true)]
  refine wpAny_bind (m := Builtin.Dict_items.addrOf (Value.ref d)) (wpAny_of_eq (a := d) rfl ?_)
  refine wpAny_bind (wpAny_dictEntries hod hdd ?_)
  dsimp only
  rw [if_neg (by simp)]
  refine wpAny_bind (m := Builtin.Dict_items.addrOf (Value.ref d)) (wpAny_of_eq (a := d) rfl ?_)
  refine wpAny_bind (wpAny_dictEpoch hod hdd ?_)
  rw [if_neg (by simp)]
  refine wpAny_pure ?_
  dsimp only
  rw [if_neg (by omega), Int.toNat_natCast, Array.getElem?_eq_none (Nat.le_refl _)]
  dsimp only
  refine wpAny_bind (wpAny_bind (wpAny_typeNameOfWhole_keyiter hT (wpAny_pure ?_)))
  show wpAny _ _ (setField (.ref it) 0 Value.none >>= _) _ _ _
  refine wpAny_bind (wpAny_setField ho hf (by simp) ?_)
  refine wpAny_bind ?_
  simp only [newExc, newTuple]
  refine wpAny_bind (wpAny_newObj_type ?_ (by size_fits))
  refine wpAny_bind (m := firstArgMember _ _) (wpAny_of_eq (a := Value.none) (by first | rfl | (simp only [firstArgMember]; rfl)) ?_)
  refine wpAny_newObj_type ?_ (by size_fits)
  simp only [raiseNew]
  refine wpAny_bind (wpAny_handled ?_)
  first | rw [show A.in1.handled = none from hh] | rw [hh]
  refine wpAny_bind (wpAny_pure (wpAny_throw ?_))
  refine wpAny_bind (wpAny_isInstance (T := "StopIteration") (b := true) ⟨_, Heap.get?_push_size _ rfl, rfl⟩ isSubtype_stop ?_)
  refine wpAny_pure (hQ _ fun b ob hb e => ?_)
  refine Heap.get?_push_of_some _ (Heap.get?_push_of_some _ ?_)
  exact (Heap.get?_update_other _ _ (Ne.symm hb)).trans e
theorem pyIter_dictE {d : Addr} {es : Array DictEntry} {ep : Nat} {Q : Value → Shared → Prop} (hs : (d == sysModules) = false) (hd : s.heap.DictEs d es ep)
    (h : Q (.ref s.heap.objs.size) { s with heap := s.heap.push { cls := .type "dict_keyiterator", data := .fields #[.ref d, rawInt 0, rawInt (es.size : Int), rawInt (ep : Int)] } }) : wpAny (model prog w) A (pyIter (.ref d)) Q E s := by
  obtain ⟨o, ho, hex, hdd⟩ := id hd
  have hT : s.TypeIs (.ref d) "dict" := ⟨o, ho, hex.1⟩
  refine wpAny_pyIter_slot hT F.slot_dict_iter (wpAny_call_entry F.slot_dict_iter hT F.entry_dict_iter ?_ (F.args_dict_iter_1 _))
  unfold Builtin.«dict.__iter__»
  refine wpAny_bind ?_
  unfold Builtin.Dict.dictSlotNone
  refine wpAny_bind (m := Builtin.Dict.notOrdered _ _) (wpAny_notOrdered_dict hT ?_)
  refine wpAny_bind (wpAny_of_eq (a := (Value.ref d, [])) rfl (wpAny_pure ?_))
  refine wpAny_bind (m := Builtin.Dict.addrOf (Value.ref d)) (wpAny_of_eq (a := d) rfl ?_)
  refine wpAny_bind (m := Builtin.Dict.showsAll d) (wpAny_of_eq (a := ()) (by unfold Builtin.Dict.showsAll; rw [hs]; rfl) ?_)
  refine wpAny_bind (wpAny_dictEntries ho hdd ?_)
  refine wpAny_bind (wpAny_dictEpoch ho hdd ?_)
  unfold newFields
  refine wpAny_bind (wpAny_newObj_type ?_ (by size_fits))
  refine wpAny_pure ⟨_, rfl, "dict_keyiterator", _, ⟨_, Heap.get?_push_size _ rfl, rfl⟩, F.slot_dict_keyiterator_next.lookup, h⟩
theorem walks_dictE (hh : A.handled = none) (I d : Addr) (hdI : d ≠ I) (es : Array DictEntry) (ep : Nat) :
    Walks prog w A I [I, d] [I] es.size (fun i v => ∃ e, es[i]? = some e ∧ v = e.key) (fun i h => h.IsKeyIter I d i es.size ep ∧ h.DictEs d es ep) where
  sub := fun b hb => by simp at hb; simp [hb]
  frame := fun i h h' ⟨x, y⟩ k => ⟨let ⟨o, ho, r⟩ := x; ⟨o, k I (by simp) o ho, r⟩, y.at fun o q => k d (by simp) o q⟩
  item := fun i s Q E hi ⟨x, y⟩ h => by
    refine pyNext_keyE_item x y (e := es[i]) (Array.getElem?_eq_getElem hi) fun h' x' sb => ?_
    exact h _ h' s.toks ⟨_, Array.getElem?_eq_getElem hi, rfl⟩ ⟨x', y.at fun o q => (sb.2 d hdI).trans q⟩ fun b o hb q => (sb.2 b (by simpa using hb)).trans q
  done := fun s Q E ⟨x, y⟩ h => pyNext_keyE_end hh x y fun h' eb => h h' s.toks fun b o hb q => eb b o (by simpa using hb) q
  self := fun i s Q E ⟨⟨o, ho, hc, hf⟩, y⟩ h => by
    exact wpAny_pyIter_keyiter (d := d) (i := i) (n := es.size) (ep := ep) ⟨o, ho, hc, hf⟩ h
theorem kdl_dictE {d : Addr} {es : Array DictEntry} {ep : Nat} (hs : (d == sysModules) = false) : PySem.W.KdlSrc prog w "dict" d d es.size (fun i v => ∃ e, es[i]? = some e ∧ v = e.key) (fun h => h.DictEs d es ep) where
  type := fun s ⟨o, ho, hex, _⟩ => ⟨o, ho, hex.1⟩
  there := fun h ⟨o, ho, _⟩ => ⟨Heap.lt_size ho, Heap.lt_size ho⟩
  keep := fun h h' x k => x.at fun o q => k d (.inl rfl) o q
  notList := by decide
  notTuple := by decide
  hint := fun A E s Q ⟨o, ho, hex, _⟩ hq => PySem.W.kdl_hint_dict ⟨o, ho, hex.1⟩ hq
  iter := fun A s hh hd => by
    have hlt : d < s.heap.objs.size := let ⟨o, ho, _⟩ := hd; Heap.lt_size ho
    refine ⟨_, fun i h => h.IsKeyIter s.heap.objs.size d i es.size ep ∧ h.DictEs d es ep, fun E Q h => pyIter_dictE hs hd h, walks_dictE hh _ d (Nat.ne_of_lt hlt) es ep, ⟨_, Heap.get?_push_size _ rfl, rfl, rfl⟩, hd.at fun o q => Heap.get?_push_of_some _ q⟩
noncomputable def CollR (s : Shared) (P : Nat → Value → Prop) (n : Nat) (r : Result) (s' : Shared) : Prop := ∃ (h' : Heap) (tk : Nat) (acc : Array Value) (c : Nat), r = Except.ok (Flow.ret (Value.ref s.heap.objs.size)) ∧ s' = { s with heap := h', toks := tk } ∧ (∀ b o, s.heap.get? b = some o → h'.get? b = some o) ∧ h'.get? s.heap.objs.size = some { cls := Value.type "list", data := Data.seq acc c } ∧ ItemsOf P acc n
theorem collect_src {T : String} {r d : Addr} {n : Nat} {P : Nat → Value → Prop} {OK : Heap → Prop} {Q : List Value → Shared → Prop} (S : PySem.W.KdlSrc prog w T r d n P OK) (hh : A.handled = none) (hok : OK s.heap) (hn : n ≤ sizeLine)
    (h : ∀ (h' : Heap) (tk : Nat) (acc : Array Value), (∀ b o, s.heap.get? b = some o → h'.get? b = some o) → ItemsOf P acc n → Q acc.toList { s with heap := h', toks := tk }) : wpAny (model prog w) A (collect (.ref r)) Q E s := by
  unfold collect
  refine wpAny_bind (wpAny_runValue (codeAny_mono (R := CollR s P n) (codeAny_builtin F.entry_proto_collect ?_) ?_))
  · rw [Around.under_plainId F.plain_proto_collect _]
    unfold Builtin.«proto.collect»
    dsimp only
    refine wpAny_bind (wpAny_newList ?_ (Nat.zero_le _))
    refine wpAny_pure ⟨plainId_quiet F.plain_list_iadd _, codeAny_builtin F.entry_list_iadd ?_⟩
    rw [Around.under_plainId F.plain_list_iadd _]
    unfold Builtin.«list.__iadd__»
    refine wpAny_bind (wpAny_of_eq (a := (Value.ref s.heap.objs.size, [Value.ref r])) rfl ?_)
    dsimp only
    have hlt := S.there _ hok
    have k1 : ∀ b o, s.heap.get? b = some o → (s.heap.push { cls := Value.type "list", data := Data.seq ([] : List Value).toArray 0 }).get? b = some o := fun b o q => Heap.get?_push_of_some _ q
    exact PySem.W.kdl_extend (R := CollR s P n) (s := { s with heap := s.heap.push { cls := Value.type "list", data := Data.seq ([] : List Value).toArray 0 } }) S hh (S.keep _ _ hok fun b _ o q => k1 b o q) s.heap.objs.size (Nat.ne_of_gt hlt.1) (Nat.ne_of_gt hlt.2) (Value.ref s.heap.objs.size) 0 (Heap.get?_push_size _ rfl)
      (fun h' tk acc c hk hS hi => ⟨h', tk, acc, c, rfl, rfl, fun b o q => hk b o (Nat.ne_of_lt (Heap.lt_size q)) (k1 b o q), hS, hi⟩) hn
  · intro r s' hI_
    refine gate' fun gG hgG => ?_
    obtain ⟨h', tk, acc, c, rfl, rfl, hk, hS, hi⟩ := hI_
    refine hgG.go ?_
    clear hgG
    dsimp only
    refine wpAny_bind (wpAny_load hS ?_)
    dsimp only
    exact wpAny_pure (h h' tk acc hk hi)
end
end PySem
namespace TS
open PySem PyProof.Rows PySem.W
section
variable {prog : Program} {w : World} {A : Around} {E : Value → Shared → Prop} {s : Shared} {κ : SortKind} {D : Keyed → Prop} {R : Keyed → Keyed → Bool}
theorem sorted_src {T : String} {r d : Addr} {n : Nat} {Pi : Nat → Value → Prop} {OK : Heap → Prop} {Q : Value → Shared → Prop} (S : KdlSrc prog w T r d n Pi OK) (hh : A.handled = none) (hok : OK s.heap) (hz : n ≤ sizeLine) (hD : ∀ vs : List Value, vs.length = n → (∀ (j : Nat) v, vs[j]? = some v → Pi j v) → ∀ v ∈ vs, D (v, v))
    (C : ∀ (A' : Around) h' tk, A'.units ≤ A.units + 4 → (∀ b o, s.heap.get? b = some o → h'.get? b = some o) → Cmp prog w A' { s with heap := h', toks := tk } κ D R)
    (hkk : ∀ (A : Around) (E : Value → Shared → Prop) h' tk (vs : List Value), (∀ b o, s.heap.get? b = some o → h'.get? b = some o) → vs.length = n → (∀ (j : Nat) v, vs[j]? = some v → Pi j v) → 2 ≤ vs.length → ∀ (Q : SortKind → Shared → Prop), Q κ { s with heap := h', toks := tk } → wpAny (model prog w) A (keyKind' vs.toArray) Q E { s with heap := h', toks := tk })
    (h : ∀ (vs : List Value) (out : Array Value) (h1 h' : Heap) (tk : Nat) (e : Nat), vs.length = n → (∀ (j : Nat) v, vs[j]? = some v → Pi j v) → out.toList.Perm vs → out.toList.Pairwise (leV R) → (∀ b o, s.heap.get? b = some o → h1.get? b = some o) → (∀ b o, h1.get? b = some o → h'.get? b = some o) → h'.get? h1.objs.size = some (seqObj "list" out e) → Q (.ref h1.objs.size) { s with heap := h', toks := tk }) :
    wpAny (model prog w) A (call (.builtin "sorted") [.ref r]) Q E s := by
  refine Calls.call_function_entry kind_sorted plain_sorted entry_sorted (args_sorted1 _) ?_
  unfold Builtin.«sorted»
  refine wpAny_bind (m := checkCount "sorted" 1 1 _) (wpAny_pure ?_)
  refine wpAny_bind (collect_src S hh hok hz fun h1 tk acc hk hi => ?_)
  have hlen : acc.toList.length = n := by rw [Array.length_toList]; exact hi.1
  have hPi : ∀ (j : Nat) v, acc.toList[j]? = some v → Pi j v := fun j v e => hi.2 j v (by rw [← Array.getElem?_toList]; exact e)
  refine wpAny_bind (wpAny_newList ?_ (by rw [hlen]; exact hz))
  have hoL : (h1.push (seqObj "list" acc.toList.toArray 0)).get? h1.objs.size = some (seqObj "list" acc.toList.toArray 0) := Heap.get?_push_size _ rfl
  have kept : ∀ b o, s.heap.get? b = some o → (h1.push (seqObj "list" acc.toList.toArray 0)).get? b = some o := fun b o e => Heap.get?_push_of_some _ (hk b o e)
  have lt1 : ∀ b o, s.heap.get? b = some o → b < h1.objs.size := fun b o e => Heap.lt_size (hk b o e)
  have ne1 : ∀ b o, s.heap.get? b = some o → b ≠ h1.objs.size := fun b o e => Nat.ne_of_lt (lt1 b o e)
  show wpAny _ _ _ _ _ { s with heap := h1.push (seqObj "list" acc.toList.toArray 0), toks := tk }
  refine wpAny_bind (wpAny_holding (wpAny_call_entry slot_list_sort ⟨_, hoL, rfl⟩ entry_list_sort (list_sort_any (s := { s with heap := h1.push (seqObj "list" acc.toList.toArray 0), toks := tk }) (κ := κ) (D := D) (R := R) hoL (by rw [hlen]; exact hz) (hD _ hlen hPi)
    (fun h' k => C _ h' tk (by show A.units + 1 + 1 ≤ A.units + 4; omega) fun b o e => k b o (ne1 b o e) (kept b o e)) (fun h' k h2 Q' hq => hkk _ _ h' tk _ (fun b o e => k b o (ne1 b o e) (kept b o e)) hlen hPi h2 Q' hq) fun out a1 a2 => ⟨_, rfl, ?_⟩) (args_list_sort _)))
  obtain ⟨e, he⟩ := sortedHeap_at (out := out) (vs := acc.toList) hoL
  refine wpAny_pure ⟨_, rfl, h acc.toList out h1 _ tk e hlen hPi a1 a2 hk (fun b o q => ?_) he⟩
  have lt2 : b < h1.objs.size := Heap.lt_size q
  rw [sortedHeap_old (Nat.ne_of_lt lt2) (show b < (h1.push (seqObj "list" acc.toList.toArray 0)).objs.size by rw [Heap.size_push]; exact Nat.lt_succ_of_lt lt2)]
  exact Heap.get?_push_of_some _ q
end
end TS
set_option Elab.async false
set_option linter.all false
set_option maxRecDepth 100000
set_option maxHeartbeats 1000000
namespace L2
open PySem PySem.Spec PyProof.Rows TS
section
variable {X : Cx}
theorem call_isC : CallR X (.builtin "isinstance") (fun xs H Q => ∃ x C t b, xs = [x, .ref C] ∧ TyOf X.K H x t ∧ PySem.W.kitOne X.K t (.ref C) = some b ∧ Q (.bl b) H) := by
  intro pins s σ H xs us Q I r h
  refine gate' fun gG hgG => ?_
  obtain ⟨x, C, t, b, rfl, ty, e, q⟩ := h
  obtain ⟨u, w', rfl, ru, rw'⟩ := vals2 r
  refine hgG.go ?_
  clear hgG
  cases (show w' = Value.ref C from rw')
  exact isinst_ok I ru ty e fun tk => ⟨.bl b, H, I.tok tk, rfl, q⟩
end
end L2
namespace SW
open PySem PySem.Spec PyProof.Rows L2 WM TS
noncomputable def ptK (q : Pt) : List Key := [.inl q.1, .inl q.2]
theorem ptK_inj {p q : Pt} (h : ptK p = ptK q) : p = q := by
  unfold ptK at h
  injection h with h1 h2
  injection h2 with h2 _
  exact Prod.ext (Sum.inl.inj h1) (Sum.inl.inj h2)
theorem ptK_kV (q : Pt) : (ptK q).map kV = [.int q.1, .int q.2] := rfl
section
variable {X : Cx}
theorem call_sortedD (hc : X.calm = true) : CallR X (.builtin "sorted") (fun xs H Q => ∃ (p : Addr) (kvs : List (List Key × V)) (ps : List Pt), xs = [.ref p] ∧ Rd H p (.dT kvs) ∧ kvs.map (·.1) = ps.map ptK ∧
    ∀ l as' ps', H l = none → Tups H as' ps' → ps'.Perm ps → ps'.Pairwise (fun a b => ltP b a = false) → Q (.ref l) (upd H l (.lst (as'.map V.ref)))) := by
  intro pins s σ H xs us Q I r h
  refine gate' fun gG hgG => ?_
  obtain ⟨p, kvs, ps, rfl, hp, hks, q⟩ := h
  obtain ⟨u, rfl, ru⟩ := vals1 r
  refine hgG.go ?_
  clear hgG
  cases (show u = Value.ref p from ru)
  refine gate' fun gG hgG => ?_
  obtain ⟨hz, hsys, xs, hKT, o, es, ep, ho, hex, hdd, hes, hnd⟩ := (show ObjOk X.prog X.w H s.heap p (.dT kvs) from hp.ok I.hok)
  refine hgG.go ?_
  clear hgG
  let as := xs.map fun x => x.2.1
  have hTup : Tups H as ps := by
    have go : ∀ {kvs : List (List Key × V)} {xs : List (List Key × Addr × Value)} {ps : List Pt}, Paired (fun (p : List Key × V) (q : List Key × Addr × Value) => p.1 = q.1 ∧ H q.2.1 = some (.tup (p.1.map kV)) ∧ RelV p.2 q.2.2) kvs xs → kvs.map (·.1) = ps.map ptK → Tups H (xs.map fun x => x.2.1) ps := by
      intro kvs xs ps hP
      induction hP generalizing ps with
      | nil =>
        intro e
        cases ps with
        | nil => exact .nil
        | cons a b => cases e
      | cons h t ih =>
        intro e
        cases ps with
        | nil => cases e
        | cons a b =>
          rw [List.map_cons, List.map_cons] at e
          injection e with e1 e2
          obtain ⟨h1, h2, h3⟩ := h
          rw [e1, ptK_kV] at h2
          exact .cons h2 (ih e2)
    exact go hKT hks
  have hkeys : es.toList.map (·.key) = as.map Value.ref := by
    rw [hes, List.map_map, List.map_map]
    rfl
  have hsz : es.size ≤ sizeLine := by
    have e1 : es.size = xs.length := by rw [← Array.length_toList, hes, List.length_map]
    have e2 : kvs.length = xs.length := Paired.length hKT
    omega
  have all : ∀ vs : List Value, vs.length = es.size → (∀ (j : Nat) v, vs[j]? = some v → ∃ e, es[j]? = some e ∧ v = e.key) → vs = as.map Value.ref := fun vs hl hv => by
    rw [← hkeys]
    refine List.ext_getElem? fun j => ?_
    rw [List.getElem?_map]
    cases ej : vs[j]? with
    | none =>
      have : vs.length ≤ j := by simpa using ej
      rw [List.getElem?_eq_none (by rw [Array.length_toList]; omega)]
      rfl
    | some v =>
      obtain ⟨e, he, rfl⟩ := hv j v ej
      rw [Array.getElem?_toList, he]
      rfl
  have hpt : ∀ {a}, a ∈ as → ∃ q : Pt, H a = some (.tup [.int q.1, .int q.2]) ∧ IsPt s.heap (.ref a) q := fun {a} ha => by
    obtain ⟨b, _, hb⟩ := paired_mem hTup ha
    exact ⟨b, hb, isPt_of I (SqT.of hb)⟩
  have hpk : ∀ v ∈ as.map Value.ref, IsPt s.heap v (keyP s.heap v) := fun v hv => by
    obtain ⟨a, ha, rfl⟩ := List.mem_map.mp hv
    obtain ⟨q, _, hq⟩ := hpt ha
    rw [keyP_of hq]
    exact hq
  refine sorted_src (κ := tuples' true) (D := fun x => x.1 ∈ as.map Value.ref) (R := fun x y => ltP (keyP s.heap x.1) (keyP s.heap y.1)) (kdl_dictE (es := es) (ep := ep) hsys) (I.ok.hd hc) ⟨o, ho, hex, hdd⟩ hsz (fun vs hl hv v hm => ?_) (fun A' h' tk _ k => ?_) (fun A' E' h' tk vs k hl hv h2 Q' hq => ?_) (fun vs out h1 h' tk e hl hv hperm hsort k1 k2 he => ?_)
  · rw [← all vs hl hv]
    exact hm
  · exact cmp_pts (s := { s with heap := h', toks := tk }) fun v hv => (hpk v hv).kept k
  · rw [all vs hl hv] at h2 ⊢
    exact kind_pts (s := { s with heap := h', toks := tk }) (fun v hv => (hpk v hv).kept k) h2 hq
  · rw [all vs hl hv] at hperm
    have eout : out.toList = (out.toList.map addrV).map Value.ref := by
      rw [List.map_map]
      conv => lhs; rw [← List.map_id' out.toList]
      refine List.map_congr_left fun v hv => ?_
      obtain ⟨a, _, rfl⟩ := List.mem_map.mp (hperm.mem_iff.mp hv)
      rfl
    have hpa : (out.toList.map addrV).Perm as := by
      have := hperm.map addrV
      rw [List.map_map] at this
      exact this.trans (List.Perm.of_eq (List.map_id' as))
    generalize out.toList.map addrV = as' at *
    have eps : ps = as.map fun a => keyP s.heap (.ref a) := paired_eq hTup fun a _ b hb => (keyP_of (isPt_of I (SqT.of hb))).symm
    have I1 : Inv X pins σ H { s with heap := h1, toks := tk } := I.kept (t' := tk) k1
    have hfree : H h1.objs.size = none := I1.hok.fresh (Nat.le_refl _)
    have hlen : as'.length ≤ sizeLine := by
      rw [hpa.length_eq, List.length_map]
      have e1 : es.size = xs.length := by rw [← Array.length_toList, hes, List.length_map]
      omega
    have I2 : Inv X pins σ (upd H h1.objs.size (.lst (as'.map V.ref))) { s with heap := h', toks := tk } := by
      refine I1.laid (t' := tk) (fun b u hb => k2 b u hb) (Nat.le_refl _) ?_
      refine ⟨by rw [List.length_map]; exact hlen, as'.map Value.ref, e, refs_vals as', ?_⟩
      rw [← eout]
      exact he
    refine ⟨.ref h1.objs.size, _, I2, rfl, q _ as' (as'.map fun a => keyP s.heap (.ref a)) hfree (paired_map fun a ha => ?_) ?_ ?_⟩
    · obtain ⟨q', hq', hq2⟩ := hpt (hpa.mem_iff.mp ha)
      show H a = some (.tup [.int (keyP s.heap (.ref a)).1, .int (keyP s.heap (.ref a)).2])
      rw [keyP_of hq2]
      exact hq'
    · rw [eps]
      exact hpa.map _
    · rw [eout, List.pairwise_map] at hsort
      rw [List.pairwise_map]
      exact hsort
end
end SW
set_option Elab.async false
set_option linter.all false
set_option maxRecDepth 100000
set_option maxHeartbeats 4000000
namespace SW
open PySem L2 WM TS
noncomputable def leP (a b : Pt) : Bool := !ltP b a
noncomputable def srtP (l : List Pt) : List Pt := l.mergeSort leP
theorem leP_iff {a b : Pt} : leP a b = true ↔ ltP b a = false := by
  unfold leP
  cases ltP b a <;> simp
theorem srtP_perm (l : List Pt) : (srtP l).Perm l := List.mergeSort_perm l leP
theorem srtP_sorted (l : List Pt) : (srtP l).Pairwise fun a b => ltP b a = false := by
  have := List.pairwise_mergeSort (le := leP) (fun a b c h1 h2 => ?_) (fun a b => ?_) l
  · exact this.imp fun h => leP_iff.mp h
  · rw [leP_iff] at h1 h2 ⊢
    unfold ltP at *
    have h1 := of_decide_eq_false h1
    have h2 := of_decide_eq_false h2
    exact decide_eq_false (by omega (config := {}))
  · unfold leP ltP
    by_cases h : a.1 < b.1 ∨ (a.1 = b.1 ∧ a.2 < b.2)
    · rw [decide_eq_false (p := b.1 < a.1 ∨ (b.1 = a.1 ∧ b.2 < a.2)) (by omega (config := {}))]
      rfl
    · rw [decide_eq_false (p := a.1 < b.1 ∨ (a.1 = b.1 ∧ a.2 < b.2)) h]
      simp
theorem ltP_anti {a b : Pt} (h1 : ltP a b = false) (h2 : ltP b a = false) : a = b := by
  unfold ltP at *
  have h1 := of_decide_eq_false h1
  have h2 := of_decide_eq_false h2
  exact Prod.ext (by omega (config := {})) (by omega (config := {}))
theorem sorted_uniq : ∀ {cs ds : List Pt}, cs.Perm ds → cs.Pairwise (fun a b => ltP b a = false) → ds.Pairwise (fun a b => ltP b a = false) → cs = ds := by
  intro cs ds hp h1 h2
  exact hp.eq_of_pairwise (fun a b _ _ x y => ltP_anti y x) h1 h2
theorem srtP_eq {cs l : List Pt} (hp : cs.Perm l) (h : cs.Pairwise fun a b => ltP b a = false) : cs = srtP l := sorted_uniq (hp.trans (srtP_perm l).symm) h (srtP_sorted l)
noncomputable def cntP (l : List Nat) : List Pt := if l ≠ [] ∧ posOf l = (0, 0) then (plOf l).dropLast else plOf l
theorem cntP_length (l : List Nat) : (cntP l).length ≤ l.length + 1 := by
  unfold cntP
  split
  · rw [List.length_dropLast, show (plOf l).length = l.length + 1 from placesP_length _ _]
    omega
  · rw [show (plOf l).length = l.length + 1 from placesP_length _ _]
    exact Nat.le_refl _
structure ClT (K : PySem.W.Frag) (mg : Str → Option Value) (x : Str) (C fI fS : Addr) : Prop where
  cl : Cls K C
  at_ : mg x = some (.ref C)
  mkr : Mk K C fI
  ms : Meth K C "shows" fS
  ha : PySem.W.findIn K (.ref C) "__class__" = some (some (.builtin "object.__class__"))
  hn : PySem.W.specialIn K (.builtin "object.__class__") "__get__" = some (some (.builtin "getset_descriptor.__get__"))
  htk : PySem.W.takesIn K (.builtin "object.__class__") = some true
  hm : PySem.W.mroIn K C (.type "object") = some true
theorem ClT.ty {K : PySem.W.Frag} {mg : Str → Option Value} {x : Str} {C fI fS : Addr} (c : ClT K mg x C fI fS) {H : Hp} {a dx : Addr} {fs : List (Str × V)} (e : H a = some (.ins C dx fs)) : TyOf K H (.ref a) (.ref C) := .ins e c.cl c.ha c.hn c.htk c.hm
structure Mf (K : PySem.W.Frag) (x q : Str) (st : Stmt) (ps : List Str) (f : Addr) (fd : FuncData) : Prop where
  fn : Fun K x q st f fd
  bi : Binds K fd ps []
noncomputable def fsS (d : Addr) : List (Str × V) := [("places", .ref d)]
noncomputable def fsT (i j : Int) : List (Str × V) := [("first", .int i), ("second", .int j)]
noncomputable def SimpAt (Cs : Addr) (H : Hp) (p : Addr) (ps : List Pt) : Prop := ∃ dx d as, H p = some (.ins Cs dx (fsS d)) ∧ H d = some (.lst (List.map V.ref as)) ∧ Tups H as ps
noncomputable def TwAt (Ct : Addr) (H : Hp) (p : Addr) (i j : Int) : Prop := ∃ dx, H p = some (.ins Ct dx (fsT i j))
noncomputable def spCounted : Sp := fun vs H Q _ => ∃ l, vs = [.str (T l)] ∧ IsW l ∧ l.length ≤ 1000 ∧ ∀ d H', H d = none → Same H H' → PlAt H' d (cntP l) → Q (.ref d) H'
noncomputable def spSimpInit (K : PySem.W.Frag) (Cs : Addr) : Sp := fun vs H Q _ => ∃ (p dx a : Addr) (xs : List V), vs = [.ref p, .ref a] ∧ H p = some (.ins Cs dx []) ∧ SqL K H a xs ∧ ∀ d, H d = none → Q .non (upd (upd H d (.lst xs)) p (.ins Cs dx (fsS d)))
noncomputable def spTwInit (Ct : Addr) : Sp := fun vs H Q _ => ∃ (p dx : Addr) (i j : Int), vs = [.ref p, .int i, .int j] ∧ H p = some (.ins Ct dx []) ∧ Q .non (upd (upd H p (.ins Ct dx [("first", .int i)])) p (.ins Ct dx (fsT i j)))
noncomputable def twice (l : List Nat) (i j : Int) : Prop := 0 ≤ i ∧ i < j ∧ j ≤ (l.length : Int) ∧ ¬ (i = 0 ∧ j = (l.length : Int)) ∧ posOf (l.take i.toNat) = posOf (l.take j.toNat)
noncomputable instance (l : List Nat) (i j : Int) : Decidable (twice l i j) := by unfold twice; infer_instance
noncomputable def spMeets (Cs Ct : Addr) : Sp := fun vs H Q _ => ∃ (l : List Nat), vs = [.str (T l)] ∧ IsW l ∧ l.length ≤ 1000 ∧ ((cntP l).Nodup → ∀ p H', H p = none → Same H H' → SimpAt Cs H' p (srtP (cntP l)) → Q (.ref p) H') ∧
  ∀ (i j : Nat) p H', i < j → j < (cntP l).length → (cntP l)[i]? = (cntP l)[j]? → H p = none → Same H H' → TwAt Ct H' p i j → Q (.ref p) H'
theorem tups_dropLast {H : Hp} {as : List Addr} {ps : List Pt} (h : Tups H as ps) : Tups H as.dropLast ps.dropLast := by
  induction h with
  | nil => exact .nil
  | cons h t ih => cases t with
    | nil => exact .nil
    | cons h2 t => exact .cons h ih
theorem tups_mono {H H' : Hp} {as : List Addr} {ps : List Pt} (h : Tups H as ps) (s : TSame H H') : Tups H' as ps := h.mono fun b xs e => s b xs e
end SW
set_option Elab.async false
set_option linter.all false
set_option maxRecDepth 100000
set_option maxHeartbeats 1000000
namespace PySem
open PyProof.Rows
section
variable {prog : Program} {w : World} {A : Around} {E : Value → Shared → Prop} {s : Shared}
theorem list_no_keys : typeLookup (.type "list") "keys" = pure none := by rw [typeLookup_type, builtinLookup_eq_fast]; kernel_rfl
theorem list_no_hook : typeLookup (.type "list") "__getattr__" = pure none := by rw [typeLookup_type, builtinLookup_eq_fast]; kernel_rfl
theorem getAttr?_list {a : Addr} {xs : Array Value} {k : Nat} {sl : Array (Option Value)} {Q : Option Value → Shared → Prop} (hh : A.handled = none) (ha : s.heap.get? a = some { cls := .type "list", data := .seq xs k, slots := sl })
    (hQ : ∀ h' tk, (∀ b o, s.heap.get? b = some o → h'.get? b = some o) → Q none { s with heap := h', toks := tk }) : wpAny (model prog w) A (getAttr? (.ref a) "keys") Q E s := by
  have hT : s.TypeIs (.ref a) "list" := ⟨_, ha, rfl⟩
  unfold getAttr?
  refine wpAny_bind (wpAny_mkText ?_)
  unfold getAttrBy?
  refine wpAny_bind (wpAny_attempt ?_)
  unfold getAttrBy
  refine wpAny_holding ?_
  refine wpAny_bind (wpAny_typeOf (s := { s with toks := s.toks + 1 }) ⟨_, ha, rfl⟩ ?_)
  refine wpAny_bind (wpAny_of_eq F.slot_list_getattribute.lookup ?_)
  dsimp only
  rw [if_neg (by decide)]
  unfold getAttrByItsOwn
  refine wpAny_bind (m := hookBefore _) (wpAny_of_eq (a := none) rfl ?_)
  refine wpAny_bind (wpAny_attempt (wpAny_holding ?_))
  unfold callGetattribute
  rw [if_neg (by decide)]
  unfold boundAndCalled
  refine wpAny_bind (m := bindSpecial _ _) ?_
  unfold bindSpecial
  refine wpAny_bind (wpAny_of_eq (a := Value.type "wrapper_descriptor") (by first | rfl | kernel_rfl) ?_)
  rw [if_pos (by decide)]
  refine wpAny_pure ?_
  show wpAny _ _ (call (.builtin "list.__getattribute__") [.ref a, .str "keys" s.toks]) _ _ _
  refine call_meets (s := { s with toks := s.toks + 1 }) F.slot_list_getattribute ⟨_, ha, rfl⟩ am_entry_list_getattribute (F.args_list_getattribute_2 _ _) (meets_getattribute_miss_list a xs k sl "keys" s.toks list_no_keys (by decide +kernel)) ⟨ha, hh, fun h' tk e ne => ?_⟩
  obtain ⟨t, u, he⟩ := ne.there
  have hsub : isSubtype (.type "AttributeError") (.type "AttributeError") = pure true := by rw [isSubtype_type]; kernel_rfl
  show wpAny _ _ (getattributeRaised _ _ _ _ _ _ _) _ _ _
  unfold getattributeRaised
  refine wpAny_bind (wpAny_isInstance (s := { s with heap := h', toks := tk }) (T := "AttributeError") (b := true) ⟨_, he, rfl⟩ hsub ?_)
  rw [if_pos rfl]
  unfold hookBehind
  rw [if_neg (by decide)]
  refine wpAny_bind (wpAny_of_eq list_no_hook ?_)
  unfold hookOrError attributeErrorLeaves
  dsimp only
  rw [if_pos (show (!false) = true from rfl)]
  refine wpAny_bind (wpAny_throw ?_)
  refine wpAny_bind (wpAny_isInstance (s := { s with heap := h', toks := tk }) (T := "AttributeError") (b := true) ⟨_, he, rfl⟩ hsub ?_)
  rw [if_pos rfl]
  exact wpAny_pure (hQ h' tk ne.keeps)
theorem plain_dict_loop : plainId "dict.update.loop" = true := by decide +kernel
theorem entry_dict_loop : entryFor table "dict.update.loop" = some Builtin.«dict.update.loop» := entryFor_of_tree (by kernel_rfl)
noncomputable def putAllH {κ : Type} [DecidableEq κ] : List (κ × Addr × Value) → List (κ × Addr × Value) → List (κ × Addr × Value)
  | xs, [] => xs
  | xs, q :: r => putAllH (storedH xs q.1 q.2.1 q.2.2) r
theorem storedH_length {κ : Type} [DecidableEq κ] (xs : List (κ × Addr × Value)) (k : κ) (a : Addr) (v : Value) : (storedH xs k a v).length ≤ xs.length + 1 := by
  unfold storedH
  split
  · rw [List.length_map]; exact Nat.le_succ _
  · rw [List.length_append]; exact Nat.le_refl _
theorem storedH_keys {κ : Type} [DecidableEq κ] {xs : List (κ × Addr × Value)} {k : κ} {a : Addr} {v : Value} {x : κ × Addr × Value} (h : x ∈ storedH xs k a v) : (∃ y ∈ xs, y.1 = x.1 ∧ y.2.1 = x.2.1) ∨ (k = x.1 ∧ a = x.2.1) := by
  unfold storedH at h
  split at h
  · obtain ⟨y, hy, rfl⟩ := List.mem_map.mp h
    refine .inl ⟨y, hy, ?_⟩
    unfold putAt
    split <;> exact ⟨rfl, rfl⟩
  · rcases List.mem_append.mp h with h | h
    · exact .inl ⟨x, h, rfl, rfl⟩
    · rw [List.mem_singleton.mp h]
      exact .inr ⟨rfl, rfl⟩
theorem dictH_at {κ : Type} [DecidableEq κ] {knd : HeapKind prog w κ} {h h' : Heap} {d : Addr} {xs : List (κ × Addr × Value)} (x : h.DictOfH knd d xs) (k : ∀ o, h.get? d = some o → h'.get? d = some o) (is : ∀ x ∈ xs, knd.is h' x.1 x.2.1) : h'.DictOfH knd d xs := by
  refine gate' fun gG hgG => ?_
  obtain ⟨o, es, ep, h1, h2, h3, h4, _, h6⟩ := x
  refine hgG.go ?_
  clear hgG
  exact ⟨o, es, ep, k o h1, h2, h3, h4, is, h6⟩
noncomputable def PairIs (h : Heap) (v : Value) (b : Addr) (u : Value) : Prop := ∃ a o n, v = .ref a ∧ h.get? a = some o ∧ o.cls = .type "tuple" ∧ o.data = .seq #[.ref b, u] n
theorem PairIs.kept {h h' : Heap} {v u : Value} {b : Addr} (x : PairIs h v b u) (k : ∀ b o, h.get? b = some o → h'.get? b = some o) : PairIs h' v b u := by
  obtain ⟨a, o, n, e, ho, r⟩ := x
  exact ⟨a, o, n, e, k a o ho, r⟩
theorem pairItems_tup {v u : Value} {b : Addr} {Q : List Value → Shared → Prop} (x : PairIs s.heap v b u) (h : Q [.ref b, u] s) : wpAny (model prog w) A (Builtin.Dict.pairItems v) Q E s := by
  refine gate' fun gG hgG => ?_
  obtain ⟨a, o, n, rfl, ho, hc, hd⟩ := x
  refine hgG.go ?_
  clear hgG
  unfold Builtin.Dict.pairItems
  refine wpAny_bind (wpAny_typeOf ⟨o, ho, hc⟩ ?_)
  rw [if_pos (by decide)]
  refine wpAny_bind (wpAny_seqItems ho hd ?_)
  exact wpAny_pure h
theorem dict_loop {κ : Type} [DecidableEq κ] {knd : HeapKind prog w κ} {d it l : Addr} {items : Array Value} {R : Result → Shared → Prop} {h₀ : Heap} (hh : A.handled = none) (hroom : knd.room A.in1) (qs : List (κ × Addr × Value)) (hq : qs.length = items.size)
    (hitem : ∀ (i : Nat) q, qs[i]? = some q → ∃ v, items[i]? = some v ∧ PairIs h₀ v q.2.1 q.2.2) (hkey : ∀ q ∈ qs, ∀ h : Heap, (∀ b o, h₀.get? b = some o → h.get? b = some o) → knd.is h q.1 q.2.1) (hz : items.size ≤ 100000) (hdi : d ≠ it) (hdl : d ≠ l) (hil : l ≠ it) (hd0 : h₀.get? d = none) (hi0 : h₀.get? it = none) :
    ∀ (k i : Nat) (s : Shared) (xs : List (κ × Addr × Value)), items.size - i = k → i ≤ items.size → (∀ b o, h₀.get? b = some o → s.heap.get? b = some o) → s.heap.IsListIter it l i → s.heap.IsList l items → s.heap.DictOfH knd d xs → xs.length ≤ i → (∀ x ∈ xs, ∃ q ∈ qs, q.1 = x.1 ∧ q.2.1 = x.2.1) →
      (∀ (h' : Heap) (tk : Nat), (∀ b o, h₀.get? b = some o → h'.get? b = some o) → h'.DictOfH knd d (putAllH xs (qs.drop i)) → R (.ok (.ret .none)) { s with heap := h', toks := tk }) →
      codeAny (model prog w) A (.builtin "dict.update.loop" ⟨[.ref d, .ref it, rawInt (i : Int), .none], []⟩) R s := by
  have esz : sizeLine = 16777216 := PySem.sizeLine_eq
  intro k
  induction k with
  | zero =>
    intro i s xs hk hi kp hit hl hdict hxl hxk h
    have e : i = items.size := by omega
    refine codeAny_builtin entry_dict_loop ?_
    rw [Around.under_plainId plain_dict_loop _]
    unfold Builtin.«dict.update.loop»
    show wpAny _ _ (pyNext (.ref it) >>= _) _ _ _
    refine wpAny_bind ((Walks.list (A := A.in1) hh it l hil items).done s _ _ (by rw [← e]; exact ⟨hit, hl⟩) fun h' tk hk' => ?_)
    dsimp only
    refine wpAny_bind (m := Builtin.Dict.addKeywords d []) (wpAny_of_eq (a := ()) rfl ?_)
    have kp' : ∀ b o, h₀.get? b = some o → h'.get? b = some o := fun b o q => hk' b o (by
      intro z
      have : b = it := by simpa using z
      rw [this, hi0] at q
      cases q) (kp b o q)
    refine wpAny_pure (h h' tk kp' ?_)
    rw [List.drop_of_length_le (by omega)]
    refine dictH_at hdict (fun o q => hk' d o (by simpa using hdi) q) fun x hx => ?_
    obtain ⟨q, hq', e1, e2⟩ := hxk x hx
    rw [← e1, ← e2]
    exact hkey q hq' h' kp'
  | succ k ih =>
    intro i s xs hk hi kp hit hl hdict hxl hxk h
    have hlt : i < items.size := by omega
    have hqi : qs[i]? = some qs[i] := List.getElem?_eq_getElem (by omega)
    obtain ⟨v, hv, hp⟩ := hitem i _ hqi
    refine codeAny_builtin entry_dict_loop ?_
    rw [Around.under_plainId plain_dict_loop _]
    unfold Builtin.«dict.update.loop»
    show wpAny _ _ (pyNext (.ref it) >>= _) _ _ _
    refine wpAny_bind ((Walks.list (A := A.in1) hh it l hil items).item i s _ _ hlt ⟨hit, hl⟩ fun v' h1 tk hv' hst hk' => ?_)
    have ev : v' = v := by
      rw [hv] at hv'
      exact (Option.some.inj hv').symm
    subst ev
    have kp1 : ∀ b o, h₀.get? b = some o → h1.get? b = some o := fun b o q => hk' b o (by
      intro z
      have : b = it := by simpa using z
      rw [this, hi0] at q
      cases q) (kp b o q)
    dsimp only
    refine wpAny_bind (wpAny_holding (wpAny_bind (wpAny_tryCatch (pairItems_tup (s := { s with heap := h1, toks := tk }) (hp.kept kp1) ?_))))
    dsimp only
    have hd1 : h1.DictOfH knd d xs := dictH_at hdict (fun o q => hk' d o (by simpa using hdi) q) fun x hx => by
      obtain ⟨q, hq', e1, e2⟩ := hxk x hx
      rw [← e1, ← e2]
      exact hkey q hq' h1 kp1
    refine wpAny_holding (wpAny_dictSet_heap (s := { s with heap := h1, toks := tk }) hroom (hkey _ (List.getElem_mem _) h1 kp1) hd1 (fun h2 hd2 sb => ?_) (by omega))
    have kp2 : ∀ b o, h₀.get? b = some o → h2.get? b = some o := fun b o q => (sb.2 b (by
      intro z
      rw [z, hd0] at q
      cases q)).trans (kp1 b o q)
    refine wpAny_pure ⟨plainId_quiet plain_dict_loop _, ?_⟩
    refine ih (i + 1) { s with heap := h2, toks := tk + knd.draws (qs[i]).1 } _ (by omega) (by assumption) kp2 (hst.1.at fun o q => (sb.2 it (Ne.symm hdi)).trans q) (hst.2.at fun o q => (sb.2 l (Ne.symm hdl)).trans q) hd2 (by have := storedH_length xs (qs[i]).1 (qs[i]).2.1 (qs[i]).2.2; omega) (fun x hx => ?_) fun h' tk' kp' hd' => ?_
    · rcases storedH_keys hx with ⟨y, hy, e1, e2⟩ | ⟨e1, e2⟩
      · obtain ⟨q, hq', e3, e4⟩ := hxk y hy
        exact ⟨q, hq', e3.trans e1, e4.trans e2⟩
      · exact ⟨_, List.getElem_mem _, e1, e2⟩
    refine h h' tk' kp' ?_
    have ed : qs.drop i = qs[i] :: qs.drop (i + 1) := List.drop_eq_getElem_cons (by omega)
    rw [ed]
    exact hd'
theorem call_dictL {κ : Type} [DecidableEq κ] {knd : HeapKind prog w κ} {l : Addr} {items : Array Value} {k : Nat} {sl : Array (Option Value)} {Q : Value → Shared → Prop} (hh : A.handled = none) (hroom : knd.room A.in1.in1) (hl : s.heap.get? l = some { cls := .type "list", data := .seq items k, slots := sl }) (qs : List (κ × Addr × Value)) (hq : qs.length = items.size) (hz : items.size ≤ 100000)
    (hitem : ∀ (i : Nat) q, qs[i]? = some q → ∃ v, items[i]? = some v ∧ PairIs s.heap v q.2.1 q.2.2) (hkey : ∀ q ∈ qs, ∀ h : Heap, (∀ b o, s.heap.get? b = some o → h.get? b = some o) → knd.is h q.1 q.2.1)
    (h : ∀ (h' : Heap) (tk : Nat), (∀ b o, s.heap.get? b = some o → h'.get? b = some o) → h'.DictOfH knd s.heap.objs.size (putAllH [] qs) → Q (.ref s.heap.objs.size) { s with heap := h', toks := tk }) :
    wpAny (model prog w) A (call (.type "dict") [.ref l]) Q E s := by
  refine callType_codes (Q₁ := fun obj s₁ => obj = .ref s.heap.objs.size ∧ s₁ = { s with heap := s.heap.push { cls := .type "dict", data := .dict #[] 0 } }) F.kt_called_dict (F.kt_typeCall_dict_1 _) F.entry_dict_init ?_ ?_
  · refine codeAny_of_tree ?_
    show wpAny _ A.in1.in1 (do checkBuiltinCall "dict.__new__" ⟨[.type "dict", .ref l], []⟩; again (.builtin "dict.__new__" ⟨[.type "dict", .ref l], []⟩)) _ _ s
    refine wpAny_bind (wpAny_of_eq (F.kt_newCall_dict_1 _) (wpAny_pure ⟨plainId_quiet F.kt_called_dict.plain _, codeAny_builtin (b := Builtin.«dict.__new__») (entryFor_of_tree (by kernel_rfl)) ?_⟩))
    rw [Around.under_plainId F.kt_called_dict.plain _]
    unfold Builtin.«dict.__new__»
    dsimp only
    refine wpAny_bind (wpAny_of_eq (a := true) rfl ?_)
    rw [if_neg (by decide)]
    refine wpAny_bind (wpAny_of_eq F.kt_called_dict.sub ?_)
    rw [if_neg (by decide)]
    refine wpAny_bind (wpAny_of_eq F.kt_mro_dict ?_)
    rw [if_neg (by decide)]
    refine wpAny_bind (wpAny_newObj_type (hd := by show _ ≤ _; decide) ?_)
    exact wpAny_pure ⟨rfl, rfl⟩
  · rintro obj s₁ ⟨rfl, rfl⟩
    have hn : (s.heap.push { cls := .type "dict", data := .dict #[] 0 }).get? s.heap.objs.size = some { cls := .type "dict", data := .dict #[] 0 } := Heap.get?_push_size _ rfl
    have hT : ({ s with heap := s.heap.push { cls := .type "dict", data := .dict #[] 0 } } : Shared).TypeIs (.ref s.heap.objs.size) "dict" := ⟨_, hn, rfl⟩
    have k1 : ∀ b o, s.heap.get? b = some o → (s.heap.push { cls := .type "dict", data := .dict #[] 0 }).get? b = some o := fun b o q => Heap.get?_push_of_some _ q
    have hll := k1 _ _ hl
    refine ⟨hT, F.args_dict_init_2 _ _, ?_⟩
    unfold Builtin.«dict.__init__»
    refine wpAny_bind ?_
    unfold Builtin.Dict.selfAndRest
    refine wpAny_bind (m := Builtin.Dict.notOrdered _ _) (wpAny_notOrdered_dict hT ?_)
    refine wpAny_bind (m := Builtin.Dict.addrOf _) (wpAny_of_eq (a := s.heap.objs.size) rfl (wpAny_pure ?_))
    dsimp only
    unfold Builtin.Dict.updateCommon Builtin.Dict.updateFrom
    dsimp only
    refine wpAny_bind (wpAny_typeOf ⟨_, hll, rfl⟩ ?_)
    rw [if_pos (by decide)]
    refine wpAny_bind (getAttr?_list (A := A.in1.in1) (s := { s with heap := s.heap.push { cls := .type "dict", data := .dict #[] 0 } }) hh hll fun h2 tk2 k2 => ?_)
    rw [if_pos (show (none : Option Value).isNone = true from rfl)]
    refine wpAny_bind (wpAny_rule ?_)
    have hl2 := k2 _ _ hll
    have hl2' : h2.IsList l items := ⟨_, hl2, rfl, k, rfl⟩
    refine wpAny_bind (wpAny_pyIter_list (s := { s with heap := h2, toks := tk2 }) hl2' ?_)
    have hn2 := k2 _ _ hn
    have lt2 : s.heap.objs.size < h2.objs.size := Heap.lt_size hn2
    have ll2 : l < h2.objs.size := Heap.lt_size hl2
    have lls : l < s.heap.objs.size := Heap.lt_size hl
    have k3 : ∀ b o, h2.get? b = some o → (h2.push { cls := Value.type "list_iterator", data := Data.fields #[Value.ref l, Value.int 0 0] }).get? b = some o := fun b o q => Heap.get?_push_of_some _ q
    refine wpAny_pure ⟨plainId_quiet plain_dict_loop _, ?_⟩
    have fresh0 : ∀ b, s.heap.objs.size ≤ b → s.heap.get? b = none := fun b hb => by
      cases e : s.heap.get? b with
      | none => rfl
      | some o => exact absurd (Heap.lt_size e) (Nat.not_lt.mpr hb)
    refine dict_loop (A := A.in1) (knd := knd) (d := s.heap.objs.size) (it := h2.objs.size) (l := l) (h₀ := s.heap) hh hroom qs hq hitem hkey hz (Nat.ne_of_lt lt2) (Nat.ne_of_gt lls) (Nat.ne_of_lt ll2) (fresh0 _ (Nat.le_refl _)) (fresh0 _ (Nat.le_of_lt lt2)) items.size 0 _ [] (by omega) (Nat.zero_le _) (fun b o q => k3 _ _ (k2 _ _ (k1 _ _ q))) ⟨_, Heap.get?_push_size _ rfl, rfl, rfl⟩ (hl2'.push _) ?_ (Nat.zero_le _) (fun x hx => by cases hx) fun h' tk kp hd => ⟨rfl, h h' tk kp hd⟩
    exact ⟨_, #[], 0, k3 _ _ hn2, ⟨rfl, rfl, rfl⟩, rfl, rfl, (fun x hx => (List.not_mem_nil hx).elim), List.nodup_nil⟩
end
end PySem
set_option Elab.async false
set_option linter.all false
set_option maxRecDepth 100000
set_option maxHeartbeats 1000000
namespace SW
open PySem PySem.Spec PyProof.Rows L2 WM TS
noncomputable def KvP (H : Hp) (a : Addr) (q : Pt × V) : Prop := ∃ b, H a = some (.tup [.ref b, q.2]) ∧ H b = some (.tup [.int q.1.1, .int q.1.2])
noncomputable def putAllK : List (List Key × V) → List (Pt × V) → List (List Key × V)
  | kvs, [] => kvs
  | kvs, q :: r => putAllK (putK kvs (ptK q.1) q.2) r
theorem putAllK_length : ∀ (qs : List (Pt × V)) (kvs : List (List Key × V)), (putAllK kvs qs).length ≤ kvs.length + qs.length
  | [], kvs => Nat.le_refl _
  | q :: r, kvs => by
    have := putAllK_length r (putK kvs (ptK q.1) q.2)
    have h2 := length_putK kvs (ptK q.1) q.2
    show (putAllK (putK kvs (ptK q.1) q.2) r).length ≤ _
    rw [List.length_cons]
    omega
theorem kt_all {H : Hp} {qs : List (Pt × V)} {bs : List (List Key × Addr × Value)} {kvs : List (List Key × V)} {xs : List (List Key × Addr × Value)} (h : KT H kvs xs)
    (hp : Paired (fun (q : Pt × V) (x : List Key × Addr × Value) => x.1 = ptK q.1 ∧ H x.2.1 = some (.tup ((ptK q.1).map kV)) ∧ RelV q.2 x.2.2) qs bs) : KT H (putAllK kvs qs) (putAllH xs bs) := by
  induction hp generalizing kvs xs with
  | nil => exact h
  | @cons q x r bs e t ih =>
    obtain ⟨e1, e2, e3⟩ := e
    show KT H (putAllK (putK kvs (ptK q.1) q.2) r) (putAllH (storedH xs x.1 x.2.1 x.2.2) bs)
    rw [e1]
    exact ih (h.put (ptK q.1) e2 e3)
section
variable {X : Cx}
theorem call_dictP (hc : X.calm = true) (hu : X.A.units + 4 < cLine) : CallR X (.type "dict") (fun xs H Q => ∃ (p : Addr) (as : List Addr) (qs : List (Pt × V)), xs = [.ref p] ∧ H p = some (.lst (as.map V.ref)) ∧ Paired (KvP H) as qs ∧ qs.length ≤ 100000 ∧
    ∀ d, H d = none → Q (.ref d) (upd H d (.dT (putAllK [] qs)))) := by
  intro pins s σ H xs us Q I r h
  refine gate' fun gG hgG => ?_
  obtain ⟨p, as, qs, rfl, hp, hP, hz, q⟩ := h
  obtain ⟨u, rfl, ru⟩ := vals1 r
  refine hgG.go ?_
  clear hgG
  cases (show u = Value.ref p from ru)
  obtain ⟨hz2, its, n, rv, ho⟩ := (show ObjOk X.prog X.w H s.heap p (.lst (as.map V.ref)) from I.hok p _ hp)
  have ei := vals_refs rv
  subst ei
  have key : ∃ bs : List (List Key × Addr × Value), Paired (fun (q : Pt × V) (x : List Key × Addr × Value) => x.1 = ptK q.1 ∧ H x.2.1 = some (.tup ((ptK q.1).map kV)) ∧ RelV q.2 x.2.2) qs bs ∧ bs.length = as.length ∧ ∀ (i : Nat) x, bs[i]? = some x → ∃ a, as[i]? = some a ∧ PairIs s.heap (.ref a) x.2.1 x.2.2 := by
    clear q hz hz2 rv ho hp
    induction hP with
    | nil => exact ⟨[], .nil, rfl, fun i x hx => by simp at hx⟩
    | @cons a q' as' qs' hab t ih =>
      refine gate' fun gG hgG => ?_
      obtain ⟨bs, h1, h2, h3⟩ := ih
      obtain ⟨b, hb1, hb2⟩ := hab
      obtain ⟨its, rv2, ⟨o, ho, hc', n', hd⟩, _⟩ := I.tuple (SqT.of hb1)
      refine hgG.go ?_
      clear hgG
      cases rv2 with
      | cons r1 rr =>
        cases rr with
        | cons r2 rr =>
          cases rr
          cases (show _ = Value.ref b from r1)
          rename_i w2
          refine ⟨(ptK q'.1, b, w2) :: bs, .cons ⟨rfl, hb2, r2⟩ h1, by rw [List.length_cons, List.length_cons, h2], fun i x hx => ?_⟩
          cases i with
          | zero =>
            simp at hx
            subst hx
            exact ⟨a, rfl, a, o, n', rfl, ho, hc', hd⟩
          | succ i =>
            obtain ⟨a', ha', hp'⟩ := h3 i x (by simpa using hx)
            exact ⟨a', by simpa using ha', hp'⟩
  obtain ⟨bs, hb1, hb2, hb3⟩ := key
  have hal : as.length = qs.length := Paired.length hP
  refine call_dictL (knd := tupleKind (mixKind X.prog X.w)) (I.ok.hd hc) (show X.A.units + 1 + 1 < cLine by omega) ho bs (by rw [hb2]; simp) (by simp; omega) (fun i x hx => ?_) (fun x hx h kp => ?_) fun h' tk kp hd => ?_
  · obtain ⟨a, ha, hp'⟩ := hb3 i x hx
    refine ⟨.ref a, ?_, hp'⟩
    simp [ha]
  · obtain ⟨i, hi⟩ := List.mem_iff_getElem?.mp hx
    have hm : ∃ q', x.1 = ptK q' ∧ H x.2.1 = some (.tup ((ptK q').map kV)) := by
      clear hb2 hb3 hi
      have go : ∀ {qs : List (Pt × V)} {bs : List (List Key × Addr × Value)}, Paired (fun (q : Pt × V) (x : List Key × Addr × Value) => x.1 = ptK q.1 ∧ H x.2.1 = some (.tup ((ptK q.1).map kV)) ∧ RelV q.2 x.2.2) qs bs → x ∈ bs → ∃ q', x.1 = ptK q' ∧ H x.2.1 = some (.tup ((ptK q').map kV)) := by
        intro qs bs hh
        induction hh with
        | nil => intro hx; cases hx
        | cons ha _ ih =>
          intro hx
          rcases List.mem_cons.mp hx with rfl | hx
          · exact ⟨_, ha.1, ha.2.1⟩
          · exact ih hx
      exact go hb1 hx
    obtain ⟨q', e1, e2⟩ := hm
    rw [e1]
    refine gate' fun gG hgG => ?_
    obtain ⟨o, items, n2, h1, h2, h3, h4⟩ := key_of I.hok e2
    refine hgG.go ?_
    clear hgG
    exact ⟨o, items, n2, kp _ _ h1, h2, h3, h4⟩
  · have hfree : H s.heap.objs.size = none := I.hok.fresh (Nat.le_refl _)
    refine gate' fun gG hgG => ?_
    have hkt : KT H (putAllK [] qs) (putAllH [] bs) := kt_all .nil hb1
    obtain ⟨o, es, ep, g1, g2, g3, g4, g5, g6⟩ := hd
    refine hgG.go ?_
    clear hgG
    have hlen := putAllK_length qs []
    have esz : sizeLine = 16777216 := PySem.sizeLine_eq
    have hsys : (s.heap.objs.size == sysModules) = false := by
      have := I.big
      exact beq_eq_false_iff_ne.mpr (Nat.ne_of_gt this)
    refine ⟨.ref s.heap.objs.size, _, I.laid (t' := tk) (o := .dT (putAllK [] qs)) (fun b u hb => kp b u hb) (Nat.le_refl _) ⟨by simp at hlen; omega, hsys, putAllH [] bs, hkt.keeps fun c ys ec => ?_, o, es, ep, g1, g2, g3, g4, g6⟩, rfl, q _ hfree⟩
    rw [upd_ne (ne_of_none ec hfree)]
    exact ec
end
end SW
namespace WM
end WM
set_option Elab.async false
set_option linter.all false
set_option maxRecDepth 100000
set_option maxHeartbeats 4000000
namespace SW
open PySem L2 WM TS
noncomputable def top (i : Nat) : Stmt := PySem.Challenge.pw_squarewalk_k08_refused.main.body.getD i (.Pass ⟨0, 0, 0, 0⟩)
noncomputable abbrev sWall : Stmt := top 0
noncomputable abbrev sCheckWalk : Stmt := top 10
noncomputable abbrev sIsNumber : Stmt := top 11
noncomputable abbrev sCheckNumber : Stmt := top 12
noncomputable abbrev sIsPair : Stmt := top 13
noncomputable abbrev sIsClosed : Stmt := top 14
noncomputable abbrev sCheckClosed : Stmt := top 15
noncomputable abbrev sStepped : Stmt := top 16
noncomputable abbrev sPlaces : Stmt := top 17
noncomputable abbrev sCountedPlaces : Stmt := top 18
noncomputable abbrev sEnd : Stmt := top 19
noncomputable abbrev sTurned : Stmt := top 20
noncomputable abbrev sTakenBack : Stmt := top 21
noncomputable abbrev sQuartered : Stmt := top 22
noncomputable abbrev sMirrored : Stmt := top 23
noncomputable abbrev sBackwards : Stmt := top 24
noncomputable abbrev sThinned : Stmt := top 25
noncomputable abbrev sBegun : Stmt := top 26
noncomputable abbrev sCheckSquare : Stmt := top 28
noncomputable abbrev sUprightSteps : Stmt := top 29
noncomputable abbrev sAround : Stmt := top 30
noncomputable abbrev sArea : Stmt := top 31
noncomputable abbrev sBetween : Stmt := top 32
noncomputable abbrev sSquares : Stmt := top 33
noncomputable abbrev sMeets : Stmt := top 38
noncomputable abbrev sCheckLoop : Stmt := top 40
noncomputable abbrev sTurns : Stmt := top 41
noncomputable abbrev sWithin : Stmt := top 42
noncomputable abbrev sLawWalkAsked : Stmt := top 44
noncomputable abbrev sLawNumberAsked : Stmt := top 45
noncomputable abbrev sLawOpenAsked : Stmt := top 46
noncomputable abbrev sLawTold : Stmt := top 47
noncomputable abbrev sLaw : Stmt := top 48
noncomputable abbrev sSimpleInit : Stmt := inClass (top 36) 0
noncomputable abbrev sTwiceInit : Stmt := inClass (top 37) 0
section
variable {P : Program} {w : World} {K : PySem.W.Frag} {mg : Str → Option Value} {base : Heap}
theorem scCheckWalk : FnScope ["walk", "letter"] ["walk"] (defScope sCheckWalk) := ⟨rfl, rfl, rfl, by decide +kernel, rfl, by decide +kernel, by decide +kernel⟩
theorem ok_check_walk {f : Addr} {fd : FuncData} (F : Df K mg "check_walk" sCheckWalk ["walk"] f fd) (X : Txt K mg) : FnOk P w K mg base CX0 1 f fd ["walk"] spCheckWalk := by
  obtain ⟨tl, hlw⟩ := X.lw
  refine F.fn.ok scCheckWalk (fun vs H Q E h => ?_) (fun cdv A outer s H vs Q E hr h => ?_)
  · obtain ⟨l, rfl, _⟩ := h
    rfl
  · obtain ⟨l, rfl, hl, k⟩ := h
    refine lX ?_
    extract_lets
    refine ⟨_, pss_cons (ps_if (pt_not (pt_val (pe_callB call_isT rfl X.isi PyProof.Rows.boot_isinstance (pa_cons (pv 0) (pa_cons (pe_bltn rfl X.str PyProof.Rows.boot_str (v := .ty "str") rfl) pa_nil))))) pss_never pss_nil)
      (pss_one (ps_for PassesOwn.never rfl (pi_str (pv 0)) (pg_name (i := 1) scCheckWalk.nd rfl (Or.inl rfl))
        (pss_one (ps_if (pt_cmpR op_notin_str (pv 1) (pe_glob rfl hlw (v := .str (T [110, 119, 115, 101])) ⟨tl, by rw [lit_nwse]⟩) (by with_unfolding_all rfl)) pss_never pss_nil)))), ?_⟩
    refine ⟨_, rfl, _, _, _, true, rfl, .str _, kit_str K, _, rfl, ?_⟩
    refine iteF ?_
    refine ⟨_, rfl, l, rfl, for_str (l := l) (fun i σ H' => (∃ v, σ = [some (.str (T l)), v]) ∧ H' = H) ⟨⟨_, rfl⟩, rfl⟩ ?_ ?_⟩
    · rintro i c σ H' hc ⟨⟨v, rfl⟩, rfl⟩
      have hlt : Lt c := hl c (List.mem_of_getElem? hc)
      refine ⟨_, rfl, _, _, rfl, rfl, _, rfl, ?_⟩
      rw [occ_in hlt]
      refine iteF ?_
      exact ⟨⟨_, rfl⟩, rfl⟩
    · rintro σ H' ⟨_, rfl⟩
      exact k
theorem scIsNumber : FnScope ["value"] ["value"] (defScope sIsNumber) := ⟨rfl, rfl, rfl, by decide +kernel, rfl, by decide +kernel, by decide +kernel⟩
noncomputable def spIsNumber : Sp := fun vs H Q _ => ∃ i, vs = [.int i] ∧ Q (.bl true) H
theorem ok_is_number {f : Addr} {fd : FuncData} (F : Df K mg "is_number" sIsNumber ["value"] f fd) (X : Txt K mg) : FnOk P w K mg base CX0 1 f fd ["value"] spIsNumber := by
  refine F.fn.ok scIsNumber (fun vs H Q E h => ?_) (fun cdv A outer s H vs Q E hr h => ?_)
  · obtain ⟨i, rfl, _⟩ := h
    rfl
  · obtain ⟨i, rfl, k⟩ := h
    refine lX ?_
    extract_lets
    refine ⟨_, pss_one (ps_ret (pe_and (pe_callB call_isT rfl X.isi PyProof.Rows.boot_isinstance (pa_cons (pv 0) (pa_cons (pe_bltn rfl X.int PyProof.Rows.boot_int (v := .ty "int") rfl) pa_nil)))
      (pe_one (pe_not (pe_callB call_isT rfl X.isi PyProof.Rows.boot_isinstance (pa_cons (pv 0) (pa_cons (pe_bltn rfl X.bool PyProof.Rows.boot_bool (v := .ty "bool") rfl) pa_nil))))))), ?_⟩
    refine ⟨_, rfl, _, _, _, true, rfl, .int _, kit_int K, ?_⟩
    refine ⟨_, rfl, ?_⟩
    refine iteT ?_
    refine ⟨_, rfl, _, _, _, false, rfl, .int _, kit_int_bool K, _, rfl, ?_⟩
    exact k
theorem scIsPair : FnScope ["value"] ["value"] (defScope sIsPair) := ⟨rfl, rfl, rfl, by decide +kernel, rfl, by decide +kernel, by decide +kernel⟩
noncomputable def spIsPair (K : PySem.W.Frag) : Sp := fun vs H Q _ => ∃ (a : Addr) (q : Pt), vs = [.ref a] ∧ SqT K H a [.int q.1, .int q.2] ∧ H a = some (.tup [.int q.1, .int q.2]) ∧ Q (.bl true) H
theorem ok_is_pair {f fN : Addr} {fd fdN : FuncData} (F : Df K mg "is_pair" sIsPair ["value"] f fd) (X : Txt K mg) (htup : mg "tuple" = none) (hlen : mg "len" = none) (N : Df K mg "is_number" sIsNumber ["value"] fN fdN) : FnOk P w K mg base CX0 2 f fd ["value"] (spIsPair K) := by
  have GN : FnOk P w K mg base CX0 1 fN fdN ["value"] spIsNumber := ok_is_number N X
  refine F.fn.ok scIsPair (fun vs H Q E h => ?_) (fun cdv A outer s H vs Q E hr h => ?_)
  · obtain ⟨a, q, rfl, _⟩ := h
    rfl
  · obtain ⟨a, q, rfl, hS, hH, k⟩ := h
    have a0 : atI [V.int q.1, V.int q.2] 0 = some (.int q.1) := atI_nat (j := 0) rfl
    have a1 : atI [V.int q.1, V.int q.2] 1 = some (.int q.2) := atI_nat (j := 1) rfl
    refine lX ?_
    extract_lets
    refine ⟨_, pss_one (ps_ret (pe_and (pe_callB call_isT rfl X.isi PyProof.Rows.boot_isinstance (pa_cons (pv 0) (pa_cons (pe_bltn rfl htup PyProof.Rows.boot_tuple (v := .ty "tuple") rfl) pa_nil)))
      (pe_and (pe_cmpR op_eq (pe_callB call_len_seq rfl hlen PySem.boot_len (pa_cons (pv 0) pa_nil)) pe_int (nomark _))
      (pe_and (pe_call GN hr rfl N.at_ N.fn.kp N.bi .nil pass0 (pa_cons (pe_ix ix_tup (pv 0) pe_int (fun _ _ => rfl)) pa_nil))
      (pe_one (pe_call GN hr rfl N.at_ N.fn.kp N.bi .nil pass0 (pa_cons (pe_ix ix_tup (pv 0) pe_int (fun _ _ => rfl)) pa_nil))))))), ?_⟩
    refine ⟨_, rfl, _, _, _, true, rfl, .tup hH, kit_tuple K, _, rfl, ?_⟩
    refine iteT ?_
    refine ⟨_, rfl, a, _, rfl, .inr hS, rfl, _, rfl, ?_⟩
    refine iteT ?_
    refine ⟨_, rfl, _, _, _, _, rfl, rfl, hS, a0, _, rfl, _, rfl, ?_⟩
    refine iteT ?_
    exact ⟨_, rfl, _, _, _, _, rfl, rfl, hS, a1, _, rfl, k⟩
theorem scCheckSquare : FnScope ["square"] ["square"] (defScope sCheckSquare) := ⟨rfl, rfl, rfl, by decide +kernel, rfl, by decide +kernel, by decide +kernel⟩
noncomputable def spCheckSquare : Sp := fun vs H Q _ => ∃ (a : Addr) (q : Pt), vs = [.ref a] ∧ H a = some (.tup [.int q.1, .int q.2]) ∧ Q .non H
theorem ok_check_square {f fP fN : Addr} {fd fdP fdN : FuncData} (F : Df K mg "check_square" sCheckSquare ["square"] f fd) (X : Txt K mg) (htup : mg "tuple" = none) (hlen : mg "len" = none) (Ip : Df K mg "is_pair" sIsPair ["value"] fP fdP) (N : Df K mg "is_number" sIsNumber ["value"] fN fdN) : FnOk P w K mg base CX0 3 f fd ["square"] spCheckSquare := by
  have GP : FnOk P w K mg base CX0 2 fP fdP ["value"] (spIsPair K) := ok_is_pair Ip X htup hlen N
  refine F.fn.ok scCheckSquare (fun vs H Q E h => ?_) (fun cdv A outer s H vs Q E hr h => ?_)
  · obtain ⟨a, q, rfl, _⟩ := h
    rfl
  · obtain ⟨a, q, rfl, hH, k⟩ := h
    refine lX ?_
    extract_lets
    refine ⟨_, pss_one (ps_if (pt_not (pt_val (pe_call GP hr rfl Ip.at_ Ip.fn.kp Ip.bi .nil pass0 (pa_cons (pv 0) pa_nil)))) pss_never pss_nil), ?_⟩
    refine ⟨_, rfl, a, q, rfl, SqT.of hH, hH, _, rfl, ?_⟩
    refine iteF ?_
    exact k
theorem scCheckNumber : FnScope ["number"] ["number"] (defScope sCheckNumber) := ⟨rfl, rfl, rfl, by decide +kernel, rfl, by decide +kernel, by decide +kernel⟩
theorem scStepped : FnScope ["place", "step"] ["place", "step"] (defScope sStepped) := ⟨rfl, rfl, rfl, by decide +kernel, rfl, by decide +kernel, by decide +kernel⟩
theorem ok_stepped {f : Addr} {fd : FuncData} (F : Df K mg "stepped" sStepped ["place", "step"] f fd) : FnOk P w K mg base CX0 1 f fd ["place", "step"] (spStepped K) := by
  refine F.fn.ok scStepped (fun vs H Q E h => ?_) (fun cdv A outer s H vs Q E hr h => ?_)
  · obtain ⟨a, p, c, rfl, _⟩ := h
    rfl
  · obtain ⟨a, p, c, rfl, hc, hS, k⟩ := h
    refine lX ?_
    extract_lets
    refine ⟨_, pss_consL (ps_if (pt_cmpR op_eq (pv 1) pe_str (nomark _)) (pss_one (ps_ret (pe_tup (pa_cons (pe_ix ix_tup (pv 0) pe_int (fun _ _ => rfl)) (pa_cons (pe_op op_add (pe_ix ix_tup (pv 0) pe_int (fun _ _ => rfl)) pe_int) pa_nil))))) pss_nil)
      (pss_consL (ps_if (pt_cmpR op_eq (pv 1) pe_str (nomark _)) (pss_one (ps_ret (pe_tup (pa_cons (pe_op op_add (pe_ix ix_tup (pv 0) pe_int (fun _ _ => rfl)) pe_int) (pa_cons (pe_ix ix_tup (pv 0) pe_int (fun _ _ => rfl)) pa_nil))))) pss_nil)
      (pss_consL (ps_if (pt_cmpR op_eq (pv 1) pe_str (nomark _)) (pss_one (ps_ret (pe_tup (pa_cons (pe_ix ix_tup (pv 0) pe_int (fun _ _ => rfl)) (pa_cons (pe_op op_sub (pe_ix ix_tup (pv 0) pe_int (fun _ _ => rfl)) pe_int) pa_nil))))) pss_nil)
      (pss_one (ps_ret (pe_tup (pa_cons (pe_op op_sub (pe_ix ix_tup (pv 0) pe_int (fun _ _ => rfl)) pe_int) (pa_cons (pe_ix ix_tup (pv 0) pe_int (fun _ _ => rfl)) pa_nil))))))), ?_⟩
    lift_lets
    extract_lets
    have a0 : atI [V.int p.1, V.int p.2] 0 = some (.int p.1) := atI_nat (j := 0) rfl
    have a1 : atI [V.int p.1, V.int p.2] 1 = some (.int p.2) := atI_nat (j := 1) rfl
    refine ⟨_, rfl, rfl, _, rfl, ?_⟩
    rw [lit_n, strT]
    refine ite2 (fun h => ?_) (fun h => ?_)
    · have hc : c = 110 := by simpa using h
      subst hc
      exact ⟨_, rfl, _, _, _, _, rfl, rfl, hS, a0, _, rfl, _, _, _, _, rfl, rfl, hS, a1, _, _, rfl, rfl, two_le, k⟩
    have n1 : ¬ c = 110 := fun z => h (by simp [z])
    refine ⟨_, rfl, rfl, _, rfl, ?_⟩
    rw [lit_e, strT]
    refine ite2 (fun h => ?_) (fun h => ?_)
    · have hc : c = 101 := by simpa using h
      subst hc
      exact ⟨_, rfl, _, _, _, _, rfl, rfl, hS, a0, _, _, rfl, rfl, _, rfl, _, _, _, _, rfl, rfl, hS, a1, two_le, k⟩
    have n2 : ¬ c = 101 := fun z => h (by simp [z])
    refine ⟨_, rfl, rfl, _, rfl, ?_⟩
    rw [lit_s, strT]
    refine ite2 (fun h => ?_) (fun h => ?_)
    · have hc : c = 115 := by simpa using h
      subst hc
      exact ⟨_, rfl, _, _, _, _, rfl, rfl, hS, a0, _, rfl, _, _, _, _, rfl, rfl, hS, a1, _, _, rfl, rfl, two_le, k⟩
    have n3 : ¬ c = 115 := fun z => h (by simp [z])
    have hc' : c = 119 := by
      rcases hc with z | z | z | z
      · exact absurd z n1
      · exact z
      · exact absurd z n3
      · exact absurd z n2
    subst hc'
    exact ⟨_, rfl, _, _, _, _, rfl, rfl, hS, a0, _, _, rfl, rfl, _, rfl, _, _, _, _, rfl, rfl, hS, a1, two_le, k⟩
theorem scPlaces : FnScope ["walk", "place", "told", "step"] ["walk"] (defScope sPlaces) := ⟨rfl, rfl, rfl, by decide +kernel, rfl, by decide +kernel, by decide +kernel⟩
theorem ok_places {f fC fS : Addr} {fd fdC fdS : FuncData} (F : Df K mg "places" sPlaces ["walk"] f fd) (X : Txt K mg) (C : Df K mg "check_walk" sCheckWalk ["walk"] fC fdC) (S : Df K mg "stepped" sStepped ["place", "step"] fS fdS) :
    FnOk P w K mg base CX0 2 f fd ["walk"] spPlaces := by
  have GC : FnOk P w K mg base CX0 1 fC fdC ["walk"] spCheckWalk := ok_check_walk C X
  have GS : FnOk P w K mg base CX0 1 fS fdS ["place", "step"] (spStepped K) := ok_stepped S
  refine F.fn.ok scPlaces (fun vs H Q E h => ?_) (fun cdv A outer s H vs Q E hr h => ?_)
  · obtain ⟨l, rfl, _⟩ := h
    rfl
  · obtain ⟨l, rfl, hl, hz, k⟩ := h
    refine lX ?_
    extract_lets
    refine ⟨_, pss_consL (ps_expr (pe_call GC hr rfl C.at_ C.fn.kp C.bi .nil pass0 (pa_cons (pv 0) pa_nil)))
      (pss_consL (ps_set (i := 1) scPlaces.nd rfl (Or.inl rfl) (pe_tup (pa_cons pe_int (pa_cons pe_int pa_nil))))
      (pss_consL (ps_set (i := 2) scPlaces.nd rfl (Or.inl rfl) (pe_lst (pa_cons (pv 1) pa_nil)))
      (pss_consL (ps_for PassesOwn.never rfl (pi_str (pv 0)) (pg_name (i := 3) scPlaces.nd rfl (Or.inl rfl))
        (pss_consL (ps_set (i := 1) scPlaces.nd rfl (Or.inl rfl) (pe_call GS hr rfl S.at_ S.fn.kp S.bi .nil pass0 (pa_cons (pv 1) (pa_cons (pv 3) pa_nil))))
        (pss_one (ps_expr (pe_bm PySem.F.plainAttrs_list PySem.F.slot_list_append PySem.F.type_list_append mt_append (pv 2) (pa_cons (pv 1) pa_nil))))))
      (pss_one (ps_ret (pv 2)))))), ?_⟩
    lift_lets
    extract_lets
    refine ⟨_, rfl, l, rfl, hl, ?_⟩
    refine ⟨two_le, fun p hp => ?_⟩
    refine ⟨_, rfl, (by show 1 ≤ sizeLine; decide), fun d hd => ?_⟩
    have hpd : p ≠ d := fun z => by rw [z, upd_same] at hd; cases hd
    have hd0 : H d = none := by rw [upd_ne (Ne.symm hpd)] at hd; exact hd
    refine ⟨_, rfl, l, rfl, for_str (l := l) (fun i σ H' => ∃ (as : List Addr) (q : Addr) (v : Option V), σ = [some (.str (T l)), some (.ref q), some (.ref d), v] ∧ Same H H' ∧ H' d = some (.lst (as.map V.ref)) ∧
      Tups H' as (placesP (0, 0) (l.take i)) ∧ H' q = some (.tup [.int (posOf (l.take i)).1, .int (posOf (l.take i)).2])) ?_ ?_ ?_⟩
    · refine ⟨[p], p, none, rfl, ?_, upd_same, ?_, ?_⟩
      · intro b o e
        rw [upd_ne (ne_of_none e hd0), upd_ne (ne_of_none e hp)]
        exact e
      · exact .cons (by rw [upd_ne hpd, upd_same] <;> rfl) .nil
      · rw [upd_ne hpd, upd_same]
        rfl
    · intro i c σ H' hc hI
      generalize hE1 : Ends.mk _ _ _ _ = E1
      revert E1
      refine keepG ?_
      set_option tactic.hygienic false in intros
      obtain ⟨as, q, v, rfl, s1, h1, h2, h3⟩ := hI
      have hlt : Lt c := hl c (List.mem_of_getElem? hc)
      have hil : i < l.length := (List.getElem?_eq_some_iff.mp hc).1
      have hlen : as.length = i + 1 := by
        have e := Paired.length h2
        rw [placesP_length, List.length_take] at e
        omega
      refine ⟨_, rfl, _, rfl, q, posOf (l.take i), c, rfl, hlt, SqT.of h3, fun b hb => ?_⟩
      have hbd : d ≠ b := ne_of_none h1 hb
      have h1' : ∀ o, upd H' b o d = some (.lst (as.map V.ref)) := fun o => by rw [upd_ne hbd]; exact h1
      refine ⟨_, rfl, .inl ⟨rfl, _, SqL.of (h1' _)⟩, _, rfl, d, _, _, rfl, rfl, h1' _, ?_, ?_⟩
      · rw [List.length_map, hlen]
        have e : sizeLine = 16777216 := PySem.sizeLine_eq
        omega
      have et : l.take (i + 1) = l.take i ++ [c] := by rw [List.take_add_one, hc]; rfl
      subst hE1
      refine ⟨as ++ [b], b, _, rfl, ?_, ?_, ?_, ?_⟩
      · intro x o e
        have hxb : x ≠ b := ne_of_none (s1 _ _ e) hb
        have hxd : x ≠ d := ne_of_none e hd0
        rw [upd_ne hxd, upd_ne hxb]
        exact s1 _ _ e
      · rw [upd_same, List.map_append]
        rfl
      · rw [et, placesP_snoc]
        refine Paired.snoc (h2.mono fun x xs e => ?_) ?_
        · have hxb : x ≠ b := ne_of_none e hb
          have hxd : x ≠ d := ne_of e h1 (by intro z; cases z)
          rw [upd_ne hxd, upd_ne hxb]
          exact e
        · rw [upd_ne (Ne.symm hbd), upd_same]
          rfl
      · rw [upd_ne (Ne.symm hbd), upd_same, et]
        show some (HO.tup [.int (stepP (posOf (l.take i)) c).1, .int (stepP (posOf (l.take i)) c).2]) = some (HO.tup [.int (goP (0, 0) (l.take i ++ [c])).1, .int (goP (0, 0) (l.take i ++ [c])).2])
        rw [goP_snoc]
        rfl
    · rintro σ H' ⟨as, q, v, rfl, s1, h1, h2, h3⟩
      rw [List.take_of_length_le (Nat.le_refl _)] at h2
      exact ⟨_, rfl, k d H' hd0 s1 ⟨as, h1, h2⟩⟩
theorem scCountedPlaces : FnScope ["walk", "told"] ["walk"] (defScope sCountedPlaces) := ⟨rfl, rfl, rfl, by decide +kernel, rfl, by decide +kernel, by decide +kernel⟩
theorem ok_counted_places {f fP : Addr} {fd fdP : FuncData} (F : Df K mg "counted_places" sCountedPlaces ["walk"] f fd) (hlen : mg "len" = none) (Pl : Df K mg "places" sPlaces ["walk"] fP fdP) (GP : FnOk P w K mg base CX0 2 fP fdP ["walk"] spPlaces) : FnOk P w K mg base CX0 3 f fd ["walk"] spCounted := by
  refine F.fn.ok scCountedPlaces (fun vs H Q E h => ?_) (fun cdv A outer s H vs Q E hr h => ?_)
  · obtain ⟨l, rfl, _⟩ := h
    rfl
  · obtain ⟨l, rfl, hl, hz, k⟩ := h
    have esz : sizeLine = 16777216 := PySem.sizeLine_eq
    refine lX ?_
    extract_lets
    refine ⟨_, pss_consL (ps_set (i := 1) scCountedPlaces.nd rfl (Or.inl rfl) (pe_call GP hr rfl Pl.at_ Pl.fn.kp Pl.bi .nil pass0 (pa_cons (pv 0) pa_nil)))
      (pss_consL (ps_if (PW.pt (pw_and (pt_cmpR op_gt (pe_callB call_len_str rfl hlen PySem.boot_len (pa_cons (pv 0) pa_nil)) pe_int (nomark _))
        (pw_and1 (pt_cmpR (op_eqD hr.units) (pe_ix ix_list (pv 1) (pe_un un_neg pe_int) (fun _ _ => rfl)) (pe_ix ix_list (pv 1) pe_int (fun _ _ => rfl)) (nomark _))))) (pss_one (ps_expr (pe_bm0 PySem.F.plainAttrs_list PySem.F.slot_list_pop PySem.F.type_list_pop mt_pop (pv 1)))) pss_nil)
      (pss_one (ps_ret (pv 1)))), ?_⟩
    lift_lets
    extract_lets
    refine ⟨_, rfl, l, rfl, hl, hz, fun d H1 hd s1 hP => ?_⟩
    refine ⟨_, rfl, _, rfl, (by rw [T_len]; omega), _, _, rfl, rfl, _, rfl, ?_⟩
    rw [T_len]
    by_cases hne : l = []
    · subst hne
      refine iteF (iteF ?_)
      have e : cntP [] = plOf [] := by unfold cntP; rw [if_neg fun z => z.1 rfl]
      rw [← e] at hP
      exact ⟨_, rfl, k d H1 hd s1 hP⟩
    have hpos : 0 < l.length := List.length_pos_iff.mpr hne
    have ed : decide ((l.length : Int) > 0) = true := decide_eq_true (by omega)
    change if decide ((l.length : Int) > 0) = true then _ else _
    rw [ed]
    refine iteT ?_
    obtain ⟨as, h1, h2⟩ := id hP
    obtain ⟨pre, ep⟩ := placesP_last l (0, 0)
    obtain ⟨as', q, eas, hq⟩ : ∃ as' q, as = as' ++ [q] ∧ H1 q = some (.tup [.int (posOf l).1, .int (posOf l).2]) := by
      unfold plOf at h2
      rw [ep] at h2
      exact tups_last h2
    have atq : atI (as.map V.ref) (-1) = some (V.ref q) := by
      rw [eas, List.map_append]
      exact atI_last _ _
    obtain ⟨xs0, a0, hx0, ha0, hta⟩ := hP.at (K := K) (i := 0) (Nat.zero_le _)
    rw [List.take_zero] at hta
    obtain ⟨q0, eq0, hq0⟩ : ∃ q0, (as.map V.ref)[0]? = some (V.ref q0) ∧ H1 q0 = some (.tup [.int 0, .int 0]) := by
      obtain ⟨a, h3, h4⟩ := tups_at h2 (plOf_get (l := l) (i := 0) (Nat.zero_le _))
      exact ⟨a, h3, h4⟩
    refine ⟨_, rfl, _, rfl, d, _, _, _, rfl, rfl, SqL.of h1, atq, _, rfl, d, _, _, _, rfl, rfl, SqL.of h1, (by have := atI_nat eq0; simpa using this), ?_⟩
    refine ⟨_, _, dat_pt hq, dat_pt (p := (0, 0)) hq0, shaped_pt _, shaped_pt _, _, rfl, ?_⟩
    rw [eqv_pt]
    refine ite2 (fun h => ?_) (fun h => ?_)
    · have hc : posOf l = (0, 0) := of_decide_eq_true h
      have em : as.map V.ref = as'.map V.ref ++ [V.ref q] := by rw [eas, List.map_append]; rfl
      refine ⟨_, rfl, .inl ⟨rfl, _, SqL.of h1⟩, d, as.map V.ref, V.ref q, rfl, rfl, h1, ?_, ?_⟩
      · rw [em, List.length_append, List.length_singleton, Nat.add_sub_cancel, List.getElem?_append_right (Nat.le_refl _), Nat.sub_self]
        rfl
      have edl : (as.map V.ref).dropLast = as'.map V.ref := by rw [em, List.dropLast_concat]
      rw [edl]
      have e : cntP l = (plOf l).dropLast := by unfold cntP; rw [if_pos ⟨hne, hc⟩]
      have tl : TSame H1 (upd H1 d (.lst (as'.map V.ref))) := tsame_lst h1
      refine ⟨_, rfl, k d _ hd (same_upd hd s1) ⟨as', upd_same, ?_⟩⟩
      rw [e]
      have := tups_dropLast h2
      rw [eas, List.dropLast_concat] at this
      exact tups_mono this tl
    · have hc : ¬ posOf l = (0, 0) := fun z => h (decide_eq_true z)
      have e : cntP l = plOf l := by unfold cntP; rw [if_neg fun z => hc z.2]
      rw [← e] at hP
      exact ⟨_, rfl, k d H1 hd s1 hP⟩
theorem scEnd : FnScope ["walk"] ["walk"] (defScope sEnd) := ⟨rfl, rfl, rfl, by decide +kernel, rfl, by decide +kernel, by decide +kernel⟩
theorem ok_end {f fC : Addr} {fd fdC : FuncData} (F : Df K mg "end" sEnd ["walk"] f fd) (X : Txt K mg) (C : Df K mg "check_walk" sCheckWalk ["walk"] fC fdC) : FnOk P w K mg base CX0 2 f fd ["walk"] spEnd := by
  have GC : FnOk P w K mg base CX0 1 fC fdC ["walk"] spCheckWalk := ok_check_walk C X
  refine F.fn.ok scEnd (fun vs H Q E h => ?_) (fun cdv A outer s H vs Q E hr h => ?_)
  · obtain ⟨l, rfl, _⟩ := h
    rfl
  · obtain ⟨l, rfl, hl, k⟩ := h
    refine lX ?_
    extract_lets
    refine ⟨_, pss_cons (ps_expr (pe_call GC hr rfl C.at_ C.fn.kp C.bi .nil pass0 (pa_cons (pv 0) pa_nil)))
      (pss_one (ps_ret (pe_tup (pa_cons (pe_op op_sub (pe_bm PySem.F.plainAttrs_str PySem.F.slot_str_count PySem.F.type_str_count mt_count (pv 0) (pa_cons pe_str pa_nil)) (pe_bm PySem.F.plainAttrs_str PySem.F.slot_str_count PySem.F.type_str_count mt_count (pv 0) (pa_cons pe_str pa_nil)))
        (pa_cons (pe_op op_sub (pe_bm PySem.F.plainAttrs_str PySem.F.slot_str_count PySem.F.type_str_count mt_count (pv 0) (pa_cons pe_str pa_nil)) (pe_bm PySem.F.plainAttrs_str PySem.F.slot_str_count PySem.F.type_str_count mt_count (pv 0) (pa_cons pe_str pa_nil))) pa_nil))))), ?_⟩
    refine ⟨_, rfl, l, rfl, hl, ?_⟩
    refine ⟨_, rfl, rfl, l, 101, rfl, by rw [lit_e], _, rfl, rfl, l, 119, rfl, by rw [lit_w], _, _, rfl, rfl, _, rfl, rfl, l, 110, rfl, by rw [lit_n], _, rfl, rfl, l, 115, rfl, by rw [lit_s], _, _, rfl, rfl, two_le, ?_⟩
    intro b hb
    have e := posOf_cnt hl
    have := k b hb
    rw [e] at this
    rw [cntL_eq, cntL_eq, cntL_eq, cntL_eq]
    exact this
theorem scTurned : FnScope ["step", "quarters"] ["step", "quarters"] (defScope sTurned) := ⟨rfl, rfl, rfl, by decide +kernel, rfl, by decide +kernel, by decide +kernel⟩
theorem ok_turned {f : Addr} {fd : FuncData} (F : Df K mg "turned" sTurned ["step", "quarters"] f fd) (X : Txt K mg) : FnOk P w K mg base CX0 1 f fd ["step", "quarters"] spTurned := by
  obtain ⟨tl, hlw⟩ := X.lw
  refine F.fn.ok scTurned (fun vs H Q E h => ?_) (fun cdv A outer s H vs Q E hr h => ?_)
  · obtain ⟨c, q, rfl, _⟩ := h
    rfl
  · obtain ⟨c, q, rfl, hc, k⟩ := h
    refine lX ?_
    extract_lets
    refine ⟨_, pss_one (ps_ret (pe_ix ix_str (pe_glob rfl hlw (v := .str (T [110, 119, 115, 101])) ⟨tl, by rw [lit_nwse]⟩)
      (pe_op op_mod (pe_op op_add (pe_bm PySem.F.plainAttrs_str PySem.F.slot_str_index PySem.F.type_str_index mt_index (pe_glob rfl hlw (v := .str (T [110, 119, 115, 101])) ⟨tl, by rw [lit_nwse]⟩) (pa_cons (pv 0) pa_nil)) (pv 1)) pe_int) (fun _ _ => rfl))), ?_⟩
    obtain ⟨rest, ho⟩ := occ_ix hc
    refine ⟨rfl, _, rfl, _, _, _, _, rfl, rfl, ho, _, rfl, _, _, rfl, rfl, _, _, rfl, rfl, (by show (0 : Int) < 4; decide), _, _, _, rfl, rfl, (by rw [T_len]; show 4 ≤ sizeLine; decide), ?_, k⟩
    rw [turn_ix]
    exact atI_nat (lw_at (Nat.mod_lt _ (by decide)))
theorem scQuartered : FnScope ["walk", "by", "quarters"] ["walk", "by"] (defScope sQuartered) := ⟨rfl, rfl, rfl, by decide +kernel, rfl, by decide +kernel, by decide +kernel⟩
theorem scMirrored : FnScope ["walk"] ["walk"] (defScope sMirrored) := ⟨rfl, rfl, rfl, by decide +kernel, rfl, by decide +kernel, by decide +kernel⟩
theorem scBackwards : FnScope ["walk"] ["walk"] (defScope sBackwards) := ⟨rfl, rfl, rfl, by decide +kernel, rfl, by decide +kernel, by decide +kernel⟩
theorem scThinned : FnScope ["walk", "kept", "step"] ["walk"] (defScope sThinned) := ⟨rfl, rfl, rfl, by decide +kernel, rfl, by decide +kernel, by decide +kernel⟩
theorem scIsClosed : FnScope ["walk"] ["walk"] (defScope sIsClosed) := ⟨rfl, rfl, rfl, by decide +kernel, rfl, by decide +kernel, by decide +kernel⟩
noncomputable def spIsClosed : Sp := fun vs H Q _ => ∃ (l : List Nat), vs = [.str (T l)] ∧ IsW l ∧ ∀ H', Same H H' → Q (.bl (decide (posOf l = (0, 0)))) H'
theorem ok_is_closed {f fC fE : Addr} {fd fdC fdE : FuncData} (F : Df K mg "is_closed" sIsClosed ["walk"] f fd) (X : Txt K mg) (C : Df K mg "check_walk" sCheckWalk ["walk"] fC fdC) (En : Df K mg "end" sEnd ["walk"] fE fdE) :
    FnOk P w K mg base CX0 3 f fd ["walk"] spIsClosed := by
  have GE : FnOk P w K mg base CX0 2 fE fdE ["walk"] spEnd := ok_end En X C
  refine F.fn.ok scIsClosed (fun vs H Q E h => ?_) (fun cdv A outer s H vs Q E hr h => ?_)
  · obtain ⟨l, rfl, _⟩ := h
    rfl
  · obtain ⟨l, rfl, hl, k⟩ := h
    refine lX ?_
    extract_lets
    refine ⟨_, pss_one (ps_ret (pe_cmpR (op_eqD hr.units) (pe_call GE hr rfl En.at_ En.fn.kp En.bi .nil pass0 (pa_cons (pv 0) pa_nil)) (pe_tup (pa_cons pe_int (pa_cons pe_int pa_nil))) (nomark _))), ?_⟩
    refine ⟨_, rfl, l, rfl, hl, fun b hb => ⟨two_le, fun c hc => ?_⟩⟩
    have hbc : b ≠ c := fun z => by rw [z, upd_same] at hc; cases hc
    refine ⟨_, _, dat_pt (p := posOf l) (by rw [upd_ne hbc, upd_same]), dat_pt (p := (0, 0)) upd_same, shaped_pt _, shaped_pt _, ?_⟩
    rw [eqv_pt]
    refine k _ fun x o e => ?_
    rw [upd_ne, upd_ne (ne_of_none e hb)]
    · exact e
    · refine ne_of_none (H := upd H b (.tup [.int (posOf l).1, .int (posOf l).2])) (o := o) ?_ hc
      rw [upd_ne (ne_of_none e hb)]
      exact e
theorem scSimpleInit : FnScope ["self", "places"] ["self", "places"] (defScope sSimpleInit) := ⟨rfl, rfl, rfl, by decide +kernel, rfl, by decide +kernel, by decide +kernel⟩
theorem ok_simple_init {f Cs : Addr} {fd : FuncData} (F : Mf K "__init__" "Simple.__init__" sSimpleInit ["self", "places"] f fd) (hlst : mg "list" = none) (cl : Cls K Cs) (nP : NoAttr K Cs "places") : FnOk P w K mg base CX0 1 f fd ["self", "places"] (spSimpInit K Cs) := by
  refine F.fn.ok scSimpleInit (fun vs H Q E h => ?_) (fun cdv A outer s H vs Q E hr h => ?_)
  · obtain ⟨p, dx, a, xs, rfl, _⟩ := h
    rfl
  · obtain ⟨p, dx, a, xs, rfl, hp, ha, k⟩ := h
    refine lX ?_
    extract_lets
    refine ⟨_, pss_one (ps_fld (pv 0) (pe_callTy call_list_of rfl hlst PyProof.Rows.boot_list (pa_cons (pv 1) pa_nil)) rfl), ?_⟩
    refine ⟨_, rfl, a, xs, rfl, .inl ha, fun d hd => ?_⟩
    have npd : p ≠ d := ne_of_none hp hd
    exact ⟨_, rfl, p, Cs, dx, [], rfl, (by rw [upd_ne npd]; exact hp), cl, nP, (by show 0 < 1000; decide), k d hd⟩
theorem scTwiceInit : FnScope ["self", "first", "second"] ["self", "first", "second"] (defScope sTwiceInit) := ⟨rfl, rfl, rfl, by decide +kernel, rfl, by decide +kernel, by decide +kernel⟩
theorem ok_twice_init {f Ct : Addr} {fd : FuncData} (F : Mf K "__init__" "Twice.__init__" sTwiceInit ["self", "first", "second"] f fd) (cl : Cls K Ct) (nF : NoAttr K Ct "first") (nS : NoAttr K Ct "second") : FnOk P w K mg base CX0 1 f fd ["self", "first", "second"] (spTwInit Ct) := by
  refine F.fn.ok scTwiceInit (fun vs H Q E h => ?_) (fun cdv A outer s H vs Q E hr h => ?_)
  · obtain ⟨p, dx, i, j, rfl, _⟩ := h
    rfl
  · obtain ⟨p, dx, i, j, rfl, hp, k⟩ := h
    refine lX ?_
    extract_lets
    refine ⟨_, pss_cons (ps_fld (pv 0) (pv 1) rfl) (pss_one (ps_fld (pv 0) (pv 2) rfl)), ?_⟩
    exact ⟨_, rfl, _, rfl, p, Ct, dx, [], rfl, hp, cl, nF, (by show 0 < 1000; decide), _, rfl, _, rfl, p, Ct, dx, _, rfl, upd_same, cl, nS, (by show 1 < 1000; decide), k⟩
theorem scMeets : FnScope ["walk", "moments", "moment", "place"] ["walk"] (defScope sMeets) := ⟨rfl, rfl, rfl, by decide +kernel, rfl, by decide +kernel, by decide +kernel⟩
noncomputable def momK : Nat → List Pt → List (List Key × V)
  | _, [] => []
  | n, q :: r => (ptK q, .int (n : Int)) :: momK (n + 1) r
theorem momK_keys : ∀ (n : Nat) (ps : List Pt), (momK n ps).map (·.1) = ps.map ptK
  | _, [] => rfl
  | n, q :: r => by
    show ptK q :: _ = ptK q :: _
    rw [momK_keys (n + 1) r]
theorem momK_length (n : Nat) (ps : List Pt) : (momK n ps).length = ps.length := by
  have := congrArg List.length (momK_keys n ps)
  rw [List.length_map, List.length_map] at this
  exact this
theorem momK_snoc : ∀ (n : Nat) (ps : List Pt) (q : Pt), momK n (ps ++ [q]) = momK n ps ++ [(ptK q, .int ((n + ps.length : Nat) : Int))]
  | n, [], q => by simp [momK]
  | n, p :: ps, q => by
    show (ptK p, _) :: momK (n + 1) (ps ++ [q]) = (ptK p, _) :: (momK (n + 1) ps ++ _)
    rw [momK_snoc (n + 1) ps q, List.length_cons]
    have : n + 1 + ps.length = n + (ps.length + 1) := by omega
    rw [this]
theorem momK_val (q : Pt) : ∀ (n : Nat) (ps : List Pt), (∃ j : Nat, ps[j]? = some q ∧ valV (momK n ps) (ptK q) = some (.int ((n + j : Nat) : Int))) ∨ (q ∉ ps ∧ valV (momK n ps) (ptK q) = none)
  | n, [] => .inr ⟨List.not_mem_nil, rfl⟩
  | n, p :: ps => by
    by_cases e : p = q
    · subst e
      exact .inl ⟨0, rfl, valV_pos (p := (ptK p, .int (n : Int))) (r := momK (n + 1) ps) rfl⟩
    · have hv : valV (momK n (p :: ps)) (ptK q) = valV (momK (n + 1) ps) (ptK q) := valV_neg (p := (ptK p, .int (n : Int))) (r := momK (n + 1) ps) fun z => e (ptK_inj z)
      rcases momK_val q (n + 1) ps with ⟨j, h1, h2⟩ | ⟨h1, h2⟩
      · refine .inl ⟨j + 1, by simpa using h1, ?_⟩
        rw [hv, h2]
        have : n + 1 + j = n + (j + 1) := by omega
        rw [this]
      · refine .inr ⟨fun z => ?_, by rw [hv, h2]⟩
        rcases List.mem_cons.mp z with z | z
        · exact e z.symm
        · exact h1 z
theorem ok_meets {f fC Cs Ct fSI fSS fTI fTS : Addr} {fd fdC fdSI fdTI : FuncData} (F : Df K mg "meets" sMeets ["walk"] f fd) (henu : mg "enumerate" = none) (hsrt : mg "sorted" = none) (Cp : Df K mg "counted_places" sCountedPlaces ["walk"] fC fdC) (GC : FnOk P w K mg base CX0 3 fC fdC ["walk"] spCounted)
    (S : ClT K mg "Simple" Cs fSI fSS) (SI : Mf K "__init__" "Simple.__init__" sSimpleInit ["self", "places"] fSI fdSI) (GSI : FnOk P w K mg base CX0 1 fSI fdSI ["self", "places"] (spSimpInit K Cs))
    (Tw : ClT K mg "Twice" Ct fTI fTS) (TI : Mf K "__init__" "Twice.__init__" sTwiceInit ["self", "first", "second"] fTI fdTI) (GTI : FnOk P w K mg base CX0 1 fTI fdTI ["self", "first", "second"] (spTwInit Ct)) : FnOk P w K mg base CX0 4 f fd ["walk"] (spMeets Cs Ct) := by
  refine F.fn.ok scMeets (fun vs H Q E h => ?_) (fun cdv A outer s H vs Q E hr h => ?_)
  · obtain ⟨l, rfl, _⟩ := h
    rfl
  · obtain ⟨l, rfl, hl, hz, k1, k2⟩ := h
    have esz : sizeLine = 16777216 := PySem.sizeLine_eq
    have hu := hu_of hr
    have hrM : Room (1 + 1) _ := hr.mono (by decide)
    refine lX ?_
    extract_lets
    refine ⟨_, pss_consL (ps_set (i := 1) scMeets.nd rfl (Or.inl rfl) pe_dnewT)
      (pss_consL (ps_for PassesOwn.never rfl (pi_enumL rfl henu (pa_cons (pe_call GC hr rfl Cp.at_ Cp.fn.kp Cp.bi .nil pass0 (pa_cons (pv 0) pa_nil)) pa_nil)) (pg_tup (n := 2) rfl (pgs_cons (pg_name (i := 2) scMeets.nd rfl (Or.inl rfl)) (pgs_cons (pg_name (i := 3) scMeets.nd rfl (Or.inl rfl)) pgs_nil)))
        (pss_consL (ps_if (pt_cmp (pc_din hu (pv 3) (pv 1))) (pss_one (ps_ret (pe_make Tw.mkr GTI hrM rfl Tw.at_ TI.bi .nil pass0 (pa_cons (pe_dget hu (pv 1) (pv 3) (fun _ _ => rfl)) (pa_cons (pv 2) pa_nil))))) pss_nil)
        (pss_one (ps_dput hu (pv 1) (pv 3) (pv 2) rfl))))
      (pss_one (ps_ret (pe_make S.mkr GSI hrM rfl S.at_ SI.bi .nil pass0 (pa_cons (pe_callB (call_sortedD rfl) rfl hsrt PyProof.Rows.boot_sorted (pa_cons (pv 1) pa_nil)) pa_nil))))), ?_⟩
    lift_lets
    extract_lets
    intro m hm
    have hm1 : upd H m (.dT []) m = some (.dT []) := upd_same
    have s0 : Same H (upd H m (.dT [])) := same_new hm
    first | change Ends.nx _ _ (upd H m (.dT [])) | change tSeq _ _ _ _ (upd H m (.dT []))
    generalize upd H m (.dT []) = H0 at *
    revert H0
    refine keepG ?_
    set_option tactic.hygienic false in intros
    refine ⟨_, rfl, l, rfl, hl, hz, fun c H1 hc s1 hP => ?_⟩
    have hm2 : H1 m = some (.dT []) := s1 _ _ hm1
    have hcm : c ≠ m := fun z => by rw [z, hm1] at hc; cases hc
    have hcl := cntP_length l
    obtain ⟨as, hc1, hT⟩ := id hP
    have hlen : as.length = (cntP l).length := Paired.length hT
    refine ⟨c, rfl, ⟨_, SqL.of hc1⟩, ?_⟩
    refine for_enumL (K := K) (a := c) (xs := as.map V.ref) (fun i σ H' => ∃ (v2 v3 : Option V), σ = [some (.str (T l)), some (.ref m), v2, v3] ∧ (∀ b o, b ≠ m → H1 b = some o → H' b = some o) ∧ H' m = some (.dT (momK 0 ((cntP l).take i))) ∧ ((cntP l).take i).Nodup) ?_ ?_ ?_ ?_
    · exact ⟨none, none, rfl, fun b o _ e => e, hm2, by rw [List.take_zero]; exact List.nodup_nil⟩
    · rintro i σ H' hi ⟨v2, v3, rfl, kp, hm', nd⟩
      exact SqL.of (kp _ _ hcm hc1)
    · intro i v σ H' b hv hI hb
      generalize hE1 : Ends.mk _ _ _ _ = E1
      revert E1
      refine keepG ?_
      set_option tactic.hygienic false in intros
      obtain ⟨v2, v3, rfl, kp, hm', nd⟩ := hI
      obtain ⟨a, ha, rfl⟩ := map_ref_get hv
      obtain ⟨q, hq, hta⟩ := paired_get hT ha
      have ham : a ≠ m := fun z => by rw [z, hm2] at hta; cases hta
      have hta' : H' a = some (.tup [.int q.1, .int q.2]) := kp _ _ ham hta
      have hil : i < (cntP l).length := (List.getElem?_eq_some_iff.mp hq).1
      have et : (cntP l).take (i + 1) = (cntP l).take i ++ [q] := by rw [List.take_add_one, hq]; rfl
      have hli : ((cntP l).take i).length = i := by rw [List.length_take]; omega
      have sb : Same H' (upd H' b (.tup [.int (i : Int), .ref a])) := same_new hb
      have tb : upd H' b (.tup [.int (i : Int), .ref a]) b = some (.tup [.int (i : Int), .ref a]) := upd_same
      change gTup _ _ _ _ _ (upd H' b (.tup [.int (i : Int), .ref a])) _
      generalize upd H' b (.tup [.int (i : Int), .ref a]) = H2 at *
      revert H2
      refine keepG ?_
      set_option tactic.hygienic false in intros
      have hm3 := sb _ _ hm'
      have hta3 : H2 a = some (.tup ((ptK q).map kV)) := sb _ _ hta'
      refine ⟨b, _, rfl, SqT.of tb, rfl, _, _, rfl, _, _, rfl, rfl, ?_⟩
      refine ⟨_, rfl, _, rfl, m, _, rfl, DGet.t hm3 hta3, _, rfl, ?_⟩
      rcases momK_val q 0 ((cntP l).take i) with ⟨j, hj1, hj2⟩ | ⟨hn1, hn2⟩
      · rw [hj2]
        refine iteT ?_
        have hji : j < i := by
          have := (List.getElem?_eq_some_iff.mp hj1).1
          omega
        refine ⟨_, rfl, _, rfl, m, _, rfl, by have := DGet.t hm3 hta3; rw [hj2] at this; exact this, _, rfl, fun x dx hx hdx hne => ?_⟩
        subst hE1
        refine ⟨x, dx, ((0 + j : Nat) : Int), (i : Int), rfl, upd_same, rfl, ?_⟩
        have hxm : x ≠ m := fun z => by rw [z, hm3] at hx; cases hx
        have hdm : dx ≠ m := fun z => by rw [z, hm3] at hdx; cases hdx
        have hsame : ∀ y o, H y = some o → H2 y = some o := fun y o e => sb _ _ (kp _ _ (ne_of_none e hm) (s1 _ _ (s0 _ _ e)))
        have hx0 : H x = none := by
          cases e : H x with
          | none => rfl
          | some o => rw [hsame _ _ e] at hx; cases hx
        refine k2 j i x _ hji hil ?_ hx0 (fun y o e => ?_) ⟨dx, ?_⟩
        · rw [List.getElem?_take, if_pos hji] at hj1
          rw [hj1, hq]
        · have e2 := hsame _ _ e
          rw [upd_ne (ne_of_none e hx0), upd_ne (ne_of_none e hx0), upd_ne (ne_of_none e hx0), upd_ne (ne_of_none e2 hdx)]
          exact e2
        · rw [upd_same, Nat.zero_add]
      · rw [hn2]
        refine iteF ?_
        have hlt : (momK 0 ((cntP l).take i)).length < sizeLine := by
          rw [momK_length, List.length_take]
          omega
        refine ⟨_, rfl, _, rfl, _, rfl, m, _, rfl, DPut.t hm3 hta3 hlt, ?_⟩
        rw [putK_new _ hn2]
        subst hE1
        refine ⟨_, _, rfl, fun x o hx h1 => ?_, ?_, ?_⟩
        · rw [upd_ne hx]
          exact sb _ _ (kp _ _ hx h1)
        · rw [upd_same, et, momK_snoc, hli, Nat.zero_add]
        · rw [et, List.nodup_append]
          refine ⟨nd, by simp, fun x hx y hy e => ?_⟩
          rw [List.mem_singleton.mp hy] at e
          exact hn1 (e ▸ hx)
    · rintro σ H' ⟨v2, v3, rfl, kp, hm', nd⟩
      rw [List.length_map, hlen, List.take_of_length_le (Nat.le_refl _)] at nd
      rw [List.length_map, hlen, List.take_of_length_le (Nat.le_refl _)] at hm'
      have hsame : ∀ y o, H y = some o → H' y = some o := fun y o e => kp _ _ (ne_of_none e hm) (s1 _ _ (s0 _ _ e))
      refine ⟨_, rfl, m, _, cntP l, rfl, .inl hm', momK_keys 0 _, fun e as' ps' he hT' hpp hso => ?_⟩
      have s4 := same_new (o := .lst (as'.map V.ref)) he
      have h4 : upd H' e (.lst (as'.map V.ref)) e = some (.lst (as'.map V.ref)) := upd_same
      have hT4 : Tups (upd H' e (.lst (as'.map V.ref))) as' ps' := tups_mono hT' s4.tup
      intro x dx hx hdx hne
      change upd H' e (.lst (as'.map V.ref)) x = none at hx
      change upd H' e (.lst (as'.map V.ref)) dx = none at hdx
      change spSimpInit K Cs _ (upd (upd (upd H' e (.lst (as'.map V.ref))) dx (.own x)) x (.ins Cs dx [])) _ _
      generalize upd H' e (.lst (as'.map V.ref)) = H4 at *
      revert H4
      refine keepG ?_
      set_option tactic.hygienic false in intros
      have hex : e ≠ x := ne_of_none h4 hx
      have hed : e ≠ dx := ne_of_none h4 hdx
      refine ⟨x, dx, e, as'.map V.ref, rfl, upd_same, SqL.of (by rw [upd_ne hex, upd_ne hed]; exact h4), fun d hd => ⟨rfl, ?_⟩⟩
      have hdx' : d ≠ x := fun z => by rw [z, upd_same] at hd; cases hd
      have hdd : d ≠ dx := fun z => by rw [z, upd_ne hne, upd_same] at hd; cases hd
      have hd4 : H4 d = none := by rw [upd_ne hdx', upd_ne hdd] at hd; exact hd
      have hx0 : H x = none := by
        cases e' : H x with
        | none => rfl
        | some o => rw [s4 _ _ (hsame _ _ e')] at hx; cases hx
      have old : ∀ y o, H4 y = some o → upd (upd (upd (upd H4 dx (.own x)) x (.ins Cs dx [])) d (.lst (as'.map V.ref))) x (.ins Cs dx (fsS d)) y = some o := fun y o e' => by
        rw [upd_ne (ne_of_none e' hx), upd_ne (ne_of_none e' hd4), upd_ne (ne_of_none e' hx), upd_ne (ne_of_none e' hdx)]
        exact e'
      refine k1 nd x _ hx0 (fun y o e' => old _ _ (s4 _ _ (hsame _ _ e'))) ⟨dx, d, as', upd_same, ?_, ?_⟩
      · rw [upd_ne hdx', upd_same]
      · rw [← srtP_eq hpp hso]
        exact hT4.mono fun y xs e' => old _ _ e'
theorem scCheckClosed : FnScope ["walk"] ["walk"] (defScope sCheckClosed) := ⟨rfl, rfl, rfl, by decide +kernel, rfl, by decide +kernel, by decide +kernel⟩
theorem ok_check_closed {f fI fC fE : Addr} {fd fdI fdC fdE : FuncData} (F : Df K mg "check_closed" sCheckClosed ["walk"] f fd) (X : Txt K mg) (I : Df K mg "is_closed" sIsClosed ["walk"] fI fdI) (C : Df K mg "check_walk" sCheckWalk ["walk"] fC fdC) (En : Df K mg "end" sEnd ["walk"] fE fdE) :
    FnOk P w K mg base CX0 4 f fd ["walk"] spCheckClosed := by
  have GI : FnOk P w K mg base CX0 3 fI fdI ["walk"] spIsClosed := ok_is_closed I X C En
  refine F.fn.ok scCheckClosed (fun vs H Q E h => ?_) (fun cdv A outer s H vs Q E hr h => ?_)
  · obtain ⟨l, rfl, _⟩ := h
    rfl
  · obtain ⟨l, rfl, hl, h0, k⟩ := h
    refine lX ?_
    extract_lets
    refine ⟨_, pss_one (ps_if (pt_not (pt_val (pe_call GI hr rfl I.at_ I.fn.kp I.bi .nil pass0 (pa_cons (pv 0) pa_nil)))) pss_never pss_nil), ?_⟩
    refine ⟨_, rfl, l, rfl, hl, fun H1 s1 => ⟨_, rfl, ?_⟩⟩
    rw [h0]
    refine iteF ?_
    exact k _ s1
theorem scCheckLoop : FnScope ["walk"] ["walk"] (defScope sCheckLoop) := ⟨rfl, rfl, rfl, by decide +kernel, rfl, by decide +kernel, by decide +kernel⟩
noncomputable def spCheckLoop : Sp := fun vs H Q _ => ∃ (l : List Nat), vs = [.str (T l)] ∧ IsW l ∧ l.length ≤ 1000 ∧ posOf l = (0, 0) ∧ 4 ≤ l.length ∧ (cntP l).Nodup ∧ ∀ H', Same H H' → Q .non H'
theorem ok_check_loop {f fZ fM Cs Ct fSI fSS : Addr} {fd fdZ fdM : FuncData} (F : Df K mg "check_loop" sCheckLoop ["walk"] f fd) (X : Txt K mg) (hlen : mg "len" = none) (Z : Df K mg "check_closed" sCheckClosed ["walk"] fZ fdZ) (GZ : FnOk P w K mg base CX0 4 fZ fdZ ["walk"] spCheckClosed)
    (M : Df K mg "meets" sMeets ["walk"] fM fdM) (GM : FnOk P w K mg base CX0 4 fM fdM ["walk"] (spMeets Cs Ct)) (S : ClT K mg "Simple" Cs fSI fSS) (kSS : PySem.W.kitOne K (.ref Cs) (.ref Cs) = some true) : FnOk P w K mg base CX0 5 f fd ["walk"] spCheckLoop := by
  refine F.fn.ok scCheckLoop (fun vs H Q E h => ?_) (fun cdv A outer s H vs Q E hr h => ?_)
  · obtain ⟨l, rfl, _⟩ := h
    rfl
  · obtain ⟨l, rfl, hl, hz, h0, h4, nd, k⟩ := h
    have esz : sizeLine = 16777216 := PySem.sizeLine_eq
    refine lX ?_
    extract_lets
    refine ⟨_, pss_cons (ps_expr (pe_call GZ hr rfl Z.at_ Z.fn.kp Z.bi .nil pass0 (pa_cons (pv 0) pa_nil)))
      (pss_one (ps_if (PW.pt (pw_or (pt_cmpR op_lt (pe_callB call_len_str rfl hlen PySem.boot_len (pa_cons (pv 0) pa_nil)) pe_int (nomark _))
        (pw_or1 (pt_not (pt_val (pe_callB call_isC rfl X.isi PyProof.Rows.boot_isinstance (pa_cons (pe_call GM hr rfl M.at_ M.fn.kp M.bi .nil pass0 (pa_cons (pv 0) pa_nil)) (pa_cons (pe_glob rfl S.at_ (v := .ref Cs) rfl) pa_nil)))))))) pss_never pss_nil)), ?_⟩
    refine ⟨_, rfl, l, rfl, hl, h0, fun H1 s1 => ?_⟩
    refine ⟨_, rfl, _, rfl, (by rw [T_len]; omega), _, _, rfl, rfl, _, rfl, ?_⟩
    rw [T_len]
    refine ite2 (fun h => ?_) (fun _ => ?_)
    · have : (l.length : Int) < 4 := of_decide_eq_true h
      omega
    refine ⟨_, rfl, l, rfl, hl, hz, fun _ p H2 hp s2 hS => ?_, fun i j p H2 hij hj e _ _ _ => ?_⟩
    · obtain ⟨dx, d, as, h1, _⟩ := hS
      refine ⟨_, _, _, true, rfl, S.ty h1, kSS, _, rfl, ?_⟩
      refine iteF ?_
      exact k H2 (s1.trans s2)
    · exfalso
      have g1 : (cntP l)[i]? = some (cntP l)[i] := List.getElem?_eq_getElem (by omega)
      have g2 : (cntP l)[j]? = some (cntP l)[j] := List.getElem?_eq_getElem hj
      rw [g1, g2] at e
      exact List.pairwise_iff_getElem.mp (List.nodup_iff_pairwise_ne.mp nd) i j (by omega) hj hij (Option.some.inj e)
theorem scTurns : FnScope ["walk", "left", "right", "ahead", "step"] ["walk"] (defScope sTurns) := ⟨rfl, rfl, rfl, by decide +kernel, rfl, by decide +kernel, by decide +kernel⟩
noncomputable def spTurns : Sp := fun vs H Q _ => ∃ (l : List Nat), vs = [.str (T l)] ∧ IsW l ∧ l.length ≤ 1000 ∧ posOf l = (0, 0) ∧ 4 ≤ l.length ∧ (cntP l).Nodup ∧ ∀ b H', H b = none → Same H H' → H' b = some (.tup [.int (cycT isL l : Int), .int (cycT isR l : Int)]) → Q (.ref b) H'
theorem cntT_snoc (f : Nat → Nat → Bool) (p : Nat) (l : List Nat) (c : Nat) : cntT f p (l ++ [c]) = cntT f p l + (if f (lastD p l) c = true then 1 else 0) := by
  rw [cntT_append]
  rfl
theorem lastD_take {l : List Nat} (p : Nat) : ∀ {i : Nat} {c : Nat}, (p :: l)[i]? = some c → lastD p (l.take i) = c := by
  induction l generalizing p with
  | nil =>
    intro i c h
    cases i with
    | zero =>
      simp at h
      subst h
      rfl
    | succ i => simp at h
  | cons d r ih =>
    intro i c h
    cases i with
    | zero =>
      simp at h
      subst h
      rfl
    | succ i =>
      show lastD d (r.take i) = c
      exact ih d (by simpa using h)
theorem ok_turns {f fC fT : Addr} {fd fdC fdT : FuncData} (F : Df K mg "turns" sTurns ["walk"] f fd) (hzip : mg "zip" = none) (C : Df K mg "check_loop" sCheckLoop ["walk"] fC fdC) (GC : FnOk P w K mg base CX0 5 fC fdC ["walk"] spCheckLoop)
    (Tn : Df K mg "turned" sTurned ["step", "quarters"] fT fdT) (GT : FnOk P w K mg base CX0 1 fT fdT ["step", "quarters"] spTurned) : FnOk P w K mg base CX0 6 f fd ["walk"] spTurns := by
  refine F.fn.ok scTurns (fun vs H Q E h => ?_) (fun cdv A outer s H vs Q E hr h => ?_)
  · obtain ⟨l, rfl, _⟩ := h
    rfl
  · obtain ⟨l, rfl, hl, hz, h0, h4, nd, k⟩ := h
    have esz : sizeLine = 16777216 := PySem.sizeLine_eq
    have hr1 : Room 1 _ := hr.mono (by decide)
    refine lX ?_
    extract_lets
    refine ⟨_, pss_consL (ps_expr (pe_call GC hr rfl C.at_ C.fn.kp C.bi .nil pass0 (pa_cons (pv 0) pa_nil)))
      (pss_consL (ps_set (i := 1) scTurns.nd rfl (Or.inl rfl) pe_int)
      (pss_consL (ps_set (i := 2) scTurns.nd rfl (Or.inl rfl) pe_int)
      (pss_consL (ps_for PassesOwn.never rfl (pi_zipSS rfl hzip (pa_cons (pe_op op_add_str (pe_ix ix_str (pv 0) (pe_un un_neg pe_int) (fun _ _ => rfl)) (pv 0)) (pa_cons (pv 0) pa_nil))) (pg_tup (n := 2) rfl (pgs_cons (pg_name (i := 3) scTurns.nd rfl (Or.inl rfl)) (pgs_cons (pg_name (i := 4) scTurns.nd rfl (Or.inl rfl)) pgs_nil)))
        (pss_consL (ps_mrg (ps_if (pt_cmpR op_eq (pv 4) (pe_call GT hr1 rfl Tn.at_ Tn.fn.kp Tn.bi .nil pass0 (pa_cons (pv 3) (pa_cons pe_int pa_nil))) (nomark _)) (pss_one (ps_set (i := 1) scTurns.nd rfl (Or.inl rfl) (pe_op op_add (pv 1) pe_int))) pss_nil))
        (pss_one (ps_if (pt_cmpR op_eq (pv 4) (pe_call GT hr1 rfl Tn.at_ Tn.fn.kp Tn.bi .nil pass0 (pa_cons (pv 3) (pa_cons pe_int pa_nil))) (nomark _)) (pss_one (ps_set (i := 2) scTurns.nd rfl (Or.inl rfl) (pe_op op_add (pv 2) pe_int))) pss_nil))))
      (pss_one (ps_ret (pe_tup (pa_cons (pv 1) (pa_cons (pv 2) pa_nil)))))))), ?_⟩
    lift_lets
    extract_lets
    refine ⟨_, rfl, l, rfl, hl, hz, h0, h4, nd, fun H1 s1 => ?_⟩
    obtain ⟨pre, z, rfl⟩ : ∃ pre z, l = pre ++ [z] := ⟨l.dropLast, l.getLast (by intro e; rw [e] at h4; simp at h4), (List.dropLast_concat_getLast _).symm⟩
    generalize hll : pre ++ [z] = l at *
    revert l
    refine keepG ?_
    set_option tactic.hygienic false in intros
    have hoz : (T l).length ≤ sizeLine := by rw [T_len]; omega
    have hat : atI l (-1) = some z := by
      rw [← hll]
      exact atI_last _ _
    have hzl : Lt z := hl z (by rw [← hll]; simp)
    refine ⟨_, rfl, _, rfl, _, _, z, rfl, rfl, hoz, (by rw [T_list]; exact hat), _, rfl, _, _, rfl, rfl, (by show (T [z]).length + (T l).length ≤ sizeLine; rw [T_len, T_len]; show 1 + l.length ≤ sizeLine; omega), _, rfl, z :: l, l, ?_, ?_⟩
    · show [V.str (T [z] ++ T l), V.str (T l)] = _
      rw [T_app]
      rfl
    have hlast : lastD 0 l = z := by
      rw [← hll]
      exact lastD_snoc _ _ _
    refine for_zip (xs := letsV (z :: l)) (ys := letsV l) (fun i σ H' => (∃ (v3 v4 : Option V), σ = [some (.str (T l)), some (.int (cntT isL z (l.take i) : Int)), some (.int (cntT isR z (l.take i) : Int)), v3, v4]) ∧ Same H1 H') ?_ ?_ ?_ ?_
    · exact ⟨⟨none, none, rfl⟩, Same.refl _⟩
    · rintro i σ H' _
      exact ⟨rfl, rfl⟩
    · intro i u v σ H' b hu hv hI hb
      generalize hE1 : Ends.mk _ _ _ _ = E1
      revert E1
      refine keepG ?_
      set_option tactic.hygienic false in intros
      obtain ⟨⟨v3, v4, rfl⟩, sH⟩ := hI
      obtain ⟨a, ha, rfl⟩ : ∃ c, (z :: l)[i]? = some c ∧ u = V.str (T [c]) := by
        unfold letsV at hu
        rw [List.getElem?_map] at hu
        cases e : (z :: l)[i]? with
        | none => rw [e] at hu; cases hu
        | some c => rw [e] at hu; exact ⟨c, rfl, (Option.some.inj hu).symm⟩
      obtain ⟨c, hc, rfl⟩ : ∃ c, l[i]? = some c ∧ v = V.str (T [c]) := by
        unfold letsV at hv
        rw [List.getElem?_map] at hv
        cases e : l[i]? with
        | none => rw [e] at hv; cases hv
        | some c => rw [e] at hv; exact ⟨c, rfl, (Option.some.inj hv).symm⟩
      have hal : Lt a := by
        rcases List.mem_cons.mp (List.mem_of_getElem? ha) with e | e
        · rw [e]; exact hzl
        · exact hl a e
      have ela : lastD z (l.take i) = a := lastD_take z ha
      have et : l.take (i + 1) = l.take i ++ [c] := by rw [List.take_add_one, hc]; rfl
      have eL := cntT_snoc isL z (l.take i) c
      have eR := cntT_snoc isR z (l.take i) c
      rw [← et, ela] at eL eR
      have sb : Same H' (upd H' b (.tup [.str (T [a]), .str (T [c])])) := same_new hb
      have tb : upd H' b (.tup [.str (T [a]), .str (T [c])]) b = some (.tup [.str (T [a]), .str (T [c])]) := upd_same
      change gTup _ _ _ _ _ (upd H' b (.tup [.str (T [a]), .str (T [c])])) _
      generalize upd H' b (.tup [.str (T [a]), .str (T [c])]) = H2 at *
      revert H2
      refine keepG ?_
      set_option tactic.hygienic false in intros
      refine ⟨b, _, rfl, SqT.of tb, rfl, _, _, rfl, _, _, rfl, rfl, ?_⟩
      refine ⟨fun σ' H'' => H'' = H2 ∧ σ' = [some (.str (T l)), some (.int (cntT isL z (l.take (i + 1)) : Int)), some (.int (cntT isR z (l.take i) : Int)), some (.str (T [a])), some (.str (T [c]))], ?_, ?_⟩
      · refine ⟨_, rfl, _, rfl, a, 1, rfl, hal, rfl, _, rfl, ?_⟩
        have e1 : decide (V.str (T [c]) = V.str (T [tn ((1 : Int) % 4).toNat a])) = isL a c := by
          rw [strT]
          unfold isL
          by_cases y : c = tn 1 a
          · rw [decide_eq_true y, decide_eq_true (by rw [y]; rfl)]
          · rw [decide_eq_false y, decide_eq_false (by intro q; exact y (by simpa using q))]
        change if decide (V.str (T [c]) = V.str (T [tn ((1 : Int) % 4).toNat a])) = true then _ else _
        rw [e1]
        refine ite2 (fun h => ?_) (fun h => ?_)
        · refine ⟨_, rfl, _, _, rfl, rfl, rfl, ?_⟩
          rw [eL, if_pos h]
          rfl
        · refine ⟨rfl, ?_⟩
          rw [eL, if_neg h]
          rfl
      rintro σ' H'' ⟨rfl, rfl⟩
      refine ⟨_, rfl, _, rfl, a, 3, rfl, hal, rfl, _, rfl, ?_⟩
      have e1 : decide (V.str (T [c]) = V.str (T [tn ((3 : Int) % 4).toNat a])) = isR a c := by
        rw [strT]
        unfold isR
        by_cases y : c = tn 3 a
        · rw [decide_eq_true y, decide_eq_true (by rw [y]; rfl)]
        · rw [decide_eq_false y, decide_eq_false (by intro q; exact y (by simpa using q))]
      change if decide (V.str (T [c]) = V.str (T [tn ((3 : Int) % 4).toNat a])) = true then _ else _
      rw [e1]
      refine ite2 (fun h => ?_) (fun h => ?_)
      · subst hE1
        refine ⟨_, rfl, _, _, rfl, rfl, ⟨some (.str (T [a])), some (.str (T [c])), ?_⟩, sH.trans sb⟩
        rw [eR, if_pos h]
        rfl
      · subst hE1
        refine ⟨⟨some (.str (T [a])), some (.str (T [c])), ?_⟩, sH.trans sb⟩
        rw [eR, if_neg h]
        rfl
    · rintro σ H' ⟨⟨v3, v4, rfl⟩, sH⟩
      have em : min (letsV (z :: l)).length (letsV l).length = l.length := by
        unfold letsV
        rw [List.length_map, List.length_map, List.length_cons]
        omega
      rw [em, List.take_of_length_le (Nat.le_refl _)]
      refine ⟨_, rfl, _, rfl, two_le, fun b hb => ?_⟩
      have s2 : Same H H' := s1.trans sH
      have hbn : H b = none := by
        cases e : H b with
        | none => rfl
        | some o => rw [s2 _ _ e] at hb; cases hb
      refine k b _ hbn (s2.trans (same_new hb)) ?_
      unfold cycT
      rw [hlast]
      exact upd_same
theorem scBegun : FnScope ["walk", "by", "first"] ["walk", "by"] (defScope sBegun) := ⟨rfl, rfl, rfl, by decide +kernel, rfl, by decide +kernel, by decide +kernel⟩
theorem scUprightSteps : FnScope ["walk", "told", "place", "step"] ["walk"] (defScope sUprightSteps) := ⟨rfl, rfl, rfl, by decide +kernel, rfl, by decide +kernel, by decide +kernel⟩
theorem ok_upright_steps {f fC fS fP : Addr} {fd fdC fdS fdP : FuncData} (F : Df K mg "upright_steps" sUprightSteps ["walk"] f fd) (X : Txt K mg) (hzip : mg "zip" = none) (C : Df K mg "check_walk" sCheckWalk ["walk"] fC fdC) (S : Df K mg "stepped" sStepped ["place", "step"] fS fdS)
    (Pl : Df K mg "places" sPlaces ["walk"] fP fdP) : FnOk P w K mg base CX0 3 f fd ["walk"] spUpright := by
  have GP : FnOk P w K mg base CX0 2 fP fdP ["walk"] spPlaces := ok_places Pl X C S
  refine F.fn.ok scUprightSteps (fun vs H Q E h => ?_) (fun cdv A outer s H vs Q E hr h => ?_)
  · obtain ⟨l, rfl, _⟩ := h
    rfl
  · obtain ⟨l, rfl, hl, hz, k⟩ := h
    have esz : sizeLine = 16777216 := PySem.sizeLine_eq
    refine lX ?_
    extract_lets
    refine ⟨_, pss_consL (ps_set (i := 1) scUprightSteps.nd rfl (Or.inl rfl) (pe_lst pa_nil))
      (pss_consL (ps_for PassesOwn.never rfl (pi_zipLS rfl hzip (pa_cons (pe_call GP hr rfl Pl.at_ Pl.fn.kp Pl.bi .nil pass0 (pa_cons (pv 0) pa_nil)) (pa_cons (pv 0) pa_nil))) (pg_tup (n := 2) rfl (pgs_cons (pg_name (i := 2) scUprightSteps.nd rfl (Or.inl rfl)) (pgs_cons (pg_name (i := 3) scUprightSteps.nd rfl (Or.inl rfl)) pgs_nil)))
        (pss_consL (ps_mrg (ps_if (pt_cmpR op_eq (pv 3) pe_str (nomark _)) (pss_one (ps_expr (pe_bm PySem.F.plainAttrs_list PySem.F.slot_list_append PySem.F.type_list_append mt_append (pv 1) (pa_cons (pe_tup (pa_cons (pe_ix ix_tup (pv 2) pe_int (fun _ _ => rfl)) (pa_cons (pe_ix ix_tup (pv 2) pe_int (fun _ _ => rfl)) (pa_cons pe_int pa_nil)))) pa_nil)))) pss_nil))
        (pss_one (ps_if (pt_cmpR op_eq (pv 3) pe_str (nomark _)) (pss_one (ps_expr (pe_bm PySem.F.plainAttrs_list PySem.F.slot_list_append PySem.F.type_list_append mt_append (pv 1) (pa_cons (pe_tup (pa_cons (pe_op op_sub (pe_ix ix_tup (pv 2) pe_int (fun _ _ => rfl)) pe_int) (pa_cons (pe_ix ix_tup (pv 2) pe_int (fun _ _ => rfl)) (pa_cons (pe_un un_neg pe_int) pa_nil)))) pa_nil)))) pss_nil))))
      (pss_one (ps_ret (pv 1)))), ?_⟩
    lift_lets
    extract_lets
    refine ⟨(by show 0 ≤ sizeLine; omega), fun d hd => ?_⟩
    have hd1 : upd H d (.lst []) d = some (.lst []) := upd_same
    have s0 : Same H (upd H d (.lst [])) := same_new hd
    first | change Ends.nx _ _ (upd H d (.lst [])) | change tSeq _ _ _ _ (upd H d (.lst []))
    generalize upd H d (.lst []) = H0 at *
    revert H0
    refine keepG ?_
    set_option tactic.hygienic false in intros
    refine ⟨_, rfl, l, rfl, hl, hz, fun p H1 hp s1 hP => ?_⟩
    refine ⟨_, rfl, p, l, rfl, ?_, ?_⟩
    · obtain ⟨as, h1, _⟩ := hP
      exact ⟨_, SqL.of h1⟩
    have hd2 : H1 d = some (.lst []) := s1 _ _ hd1
    obtain ⟨ps, hp1, hp2⟩ := id hP
    have hpl : ps.length = l.length + 1 := by
      have e := Paired.length hp2
      rw [e]
      exact placesP_length _ _
    refine for_zip (xs := ps.map V.ref) (ys := letsV l) (fun i σ H' => ∃ (as : List Addr) (v2 v3 : Option V), σ = [some (.str (T l)), some (.ref d), v2, v3] ∧ Same H H' ∧ (∀ b o, b ≠ d → H1 b = some o → H' b = some o) ∧ H' d = some (.lst (as.map V.ref)) ∧ TrsAt H' as (upr (0, 0) (l.take i))) ?_ ?_ ?_ ?_
    · exact ⟨[], none, none, rfl, s0.trans s1, fun b o _ e => e, hd2, .nil⟩
    · rintro i σ H' ⟨as, v2, v3, rfl, sH, kp, hd', htr⟩
      refine ⟨SqL.of (kp _ _ (fun z => ?_) hp1), rfl⟩
      rw [z, hd1] at hp
      cases hp
    · intro i u v σ H' b hu hv hI hb
      generalize hE1 : Ends.mk _ _ _ _ = E1
      revert E1
      refine keepG ?_
      set_option tactic.hygienic false in intros
      obtain ⟨as, v2, v3, rfl, sH, kp, hd', htr⟩ := hI
      obtain ⟨a, ha, rfl⟩ := map_ref_get hu
      obtain ⟨q, hq, hta⟩ := paired_get hp2 ha
      obtain ⟨c, hc, rfl⟩ : ∃ c, l[i]? = some c ∧ v = V.str (T [c]) := by
        unfold letsV at hv
        rw [List.getElem?_map] at hv
        cases e : l[i]? with
        | none => rw [e] at hv; cases hv
        | some c => rw [e] at hv; exact ⟨c, rfl, (Option.some.inj hv).symm⟩
      have hlt : Lt c := hl c (List.mem_of_getElem? hc)
      have hil : i < l.length := (List.getElem?_eq_some_iff.mp hc).1
      have eq : q = posOf (l.take i) := by
        have := plOf_get (l := l) (i := i) (Nat.le_of_lt hil)
        rw [this] at hq
        exact (Option.some.inj hq).symm
      subst eq
      have et : l.take (i + 1) = l.take i ++ [c] := by rw [List.take_add_one, hc]; rfl
      have eu := upr_snoc (l.take i) (0, 0) c
      rw [← et] at eu
      have had : a ≠ d := fun z => by
        rw [z, hd2] at hta
        cases hta
      have hbd : d ≠ b := ne_of_none hd' hb
      have hta' : H' a = some (.tup [.int (posOf (l.take i)).1, .int (posOf (l.take i)).2]) := kp _ _ had hta
      have hab : a ≠ b := ne_of_none hta' hb
      have tb : upd H' b (.tup [.ref a, .str (T [c])]) b = some (.tup [.ref a, .str (T [c])]) := upd_same
      have sb : Same H' (upd H' b (.tup [.ref a, .str (T [c])])) := same_new hb
      change gTup _ _ _ _ _ (upd H' b (.tup [.ref a, .str (T [c])])) _
      have hal : as.length ≤ 1000 := by
        have e := Paired.length htr
        have := upr_length (l.take i) (0, 0)
        rw [List.length_take] at this
        omega
      generalize upd H' b (.tup [.ref a, .str (T [c])]) = H2 at *
      revert H2
      refine keepG ?_
      set_option tactic.hygienic false in intros
      refine ⟨b, _, rfl, SqT.of tb, rfl, _, _, rfl, _, _, rfl, rfl, ?_⟩
      have hd3 : H2 d = some (.lst (as.map V.ref)) := sb _ _ hd'
      have ht3 : H2 a = some (.tup [.int (posOf (l.take i)).1, .int (posOf (l.take i)).2]) := sb _ _ hta'
      have a0 : atI [V.int (posOf (l.take i)).1, V.int (posOf (l.take i)).2] 0 = some (.int (posOf (l.take i)).1) := atI_nat (j := 0) rfl
      have a1 : atI [V.int (posOf (l.take i)).1, V.int (posOf (l.take i)).2] 1 = some (.int (posOf (l.take i)).2) := atI_nat (j := 1) rfl
      have key : ∀ (Hx : Hp) (e : Addr) (t : Tr), H2 e = none → Hx = upd (upd H2 e (.tup [.int t.1, .int t.2.1, .int t.2.2])) d (.lst (as.map V.ref ++ [.ref e])) → Same H Hx ∧ (∀ x o, x ≠ d → H1 x = some o → Hx x = some o) ∧ Hx d = some (.lst ((as ++ [e]).map V.ref)) ∧ TrsAt Hx (as ++ [e]) (upr (0, 0) (l.take i) ++ [t]) := by
        rintro Hx e t he rfl
        have ed : e ≠ d := fun z => by rw [z, hd3] at he; cases he
        refine ⟨fun x o hx => ?_, fun x o hx h1 => ?_, ?_, ?_⟩
        · have xd : x ≠ d := ne_of_none hx hd
          have x2 := sb _ _ (sH _ _ hx)
          rw [upd_ne xd, upd_ne (ne_of_none x2 he)]
          exact x2
        · have x2 := sb _ _ (kp _ _ hx h1)
          rw [upd_ne hx, upd_ne (ne_of_none x2 he)]
          exact x2
        · rw [upd_same, List.map_append]
          rfl
        · refine paired_app (htr.mono fun x xs hx => ?_) (.cons ?_ .nil)
          · have x2 := sb _ _ hx
            have xd : x ≠ d := ne_of hx hd' (by intro z; cases z)
            rw [upd_ne xd, upd_ne (ne_of_none x2 he)]
            exact x2
          · show upd _ d _ e = _
            rw [upd_ne ed, upd_same]
      refine ⟨fun σ' H'' => (c = 110 ∧ σ' = [some (.str (T l)), some (.ref d), some (.ref a), some (.str (T [c]))] ∧ ∃ as' : List Addr, Same H H'' ∧ (∀ x o, x ≠ d → H1 x = some o → H'' x = some o) ∧ H'' d = some (.lst (as'.map V.ref)) ∧ TrsAt H'' as' (upr (0, 0) (l.take (i + 1)))) ∨ (¬ c = 110 ∧ σ' = [some (.str (T l)), some (.ref d), some (.ref a), some (.str (T [c]))] ∧ H'' = H2), ?_, ?_⟩
      · refine ⟨_, rfl, rfl, _, rfl, ?_⟩
        rw [lit_n, strT]
        refine ite2 (fun h => ?_) (fun h => ?_)
        · have hc1 : c = 110 := by simpa using h
          refine ⟨_, rfl, .inl ⟨rfl, _, SqL.of hd3⟩, _, rfl, _, _, _, _, rfl, rfl, SqT.of ht3, a1, _, rfl, _, _, _, _, rfl, rfl, SqT.of ht3, a0, three_le, fun e he => ?_⟩
          have ed : d ≠ e := ne_of_none hd3 he
          refine ⟨d, as.map V.ref, _, rfl, rfl, ?_, ?_, ?_⟩
          · exact (upd_ne ed).trans hd3
          · rw [List.length_map]; omega
          refine .inl ⟨hc1, rfl, as ++ [e], ?_⟩
          rw [eu, if_pos hc1]
          exact key _ e ((posOf (l.take i)).2, (posOf (l.take i)).1, 1) he rfl
        · exact .inr ⟨fun z => h (by simp [z]), rfl, rfl⟩
      rintro σ' H'' (⟨hc1, rfl, as', q1, q2, q3, q4⟩ | ⟨hc1, rfl, rfl⟩)
      · refine ⟨_, rfl, rfl, _, rfl, ?_⟩
        rw [lit_s, strT]
        refine ite2 (fun h => ?_) (fun h => ?_)
        · have : c = 115 := by simpa using h
          omega
        subst hE1
        exact ⟨as', _, _, rfl, q1, q2, q3, q4⟩
      · refine ⟨_, rfl, rfl, _, rfl, ?_⟩
        rw [lit_s, strT]
        refine ite2 (fun h => ?_) (fun h => ?_)
        · have hc2 : c = 115 := by simpa using h
          refine ⟨_, rfl, .inl ⟨rfl, _, SqL.of hd3⟩, _, rfl, _, _, _, _, rfl, rfl, SqT.of ht3, a1, _, _, rfl, rfl, _, rfl, _, _, _, _, rfl, rfl, SqT.of ht3, a0, _, rfl, three_le, fun e he => ?_⟩
          have ed : d ≠ e := ne_of_none hd3 he
          refine ⟨d, as.map V.ref, _, rfl, rfl, ?_, ?_, ?_⟩
          · exact (upd_ne ed).trans hd3
          · rw [List.length_map]; omega
          subst hE1
          refine ⟨as ++ [e], _, _, rfl, ?_⟩
          rw [eu, if_neg hc1, if_pos hc2]
          exact key _ e ((posOf (l.take i)).2 - 1, (posOf (l.take i)).1, -1) he rfl
        · have hc2 : ¬ c = 115 := fun z => h (by simp [z])
          subst hE1
          refine ⟨as, _, _, rfl, sH.trans sb, fun x o hx h1 => sb _ _ (kp _ _ hx h1), hd3, ?_⟩
          rw [eu, if_neg hc1, if_neg hc2, List.append_nil]
          exact htr.mono sb.tup
    · rintro σ H' ⟨as, v2, v3, rfl, sH, kp, hd', htr⟩
      have em : min (ps.map V.ref).length (letsV l).length = l.length := by
        unfold letsV
        rw [List.length_map, List.length_map]
        omega
      rw [em, List.take_of_length_le (Nat.le_refl _)] at htr
      exact ⟨_, rfl, k d H' as hd sH hd' htr⟩
theorem scArea : FnScope ["walk"] ["walk"] (defScope sArea) := ⟨rfl, rfl, rfl, by decide +kernel, rfl, by decide +kernel, by decide +kernel⟩
theorem scAround : FnScope ["walk", "square"] ["walk", "square"] (defScope sAround) := ⟨rfl, rfl, rfl, by decide +kernel, rfl, by decide +kernel, by decide +kernel⟩
theorem ok_around {f fZ fU fS : Addr} {fd fdZ fdU fdS : FuncData} (F : Df K mg "around" sAround ["walk", "square"] f fd) (hsum : mg "sum" = none) (Z : Df K mg "check_closed" sCheckClosed ["walk"] fZ fdZ) (GZ : FnOk P w K mg base CX0 4 fZ fdZ ["walk"] spCheckClosed)
    (S : Df K mg "check_square" sCheckSquare ["square"] fS fdS) (GS : FnOk P w K mg base CX0 3 fS fdS ["square"] spCheckSquare) (U : Df K mg "upright_steps" sUprightSteps ["walk"] fU fdU) (GU : FnOk P w K mg base CX0 3 fU fdU ["walk"] spUpright) : FnOk P w K mg base CX0 5 f fd ["walk", "square"] (spAround K) := by
  refine F.fn.ok scAround (fun vs H Q E h => ?_) (fun cdv A outer s H vs Q E hr h => ?_)
  · obtain ⟨l, e, q, rfl, _⟩ := h
    rfl
  · obtain ⟨l, e, q, rfl, hl, hz, h0, he, k⟩ := h
    have esz : sizeLine = 16777216 := PySem.sizeLine_eq
    have hr3 : Room 3 _ := hr.mono (by decide)
    refine lX ?_
    extract_lets
    refine ⟨_, pss_consL (ps_expr (pe_call GZ hr rfl Z.at_ Z.fn.kp Z.bi .nil pass0 (pa_cons (pv 0) pa_nil)))
      (pss_consL (ps_expr (pe_call GS hr3 rfl S.at_ S.fn.kp S.bi .nil pass0 (pa_cons (pv 1) pa_nil)))
      (pss_one (ps_ret (pe_callB (call_sum rfl) rfl hsum PyProof.Rows.boot_sum (pa_cons (pe_comp (M := ["row", "x", "way"]) rfl (compSc_of ["walk", "square"] (defScope sAround) rfl rfl (by decide +kernel)) (pi_list (pe_call GU hr3 rfl U.at_ U.fn.kp U.bi .nil pass0 (pa_cons (pv 0) pa_nil)))
        (fun _ _ _ _ => (pg_tup (n := 3) rfl (pgs_cons (pg_name (i := 2) (nd_of ["walk", "square", "row", "x", "way"] rfl (by decide +kernel)) rfl (Or.inl rfl)) (pgs_cons (pg_name (i := 3) (nd_of ["walk", "square", "row", "x", "way"] rfl (by decide +kernel)) rfl (Or.inl rfl)) (pgs_cons (pg_name (i := 4) (nd_of ["walk", "square", "row", "x", "way"] rfl (by decide +kernel)) rfl (Or.inl rfl)) pgs_nil)))))
        (fun _ _ _ _ => pts_one (PW.pt (pw_and (pt_cmpR op_eq (pv 2) (pe_ix ix_tup (pv 1) pe_int (fun _ _ => rfl)) (nomark _)) (pw_and1 (pt_cmpR op_gt (pv 3) (pe_ix ix_tup (pv 1) pe_int (fun _ _ => rfl)) (nomark _))))))
        (fun _ _ _ _ => pv 4)) pa_nil))))), ?_⟩
    lift_lets
    extract_lets
    refine ⟨_, rfl, l, rfl, hl, h0, fun H1 s1 => ?_⟩
    have he1 := s1 _ _ he
    refine ⟨_, rfl, e, q, rfl, he1, ?_⟩
    refine ⟨_, rfl, l, rfl, hl, hz, fun d H2 as hd s2 h2 htr => ?_⟩
    have he2 := s2 _ _ he1
    have hlen := upr_length l (0, 0)
    have hal : as.length = (upr (0, 0) l).length := Paired.length htr
    have a0 : atI [V.int q.1, V.int q.2] 0 = some (.int q.1) := atI_nat (j := 0) rfl
    have a1 : atI [V.int q.1, V.int q.2] 1 = some (.int q.2) := atI_nat (j := 1) rfl
    have eget : ∀ {i t}, (upr (0, 0) l)[i]? = some t → (upr (0, 0) l).getD i (0, 0, 0) = t := fun {i t} ht => by
      rw [List.getD_eq_getElem?_getD, ht]
      rfl
    refine ⟨d, rfl, ⟨_, SqL.of h2⟩, ?_⟩
    refine comp_filtL (K := K) (a := d) (xs := as.map V.ref) (sl3 H2) (sl3_len H2) (fun i => decide (((upr (0, 0) l).getD i (0, 0, 0)).1 = q.2 ∧ q.1 < ((upr (0, 0) l).getD i (0, 0, 0)).2.1)) (fun i => .int ((upr (0, 0) l).getD i (0, 0, 0)).2.2) (by rw [List.length_map]; omega) (SqL.of h2) (fun _ _ _ _ j x hx H3 R s3 kk => ?_) (fun _ _ _ _ j x hx H3 R s3 kk => ?_) (fun _ _ _ _ j x hx hpj H3 R s3 kk => ?_) (fun D H3 hD s3 hDl => ?_)
    · obtain ⟨a, ha, rfl⟩ := map_ref_get hx
      obtain ⟨t, ht, hta⟩ := paired_get htr ha
      rw [sl3_eq hta] at kk
      exact g_three (σ := [some (.str (T l)), some (.ref e)]) rfl (SqT.of (s3 _ _ hta)) kk
    · obtain ⟨a, ha, rfl⟩ := map_ref_get hx
      obtain ⟨t, ht, hta⟩ := paired_get htr ha
      rw [eget ht] at kk
      rw [sl3_eq hta]
      have he3 := s3 _ _ he2
      refine ⟨_, rfl, _, rfl, e, _, _, _, rfl, rfl, SqT.of he3, a1, rfl, _, rfl, ?_⟩
      refine ite2 (fun h => ?_) (fun h => ?_)
      · have h1 : t.1 = q.2 := V.int.inj (of_decide_eq_true h)
        refine ⟨_, rfl, _, rfl, e, _, _, _, rfl, rfl, SqT.of he3, a0, _, _, rfl, rfl, _, rfl, ?_⟩
        have := kk H3 (Same.refl _)
        have e2 : decide (t.1 = q.2 ∧ q.1 < t.2.1) = decide (t.2.1 > q.1) := by
          by_cases z : q.1 < t.2.1
          · rw [decide_eq_true ⟨h1, z⟩, decide_eq_true z]
          · rw [decide_eq_false fun y => z y.2, decide_eq_false z]
        rw [e2] at this
        exact this
      · have h1 : ¬ t.1 = q.2 := fun z => h (decide_eq_true (by rw [z]))
        have := kk H3 (Same.refl _)
        rw [decide_eq_false fun y => h1 y.1] at this
        exact this
    · obtain ⟨a, ha, rfl⟩ := map_ref_get hx
      obtain ⟨t, ht, hta⟩ := paired_get htr ha
      rw [eget ht] at kk
      rw [sl3_eq hta]
      exact ⟨_, rfl, kk H3 (Same.refl _)⟩
    · have em : (as.map V.ref).length = (upr (0, 0) l).length := by rw [List.length_map]; exact hal
      rw [em] at hDl
      have hDl' : H3 D = some (.lst ((((List.range (upr (0, 0) l).length).filter fun i => decide (((upr (0, 0) l).getD i (0, 0, 0)).1 = q.2 ∧ q.1 < ((upr (0, 0) l).getD i (0, 0, 0)).2.1)).map fun i => ((upr (0, 0) l).getD i (0, 0, 0)).2.2).map V.int)) := by
        rw [hDl, List.map_map]
        rfl
      refine ⟨D, _, rfl, SqL.of hDl', ?_⟩
      have es := sum_filt (fun t : Tr => t.2.2) (fun t : Tr => decide (t.1 = q.2 ∧ q.1 < t.2.1)) (0, 0, 0) (upr (0, 0) l)
      rw [es]
      have ee : sumL (fun t : Tr => if decide (t.1 = q.2 ∧ q.1 < t.2.1) = true then t.2.2 else 0) (upr (0, 0) l) = aroundE q l := by
        rw [← upr_around q l]
        refine sumL_congr fun t _ => ?_
        unfold eastT
        by_cases z : t.1 = q.2 ∧ q.1 < t.2.1
        · rw [if_pos z, if_pos (decide_eq_true z)]
        · rw [if_neg z, if_neg (by rw [decide_eq_false z]; exact Bool.false_ne_true)]
      rw [ee]
      exact k H3 ((s1.trans s2).trans s3)
noncomputable abbrev NSquares : List Str := ["walk", "told", "steps", "times", "passed", "following"]
theorem scSquares : FnScope NSquares ["walk"] (defScope sSquares) := ⟨rfl, rfl, rfl, by decide +kernel, rfl, by decide +kernel, by decide +kernel⟩
theorem cutV_tail (xs : List V) : cutV xs (some 1) none = xs.drop 1 := by
  unfold cutV
  rw [show (1 : Int) = ((1 : Nat) : Int) from rfl, HT.sIx_nat, HT.sIx_none]
  cases xs with
  | nil => rfl
  | cons a r =>
    rw [Nat.min_eq_left (by rw [List.length_cons]; omega)]
    exact List.take_of_length_le (by rw [List.length_drop]; exact Nat.le_refl _)
theorem ok_squares {f fZ fU : Addr} {fd fdZ fdU : FuncData} (F : Df K mg "squares" sSquares ["walk"] f fd) (hsrt : mg "sorted" = none) (hzip : mg "zip" = none) (hrng : mg "range" = none) (Z : Df K mg "check_closed" sCheckClosed ["walk"] fZ fdZ) (GZ : FnOk P w K mg base CX0 4 fZ fdZ ["walk"] spCheckClosed)
    (U : Df K mg "upright_steps" sUprightSteps ["walk"] fU fdU) (GU : FnOk P w K mg base CX0 3 fU fdU ["walk"] spUpright) : FnOk P w K mg base CX0 5 f fd ["walk"] spSquares := by
  refine F.fn.ok scSquares (fun vs H Q E h => ?_) (fun cdv A outer s H vs Q E hr h => ?_)
  · obtain ⟨l, rfl, _⟩ := h
    rfl
  · obtain ⟨l, rfl, hl, hz, h0, k⟩ := h
    have esz : sizeLine = 16777216 := PySem.sizeLine_eq
    have hr3 : Room 3 _ := hr.mono (by decide)
    have hu4 := hu4_of hr
    refine lX ?_
    extract_lets
    refine ⟨_, pss_consL (ps_expr (pe_call GZ hr rfl Z.at_ Z.fn.kp Z.bi .nil pass0 (pa_cons (pv 0) pa_nil)))
      (pss_consL (ps_set (i := 1) scSquares.nd rfl (Or.inl rfl) (pe_lst pa_nil))
      (pss_consL (ps_set (i := 2) scSquares.nd rfl (Or.inl rfl) (pe_callB call_sortedTr rfl hsrt PyProof.Rows.boot_sorted (pa_cons (pe_call GU hr3 rfl U.at_ U.fn.kp U.bi .nil pass0 (pa_cons (pv 0) pa_nil)) pa_nil)))
      (pss_consL (ps_set (i := 3) scSquares.nd rfl (Or.inr rfl) pe_int)
      (pss_consL (ps_for PassesOwn.never rfl (pi_zipLL rfl hzip (pa_cons (pv 2) (pa_cons (pe_slice sl_list (pv 2) (po_some pe_int) po_none) pa_nil))) (pg_tup (n := 2) rfl (pgs_cons (pg_name (i := 4) scSquares.nd rfl (Or.inr rfl)) (pgs_cons (pg_name (i := 5) scSquares.nd rfl (Or.inl rfl)) pgs_nil)))
        (pss_consL (ps_set (i := 3) scSquares.nd rfl (Or.inr rfl) (pe_op op_sub (pv 3) (pe_ix ix_tup (pv 4) pe_int (fun _ _ => rfl))))
        (pss_one (ps_if (pt_cmpR op_ne (pv 3) pe_int (nomark _)) (pss_one (ps_expr (pe_bm PySem.F.plainAttrs_list PySem.F.slot_list_extend PySem.F.type_list_extend mt_extend (pv 1) (pa_cons (pe_comp (M := ["x"]) rfl (compSc_of NSquares (defScope sSquares) rfl rfl (by decide +kernel)) (pi_range2 rfl hrng (pa_cons (pe_ix ix_tup (pv 4) pe_int (fun _ _ => rfl)) (pa_cons (pe_ix ix_tup (pv 5) pe_int (fun _ _ => rfl)) pa_nil)))
          (fun _ _ _ _ => pg_name (i := 6) (nd_of (NSquares ++ [("x" : Str)]) rfl (by decide +kernel)) rfl (Or.inl rfl)) (fun _ _ _ _ => pts_nil)
          (fun _ _ _ _ => pe_tup (pa_cons (pe_tup (pa_cons (pv 6) (pa_cons (pe_ix ix_tup (pv 4) pe_int (fun _ _ => rfl)) pa_nil))) (pa_cons (pv 3) pa_nil)))) pa_nil)))) pss_nil))))
      (pss_one (ps_ret (pe_callB (call_sortedSq hu4) rfl hsrt PyProof.Rows.boot_sorted (pa_cons (pv 1) pa_nil)))))))), ?_⟩
    lift_lets
    extract_lets
    refine ⟨_, rfl, l, rfl, hl, h0, fun H1 s1 => ?_⟩
    refine ⟨(by show 0 ≤ sizeLine; omega), fun d hd => ?_⟩
    have hd0 : H d = none := by
      cases e : H d with
      | none => rfl
      | some o => rw [s1 _ _ e] at hd; cases hd
    have hd1 : upd H1 d (.lst []) d = some (.lst []) := upd_same
    have s2 : Same H1 (upd H1 d (.lst [])) := same_new hd
    first | change Ends.nx _ _ (upd H1 d (.lst [])) | change tSeq _ _ _ _ (upd H1 d (.lst []))
    generalize upd H1 d (.lst []) = H2 at *
    revert H2
    refine keepG ?_
    set_option tactic.hygienic false in intros
    refine ⟨_, rfl, l, rfl, hl, hz, fun e3 H3 as3 he3 s3 h3 htr3 => ?_⟩
    refine ⟨e3, as3, _, rfl, SqL.of h3, htr3, fun e4 as ts he4 hperm htr hpt hsort => ?_⟩
    have hs := sorted_leT hsort
    have s4 := same_new (o := .lst (as.map V.ref)) he4
    have h4 : upd H3 e4 (.lst (as.map V.ref)) e4 = some (.lst (as.map V.ref)) := upd_same
    have htr4 : TrsAt (upd H3 e4 (.lst (as.map V.ref))) as ts := htr.mono s4.tup
    first | change Ends.nx _ _ (upd H3 e4 (.lst (as.map V.ref))) | change tSeq _ _ _ _ (upd H3 e4 (.lst (as.map V.ref)))
    generalize upd H3 e4 (.lst (as.map V.ref)) = H4 at *
    revert H4
    refine keepG ?_
    set_option tactic.hygienic false in intros
    have hd4 : H4 d = some (.lst []) := s4 _ _ (s3 _ _ hd1)
    have hde4 : e4 ≠ d := fun z => by
      rw [z, s3 _ _ hd1] at he4
      cases he4
    refine ⟨_, rfl, _, rfl, _, rfl, e4, _, rfl, SqL.of h4, fun e5 he5 => ?_⟩
    rw [cutV_tail]
    have s5 := same_new (o := .lst ((as.map V.ref).drop 1)) he5
    have h5 : upd H4 e5 (.lst ((as.map V.ref).drop 1)) e5 = some (.lst ((as.map V.ref).drop 1)) := upd_same
    generalize upd H4 e5 (.lst ((as.map V.ref).drop 1)) = H5 at *
    revert H5
    refine keepG ?_
    set_option tactic.hygienic false in intros
    have hde5 : e5 ≠ d := fun z => by
      rw [z, hd4] at he5
      cases he5
    have hd5 : H5 d = some (.lst []) := s5 _ _ hd4
    have h45 := s5 _ _ h4
    have htr5 : TrsAt H5 as ts := htr4.mono s5.tup
    have hlen : as.length = ts.length := Paired.length htr
    have hlen2 : ts.length ≤ 1000 := by
      rw [hpt.length_eq]
      exact Nat.le_trans (upr_length l (0, 0)) hz
    have hfew := scan_few hl h0 hz hpt hs
    have sH5 : Same H H5 := (((s1.trans s2).trans s3).trans s4).trans s5
    refine ⟨e4, e5, rfl, ⟨_, SqL.of h45⟩, ⟨_, SqL.of h5⟩, ?_⟩
    refine for_zip (xs := as.map V.ref) (ys := (as.map V.ref).drop 1) (fun i σ H' => ∃ (bs : List Addr) (told : List (Pt × Int)) (t : Int) (v4 v5 : Option V), σ = [some (.str (T l)), some (.ref d), some (.ref e4), some (.int t), v4, v5] ∧ (∀ b o, b ≠ d → H5 b = some o → H' b = some o) ∧ H' d = some (.lst (bs.map V.ref)) ∧ SqsAt H' bs told ∧ scan 0 ts = told ++ scan t (ts.drop i)) ?_ ?_ ?_ ?_
    · exact ⟨[], [], 0, none, none, rfl, fun b o _ e => e, hd5, .nil, rfl⟩
    · rintro i σ H' ⟨bs, told, t, v4, v5, rfl, kp, hd', hsq, hsc⟩
      exact ⟨SqL.of (kp _ _ hde4 h45), SqL.of (kp _ _ hde5 h5)⟩
    · intro i u v σ H' b hu hv hI hb
      generalize hE1 : Ends.mk _ _ _ _ = E1
      revert E1
      refine keepG ?_
      set_option tactic.hygienic false in intros
      obtain ⟨bs, told, t, v4, v5, rfl, kp, hd', hsq, hsc⟩ := hI
      obtain ⟨pa, hpa, rfl⟩ := map_ref_get hu
      rw [List.getElem?_drop, Nat.add_comm] at hv
      obtain ⟨fo, hfo, rfl⟩ := map_ref_get hv
      obtain ⟨tp, htp, hTp⟩ := paired_get htr5 hpa
      obtain ⟨tf, htf, hTf⟩ := paired_get htr5 hfo
      have npd : pa ≠ d := fun z => by
        have := hTp
        unfold TrP at this
        rw [z, hd5] at this
        cases this
      have nfd : fo ≠ d := fun z => by
        have := hTf
        unfold TrP at this
        rw [z, hd5] at this
        cases this
      have kp1 : H' pa = some (.tup [.int tp.1, .int tp.2.1, .int tp.2.2]) := kp _ _ npd hTp
      have kf1 : H' fo = some (.tup [.int tf.1, .int tf.2.1, .int tf.2.2]) := kp _ _ nfd hTf
      have ed : ts.drop i = tp :: tf :: ts.drop (i + 2) := by
        obtain ⟨i1, e1⟩ := List.getElem?_eq_some_iff.mp htp
        obtain ⟨i2, e2⟩ := List.getElem?_eq_some_iff.mp htf
        rw [List.drop_eq_getElem_cons i1, List.drop_eq_getElem_cons i2, e1, e2]
      have ed2 : ts.drop (i + 1) = tf :: ts.drop (i + 2) := by
        obtain ⟨i2, e2⟩ := List.getElem?_eq_some_iff.mp htf
        rw [List.drop_eq_getElem_cons i2, e2]
      have hsc2 : scan 0 ts = (told ++ segT (t - tp.2.2) tp tf) ++ scan (t - tp.2.2) (ts.drop (i + 1)) := by
        rw [hsc, ed, ed2, List.append_assoc]
        rfl
      have sb : Same H' (upd H' b (.tup [.ref pa, .ref fo])) := same_new hb
      have tb : upd H' b (.tup [.ref pa, .ref fo]) b = some (.tup [.ref pa, .ref fo]) := upd_same
      change gTup _ _ _ _ _ (upd H' b (.tup [.ref pa, .ref fo])) _
      generalize upd H' b (.tup [.ref pa, .ref fo]) = H6 at *
      revert H6
      refine keepG ?_
      set_option tactic.hygienic false in intros
      have kp2 := sb _ _ kp1
      have kf2 := sb _ _ kf1
      have hd6 := sb _ _ hd'
      have hsq6 : SqsAt H6 bs told := hsq.mono sb.tup
      have p0 : atI [V.int tp.1, V.int tp.2.1, V.int tp.2.2] 0 = some (.int tp.1) := atI_nat (j := 0) rfl
      have p1 : atI [V.int tp.1, V.int tp.2.1, V.int tp.2.2] 1 = some (.int tp.2.1) := atI_nat (j := 1) rfl
      have p2 : atI [V.int tp.1, V.int tp.2.1, V.int tp.2.2] 2 = some (.int tp.2.2) := atI_nat (j := 2) rfl
      have q1 : atI [V.int tf.1, V.int tf.2.1, V.int tf.2.2] 1 = some (.int tf.2.1) := atI_nat (j := 1) rfl
      refine ⟨b, _, rfl, SqT.of tb, rfl, _, _, rfl, _, _, rfl, rfl, ?_⟩
      refine ⟨_, rfl, _, rfl, pa, _, _, _, rfl, rfl, SqT.of kp2, p2, _, _, rfl, rfl, ?_⟩
      refine ⟨_, rfl, rfl, _, rfl, ?_⟩
      have bp := upr_bound (hpt.mem_iff.mp (List.mem_of_getElem? htp))
      have bf := upr_bound (hpt.mem_iff.mp (List.mem_of_getElem? htf))
      dsimp only at bp bf
      have htold : told.length ≤ 4000000 := by
        rw [hsc2, List.length_append, List.length_append] at hfew
        omega
      have hbs : bs.length = told.length := Paired.length hsq6
      refine ite2 (fun h => ?_) (fun h => ?_)
      · have ht0 : ¬ t - tp.2.2 = 0 := fun z => by
          rw [show decide (V.int (t - tp.2.2) = V.int 0) = true from decide_eq_true (by rw [z])] at h
          cases h
        refine ⟨_, rfl, .inl ⟨rfl, _, SqL.of hd6⟩, _, rfl, pa, _, _, _, rfl, rfl, SqT.of kp2, p1, _, rfl, fo, _, _, _, rfl, rfl, SqT.of kf2, q1, tp.2.1, tf.2.1, rfl, ⟨by omega, by omega, by omega, by omega⟩, ?_⟩
        refine comp_relR (lo := tp.2.1) (m := (tf.2.1 - tp.2.1).toNat) (fun x => [some x]) (fun _ => rfl) (by omega) (fun _ _ _ _ j hj H7 R s7 kk => kk) (fun j y H7 => ∃ a, y = .ref a ∧ SqP H7 a ((tp.2.1 + (j : Int), tp.1), t - tp.2.2)) (fun j y H7 H8 ⟨a, e, hq⟩ ts' => ⟨a, e, hq.mono ts'⟩) (fun _ _ _ _ j hj H7 R s7 kk => ?_) (fun D ys H7 hD s7 hDl hyl hy => ?_)
        · refine ⟨_, rfl, _, rfl, pa, _, _, _, rfl, rfl, SqT.of (s7 _ _ kp2), p0, two_le, fun c1 hc1 => ?_⟩
          have sc := same_new (o := .tup [.int (tp.2.1 + (j : Int)), .int tp.1]) hc1
          have tc : upd H7 c1 (.tup [.int (tp.2.1 + (j : Int)), .int tp.1]) c1 = some (.tup [.int (tp.2.1 + (j : Int)), .int tp.1]) := upd_same
          refine ⟨_, rfl, two_le, fun c2 hc2 => ?_⟩
          change upd H7 c1 (.tup [.int (tp.2.1 + (j : Int)), .int tp.1]) c2 = none at hc2
          change R _ (upd (upd H7 c1 (.tup [.int (tp.2.1 + (j : Int)), .int tp.1])) c2 (.tup [.ref c1, .int (t - tp.2.2)]))
          generalize upd H7 c1 (.tup [.int (tp.2.1 + (j : Int)), .int tp.1]) = H8 at *
          revert H8
          refine keepG ?_
          set_option tactic.hygienic false in intros
          have sc2 := same_new (o := .tup [.ref c1, .int (t - tp.2.2)]) hc2
          exact kk _ _ (sc.trans sc2) ⟨c2, rfl, c1, upd_same, sc2 _ _ tc⟩
        · obtain ⟨cs, rfl, hcs⟩ := paired_of ys (fun i => ((tp.2.1 + (i : Int), tp.1), t - tp.2.2)) hy
          rw [hyl, ← segT_eq ht0] at hcs
          have hd7 := s7 _ _ hd6
          have hcl : cs.length ≤ 2000 := by
            rw [List.length_map] at hyl
            omega
          refine ⟨d, D, bs.map V.ref, cs.map V.ref, rfl, rfl, hd7, hDl, ?_, ?_⟩
          · rw [List.length_map, List.length_map]
            omega
          have tl : TSame H7 (upd H7 d (.lst (bs.map V.ref ++ cs.map V.ref))) := tsame_lst hd7
          subst hE1
          refine ⟨bs ++ cs, _, _, _, _, rfl, fun x o hx h1 => ?_, ?_, ?_, hsc2⟩
          · rw [upd_ne hx]
            exact s7 _ _ (sb _ _ (kp _ _ hx h1))
          · rw [upd_same, List.map_append]
          · exact paired_app ((hsq6.mono s7.tup).mono tl) (SqsAt.mono hcs tl)
      · have ht0 : t - tp.2.2 = 0 := by
          by_cases z : t - tp.2.2 = 0
          · exact z
          · exact absurd (by rw [show decide (V.int (t - tp.2.2) = V.int 0) = false from decide_eq_false fun y => z (V.int.inj y)]; rfl) h
        have es : segT (t - tp.2.2) tp tf = [] := by
          unfold segT
          rw [if_pos ht0]
        rw [es, List.append_nil] at hsc2
        subst hE1
        exact ⟨bs, told, _, _, _, rfl, fun x o hx h1 => sb _ _ (kp _ _ hx h1), hd6, hsq6, hsc2⟩
    · rintro σ H' ⟨bs, told, t, v4, v5, rfl, kp, hd', hsq, hsc⟩
      have em : min (as.map V.ref).length ((as.map V.ref).drop 1).length = ts.length - 1 := by
        rw [List.length_drop, List.length_map]
        omega
      rw [em] at hsc
      have elast : scan t (ts.drop (ts.length - 1)) = [] := by
        have hle : (ts.drop (ts.length - 1)).length ≤ 1 := by
          rw [List.length_drop]
          omega
        match hm : ts.drop (ts.length - 1) with
        | [] => rfl
        | [_] => rfl
        | _ :: _ :: _ => rw [hm] at hle; simp at hle
      rw [elast, List.append_nil] at hsc
      refine ⟨_, rfl, d, bs, told, rfl, SqL.of hd', hsq, fun e7 as' qs he7 hpe hsq' hqp hqs => ?_⟩
      have s7 := same_new (o := .lst (as'.map V.ref)) he7
      have h7 : upd H' e7 (.lst (as'.map V.ref)) e7 = some (.lst (as'.map V.ref)) := upd_same
      have sHH' : Same H H' := fun b o e => by
        refine kp b o (ne_of_none e hd0) (sH5 _ _ e)
      have e7n : H e7 = none := by
        cases e : H e7 with
        | none => rfl
        | some o => rw [sHH' _ _ e] at he7; cases he7
      refine k e7 _ as' qs e7n (sHH'.trans s7) h7 (hsq'.mono s7.tup) (isSq_of hl h0 hz hpt hs ?_ hqs)
      rw [hsc]
      exact hqp
theorem scWithin : FnScope ["walk", "own"] ["walk"] (defScope sWithin) := ⟨rfl, rfl, rfl, by decide +kernel, rfl, by decide +kernel, by decide +kernel⟩
noncomputable def inL (l : List Nat) (qs : List (Pt × Int)) : List Pt := (qs.map (·.1)).filter fun q => decide (q ∉ plOf l)
noncomputable def spWithin : Sp := fun vs H Q _ => ∃ (l : List Nat), vs = [.str (T l)] ∧ IsW l ∧ l.length ≤ 1000 ∧ posOf l = (0, 0) ∧ 4 ≤ l.length ∧ (cntP l).Nodup ∧ ∀ d H' qs, H d = none → Same H H' → IsSq l qs → PlAt H' d (inL l qs) → Q (.ref d) H'
theorem putAllK_val (q : Pt) : ∀ (qs : List (Pt × V)) (kvs : List (List Key × V)), ((valV (putAllK kvs qs) (ptK q)).isSome = true ↔ (valV kvs (ptK q)).isSome = true ∨ q ∈ qs.map (·.1))
  | [], kvs => by simp [putAllK]
  | p :: r, kvs => by
    show (valV (putAllK (putK kvs (ptK p.1) p.2) r) (ptK q)).isSome = true ↔ _
    rw [putAllK_val q r, valV_put]
    by_cases e : ptK q = ptK p.1
    · rw [if_pos e]
      simp [ptK_inj e]
    · rw [if_neg e]
      have : ¬ q = p.1 := fun z => e (by rw [z])
      simp [this]
theorem sqs_keys {H : Hp} {as : List Addr} {qs : List (Pt × Int)} (h : SqsAt H as qs) : ∃ bs : List Addr, bs.length = as.length ∧ Tups H bs (qs.map (·.1)) ∧ ∀ (i : Nat) a, as[i]? = some a → ∃ b n, bs[i]? = some b ∧ H a = some (.tup [.ref b, .int n]) := by
  induction h with
  | nil => exact ⟨[], rfl, .nil, fun i a h => by simp at h⟩
  | cons e t ih =>
    obtain ⟨b, h1, h2⟩ := e
    obtain ⟨bs, g1, g2, g3⟩ := ih
    refine ⟨b :: bs, by rw [List.length_cons, List.length_cons, g1], .cons h2 g2, fun i a h => ?_⟩
    cases i with
    | zero =>
      simp at h
      subst h
      exact ⟨b, _, rfl, h1⟩
    | succ i =>
      obtain ⟨b', n, e1, e2⟩ := g3 i a (by simpa using h)
      exact ⟨b', n, by simpa using e1, e2⟩
theorem tups_filt {H : Hp} (pr : Pt → Bool) {bs : List Addr} {ps : List Pt} (ht : Tups H bs ps) : Tups H (((List.range bs.length).filter fun i => pr (ps.getD i (0, 0))).map fun i => bs.getD i 0) (ps.filter pr) := by
  induction ht with
  | nil => exact .nil
  | @cons b p bs ps h t ih =>
    rw [List.length_cons, List.range_succ_eq_map, List.filter_cons, List.filter_cons]
    have e : (((List.range bs.length).map Nat.succ).filter fun i => pr ((p :: ps).getD i (0, 0))).map (fun i => (b :: bs).getD i 0) = ((List.range bs.length).filter fun i => pr (ps.getD i (0, 0))).map fun i => bs.getD i 0 := by
      rw [List.filter_map, List.map_map]
      rfl
    by_cases hp : pr p = true
    · rw [if_pos hp, if_pos (show pr ((p :: ps).getD 0 (0, 0)) = true from hp), List.map_cons, e]
      exact .cons h ih
    · rw [if_neg hp, if_neg (show ¬ pr ((p :: ps).getD 0 (0, 0)) = true from hp), e]
      exact ih
theorem ok_within {f fC fP fS : Addr} {fd fdC fdP fdS : FuncData} (F : Df K mg "within" sWithin ["walk"] f fd) (hdict : mg "dict" = none) (C : Df K mg "check_loop" sCheckLoop ["walk"] fC fdC) (GC : FnOk P w K mg base CX0 5 fC fdC ["walk"] spCheckLoop)
    (Pl : Df K mg "places" sPlaces ["walk"] fP fdP) (GP : FnOk P w K mg base CX0 2 fP fdP ["walk"] spPlaces) (Sq : Df K mg "squares" sSquares ["walk"] fS fdS) (GS : FnOk P w K mg base CX0 5 fS fdS ["walk"] spSquares) : FnOk P w K mg base CX0 6 f fd ["walk"] spWithin := by
  refine F.fn.ok scWithin (fun vs H Q E h => ?_) (fun cdv A outer s H vs Q E hr h => ?_)
  · obtain ⟨l, rfl, _⟩ := h
    rfl
  · obtain ⟨l, rfl, hl, hz, h0, h4, nd, k⟩ := h
    have esz : sizeLine = 16777216 := PySem.sizeLine_eq
    have hr2 : Room 2 _ := hr.mono (by decide)
    have hu := hu_of hr
    have hu4 := hu4_of hr
    refine lX ?_
    extract_lets
    refine ⟨_, pss_consL (ps_expr (pe_call GC hr rfl C.at_ C.fn.kp C.bi .nil pass0 (pa_cons (pv 0) pa_nil)))
      (pss_consL (ps_set (i := 1) scWithin.nd rfl (Or.inr rfl) (pe_callTy (call_dictP rfl hu4) rfl hdict PyProof.Rows.boot_dict (pa_cons (pe_comp (M := ["place"]) rfl (compSc_of ["walk", "own"] (defScope sWithin) rfl rfl (by decide +kernel)) (pi_list (pe_call GP hr2 rfl Pl.at_ Pl.fn.kp Pl.bi .nil pass0 (pa_cons (pv 0) pa_nil))) (fun _ _ _ _ => pg_name (i := 2) (nd_of ["walk", "own", "place"] rfl (by decide +kernel)) rfl (Or.inl rfl)) (fun _ _ _ _ => pts_nil)
        (fun _ _ _ _ => pe_tup (pa_cons (pv 2) (pa_cons pe_bl pa_nil)))) pa_nil)))
      (pss_one (ps_ret (pe_comp (M := ["square", "times"]) rfl (compSc_of ["walk", "own"] (defScope sWithin) rfl rfl (by decide +kernel)) (pi_list (pe_call GS hr rfl Sq.at_ Sq.fn.kp Sq.bi .nil pass0 (pa_cons (pv 0) pa_nil)))
        (fun _ _ _ _ => pg_tup (n := 2) rfl (pgs_cons (pg_name (i := 2) (nd_of ["walk", "own", "square", "times"] rfl (by decide +kernel)) rfl (Or.inl rfl)) (pgs_cons (pg_name (i := 3) (nd_of ["walk", "own", "square", "times"] rfl (by decide +kernel)) rfl (Or.inl rfl)) pgs_nil)))
        (fun _ _ _ _ => pts_one (pt_cmp (pc_dnotin hu (pv 2) (pv 1)))) (fun _ _ _ _ => pv 2))))), ?_⟩
    lift_lets
    extract_lets
    refine ⟨_, rfl, l, rfl, hl, hz, h0, h4, nd, fun H1 s1 => ?_⟩
    refine ⟨_, rfl, l, rfl, hl, hz, fun c H2 hc s2 hP => ?_⟩
    obtain ⟨as, hc1, hT⟩ := id hP
    have hpl : (plOf l).length = l.length + 1 := placesP_length _ _
    have hal : as.length = (plOf l).length := Paired.length hT
    refine ⟨c, rfl, ⟨_, SqL.of hc1⟩, ?_⟩
    refine comp_relL (K := K) (a := c) (xs := as.map V.ref) (fun x => [some x]) (fun _ => rfl) (by rw [List.length_map]; omega) (SqL.of hc1) (fun _ _ _ _ j x hx H3 R s3 kk => kk) (fun j y H3 => ∃ a q, y = .ref a ∧ (plOf l)[j]? = some q ∧ KvP H3 a (q, .bl true)) (fun j y H3 H4 ⟨a, q, e, e2, b, hb1, hb2⟩ ts => ⟨a, q, e, e2, b, ts _ _ hb1, ts _ _ hb2⟩) (fun _ _ _ _ j x hx H3 R s3 kk => ?_) (fun D ys H3 hD s3 hDl hyl hy => ?_)
    · obtain ⟨a, ha, rfl⟩ := map_ref_get hx
      obtain ⟨q, hq, hta⟩ := paired_get hT ha
      refine ⟨_, rfl, two_le, fun e he => ?_⟩
      have se := same_new (o := .tup [.ref a, .bl true]) he
      exact kk _ _ se ⟨e, q, rfl, hq, a, upd_same, se _ _ (s3 _ _ hta)⟩
    have hyl' : ys.length = (plOf l).length := by rw [hyl, List.length_map, hal]
    obtain ⟨es, rfl, hes⟩ := paired_of (S := KvP H3) ys (fun i => ((plOf l).getD i (0, 0), V.bl true)) fun i y hi => by
      obtain ⟨a, q, e1, e2, e3⟩ := hy i y hi
      refine ⟨a, e1, ?_⟩
      rw [List.getD_eq_getElem?_getD, e2]
      exact e3
    rw [hyl'] at hes
    have hkeys : ((List.range (plOf l).length).map fun i => ((plOf l).getD i (0, 0), V.bl true)).map (·.1) = plOf l := by
      rw [List.map_map]
      refine List.ext_getElem? fun i => ?_
      rw [List.getElem?_map]
      by_cases hi : i < (plOf l).length
      · rw [List.getElem?_range hi, List.getElem?_eq_getElem hi]
        show some ((plOf l).getD i (0, 0)) = _
        rw [List.getD_eq_getElem?_getD, List.getElem?_eq_getElem hi]
        rfl
      · rw [List.getElem?_eq_none (by rw [List.length_range]; omega), List.getElem?_eq_none (by omega)]
        rfl
    refine ⟨D, es, _, rfl, hDl, hes, by rw [List.length_map, List.length_range]; omega, fun o ho => ?_⟩
    have s4 := same_new (o := .dT (putAllK [] ((List.range (plOf l).length).map fun i => ((plOf l).getD i (0, 0), V.bl true)))) ho
    have h4' : upd H3 o (.dT (putAllK [] ((List.range (plOf l).length).map fun i => ((plOf l).getD i (0, 0), V.bl true)))) o = some (.dT (putAllK [] ((List.range (plOf l).length).map fun i => ((plOf l).getD i (0, 0), V.bl true)))) := upd_same
    change gName _ _ _ (upd H3 o (.dT (putAllK [] ((List.range (plOf l).length).map fun i => ((plOf l).getD i (0, 0), V.bl true))))) _
    generalize upd H3 o (.dT (putAllK [] ((List.range (plOf l).length).map fun i => ((plOf l).getD i (0, 0), V.bl true)))) = H4 at *
    have hval : ∀ q, (valV (putAllK [] ((List.range (plOf l).length).map fun i => ((plOf l).getD i (0, 0), V.bl true))) (ptK q)).isSome = decide (q ∈ plOf l) := fun q => by
      have := putAllK_val q ((List.range (plOf l).length).map fun i => ((plOf l).getD i (0, 0), V.bl true)) []
      rw [hkeys] at this
      by_cases z : q ∈ plOf l
      · rw [decide_eq_true z]
        exact this.mpr (.inr z)
      · rw [decide_eq_false z]
        cases e : (valV (putAllK [] ((List.range (plOf l).length).map fun i => ((plOf l).getD i (0, 0), V.bl true))) (ptK q)).isSome with
        | false => rfl
        | true =>
          rcases this.mp e with y | y
          · cases y
          · exact absurd y z
    generalize putAllK [] ((List.range (plOf l).length).map fun i => ((plOf l).getD i (0, 0), V.bl true)) = kvs at *
    revert H4
    refine keepG ?_
    set_option tactic.hygienic false in intros
    refine ⟨_, rfl, l, rfl, hl, hz, h0, fun d5 H5 as5 qs hd5 s5 h5 hsq hQ => ?_⟩
    have hfew := hQ.few
    have hl5 : as5.length = qs.length := Paired.length hsq
    obtain ⟨bs, hb1, hb2, hb3⟩ := sqs_keys hsq
    have ho5 := s5 _ _ h4'
    refine ⟨d5, rfl, ⟨_, SqL.of h5⟩, ?_⟩
    refine comp_filtL (K := K) (a := d5) (xs := as5.map V.ref) (sl2 H5) (sl2_len H5) (fun i => decide ((qs.map (·.1)).getD i (0, 0) ∉ plOf l)) (fun i => .ref (bs.getD i 0)) (by rw [List.length_map]; omega) (SqL.of h5) (fun _ _ _ _ j x hx H6 R s6 kk => ?_) (fun _ _ _ _ j x hx H6 R s6 kk => ?_) (fun _ _ _ _ j x hx hpj H6 R s6 kk => ?_) (fun D6 H6 hD6 s6 hDl6 => ?_)
    · obtain ⟨a, ha, rfl⟩ := map_ref_get hx
      obtain ⟨b, n, hb, hta⟩ := hb3 j a ha
      rw [sl2_eq hta] at kk
      exact g_two rfl (SqT.of (s6 _ _ hta)) kk
    · obtain ⟨a, ha, rfl⟩ := map_ref_get hx
      obtain ⟨b, n, hb, hta⟩ := hb3 j a ha
      obtain ⟨q, hq, htb⟩ := paired_get hb2 hb
      rw [sl2_eq hta]
      have eq : (qs.map (·.1)).getD j (0, 0) = q := by rw [List.getD_eq_getElem?_getD, hq]; rfl
      rw [eq] at kk
      have hk6 : H6 b = some (.tup ((ptK q).map kV)) := s6 _ _ htb
      refine ⟨_, rfl, _, rfl, o, _, rfl, DGet.t (s6 _ _ ho5) hk6, _, rfl, ?_⟩
      have := kk H6 (Same.refl _)
      rw [hval q]
      have e2 : decide (q ∉ plOf l) = !decide (q ∈ plOf l) := by
        by_cases z : q ∈ plOf l
        · rw [decide_eq_true z, decide_eq_false (not_not_intro z)]
          rfl
        · rw [decide_eq_false z, decide_eq_true z]
          rfl
      rw [e2] at this
      exact this
    · obtain ⟨a, ha, rfl⟩ := map_ref_get hx
      obtain ⟨b, n, hb, hta⟩ := hb3 j a ha
      rw [sl2_eq hta]
      have eb : bs.getD j 0 = b := by rw [List.getD_eq_getElem?_getD, hb]; rfl
      rw [eb] at kk
      exact ⟨_, rfl, kk H6 (Same.refl _)⟩
    · have em : (as5.map V.ref).length = bs.length := by rw [List.length_map]; exact hb1.symm
      rw [em] at hDl6
      have hDl6' : H6 D6 = some (.lst ((((List.range bs.length).filter fun i => decide ((qs.map (·.1)).getD i (0, 0) ∉ plOf l)).map fun i => bs.getD i 0).map V.ref)) := by
        rw [hDl6, List.map_map]
        rfl
      have sAll : Same H H6 := (((((s1.trans s2).trans s3).trans s4).trans s5).trans s6)
      have hDn : H D6 = none := by
        cases e : H D6 with
        | none => rfl
        | some o' => rw [((((s1.trans s2).trans s3).trans s4).trans s5) _ _ e] at hD6; cases hD6
      refine k D6 H6 qs hDn sAll hQ ⟨_, hDl6', ?_⟩
      exact tups_mono (tups_filt (fun q => decide (q ∉ plOf l)) hb2) s6.tup
theorem scBetween : FnScope ["one", "other"] ["one", "other"] (defScope sBetween) := ⟨rfl, rfl, rfl, by decide +kernel, rfl, by decide +kernel, by decide +kernel⟩
end
end SW
set_option Elab.async false
set_option linter.all false
set_option maxRecDepth 100000
set_option maxHeartbeats 1000000
namespace L2
open PySem PySem.Spec PyProof.Rows
theorem ObjOk.there {P : Program} {w : World} {H : Hp} {h : Heap} {a : Addr} {o : HO} (x : ObjOk P w H h a o) : ∃ u, h.get? a = some u := by
  cases o with
  | lst xs => obtain ⟨_, _, _, _, e⟩ := x; exact ⟨_, e⟩
  | tup xs => obtain ⟨_, _, _, _, e, _⟩ := x; exact ⟨_, e⟩
  | dK kvs => obtain ⟨_, _, _, _, _, _, _, e, _⟩ := x; exact ⟨_, e⟩
  | dT kvs => obtain ⟨_, _, _, _, _, _, _, e, _⟩ := x; exact ⟨_, e⟩
  | set S n => obtain ⟨_, _, _, _, e, _⟩ := x; exact ⟨_, e⟩
  | ins C dx fs => obtain ⟨_, _, _, e, _⟩ := x; exact ⟨_, e⟩
  | own y => exact x
  | xd fs => obtain ⟨_, ⟨_, _, _, e, _⟩, _⟩ := x; exact ⟨_, e⟩
  | rng lo hi => obtain ⟨_, _, _, e⟩ := x; exact ⟨_, e⟩
  | frz ob u => obtain ⟨e, _⟩ := x; exact ⟨_, e⟩
  | tbl ps => exact ⟨_, show h.get? a = some _ from x⟩
  | met f y => exact ⟨_, show h.get? a = some _ from x⟩
  | ext φ => obtain ⟨_, e, _⟩ := x; exact e
noncomputable def Fly (l : List Env) (h₀ : Heap) (H : Hp) (a : Addr) (cls : Value) (h : Heap) : Prop :=
  ∃ B a0, Heap.FlyingW B l a cls a0 h ∧ ∀ b o, ((∃ u, h₀.get? b = some u) ∨ ∃ u, H b = some u) → b ∉ frs l → h.get? b = some o → B.get? b = some o
noncomputable def CXW (P : Program) (w : World) : CXT := fun outer H s E e s' =>
  ∃ a C H', e = Value.ref a ∧ s'.os = s.os ∧ AllBare s'.gens ∧ Un (frs outer) [] H H' s.heap s'.heap ∧ HOk P w H' s'.heap ∧ Fly outer s.heap H' a (.ref C) s'.heap ∧ E (.ref C) none H'
section
variable {X : Cx} {pins : List (Addr × Obj)} {σ : St} {H : Hp} {s : Shared} {h₀ h' B : Heap} {a : Addr} {cls a0 : Value}
theorem Inv.flew (I : Inv X pins σ H s) (hex : X.ex = []) (h0 : ∀ b u, X.s₀.heap.get? b = some u → ∃ v, h₀.get? b = some v) (hp : ∀ p ∈ X.pn ++ pins, ∃ u, h₀.get? p.1 = some u)
    (cov : ∀ b o, ((∃ u, h₀.get? b = some u) ∨ ∃ u, H b = some u) → b ∉ frs X.stack → s.heap.get? b = some o → B.get? b = some o) (st : B.StaysIn h') (up : s.heap.UpToSlots h') : Inv X pins σ H { s with heap := h' } := by
  have hx : ∀ b, b ∉ X.ex := fun b z => by rw [hex] at z; cases z
  have nL : ∀ b u, X.s₀.heap.get? b = some u → b ≠ X.env.locals := fun b u e => Nat.ne_of_lt (Nat.lt_of_lt_of_le (Heap.lt_size e) I.ok.above)
  have nS : ∀ b, b ≠ X.env.locals → b ∉ X.fs → b ∉ frs X.stack := fun b h1 h2 z => (List.mem_cons.mp (I.stkSub b z)).elim h1 h2
  have old : ∀ b u o, X.s₀.heap.get? b = some u → b ∉ X.fs → s.heap.get? b = some o → h'.get? b = some o := fun b u o e hb q => st b o (cov b o (.inl (h0 b u e)) (nS b (nL b u e) hb) q)
  have frm : ∀ b o, b ∈ X.fs → X.s₀.heap.get? b = some o → ∃ sl, h'.get? b = some { o with slots := sl } := fun b o hb e => by
    obtain ⟨sl, e1⟩ := I.base.slot b o e (I.ok.frf b hb) hb (hx b)
    obtain ⟨_, o', ho', hd⟩ := I.ok.funs.mem hb
    rw [e] at ho'
    cases ho'
    obtain ⟨sl', e2⟩ := up b _ e1 hd
    exact ⟨sl', e2⟩
  have trk : ∀ b u o, H b = some u → s.heap.get? b = some o → h'.get? b = some o := fun b u o e q => st b o (cov b o (.inr ⟨u, e⟩) (fun z => by rw [I.stkFree b z] at e; cases e) q)
  have cl : ∀ c v, s.heap.IsCell c v → h'.IsCell c v := fun c v ⟨o, ho, hd⟩ => by
    obtain ⟨sl, e⟩ := up c o ho fun vs q => by rw [hd] at q; cases q
    exact ⟨_, e, hd⟩
  refine ⟨I.ok, I.os, I.bare, ⟨fun b o e n hb _ => old b o o e hb (I.base.keep b o e n hb (hx b)), fun b o e n hb _ => frm b o hb e, I.base.free, fun b o e _ => ?_, I.base.tups, I.base.frzs, I.base.tbls⟩, ?_, fun x c e => ?_, I.free, I.freeC, fun p hq => ?_, fun b u e => ?_, I.len⟩
  · by_cases hb : b ∈ X.fs
    · obtain ⟨sl, q⟩ := frm b o hb e
      exact ⟨_, q⟩
    · obtain ⟨o', e1⟩ := I.base.there b o e (hx b)
      exact ⟨o', old b o o' e hb e1⟩
  · obtain ⟨m, hn, hl⟩ := I.loc
    refine ⟨m, up.ns hn, fun i x v e1 e2 e3 => ?_⟩
    obtain ⟨u, r, l⟩ := hl i x v e1 e2 e3
    refine ⟨u, r, ?_⟩
    rcases l with l | ⟨k, c, e, z⟩
    · exact .inl l
    · exact .inr ⟨k, c, e, cl c _ z⟩
  · obtain ⟨v, z⟩ := I.cell x c e
    exact ⟨v, cl c v z⟩
  · obtain ⟨e, n, ne, nf, d⟩ := I.pin p hq
    exact ⟨st p.1 p.2 (cov p.1 p.2 (.inl (hp p hq)) (nS p.1 ne nf) e), n, ne, nf, d⟩
  · refine (I.hok b u e).stay (fun c v hc q => ?_) (fun _ q => q) fun _ _ q => q
    rcases hc with z | z
    · exact trk c u v (by rw [z]; exact e) q
    · exact trk c _ v z q
theorem cov_next (cov : ∀ b o, ((∃ u, h₀.get? b = some u) ∨ ∃ u, H b = some u) → b ∉ frs X.stack → s.heap.get? b = some o → B.get? b = some o) (I : Inv X pins σ H s) (hex : X.ex = [])
    (h0 : ∀ b u, X.s₀.heap.get? b = some u → ∃ v, h₀.get? b = some v) (st : B.StaysIn h') : ∀ b o, ((∃ u, X.s₀.heap.get? b = some u) ∨ ∃ u, H b = some u) → b ∉ X.fs → h'.get? b = some o → B.get? b = some o := by
  intro b o hh hb q
  have nb : b ≠ X.env.locals := hh.elim (fun ⟨u, e⟩ => Nat.ne_of_lt (Nat.lt_of_lt_of_le (Heap.lt_size e) I.ok.above)) fun ⟨u, e⟩ z => by rw [z, I.free] at e; cases e
  obtain ⟨o', e'⟩ : ∃ o', s.heap.get? b = some o' := hh.elim (fun ⟨u, e⟩ => I.base.there b u e (by rw [hex]; intro z; cases z)) fun ⟨u, e⟩ => (I.hok b u e).there
  have e2 := cov b o' (hh.imp_left fun ⟨u, e⟩ => h0 b u e) (fun z => (List.mem_cons.mp (I.stkSub b z)).elim nb hb) e'
  have e3 := st b o' e2
  rw [q] at e3
  cases e3
  exact e2
theorem left_ok (I : Inv X pins σ H s) (hex : X.ex = []) (h0 : ∀ b u, X.s₀.heap.get? b = some u → ∃ v, h₀.get? b = some v) (hp : ∀ p ∈ X.pn ++ pins, ∃ u, h₀.get? p.1 = some u)
    (cov : ∀ b o, ((∃ u, h₀.get? b = some u) ∨ ∃ u, H b = some u) → b ∉ frs X.stack → s.heap.get? b = some o → B.get? b = some o) (x1 : Heap.FlyingW B X.outer a cls a0 h') (up : s.heap.UpToSlots h') :
    Un X.fs [] X.H₀ H X.s₀.heap h' ∧ HOk X.prog X.w H h' ∧ Fly X.outer X.s₀.heap H a cls h' := by
  have J := I.flew hex h0 hp cov x1.1 up
  refine ⟨?_, J.hok, B, a0, x1, cov_next cov I hex h0 x1.1⟩
  have := J.base
  rw [hex] at this
  exact this
end
section
variable {P : Program} {w : World} {K : PySem.W.Frag} {mg : Str → Option Value} {base : Heap} {N : List Str} {qual : Str} {scope : Scope} {f : Addr} {cd : Value} {A : Around} {outer : List Env} {s₀ : Shared} {H₀ : Hp} {E : XK}
theorem passW : Passes (CXW P w) (cxOf (CXW P w) P w K mg base N qual scope f cd A outer s₀ H₀ E) E := by
  intro pins σ H s e s' I h
  obtain ⟨a, C, H', rfl, os, bare, un, hok, ⟨B, a0, fl, cov⟩, q⟩ := h
  have J := I.call' (ch := []) os un hok bare fun b z => nomatch z
  refine wpAny_leaves_onW J.ok.frames rfl fl fun h' x1 x2 => ?_
  obtain ⟨u1, u2, u3⟩ := left_ok J rfl (fun b u e => I.base.there b u e (by intro z; cases z)) (fun p hp => ⟨_, (I.pin p hp).1⟩) cov x1 x2
  exact ⟨a, C, H', rfl, J.os, J.bare, u1, u2, u3, q⟩
noncomputable def Raises (X : Cx) (E : XK) : Prop := ∀ (pins : List (Addr × Obj)) (σ : St) (H : Hp) (s : Shared) (h1 : Heap) (a C : Addr) (args : List Value), Inv X pins σ H s → Heap.MadeExcOf s.heap h1 a (.ref C) args → E (.ref C) none H → X.xe (.ref a) { s with heap := h1 }
theorem raiseW : Raises (cxOf (CXW P w) P w K mg base N qual scope f cd A outer s₀ H₀ E) E := by
  intro pins σ H s h1 a C args I hm q
  refine wpAny_leaves_madeW (base := PySem.W.hideAll s.heap (frs (cxOf (CXW P w) P w K mg base N qual scope f cd A outer s₀ H₀ E).stack)) (h := s.heap) I.ok.frames rfl (fun b o e => PySem.W.of_hideAll _ e)
    (PySem.W.funFrames_hide I.stack fun env he b hb => List.mem_filterMap.mpr ⟨env, he, hb⟩) hm fun h' t x1 _ _ x4 => ?_
  obtain ⟨u1, u2, u3⟩ := left_ok (h₀ := s.heap) I rfl (fun b u e => I.base.there b u e (by intro z; cases z)) (fun p hp => ⟨_, (I.pin p hp).1⟩) (fun b o _ hb e => PySem.W.hideAll_get _ e hb) x1 ((Heap.UpToSlots.of_keeps hm.keeps).trans x4)
  exact ⟨a, C, H, rfl, I.os, I.bare, u1, u2, u3, q⟩
theorem Fun.okW {x qual : Str} {st : Stmt} {f : Addr} {fd : FuncData} {N ps : List Str} {k : Nat} {sp : Sp} (F : Fun K x qual st f fd) (S : FnScope N ps (defScope st)) (len : ∀ vs H Q E, sp vs H Q E → vs.length = ps.length)
    (hbody : ∀ (cdv : Value) (A : Around) (outer : List Env) (s : Shared) (H : Hp) (vs : List V) (Q : VK) (E : XK), Room k (A.deeper (envOfC qual (defScope st) s.heap.objs.size f cdv)) → sp vs H Q E →
      ∃ t, PSs (cxOf (CXW P w) P w K mg base N qual (defScope st) f cdv A outer s H E) (defBody st) t ∧ t { nx := fun _ H' => Q .non H', rt := Q } (start N vs) H) : FnOk P w K mg base (CXW P w) (k + 1) f fd ps sp := by
  obtain ⟨oc, od, kV, doc, pm, an, cdv, ct, osl, rfl, lk, hcd⟩ := F.ex
  exact fn_of lk hcd S len fun A outer s H vs Q E hr hsp => hbody cdv A outer s H vs Q E hr hsp
end
structure XCls (K : PySem.W.Frag) (mg : Str → Option Value) (x : Str) (C : Addr) : Prop where
  bound : mg x = some (.ref C)
  name : PySem.W.nsIn K mainGlobals x = some (some (.ref C))
  exc : PySem.W.excIn K C [.type "ValueError", .type "Exception", .type "BaseException", .type "object"] "ValueError.__new__" = true
theorem top_any {K : PySem.W.Frag} {mg : Str → Option Value} {base : Heap} (p : Program) (M : Mod K mg base) : ∃ loose mb, PySem.W.TopRead p loose mg mb base := by
  obtain ⟨o, es, ep, ho, hd, hk, hf⟩ := id M.glob
  obtain ⟨mb, hb, hbb⟩ := M.blt
  refine ⟨es.toList.filterMap fun e => match e.key with | .str y _ => some y | _ => none, mb, M.glob, hb, M.nolimit, hbb, fun x _ h2 _ _ _ => ?_⟩
  cases q : mg x with
  | none => rfl
  | some v =>
    exfalso
    rw [← hf] at q
    unfold nsFind findBy at q
    cases r : es.find? (fun e => (fun (n : Str) (v : Value) => v.isStr n) x e.key) with
    | none => rw [r] at q; cases q
    | some e =>
      refine h2 (List.mem_filterMap.mpr ⟨e, ?_, ?_⟩)
      · exact Array.mem_toList_iff.mpr (Array.mem_of_find?_eq_some r)
      · have z : e.key.isStr x = true := by simpa using Array.find?_some r
        obtain ⟨y, t, ey⟩ := hk e (Array.mem_of_find?_eq_some r)
        rw [ey] at z ⊢
        have : y = x := by simpa [Value.isStr] using z
        rw [this]
noncomputable def tRaise (C : Addr) (E : XK) (t : TA) : TS := fun _ σ H => t σ H fun vs H1 => vs.length ≤ sizeLine ∧ E (.ref C) none H1
theorem ps_raise {X : Cx} {E : XK} {x : Str} {C : Addr} {e : Expr} {es : List Expr} {t : TA} {np cpos pos : Pos} (O : XCls X.K X.mg x C) (R : Raises X E) (hc : X.calm = true) (hg : Gl X x) (ha : PA X (e :: es) t)
    (he : starEach (e :: es) X.env = (false, eval e X.env) :: starEach es X.env := by rfl) (hpl : (backTo cpos (starEach es X.env)).any (·.1) = false := by rfl) (hdb : (x == ("__debug__" : Str)) = false := by decide) :
    PS X (.Raise (some (.Call (.Name x np) (e :: es) [] cpos)) none pos) (tRaise C E t) := by
  intro pins s σ H D I h
  obtain ⟨loose, mb, T⟩ := top_any X.prog I.mod
  obtain ⟨tl, Nn, nm, q, bs, hdct, sn, sub, ab, col, dd, k0, k1, k2, k3, k5, mN, hC, hN, hni, OT⟩ := (PySem.W.own_of_in I.mod.kin T O.name O.exc).obj
  refine wpAny_Raise_call_subT (C := C) (nm := nm) (q := q) (N := Nn) (bs := bs) (bm := tl) (hdct := hdct) (sn := sn) (sub := sub) (ab := ab) (col := col) (dd := dd) (k0 := k0) (k1 := k1) (k2 := k2) (k3 := k3) (k5 := k5) F.excBase_ValueError (mN := mN)
    (OT.hasType F.excBase_ValueError.hasBase) (I.ok.hd hc) ?_ hni (ld_glob I hg O.bound ⟨rfl, ?_⟩ hdb)
  · rw [he]
    show (false || (backTo cpos (starEach es X.env)).any (·.1)) = false
    rw [hpl]
    rfl
  · have h' := ha cpos pins s σ H _ I h
    rw [he] at h' ⊢
    exact Calls.evalArgs_plain (thn h' fun us s2 ⟨vs, H1, I1, r, z, q⟩ => ⟨rfl, by rw [← r.length]; exact z, I1.bk _ _ hC, hN.keeps I1.bk, OT.keeps I1.bk, fun h1 a hm => R pins σ H1 s2 h1 a C us I1 hm q⟩)
end L2
set_option Elab.async false
set_option linter.all false
set_option maxRecDepth 100000
set_option maxHeartbeats 1000000
namespace L2
open PySem PySem.Spec PyProof.Rows
noncomputable abbrev Cx.tried (X : Cx) (pn : List (Addr × Obj)) (xe : Value → Shared → Prop) : Cx := { X with pn := pn, xe := xe }
noncomputable abbrev Cx.caught (X : Cx) (A : Around) (pn : List (Addr × Obj)) : Cx := { X with A := A, calm := false, pn := pn, xe := fun _ _ => False }
section
variable {X : Cx} {pins pn : List (Addr × Obj)} {σ : St} {H : Hp} {s : Shared} {h' : Heap} {xe : Value → Shared → Prop} {A : Around}
theorem Inv.tried (I : Inv X pins σ H s) (xe : Value → Shared → Prop) : Inv (X.tried (X.pn ++ pins) xe) [] σ H s :=
  ⟨⟨I.ok.mod, I.ok.kind, I.ok.glob, I.ok.blt, I.ok.above, I.ok.inj, I.ok.has, I.ok.cab, I.ok.hd, I.ok.frames, I.ok.stk, I.ok.exf, I.ok.bs, I.ok.bsz, I.ok.noex, I.ok.exfs, I.ok.funs, I.ok.frf⟩,
    I.os, I.bare, I.base, I.loc, I.cell, I.free, I.freeC, fun p hp => I.pin p (by rw [List.append_nil] at hp; exact hp), I.hok, I.len⟩
theorem Inv.untried {pins' : List (Addr × Obj)} (I : Inv (X.tried pn xe) pins' σ H s) (ok : X.Ok) (hp : ∀ p ∈ X.pn ++ pins, p ∈ pn) : Inv X pins σ H s :=
  ⟨ok, I.os, I.bare, I.base, I.loc, I.cell, I.free, I.freeC, fun p hq => I.pin p (List.mem_append_left _ (hp p hq)), I.hok, I.len⟩
theorem Inv.caught (I : Inv X pins σ H s) (hA : A.frames = X.A.frames) (hp : ∀ p ∈ pn, s.heap.get? p.1 = some p.2 ∧ H p.1 = none ∧ p.1 ≠ X.env.locals ∧ p.1 ∉ X.fs ∧ ∀ v, p.2.data ≠ .cell v) : Inv (X.caught A pn) [] σ H s :=
  ⟨⟨I.ok.mod, I.ok.kind, I.ok.glob, I.ok.blt, I.ok.above, I.ok.inj, I.ok.has, I.ok.cab, (fun z => nomatch z), hA.trans I.ok.frames, I.ok.stk, I.ok.exf, I.ok.bs, I.ok.bsz, I.ok.noex, I.ok.exfs, I.ok.funs, I.ok.frf⟩,
    I.os, I.bare, I.base, I.loc, I.cell, I.free, I.freeC, fun p hq => hp p (by rw [List.append_nil] at hq; exact hq), I.hok, I.len⟩
theorem Inv.uncaught {pins' : List (Addr × Obj)} (I : Inv (X.caught A pn) pins' σ H s) (ok : X.Ok) (hp : ∀ p ∈ X.pn ++ pins, p ∈ pn) : Inv X pins σ H s :=
  ⟨ok, I.os, I.bare, I.base, I.loc, I.cell, I.free, I.freeC, fun p hq => I.pin p (List.mem_append_left _ (hp p hq)), I.hok, I.len⟩
theorem Inv.forget {m' : Str → Option Value} {t' : Nat} (I : Inv X pins σ H s) (hn : h'.Ns X.env.locals m') (hs : Heap.SameBut X.env.locals s.heap h') : Inv X pins (List.replicate X.N.length none) H { s with heap := h', toks := t' } := by
  have nb : ∀ b o, X.s₀.heap.get? b = some o → b ≠ X.env.locals := fun b o e => Nat.ne_of_lt (Nat.lt_of_lt_of_le (Heap.lt_size e) I.ok.above)
  refine ⟨I.ok, I.os, I.bare, ⟨fun b o e n hb hx => (hs.2 b (nb b o e)).trans (I.base.keep b o e n hb hx), fun b o e n hb hx => ?_, I.base.free, fun b o e hx => ?_, I.base.tups, I.base.frzs, I.base.tbls⟩, ⟨m', hn, fun i x v e1 e2 _ => ?_⟩, fun x c e => ?_, I.free, I.freeC, fun p hp => ?_, fun b u e => ?_, by simp⟩
  · obtain ⟨sl, e1⟩ := I.base.slot b o e n hb hx
    exact ⟨sl, (hs.2 b (nb b o e)).trans e1⟩
  · obtain ⟨o', e1⟩ := I.base.there b o e hx
    exact ⟨o', (hs.2 b (nb b o e)).trans e1⟩
  · rw [List.getElem?_replicate] at e2
    split at e2 <;> cases e2
  · obtain ⟨v, z⟩ := I.cell x c e
    exact ⟨v, z.sameBut hs (I.cne x c e)⟩
  · obtain ⟨e, n, ne, nf, d⟩ := I.pin p hp
    exact ⟨(hs.2 p.1 ne).trans e, n, ne, nf, d⟩
  · refine (I.hok b u e).stay (fun c v hc q => (hs.2 c ?_).trans q) (fun _ q => q) fun _ _ q => q
    intro z
    subst z
    rcases hc with z | z
    · rw [← z, I.free] at e
      cases e
    · rw [I.free] at z
      cases z
end
noncomputable def tTry (K : PySem.W.Frag) (We : Addr) (i : Nat) (E : XK) (tb : TS) (th : Addr → Addr → TS) : TS := fun D σ H =>
  tb D σ H ∧ ∀ (C : Addr) (H' : Hp) (a : Addr) (σ' : St), σ'.length = σ.length → E (.ref C) none H' → PySem.W.exmOne K (.ref C) (.ref We) = some true ∧ th a C { nx := fun _ _ => False, rt := D.rt } (σ'.set i (some (.ref a))) H'
theorem ps_try {X : Cx} {x n : Str} {np hpos pos : Pos} {body suite : List Stmt} {b₀ : Stmt} {tb : TS} {th : Addr → Addr → TS} {i : Nat} {We : Addr} (E : XK)
    (hs : X.stack = X.env :: X.outer) (hf : X.env.frame = some X.env.locals) (hex : X.ex = []) (hN : X.N.Nodup) (hi : X.N[i]? = some n) (hl : X.env.scope.names.lookup n = some .local) (hg : Gl X x) (hm : X.mg x = some (.ref We))
    (hb : ∀ (pn : List (Addr × Obj)) (xe : Value → Shared → Prop), Passes (CXW X.prog X.w) (X.tried pn xe) E → PSs (X.tried pn xe) body tb)
    (hh : ∀ (A : Around) (pn : List (Addr × Obj)) (a C : Addr) (oe : Obj), oe.cls = .ref C → (a, oe) ∈ pn → PSs (X.caught A pn) (b₀ :: suite) (th a C))
    (hdb : (x == ("__debug__" : Str)) = false := by decide) :
    PS X (.Try body [.ExceptHandler (some (.Name x np)) (some n) (b₀ :: suite) hpos] [] [] pos) (tTry X.K We i E tb th) := by
  intro pins s σ H D I h
  obtain ⟨h1, h2⟩ := h
  refine wpAny_Try_except ?_
  have all : ∀ p ∈ X.pn ++ pins, p ∈ X.pn ++ pins := fun _ z => z
  refine wpAny_mono (hb (X.pn ++ pins) (fun e s₁ => wpAny (model X.prog X.w) X.A (noteFrame e X.env) (fun _ s₂ => wpAny (model X.prog X.w) X.A (setFlight e none) (fun _ s₃ =>
    wpAny (model X.prog X.w) X.A (handleBy e X.env [.ExceptHandler (some (.Name x np)) (some n) (b₀ :: suite) hpos]) (SP X pins D) X.xe s₃) X.xe s₂) X.xe s₁) ?_ [] s σ H D (I.tried _) h1) (fun fl s₁ q => ?_) fun e s₁ q => q
  · intro pins' σ' H1 s1 e s2 J h
    obtain ⟨a, C, H2, rfl, os, bare, un, hok, ⟨B, a0, fl, cov⟩, q⟩ := h
    have J2 := J.call' (ch := []) os un hok bare fun b z => nomatch z
    have J3 : Inv X pins σ' H2 s2 := J2.untried I.ok all
    have h0 : ∀ b u, X.s₀.heap.get? b = some u → ∃ v, s1.heap.get? b = some v := fun b u e => J.base.there b u e (by show b ∉ X.ex; rw [hex]; intro z; cases z)
    have hp : ∀ p ∈ X.pn ++ pins, ∃ u, s1.heap.get? p.1 = some u := fun p hq => ⟨_, (J.pin p (List.mem_append_left _ hq)).1⟩
    have fl' : Heap.FlyingW B (X.env :: X.outer) a (.ref C) a0 s2.heap := hs ▸ fl
    refine wpAny_looks_onW (outer := X.outer) (J3.ok.frames.trans (congrArg some hs)) hf fl' fun h4 held u4 => ?_
    refine wpAny_landsW held fun h5 fl5 u5 => ?_
    have u45 := u4.trans u5
    have I5 : Inv X pins σ' H2 { s2 with heap := h5 } := J3.flew hex h0 hp cov fl5.1 u45
    obtain ⟨g1, g2⟩ := h2 C H2 a σ' (by rw [J3.len, I.len]) q
    have hA : (X.A.mark (some (.ref a))).frames = X.A.frames := rfl
    refine wpAny_handleBy_cons (codeAny_handlers_test ?_) (by intro z; cases z)
    have C5 : Inv (X.caught (X.A.mark (some (.ref a))) (X.pn ++ pins)) [] σ' H2 { s2 with heap := h5 } := I5.caught hA fun p hq => I5.pin p hq
    refine ld_glob C5 hg hm ?_ hdb
    have ty : PySem.W.Looks (model X.prog X.w) h5 (typeOf (.ref a)) (.ref C) := by
      obtain ⟨ob, e1, e2⟩ := fl5.there
      exact e2 ▸ (PySem.W.Looks.ld e1).andThen .now
    refine (PySem.W.exm_one I5.kIn ty g1).here ?_
    refine codeAny_handlers_suite_as ?_
    refine lands_againW fl5 fun h6 fl6 u6 => ?_
    have I6 : Inv X pins σ' H2 { s2 with heap := h6 } := J3.flew hex h0 hp cov fl6.1 (u45.trans u6)
    obtain ⟨oe, vs, e1, e2, e3, _⟩ := fl6.first
    have nfr : a ∉ frs X.stack := fun z => by
      obtain ⟨_, o, ho, hd⟩ := fl6.2.2.1.mem (show a ∈ (X.env :: X.outer).filterMap (·.frame) from hs ▸ z)
      rw [e1] at ho
      cases ho
      exact hd vs e3
    have nH : H2 a = none := by
      cases z : H2 a with
      | none => rfl
      | some u =>
        obtain ⟨ob, eb, _⟩ := fl.there
        have := cov a ob (.inr ⟨u, z⟩) nfr eb
        rw [fl.2.1] at this
        cases this
    have inS : ∀ b, b = X.env.locals ∨ b ∈ X.fs → b ∈ frs X.stack := fun b hb => by
      rw [hs]
      unfold frs
      rw [List.filterMap_cons, hf]
      exact List.mem_cons.mpr hb
    have C6 : Inv (X.caught (X.A.mark (some (.ref a))) (X.pn ++ pins ++ [(a, oe)])) [] σ' H2 { s2 with heap := h6 } := I6.caught hA fun p hq => by
      rcases List.mem_append.mp hq with z | z
      · exact I6.pin p z
      · obtain rfl : p = (a, oe) := by simpa using z
        exact ⟨e1, nH, fun y => nfr (inS a (.inl y)), fun y => nfr (inS a (.inr y)), fun v y => by rw [e3] at y; cases y⟩
    refine store_ok (X := X.caught (X.A.mark (some (.ref a))) (X.pn ++ pins ++ [(a, oe)])) (i := i) (v := .ref a) C6 hN hi (.inl hl) rfl (fun s7 I7 => ?_) (.inr hl)
    refine wpAny_mono (hh _ _ a C oe e2 (List.mem_append_right _ List.mem_cons_self) [] s7 _ H2 _ I7 g2) (fun f s8 q8 => ?_) fun _ _ z => False.elim z
    cases f with
    | ret u =>
      obtain ⟨v, σ8, H8, I8, r8, q8⟩ := q8
      obtain ⟨m8, hn8, _⟩ := id I8.loc
      have U8 : Inv X pins σ8 H8 s8 := I8.uncaught I.ok fun p hq => List.mem_append_left _ hq
      refine wpAny_nameGoes hl hn8 (by rw [I.ok.kind]; rfl) fun h9 m9 hn9 hs9 => ?_
      exact ⟨v, _, H8, U8.forget hn9 hs9, r8, q8⟩
    | next => obtain ⟨_, _, _, z⟩ := q8; exact z.elim
    | brk => obtain ⟨_, _, _, z⟩ := q8; exact z.elim
    | cont => obtain ⟨_, _, _, z⟩ := q8; exact z.elim
  · cases fl with
    | next =>
      obtain ⟨σ', H', I', q⟩ := q
      exact wpAny_execs_nil ⟨σ', H', I'.untried I.ok all, q⟩
    | brk => obtain ⟨σ', H', I', q⟩ := q; exact ⟨σ', H', I'.untried I.ok all, q⟩
    | cont => obtain ⟨σ', H', I', q⟩ := q; exact ⟨σ', H', I'.untried I.ok all, q⟩
    | ret u => obtain ⟨v, σ', H', I', r, q⟩ := q; exact ⟨v, σ', H', I'.untried I.ok all, r, q⟩
end L2
set_option Elab.async false
set_option linter.all false
set_option maxRecDepth 100000
set_option maxHeartbeats 1000000
namespace L2
open PySem PySem.Spec PySem.W PyProof.Rows Builtin Builtin.ObjectAttr Builtin.Getset_descriptor
structure ExcK (K : Frag) (D : Addr) : Prop where
  hd : hasDictIn K D = true
  ga : findIn K (.ref D) "__getattribute__" = some (some (.builtin "BaseException.__getattribute__"))
  gx : findIn K (.ref D) "__getattr__" = some none
  ca : findIn K (.ref D) "__class__" = some (some (.builtin "object.__class__"))
  gt : specialIn K (.builtin "object.__class__") "__get__" = some (some (.builtin "getset_descriptor.__get__"))
  tk : takesIn K (.builtin "object.__class__") = some true
  mo : mroIn K D (.type "object") = some true
  mb : mroIn K D (.type "BaseException") = some true
section
variable {prog : Program} {w : World} {A : Around} {E : Value → Shared → Prop} {s : Shared} {K : Frag} {x D : Addr} {ox : Obj}
theorem ExcK.ty {M : Model} {h : Heap} (e : h.get? x = some ox) (c : ox.cls = .ref D) : Looks M h (typeOf (.ref x)) (.ref D) := c ▸ (Looks.ld e).andThen .now
theorem ExcK.finds {M : Model} {h : Heap} (Z : ExcK K D) (X : K.In h) : Looks M h (find (.ref x) (.ref D) "__class__") (.bind (.builtin "getset_descriptor.__get__") (.builtin "object.__class__")) := by
  have l1 := looks_findIn (M := M) X Z.ca
  have l2 : Looks M h (getOf (some (.builtin "object.__class__"))) (some (.builtin "getset_descriptor.__get__")) := looks_specialIn X Z.gt
  have l3 := looks_takesIn (M := M) X Z.tk
  refine l1.andThen (l2.andThen ?_)
  refine (show Looks M h (dataDescriptor? (some (.builtin "object.__class__")) (some (.builtin "getset_descriptor.__get__"))) (some (.builtin "getset_descriptor.__get__", .builtin "object.__class__")) from l3.andThen .now).andThen ?_
  exact Looks.tag .now
theorem exc_get {R : Result → Shared → Prop} {tp : Value} (Z : ExcK K D) (X : K.In s.heap) (e : s.heap.get? x = some ox) (c : ox.cls = .ref D) (h : R (.ok (.ret (.ref D))) s) :
    codeAny (model prog w) A (.call (.builtin "getset_descriptor.__get__") ⟨[.builtin "object.__class__", .ref x, tp], []⟩) R s := by
  obtain ⟨hp, gs, dr, tt, os⟩ := s
  have l0 := ExcK.ty (M := model prog w) e c
  have l1 := looks_mroIn (M := model prog w) X Z.mo
  refine codeAny_call_builtin KF.slot_gs.plain KF.entry_gs ?_
  refine KF.slot_gs.check _ _ _ _ _ _ _ _ KF.type_class (KF.args_gs _ _ _) ?_
  unfold Builtin.«getset_descriptor.__get__»
  unfold descrGet
  rw [dga_obj]
  refine wpAny_bind (wpAny_pure ?_)
  unfold descrGetter
  unfold descrCheckInstance
  unfold descrNameAndClass
  unfold isInstance
  simp only [KF.owner_class]
  repeat lk
  refine ⟨Code.quiet_builtin _ (by decide +kernel), ?_⟩
  refine codeAny_builtin KF.entry_class ?_
  unfold Builtin.«object.__class__»
  unfold shownTypeOf
  repeat lk
  exact h
theorem exc_entry {tk : Tok} {Q : Fin → Shared → Prop} (Z : ExcK K D) (X : K.In s.heap) (e : s.heap.get? x = some ox) (c : ox.cls = .ref D) (h : Q (.done (.ret (.ref D))) s) :
    wpAny (model prog w) A (Builtin.«object.__getattribute__» ⟨[.ref x, .str "__class__" tk], []⟩) Q E s := by
  obtain ⟨hp, gs, dr, tt, os⟩ := s
  have l0 := ExcK.ty (M := model prog w) e c
  have l1 := Z.finds (M := model prog w) (x := x) X
  refine wpAny_bind (wpAny_of_eq (a := (Value.ref x, [Value.str "__class__" tk])) rfl ?_)
  refine wpAny_bind (wpAny_of_eq (a := ("__class__" : Str)) rfl ?_)
  refine wpAny_bind (l0.at (wpAny_bind (l1.at ?_)))
  show wpAny _ _ (bindTo _ _ _ _) _ _ _
  unfold bindTo
  exact wpAny_bind (wpAny_call (exc_get Z X e c (wpAny_pure h)))
theorem exc_call {tk : Tok} {R : Result → Shared → Prop} (Z : ExcK K D) (X : K.In s.heap) (e : s.heap.get? x = some ox) (c : ox.cls = .ref D) (h : R (.ok (.ret (.ref D))) s) :
    codeAny (model prog w) A (.call (.builtin "BaseException.__getattribute__") ⟨[.ref x, .str "__class__" tk], []⟩) R s := by
  refine codeAny_call_builtin F.attr_ValueError.ga.plain F.entry_bexc_ga ?_
  obtain ⟨hp, gs, dr, tt, os⟩ := s
  have l0 := ExcK.ty (M := model prog w) e c
  have l1 := looks_mroIn (M := model prog w) X Z.mb
  have kd : builtinKind "BaseException.__getattribute__" = some .slot := by decide +kernel
  have sd : splitId "BaseException.__getattribute__" = some ("BaseException", "__getattribute__") := by decide +kernel
  have ar := F.args_bexc_ga (.ref x) (.str "__class__" tk)
  simp only [checkBuiltinCall, kd, sd]
  refine wpAny_bind ?_
  unfold isInstance
  repeat (first | with_reducible refine exc_entry Z X e c ?_ | refine wpAny_bind (l0.at ?_) | refine wpAny_bind (l1.at ?_) | refine l1.at ?_ | wp_step)
  exact h
theorem exc_by {tk : Tok} {Q : Value → Shared → Prop} (Z : ExcK K D) (X : K.In s.heap) (e : s.heap.get? x = some ox) (c : ox.cls = .ref D) (h : Q (.ref D) s) :
    wpAny (model prog w) A (getAttrBy (.ref x) (.str "__class__" tk) false) Q E s := by
  obtain ⟨hp, gs, dr, tt, os⟩ := s
  have l0 := ExcK.ty (M := model prog w) e c
  have l1 := looks_findIn (M := model prog w) X Z.ga
  have l2 := looks_findIn (M := model prog w) X Z.gx
  have f3 := F.attr_ValueError.ga.bind (.ref x)
  have hx2 : (Value.builtin "BaseException.__getattribute__" == Value.builtin "object.__getattribute__") = false := by decide +kernel
  unfold getAttrBy
  refine wpAny_holding (wpAny_bind (l0.at (wpAny_bind (l1.at ?_))))
  show wpAny _ _ (if (onTheHeap (.ref D) && Value.builtin "BaseException.__getattribute__" == Value.builtin "object.__getattribute__") = true then _ else _) _ _ _
  rw [hx2, Bool.and_false, if_neg Bool.false_ne_true]
  unfold getAttrByItsOwn
  refine wpAny_bind (m := hookBefore (.ref D)) (l2.at ?_)
  refine wpAny_bind (wpAny_attempt (wpAny_holding ?_))
  show wpAny _ _ (boundAndCalled (.builtin "BaseException.__getattribute__") (.ref x) (.str "__class__" tk)) _ _ _
  unfold boundAndCalled
  refine wpAny_bind (wpAny_of_eq f3 ?_)
  refine wpAny_call (exc_call Z X e c ?_)
  exact wpAny_pure h
theorem exc_class {Q : Option Value → Shared → Prop} (Z : ExcK K D) (X : K.In s.heap) (e : s.heap.get? x = some ox) (c : ox.cls = .ref D) (h : Q (some (.ref D)) { s with toks := s.toks + 1 }) :
    wpAny (model prog w) A (getAttr? (.ref x) "__class__") Q E s := by
  unfold getAttr? getAttrBy?
  refine wpAny_bind (wpAny_mkText (wpAny_bind (wpAny_attempt ?_)))
  exact exc_by (s := { s with toks := s.toks + 1 }) Z X e c (wpAny_pure h)
theorem ExcK.cls (Z : ExcK K D) : ∃ c' d' cd' sl', K.lookup D = some (⟨c', d', .cls cd', sl'⟩ : Obj) := by
  obtain ⟨cd, hc, _⟩ := any_some Z.hd
  unfold clsIn at hc
  split at hc
  · rename_i a b d g ho
    exact ⟨a, b, d, g, ho⟩
  · cases hc
theorem kitx_exc (Z : ExcK K D) : KitX K (.ref x) (.ref D) (fun h => ∃ oe, h.get? x = some oe ∧ oe.cls = .ref D) where
  ty := fun _ _ _ p => by
    obtain ⟨oe, e, c⟩ := p
    exact ExcK.ty e c
  it := fun M h X _ => by
    obtain ⟨a, b, d, g, ho⟩ := Z.cls
    intro A1 Q1 E1 s1 k1 q1
    unfold isType loadHead
    exact wpAny_bind (wpAny_loadPart (k1 _ _ (X _ _ ho)) (wpAny_pure q1))
  ne := fun h tp dd its n sl X htp => by
    obtain ⟨a, b, d, g, ho⟩ := Z.cls
    refine Bool.eq_false_iff.mpr fun q => ?_
    have z : D = tp := Value.ref.inj (beq_iff_eq.mp q)
    rw [z] at ho
    have y := (X _ _ ho).symm.trans htp
    cases y
  ca := fun X p k => by
    obtain ⟨oe, e, c⟩ := p
    exact exc_class Z X e c k
end
section
variable {X : Cx} {a C : Addr} {oe : Obj}
theorem call_isXC (K : Frag) (hK : X.K = K) (hp : (a, oe) ∈ X.pn) (hc : oe.cls = .ref C) : CallR X (.builtin "isinstance") (fun xs H Q => ∃ C' b, xs = [.ref a, .ref C'] ∧ ExcK K C ∧ kitOne K (.ref C) (.ref C') = some b ∧ Q (.bl b) H) := by
  subst hK
  intro pins s σ H xs us Q I r h
  obtain ⟨C', b, rfl, Z, e, q⟩ := h
  obtain ⟨u, w', rfl, ru, rw'⟩ := vals2 r
  cases (show u = Value.ref a from ru)
  cases (show w' = Value.ref C' from rw')
  exact kia_one (kitx_exc Z) I.kIn ⟨oe, (I.pin (a, oe) (List.mem_append_left _ hp)).1, hc⟩ e (fun z => nomatch z) fun tk => ⟨.bl b, H, I.tok tk, rfl, q⟩
theorem call_isXT (K : Frag) (hK : X.K = K) (hp : (a, oe) ∈ X.pn) (hc : oe.cls = .ref C) : CallR X (.builtin "isinstance") (fun xs H Q => ∃ T b, xs = [.ref a, .ty T] ∧ ExcK K C ∧ kitOne K (.ref C) (.type T) = some b ∧ Q (.bl b) H) := by
  subst hK
  intro pins s σ H xs us Q I r h
  obtain ⟨T, b, rfl, Z, e, q⟩ := h
  obtain ⟨u, w', rfl, ru, rw'⟩ := vals2 r
  cases (show u = Value.ref a from ru)
  cases (show w' = Value.type T from rw')
  exact kia_one (kitx_exc Z) I.kIn ⟨oe, (I.pin (a, oe) (List.mem_append_left _ hp)).1, hc⟩ e (fun z => nomatch z) fun tk => ⟨.bl b, H, I.tok tk, rfl, q⟩
end
end L2
set_option Elab.async false
set_option linter.all false
set_option maxRecDepth 100000
set_option maxHeartbeats 1000000
namespace L2
open PySem PySem.Spec PyProof.Rows
section
variable {X : Cx}
theorem peN {e : Expr} : PE X e (fun _ _ _ => False) := fun _ _ _ _ _ _ h => False.elim h
theorem op_repT : OpR X (binaryOp .Mult) (fun x y H Q => ∃ z k, x = .str z ∧ y = .int k ∧ PySem.MulOk z k ∧ Q (.str (PySem.Txt.mul z k)) H) := by
  intro pins s σ H x y v u Q I rx ry h
  obtain ⟨z, k, rfl, rfl, hm, q⟩ := h
  obtain ⟨t, rfl⟩ := (show ∃ t, v = Value.str z t from rx)
  obtain ⟨tk, rfl⟩ := (show ∃ t, u = Value.int k t from ry)
  exact PySem.SB.mul hm fun t' n => ⟨.str (PySem.Txt.mul z k), H, I.tok n, ⟨_, rfl⟩, q⟩
noncomputable def Door (P : Program) (w : World) (K : PySem.W.Frag) (mg : Str → Option Value) (base : Heap) (k : Nat) (sp : Sp) (v : V) : Prop :=
  ∃ f fd ps, v = .ref f ∧ FnOk P w K mg base (CXW P w) k f fd ps sp ∧ PySem.W.keepIn K (.ref f) = true ∧ Binds K fd ps []
noncomputable def tCallE (Dr : V → Prop) (sp : Sp) (E : XK) (te : TE) (t : TA) : TE := fun σ H Q => te σ H fun v H1 => Dr v ∧ t σ H1 fun vs H2 => sp vs H2 Q E
theorem pe_callE {k : Nat} {sp : Sp} {E : XK} {fe e : Expr} {es : List Expr} {te : TE} {t : TA} {pos : Pos} (hf : PE X fe te) (hr : Room k X.A) (hx : Passes (CXW X.prog X.w) X E) (ha : PA X (e :: es) t)
    (hc : eval (.Call fe (e :: es) [] pos) X.env = (do callWith pos (← eval fe X.env) [] (backTo pos (starEach (e :: es) X.env)) (backToKw pos (keywordEach [] X.env))) := by rfl)
    (he : starEach (e :: es) X.env = (false, eval e X.env) :: starEach es X.env := by rfl) (hpl : (backTo pos (starEach es X.env)).any (·.1) = false := by rfl) :
    PE X (.Call fe (e :: es) [] pos) (tCallE (Door X.prog X.w X.K X.mg X.base k sp) sp E te t) := by
  intro pins s σ H Q I h
  refine Call_ (thn (hf pins s σ H _ I h) fun u s1 h1 => ?_) hc
  obtain ⟨v, H1, I1, r1, ⟨f, fd, ps, rfl, F, hk, hb⟩, q⟩ := h1
  cases (show u = Value.ref f from r1)
  refine PySem.W.callWith_K (h₀ := X.base) I.ok.mod.kin hk (thn (ha pos pins s1 σ H1 _ I1 q) fun us s2 ⟨vs, H2, I2, r, q2⟩ => ⟨I2.kIn, ?_⟩) he hpl
  exact run_fn (dvs := []) (ds := []) F hr hb .nil hx I2 r (by rw [List.append_nil]; exact q2)
end
end L2
set_option Elab.async false
set_option linter.all false
set_option maxRecDepth 100000
set_option maxHeartbeats 1000000
namespace SW
open PySem PySem.Spec PyProof.Rows L2
structure PAw (X : Cx) (es : List Expr) (t : TA) : Prop where
  out : PA X es t
section
variable {X : Cx} {e o i : Expr} {es : List Expr} {te to_ ti : TE} {t : TA} {pos : Pos}
theorem paw_nil : PAw X [] tNil := ⟨pa_nil⟩
theorem paw_cons (ha : PE X e te) (hr : PAw X es t) (hs : starEach (e :: es) X.env = (false, eval e X.env) :: starEach es X.env := by rfl) : PAw X (e :: es) (tCons te t) := ⟨pa_cons ha hr.out hs⟩
theorem pew_lst (h : PAw X es t) : PEw X (.List es pos) (tLst t) := ⟨pe_lst h.out⟩
theorem pew_ixL (ho : PEw X o to_) (hi : PE X i ti) (hs : PlainIx i) : PEw X (.Subscript o i pos) (tOp (rIxL X.K) to_ ti) := ⟨pe_ix ix_list ho.out hi hs⟩
end
theorem pew_ixK (K : PySem.W.Frag) {X : Cx} {o i : Expr} {to_ ti : TE} {pos : Pos} (hK : X.K = K) (ho : PEw X o to_) (hi : PE X i ti) (hs : PlainIx i) : PEw X (.Subscript o i pos) (tOp (rIxL K) to_ ti) := by
  subst hK
  exact pew_ixL ho hi hs
theorem pe_ixK (K : PySem.W.Frag) {X : Cx} {o i : Expr} {to_ ti : TE} {pos : Pos} (hK : X.K = K) (ho : PE X o to_) (hi : PE X i ti) (hs : PlainIx i) : PE X (.Subscript o i pos) (tOp (rIxL K) to_ ti) := by
  subst hK
  exact pe_ix ix_list ho hi hs
theorem pe_callEK (Dr : V → Prop) {X : Cx} {k : Nat} {sp : Sp} {E : XK} {fe e : Expr} {es : List Expr} {te : TE} {t : TA} {pos : Pos} (hD : ∀ v, Dr v → Door X.prog X.w X.K X.mg X.base k sp v) (hf : PE X fe te) (hr : Room k X.A) (hx : Passes (CXW X.prog X.w) X E) (ha : PA X (e :: es) t)
    (hc : eval (.Call fe (e :: es) [] pos) X.env = (do callWith pos (← eval fe X.env) [] (backTo pos (starEach (e :: es) X.env)) (backToKw pos (keywordEach [] X.env))) := by rfl)
    (he : starEach (e :: es) X.env = (false, eval e X.env) :: starEach es X.env := by rfl) (hpl : (backTo pos (starEach es X.env)).any (·.1) = false := by rfl) :
    PE X (.Call fe (e :: es) [] pos) (tCallE Dr sp E te t) := by
  intro pins s σ H Q I h
  refine Call_ (thn (hf pins s σ H _ I h) fun u s1 h1 => ?_) hc
  obtain ⟨v, H1, I1, r1, hv, q⟩ := h1
  obtain ⟨f, fd, ps, rfl, F, hk, hb⟩ := hD v hv
  cases (show u = Value.ref f from r1)
  refine PySem.W.callWith_K (h₀ := X.base) I.ok.mod.kin hk (thn (ha pos pins s1 σ H1 _ I1 q) fun us s2 ⟨vs, H2, I2, r, q2⟩ => ⟨I2.kIn, ?_⟩) he hpl
  exact run_fn (dvs := []) (ds := []) F hr hb .nil hx I2 r (by rw [List.append_nil]; exact q2)
theorem ps_ifE {X : Cx} {c : Expr} {a b : List Stmt} {tc : TT} {t u : TS} {pos : Pos} (hc : PT X c tc) (ha : PSs X a t) (hb : PSsw X b u) : PS X (.If c a b pos) (tIfS tc t u) := ps_if hc ha hb.out
theorem okS {P : Program} {w : World} {K : PySem.W.Frag} {mg : Str → Option Value} {base : Heap} {x qual : Str} {st : Stmt} {f : Addr} {fd : FuncData} {N ps : List Str} {k : Nat} {sp : Sp} (F : Fun K x qual st f fd) (S : FnScope N ps (defScope st)) (len : ∀ vs H Q E, sp vs H Q E → vs.length = ps.length)
    (hbody : ∀ (cdv : Value) (A : Around) (outer : List Env) (s : Shared) (H : Hp) (vs : List V) (Q : VK) (E : XK), Room k (A.deeper (envOfC qual (defScope st) s.heap.objs.size f cdv)) → sp vs H Q E →
      ∃ t, PSsw (cxOf (CXW P w) P w K mg base N qual (defScope st) f cdv A outer s H E) (defBody st) t ∧ t { nx := fun _ H' => Q .non H', rt := Q } (start N vs) H) : FnOk P w K mg base (CXW P w) (k + 1) f fd ps sp :=
  Fun.okW F S len fun cdv A outer s H vs Q E hr h => by
    obtain ⟨t, a, b⟩ := hbody cdv A outer s H vs Q E hr h
    exact ⟨t, a.out, b⟩
theorem reads_bools {h : Heap} : ∀ {bs : List Bool} {us : List Value}, Vals (bs.map V.bl) us → ∃ as, ReadsAll h us (bs.map PyData.bool) as
  | [], us, r => by
    cases r
    exact ⟨_, .nil⟩
  | b :: bs, us, r => by
    cases r with
    | cons r1 r2 =>
      obtain ⟨as, q⟩ := reads_bools r2
      cases (show _ = Value.bool b from r1)
      exact ⟨_, .cons (.bool b) q⟩
theorem op_neB {X : Cx} (K : PySem.W.Frag) (hK : X.K = K) (hu : X.A.units + 64 < cLine) : OpR X (compareOp .NotEq) (fun x y H Q => ∃ (p q : Addr) (bs cs : List Bool), x = .ref p ∧ y = .ref q ∧ SqL K H p (bs.map V.bl) ∧ SqL K H q (cs.map V.bl) ∧
    SeqAt.shaped (.list (bs.map PyData.bool)) = true ∧ SeqAt.shaped (.list (cs.map PyData.bool)) = true ∧ Q (.bl (!PyData.eqv (.list (bs.map PyData.bool)) (.list (cs.map PyData.bool)))) H) := by
  subst hK
  intro pins s σ H x y v u Q I rx ry h
  obtain ⟨p, q, bs, cs, rfl, rfl, h1, h2, sd, se, hq⟩ := h
  cases (show v = Value.ref p from rx)
  cases (show u = Value.ref q from ry)
  obtain ⟨its, rv, pl, _⟩ := I.list h1
  obtain ⟨o, ho, hc, n, hdd⟩ := pl.isList
  obtain ⟨as, r1⟩ := reads_bools (h := s.heap) rv
  obtain ⟨its2, rv2, pl2, _⟩ := I.list h2
  obtain ⟨o2, ho2, hc2, n2, hdd2⟩ := pl2.isList
  obtain ⟨as2, r2⟩ := reads_bools (h := s.heap) rv2
  exact ne_dataH (reads_list_at ho hc hdd (by simpa using r1)) (reads_list_at ho2 hc2 hdd2 (by simpa using r2)) sd se hu ⟨.bl _, H, I, rfl, hq⟩
end SW
set_option Elab.async false
set_option linter.all false
set_option maxRecDepth 100000
set_option maxHeartbeats 400000
namespace L2
open PySem PySem.Spec PyProof.Rows
section
variable {X : Cx}
end
end L2
set_option Elab.async false
set_option linter.all false
set_option maxRecDepth 100000
set_option maxHeartbeats 4000000
namespace SW
open PySem L2 WM TS
structure Fns (K : PySem.W.Frag) (mg : Str → Option Value) : Prop where
  Wall : ∃ f fd, Df K mg "_wall" sWall ["k"] f fd
  CheckWalk : ∃ f fd, Df K mg "check_walk" sCheckWalk ["walk"] f fd
  IsNumber : ∃ f fd, Df K mg "is_number" sIsNumber ["value"] f fd
  CheckNumber : ∃ f fd, Df K mg "check_number" sCheckNumber ["number"] f fd
  IsPair : ∃ f fd, Df K mg "is_pair" sIsPair ["value"] f fd
  IsClosed : ∃ f fd, Df K mg "is_closed" sIsClosed ["walk"] f fd
  CheckClosed : ∃ f fd, Df K mg "check_closed" sCheckClosed ["walk"] f fd
  Stepped : ∃ f fd, Df K mg "stepped" sStepped ["place", "step"] f fd
  Places : ∃ f fd, Df K mg "places" sPlaces ["walk"] f fd
  CountedPlaces : ∃ f fd, Df K mg "counted_places" sCountedPlaces ["walk"] f fd
  End : ∃ f fd, Df K mg "end" sEnd ["walk"] f fd
  Turned : ∃ f fd, Df K mg "turned" sTurned ["step", "quarters"] f fd
  TakenBack : ∃ f fd, Df K mg "taken_back" sTakenBack ["step"] f fd
  Quartered : ∃ f fd, Df K mg "quartered" sQuartered ["walk", "by"] f fd
  Mirrored : ∃ f fd, Df K mg "mirrored" sMirrored ["walk"] f fd
  Backwards : ∃ f fd, Df K mg "backwards" sBackwards ["walk"] f fd
  Thinned : ∃ f fd, Df K mg "thinned" sThinned ["walk"] f fd
  Begun : ∃ f fd, Df K mg "begun" sBegun ["walk", "by"] f fd
  CheckSquare : ∃ f fd, Df K mg "check_square" sCheckSquare ["square"] f fd
  UprightSteps : ∃ f fd, Df K mg "upright_steps" sUprightSteps ["walk"] f fd
  Around : ∃ f fd, Df K mg "around" sAround ["walk", "square"] f fd
  Area : ∃ f fd, Df K mg "area" sArea ["walk"] f fd
  Between : ∃ f fd, Df K mg "between" sBetween ["one", "other"] f fd
  Squares : ∃ f fd, Df K mg "squares" sSquares ["walk"] f fd
  Meets : ∃ f fd, Df K mg "meets" sMeets ["walk"] f fd
  CheckLoop : ∃ f fd, Df K mg "check_loop" sCheckLoop ["walk"] f fd
  Turns : ∃ f fd, Df K mg "turns" sTurns ["walk"] f fd
  Within : ∃ f fd, Df K mg "within" sWithin ["walk"] f fd
  LawWalkAsked : ∃ f fd, Df K mg "_law_walk_asked" sLawWalkAsked ["_law_which", "_law_more"] f fd
  LawNumberAsked : ∃ f fd, Df K mg "_law_number_asked" sLawNumberAsked ["_law_which", "_law_more"] f fd
  LawOpenAsked : ∃ f fd, Df K mg "_law_open_asked" sLawOpenAsked ["_law_which", "_law_more"] f fd
  LawTold : ∃ f fd, Df K mg "_law_told" sLawTold ["_law_kind", "_law_which", "_law_more"] f fd
structure Bltn (mg : Str → Option Value) : Prop where
  sum : mg "sum" = none
  range : mg "range" = none
  len : mg "len" = none
  zip : mg "zip" = none
  reversed : mg "reversed" = none
  sorted : mg "sorted" = none
  list : mg "list" = none
  tuple : mg "tuple" = none
  enumerate : mg "enumerate" = none
  dict : mg "dict" = none
  ValueError : mg "ValueError" = none
section
variable {P : Program} {w : World} {K : PySem.W.Frag} {mg : Str → Option Value} {base : Heap}
theorem ty_same {H H' : Hp} {v : V} {t : Value} (h : TyOf K H v t) (s : Same H H') : TyOf K H' v t := by
  cases h with
  | non => exact .non
  | bl x => exact .bl x
  | int i => exact .int i
  | str x => exact .str x
  | flt x => exact .flt x
  | lst e => exact .lst (s _ _ e)
  | frz e => exact .frz (s _ _ e)
  | tup e => exact .tup (s _ _ e)
  | dK e => exact .dK (s _ _ e)
  | dT e => exact .dT (s _ _ e)
  | ins e cl ha hn htk hm => exact .ins (s _ _ e) cl ha hn htk hm
theorem kf_none_str (K : PySem.W.Frag) : PySem.W.kitOne K (.type "NoneType") (.type "str") = some false := by
  unfold PySem.W.kitOne
  rw [if_neg (by decide +kernel)]
  first | rfl | decide +kernel
theorem kf_int_str (K : PySem.W.Frag) : PySem.W.kitOne K (.type "int") (.type "str") = some false := by
  unfold PySem.W.kitOne
  rw [if_neg (by decide +kernel)]
  first | rfl | decide +kernel
theorem kf_list_str (K : PySem.W.Frag) : PySem.W.kitOne K (.type "list") (.type "str") = some false := by
  unfold PySem.W.kitOne
  rw [if_neg (by decide +kernel)]
  first | rfl | decide +kernel
theorem kf_tuple_str (K : PySem.W.Frag) : PySem.W.kitOne K (.type "tuple") (.type "str") = some false := by
  unfold PySem.W.kitOne
  rw [if_neg (by decide +kernel)]
  first | rfl | decide +kernel
theorem kf_none_int (K : PySem.W.Frag) : PySem.W.kitOne K (.type "NoneType") (.type "int") = some false := by
  unfold PySem.W.kitOne
  rw [if_neg (by decide +kernel)]
  first | rfl | decide +kernel
theorem kf_str_int (K : PySem.W.Frag) : PySem.W.kitOne K (.type "str") (.type "int") = some false := by
  unfold PySem.W.kitOne
  rw [if_neg (by decide +kernel)]
  first | rfl | decide +kernel
theorem kf_list_int (K : PySem.W.Frag) : PySem.W.kitOne K (.type "list") (.type "int") = some false := by
  unfold PySem.W.kitOne
  rw [if_neg (by decide +kernel)]
  first | rfl | decide +kernel
theorem kf_tuple_int (K : PySem.W.Frag) : PySem.W.kitOne K (.type "tuple") (.type "int") = some false := by
  unfold PySem.W.kitOne
  rw [if_neg (by decide +kernel)]
  first | rfl | decide +kernel
theorem kf_dict_int (K : PySem.W.Frag) : PySem.W.kitOne K (.type "dict") (.type "int") = some false := by
  unfold PySem.W.kitOne
  rw [if_neg (by decide +kernel)]
  first | rfl | decide +kernel
theorem kf_bool_int (K : PySem.W.Frag) : PySem.W.kitOne K (.type "bool") (.type "int") = some true := by
  unfold PySem.W.kitOne
  rw [if_neg (by decide +kernel)]
  first | rfl | decide +kernel
theorem kf_bool_bool (K : PySem.W.Frag) : PySem.W.kitOne K (.type "bool") (.type "bool") = some true := by
  unfold PySem.W.kitOne
  rw [if_pos (by decide +kernel)]
theorem kf_none_tuple (K : PySem.W.Frag) : PySem.W.kitOne K (.type "NoneType") (.type "tuple") = some false := by
  unfold PySem.W.kitOne
  rw [if_neg (by decide +kernel)]
  first | rfl | decide +kernel
theorem kf_int_tuple (K : PySem.W.Frag) : PySem.W.kitOne K (.type "int") (.type "tuple") = some false := by
  unfold PySem.W.kitOne
  rw [if_neg (by decide +kernel)]
  first | rfl | decide +kernel
theorem kf_list_tuple (K : PySem.W.Frag) : PySem.W.kitOne K (.type "list") (.type "tuple") = some false := by
  unfold PySem.W.kitOne
  rw [if_neg (by decide +kernel)]
  first | rfl | decide +kernel
inductive BadW (K : PySem.W.Frag) (H : Hp) : V → Prop where
  | ty {v : V} {t : Value} : TyOf K H v t → PySem.W.kitOne K t (.type "str") = some false → BadW K H v
  | txt {pre post : List Nat} {c : Nat} : IsW pre → (Builtin.Str.occurrences (T [110, 119, 115, 101]) (T [c]) 0 (T [110, 119, 115, 101]).length 1).isEmpty = true → BadW K H (.str (T (pre ++ c :: post)))
inductive NotNum (K : PySem.W.Frag) (H : Hp) : V → Prop where
  | ty {v : V} {t : Value} : TyOf K H v t → PySem.W.kitOne K t (.type "int") = some false → NotNum K H v
  | bl (b : Bool) : NotNum K H (.bl b)
inductive NotPair (K : PySem.W.Frag) (H : Hp) : V → Prop where
  | ty {v : V} {t : Value} : TyOf K H v t → PySem.W.kitOne K t (.type "tuple") = some false → NotPair K H v
  | len {a : Addr} {xs : List V} : H a = some (.tup xs) → xs.length ≠ 2 → NotPair K H (.ref a)
  | fst {a : Addr} {x y : V} : H a = some (.tup [x, y]) → NotNum K H x → NotPair K H (.ref a)
  | snd {a : Addr} {i : Int} {y : V} : H a = some (.tup [.int i, y]) → NotNum K H y → NotPair K H (.ref a)
theorem BadW.same {H H' : Hp} {v : V} (h : BadW K H v) (s : Same H H') : BadW K H' v := by
  cases h with
  | ty a b => exact .ty (ty_same a s) b
  | txt a b => exact .txt a b
theorem NotNum.same {H H' : Hp} {v : V} (h : NotNum K H v) (s : Same H H') : NotNum K H' v := by
  cases h with
  | ty a b => exact .ty (ty_same a s) b
  | bl b => exact .bl b
theorem NotPair.same {H H' : Hp} {v : V} (h : NotPair K H v) (s : Same H H') : NotPair K H' v := by
  cases h with
  | ty a b => exact .ty (ty_same a s) b
  | len a b => exact .len (s _ _ a) b
  | fst a b => exact .fst (s _ _ a) (b.same s)
  | snd a b => exact .snd (s _ _ a) (b.same s)
structure Errs (K : PySem.W.Frag) (mg : Str → Option Value) (bw bn nc ns we : Addr) : Prop where
  bw : XCls K mg "BadWalk" bw
  bn : XCls K mg "BadNumber" bn
  nc : XCls K mg "NotClosed" nc
  ns : XCls K mg "NotSimple" ns
  we : mg "WalkError" = some (.ref we)
noncomputable def spR1 (D : V → Hp → Addr → Prop) : Sp := fun vs H _ E => ∃ v C, vs = [v] ∧ D v H C ∧ ∀ H', Same H H' → E (.ref C) none H'
noncomputable def spR2 (D : V → V → Hp → Addr → Prop) : Sp := fun vs H _ E => ∃ v u C, vs = [v, u] ∧ D v u H C ∧ ∀ H', Same H H' → E (.ref C) none H'
theorem spR1.len {D : V → Hp → Addr → Prop} {vs : List V} {H : Hp} {Q : VK} {E : XK} (h : spR1 D vs H Q E) : vs.length = 1 := by
  obtain ⟨v, C, rfl, _⟩ := h
  rfl
theorem spR2.len {D : V → V → Hp → Addr → Prop} {vs : List V} {H : Hp} {Q : VK} {E : XK} (h : spR2 D vs H Q E) : vs.length = 2 := by
  obtain ⟨v, u, C, rfl, _⟩ := h
  rfl
noncomputable def dW (K : PySem.W.Frag) (bw : Addr) : V → Hp → Addr → Prop := fun v H C => C = bw ∧ BadW K H v
noncomputable def dZ (K : PySem.W.Frag) (bw nc : Addr) : V → Hp → Addr → Prop := fun v H C => dW K bw v H C ∨ (C = nc ∧ ∃ l, v = .str (T l) ∧ IsW l ∧ posOf l ≠ (0, 0))
noncomputable def dL (K : PySem.W.Frag) (bw nc ns : Addr) : V → Hp → Addr → Prop := fun v H C => dZ K bw nc v H C ∨ (C = ns ∧ ∃ l, v = .str (T l) ∧ IsW l ∧ l.length ≤ 1000 ∧ posOf l = (0, 0) ∧ (l.length < 4 ∨ ¬ (cntP l).Nodup))
noncomputable def dN (K : PySem.W.Frag) (bn : Addr) : V → Hp → Addr → Prop := fun v H C => C = bn ∧ NotNum K H v
noncomputable def dS (K : PySem.W.Frag) (bn : Addr) : V → Hp → Addr → Prop := fun v H C => C = bn ∧ NotPair K H v
theorem one_le : 1 ≤ sizeLine := by decide
variable {bw bn nc ns we : Addr}
theorem rz_check_walk {f : Addr} {fd : FuncData} (F : Df K mg "check_walk" sCheckWalk ["walk"] f fd) (X : Txt K mg) (O : Errs K mg bw bn nc ns we) : FnOk P w K mg base (CXW P w) 1 f fd ["walk"] (spR1 (dW K bw)) := by
  obtain ⟨tl, hlw⟩ := X.lw
  refine F.fn.okW scCheckWalk (fun vs H Q E h => h.len) (fun cdv A outer s H vs Q E hr h => ?_)
  obtain ⟨v, C, rfl, ⟨rfl, hb⟩, k⟩ := h
  refine ⟨_, pss_cons (ps_if (pt_not (pt_val (pe_callB call_isT rfl X.isi PyProof.Rows.boot_isinstance (pa_cons (pv 0) (pa_cons (pe_bltn rfl X.str PyProof.Rows.boot_str (v := .ty "str") rfl) pa_nil))))) (pss_one (ps_raise O.bw raiseW rfl rfl (pa_cons pe_str pa_nil))) pss_nil)
    (pss_one (ps_for PassesOwn.leaving rfl (pi_str (pv 0)) (pg_name (i := 1) scCheckWalk.nd rfl (Or.inl rfl))
      (pss_one (ps_if (pt_cmpR op_notin_str (pv 1) (pe_glob rfl hlw (v := .str (T [110, 119, 115, 101])) ⟨tl, by rw [lit_nwse]⟩) (by with_unfolding_all rfl)) (pss_one (ps_raise O.bw raiseW rfl rfl (pa_cons pe_str pa_nil))) pss_nil)))), ?_⟩
  cases hb with
  | ty a b =>
    refine ⟨_, rfl, _, _, _, false, rfl, a, b, _, rfl, ?_⟩
    refine iteT ?_
    exact ⟨one_le, k H (Same.refl H)⟩
  | @txt pre post c hp hc =>
    refine ⟨_, rfl, _, _, _, true, rfl, .str _, kit_str K, _, rfl, ?_⟩
    refine iteF ?_
    refine ⟨_, rfl, pre ++ c :: post, rfl, for_str (l := pre ++ c :: post) (fun i σ H' => i ≤ pre.length ∧ (∃ v, σ = [some (.str (T (pre ++ c :: post))), v]) ∧ H' = H) ⟨Nat.zero_le _, ⟨_, rfl⟩, rfl⟩ ?_ ?_⟩
    · rintro i d σ H' hd ⟨hi, ⟨v, rfl⟩, rfl⟩
      refine ⟨_, rfl, _, _, rfl, rfl, _, rfl, ?_⟩
      by_cases hlt : i < pre.length
      · rw [List.getElem?_append_left hlt] at hd
        rw [occ_in (hp d (List.mem_of_getElem? hd))]
        refine iteF ?_
        exact ⟨hlt, ⟨_, rfl⟩, rfl⟩
      · have e : i = pre.length := by omega
        rw [List.getElem?_append_right (by omega), e, Nat.sub_self] at hd
        obtain rfl : c = d := by simpa using hd
        rw [hc]
        refine iteT ?_
        exact ⟨one_le, k _ (Same.refl _)⟩
    · rintro σ H' ⟨hi, _⟩
      rw [List.length_append, List.length_cons] at hi
      omega
noncomputable def spNoNum (K : PySem.W.Frag) : Sp := fun vs H Q _ => ∃ v, vs = [v] ∧ NotNum K H v ∧ Q (.bl false) H
theorem ok_no_number {f : Addr} {fd : FuncData} (F : Df K mg "is_number" sIsNumber ["value"] f fd) (X : Txt K mg) : FnOk P w K mg base CX0 1 f fd ["value"] (spNoNum K) := by
  refine F.fn.ok scIsNumber (fun vs H Q E h => ?_) (fun cdv A outer s H vs Q E hr h => ?_)
  · obtain ⟨i, rfl, _⟩ := h
    rfl
  · obtain ⟨v, rfl, hn, k⟩ := h
    refine ⟨_, pss_one (ps_ret (pe_and (pe_callB call_isT rfl X.isi PyProof.Rows.boot_isinstance (pa_cons (pv 0) (pa_cons (pe_bltn rfl X.int PyProof.Rows.boot_int (v := .ty "int") rfl) pa_nil)))
      (pe_one (pe_not (pe_callB call_isT rfl X.isi PyProof.Rows.boot_isinstance (pa_cons (pv 0) (pa_cons (pe_bltn rfl X.bool PyProof.Rows.boot_bool (v := .ty "bool") rfl) pa_nil))))))), ?_⟩
    cases hn with
    | ty a b =>
      refine ⟨_, rfl, _, _, _, false, rfl, a, b, ?_⟩
      refine ⟨_, rfl, ?_⟩
      refine iteF ?_
      exact k
    | bl b =>
      refine ⟨_, rfl, _, _, _, true, rfl, .bl b, kf_bool_int K, ?_⟩
      refine ⟨_, rfl, ?_⟩
      refine iteT ?_
      refine ⟨_, rfl, _, _, _, true, rfl, .bl b, kf_bool_bool K, _, rfl, ?_⟩
      exact k
theorem rz_check_number {f fN : Addr} {fd fdN : FuncData} (F : Df K mg "check_number" sCheckNumber ["number"] f fd) (X : Txt K mg) (O : Errs K mg bw bn nc ns we) (N : Df K mg "is_number" sIsNumber ["value"] fN fdN) : FnOk P w K mg base (CXW P w) 2 f fd ["number"] (spR1 (dN K bn)) := by
  have GN : FnOk P w K mg base CX0 1 fN fdN ["value"] (spNoNum K) := ok_no_number N X
  refine F.fn.okW scCheckNumber (fun vs H Q E h => h.len) (fun cdv A outer s H vs Q E hr h => ?_)
  obtain ⟨v, C, rfl, ⟨rfl, hn⟩, k⟩ := h
  refine ⟨_, pss_one (ps_if (pt_not (pt_val (pe_call GN hr rfl N.at_ N.fn.kp N.bi .nil pass0 (pa_cons (pv 0) pa_nil)))) (pss_one (ps_raise O.bn raiseW rfl rfl (pa_cons pe_str pa_nil))) pss_nil), ?_⟩
  refine ⟨_, rfl, v, rfl, hn, _, rfl, ?_⟩
  refine iteT ?_
  exact ⟨one_le, k H (Same.refl H)⟩
noncomputable def spNoPair (K : PySem.W.Frag) : Sp := fun vs H Q _ => ∃ v, vs = [v] ∧ NotPair K H v ∧ Q (.bl false) H
theorem ok_no_pair {f fN : Addr} {fd fdN : FuncData} (F : Df K mg "is_pair" sIsPair ["value"] f fd) (X : Txt K mg) (htup : mg "tuple" = none) (hlen : mg "len" = none) (N : Df K mg "is_number" sIsNumber ["value"] fN fdN) : FnOk P w K mg base CX0 2 f fd ["value"] (spNoPair K) := by
  have GY : FnOk P w K mg base CX0 1 fN fdN ["value"] spIsNumber := ok_is_number N X
  have GN : FnOk P w K mg base CX0 1 fN fdN ["value"] (spNoNum K) := ok_no_number N X
  refine F.fn.ok scIsPair (fun vs H Q E h => ?_) (fun cdv A outer s H vs Q E hr h => ?_)
  · obtain ⟨i, rfl, _⟩ := h
    rfl
  · obtain ⟨v, rfl, hn, k⟩ := h
    cases hn with
    | ty a b =>
      refine ⟨_, pss_one (ps_ret (pe_and (pe_callB call_isT rfl X.isi PyProof.Rows.boot_isinstance (pa_cons (pv 0) (pa_cons (pe_bltn rfl htup PyProof.Rows.boot_tuple (v := .ty "tuple") rfl) pa_nil))) peN)), ?_⟩
      refine ⟨_, rfl, _, _, _, false, rfl, a, b, _, rfl, ?_⟩
      refine iteF ?_
      exact k
    | @len a xs ha hz =>
      refine ⟨_, pss_one (ps_ret (pe_and (pe_callB call_isT rfl X.isi PyProof.Rows.boot_isinstance (pa_cons (pv 0) (pa_cons (pe_bltn rfl htup PyProof.Rows.boot_tuple (v := .ty "tuple") rfl) pa_nil)))
        (pe_and (pe_cmpR op_eq (pe_callB call_len_seq rfl hlen PySem.boot_len (pa_cons (pv 0) pa_nil)) pe_int (nomark _)) peN))), ?_⟩
      refine ⟨_, rfl, _, _, _, true, rfl, .tup ha, kit_tuple K, _, rfl, ?_⟩
      refine iteT ?_
      refine ⟨_, rfl, a, _, rfl, .inr (SqT.of ha), rfl, _, rfl, ?_⟩
      refine ite2 (fun h => ?_) fun _ => k
      have := V.int.inj (of_decide_eq_true h)
      exact hz (by omega)
    | @fst a x y ha hx =>
      have a0 : atI [x, y] 0 = some x := atI_nat (j := 0) rfl
      refine ⟨_, pss_one (ps_ret (pe_and (pe_callB call_isT rfl X.isi PyProof.Rows.boot_isinstance (pa_cons (pv 0) (pa_cons (pe_bltn rfl htup PyProof.Rows.boot_tuple (v := .ty "tuple") rfl) pa_nil)))
        (pe_and (pe_cmpR op_eq (pe_callB call_len_seq rfl hlen PySem.boot_len (pa_cons (pv 0) pa_nil)) pe_int (nomark _))
        (pe_and (pe_call GN hr rfl N.at_ N.fn.kp N.bi .nil pass0 (pa_cons (pe_ix ix_tup (pv 0) pe_int (fun _ _ => rfl)) pa_nil)) peN)))), ?_⟩
      refine ⟨_, rfl, _, _, _, true, rfl, .tup ha, kit_tuple K, _, rfl, ?_⟩
      refine iteT ?_
      refine ⟨_, rfl, a, _, rfl, .inr (SqT.of ha), rfl, _, rfl, ?_⟩
      refine iteT ?_
      refine ⟨_, rfl, _, _, _, _, rfl, rfl, SqT.of ha, a0, _, rfl, hx, _, rfl, ?_⟩
      refine iteF ?_
      exact k
    | @snd a i y ha hy =>
      have a0 : atI [V.int i, y] 0 = some (.int i) := atI_nat (j := 0) rfl
      have a1 : atI [V.int i, y] 1 = some y := atI_nat (j := 1) rfl
      refine ⟨_, pss_one (ps_ret (pe_and (pe_callB call_isT rfl X.isi PyProof.Rows.boot_isinstance (pa_cons (pv 0) (pa_cons (pe_bltn rfl htup PyProof.Rows.boot_tuple (v := .ty "tuple") rfl) pa_nil)))
        (pe_and (pe_cmpR op_eq (pe_callB call_len_seq rfl hlen PySem.boot_len (pa_cons (pv 0) pa_nil)) pe_int (nomark _))
        (pe_and (pe_call GY hr rfl N.at_ N.fn.kp N.bi .nil pass0 (pa_cons (pe_ix ix_tup (pv 0) pe_int (fun _ _ => rfl)) pa_nil))
        (pe_one (pe_call GN hr rfl N.at_ N.fn.kp N.bi .nil pass0 (pa_cons (pe_ix ix_tup (pv 0) pe_int (fun _ _ => rfl)) pa_nil))))))), ?_⟩
      refine ⟨_, rfl, _, _, _, true, rfl, .tup ha, kit_tuple K, _, rfl, ?_⟩
      refine iteT ?_
      refine ⟨_, rfl, a, _, rfl, .inr (SqT.of ha), rfl, _, rfl, ?_⟩
      refine iteT ?_
      refine ⟨_, rfl, _, _, _, _, rfl, rfl, SqT.of ha, a0, _, rfl, _, rfl, ?_⟩
      refine iteT ?_
      exact ⟨_, rfl, _, _, _, _, rfl, rfl, SqT.of ha, a1, _, rfl, hy, k⟩
theorem rz_check_square {f fP fN : Addr} {fd fdP fdN : FuncData} (F : Df K mg "check_square" sCheckSquare ["square"] f fd) (X : Txt K mg) (O : Errs K mg bw bn nc ns we) (htup : mg "tuple" = none) (hlen : mg "len" = none) (Ip : Df K mg "is_pair" sIsPair ["value"] fP fdP) (N : Df K mg "is_number" sIsNumber ["value"] fN fdN) :
    FnOk P w K mg base (CXW P w) 3 f fd ["square"] (spR1 (dS K bn)) := by
  have GP : FnOk P w K mg base CX0 2 fP fdP ["value"] (spNoPair K) := ok_no_pair Ip X htup hlen N
  refine F.fn.okW scCheckSquare (fun vs H Q E h => h.len) (fun cdv A outer s H vs Q E hr h => ?_)
  obtain ⟨v, C, rfl, ⟨rfl, hn⟩, k⟩ := h
  refine ⟨_, pss_one (ps_if (pt_not (pt_val (pe_call GP hr rfl Ip.at_ Ip.fn.kp Ip.bi .nil pass0 (pa_cons (pv 0) pa_nil)))) (pss_one (ps_raise O.bn raiseW rfl rfl (pa_cons pe_str pa_nil))) pss_nil), ?_⟩
  refine ⟨_, rfl, v, rfl, hn, _, rfl, ?_⟩
  refine iteT ?_
  exact ⟨one_le, k H (Same.refl H)⟩
section
variable {fC f : Addr} {fdC fd : FuncData} (C : Df K mg "check_walk" sCheckWalk ["walk"] fC fdC) (GC : FnOk P w K mg base (CXW P w) 1 fC fdC ["walk"] (spR1 (dW K bw)))
include C GC
theorem rz_places (F : Df K mg "places" sPlaces ["walk"] f fd) : FnOk P w K mg base (CXW P w) 2 f fd ["walk"] (spR1 (dW K bw)) := by
  refine F.fn.okW scPlaces (fun vs H Q E h => h.len) (fun cdv A outer s H vs Q E hr h => ?_)
  obtain ⟨v, D, rfl, hd, k⟩ := h
  exact ⟨_, pss_cons (ps_expr (pe_call GC (hr.mono (by decide)) rfl C.at_ C.fn.kp C.bi .nil passW (pa_cons (pv 0) pa_nil))) pss_never, ⟨_, rfl, v, D, rfl, hd, k⟩⟩
theorem rz_end (F : Df K mg "end" sEnd ["walk"] f fd) : FnOk P w K mg base (CXW P w) 2 f fd ["walk"] (spR1 (dW K bw)) := by
  refine F.fn.okW scEnd (fun vs H Q E h => h.len) (fun cdv A outer s H vs Q E hr h => ?_)
  obtain ⟨v, D, rfl, hd, k⟩ := h
  exact ⟨_, pss_cons (ps_expr (pe_call GC (hr.mono (by decide)) rfl C.at_ C.fn.kp C.bi .nil passW (pa_cons (pv 0) pa_nil))) pss_never, ⟨_, rfl, v, D, rfl, hd, k⟩⟩
theorem rz_mirrored (F : Df K mg "mirrored" sMirrored ["walk"] f fd) : FnOk P w K mg base (CXW P w) 2 f fd ["walk"] (spR1 (dW K bw)) := by
  refine F.fn.okW scMirrored (fun vs H Q E h => h.len) (fun cdv A outer s H vs Q E hr h => ?_)
  obtain ⟨v, D, rfl, hd, k⟩ := h
  exact ⟨_, pss_cons (ps_expr (pe_call GC (hr.mono (by decide)) rfl C.at_ C.fn.kp C.bi .nil passW (pa_cons (pv 0) pa_nil))) pss_never, ⟨_, rfl, v, D, rfl, hd, k⟩⟩
theorem rz_backwards (F : Df K mg "backwards" sBackwards ["walk"] f fd) : FnOk P w K mg base (CXW P w) 2 f fd ["walk"] (spR1 (dW K bw)) := by
  refine F.fn.okW scBackwards (fun vs H Q E h => h.len) (fun cdv A outer s H vs Q E hr h => ?_)
  obtain ⟨v, D, rfl, hd, k⟩ := h
  exact ⟨_, pss_cons (ps_expr (pe_call GC (hr.mono (by decide)) rfl C.at_ C.fn.kp C.bi .nil passW (pa_cons (pv 0) pa_nil))) pss_never, ⟨_, rfl, v, D, rfl, hd, k⟩⟩
theorem rz_thinned (F : Df K mg "thinned" sThinned ["walk"] f fd) : FnOk P w K mg base (CXW P w) 2 f fd ["walk"] (spR1 (dW K bw)) := by
  refine F.fn.okW scThinned (fun vs H Q E h => h.len) (fun cdv A outer s H vs Q E hr h => ?_)
  obtain ⟨v, D, rfl, hd, k⟩ := h
  exact ⟨_, pss_cons (ps_expr (pe_call GC (hr.mono (by decide)) rfl C.at_ C.fn.kp C.bi .nil passW (pa_cons (pv 0) pa_nil))) pss_never, ⟨_, rfl, v, D, rfl, hd, k⟩⟩
end
theorem rz_counted_places {f fP : Addr} {fd fdP : FuncData} (F : Df K mg "counted_places" sCountedPlaces ["walk"] f fd) (Pl : Df K mg "places" sPlaces ["walk"] fP fdP) (GP : FnOk P w K mg base (CXW P w) 2 fP fdP ["walk"] (spR1 (dW K bw))) : FnOk P w K mg base (CXW P w) 3 f fd ["walk"] (spR1 (dW K bw)) := by
  refine F.fn.okW scCountedPlaces (fun vs H Q E h => h.len) (fun cdv A outer s H vs Q E hr h => ?_)
  obtain ⟨v, D, rfl, hd, k⟩ := h
  exact ⟨_, pss_cons (ps_set (i := 1) scCountedPlaces.nd rfl (Or.inl rfl) (pe_call GP hr rfl Pl.at_ Pl.fn.kp Pl.bi .nil passW (pa_cons (pv 0) pa_nil))) pss_never, ⟨_, rfl, v, D, rfl, hd, k⟩⟩
theorem rz_meets {f fC : Addr} {fd fdC : FuncData} (F : Df K mg "meets" sMeets ["walk"] f fd) (henu : mg "enumerate" = none) (Cp : Df K mg "counted_places" sCountedPlaces ["walk"] fC fdC) (GC : FnOk P w K mg base (CXW P w) 3 fC fdC ["walk"] (spR1 (dW K bw))) : FnOk P w K mg base (CXW P w) 4 f fd ["walk"] (spR1 (dW K bw)) := by
  refine F.fn.okW scMeets (fun vs H Q E h => h.len) (fun cdv A outer s H vs Q E hr h => ?_)
  obtain ⟨v, D, rfl, ⟨rfl, hd⟩, k⟩ := h
  refine ⟨_, pss_cons (ps_set (i := 1) scMeets.nd rfl (Or.inl rfl) pe_dnewT)
    (pss_cons (ps_for PassesOwn.leaving rfl (pi_enumL rfl henu (pa_cons (pe_call GC hr rfl Cp.at_ Cp.fn.kp Cp.bi .nil passW (pa_cons (pv 0) pa_nil)) pa_nil)) (pg_tup (n := 2) rfl (pgs_cons (pg_name (i := 2) scMeets.nd rfl (Or.inl rfl)) (pgs_cons (pg_name (i := 3) scMeets.nd rfl (Or.inl rfl)) pgs_nil))) pss_never) pss_never), ?_⟩
  intro m hm
  have s0 : Same H (upd H m (.dT [])) := same_new hm
  exact ⟨_, rfl, v, _, rfl, ⟨rfl, hd.same s0⟩, fun H' s' => k H' (s0.trans s')⟩
theorem rz_is_closed {f fE : Addr} {fd fdE : FuncData} (F : Df K mg "is_closed" sIsClosed ["walk"] f fd) (En : Df K mg "end" sEnd ["walk"] fE fdE) (GE : FnOk P w K mg base (CXW P w) 2 fE fdE ["walk"] (spR1 (dW K bw))) : FnOk P w K mg base (CXW P w) 3 f fd ["walk"] (spR1 (dW K bw)) := by
  refine F.fn.okW scIsClosed (fun vs H Q E h => h.len) (fun cdv A outer s H vs Q E hr h => ?_)
  obtain ⟨v, D, rfl, hd, k⟩ := h
  exact ⟨_, pss_one (ps_ret (pe_cmpR (op_eqD hr.units) (pe_call GE hr rfl En.at_ En.fn.kp En.bi .nil passW (pa_cons (pv 0) pa_nil)) peN (nomark _))), ⟨_, rfl, v, D, rfl, hd, k⟩⟩
theorem rz_check_closed {f fI : Addr} {fd fdI : FuncData} (F : Df K mg "check_closed" sCheckClosed ["walk"] f fd) (O : Errs K mg bw bn nc ns we) (I : Df K mg "is_closed" sIsClosed ["walk"] fI fdI) (GI : FnOk P w K mg base CX0 3 fI fdI ["walk"] spIsClosed) (RI : FnOk P w K mg base (CXW P w) 3 fI fdI ["walk"] (spR1 (dW K bw))) :
    FnOk P w K mg base (CXW P w) 4 f fd ["walk"] (spR1 (dZ K bw nc)) := by
  refine F.fn.okW scCheckClosed (fun vs H Q E h => h.len) (fun cdv A outer s H vs Q E hr h => ?_)
  obtain ⟨v, D, rfl, hd, k⟩ := h
  rcases hd with hd | ⟨rfl, l, rfl, hl, h0⟩
  · exact ⟨_, pss_one (ps_if (pt_not (pt_val (pe_call RI hr rfl I.at_ I.fn.kp I.bi .nil passW (pa_cons (pv 0) pa_nil)))) pss_never pss_nil), ⟨_, rfl, v, D, rfl, hd, k⟩⟩
  · refine ⟨_, pss_one (ps_if (pt_not (pt_val (pe_call GI hr rfl I.at_ I.fn.kp I.bi .nil pass0 (pa_cons (pv 0) pa_nil)))) (pss_one (ps_raise O.nc raiseW rfl rfl (pa_cons pe_str pa_nil))) pss_nil), ?_⟩
    refine ⟨_, rfl, l, rfl, hl, fun H1 s1 => ⟨_, rfl, ?_⟩⟩
    rw [decide_eq_false h0]
    refine iteT ?_
    exact ⟨one_le, k H1 s1⟩
theorem rz_area {f fZ : Addr} {fd fdZ : FuncData} (F : Df K mg "area" sArea ["walk"] f fd) (Z : Df K mg "check_closed" sCheckClosed ["walk"] fZ fdZ) (RZ : FnOk P w K mg base (CXW P w) 4 fZ fdZ ["walk"] (spR1 (dZ K bw nc))) : FnOk P w K mg base (CXW P w) 5 f fd ["walk"] (spR1 (dZ K bw nc)) := by
  refine F.fn.okW scArea (fun vs H Q E h => h.len) (fun cdv A outer s H vs Q E hr h => ?_)
  obtain ⟨v, D, rfl, hd, k⟩ := h
  exact ⟨_, pss_cons (ps_expr (pe_call RZ hr rfl Z.at_ Z.fn.kp Z.bi .nil passW (pa_cons (pv 0) pa_nil))) pss_never, ⟨_, rfl, v, D, rfl, hd, k⟩⟩
theorem rz_squares {f fZ : Addr} {fd fdZ : FuncData} (F : Df K mg "squares" sSquares ["walk"] f fd) (Z : Df K mg "check_closed" sCheckClosed ["walk"] fZ fdZ) (RZ : FnOk P w K mg base (CXW P w) 4 fZ fdZ ["walk"] (spR1 (dZ K bw nc))) : FnOk P w K mg base (CXW P w) 5 f fd ["walk"] (spR1 (dZ K bw nc)) := by
  refine F.fn.okW scSquares (fun vs H Q E h => h.len) (fun cdv A outer s H vs Q E hr h => ?_)
  obtain ⟨v, D, rfl, hd, k⟩ := h
  exact ⟨_, pss_cons (ps_expr (pe_call RZ hr rfl Z.at_ Z.fn.kp Z.bi .nil passW (pa_cons (pv 0) pa_nil))) pss_never, ⟨_, rfl, v, D, rfl, hd, k⟩⟩
noncomputable def dB (K : PySem.W.Frag) (bw bn nc : Addr) : V → V → Hp → Addr → Prop := fun v u H C => dZ K bw nc v H C ∨ (C = bn ∧ (∃ l, v = .str (T l) ∧ IsW l ∧ posOf l = (0, 0)) ∧ NotNum K H u)
noncomputable def dA (K : PySem.W.Frag) (bw bn nc : Addr) : V → V → Hp → Addr → Prop := fun v u H C => dZ K bw nc v H C ∨ (C = bn ∧ (∃ l, v = .str (T l) ∧ IsW l ∧ posOf l = (0, 0)) ∧ NotPair K H u)
noncomputable def dQ (K : PySem.W.Frag) (bw bn : Addr) : V → V → Hp → Addr → Prop := fun v u H C => dW K bw v H C ∨ (C = bn ∧ (∃ l, v = .str (T l) ∧ IsW l) ∧ NotNum K H u)
noncomputable def dT (K : PySem.W.Frag) (bw nc : Addr) : V → V → Hp → Addr → Prop := fun v u H C => dW K bw v H C ∨ (dW K bw u H C ∧ ∃ l, v = .str (T l) ∧ IsW l) ∨ (C = nc ∧ ∃ l m, v = .str (T l) ∧ u = .str (T m) ∧ IsW l ∧ IsW m ∧ posOf l ≠ posOf m)
theorem rz_begun {f fZ fN : Addr} {fd fdZ fdN : FuncData} (F : Df K mg "begun" sBegun ["walk", "by"] f fd) (Z : Df K mg "check_closed" sCheckClosed ["walk"] fZ fdZ) (GZ : FnOk P w K mg base CX0 4 fZ fdZ ["walk"] spCheckClosed) (RZ : FnOk P w K mg base (CXW P w) 4 fZ fdZ ["walk"] (spR1 (dZ K bw nc)))
    (N : Df K mg "check_number" sCheckNumber ["number"] fN fdN) (RN : FnOk P w K mg base (CXW P w) 2 fN fdN ["number"] (spR1 (dN K bn))) : FnOk P w K mg base (CXW P w) 5 f fd ["walk", "by"] (spR2 (dB K bw bn nc)) := by
  refine F.fn.okW scBegun (fun vs H Q E h => h.len) (fun cdv A outer s H vs Q E hr h => ?_)
  obtain ⟨v, u, D, rfl, hd, k⟩ := h
  rcases hd with hd | ⟨rfl, ⟨l, rfl, hl, h0⟩, hu⟩
  · exact ⟨_, pss_cons (ps_expr (pe_call RZ hr rfl Z.at_ Z.fn.kp Z.bi .nil passW (pa_cons (pv 0) pa_nil))) pss_never, ⟨_, rfl, v, D, rfl, hd, k⟩⟩
  · refine ⟨_, pss_cons (ps_expr (pe_call GZ hr rfl Z.at_ Z.fn.kp Z.bi .nil pass0 (pa_cons (pv 0) pa_nil))) (pss_cons (ps_expr (pe_call RN (hr.mono (by decide)) rfl N.at_ N.fn.kp N.bi .nil passW (pa_cons (pv 1) pa_nil))) pss_never), ?_⟩
    exact ⟨_, rfl, l, rfl, hl, h0, fun H1 s1 => ⟨_, rfl, u, _, rfl, ⟨rfl, hu.same s1⟩, fun H' s' => k H' (s1.trans s')⟩⟩
theorem rz_around {f fZ fS : Addr} {fd fdZ fdS : FuncData} (F : Df K mg "around" sAround ["walk", "square"] f fd) (Z : Df K mg "check_closed" sCheckClosed ["walk"] fZ fdZ) (GZ : FnOk P w K mg base CX0 4 fZ fdZ ["walk"] spCheckClosed) (RZ : FnOk P w K mg base (CXW P w) 4 fZ fdZ ["walk"] (spR1 (dZ K bw nc)))
    (S : Df K mg "check_square" sCheckSquare ["square"] fS fdS) (RS : FnOk P w K mg base (CXW P w) 3 fS fdS ["square"] (spR1 (dS K bn))) : FnOk P w K mg base (CXW P w) 5 f fd ["walk", "square"] (spR2 (dA K bw bn nc)) := by
  refine F.fn.okW scAround (fun vs H Q E h => h.len) (fun cdv A outer s H vs Q E hr h => ?_)
  obtain ⟨v, u, D, rfl, hd, k⟩ := h
  rcases hd with hd | ⟨rfl, ⟨l, rfl, hl, h0⟩, hu⟩
  · exact ⟨_, pss_cons (ps_expr (pe_call RZ hr rfl Z.at_ Z.fn.kp Z.bi .nil passW (pa_cons (pv 0) pa_nil))) pss_never, ⟨_, rfl, v, D, rfl, hd, k⟩⟩
  · refine ⟨_, pss_cons (ps_expr (pe_call GZ hr rfl Z.at_ Z.fn.kp Z.bi .nil pass0 (pa_cons (pv 0) pa_nil))) (pss_cons (ps_expr (pe_call RS (hr.mono (by decide)) rfl S.at_ S.fn.kp S.bi .nil passW (pa_cons (pv 1) pa_nil))) pss_never), ?_⟩
    exact ⟨_, rfl, l, rfl, hl, h0, fun H1 s1 => ⟨_, rfl, u, _, rfl, ⟨rfl, hu.same s1⟩, fun H' s' => k H' (s1.trans s')⟩⟩
theorem rz_quartered {f fC fN : Addr} {fd fdC fdN : FuncData} (F : Df K mg "quartered" sQuartered ["walk", "by"] f fd) (C : Df K mg "check_walk" sCheckWalk ["walk"] fC fdC) (GC : FnOk P w K mg base CX0 1 fC fdC ["walk"] spCheckWalk) (RC : FnOk P w K mg base (CXW P w) 1 fC fdC ["walk"] (spR1 (dW K bw)))
    (N : Df K mg "check_number" sCheckNumber ["number"] fN fdN) (RN : FnOk P w K mg base (CXW P w) 2 fN fdN ["number"] (spR1 (dN K bn))) : FnOk P w K mg base (CXW P w) 5 f fd ["walk", "by"] (spR2 (dQ K bw bn)) := by
  refine F.fn.okW scQuartered (fun vs H Q E h => h.len) (fun cdv A outer s H vs Q E hr h => ?_)
  obtain ⟨v, u, D, rfl, hd, k⟩ := h
  rcases hd with hd | ⟨rfl, ⟨l, rfl, hl⟩, hu⟩
  · exact ⟨_, pss_cons (ps_expr (pe_call RC (hr.mono (by decide)) rfl C.at_ C.fn.kp C.bi .nil passW (pa_cons (pv 0) pa_nil))) pss_never, ⟨_, rfl, v, D, rfl, hd, k⟩⟩
  · refine ⟨_, pss_cons (ps_expr (pe_call GC (hr.mono (by decide)) rfl C.at_ C.fn.kp C.bi .nil pass0 (pa_cons (pv 0) pa_nil))) (pss_cons (ps_expr (pe_call RN (hr.mono (by decide)) rfl N.at_ N.fn.kp N.bi .nil passW (pa_cons (pv 1) pa_nil))) pss_never), ?_⟩
    exact ⟨_, rfl, l, rfl, hl, ⟨_, rfl, u, _, rfl, ⟨rfl, hu⟩, k⟩⟩
theorem rz_between {f fE : Addr} {fd fdE : FuncData} (F : Df K mg "between" sBetween ["one", "other"] f fd) (O : Errs K mg bw bn nc ns we) (En : Df K mg "end" sEnd ["walk"] fE fdE) (GE : FnOk P w K mg base CX0 2 fE fdE ["walk"] spEnd) (RE : FnOk P w K mg base (CXW P w) 2 fE fdE ["walk"] (spR1 (dW K bw))) :
    FnOk P w K mg base (CXW P w) 5 f fd ["one", "other"] (spR2 (dT K bw nc)) := by
  refine F.fn.okW scBetween (fun vs H Q E h => h.len) (fun cdv A outer s H vs Q E hr h => ?_)
  obtain ⟨v, u, D, rfl, hd, k⟩ := h
  have hr2 : Room 2 _ := hr.mono (by decide)
  rcases hd with hd | ⟨⟨rfl, hd⟩, l, rfl, hl⟩ | ⟨rfl, l, m, rfl, rfl, hl, hm, h0⟩
  · exact ⟨_, pss_cons (ps_if (pt_cmpR (op_neD hr.units) (pe_call RE hr2 rfl En.at_ En.fn.kp En.bi .nil passW (pa_cons (pv 0) pa_nil)) peN (nomark _)) pss_never pss_nil) pss_never, ⟨_, rfl, v, D, rfl, hd, k⟩⟩
  · refine ⟨_, pss_cons (ps_if (pt_cmpR (op_neD hr.units) (pe_call GE hr2 rfl En.at_ En.fn.kp En.bi .nil pass0 (pa_cons (pv 0) pa_nil)) (pe_call RE hr2 rfl En.at_ En.fn.kp En.bi .nil passW (pa_cons (pv 1) pa_nil)) (nomark _)) pss_never pss_nil) pss_never, ?_⟩
    refine ⟨_, rfl, l, rfl, hl, fun b hb => ?_⟩
    have sa := same_new (o := .tup [.int (posOf l).1, .int (posOf l).2]) hb
    exact ⟨_, rfl, u, _, rfl, ⟨rfl, hd.same sa⟩, fun H' s' => k H' (sa.trans s')⟩
  · refine ⟨_, pss_cons (ps_if (pt_cmpR (op_neD hr.units) (pe_call GE hr2 rfl En.at_ En.fn.kp En.bi .nil pass0 (pa_cons (pv 0) pa_nil)) (pe_call GE hr2 rfl En.at_ En.fn.kp En.bi .nil pass0 (pa_cons (pv 1) pa_nil)) (nomark _)) (pss_one (ps_raise O.nc raiseW rfl rfl (pa_cons pe_str pa_nil))) pss_nil) pss_never, ?_⟩
    refine ⟨_, rfl, l, rfl, hl, fun b hb => ?_⟩
    have sa := same_new (o := .tup [.int (posOf l).1, .int (posOf l).2]) hb
    refine ⟨_, rfl, m, rfl, hm, fun c hc => ?_⟩
    have sc := same_new (o := .tup [.int (posOf m).1, .int (posOf m).2]) hc
    refine ⟨_, _, dat_pt (sc _ _ upd_same), dat_pt upd_same, shaped_pt _, shaped_pt _, _, rfl, ?_⟩
    rw [eqv_pt, decide_eq_false h0]
    refine iteT ?_
    exact ⟨one_le, k _ (sa.trans sc)⟩
theorem rz_check_loop {f fZ fM Cs Ct fSI fSS fTI fTS : Addr} {fd fdZ fdM : FuncData} (F : Df K mg "check_loop" sCheckLoop ["walk"] f fd) (X : Txt K mg) (O : Errs K mg bw bn nc ns we) (hlen : mg "len" = none) (Z : Df K mg "check_closed" sCheckClosed ["walk"] fZ fdZ) (GZ : FnOk P w K mg base CX0 4 fZ fdZ ["walk"] spCheckClosed) (RZ : FnOk P w K mg base (CXW P w) 4 fZ fdZ ["walk"] (spR1 (dZ K bw nc)))
    (M : Df K mg "meets" sMeets ["walk"] fM fdM) (GM : FnOk P w K mg base CX0 4 fM fdM ["walk"] (spMeets Cs Ct)) (S : ClT K mg "Simple" Cs fSI fSS) (Tw : ClT K mg "Twice" Ct fTI fTS) (kTS : PySem.W.kitOne K (.ref Ct) (.ref Cs) = some false) : FnOk P w K mg base (CXW P w) 5 f fd ["walk"] (spR1 (dL K bw nc ns)) := by
  refine F.fn.okW scCheckLoop (fun vs H Q E h => h.len) (fun cdv A outer s H vs Q E hr h => ?_)
  obtain ⟨v, D, rfl, hd, k⟩ := h
  have esz : sizeLine = 16777216 := PySem.sizeLine_eq
  rcases hd with hd | ⟨rfl, l, rfl, hl, hz, h0, h4⟩
  · exact ⟨_, pss_cons (ps_expr (pe_call RZ hr rfl Z.at_ Z.fn.kp Z.bi .nil passW (pa_cons (pv 0) pa_nil))) pss_never, ⟨_, rfl, v, D, rfl, hd, k⟩⟩
  · refine ⟨_, pss_cons (ps_expr (pe_call GZ hr rfl Z.at_ Z.fn.kp Z.bi .nil pass0 (pa_cons (pv 0) pa_nil)))
      (pss_one (ps_if (PW.pt (pw_or (pt_cmpR op_lt (pe_callB call_len_str rfl hlen PySem.boot_len (pa_cons (pv 0) pa_nil)) pe_int (nomark _))
        (pw_or1 (pt_not (pt_val (pe_callB call_isC rfl X.isi PyProof.Rows.boot_isinstance (pa_cons (pe_call GM hr rfl M.at_ M.fn.kp M.bi .nil pass0 (pa_cons (pv 0) pa_nil)) (pa_cons (pe_glob rfl S.at_ (v := .ref Cs) rfl) pa_nil)))))))) (pss_one (ps_raise O.ns raiseW rfl rfl (pa_cons pe_str pa_nil))) pss_nil)), ?_⟩
    refine ⟨_, rfl, l, rfl, hl, h0, fun H1 s1 => ?_⟩
    refine ⟨_, rfl, _, rfl, (by rw [T_len]; omega), _, _, rfl, rfl, _, rfl, ?_⟩
    rw [T_len]
    refine ite2 (fun _ => ?_) (fun h => ?_)
    · refine iteT ?_
      exact ⟨one_le, k H1 s1⟩
    · have h5 : ¬ (l.length : Int) < 4 := fun z => h (decide_eq_true z)
      have nd : ¬ (cntP l).Nodup := h4.resolve_left (by omega)
      refine ⟨_, rfl, l, rfl, hl, hz, fun z => absurd z nd, fun i j p H2 hij hj e hp s2 hT => ?_⟩
      obtain ⟨dx, h1⟩ := hT
      refine ⟨_, _, _, false, rfl, Tw.ty h1, kTS, _, rfl, ?_⟩
      refine iteT ?_
      exact ⟨one_le, k H2 (s1.trans s2)⟩
theorem rz_turns {f fL : Addr} {fd fdL : FuncData} (F : Df K mg "turns" sTurns ["walk"] f fd) (L : Df K mg "check_loop" sCheckLoop ["walk"] fL fdL) (RL : FnOk P w K mg base (CXW P w) 5 fL fdL ["walk"] (spR1 (dL K bw nc ns))) : FnOk P w K mg base (CXW P w) 6 f fd ["walk"] (spR1 (dL K bw nc ns)) := by
  refine F.fn.okW scTurns (fun vs H Q E h => h.len) (fun cdv A outer s H vs Q E hr h => ?_)
  obtain ⟨v, D, rfl, hd, k⟩ := h
  exact ⟨_, pss_cons (ps_expr (pe_call RL hr rfl L.at_ L.fn.kp L.bi .nil passW (pa_cons (pv 0) pa_nil))) pss_never, ⟨_, rfl, v, D, rfl, hd, k⟩⟩
theorem rz_within {f fL : Addr} {fd fdL : FuncData} (F : Df K mg "within" sWithin ["walk"] f fd) (L : Df K mg "check_loop" sCheckLoop ["walk"] fL fdL) (RL : FnOk P w K mg base (CXW P w) 5 fL fdL ["walk"] (spR1 (dL K bw nc ns))) : FnOk P w K mg base (CXW P w) 6 f fd ["walk"] (spR1 (dL K bw nc ns)) := by
  refine F.fn.okW scWithin (fun vs H Q E h => h.len) (fun cdv A outer s H vs Q E hr h => ?_)
  obtain ⟨v, D, rfl, hd, k⟩ := h
  exact ⟨_, pss_cons (ps_expr (pe_call RL hr rfl L.at_ L.fn.kp L.bi .nil passW (pa_cons (pv 0) pa_nil))) pss_never, ⟨_, rfl, v, D, rfl, hd, k⟩⟩
theorem lit_N : (Str.ofString "N") = T [78] := by decide +kernel
theorem lit_n_s : (Str.ofString "n s") = T [110, 32, 115] := by decide +kernel
theorem lit_nl : (Str.ofString "n\n") = T [110, 10] := by decide +kernel
theorem lit_x : (Str.ofString "x") = T [120] := by decide +kernel
theorem lit_ne : (Str.ofString "ne") = T [110, 101] := by decide +kernel
theorem lit_nes : (Str.ofString "nes") = T [110, 101, 115] := by decide +kernel
theorem lit_wes : (Str.ofString "wes") = T [119, 101, 115] := by decide +kernel
theorem lit_ns : (Str.ofString "ns") = T [110, 115] := by decide +kernel
noncomputable def reps : Nat → List Nat
  | 0 => []
  | n + 1 => 110 :: 101 :: 115 :: 119 :: reps n
theorem reps_w : ∀ n, IsW (reps n)
  | 0 => fun c h => nomatch h
  | n + 1 => fun c h => by
    rcases List.mem_cons.mp h with rfl | h
    · exact .inl rfl
    rcases List.mem_cons.mp h with rfl | h
    · exact .inr (.inr (.inr rfl))
    rcases List.mem_cons.mp h with rfl | h
    · exact .inr (.inr (.inl rfl))
    rcases List.mem_cons.mp h with rfl | h
    · exact .inr (.inl rfl)
    exact reps_w n c h
theorem mul4 {k : Int} (h0 : 0 ≤ k) (h4 : k < 4) : PySem.MulOk (Str.ofString "nesw") k ∧ PySem.Txt.mul (Str.ofString "nesw") k = T (reps k.toNat) := by
  rcases (by omega : k = 0 ∨ k = 1 ∨ k = 2 ∨ k = 3) with rfl | rfl | rfl | rfl
  · exact ⟨⟨by decide +kernel, by decide +kernel, by decide +kernel⟩, by decide +kernel⟩
  · exact ⟨⟨by decide +kernel, by decide +kernel, by decide +kernel⟩, by decide +kernel⟩
  · exact ⟨⟨by decide +kernel, by decide +kernel, by decide +kernel⟩, by decide +kernel⟩
  · exact ⟨⟨by decide +kernel, by decide +kernel, by decide +kernel⟩, by decide +kernel⟩
theorem lt_at {α : Type} {xs : List α} {P : α → Prop} {d : Int} (h0 : 0 ≤ d) (h1 : d < xs.length) (h : ∀ x ∈ xs, P x) : ∃ x, atI xs d = some x ∧ P x := by
  have h3 : d.toNat < xs.length := by omega
  refine ⟨xs[d.toNat], ?_, h _ (List.getElem_mem h3)⟩
  have := atI_nat (xs := xs) (j := d.toNat) (List.getElem?_eq_getElem h3)
  rw [Int.toNat_of_nonneg h0] at this
  exact this
theorem all_nil {α : Type} {P : α → Prop} : ∀ x ∈ ([] : List α), P x := fun _ h => nomatch h
theorem all_cons {α : Type} {P : α → Prop} {a : α} {l : List α} (h : P a) (r : ∀ x ∈ l, P x) : ∀ x ∈ a :: l, P x := fun x hx => (List.mem_cons.mp hx).elim (fun z => z ▸ h) (r x)
theorem mod_lt (i : Int) {n : Int} (h : 0 < n) : 0 ≤ i % n ∧ i % n < n := ⟨Int.emod_nonneg _ (by omega), Int.emod_lt_of_pos _ h⟩
theorem isW_n : IsW [110] := isW_cons.mpr ⟨.inl rfl, isW_nil⟩
noncomputable def spAsk (C : Addr) : Sp := fun vs H _ E => ∃ i j : Int, vs = [.int i, .int j] ∧ ∀ H', Same H H' → E (.ref C) none H'
theorem spAsk.len {C : Addr} {vs : List V} {H : Hp} {Q : VK} {E : XK} (h : spAsk C vs H Q E) : vs.length = 2 := by
  obtain ⟨i, j, rfl, _⟩ := h
  rfl
theorem door1 {x : Str} {st : Stmt} {f : Addr} {fd : FuncData} {k n : Nat} {D D' : V → Hp → Addr → Prop} {ps : List Str} (d : Df K mg x st ps f fd) (R : FnOk P w K mg base (CXW P w) k f fd ps (spR1 D)) (hk : k ≤ n) (hD : ∀ v H C, D' v H C → D v H C) : Door P w K mg base n (spR1 D') (.ref f) :=
  ⟨f, fd, ps, rfl, (R.mono hk).imp (fun vs H Q E ⟨v, C, e, h, q⟩ => ⟨v, C, e, hD v H C h, q⟩), d.fn.kp, d.bi⟩
theorem door2 {x : Str} {st : Stmt} {f : Addr} {fd : FuncData} {k n : Nat} {D D' : V → V → Hp → Addr → Prop} {ps : List Str} (d : Df K mg x st ps f fd) (R : FnOk P w K mg base (CXW P w) k f fd ps (spR2 D)) (hk : k ≤ n) (hD : ∀ v u H C, D' v u H C → D v u H C) : Door P w K mg base n (spR2 D') (.ref f) :=
  ⟨f, fd, ps, rfl, (R.mono hk).imp (fun vs H Q E ⟨v, u, C, e, h, q⟩ => ⟨v, u, C, e, hD v u H C h, q⟩), d.fn.kp, d.bi⟩
theorem scLawWalkAsked : FnScope ["_law_which", "_law_more", "_law_bad", "_law_door"] ["_law_which", "_law_more"] (defScope sLawWalkAsked) := ⟨rfl, rfl, rfl, by decide +kernel, rfl, by decide +kernel, by decide +kernel⟩
structure Doors (P : Program) (w : World) (K : PySem.W.Frag) (mg : Str → Option Value) (base : Heap) (bw bn nc ns : Addr) : Prop where
  places : ∃ f fd, Df K mg "places" sPlaces ["walk"] f fd ∧ FnOk P w K mg base (CXW P w) 2 f fd ["walk"] (spR1 (dW K bw))
  end_ : ∃ f fd, Df K mg "end" sEnd ["walk"] f fd ∧ FnOk P w K mg base (CXW P w) 2 f fd ["walk"] (spR1 (dW K bw))
  mirrored : ∃ f fd, Df K mg "mirrored" sMirrored ["walk"] f fd ∧ FnOk P w K mg base (CXW P w) 2 f fd ["walk"] (spR1 (dW K bw))
  backwards : ∃ f fd, Df K mg "backwards" sBackwards ["walk"] f fd ∧ FnOk P w K mg base (CXW P w) 2 f fd ["walk"] (spR1 (dW K bw))
  thinned : ∃ f fd, Df K mg "thinned" sThinned ["walk"] f fd ∧ FnOk P w K mg base (CXW P w) 2 f fd ["walk"] (spR1 (dW K bw))
  meets : ∃ f fd, Df K mg "meets" sMeets ["walk"] f fd ∧ FnOk P w K mg base (CXW P w) 4 f fd ["walk"] (spR1 (dW K bw))
  area : ∃ f fd, Df K mg "area" sArea ["walk"] f fd ∧ FnOk P w K mg base (CXW P w) 5 f fd ["walk"] (spR1 (dZ K bw nc))
  squares : ∃ f fd, Df K mg "squares" sSquares ["walk"] f fd ∧ FnOk P w K mg base (CXW P w) 5 f fd ["walk"] (spR1 (dZ K bw nc))
  turns : ∃ f fd, Df K mg "turns" sTurns ["walk"] f fd ∧ FnOk P w K mg base (CXW P w) 6 f fd ["walk"] (spR1 (dL K bw nc ns))
  within : ∃ f fd, Df K mg "within" sWithin ["walk"] f fd ∧ FnOk P w K mg base (CXW P w) 6 f fd ["walk"] (spR1 (dL K bw nc ns))
  quartered : ∃ f fd, Df K mg "quartered" sQuartered ["walk", "by"] f fd ∧ FnOk P w K mg base (CXW P w) 5 f fd ["walk", "by"] (spR2 (dQ K bw bn))
  begun : ∃ f fd, Df K mg "begun" sBegun ["walk", "by"] f fd ∧ FnOk P w K mg base (CXW P w) 5 f fd ["walk", "by"] (spR2 (dB K bw bn nc))
  around : ∃ f fd, Df K mg "around" sAround ["walk", "square"] f fd ∧ FnOk P w K mg base (CXW P w) 5 f fd ["walk", "square"] (spR2 (dA K bw bn nc))
  between : ∃ f fd, Df K mg "between" sBetween ["one", "other"] f fd ∧ FnOk P w K mg base (CXW P w) 5 f fd ["one", "other"] (spR2 (dT K bw nc))
theorem rz_walk_asked {f : Addr} {fd : FuncData} (F : Df K mg "_law_walk_asked" sLawWalkAsked ["_law_which", "_law_more"] f fd) (G : Doors P w K mg base bw bn nc ns) : FnOk P w K mg base (CXW P w) 7 f fd ["_law_which", "_law_more"] (spAsk bw) := by
  obtain ⟨fP, fdP, dP, rP⟩ := G.places
  obtain ⟨fE, fdE, dE, rE⟩ := G.end_
  obtain ⟨fM, fdM, dM, rM⟩ := G.mirrored
  obtain ⟨fB, fdB, dB, rB⟩ := G.backwards
  obtain ⟨fT, fdT, dT, rT⟩ := G.thinned
  obtain ⟨fMe, fdMe, dMe, rMe⟩ := G.meets
  obtain ⟨fA, fdA, dA, rA⟩ := G.area
  obtain ⟨fS, fdS, dS, rS⟩ := G.squares
  obtain ⟨fTu, fdTu, dTu, rTu⟩ := G.turns
  obtain ⟨fW, fdW, dWi, rW⟩ := G.within
  obtain ⟨fQ, fdQ, dQ, rQ⟩ := G.quartered
  obtain ⟨fBe, fdBe, dBe, rBe⟩ := G.begun
  obtain ⟨fAr, fdAr, dAr, rAr⟩ := G.around
  obtain ⟨fBt, fdBt, dBt, rBt⟩ := G.between
  refine okS F.fn scLawWalkAsked (fun vs H Q E h => h.len) (fun cdv A outer s H vs Q E hr h => ?_)
  obtain ⟨i, j, rfl, k⟩ := h
  have esz : sizeLine = 16777216 := PySem.sizeLine_eq
  have hr5 : Room 5 _ := hr.mono (by decide)
  refine ⟨_, pssw_cons (psw_set (i := 2) scLawWalkAsked.nd rfl (Or.inl rfl) (pew_ixL (pew_lst (paw_cons pe_non (paw_cons pe_int (paw_cons (pe_lst (pa_cons pe_str pa_nil)) (paw_cons (pe_tup (pa_cons pe_str (pa_cons pe_str pa_nil)))
      (paw_cons pe_str (paw_cons pe_str (paw_cons pe_str (paw_cons (pe_op op_add_str (pe_op op_repT pe_str (pe_op op_mod (pv 1) pe_int)) pe_str) paw_nil))))))))) (pe_op op_mod (pv 0) pe_int) (fun _ _ => rfl)))
    (pss_cons (ps_set (i := 3) scLawWalkAsked.nd rfl (Or.inl rfl) (pe_op op_mod (pe_op op_fdiv (pv 0) pe_int) pe_int))
    (pss_cons (ps_if (pt_cmpR op_lt (pv 3) pe_int (nomark _)) (pss_one (ps_ret (pe_callE (k := 6) (sp := spR1 (dW K bw)) (pe_ix ix_list (pe_lst (pa_cons (pe_glob rfl dP.at_ (v := .ref fP) rfl) (pa_cons (pe_glob rfl dE.at_ (v := .ref fE) rfl) (pa_cons (pe_glob rfl dM.at_ (v := .ref fM) rfl)
        (pa_cons (pe_glob rfl dB.at_ (v := .ref fB) rfl) (pa_cons (pe_glob rfl dT.at_ (v := .ref fT) rfl) (pa_cons (pe_glob rfl dMe.at_ (v := .ref fMe) rfl) (pa_cons (pe_glob rfl dA.at_ (v := .ref fA) rfl) (pa_cons (pe_glob rfl dS.at_ (v := .ref fS) rfl)
        (pa_cons (pe_glob rfl dTu.at_ (v := .ref fTu) rfl) (pa_cons (pe_glob rfl dWi.at_ (v := .ref fW) rfl) pa_nil))))))))))) (pv 3) (fun _ _ => rfl)) hr passW (pa_cons (pv 2) pa_nil)))) pss_nil)
    (pss_cons (ps_if (pt_cmpR op_lt (pv 3) pe_int (nomark _)) (pss_one (ps_ret (pe_callE (k := 6) (sp := spR2 fun v _ H C => dW K bw v H C) (pe_ix ix_list (pe_lst (pa_cons (pe_glob rfl dQ.at_ (v := .ref fQ) rfl) (pa_cons (pe_glob rfl dBe.at_ (v := .ref fBe) rfl) (pa_cons (pe_glob rfl dAr.at_ (v := .ref fAr) rfl) pa_nil)))) (pe_op op_sub (pv 3) pe_int) (fun _ _ => rfl))
        hr passW (pa_cons (pv 2) (pa_cons pe_non pa_nil))))) pss_nil)
    (pss_one (ps_ret (pe_ifExp (pt_cmpR op_eq (pv 3) pe_int (nomark _)) (pe_call rBt hr5 rfl dBt.at_ dBt.fn.kp dBt.bi .nil passW (pa_cons (pv 2) (pa_cons pe_str pa_nil))) (pe_call rBt hr5 rfl dBt.at_ dBt.fn.kp dBt.bi .nil passW (pa_cons pe_str (pa_cons (pv 2) pa_nil))))))))), ?_⟩
  obtain ⟨m1, m2⟩ := mul4 (mod_lt j (by decide : (0 : Int) < 4)).1 (mod_lt j (by decide : (0 : Int) < 4)).2
  refine ⟨one_le, fun p1 hp1 => ⟨two_le, fun p2 hp2 => ⟨_, rfl, _, _, rfl, rfl, (by show (0 : Int) < 4; decide), _, _, rfl, rfl, m1, _, _, rfl, rfl, ?_, (by show 8 ≤ sizeLine; decide), fun p3 hp3 => ?_⟩⟩⟩
  · rw [m2, T_len, lit_x, T_len]
    rcases (by have := mod_lt j (by decide : (0 : Int) < 4); omega : j % 4 = 0 ∨ j % 4 = 1 ∨ j % 4 = 2 ∨ j % 4 = 3) with e | e | e | e <;> rw [e] <;> decide
  have s1 : Same H _ := same_new (o := .lst [.str (Str.ofString "n")]) hp1
  have s2 : Same _ _ := same_new (o := .tup [.str (Str.ofString "n"), .str (Str.ofString "s")]) hp2
  have t2 : Same H _ := s1.trans s2
  have b1 := s2 p1 _ upd_same
  have b2 : upd (upd H p1 (.lst [.str (Str.ofString "n")])) p2 (.tup [.str (Str.ofString "n"), .str (Str.ofString "s")]) p2 = some (.tup [.str (Str.ofString "n"), .str (Str.ofString "s")]) := upd_same
  generalize upd (upd H p1 (.lst [.str (Str.ofString "n")])) p2 (.tup [.str (Str.ofString "n"), .str (Str.ofString "s")]) = H2 at *
  have all : ∀ x ∈ [V.non, .int 5, .ref p1, .ref p2, .str (Str.ofString "N"), .str (Str.ofString "n s"), .str (Str.ofString "n\n"), .str (PySem.Txt.mul (Str.ofString "nesw") (j % 4) ++ Str.ofString "x")], BadW K H2 x :=
    all_cons (.ty .non (kf_none_str K)) (all_cons (.ty (.int 5) (kf_int_str K)) (all_cons (.ty (.lst b1) (kf_list_str K)) (all_cons (.ty (.tup b2) (kf_tuple_str K))
      (all_cons (by rw [lit_N]; exact .txt (pre := []) (post := []) isW_nil (by decide +kernel)) (all_cons (by rw [lit_n_s]; exact .txt (pre := [110]) (post := [115]) isW_n (by decide +kernel))
      (all_cons (by rw [lit_nl]; exact .txt (pre := [110]) (post := []) isW_n (by decide +kernel)) (all_cons (by rw [m2, lit_x, T_app]; exact .txt (post := []) (reps_w _) (by decide +kernel)) all_nil)))))))
  obtain ⟨v, hat, hbad⟩ := lt_at (mod_lt i (by decide : (0 : Int) < 8)).1 (by exact (mod_lt i (by decide : (0 : Int) < 8)).2) all
  refine ⟨_, rfl, _, _, rfl, rfl, (by show (0 : Int) < 8; decide), p3, _, _, v, rfl, rfl, SqL.of upd_same, hat, ?_⟩
  have s3 := same_new (o := .lst [V.non, .int 5, .ref p1, .ref p2, .str (Str.ofString "N"), .str (Str.ofString "n s"), .str (Str.ofString "n\n"), .str (PySem.Txt.mul (Str.ofString "nesw") (j % 4) ++ Str.ofString "x")]) hp3
  have hb3 := hbad.same s3
  have t3 := t2.trans s3
  change gName 2 v _ (upd H2 p3 (.lst [V.non, .int 5, .ref p1, .ref p2, .str (Str.ofString "N"), .str (Str.ofString "n s"), .str (Str.ofString "n\n"), .str (PySem.Txt.mul (Str.ofString "nesw") (j % 4) ++ Str.ofString "x")])) _
  generalize upd H2 p3 (.lst [V.non, .int 5, .ref p1, .ref p2, .str (Str.ofString "N"), .str (Str.ofString "n s"), .str (Str.ofString "n\n"), .str (PySem.Txt.mul (Str.ofString "nesw") (j % 4) ++ Str.ofString "x")]) = H3 at *
  refine ⟨_, rfl, _, _, rfl, rfl, ⟨by decide, by decide⟩, _, _, rfl, rfl, (by show (0 : Int) < 15; decide), ?_⟩
  obtain ⟨d0, d15⟩ := mod_lt (i / 8) (by decide : (0 : Int) < 15)
  refine ⟨_, rfl, _, _, rfl, rfl, _, rfl, ?_⟩
  refine ite2 (fun h => ?_) (fun h => ?_)
  · have h10 : i / 8 % 15 < 10 := of_decide_eq_true h
    obtain ⟨fv, hat, hD⟩ := lt_at (P := Door P w K mg base 6 (spR1 (dW K bw))) (xs := [V.ref fP, .ref fE, .ref fM, .ref fB, .ref fT, .ref fMe, .ref fA, .ref fS, .ref fTu, .ref fW]) d0 h10
      (all_cons (door1 dP rP (by decide) fun _ _ _ z => z) (all_cons (door1 dE rE (by decide) fun _ _ _ z => z) (all_cons (door1 dM rM (by decide) fun _ _ _ z => z) (all_cons (door1 dB rB (by decide) fun _ _ _ z => z) (all_cons (door1 dT rT (by decide) fun _ _ _ z => z)
        (all_cons (door1 dMe rMe (by decide) fun _ _ _ z => z) (all_cons (door1 dA rA (by decide) fun _ _ _ z => .inl z) (all_cons (door1 dS rS (by decide) fun _ _ _ z => .inl z) (all_cons (door1 dTu rTu (by decide) fun _ _ _ z => .inl (.inl z)) (all_cons (door1 dWi rW (by decide) fun _ _ _ z => .inl (.inl z)) all_nil))))))))))
    refine ⟨(by show 10 ≤ sizeLine; decide), fun p4 hp4 => ?_⟩
    have s4 := same_new (o := .lst [V.ref fP, .ref fE, .ref fM, .ref fB, .ref fT, .ref fMe, .ref fA, .ref fS, .ref fTu, .ref fW]) hp4
    exact ⟨_, rfl, p4, _, _, fv, rfl, rfl, SqL.of upd_same, hat, hD, _, rfl, v, bw, rfl, ⟨rfl, hb3.same s4⟩, fun H' s' => k H' (t3.trans (s4.trans s'))⟩
  refine ⟨_, rfl, _, _, rfl, rfl, _, rfl, ?_⟩
  have h10 : ¬ i / 8 % 15 < 10 := fun z => h (decide_eq_true z)
  refine ite2 (fun h' => ?_) (fun h' => ?_)
  · have h13 : i / 8 % 15 < 13 := of_decide_eq_true h'
    obtain ⟨fv, hat, hD⟩ := lt_at (P := Door P w K mg base 6 (spR2 fun v _ H C => dW K bw v H C)) (xs := [V.ref fQ, .ref fBe, .ref fAr]) (d := i / 8 % 15 - 10) (by omega) (by show i / 8 % 15 - 10 < 3; omega)
      (all_cons (door2 dQ rQ (by decide) fun _ _ _ _ z => .inl z) (all_cons (door2 dBe rBe (by decide) fun _ _ _ _ z => .inl (.inl z)) (all_cons (door2 dAr rAr (by decide) fun _ _ _ _ z => .inl (.inl z)) all_nil)))
    refine ⟨(by show 3 ≤ sizeLine; decide), fun p4 hp4 => ?_⟩
    have s4 := same_new (o := .lst [V.ref fQ, .ref fBe, .ref fAr]) hp4
    exact ⟨_, rfl, _, _, rfl, rfl, p4, _, _, fv, rfl, rfl, SqL.of upd_same, hat, hD, _, rfl, v, .non, bw, rfl, ⟨rfl, hb3.same s4⟩, fun H' s' => k H' (t3.trans (s4.trans s'))⟩
  refine ⟨_, rfl, rfl, _, rfl, ?_⟩
  refine ite2 (fun _ => ?_) (fun _ => ?_)
  · exact ⟨_, rfl, v, _, bw, rfl, .inl ⟨rfl, hb3⟩, fun H' s' => k H' (t3.trans s')⟩
  · exact ⟨_, rfl, _, v, bw, rfl, .inr (.inl ⟨⟨rfl, hb3⟩, [110], by rw [lit_n], isW_n⟩), fun H' s' => k H' (t3.trans s')⟩
theorem scLawNumberAsked : FnScope ["_law_which", "_law_more", "_law_bad", "_law_square"] ["_law_which", "_law_more"] (defScope sLawNumberAsked) := ⟨rfl, rfl, rfl, by decide +kernel, rfl, by decide +kernel, by decide +kernel⟩
theorem isW_ne : IsW [110, 101] := isW_cons.mpr ⟨.inl rfl, isW_cons.mpr ⟨.inr (.inr (.inr rfl)), isW_nil⟩⟩
theorem isW_nesw : IsW [110, 101, 115, 119] := isW_cons.mpr ⟨.inl rfl, isW_cons.mpr ⟨.inr (.inr (.inr rfl)), isW_cons.mpr ⟨.inr (.inr (.inl rfl)), isW_cons.mpr ⟨.inr (.inl rfl), isW_nil⟩⟩⟩⟩
theorem rz_number_asked {f : Addr} {fd : FuncData} (F : Df K mg "_law_number_asked" sLawNumberAsked ["_law_which", "_law_more"] f fd) (G : Doors P w K mg base bw bn nc ns) : FnOk P w K mg base (CXW P w) 7 f fd ["_law_which", "_law_more"] (spAsk bn) := by
  obtain ⟨fQ, fdQ, dQ, rQ⟩ := G.quartered
  obtain ⟨fBe, fdBe, dBe, rBe⟩ := G.begun
  obtain ⟨fAr, fdAr, dAr, rAr⟩ := G.around
  refine okS F.fn scLawNumberAsked (fun vs H Q E h => h.len) (fun cdv A outer s H vs Q E hr h => ?_)
  obtain ⟨i, j, rfl, k⟩ := h
  have hr5 : Room 5 _ := hr.mono (by decide)
  refine ⟨_, pssw_cons (psw_set (i := 2) scLawNumberAsked.nd rfl (Or.inl rfl) (pew_ixL (pew_lst (paw_cons pe_non (paw_cons pe_str (paw_cons pe_bl (paw_cons (pe_lst (pa_cons pe_int pa_nil)) (paw_cons (pe_tup (pa_cons pe_int pa_nil)) (paw_cons pe_dnewK paw_nil)))))))
      (pe_op op_mod (pe_op op_fdiv (pv 0) pe_int) pe_int) (fun _ _ => rfl)))
    (pss_cons (ps_if (pt_cmpR op_eq (pe_op op_mod (pv 0) pe_int) pe_int (nomark _)) (pss_one (ps_ret (pe_call rQ hr5 rfl dQ.at_ dQ.fn.kp dQ.bi .nil passW (pa_cons pe_str (pa_cons (pv 2) pa_nil))))) pss_nil)
    (pss_consW (ps_if (pt_cmpR op_eq (pe_op op_mod (pv 0) pe_int) pe_int (nomark _)) (pss_one (ps_ret (pe_call rBe hr5 rfl dBe.at_ dBe.fn.kp dBe.bi .nil passW (pa_cons pe_str (pa_cons (pv 2) pa_nil))))) pss_nil)
    (pssw_cons (psw_set (i := 3) scLawNumberAsked.nd rfl (Or.inl rfl) (pew_ixL (pew_lst (paw_cons pe_non (paw_cons (pe_tup (pa_cons pe_int pa_nil)) (paw_cons (pe_tup (pa_cons pe_int (pa_cons pe_int (pa_cons pe_int pa_nil)))) (paw_cons (pe_lst (pa_cons pe_int (pa_cons pe_int pa_nil)))
      (paw_cons (pe_tup (pa_cons pe_bl (pa_cons pe_int pa_nil))) (paw_cons (pe_tup (pa_cons pe_int (pa_cons pe_str pa_nil))) (paw_cons pe_int paw_nil)))))))) (pe_op op_mod (pe_op op_fdiv (pv 0) pe_int) pe_int) (fun _ _ => rfl)))
    (pss_one (ps_ret (pe_call rAr hr5 rfl dAr.at_ dAr.fn.kp dAr.bi .nil passW (pa_cons pe_str (pa_cons (pv 3) pa_nil)))))))), ?_⟩
  refine ⟨one_le, fun p1 hp1 => ⟨one_le, fun p2 hp2 => fun p3 hp3 => ⟨(by show 6 ≤ sizeLine; decide), fun p4 hp4 => ?_⟩⟩⟩
  have s1 := same_new (o := .lst [.int 1]) hp1
  have s2 := same_new (o := .tup [.int 1]) hp2
  have s3 := same_new (o := .dK []) hp3
  have t3 : Same H _ := s1.trans (s2.trans s3)
  have b1 := s3 p1 _ (s2 p1 _ upd_same)
  have b2 := s3 p2 _ upd_same
  have b3 : upd (upd (upd H p1 (.lst [.int 1])) p2 (.tup [.int 1])) p3 (.dK []) p3 = some (.dK []) := upd_same
  generalize upd (upd (upd H p1 (.lst [.int 1])) p2 (.tup [.int 1])) p3 (.dK []) = H3 at *
  have all : ∀ x ∈ [V.non, .str (Str.ofString "1"), .bl true, .ref p1, .ref p2, .ref p3], NotNum K H3 x :=
    all_cons (.ty .non (kf_none_int K)) (all_cons (.ty (.str _) (kf_str_int K)) (all_cons (.bl true) (all_cons (.ty (.lst b1) (kf_list_int K)) (all_cons (.ty (.tup b2) (kf_tuple_int K)) (all_cons (.ty (.dK b3) (kf_dict_int K)) all_nil)))))
  obtain ⟨v, hat, hn⟩ := lt_at (mod_lt (i / 3) (by decide : (0 : Int) < 6)).1 (by exact (mod_lt (i / 3) (by decide : (0 : Int) < 6)).2) all
  refine ⟨_, rfl, _, _, rfl, rfl, ⟨by decide, by decide⟩, _, _, rfl, rfl, (by show (0 : Int) < 6; decide), p4, _, _, v, rfl, rfl, SqL.of upd_same, hat, ?_⟩
  have s4 := same_new (o := .lst [V.non, .str (Str.ofString "1"), .bl true, .ref p1, .ref p2, .ref p3]) hp4
  have hn4 := hn.same s4
  have t4 := t3.trans s4
  change gName 2 v _ (upd H3 p4 (.lst [V.non, .str (Str.ofString "1"), .bl true, .ref p1, .ref p2, .ref p3])) _
  generalize upd H3 p4 (.lst [V.non, .str (Str.ofString "1"), .bl true, .ref p1, .ref p2, .ref p3]) = H4 at *
  refine ⟨_, rfl, _, _, rfl, rfl, (by show (0 : Int) < 3; decide), rfl, _, rfl, ?_⟩
  refine ite2 (fun _ => ?_) (fun _ => ?_)
  · exact ⟨_, rfl, _, v, bn, rfl, .inr ⟨rfl, ⟨[110, 101], by rw [lit_ne], isW_ne⟩, hn4⟩, fun H' s' => k H' (t4.trans s')⟩
  refine ⟨_, rfl, _, _, rfl, rfl, (by show (0 : Int) < 3; decide), rfl, _, rfl, ?_⟩
  refine ite2 (fun _ => ?_) (fun _ => ?_)
  · exact ⟨_, rfl, _, v, bn, rfl, .inr ⟨rfl, ⟨[110, 101, 115, 119], by rw [lit_nesw], isW_nesw, by decide⟩, hn4⟩, fun H' s' => k H' (t4.trans s')⟩
  refine ⟨one_le, fun q1 hq1 => ⟨(by show 3 ≤ sizeLine; decide), fun q2 hq2 => ⟨two_le, fun q3 hq3 => ⟨two_le, fun q4 hq4 => ⟨two_le, fun q5 hq5 => ⟨(by show 7 ≤ sizeLine; decide), fun q6 hq6 => ?_⟩⟩⟩⟩⟩⟩
  have r1 := same_new (o := .tup [.int 1]) hq1
  have r2 := same_new (o := .tup [.int 1, .int 2, .int 3]) hq2
  have r3 := same_new (o := .lst [.int 1, .int 2]) hq3
  have r4 := same_new (o := .tup [.bl true, .int 1]) hq4
  have r5 := same_new (o := .tup [.int 1, .str (Str.ofString "2")]) hq5
  have t5 : Same H _ := t4.trans (r1.trans (r2.trans (r3.trans (r4.trans r5))))
  have c1 := r5 q1 _ (r4 q1 _ (r3 q1 _ (r2 q1 _ upd_same)))
  have c2 := r5 q2 _ (r4 q2 _ (r3 q2 _ upd_same))
  have c3 := r5 q3 _ (r4 q3 _ upd_same)
  have c4 := r5 q4 _ upd_same
  have c5 : upd (upd (upd (upd (upd H4 q1 (.tup [.int 1])) q2 (.tup [.int 1, .int 2, .int 3])) q3 (.lst [.int 1, .int 2])) q4 (.tup [.bl true, .int 1])) q5 (.tup [.int 1, .str (Str.ofString "2")]) q5 = some (.tup [.int 1, .str (Str.ofString "2")]) := upd_same
  generalize upd (upd (upd (upd (upd H4 q1 (.tup [.int 1])) q2 (.tup [.int 1, .int 2, .int 3])) q3 (.lst [.int 1, .int 2])) q4 (.tup [.bl true, .int 1])) q5 (.tup [.int 1, .str (Str.ofString "2")]) = H5 at *
  have all2 : ∀ x ∈ [V.non, .ref q1, .ref q2, .ref q3, .ref q4, .ref q5, .int 5], NotPair K H5 x :=
    all_cons (.ty .non (kf_none_tuple K)) (all_cons (.len c1 (by decide)) (all_cons (.len c2 (by decide)) (all_cons (.ty (.lst c3) (kf_list_tuple K)) (all_cons (.fst c4 (.bl true)) (all_cons (.snd c5 (.ty (.str _) (kf_str_int K))) (all_cons (.ty (.int 5) (kf_int_tuple K)) all_nil))))))
  obtain ⟨u, hau, hu⟩ := lt_at (mod_lt (i / 3) (by decide : (0 : Int) < 7)).1 (by exact (mod_lt (i / 3) (by decide : (0 : Int) < 7)).2) all2
  refine ⟨_, rfl, _, _, rfl, rfl, ⟨by decide, by decide⟩, _, _, rfl, rfl, (by show (0 : Int) < 7; decide), q6, _, _, u, rfl, rfl, SqL.of upd_same, hau, ?_⟩
  have r6 := same_new (o := .lst [V.non, .ref q1, .ref q2, .ref q3, .ref q4, .ref q5, .int 5]) hq6
  exact ⟨_, rfl, _, u, bn, rfl, .inr ⟨rfl, ⟨[110, 101, 115, 119], by rw [lit_nesw], isW_nesw, by decide⟩, hu.same r6⟩, fun H' s' => k H' (t5.trans (r6.trans s'))⟩
theorem scLawOpenAsked : FnScope ["_law_which", "_law_more", "_law_walk"] ["_law_which", "_law_more"] (defScope sLawOpenAsked) := ⟨rfl, rfl, rfl, by decide +kernel, rfl, by decide +kernel, by decide +kernel⟩
theorem nine {k : Int} (h0 : 0 ≤ k) (h9 : k < 9) : k = 0 ∨ k = 1 ∨ k = 2 ∨ k = 3 ∨ k = 4 ∨ k = 5 ∨ k = 6 ∨ k = 7 ∨ k = 8 := by omega
theorem open_pos {k : Int} (h0 : 0 ≤ k) (h9 : k < 9) : posOf ([110, 101, 115] ++ List.replicate k.toNat 101) ≠ (0, 0) ∧ posOf ([110, 101, 115] ++ List.replicate k.toNat 101) ≠ posOf [] ∧ posOf ([110, 101, 115] ++ List.replicate k.toNat 101) ≠ posOf [110] ∧
    posOf ([110, 101, 115] ++ List.replicate k.toNat 101) ≠ posOf (([110, 101, 115] ++ List.replicate k.toNat 101) ++ [119]) ∧ posOf ([110, 101, 115] ++ List.replicate k.toNat 101) ≠ posOf [119, 101, 115] := by
  rcases nine h0 h9 with rfl | rfl | rfl | rfl | rfl | rfl | rfl | rfl | rfl <;> decide
theorem isW_all {l : List Nat} (h : l.all (fun c => decide (c = 110) || decide (c = 119) || decide (c = 115) || decide (c = 101)) = true) : IsW l := fun c hc => by
  have := List.all_eq_true.mp h c hc
  simp only [Bool.or_eq_true, decide_eq_true_eq] at this
  rcases this with ((z | z) | z) | z
  · exact .inl z
  · exact .inr (.inl z)
  · exact .inr (.inr (.inl z))
  · exact .inr (.inr (.inr z))
theorem open_w {k : Int} (h0 : 0 ≤ k) (h9 : k < 9) : IsW ([110, 101, 115] ++ List.replicate k.toNat 101) ∧ IsW (([110, 101, 115] ++ List.replicate k.toNat 101) ++ [119]) := by
  rcases nine h0 h9 with rfl | rfl | rfl | rfl | rfl | rfl | rfl | rfl | rfl <;> exact ⟨isW_all (by decide), isW_all (by decide)⟩
noncomputable def dO (nc : Addr) : V → Hp → Addr → Prop := fun v _ C => C = nc ∧ ∃ l, v = .str (T l) ∧ IsW l ∧ posOf l ≠ (0, 0)
theorem rz_open_asked {f : Addr} {fd : FuncData} (F : Df K mg "_law_open_asked" sLawOpenAsked ["_law_which", "_law_more"] f fd) (G : Doors P w K mg base bw bn nc ns) : FnOk P w K mg base (CXW P w) 7 f fd ["_law_which", "_law_more"] (spAsk nc) := by
  obtain ⟨fA, fdA, dA, rA⟩ := G.area
  obtain ⟨fS, fdS, dS, rS⟩ := G.squares
  obtain ⟨fTu, fdTu, dTu, rTu⟩ := G.turns
  obtain ⟨fW, fdW, dWi, rW⟩ := G.within
  obtain ⟨fBe, fdBe, dBe, rBe⟩ := G.begun
  obtain ⟨fAr, fdAr, dAr, rAr⟩ := G.around
  obtain ⟨fBt, fdBt, dBt, rBt⟩ := G.between
  refine F.fn.okW scLawOpenAsked (fun vs H Q E h => h.len) (fun cdv A outer s H vs Q E hr h => ?_)
  obtain ⟨i, j, rfl, k⟩ := h
  have hr5 : Room 5 _ := hr.mono (by decide)
  refine ⟨_, pss_cons (ps_set (i := 2) scLawOpenAsked.nd rfl (Or.inl rfl) (pe_op op_add_str pe_str (pe_op op_rep_sign pe_str (pe_op op_mod (pv 1) pe_int))))
    (pss_cons (ps_if (pt_cmpR op_lt (pe_op op_mod (pv 0) pe_int) pe_int (nomark _)) (pss_one (ps_ret (pe_callE (k := 6) (sp := spR1 (dO nc)) (pe_ix ix_list (pe_lst (pa_cons (pe_glob rfl dA.at_ (v := .ref fA) rfl) (pa_cons (pe_glob rfl dS.at_ (v := .ref fS) rfl) (pa_cons (pe_glob rfl dTu.at_ (v := .ref fTu) rfl)
      (pa_cons (pe_glob rfl dWi.at_ (v := .ref fW) rfl) pa_nil))))) (pe_op op_mod (pv 0) pe_int) (fun _ _ => rfl)) hr passW (pa_cons (pv 2) pa_nil)))) pss_nil)
    (pss_cons (ps_if (pt_cmpR op_eq (pe_op op_mod (pv 0) pe_int) pe_int (nomark _)) (pss_one (ps_ret (pe_ifExp (pt_cmpR op_eq (pe_op op_mod (pe_op op_fdiv (pv 0) pe_int) pe_int) pe_int (nomark _)) (pe_call rBe hr5 rfl dBe.at_ dBe.fn.kp dBe.bi .nil passW (pa_cons (pv 2) (pa_cons pe_non pa_nil)))
      (pe_call rAr hr5 rfl dAr.at_ dAr.fn.kp dAr.bi .nil passW (pa_cons (pv 2) (pa_cons pe_non pa_nil)))))) pss_nil)
    (pss_one (ps_ret (pe_call rBt hr5 rfl dBt.at_ dBt.fn.kp dBt.bi .nil passW (pa_cons (pv 2) (pa_cons (pe_ix ix_list (pe_lst (pa_cons pe_str (pa_cons pe_str (pa_cons (pe_op op_add_str (pv 2) pe_str) (pa_cons pe_str pa_nil))))) (pe_op op_mod (pe_op op_fdiv (pv 0) pe_int) pe_int) (fun _ _ => rfl)) pa_nil))))))), ?_⟩
  obtain ⟨j0, j9⟩ := mod_lt j (by decide : (0 : Int) < 9)
  obtain ⟨o1, o2, o3, o4, o5⟩ := open_pos j0 j9
  obtain ⟨w1, w2⟩ := open_w j0 j9
  refine ⟨_, rfl, _, _, rfl, rfl, (by show (0 : Int) < 9; decide), 101, _, by rw [lit_e], rfl, j0, by omega, _, _, rfl, rfl, ?_, ?_⟩
  · have esz : sizeLine = 16777216 := PySem.sizeLine_eq
    rw [lit_nes, T_len, T_len, List.length_replicate]
    show 3 + _ ≤ _
    omega
  rw [lit_nes, T_app]
  have hz : ([110, 101, 115] ++ List.replicate (j % 9).toNat 101 : List Nat).length ≤ 12 := by
    rw [List.length_append, List.length_replicate]
    show 3 + _ ≤ _
    omega
  generalize ([110, 101, 115] ++ List.replicate (j % 9).toNat 101 : List Nat) = l at *
  obtain ⟨m0, m6⟩ := mod_lt i (by decide : (0 : Int) < 6)
  refine ⟨_, rfl, _, _, rfl, rfl, (by show (0 : Int) < 6; decide), _, _, rfl, rfl, _, rfl, ?_⟩
  refine ite2 (fun h => ?_) (fun h => ?_)
  · have h4 : i % 6 < 4 := of_decide_eq_true h
    obtain ⟨fv, hat, hD⟩ := lt_at (P := Door P w K mg base 6 (spR1 (dO nc))) (xs := [V.ref fA, .ref fS, .ref fTu, .ref fW]) m0 h4
      (all_cons (door1 dA rA (by decide) fun _ _ _ z => .inr z) (all_cons (door1 dS rS (by decide) fun _ _ _ z => .inr z) (all_cons (door1 dTu rTu (by decide) fun _ _ _ z => .inl (.inr z)) (all_cons (door1 dWi rW (by decide) fun _ _ _ z => .inl (.inr z)) all_nil))))
    refine ⟨(by show 4 ≤ sizeLine; decide), fun p4 hp4 => ?_⟩
    have s4 := same_new (o := .lst [V.ref fA, .ref fS, .ref fTu, .ref fW]) hp4
    exact ⟨_, rfl, _, _, rfl, rfl, (by show (0 : Int) < 6; decide), p4, _, _, fv, rfl, rfl, SqL.of upd_same, hat, hD, _, rfl, _, nc, rfl, ⟨rfl, l, rfl, w1, o1⟩, fun H' s' => k H' (s4.trans s')⟩
  refine ⟨_, rfl, _, _, rfl, rfl, (by show (0 : Int) < 6; decide), rfl, _, rfl, ?_⟩
  refine ite2 (fun _ => ?_) (fun _ => ?_)
  · refine ⟨_, rfl, _, _, rfl, rfl, ⟨by decide, by decide⟩, _, _, rfl, rfl, (by show (0 : Int) < 2; decide), rfl, _, rfl, ?_⟩
    refine ite2 (fun _ => ?_) (fun _ => ?_)
    · exact ⟨_, rfl, _, _, nc, rfl, .inl (.inr ⟨rfl, l, rfl, w1, o1⟩), k⟩
    · exact ⟨_, rfl, _, _, nc, rfl, .inl (.inr ⟨rfl, l, rfl, w1, o1⟩), k⟩
  have all : ∀ x ∈ [V.str (Str.ofString ""), .str (Str.ofString "n"), .str (T l ++ Str.ofString "w"), .str (Str.ofString "wes")], ∃ m, x = V.str (T m) ∧ IsW m ∧ posOf l ≠ posOf m :=
    all_cons ⟨[], by rw [lit_0], isW_nil, o2⟩ (all_cons ⟨[110], by rw [lit_n], isW_n, o3⟩ (all_cons ⟨l ++ [119], by rw [lit_w, T_app], w2, o4⟩ (all_cons ⟨[119, 101, 115], by rw [lit_wes], isW_all (by decide), o5⟩ all_nil)))
  obtain ⟨u, hau, m, rfl, wm, hm⟩ := lt_at (mod_lt (i / 6) (by decide : (0 : Int) < 4)).1 (by exact (mod_lt (i / 6) (by decide : (0 : Int) < 4)).2) all
  refine ⟨_, rfl, _, rfl, _, _, rfl, rfl, ?_, (by show 4 ≤ sizeLine; decide), fun p4 hp4 => ?_⟩
  · have esz : sizeLine = 16777216 := PySem.sizeLine_eq
    rw [T_len, lit_w, T_len]
    show _ + 1 ≤ _
    omega
  have s4 := same_new (o := .lst [V.str (Str.ofString ""), .str (Str.ofString "n"), .str (T l ++ Str.ofString "w"), .str (Str.ofString "wes")]) hp4
  exact ⟨_, rfl, _, _, rfl, rfl, ⟨by decide, by decide⟩, _, _, rfl, rfl, (by show (0 : Int) < 4; decide), p4, _, _, _, rfl, rfl, SqL.of upd_same, hau, _, _, nc, rfl, .inr (.inr ⟨rfl, l, m, rfl, rfl, w1, wm, hm⟩), fun H' s' => k H' (s4.trans s')⟩
structure ErrK (K : PySem.W.Frag) (bw bn nc ns we : Addr) : Prop where
  x1 : ExcK K bw
  x2 : ExcK K bn
  x3 : ExcK K nc
  x4 : ExcK K ns
  m1 : PySem.W.exmOne K (.ref bw) (.ref we) = some true
  m2 : PySem.W.exmOne K (.ref bn) (.ref we) = some true
  m3 : PySem.W.exmOne K (.ref nc) (.ref we) = some true
  m4 : PySem.W.exmOne K (.ref ns) (.ref we) = some true
  k12 : PySem.W.kitOne K (.ref bw) (.ref bn) = some false
  k13 : PySem.W.kitOne K (.ref bw) (.ref nc) = some false
  k14 : PySem.W.kitOne K (.ref bw) (.ref ns) = some false
  k21 : PySem.W.kitOne K (.ref bn) (.ref bw) = some false
  k23 : PySem.W.kitOne K (.ref bn) (.ref nc) = some false
  k24 : PySem.W.kitOne K (.ref bn) (.ref ns) = some false
  k31 : PySem.W.kitOne K (.ref nc) (.ref bw) = some false
  k32 : PySem.W.kitOne K (.ref nc) (.ref bn) = some false
  k34 : PySem.W.kitOne K (.ref nc) (.ref ns) = some false
  k41 : PySem.W.kitOne K (.ref ns) (.ref bw) = some false
  k42 : PySem.W.kitOne K (.ref ns) (.ref bn) = some false
  k43 : PySem.W.kitOne K (.ref ns) (.ref nc) = some false
  v1 : PySem.W.kitOne K (.ref bw) (.type "ValueError") = some true
  v2 : PySem.W.kitOne K (.ref bn) (.type "ValueError") = some true
  v3 : PySem.W.kitOne K (.ref nc) (.type "ValueError") = some true
  v4 : PySem.W.kitOne K (.ref ns) (.type "ValueError") = some true
theorem kit_me (K : PySem.W.Frag) (a : Addr) : PySem.W.kitOne K (.ref a) (.ref a) = some true := by
  unfold PySem.W.kitOne
  rw [if_pos (show ((Value.ref a == Value.ref a) = true) from beq_self_eq_true _)]
structure Says (K : PySem.W.Frag) (bw bn nc ns we C : Addr) (b1 b2 b3 b4 : Bool) : Prop where
  x : ExcK K C
  m : PySem.W.exmOne K (.ref C) (.ref we) = some true
  k1 : PySem.W.kitOne K (.ref C) (.ref bw) = some b1
  k2 : PySem.W.kitOne K (.ref C) (.ref bn) = some b2
  k3 : PySem.W.kitOne K (.ref C) (.ref nc) = some b3
  k4 : PySem.W.kitOne K (.ref C) (.ref ns) = some b4
  v : PySem.W.kitOne K (.ref C) (.type "ValueError") = some true
theorem says_of (O : ErrK K bw bn nc ns we) {z : Int} (h0 : 0 ≤ z) (h4 : z < 4) : ∃ C, Says K bw bn nc ns we C (decide (z = 0)) (decide (z = 1)) (decide (z = 2)) (decide (z = 3)) ∧ (z = 0 → C = bw) ∧ (z = 1 → C = bn) ∧ (z = 2 → C = nc) ∧ (z = 3 → C = ns) := by
  rcases (by omega : z = 0 ∨ z = 1 ∨ z = 2 ∨ z = 3) with rfl | rfl | rfl | rfl
  · exact ⟨bw, ⟨O.x1, O.m1, kit_me K bw, O.k12, O.k13, O.k14, O.v1⟩, fun _ => rfl, fun h => absurd h (by decide), fun h => absurd h (by decide), fun h => absurd h (by decide)⟩
  · exact ⟨bn, ⟨O.x2, O.m2, O.k21, kit_me K bn, O.k23, O.k24, O.v2⟩, fun h => absurd h (by decide), fun _ => rfl, fun h => absurd h (by decide), fun h => absurd h (by decide)⟩
  · exact ⟨nc, ⟨O.x3, O.m3, O.k31, O.k32, kit_me K nc, O.k34, O.v3⟩, fun h => absurd h (by decide), fun h => absurd h (by decide), fun _ => rfl, fun h => absurd h (by decide)⟩
  · exact ⟨ns, ⟨O.x4, O.m4, O.k41, O.k42, O.k43, kit_me K ns, O.v4⟩, fun h => absurd h (by decide), fun h => absurd h (by decide), fun h => absurd h (by decide), fun _ => rfl⟩
theorem six {α : Type} {l : List α} (h : l.length = 6) : ∃ a b c d e f, l = [a, b, c, d, e, f] := by
  match l, h with
  | [a, b, c, d, e, f], _ => exact ⟨a, b, c, d, e, f, rfl⟩
theorem lit_neswnesw : (Str.ofString "neswnesw") = T [110, 101, 115, 119, 110, 101, 115, 119] := by decide +kernel
theorem lit_8 : (Str.ofString "neeswwnesw") = T [110, 101, 101, 115, 119, 119, 110, 101, 115, 119] := by decide +kernel
theorem lit_nnss : (Str.ofString "nnss") = T [110, 110, 115, 115] := by decide +kernel
theorem lit_ewns : (Str.ofString "ewns") = T [101, 119, 110, 115] := by decide +kernel
noncomputable def toldV (z : Int) : List V := [.bl (decide (z = 0)), .bl (decide (z = 1)), .bl (decide (z = 2)), .bl (decide (z = 3)), .bl true]
noncomputable def spTold : Sp := fun vs H Q _ => ∃ z i j : Int, vs = [.int z, .int i, .int j] ∧ 0 ≤ z ∧ z < 4 ∧ ∀ d H', H d = none → Same H H' → H' d = some (.lst (toldV z)) → Q (.ref d) H'
theorem scLawTold : FnScope ["_law_kind", "_law_which", "_law_more", "_law_walk", "error", "_law_found"] ["_law_kind", "_law_which", "_law_more"] (defScope sLawTold) := ⟨rfl, rfl, rfl, by decide +kernel, rfl, by decide +kernel, by decide +kernel⟩
theorem boot_ve : bootBuiltins "ValueError" = some (.type "ValueError") := by boot_by_name
theorem decI {z c : Int} : decide (V.int z = V.int c) = decide (z = c) := by
  by_cases h : z = c
  · rw [decide_eq_true h, decide_eq_true (by rw [h])]
  · rw [decide_eq_false h, decide_eq_false fun e => h (V.int.inj e)]
theorem ok_law_told {f fW fN fO fTu fWi : Addr} {fd fdW fdN fdO fdTu fdWi : FuncData} (F : Df K mg "_law_told" sLawTold ["_law_kind", "_law_which", "_law_more"] f fd) (X : Txt K mg) (hve : mg "ValueError" = none) (O : Errs K mg bw bn nc ns we) (OK : ErrK K bw bn nc ns we)
    (Wa : Df K mg "_law_walk_asked" sLawWalkAsked ["_law_which", "_law_more"] fW fdW) (RW : FnOk P w K mg base (CXW P w) 7 fW fdW ["_law_which", "_law_more"] (spAsk bw))
    (Na : Df K mg "_law_number_asked" sLawNumberAsked ["_law_which", "_law_more"] fN fdN) (RN : FnOk P w K mg base (CXW P w) 7 fN fdN ["_law_which", "_law_more"] (spAsk bn))
    (Oa : Df K mg "_law_open_asked" sLawOpenAsked ["_law_which", "_law_more"] fO fdO) (RO : FnOk P w K mg base (CXW P w) 7 fO fdO ["_law_which", "_law_more"] (spAsk nc))
    (dTu : Df K mg "turns" sTurns ["walk"] fTu fdTu) (rTu : FnOk P w K mg base (CXW P w) 6 fTu fdTu ["walk"] (spR1 (dL K bw nc ns))) (dWi : Df K mg "within" sWithin ["walk"] fWi fdWi) (rWi : FnOk P w K mg base (CXW P w) 6 fWi fdWi ["walk"] (spR1 (dL K bw nc ns))) :
    FnOk P w K mg base CX0 8 f fd ["_law_kind", "_law_which", "_law_more"] spTold := by
  refine F.fn.ok scLawTold (fun vs H Q E h => ?_) (fun cdv A outer s H vs Q E hr h => ?_)
  · obtain ⟨z, i, j, rfl, _⟩ := h
    rfl
  obtain ⟨z, i, j, rfl, z0, z4, k⟩ := h
  obtain ⟨C, S, c0, c1, c2, c3⟩ := says_of OK z0 z4
  have hr6 : Room 6 _ := hr.mono (by decide)
  refine ⟨_, pss_cons (ps_try (i := 4) (We := we) (fun c _ H' => c = .ref C ∧ Same H H') rfl rfl rfl scLawTold.nd rfl rfl rfl O.we
    (fun pn xe hp => pss_one (ps_if (pt_cmpR op_eq (pv 0) pe_int (nomark _)) (pss_one (ps_expr (pe_call RW hr rfl Wa.at_ Wa.fn.kp Wa.bi .nil hp (pa_cons (pv 1) (pa_cons (pv 2) pa_nil)))))
      (pss_one (ps_if (pt_cmpR op_eq (pv 0) pe_int (nomark _)) (pss_one (ps_expr (pe_call RN hr rfl Na.at_ Na.fn.kp Na.bi .nil hp (pa_cons (pv 1) (pa_cons (pv 2) pa_nil)))))
      (pss_one (ps_ifE (pt_cmpR op_eq (pv 0) pe_int (nomark _)) (pss_one (ps_expr (pe_call RO hr rfl Oa.at_ Oa.fn.kp Oa.bi .nil hp (pa_cons (pv 1) (pa_cons (pv 2) pa_nil)))))
        (pssw_cons (psw_set (i := 3) scLawTold.nd rfl (Or.inl rfl) (pew_ixK K rfl (pew_lst (paw_cons pe_str (paw_cons pe_str (paw_cons pe_str (paw_cons pe_str (paw_cons pe_str (paw_cons pe_str paw_nil))))))) (pe_op op_mod (pe_op op_fdiv (pv 1) pe_int) pe_int) (fun _ _ => rfl)))
          (pss_one (ps_expr (pe_callEK (Door P w K mg base 6 (spR1 (dL K bw nc ns))) (k := 6) (sp := spR1 (dL K bw nc ns)) (fun _ z => z) (pe_ixK K rfl (pe_lst (pa_cons (pe_glob rfl dTu.at_ (v := .ref fTu) rfl) (pa_cons (pe_glob rfl dWi.at_ (v := .ref fWi) rfl) pa_nil))) (pe_op op_mod (pv 1) pe_int) (fun _ _ => rfl)) hr6 hp (pa_cons (pv 3) pa_nil)))))))))))
    (fun A' pn a D oe hc hp => pss_cons (ps_set (i := 5) scLawTold.nd rfl (Or.inl rfl) (pe_lst (pa_cons (pe_callB (call_isXC K rfl hp hc) rfl X.isi PyProof.Rows.boot_isinstance (pa_cons (pv 4) (pa_cons (pe_glob rfl O.bw.bound (v := .ref bw) rfl) pa_nil)))
        (pa_cons (pe_callB (call_isXC K rfl hp hc) rfl X.isi PyProof.Rows.boot_isinstance (pa_cons (pv 4) (pa_cons (pe_glob rfl O.bn.bound (v := .ref bn) rfl) pa_nil)))
        (pa_cons (pe_callB (call_isXC K rfl hp hc) rfl X.isi PyProof.Rows.boot_isinstance (pa_cons (pv 4) (pa_cons (pe_glob rfl O.nc.bound (v := .ref nc) rfl) pa_nil))) pa_nil)))))
      (pss_one (ps_ret (pe_op op_cat (pv 5) (pe_lst (pa_cons (pe_callB (call_isXC K rfl hp hc) rfl X.isi PyProof.Rows.boot_isinstance (pa_cons (pv 4) (pa_cons (pe_glob rfl O.ns.bound (v := .ref ns) rfl) pa_nil)))
        (pa_cons (pe_callB (call_isXT K rfl hp hc) rfl X.isi PyProof.Rows.boot_isinstance (pa_cons (pv 4) (pa_cons (pe_bltn rfl hve boot_ve (v := .ty "ValueError") rfl) pa_nil))) pa_nil)))))))) pss_never, ?_⟩
  refine ⟨?_, fun D H1 a σ' hl hE => ?_⟩
  · refine ⟨_, rfl, rfl, _, rfl, ?_⟩
    rw [decI]
    refine ite2 (fun h => ?_) (fun h => ?_)
    · have e := c0 (of_decide_eq_true h)
      exact ⟨_, rfl, _, rfl, i, j, rfl, fun H' s' => ⟨by rw [e], s'⟩⟩
    refine ⟨_, rfl, rfl, _, rfl, ?_⟩
    rw [decI]
    refine ite2 (fun h' => ?_) (fun h' => ?_)
    · have e := c1 (of_decide_eq_true h')
      exact ⟨_, rfl, _, rfl, i, j, rfl, fun H' s' => ⟨by rw [e], s'⟩⟩
    refine ⟨_, rfl, rfl, _, rfl, ?_⟩
    rw [decI]
    refine ite2 (fun h'' => ?_) (fun h'' => ?_)
    · have e := c2 (of_decide_eq_true h'')
      exact ⟨_, rfl, _, rfl, i, j, rfl, fun H' s' => ⟨by rw [e], s'⟩⟩
    have n0 : ¬ z = 0 := fun e => h (decide_eq_true e)
    have n1 : ¬ z = 1 := fun e => h' (decide_eq_true e)
    have n2 : ¬ z = 2 := fun e => h'' (decide_eq_true e)
    have e := c3 (by omega)
    have all : ∀ x ∈ [V.str (Str.ofString ""), .str (Str.ofString "ns"), .str (Str.ofString "neswnesw"), .str (Str.ofString "neeswwnesw"), .str (Str.ofString "nnss"), .str (Str.ofString "ewns")],
        ∃ l, x = V.str (T l) ∧ IsW l ∧ l.length ≤ 1000 ∧ posOf l = (0, 0) ∧ (l.length < 4 ∨ ¬ (cntP l).Nodup) :=
      all_cons ⟨_, by rw [lit_0], isW_nil, by decide, by decide, .inl (by decide)⟩ (all_cons ⟨_, by rw [lit_ns], isW_all (by decide), by decide, by decide, .inl (by decide)⟩
        (all_cons ⟨_, by rw [lit_neswnesw], isW_all (by decide), by decide, by decide, .inr (by decide +kernel)⟩ (all_cons ⟨_, by rw [lit_8], isW_all (by decide), by decide, by decide, .inr (by decide +kernel)⟩
        (all_cons ⟨_, by rw [lit_nnss], isW_all (by decide), by decide, by decide, .inr (by decide +kernel)⟩ (all_cons ⟨_, by rw [lit_ewns], isW_all (by decide), by decide, by decide, .inr (by decide +kernel)⟩ all_nil)))))
    obtain ⟨v, hat, l, rfl, hl1, hl2, hl3, hl4⟩ := lt_at (mod_lt (i / 2) (by decide : (0 : Int) < 6)).1 (by exact (mod_lt (i / 2) (by decide : (0 : Int) < 6)).2) all
    obtain ⟨fv, hat2, hD⟩ := lt_at (P := Door P w K mg base 6 (spR1 (dL K bw nc ns))) (xs := [V.ref fTu, .ref fWi]) (mod_lt i (by decide : (0 : Int) < 2)).1 (by exact (mod_lt i (by decide : (0 : Int) < 2)).2)
      (all_cons (door1 dTu rTu (by decide) fun _ _ _ z => z) (all_cons (door1 dWi rWi (by decide) fun _ _ _ z => z) all_nil))
    refine ⟨(by show 6 ≤ sizeLine; decide), fun p1 hp1 => ⟨_, rfl, _, _, rfl, rfl, ⟨by decide, by decide⟩, _, _, rfl, rfl, (by show (0 : Int) < 6; decide), p1, _, _, _, rfl, rfl, SqL.of upd_same, hat, ?_⟩⟩
    refine ⟨two_le, fun p2 hp2 => ⟨_, rfl, _, _, rfl, rfl, (by show (0 : Int) < 2; decide), p2, _, _, fv, rfl, rfl, SqL.of upd_same, hat2, hD, _, rfl, _, ns, rfl, .inr ⟨rfl, l, rfl, hl1, hl2, hl3, hl4⟩, fun H' s' => ⟨by rw [e], (same_new hp1).trans ((same_new hp2).trans s')⟩⟩⟩
  · obtain ⟨e, s1⟩ := hE
    cases e
    obtain ⟨y0, y1, y2, y3, y4, y5, rfl⟩ := six (hl.trans rfl)
    refine ⟨S.m, ?_⟩
    refine ⟨_, rfl, bw, _, rfl, S.x, S.k1, _, rfl, bn, _, rfl, S.x, S.k2, _, rfl, nc, _, rfl, S.x, S.k3, (by show 3 ≤ sizeLine; decide), fun p1 hp1 => ?_⟩
    refine ⟨_, rfl, _, rfl, ns, _, rfl, S.x, S.k4, _, rfl, "ValueError", _, rfl, S.x, S.v, two_le, fun p2 hp2 => ?_⟩
    have s2 := same_new (o := .lst [.bl (decide (z = 0)), .bl (decide (z = 1)), .bl (decide (z = 2))]) hp1
    have s3 := same_new (o := .lst [.bl (decide (z = 3)), .bl true]) hp2
    have t3 := s1.trans (s2.trans s3)
    refine ⟨p1, p2, _, _, rfl, rfl, s3 p1 _ upd_same, upd_same, (by show 5 ≤ sizeLine; decide), fun p3 hp3 => ?_⟩
    exact k p3 _ (t3.free hp3) (t3.trans (same_new hp3)) upd_same
theorem scLaw : FnScope ["_law_script", "_law_cell", "_law_kind", "_law_due"] ["_law_script"] (defScope sLaw) := ⟨rfl, rfl, rfl, by decide +kernel, rfl, by decide +kernel, by decide +kernel⟩
noncomputable def spLaw (K : PySem.W.Frag) : Sp := fun vs H Q _ => ∃ (a : Addr) (ns : List Int), vs = [.ref a] ∧ SqL K H a (ns.map V.int) ∧ ns.length ≤ 63 ∧ ∀ H', Q (.bl true) H'
theorem lit_enws : (Str.ofString "enws") = T [101, 110, 119, 115] := by decide +kernel
theorem isW_enws : IsW [101, 110, 119, 115] := isW_all (by decide)
theorem inn_nesw {qs : List (Pt × Int)} (hq : IsSq [110, 101, 115, 119] qs) : inL [110, 101, 115, 119] qs = [] := by
  unfold inL
  rw [List.filter_eq_nil_iff]
  intro q hm hd
  obtain ⟨⟨q', n⟩, hm', rfl⟩ := List.mem_map.mp hm
  obtain ⟨e1, e2⟩ := (hq.mem q' n).mp hm'
  have hn : ¬ q' ∈ plOf [110, 101, 115, 119] := of_decide_eq_true hd
  have hb : q' ∈ box 4 := by
    by_cases hb : q' ∈ box 4
    · exact hb
    · exact absurd (e1.trans (around_far isW_nesw (by decide) hb)) e2
  have key : ∀ q ∈ box 4, ¬ aroundE q [110, 101, 115, 119] = 0 → q ∈ plOf [110, 101, 115, 119] := by decide +kernel
  exact hn (key q' hb fun z => e2 (e1.trans z))
theorem due_eq (z : Int) : PyData.eqv (.list ([decide (z = 0), decide (z = 1), decide (z = 2), decide (z = 3), true].map PyData.bool)) (.list ([decide (V.int z = V.int 0), decide (V.int z = V.int 1), decide (V.int z = V.int 2), decide (V.int z = V.int 3), true].map PyData.bool)) = true := by
  rw [decI, decI, decI, decI]
  cases decide (z = 0) <;> cases decide (z = 1) <;> cases decide (z = 2) <;> cases decide (z = 3) <;> decide +kernel
theorem ok_law {f fT fTu fWi fAr : Addr} {fd fdT fdTu fdWi fdAr : FuncData} (F : Df K mg "law" sLaw ["_law_script"] f fd) (Td : Df K mg "_law_told" sLawTold ["_law_kind", "_law_which", "_law_more"] fT fdT) (GT : FnOk P w K mg base CX0 8 fT fdT ["_law_kind", "_law_which", "_law_more"] spTold)
    (Tu : Df K mg "turns" sTurns ["walk"] fTu fdTu) (GTu : FnOk P w K mg base CX0 6 fTu fdTu ["walk"] spTurns) (Wi : Df K mg "within" sWithin ["walk"] fWi fdWi) (GWi : FnOk P w K mg base CX0 6 fWi fdWi ["walk"] spWithin)
    (Ar : Df K mg "around" sAround ["walk", "square"] fAr fdAr) (GAr : FnOk P w K mg base CX0 5 fAr fdAr ["walk", "square"] (spAround K)) : FnOk P w K mg base CX0 10 f fd ["_law_script"] (spLaw K) := by
  refine F.fn.ok scLaw (fun vs H Q E h => ?_) (fun cdv A outer s H vs Q E hr h => ?_)
  · obtain ⟨a, ns, rfl, _⟩ := h
    rfl
  obtain ⟨a, ns, rfl, hS, hz, k⟩ := h
  have hr8 : Room 8 _ := hr.mono (by decide)
  have hr6 : Room 6 _ := hr.mono (by decide)
  have hr5 : Room 5 _ := hr.mono (by decide)
  refine ⟨_, pss_cons (ps_for PassesOwn.never rfl (pi_list (pv 0)) (pg_name (i := 1) scLaw.nd rfl (Or.inl rfl))
      (pss_cons (ps_set (i := 2) scLaw.nd rfl (Or.inl rfl) (pe_op op_mod (pv 1) pe_int))
      (pss_cons (ps_set (i := 3) scLaw.nd rfl (Or.inl rfl) (pe_lst (pa_cons (pe_cmpR op_eq (pv 2) pe_int (nomark _)) (pa_cons (pe_cmpR op_eq (pv 2) pe_int (nomark _)) (pa_cons (pe_cmpR op_eq (pv 2) pe_int (nomark _)) (pa_cons (pe_cmpR op_eq (pv 2) pe_int (nomark _)) (pa_cons pe_bl pa_nil)))))))
      (pss_one (ps_if (pt_cmpR (op_neB K rfl hr.units) (pe_call GT hr8 rfl Td.at_ Td.fn.kp Td.bi .nil pass0 (pa_cons (pv 2) (pa_cons (pe_op op_mod (pe_op op_fdiv (pv 1) pe_int) pe_int) (pa_cons (pe_op op_mod (pe_op op_fdiv (pv 1) pe_int) pe_int) pa_nil)))) (pv 3) (nomark _)) pss_never pss_nil)))))
    (pss_one (ps_ret (pe_and (pe_cmpR (op_eqD hr.units) (pe_call GTu hr6 rfl Tu.at_ Tu.fn.kp Tu.bi .nil pass0 (pa_cons pe_str pa_nil)) (pe_tup (pa_cons pe_int (pa_cons pe_int pa_nil))) (nomark _))
      (pe_and (pe_cmpR (op_eqD hr.units) (pe_call GWi hr6 rfl Wi.at_ Wi.fn.kp Wi.bi .nil pass0 (pa_cons pe_str pa_nil)) (pe_lst pa_nil) (nomark _))
      (pe_one (pe_cmpR op_eq (pe_call GAr hr5 rfl Ar.at_ Ar.fn.kp Ar.bi .nil pass0 (pa_cons pe_str (pa_cons (pe_tup (pa_cons pe_int (pa_cons pe_int pa_nil))) pa_nil))) pe_int (nomark _))))))), ?_⟩
  refine ⟨_, rfl, a, rfl, ⟨_, hS⟩, for_list (K := K) (a := a) (xs := ns.map V.int) (fun i σ H' => ∃ v1 v2 v3 : Option V, σ = [some (.ref a), v1, v2, v3] ∧ Same H H') ⟨none, none, none, rfl, Same.refl H⟩ (fun i σ H' _ ⟨_, _, _, _, s'⟩ => s'.seq hS) ?_ ?_⟩
  · rintro i x σ H' hx ⟨v1, v2, v3, rfl, s0⟩
    obtain ⟨n, rfl⟩ : ∃ n, x = V.int n := by
      rw [List.getElem?_map] at hx
      cases e : ns[i]? with
      | none => rw [e] at hx; cases hx
      | some n => rw [e] at hx; exact ⟨n, (Option.some.inj hx).symm⟩
    obtain ⟨z0, z4⟩ := mod_lt n (by decide : (0 : Int) < 4)
    refine ⟨_, rfl, _, _, rfl, rfl, (by show (0 : Int) < 4; decide), ?_⟩
    refine ⟨_, rfl, rfl, _, rfl, rfl, _, rfl, rfl, _, rfl, rfl, (by show 5 ≤ sizeLine; decide), fun p hp => ?_⟩
    refine ⟨_, rfl, _, rfl, _, _, rfl, rfl, ⟨by decide, by decide⟩, _, _, rfl, rfl, (by show (0 : Int) < 100000; decide), _, rfl, _, _, rfl, rfl, ⟨by decide, by decide⟩, _, _, rfl, rfl, (by show (0 : Int) < 1000; decide), n % 4, _, _, rfl, z0, z4, fun d H2 hd s2 h2 => ?_⟩
    refine ⟨_, rfl, d, p, [decide (n % 4 = 0), decide (n % 4 = 1), decide (n % 4 = 2), decide (n % 4 = 3), true], [decide (V.int (n % 4) = V.int 0), decide (V.int (n % 4) = V.int 1), decide (V.int (n % 4) = V.int 2), decide (V.int (n % 4) = V.int 3), true], rfl, rfl, SqL.of h2, SqL.of (s2 _ _ upd_same), rfl, rfl, _, rfl, ?_⟩
    rw [due_eq]
    refine iteF ?_
    exact ⟨_, _, _, rfl, s0.trans ((same_new hp).trans s2)⟩
  · rintro σ H' ⟨v1, v2, v3, rfl, s0⟩
    refine ⟨[101, 110, 119, 115], by rw [lit_enws]; rfl, isW_enws, by decide, by decide, by decide, by decide +kernel, fun b H1 hb s1 hb1 => ⟨two_le, fun c hc => ?_⟩⟩
    refine ⟨_, _, dat_pt (p := (((cycT isL [101, 110, 119, 115] : Nat) : Int), ((cycT isR [101, 110, 119, 115] : Nat) : Int))) ((same_new hc) b _ hb1), dat_pt (p := (4, 0)) upd_same, shaped_pt _, shaped_pt _, _, rfl, ?_⟩
    rw [eqv_pt, show decide ((((cycT isL [101, 110, 119, 115] : Nat) : Int), ((cycT isR [101, 110, 119, 115] : Nat) : Int)) = ((4, 0) : Pt)) = true from by decide +kernel]
    refine iteT ?_
    refine ⟨[110, 101, 115, 119], by rw [lit_nesw]; rfl, isW_nesw, by decide, by decide, by decide, by decide +kernel, fun d H2 qs hd s2 hq hP => ⟨Nat.zero_le _, fun e he => ?_⟩⟩
    rw [inn_nesw hq] at hP
    obtain ⟨as, h1, h2⟩ := hP
    cases h2
    refine ⟨.list [], .list [], .lst (SqL.of ((same_new he) d _ h1)) .nil, .lst (SqL.of upd_same) .nil, rfl, rfl, _, rfl, ?_⟩
    refine iteT ?_
    refine ⟨two_le, fun g hg => ⟨[101, 110, 119, 115], g, (0, 0), by rw [lit_enws]; rfl, isW_enws, by decide, by decide, upd_same, fun H3 s3 => ?_⟩⟩
    refine ⟨rfl, ?_⟩
    rw [show decide (V.int (aroundE (0, 0) [101, 110, 119, 115]) = V.int 1) = true from by decide +kernel]
    exact k _
structure Own (K : PySem.W.Frag) (mg : Str → Option Value) : Prop where
  cls : ∃ Cs fI fS fd Ct gI gS gd, ClT K mg "Simple" Cs fI fS ∧ PySem.W.kitOne K (.ref Cs) (.ref Cs) = some true ∧ NoAttr K Cs "places" ∧ Mf K "__init__" "Simple.__init__" sSimpleInit ["self", "places"] fI fd ∧
    ClT K mg "Twice" Ct gI gS ∧ NoAttr K Ct "first" ∧ NoAttr K Ct "second" ∧ Mf K "__init__" "Twice.__init__" sTwiceInit ["self", "first", "second"] gI gd ∧ PySem.W.kitOne K (.ref Ct) (.ref Cs) = some false
  errs : ∃ bw bn nc ns we, Errs K mg bw bn nc ns we ∧ ErrK K bw bn nc ns we
theorem clt_mk {h : Heap} {x : Str} {C fI fS : Addr} (X : K.In h) (G : h.Ns mainGlobals mg) (aC : PySem.W.nsIn K mainGlobals x = some (some (.ref C)))
    (pg : PySem.W.plainGet K C Str.empty = true) (hd : PySem.W.hasDictIn K C = true) (po : PySem.W.plainOver K C = true) (sa : PySem.W.findIn K (.ref C) "__setattr__" = some (some (.builtin "object.__setattr__"))) (mk : PySem.W.makesIn K C = true) (kc : PySem.W.keepIn K (.ref C) = true)
    (a1 : PySem.W.findIn K (.ref C) "__init__" = some (some (.ref fI))) (i1 : PySem.W.isFn K (.ref fI) = true)
    (a2 : PySem.W.findIn K (.ref C) "shows" = some (some (.ref fS))) (i2 : PySem.W.isFn K (.ref fS) = true) (k2 : PySem.W.keepIn K (.ref fS) = true)
    (ha : PySem.W.findIn K (.ref C) "__class__" = some (some (.builtin "object.__class__"))) (hn : PySem.W.specialIn K (.builtin "object.__class__") "__get__" = some (some (.builtin "getset_descriptor.__get__"))) (htk : PySem.W.takesIn K (.builtin "object.__class__") = some true) (hm : PySem.W.mroIn K C (.type "object") = some true) :
    ClT K mg x C fI fS := ⟨⟨pg, hd, po, sa⟩, PySem.W.mg_of X G aC, ⟨mk, a1, i1, kc⟩, ⟨a2, i2, k2⟩, ha, hn, htk, hm⟩
theorem both_mk {Cs fI fS Ct gI gS : Addr} {od an od' an' : Option Addr} {sl sl' : Array (Option Value)} {oc kV dc pm cd ct oc' kV' dc' pm' cd' ct' : Value} (c : ClT K mg "Simple" Cs fI fS) (n : PySem.W.findIn K (.ref Cs) "places" = some none)
    (l1 : K.lookup fI = some ⟨oc, od, .func (PySem.W.fnOf "__init__" "Simple.__init__" (defArgs sSimpleInit) (defBody sSimpleInit) (defScope sSimpleInit) .none kV dc pm an cd ct), sl⟩) (c1 : PySem.W.codeIn K cd "Simple.__init__" = true) (k1 : PySem.W.keepIn K (.ref fI) = true)
    (t : ClT K mg "Twice" Ct gI gS) (n1 : PySem.W.findIn K (.ref Ct) "first" = some none) (n2 : PySem.W.findIn K (.ref Ct) "second" = some none)
    (l2 : K.lookup gI = some ⟨oc', od', .func (PySem.W.fnOf "__init__" "Twice.__init__" (defArgs sTwiceInit) (defBody sTwiceInit) (defScope sTwiceInit) .none kV' dc' pm' an' cd' ct'), sl'⟩) (c2 : PySem.W.codeIn K cd' "Twice.__init__" = true) (k2 : PySem.W.keepIn K (.ref gI) = true)
    (kts : PySem.W.kitOne K (.ref Ct) (.ref Cs) = some false) :
    ∃ Cs fI fS fd Ct gI gS gd, ClT K mg "Simple" Cs fI fS ∧ PySem.W.kitOne K (.ref Cs) (.ref Cs) = some true ∧ NoAttr K Cs "places" ∧ Mf K "__init__" "Simple.__init__" sSimpleInit ["self", "places"] fI fd ∧
      ClT K mg "Twice" Ct gI gS ∧ NoAttr K Ct "first" ∧ NoAttr K Ct "second" ∧ Mf K "__init__" "Twice.__init__" sTwiceInit ["self", "first", "second"] gI gd ∧ PySem.W.kitOne K (.ref Ct) (.ref Cs) = some false := by
  have F1 := fun_mk (st := sSimpleInit) l1 c1 k1
  have F2 := fun_mk (st := sTwiceInit) l2 c2 k2
  exact ⟨Cs, fI, fS, _, Ct, gI, gS, _, c, kit_me K Cs, n, ⟨F1, F1.binds (ps := ["self", "places"]) fun _ _ _ _ _ _ => L2.len2 (by intro _ _; exact rfl)⟩, t, n1, n2, ⟨F2, F2.binds (ps := ["self", "first", "second"]) fun _ _ _ _ _ _ => L2.len3 (by intro _ _ _; exact rfl)⟩, kts⟩
theorem errs_mk {h : Heap} {bw bn nc ns we : Addr} (X : K.In h) (G : h.Ns mainGlobals mg) (a1 : PySem.W.nsIn K mainGlobals "BadWalk" = some (some (.ref bw))) (a2 : PySem.W.nsIn K mainGlobals "BadNumber" = some (some (.ref bn))) (a3 : PySem.W.nsIn K mainGlobals "NotClosed" = some (some (.ref nc)))
    (a4 : PySem.W.nsIn K mainGlobals "NotSimple" = some (some (.ref ns))) (a5 : PySem.W.nsIn K mainGlobals "WalkError" = some (some (.ref we)))
    (e1 : PySem.W.excIn K bw [.type "ValueError", .type "Exception", .type "BaseException", .type "object"] "ValueError.__new__" = true) (e2 : PySem.W.excIn K bn [.type "ValueError", .type "Exception", .type "BaseException", .type "object"] "ValueError.__new__" = true)
    (e3 : PySem.W.excIn K nc [.type "ValueError", .type "Exception", .type "BaseException", .type "object"] "ValueError.__new__" = true) (e4 : PySem.W.excIn K ns [.type "ValueError", .type "Exception", .type "BaseException", .type "object"] "ValueError.__new__" = true)
    (k : ErrK K bw bn nc ns we) : ∃ bw bn nc ns we, Errs K mg bw bn nc ns we ∧ ErrK K bw bn nc ns we :=
  ⟨bw, bn, nc, ns, we, ⟨⟨PySem.W.mg_of X G a1, a1, e1⟩, ⟨PySem.W.mg_of X G a2, a2, e2⟩, ⟨PySem.W.mg_of X G a3, a3, e3⟩, ⟨PySem.W.mg_of X G a4, a4, e4⟩, PySem.W.mg_of X G a5⟩, k⟩
theorem law_all {f : Addr} {fd : FuncData} (F : Df K mg "law" sLaw ["_law_script"] f fd) (X : Txt K mg) (Y : TxtM K mg w) (G : Own K mg) (B : Bltn mg) (D : Fns K mg) : FnOk P w K mg base CX0 10 f fd ["_law_script"] (spLaw K) := by
  obtain ⟨_, _, d__wall⟩ := D.Wall
  obtain ⟨_, _, d_check_walk⟩ := D.CheckWalk
  obtain ⟨_, _, d_is_number⟩ := D.IsNumber
  obtain ⟨_, _, d_check_number⟩ := D.CheckNumber
  obtain ⟨_, _, d_is_pair⟩ := D.IsPair
  obtain ⟨_, _, d_is_closed⟩ := D.IsClosed
  obtain ⟨_, _, d_check_closed⟩ := D.CheckClosed
  obtain ⟨_, _, d_stepped⟩ := D.Stepped
  obtain ⟨_, _, d_places⟩ := D.Places
  obtain ⟨_, _, d_counted_places⟩ := D.CountedPlaces
  obtain ⟨_, _, d_end⟩ := D.End
  obtain ⟨_, _, d_turned⟩ := D.Turned
  obtain ⟨_, _, d_taken_back⟩ := D.TakenBack
  obtain ⟨_, _, d_quartered⟩ := D.Quartered
  obtain ⟨_, _, d_mirrored⟩ := D.Mirrored
  obtain ⟨_, _, d_backwards⟩ := D.Backwards
  obtain ⟨_, _, d_thinned⟩ := D.Thinned
  obtain ⟨_, _, d_begun⟩ := D.Begun
  obtain ⟨_, _, d_check_square⟩ := D.CheckSquare
  obtain ⟨_, _, d_upright_steps⟩ := D.UprightSteps
  obtain ⟨_, _, d_around⟩ := D.Around
  obtain ⟨_, _, d_area⟩ := D.Area
  obtain ⟨_, _, d_between⟩ := D.Between
  obtain ⟨_, _, d_squares⟩ := D.Squares
  obtain ⟨_, _, d_meets⟩ := D.Meets
  obtain ⟨_, _, d_check_loop⟩ := D.CheckLoop
  obtain ⟨_, _, d_turns⟩ := D.Turns
  obtain ⟨_, _, d_within⟩ := D.Within
  obtain ⟨_, _, d__law_walk_asked⟩ := D.LawWalkAsked
  obtain ⟨_, _, d__law_number_asked⟩ := D.LawNumberAsked
  obtain ⟨_, _, d__law_open_asked⟩ := D.LawOpenAsked
  obtain ⟨_, _, d__law_told⟩ := D.LawTold
  obtain ⟨Cs, fSI, fSS, _, Ct, fTI, fTS, _, S, kSS, nP, MS, Tw, nF, nS, MT, kTS⟩ := G.cls
  obtain ⟨bw, bn, nc, ns, we, O, OK⟩ := G.errs
  have GI := ok_is_closed (P := P) (w := w) (base := base) d_is_closed X d_check_walk d_end
  have GZ := ok_check_closed (P := P) (w := w) (base := base) d_check_closed X d_is_closed d_check_walk d_end
  have GU := ok_upright_steps (P := P) (w := w) (base := base) d_upright_steps X B.zip d_check_walk d_stepped d_places
  have GP : FnOk P w K mg base CX0 2 _ _ ["walk"] spPlaces := ok_places d_places X d_check_walk d_stepped
  have GE : FnOk P w K mg base CX0 2 _ _ ["walk"] spEnd := ok_end d_end X d_check_walk
  have GCw : FnOk P w K mg base CX0 1 _ _ ["walk"] spCheckWalk := ok_check_walk d_check_walk X
  have GC := ok_counted_places (P := P) (w := w) (base := base) d_counted_places B.len d_places GP
  have GMt := ok_meets (P := P) (w := w) (base := base) d_meets B.enumerate B.sorted d_counted_places GC S MS (ok_simple_init MS B.list S.cl nP) Tw MT (ok_twice_init MT Tw.cl nF nS)
  have GL := ok_check_loop (P := P) (w := w) (base := base) d_check_loop X B.len d_check_closed GZ d_meets GMt S kSS
  have GSq := ok_squares (P := P) (w := w) (base := base) d_squares B.sorted B.zip B.range d_check_closed GZ d_upright_steps GU
  have GWi := ok_within d_within B.dict d_check_loop GL d_places GP d_squares GSq
  have GTu := ok_turns d_turns B.zip d_check_loop GL d_turned (ok_turned d_turned X)
  have RC := rz_check_walk (P := P) (w := w) (base := base) d_check_walk X O
  have RE := rz_end d_check_walk RC d_end
  have RP := rz_places d_check_walk RC d_places
  have RI := rz_is_closed d_is_closed d_end RE
  have RZ := rz_check_closed d_check_closed O d_is_closed GI RI
  have RN := rz_check_number (P := P) (w := w) (base := base) d_check_number X O d_is_number
  have RS := rz_check_square (P := P) (w := w) (base := base) d_check_square X O B.tuple B.len d_is_pair d_is_number
  have RMt := rz_meets d_meets B.enumerate d_counted_places (rz_counted_places d_counted_places d_places RP)
  have RL := rz_check_loop d_check_loop X O B.len d_check_closed GZ RZ d_meets GMt S Tw kTS
  have RTu := rz_turns d_turns d_check_loop RL
  have RWi := rz_within d_within d_check_loop RL
  have Dd : Doors P w K mg base bw bn nc ns := ⟨⟨_, _, d_places, RP⟩, ⟨_, _, d_end, RE⟩, ⟨_, _, d_mirrored, rz_mirrored d_check_walk RC d_mirrored⟩, ⟨_, _, d_backwards, rz_backwards d_check_walk RC d_backwards⟩, ⟨_, _, d_thinned, rz_thinned d_check_walk RC d_thinned⟩,
    ⟨_, _, d_meets, RMt⟩, ⟨_, _, d_area, rz_area d_area d_check_closed RZ⟩, ⟨_, _, d_squares, rz_squares d_squares d_check_closed RZ⟩, ⟨_, _, d_turns, RTu⟩, ⟨_, _, d_within, RWi⟩, ⟨_, _, d_quartered, rz_quartered d_quartered d_check_walk GCw RC d_check_number RN⟩,
    ⟨_, _, d_begun, rz_begun d_begun d_check_closed GZ RZ d_check_number RN⟩, ⟨_, _, d_around, rz_around d_around d_check_closed GZ RZ d_check_square RS⟩, ⟨_, _, d_between, rz_between d_between O d_end GE RE⟩⟩
  exact ok_law F d__law_told (ok_law_told d__law_told X B.ValueError O OK d__law_walk_asked (rz_walk_asked d__law_walk_asked Dd) d__law_number_asked (rz_number_asked d__law_number_asked Dd) d__law_open_asked (rz_open_asked d__law_open_asked Dd) d_turns RTu d_within RWi)
    d_turns GTu d_within GWi d_around (ok_around d_around B.sum d_check_closed GZ d_check_square (ok_check_square d_check_square X B.tuple B.len d_is_pair d_is_number) d_upright_steps GU)
end
theorem df_mk {K : PySem.W.Frag} {mg : Str → Option Value} {h : Heap} {x : Str} {st : Stmt} {ps : List Str} {f : Addr} {oc : Value} {od an : Option Addr} {osl : Array (Option Value)} {kV doc pm cdv ct : Value} (X : K.In h) (G : h.Ns mainGlobals mg)
    (hb : ∀ (kV doc pm : Value) (an : Option Addr) (cdv ct : Value) (us : List Value), us.length = ps.length → bindArgs (PySem.W.fnOf x x (defArgs st) (defBody st) (defScope st) .none kV doc pm an cdv ct) ⟨us, []⟩ = pure (ps.zip us))
    (a : PySem.W.nsIn K mainGlobals x = some (some (.ref f))) (l : K.lookup f = some ⟨oc, od, .func (PySem.W.fnOf x x (defArgs st) (defBody st) (defScope st) .none kV doc pm an cdv ct), osl⟩) (c : PySem.W.codeIn K cdv x = true) (k : PySem.W.keepIn K (.ref f) = true) :
    ∃ f fd, Df K mg x st ps f fd := ⟨f, _, fun_mk l c k, (fun_mk l c k).binds hb, PySem.W.mg_of X G a⟩
theorem lw_mk {K : PySem.W.Frag} {mg : Str → Option Value} {h : Heap} {t : Tok} (X : K.In h) (G : h.Ns mainGlobals mg) (a : PySem.W.nsIn K mainGlobals "LEFTWARD" = some (some (.str "nwse" t))) : ∃ t, mg "LEFTWARD" = some (.str "nwse" t) := ⟨t, PySem.W.mg_of X G a⟩
theorem mirror_mk {w : World} {K : PySem.W.Frag} {mg : Str → Option Value} {h : Heap} {am n : Nat} {t1 t2 t3 t4 u1 u2 u3 u4 : Tok} (X : K.In h) (G : h.Ns mainGlobals mg) (a : PySem.W.nsIn K mainGlobals "MIRROR" = some (some (.ref am)))
    (l : K.lookup am = some ⟨.type "dict", none, .dict (mirEs w t1 t2 t3 t4 u1 u2 u3 u4) n, #[]⟩) : TxtM K mg w := ⟨⟨am, n, t1, t2, t3, t4, u1, u2, u3, u4, PySem.W.mg_of X G a, l⟩⟩
theorem law_mk {l : PySem.W.OpenLaw} {w : World} {K : PySem.W.Frag} {h : Heap} {mg : Str → Option Value} {fa : Addr} (X : K.In h) (G : h.Ns mainGlobals mg) (hfa : mg "law" = some (.ref fa)) (T : Txt K mg) (Y : TxtM K mg w) (Gw : Own K mg) (B : Bltn mg) (D : Fns K mg)
    {f4 : Addr} {od4 an4 : Option Addr} {sl4 : Array (Option Value)} {oc4 kV4 dc4 pm4 cd4 ct4 : Value}
    (a4 : PySem.W.nsIn K mainGlobals "law" = some (some (.ref f4))) (l4 : K.lookup f4 = some ⟨oc4, od4, .func (PySem.W.fnOf "law" "law" (defArgs sLaw) (defBody sLaw) (defScope sLaw) .none kV4 dc4 pm4 an4 cd4 ct4), sl4⟩) (c4 : PySem.W.codeIn K cd4 "law" = true) (k4 : PySem.W.keepIn K (.ref f4) = true) :
    ∃ fd : FuncData, (∀ (s : Shared) (v : Value), BindsTo s fd ⟨[v], []⟩ [("_law_script", v)]) ∧ ∀ base : Heap, K.In base → base.Ns mainGlobals mg → FnOk l.prog w K mg base CX0 10 fa fd ["_law_script"] (spLaw K) := by
  have e := hfa.symm.trans (PySem.W.mg_of X G a4)
  cases e
  have F4 := fun_mk (st := sLaw) l4 c4 k4
  have b4 := F4.binds (ps := ["_law_script"]) fun _ _ _ _ _ _ => L2.len1 (by intro _; exact rfl)
  exact ⟨PySem.W.fnOf "law" "law" (defArgs sLaw) (defBody sLaw) (defScope sLaw) .none kV4 dc4 pm4 an4 cd4 ct4, fun s v => .of_eq rfl, fun base _ _ => law_all ⟨F4, b4, PySem.W.mg_of X G a4⟩ T Y Gw B D⟩
theorem walk {l : PySem.W.OpenLaw} {q : Program} {loose : List Str} {XP : (Str → Option Value) → Heap → Prop} {YP : World → Heap → Prop} {d : DefRec} {K : Params → PySem.W.Frag} (hn : l.most = some 63) (hdf : d.params.defaults = [])
    (hY : ∀ (w : World) (h : Heap), YP w h → (K w.params).In h)
    (F : ∀ (w : World) (mg : Str → Option Value) (fa : Addr) (h : Heap), (K w.params).In h → h.Ns mainGlobals mg → mg d.name = some (.ref fa) →
      ∃ fd : FuncData, (∀ (s : Shared) (u : Value), BindsTo s fd ⟨[u], []⟩ [("_law_script", u)]) ∧ ∀ base : Heap, (K w.params).In base → base.Ns mainGlobals mg → FnOk l.prog w (K w.params) mg base CX0 10 fa fd ["_law_script"] (spLaw (K w.params))) :
    PySem.W.WalkO q loose XP YP l.row.toRowW d [] (fun f vs => PySem.call f vs) :=
  L2.walk_of (n := 63) (k := 10) (x := "_law_script") (CX := fun _ => CX0) (sp := fun w => spLaw (K w.params)) hn (by decide) hdf ⟨rfl, by decide, by decide⟩ hY F (fun _ _ a ns hl _ hS => ⟨a, ns, rfl, hS, hl, fun _ => rfl⟩) fun _ _ _ _ _ z => z
end SW
def PySem.W.Fast.tw11374102278722882058 : Unit := ()
def PySem.W.Fast.tw6064832299132567832 : Unit := ()
def PySem.W.Fast.tw16805583613404867988 : Unit := ()
def PySem.W.Fast.tw4361529260201842928 : Unit := ()
open PySem PySem.W PyProof.Rows
set_option maxRecDepth 100000 in
set_option maxHeartbeats 0 in
theorem PySem.Challenge.cw_squarewalk_k08_refused_holds : PySem.Challenge.rw_squarewalk_k08_refused.Holds := by
  w_on; o_law; k_head; (case hw => w_witness2)
  k_fill
  refine SW.walk (l := PySem.Challenge.rw_squarewalk_k08_refused) rfl rfl (fun w h Y => PySem.W.kIn_of Y) ?F
  case F =>
    intro w mg fa h KX G hmg
    refine' SW.law_mk KX G hmg ?T ?Y ?Gw ?B ?D ?a4 ?l4 ?c4 ?k4
    (case a4 => k_is); (case l4 => k_is); (case c4 => k_is); (case k4 => k_is)
    case T =>
      refine ⟨PySem.W.mg_none_of KX G ?_, PySem.W.mg_none_of KX G ?_, PySem.W.mg_none_of KX G ?_, PySem.W.mg_none_of KX G ?_, ?_⟩
      · k_is
      · k_is
      · k_is
      · k_is
      · refine' SW.lw_mk KX G ?a
        (case a => k_is)
    case Y =>
      refine' SW.mirror_mk KX G ?a ?l
      (case a => k_is); (case l => k_is)
    case Gw =>
      refine' ⟨?s, ?e⟩
      case s =>
        refine' SW.both_mk (SW.clt_mk KX G ?aC ?pg ?hd ?po ?sa ?mk ?kc ?a1 ?i1 ?a2 ?i2 ?k2 ?ha ?hn ?htk ?hm) ?n ?l1 ?c1 ?k1 (SW.clt_mk KX G ?taC ?tpg ?thd ?tpo ?tsa ?tmk ?tkc ?ta1 ?ti1 ?ta2 ?ti2 ?tk2 ?tha ?thn ?thtk ?thm) ?n1 ?n2 ?l2 ?c2 ?kk2 ?kts
        (case aC => k_is); (case pg => k_is); (case hd => k_is); (case po => k_is); (case sa => k_is); (case mk => k_is); (case kc => k_is); (case a1 => k_is); (case i1 => k_is); (case a2 => k_is); (case i2 => k_is); (case k2 => k_is); (case ha => k_is); (case hn => k_is); (case htk => k_is); (case hm => k_is)
        (case n => k_is); (case l1 => k_is); (case c1 => k_is); (case k1 => k_is)
        (case taC => k_is); (case tpg => k_is); (case thd => k_is); (case tpo => k_is); (case tsa => k_is); (case tmk => k_is); (case tkc => k_is); (case ta1 => k_is); (case ti1 => k_is); (case ta2 => k_is); (case ti2 => k_is); (case tk2 => k_is); (case tha => k_is); (case thn => k_is); (case thtk => k_is); (case thm => k_is)
        (case n1 => k_is); (case n2 => k_is); (case l2 => k_is); (case c2 => k_is); (case kk2 => k_is); (case kts => kit_is)
      case e =>
        refine' SW.errs_mk KX G ?a1 ?a2 ?a3 ?a4 ?a5 ?e1 ?e2 ?e3 ?e4 ?k
        (case a1 => k_is); (case a2 => k_is); (case a3 => k_is); (case a4 => k_is); (case a5 => k_is); (case e1 => k_exc); (case e2 => k_exc); (case e3 => k_exc); (case e4 => k_exc)
        case k =>
          refine ⟨⟨?_, ?_, ?_, ?_, ?_, ?_, ?_, ?_⟩, ⟨?_, ?_, ?_, ?_, ?_, ?_, ?_, ?_⟩, ⟨?_, ?_, ?_, ?_, ?_, ?_, ?_, ?_⟩, ⟨?_, ?_, ?_, ?_, ?_, ?_, ?_, ?_⟩, ?_, ?_, ?_, ?_, ?_, ?_, ?_, ?_, ?_, ?_, ?_, ?_, ?_, ?_, ?_, ?_, ?_, ?_, ?_, ?_⟩
          all_goals first | k_is | kts_exm | kit_is
    case B =>
      refine ⟨PySem.W.mg_none_of KX G ?_, PySem.W.mg_none_of KX G ?_, PySem.W.mg_none_of KX G ?_, PySem.W.mg_none_of KX G ?_, PySem.W.mg_none_of KX G ?_, PySem.W.mg_none_of KX G ?_, PySem.W.mg_none_of KX G ?_, PySem.W.mg_none_of KX G ?_, PySem.W.mg_none_of KX G ?_, PySem.W.mg_none_of KX G ?_, PySem.W.mg_none_of KX G ?_⟩
      all_goals k_is
    case D =>
      refine ⟨?_, ?_, ?_, ?_, ?_, ?_, ?_, ?_, ?_, ?_, ?_, ?_, ?_, ?_, ?_, ?_, ?_, ?_, ?_, ?_, ?_, ?_, ?_, ?_, ?_, ?_, ?_, ?_, ?_, ?_, ?_, ?_⟩
      all_goals
        refine' SW.df_mk KX G ?hb ?a ?l ?c ?k
        (case a => k_is); (case l => k_is); (case c => k_is); (case k => k_is)
        case hb => first | exact (fun _ _ _ _ _ _ => L2.len1 (by intro _; exact rfl)) | exact (fun _ _ _ _ _ _ => L2.len2 (by intro _ _; exact rfl)) | exact (fun _ _ _ _ _ _ => L2.len3 (by intro _ _ _; exact rfl))
